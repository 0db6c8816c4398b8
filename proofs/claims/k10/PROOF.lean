import PyProof.Rows.All
import Wide.All
import OpenK.AllK
import Wide.FinOn
import Lean
import PyProof.EqAt
import PyProof.EqKinds
import PyProof.TupleCall
import PyProof.NeKinds
import PySem.Challenge.RW_wordyard_k10_reading_words
set_option Elab.async false
set_option linter.all false
set_option maxRecDepth 100000
set_option maxHeartbeats 4000000
namespace L2
open PySem PySem.Spec PyProof.Rows
abbrev Key := Sum Int Str
def keyIs : Key → Value → Bool
  | .inl k, v => Value.isInt k v
  | .inr x, v => Value.isStrOf x v
def keyH (w : World) : Key → Int
  | .inl k => hashInt k
  | .inr x => hashStr w x
theorem keyIs_shape : ∀ {k : Key} {v : Value}, keyIs k v = true → (∃ i t, k = Sum.inl i ∧ v = Value.int i t) ∨ (∃ x t, k = Sum.inr x ∧ v = Value.str x t)
  | .inl i, v, h => by
    obtain ⟨t, e⟩ := Value.isInt_shape (k := i) (v := v) h
    exact .inl ⟨i, t, rfl, e⟩
  | .inr x, v, h => by
    obtain ⟨t, e⟩ := Value.isStrOf_shape (x := x) (v := v) h
    exact .inr ⟨x, t, rfl, e⟩
theorem keyIs_int (i : Int) (t : Tok) : keyIs (.inl i) (.int i t) = true := by simp [keyIs, Value.isInt]
theorem keyIs_str (x : Str) (t : Tok) : keyIs (.inr x) (.str x t) = true := by simp [keyIs, Value.isStrOf]
theorem key_ll (a b : Int) : decide ((Sum.inl a : Key) = Sum.inl b) = (a == b) := by
  by_cases e : a = b
  · subst e; simp
  · have h : ¬ (Sum.inl a : Key) = Sum.inl b := fun q => e (Sum.inl.inj q)
    rw [decide_eq_false h]
    exact (beq_eq_false_iff_ne.mpr e).symm
theorem key_rr (a b : Str) : decide ((Sum.inr a : Key) = Sum.inr b) = decide (a = b) := by
  by_cases e : a = b
  · subst e; simp
  · have h : ¬ (Sum.inr a : Key) = Sum.inr b := fun q => e (Sum.inr.inj q)
    rw [decide_eq_false h, decide_eq_false e]
theorem key_lr (a : Int) (b : Str) : decide ((Sum.inl a : Key) = Sum.inr b) = false := decide_eq_false (fun q => nomatch q)
theorem key_rl (a : Str) (b : Int) : decide ((Sum.inr a : Key) = Sum.inl b) = false := decide_eq_false (fun q => nomatch q)
def mixKind (prog : Program) (w : World) : PySem.KeyKind prog w Key where
  is := keyIs
  hash := keyH w
  inj := fun v a b ha hb => by
    rcases keyIs_shape ha with ⟨i, t, rfl, rfl⟩ | ⟨x, t, rfl, rfl⟩
    · rcases keyIs_shape hb with ⟨j, u, rfl, e⟩ | ⟨y, u, rfl, e⟩
      · injection e with e1 _; rw [e1]
      · exact nomatch e
    · rcases keyIs_shape hb with ⟨j, u, rfl, e⟩ | ⟨y, u, rfl, e⟩
      · exact nomatch e
      · injection e with e1 _; rw [e1]
  byValue := fun k v h => by
    rcases keyIs_shape h with ⟨i, t, rfl, rfl⟩ | ⟨x, t, rfl, rfl⟩ <;> rfl
  pyHash := fun hv h => by
    rcases keyIs_shape hv with ⟨i, t, rfl, rfl⟩ | ⟨x, t, rfl, rfl⟩
    · exact wpAny_pyHash_int h
    · exact wpAny_pyHash_str h
  eqBool := fun hu hv h => by
    rcases keyIs_shape hu with ⟨i, t, rfl, rfl⟩ | ⟨x, t, rfl, rfl⟩
    · rcases keyIs_shape hv with ⟨j, u, rfl, rfl⟩ | ⟨y, u, rfl, rfl⟩
      · rw [key_ll] at h; exact wpAny_eqBool_int h
      · rw [key_lr] at h; exact SeqAt.EqAt.int_str i t y u _ _ _ _ h
    · rcases keyIs_shape hv with ⟨j, u, rfl, rfl⟩ | ⟨y, u, rfl, rfl⟩
      · rw [key_rl] at h; exact SeqAt.EqAt.str_int x t j u _ _ _ _ h
      · rw [key_rr] at h; exact wpAny_eqBool_str h
  «strs» := fun k x t v h => by
    rcases keyIs_shape h with ⟨i, u, rfl, e⟩ | ⟨y, u, rfl, e⟩
    · exact nomatch e
    · injection e with e1 _
      subst e1
      cases v <;> rfl
theorem mixKind_int (prog : Program) (w : World) (i : Int) (t : Tok) : (mixKind prog w).is (.inl i) (.int i t) = true := keyIs_int i t
theorem mixKind_str (prog : Program) (w : World) (x : Str) (t : Tok) : (mixKind prog w).is (.inr x) (.str x t) = true := keyIs_str x t
end L2
namespace L2
open PySem PySem.Spec PyProof.Rows
inductive V where
  | non | bl (b : Bool) | int (i : Int) | str (x : Str) | byt (b : Array UInt8) | flt (b : UInt64) | ref (a : Addr) | ty (n : String)
  deriving DecidableEq
def RelV : V → Value → Prop
  | .non, u => u = Value.none
  | .bl b, u => u = Value.bool b
  | .int i, u => ∃ t, u = Value.int i t
  | .str x, u => ∃ t, u = Value.str x t
  | .byt b, u => ∃ t, u = Value.bytes b t
  | .flt b, u => ∃ t, u = Value.float b t
  | .ref a, u => u = Value.ref a
  | .ty n, u => u = Value.type n
abbrev Vals : List V → List Value → Prop := Paired RelV
theorem Vals.length {xs : List V} {us : List Value} (r : Vals xs us) : xs.length = us.length := Paired.length r
theorem Vals.get : ∀ {xs : List V} {us : List Value} {i : Nat} {x : V}, Vals xs us → xs[i]? = some x → ∃ u, us[i]? = some u ∧ RelV x u
  | _, _, _, _, .nil, e => by simp at e
  | _, _, 0, _, .cons r _, e => by simp at e; subst e; exact ⟨_, rfl, r⟩
  | _, _, i + 1, x, .cons _ t, e => by
    obtain ⟨u, h1, h2⟩ := Vals.get (i := i) (x := x) t (by simpa using e)
    exact ⟨u, by simpa using h1, h2⟩
theorem Vals.set {x : V} {u : Value} (r : RelV x u) : ∀ {xs : List V} {us : List Value} (i : Nat), Vals xs us → Vals (xs.set i x) (us.set i u)
  | _, _, _, .nil => .nil
  | _, _, 0, .cons _ t => .cons r t
  | _, _, i + 1, .cons q t => .cons q (Vals.set r i t)
theorem Vals.append : ∀ {xs ys : List V} {us ws : List Value}, Vals xs us → Vals ys ws → Vals (xs ++ ys) (us ++ ws)
  | _, _, _, _, .nil, s => s
  | _, _, _, _, .cons r t, s => .cons r (Vals.append t s)
theorem Vals.take : ∀ {xs : List V} {us : List Value} (n : Nat), Vals xs us → Vals (xs.take n) (us.take n)
  | _, _, 0, _ => .nil
  | _, _, _ + 1, .nil => .nil
  | _, _, n + 1, .cons r t => .cons r (Vals.take n t)
theorem Vals.drop : ∀ {xs : List V} {us : List Value} (n : Nat), Vals xs us → Vals (xs.drop n) (us.drop n)
  | _, _, 0, r => r
  | _, _, _ + 1, .nil => .nil
  | _, _, n + 1, .cons _ t => Vals.drop n t
def RelO : Option V → Option Value → Prop
  | some v, some u => RelV v u
  | none, none => True
  | _, _ => False
def KV {κ : Type} : List (κ × V) → List (κ × Value) → Prop := Paired fun (p : κ × V) (q : κ × Value) => p.1 = q.1 ∧ RelV p.2 q.2
def kV : Key → V
  | .inl i => .int i
  | .inr x => .str x
inductive HO where
  | lst (xs : List V)
  | tup (xs : List V)
  | dK (kvs : List (Key × V)) | dT (kvs : List (List Key × V))
  | set (S : Int → Bool) (n : Nat)
  | ins (C dx : Addr) (fs : List (Str × V))
  | own (x : Addr)
  | xd (fs : List (Str × V))
  | met (f x : Addr)
  | rng (lo hi : Int)
  | frz (o : Obj) (u : HO)
  | tbl (ps : Array Value)
  | ext (φ : Heap → Prop)
abbrev Hp := Addr → Option HO
def upd (H : Hp) (a : Addr) (o : HO) : Hp := fun b => if b = a then some o else H b
theorem upd_same {H : Hp} {a : Addr} {o : HO} : upd H a o a = some o := by unfold upd; rw [if_pos rfl]
theorem upd_ne {H : Hp} {a b : Addr} {o : HO} (h : b ≠ a) : upd H a o b = H b := by unfold upd; rw [if_neg h]
theorem ne_of {H : Hp} {a b : Addr} {o u : HO} (h : H a = some o) (h' : H b = some u) (d : o ≠ u) : a ≠ b := by
  intro e; subst e; rw [h] at h'; exact d (Option.some.inj h')
theorem ne_of_none {H : Hp} {a b : Addr} {o : HO} (h : H a = some o) (h' : H b = none) : a ≠ b := by
  intro e; subst e; rw [h] at h'; cases h'
section
variable (P : Program) (w : World)
def ObjOk (H : Hp) (h : Heap) (a : Addr) : HO → Prop
  | .lst xs => xs.length ≤ sizeLine ∧ ∃ (its : List Value) (n : Nat), Vals xs its ∧ h.get? a = some { cls := .type "list", data := .seq its.toArray n }
  | .tup xs => xs.length ≤ sizeLine ∧ ∃ its : List Value, Vals xs its ∧ IsTup h a its.toArray
  | .dK kvs => kvs.length ≤ sizeLine ∧ (a == sysModules) = false ∧ ∃ vs, KV kvs vs ∧ h.DictOf (mixKind P w) a vs
  | .dT kvs => kvs.length ≤ sizeLine ∧ (a == sysModules) = false ∧ ∃ xs : List (List Key × Addr × Value),
      Paired (fun (p : List Key × V) (q : List Key × Addr × Value) => p.1 = q.1 ∧ H q.2.1 = some (.tup (p.1.map kV)) ∧ RelV p.2 q.2.2) kvs xs ∧
      ∃ o es ep, h.get? a = some o ∧ o.ExactDict ∧ o.data = .dict es ep ∧ es.toList = xs.map (entryOfKey (tupleKind (mixKind P w))) ∧ (xs.map (·.1)).Nodup
  | .set S n => h.SetOf (intKind P w) a S n
  | .ins C dx fs => H dx = some (.own a) ∧ fs.length ≤ 1000 ∧ dx ≠ a ∧ h.get? a = some (PySem.W.instObj C dx) ∧
      ∃ mA, h.Ns1 dx mA ∧ (∀ f, RelO (fs.lookup f) (mA f)) ∧ PySem.Within mA (fs.map (·.1))
  | .own _ => ∃ o, h.get? a = some o
  | .xd fs => ∃ mA, h.Ns1 a mA ∧ ∀ f, RelO (fs.lookup f) (mA f)
  | .rng lo hi => ∃ t u v, h.get? a = some { cls := .type "range", data := .fields #[.int lo t, .int hi u, .int 1 v] }
  | .frz o u => h.get? a = some o ∧ ObjOk H h a u
  | .tbl ps => h.get? a = some { cls := .none, data := .fields ps }
  | .met f x => h.get? a = some (PySem.W.methodObj (.ref f) (.ref x))
  | .ext φ => φ h ∧ (∃ o, h.get? a = some o) ∧ ∀ h1 h2 : Heap, φ h1 → (∀ o, h1.get? a = some o → h2.get? a = some o) → φ h2
def HOk (H : Hp) (h : Heap) : Prop := ∀ a o, H a = some o → ObjOk P w H h a o
end
section
variable {P : Program} {w : World} {H H' : Hp} {h h' : Heap} {a : Addr} {o : HO}
theorem ObjOk.lt (x : ObjOk P w H h a o) : a < h.objs.size := by
  cases o with
  | lst xs => obtain ⟨_, _, _, _, e⟩ := x; exact Heap.lt_size e
  | tup xs => obtain ⟨_, _, _, p⟩ := x; exact p.lt
  | dK kvs => obtain ⟨_, _, _, _, o, _, _, e, _⟩ := x; exact Heap.lt_size e
  | dT kvs => obtain ⟨_, _, _, _, o, _, _, e, _⟩ := x; exact Heap.lt_size e
  | set S n => obtain ⟨o, _, _, _, e, _⟩ := x; exact Heap.lt_size e
  | ins C dx fs => obtain ⟨_, _, _, e, _⟩ := x; exact Heap.lt_size e
  | own y => obtain ⟨_, e⟩ := x; exact Heap.lt_size e
  | xd fs => obtain ⟨_, ⟨_, _, _, e, _⟩, _⟩ := x; exact Heap.lt_size e
  | rng lo hi => obtain ⟨_, _, _, e⟩ := x; exact Heap.lt_size e
  | frz ob u => obtain ⟨e, _⟩ := x; exact Heap.lt_size e
  | tbl ps => exact Heap.lt_size (show h.get? a = some _ from x)
  | met f y => exact Heap.lt_size (show h.get? a = some _ from x)
  | ext φ => obtain ⟨_, ⟨_, e⟩, _⟩ := x; exact Heap.lt_size e
theorem Paired.mapP {α β : Type} {F G : α → β → Prop} : ∀ {l₁ : List α} {l₂ : List β}, Paired F l₁ l₂ → (∀ a b, F a b → G a b) → Paired G l₁ l₂
  | _, _, .nil, _ => .nil
  | _, _, .cons r t, f => .cons (f _ _ r) (Paired.mapP t f)
theorem ObjOk.stay (x : ObjOk P w H h a o) (k : ∀ b u, (b = a ∨ H b = some (.own a)) → h.get? b = some u → h'.get? b = some u)
    (ho : ∀ b, H b = some (.own a) → H' b = some (.own a)) (ht : ∀ b xs, H b = some (.tup xs) → H' b = some (.tup xs)) : ObjOk P w H' h' a o := by
  induction o with
  | lst xs => obtain ⟨z, its, n, r, e⟩ := x; exact ⟨z, its, n, r, k _ _ (.inl rfl) e⟩
  | tup xs => obtain ⟨z, its, r, ob, e, c⟩ := x; exact ⟨z, its, r, ob, k _ _ (.inl rfl) e, c⟩
  | dK kvs => obtain ⟨z, y, vs, r, ob, es, ep, e, c⟩ := x; exact ⟨z, y, vs, r, ob, es, ep, k _ _ (.inl rfl) e, c⟩
  | dT kvs =>
    obtain ⟨z, y, xs, r, ob, es, ep, e, c⟩ := x
    exact ⟨z, y, xs, Paired.mapP r fun p q z => ⟨z.1, ht _ _ z.2.1, z.2.2⟩, ob, es, ep, k _ _ (.inl rfl) e, c⟩
  | set S n => obtain ⟨ob, es, ep, t, e, c⟩ := x; exact ⟨ob, es, ep, t, k _ _ (.inl rfl) e, c⟩
  | ins C dx fs =>
    obtain ⟨d, z, ne, e, mA, ⟨od, es, ep, e2, c⟩, r⟩ := x
    exact ⟨ho _ d, z, ne, k _ _ (.inl rfl) e, mA, ⟨od, es, ep, k _ _ (.inr d) e2, c⟩, r⟩
  | own y => obtain ⟨ob, e⟩ := x; exact ⟨ob, k _ _ (.inl rfl) e⟩
  | xd fs => obtain ⟨mA, ⟨od, es, ep, e, c⟩, r⟩ := x; exact ⟨mA, ⟨od, es, ep, k _ _ (.inl rfl) e, c⟩, r⟩
  | rng lo hi => obtain ⟨t, u, v, e⟩ := x; exact ⟨t, u, v, k _ _ (.inl rfl) e⟩
  | frz ob u ih => obtain ⟨e, q⟩ := x; exact ⟨k _ _ (.inl rfl) e, ih q⟩
  | tbl ps =>
    have e : h.get? a = some { cls := .none, data := .fields ps } := x
    show h'.get? a = some { cls := .none, data := .fields ps }
    exact k a _ (.inl rfl) e
  | met f y =>
    have e : h.get? a = some (PySem.W.methodObj (.ref f) (.ref y)) := x
    show h'.get? a = some (PySem.W.methodObj (.ref f) (.ref y))
    exact k a _ (.inl rfl) e
  | ext φ => obtain ⟨p, ⟨o, e⟩, st⟩ := x; exact ⟨st _ _ p fun o q => k _ _ (.inl rfl) q, ⟨o, k _ _ (.inl rfl) e⟩, st⟩
theorem HOk.lt (x : HOk P w H h) (e : H a = some o) : a < h.objs.size := (x a o e).lt
theorem HOk.fresh (x : HOk P w H h) (e : h.objs.size ≤ a) : H a = none := by
  cases q : H a with
  | none => rfl
  | some u => exact absurd (Nat.lt_of_lt_of_le (x.lt q) e) (Nat.lt_irrefl _)
theorem HOk.kept (x : HOk P w H h) (k : ∀ b u, h.get? b = some u → h'.get? b = some u) : HOk P w H h' := fun a o e =>
  (x a o e).stay (fun b u _ q => k b u q) (fun _ q => q) fun _ _ q => q
theorem HOk.laid (x : HOk P w H h) (k : ∀ b u, h.get? b = some u → h'.get? b = some u) (hp : h.objs.size ≤ a) (new : ObjOk P w (upd H a o) h' a o) : HOk P w (upd H a o) h' := fun b u e => by
  have hn := x.fresh hp
  by_cases hb : b = a
  · subst hb; rw [upd_same] at e; cases e; exact new
  · rw [upd_ne hb] at e
    exact (x b u e).stay (fun c v _ q => k c v q) (fun c q => by rw [upd_ne (ne_of_none q hn)]; exact q) fun c xs q => by rw [upd_ne (ne_of_none q hn)]; exact q
end
def Rd (H : Hp) (a : Addr) (u : HO) : Prop := H a = some u ∨ ∃ o, H a = some (.frz o u)
theorem Rd.ok {P : Program} {w : World} {H : Hp} {h : Heap} {a : Addr} {u : HO} (r : Rd H a u) (x : HOk P w H h) : ObjOk P w H h a u := by
  rcases r with r | ⟨o, r⟩
  · exact x a u r
  · obtain ⟨_, q⟩ := x a _ r
    exact q
def Mut : Option HO → Prop
  | some (.lst _) => True
  | some (.dK _) => True
  | some (.dT _) => True
  | some (.set _ _) => True
  | some (.ins _ _ _) => True
  | some (.ext _) => True
  | _ => False
section
variable {P : Program} {w : World} {H : Hp} {h h' : Heap} {x e : Addr} {o' : HO}
theorem HOk.write (ok : HOk P w H h) (mu : Mut (H x)) (he : e = x ∨ H e = some (.own x)) (k : ∀ b u, b ≠ e → h.get? b = some u → h'.get? b = some u) (heo : ∃ u, h'.get? e = some u)
    (new : ObjOk P w (upd H x o') h' x o') : HOk P w (upd H x o') h' := fun b u q => by
  have nown : ∀ c y, H c = some (.own y) → c ≠ x := fun c y r z => by subst z; rw [r] at mu; exact mu
  have ntup : ∀ c xs, H c = some (.tup xs) → c ≠ x := fun c xs r z => by subst z; rw [r] at mu; exact mu
  by_cases hb : b = x
  · subst hb; rw [upd_same] at q; cases q; exact new
  · rw [upd_ne hb] at q
    by_cases hbe : b = e
    · have q' : H b = some (.own x) := by
        rcases he with z | z
        · exact absurd (hbe.trans z) hb
        · rw [hbe]; exact z
      rw [q] at q'; cases q'
      obtain ⟨v, hv⟩ := heo
      exact ⟨v, by rw [hbe]; exact hv⟩
    · refine (ok b u q).stay (fun c v hc r => k c v ?_ r) (fun c r => by rw [upd_ne (nown c b r)]; exact r) fun c xs r => by rw [upd_ne (ntup c xs r)]; exact r
      rcases hc with rfl | hc
      · exact hbe
      · rintro rfl
        rcases he with z | z
        · exact nown c b hc z
        · rw [hc] at z; cases z; exact hb rfl
end
structure Un (fs ex : List Addr) (H H' : Hp) (h h' : Heap) : Prop where
  keep : ∀ b o, h.get? b = some o → H b = none → b ∉ fs → b ∉ ex → h'.get? b = some o
  slot : ∀ b o, h.get? b = some o → H b = none → b ∈ fs → b ∉ ex → ∃ sl, h'.get? b = some { o with slots := sl }
  free : ∀ b o, h.get? b = some o → H b = none → b ∉ ex → H' b = none
  there : ∀ b o, h.get? b = some o → b ∉ ex → ∃ o', h'.get? b = some o'
  tups : ∀ b xs, H b = some (.tup xs) → H' b = some (.tup xs)
  frzs : ∀ b o u, H b = some (.frz o u) → H' b = some (.frz o u)
  tbls : ∀ b ps, H b = some (.tbl ps) → ∃ more, H' b = some (.tbl (ps ++ more))
section
variable {fs fs' ex ex' : List Addr} {H H1 H2 : Hp} {h h1 h2 h' : Heap} {a x e : Addr} {o : HO}
theorem Un.any (u : Un fs ex H H1 h h1) {b : Addr} {ob : Obj} (q : h.get? b = some ob) (n : H b = none) (hx : b ∉ ex) : ∃ sl, h1.get? b = some { ob with slots := sl } := by
  by_cases hb : b ∈ fs
  · exact u.slot b ob q n hb hx
  · exact ⟨ob.slots, u.keep b ob q n hb hx⟩
theorem Un.kept (k : ∀ b u, h.get? b = some u → h'.get? b = some u) : Un fs ex H H h h' :=
  ⟨fun b ob q _ _ _ => k b ob q, fun b ob q _ _ _ => ⟨ob.slots, k b ob q⟩, fun _ _ _ n _ => n, fun b ob q _ => ⟨ob, k b ob q⟩, fun _ _ q => q, fun _ _ _ q => q, fun _ ps q => ⟨#[], by rw [q]; simp⟩⟩
theorem Un.refl : Un fs ex H H h h := Un.kept fun _ _ q => q
theorem Un.laid (k : ∀ b u, h.get? b = some u → h'.get? b = some u) (hp : h.objs.size ≤ a) (hn : H a = none) : Un fs ex H (upd H a o) h h' where
  keep := fun b u q _ _ _ => k b u q
  slot := fun b u q _ _ _ => ⟨u.slots, k b u q⟩
  free := fun b u q n _ => by rw [upd_ne (Nat.ne_of_lt (Nat.lt_of_lt_of_le (Heap.lt_size q) hp))]; exact n
  there := fun b u q _ => ⟨u, k b u q⟩
  tups := fun b xs q => by rw [upd_ne (ne_of_none q hn)]; exact q
  frzs := fun b u xs q => by rw [upd_ne (ne_of_none q hn)]; exact q
  tbls := fun b ps q => ⟨#[], by rw [upd_ne (ne_of_none q hn), q]; simp⟩
theorem Un.write (mu : Mut (H x)) (he : e = x ∨ H e = some (.own x)) (k : ∀ b u, b ≠ e → h.get? b = some u → h'.get? b = some u) (heo : ∃ u, h'.get? e = some u) : Un fs ex H (upd H x o) h h' := by
  have hx : ∀ b, H b = none → b ≠ x := fun b n z => by subst z; rw [n] at mu; exact mu
  have hb : ∀ b, H b = none → b ≠ e := fun b n z => by
    subst z
    rcases he with r | r
    · exact hx b n r
    · rw [n] at r; cases r
  have hm : ∀ b u, H b = some u → ¬ Mut (some u) → b ≠ x := fun b u q nm z => by subst z; rw [q] at mu; exact nm mu
  refine ⟨fun b u q n _ _ => k b u (hb b n) q, fun b u q n _ _ => ⟨u.slots, k b u (hb b n) q⟩, fun b u q n _ => by rw [upd_ne (hx b n)]; exact n, fun b u q _ => ?_,
    fun b xs q => by rw [upd_ne (hm b _ q fun z => z)]; exact q, fun b u xs q => by rw [upd_ne (hm b _ q fun z => z)]; exact q, fun b ps q => ⟨#[], by rw [upd_ne (hm b _ q fun z => z), q]; simp⟩⟩
  by_cases hbe : b = e
  · subst hbe; exact heo
  · exact ⟨u, k b u hbe q⟩
end
def trk (h : Heap) (H : Hp) : List Addr := (List.range h.objs.size).filter fun a => (H a).isSome
def hidT (h : Heap) (H : Hp) : Heap := PySem.W.hideAll h (trk h H)
theorem hidT_size (h : Heap) (H : Hp) : (hidT h H).objs.size = h.objs.size := PySem.W.hideAll_size _ _
theorem hidT_get {h : Heap} {H : Hp} {b : Addr} {o : Obj} (e : h.get? b = some o) (n : H b = none) : (hidT h H).get? b = some o :=
  PySem.W.hideAll_get _ e fun hm => by
    have q : (H b).isSome = true := (List.mem_filter.mp hm).2
    rw [n] at q; simp at q
theorem of_hidT {h : Heap} {H : Hp} {b : Addr} {o : Obj} (e : (hidT h H).get? b = some o) : h.get? b = some o ∧ H b = none := by
  have e' : h.get? b = some o := PySem.W.of_hideAll (trk h H) e
  refine ⟨e', ?_⟩
  cases q : H b with
  | none => rfl
  | some x =>
    have hm : b ∈ trk h H := List.mem_filter.mpr ⟨List.mem_range.mpr (Heap.lt_size e'), by simp [q]⟩
    have z : (hidT h H).get? b = none := PySem.W.hideAll_none (trk h H) hm
    rw [z] at e; cases e
end L2
namespace L2
open PySem PySem.Spec PyProof.Rows
structure Mod (K : PySem.W.Frag) (mg : Str → Option Value) (base : Heap) : Prop where
  kin : K.In base
  glob : base.Ns mainGlobals mg
  blt : ∃ mb, base.Ns builtinsNs mb ∧ ∀ x : Str, x ≠ "__name__" → mb x = bootBuiltins x
  nolimit : base.NoLimit
structure Cx where
  prog : Program
  w : World
  K : PySem.W.Frag
  mg : Str → Option Value
  base : Heap
  A : Around
  N : List Str
  s₀ : Shared
  H₀ : Hp
  env : Env
  outer : List Env
  stack : List Env
  ex : List Addr
  fn : Str → Bool
  calm : Bool
  pn : List (Addr × Obj)
  xe : Value → Shared → Prop
def frs (l : List Env) : List Addr := l.filterMap (·.frame)
abbrev Cx.fs (X : Cx) : List Addr := frs X.outer
def Vis (sc : Scope) (x : Str) : Prop := sc.names.lookup x = some .local ∨ sc.names.lookup x = some .cell ∨ sc.names.lookup x = some .free
def Loc (sc : Scope) (x : Str) : Prop := sc.names.lookup x = some .local ∨ sc.names.lookup x = some .cell
def Look (env : Env) (h : Heap) (m : Str → Option Value) (x : Str) (u : Value) : Prop :=
  (env.kindOf x = some .local ∧ m x = some u) ∨ ((env.kindOf x = some .cell ∨ env.kindOf x = some .free) ∧ ∃ c, env.cells.lookup x = some c ∧ h.IsCell c (some u))
structure Cx.Ok (X : Cx) : Prop where
  mod : Mod X.K X.mg X.base
  kind : X.env.scope.kind = .function
  glob : X.env.globals = mainGlobals
  blt : X.env.builtins = builtinsNs
  above : X.s₀.heap.objs.size ≤ X.env.locals
  inj : ∀ x y c, X.env.cells.lookup x = some c → X.env.cells.lookup y = some c → x = y
  has : ∀ x, (X.env.kindOf x = some .cell ∨ X.env.kindOf x = some .free) → ∃ c, X.env.cells.lookup x = some c
  cab : ∀ x c, X.fn x = true → X.env.cells.lookup x = some c → X.s₀.heap.objs.size ≤ c
  hd : X.calm = true → X.A.handled = none
  frames : X.A.frames = some X.stack
  stk : X.stack = X.outer ∨ (X.stack = X.env :: X.outer ∧ X.env.frame = some X.env.locals)
  exf : ∀ b ∈ X.ex, b ≠ X.env.locals ∧ ∀ x c, X.env.cells.lookup x = some c → c ≠ b
  bs : ∀ b o, X.base.get? b = some o → X.s₀.heap.get? b = some o ∧ X.H₀ b = none
  bsz : X.base.objs.size ≤ X.s₀.heap.objs.size
  noex : ∀ b o, X.base.get? b = some o → b ∉ X.ex
  exfs : ∀ b ∈ X.ex, b ∉ X.fs
  funs : X.s₀.heap.FunFrames X.base X.outer
  frf : ∀ b ∈ X.fs, X.H₀ b = none
structure Inv (X : Cx) (pins : List (Addr × Obj)) (σ : List (Option V)) (H : Hp) (s : Shared) : Prop where
  ok : X.Ok
  os : s.os = X.s₀.os
  bare : AllBare s.gens
  base : Un X.fs X.ex X.H₀ H X.s₀.heap s.heap
  loc : ∃ m, s.heap.Ns X.env.locals m ∧ ∀ (i : Nat) (x : Str) (v : V), X.N[i]? = some x → σ[i]? = some (some v) → Vis X.env.scope x → ∃ u, RelV v u ∧ Look X.env s.heap m x u
  cell : ∀ x c, X.env.cells.lookup x = some c → ∃ v, s.heap.IsCell c v
  free : H X.env.locals = none
  freeC : ∀ x c, X.env.cells.lookup x = some c → H c = none
  pin : ∀ p ∈ X.pn ++ pins, s.heap.get? p.1 = some p.2 ∧ H p.1 = none ∧ p.1 ≠ X.env.locals ∧ p.1 ∉ X.fs ∧ ∀ v, p.2.data ≠ .cell v
  hok : HOk X.prog X.w H s.heap
  len : σ.length = X.N.length
section
variable {X : Cx} {pins : List (Addr × Obj)} {σ : List (Option V)} {H H' : Hp} {s : Shared} {h' : Heap}
theorem Cx.Ok.nofr (ok : X.Ok) {b : Addr} {o : Obj} (e : X.base.get? b = some o) : b ∉ X.fs := fun hb => by
  have := (ok.funs.mem hb).1
  rw [e] at this; cases this
theorem Inv.bs (I : Inv X pins σ H s) : ∀ b o, X.base.get? b = some o → s.heap.get? b = some o ∧ H b = none := fun b o e =>
  ⟨I.base.keep b o (I.ok.bs b o e).1 (I.ok.bs b o e).2 (I.ok.nofr e) (I.ok.noex b o e), I.base.free b o (I.ok.bs b o e).1 (I.ok.bs b o e).2 (I.ok.noex b o e)⟩
theorem Inv.bk (I : Inv X pins σ H s) : ∀ b o, X.base.get? b = some o → s.heap.get? b = some o := fun b o e => (I.bs b o e).1
theorem Inv.mod (I : Inv X pins σ H s) : Mod X.K X.mg X.base := I.ok.mod
theorem Inv.kIn (I : Inv X pins σ H s) : X.K.In s.heap := I.ok.mod.kin.keeps I.bk
theorem Inv.lt (I : Inv X pins σ H s) : X.env.locals < s.heap.objs.size := let ⟨_, hn, _⟩ := I.loc; hn.lt
theorem Inv.sz (I : Inv X pins σ H s) : X.s₀.heap.objs.size ≤ s.heap.objs.size := Nat.le_trans I.ok.above (Nat.le_of_lt I.lt)
theorem Inv.nofs (I : Inv X pins σ H s) {a : Addr} (h : s.heap.objs.size ≤ a) : a ∉ X.fs := fun hb => by
  obtain ⟨_, o, ho, _⟩ := I.ok.funs.mem hb
  exact absurd (Nat.lt_of_lt_of_le (Heap.lt_size ho) (Nat.le_trans I.sz h)) (Nat.lt_irrefl _)
theorem Inv.cne (I : Inv X pins σ H s) : ∀ x c, X.env.cells.lookup x = some c → c ≠ X.env.locals := fun x c e z => by
  obtain ⟨v, o, ho, hd⟩ := I.cell x c e
  obtain ⟨m, ⟨o', es, ep, ho', hd', _⟩, _⟩ := I.loc
  rw [z, ho'] at ho; cases ho; rw [hd'] at hd; cases hd
theorem Inv.funs (I : Inv X pins σ H s) : s.heap.FunFrames X.base X.outer := by
  have all : ∀ (l : List Env), (∀ b ∈ frs l, b ∈ X.fs) → X.s₀.heap.FunFrames X.base l → s.heap.FunFrames X.base l := by
    intro l
    induction l with
    | nil => intro _ _; trivial
    | cons env r ih =>
      intro hs hl
      obtain ⟨hk, ⟨L, o, hf, hn, ho, hd⟩, hr⟩ := hl
      have hL : L ∈ X.fs := hs L (by unfold frs; rw [List.filterMap_cons, hf]; exact List.mem_cons_self)
      obtain ⟨sl, e⟩ := I.base.slot L o ho (I.ok.frf L hL) hL fun z => I.ok.exfs L z hL
      exact ⟨hk, ⟨L, _, hf, hn, e, hd⟩, ih (fun b hb => hs b (by unfold frs; rw [List.filterMap_cons, hf]; exact List.mem_cons_of_mem _ hb)) hr⟩
  exact all X.outer (fun _ hb => hb) I.ok.funs
theorem Inv.stack (I : Inv X pins σ H s) : s.heap.FunFrames X.base X.stack := by
  rcases I.ok.stk with e | ⟨e, hf⟩
  · rw [e]; exact I.funs
  · rw [e]
    obtain ⟨m, hn, _⟩ := I.loc
    refine .cons (by rw [I.ok.kind]; decide) hf hn ?_ I.funs
    exact Heap.get?_none_of_le (Nat.le_trans I.ok.bsz I.ok.above)
theorem Inv.stkSub (I : Inv X pins σ H s) : ∀ b ∈ frs X.stack, b ∈ X.env.locals :: X.fs := fun b hb => by
  rcases I.ok.stk with e | ⟨e, hf⟩
  · rw [e] at hb; exact List.mem_cons_of_mem _ hb
  · rw [e] at hb
    unfold frs at hb
    rw [List.filterMap_cons, hf] at hb
    exact hb
theorem Inv.stkFree (I : Inv X pins σ H s) : ∀ b ∈ frs X.stack, H b = none := fun b hb => by
  rcases List.mem_cons.mp (I.stkSub b hb) with e | hb
  · rw [e]; exact I.free
  · obtain ⟨_, o, ho, _⟩ := I.ok.funs.mem hb
    exact I.base.free b o ho (I.ok.frf b hb) fun z => I.ok.exfs b z hb
theorem Inv.step {g' : Array GenState} {t' : Nat} {d' : Drawn} {ch : List Addr} (I : Inv X pins σ H s)
    (hch : ∀ b ∈ ch, (b ∈ X.ex ∨ X.s₀.heap.objs.size ≤ b) ∧ b ≠ X.env.locals ∧ (∀ x c, X.env.cells.lookup x = some c → c ≠ b) ∧ ∀ p ∈ X.pn ++ pins, p.1 ≠ b)
    (keep : ∀ b o, b ≠ X.env.locals → b ∉ X.fs → b ∉ ch → s.heap.get? b = some o → H b = none → h'.get? b = some o)
    (slot : ∀ b o, b ≠ X.env.locals → b ∈ X.fs → b ∉ ch → s.heap.get? b = some o → H b = none → ∃ sl, h'.get? b = some { o with slots := sl }) (free : ∀ b o, b ∉ ch → s.heap.get? b = some o → H b = none → H' b = none)
    (there : ∀ b o, b ∉ ch → s.heap.get? b = some o → ∃ o', h'.get? b = some o')
    (tups : ∀ b xs, H b = some (.tup xs) → H' b = some (.tup xs)) (frzs : ∀ b o u, H b = some (.frz o u) → H' b = some (.frz o u)) (tbls : ∀ b ps, H b = some (.tbl ps) → ∃ more, H' b = some (.tbl (ps ++ more)))
    (ns : ∀ m, s.heap.Ns X.env.locals m → h'.Ns X.env.locals m) (hok : HOk X.prog X.w H' h') (hg : AllBare g') :
    Inv X pins σ H' { s with heap := h', gens := g', drawn := d', toks := t' } := by
  have neL : ∀ b o, X.s₀.heap.get? b = some o → b ≠ X.env.locals := fun b o e => Nat.ne_of_lt (Nat.lt_of_lt_of_le (Heap.lt_size e) I.ok.above)
  have neC : ∀ b o, X.s₀.heap.get? b = some o → b ∉ X.ex → b ∉ ch := fun b o e hx hb => by
    rcases (hch b hb).1 with z | z
    · exact hx z
    · exact absurd (Nat.lt_of_lt_of_le (Heap.lt_size e) z) (Nat.lt_irrefl _)
  have cellK : ∀ x c, X.env.cells.lookup x = some c → ∀ v, s.heap.IsCell c v → h'.IsCell c v := fun x c e v ⟨o, ho, hd⟩ => by
    have nch : c ∉ ch := fun z => (hch c z).2.2.1 x c e rfl
    by_cases hc : c ∈ X.fs
    · obtain ⟨sl, q⟩ := slot c o (I.cne x c e) hc nch ho (I.freeC x c e)
      exact ⟨_, q, hd⟩
    · exact ⟨o, keep c o (I.cne x c e) hc nch ho (I.freeC x c e), hd⟩
  refine ⟨I.ok, I.os, hg, ⟨fun b o e n hb hx => ?_, fun b o e n hb hx => ?_, fun b o e n hx => ?_, fun b o e hx => ?_, fun b xs e => tups b xs (I.base.tups b xs e), fun b o xs e => frzs b o xs (I.base.frzs b o xs e), fun b ps e => ?_⟩, ?_, fun x c e => ?_, ?_, fun x c e => ?_, fun p hp => ?_, hok, I.len⟩
  · exact keep b o (neL b o e) hb (neC b o e hx) (I.base.keep b o e n hb hx) (I.base.free b o e n hx)
  · obtain ⟨sl, e1⟩ := I.base.slot b o e n hb hx
    obtain ⟨sl', e2⟩ := slot b _ (neL b o e) hb (neC b o e hx) e1 (I.base.free b o e n hx)
    exact ⟨sl', e2⟩
  · obtain ⟨o', e1⟩ := I.base.there b o e hx
    exact free b o' (neC b o e hx) e1 (I.base.free b o e n hx)
  · obtain ⟨o', e1⟩ := I.base.there b o e hx
    exact there b o' (neC b o e hx) e1
  · obtain ⟨m1, e1⟩ := I.base.tbls b ps e
    obtain ⟨m2, e2⟩ := tbls b _ e1
    exact ⟨m1 ++ m2, by rw [e2, Array.append_assoc]⟩
  · obtain ⟨m, hn, hl⟩ := I.loc
    refine ⟨m, ns m hn, fun i x v e1 e2 e3 => ?_⟩
    obtain ⟨u, r, l⟩ := hl i x v e1 e2 e3
    refine ⟨u, r, ?_⟩
    rcases l with l | ⟨k, c, e, z⟩
    · exact .inl l
    · exact .inr ⟨k, c, e, cellK x c e _ z⟩
  · obtain ⟨v, z⟩ := I.cell x c e
    exact ⟨v, cellK x c e v z⟩
  · obtain ⟨m, ⟨o, _, _, ho, _⟩, _⟩ := I.loc
    exact free _ o (fun z => (hch _ z).2.1 rfl) ho I.free
  · obtain ⟨v, o, ho, hd⟩ := I.cell x c e
    exact free c o (fun z => (hch c z).2.2.1 x c e rfl) ho (I.freeC x c e)
  · obtain ⟨e, n, ne, nf, d⟩ := I.pin p hp
    have nch : p.1 ∉ ch := fun z => (hch p.1 z).2.2.2 p hp rfl
    exact ⟨keep p.1 p.2 ne nf nch e n, free p.1 p.2 nch e n, ne, nf, d⟩
theorem Inv.un {t' : Nat} (I : Inv X pins σ H s) (u : Un X.fs [] H H' s.heap h') (hok : HOk X.prog X.w H' h') : Inv X pins σ H' { s with heap := h', toks := t' } := by
  obtain ⟨m, ⟨o, es, ep, ho, r⟩, _⟩ := id I.loc
  obtain ⟨sl, hL⟩ := u.any ho I.free (by simp)
  exact I.step (g' := s.gens) (d' := s.drawn) (ch := []) (fun _ z => nomatch z) (fun b o _ hb _ e n => u.keep b o e n hb (by simp)) (fun b o _ hb _ e n => u.slot b o e n hb (by simp)) (fun b o _ e n => u.free b o e n (by simp)) (fun b o _ e => u.there b o e (by simp)) u.tups u.frzs u.tbls (fun m' hm => by
    obtain ⟨o', es', ep', ho', r'⟩ := hm
    rw [ho] at ho'; cases ho'
    exact ⟨_, es', ep', hL, r'⟩) hok I.bare
theorem Inv.call {g' : Array GenState} {t' : Nat} {d' : Drawn} {ch : List Addr} (I : Inv X pins σ H s) (u : Un (frs X.stack) ch H H' s.heap h') (hok : HOk X.prog X.w H' h') (hg : AllBare g')
    (hch : ∀ b ∈ ch, (b ∈ X.ex ∨ X.s₀.heap.objs.size ≤ b) ∧ b ≠ X.env.locals ∧ (∀ x c, X.env.cells.lookup x = some c → c ≠ b) ∧ ∀ p ∈ X.pn ++ pins, p.1 ≠ b) :
    Inv X pins σ H' { s with heap := h', gens := g', drawn := d', toks := t' } := by
  obtain ⟨m, ⟨o, es, ep, ho, r⟩, _⟩ := id I.loc
  obtain ⟨sl, hL⟩ := u.any ho I.free fun z => (hch _ z).2.1 rfl
  exact I.step (ch := ch) hch (fun b o hL hb hc e n => u.keep b o e n (fun z => (List.mem_cons.mp (I.stkSub b z)).elim hL hb) hc) (fun b o _ _ hc e n => u.any e n hc) (fun b o hc e n => u.free b o e n hc) (fun b o hc e => u.there b o e hc) u.tups u.frzs u.tbls (fun m' hm => by
    obtain ⟨o', es', ep', ho', r'⟩ := hm
    rw [ho] at ho'; cases ho'
    exact ⟨_, es', ep', hL, r'⟩) hok hg
theorem Inv.turned {t' : Nat} {it : Addr} (I : Inv X pins σ H s) (k : ∀ b o, b ≠ it → s.heap.get? b = some o → h'.get? b = some o) (hn : H it = none) (hL : it ≠ X.env.locals)
    (h1 : it ∈ X.ex ∨ X.s₀.heap.objs.size ≤ it) (h2 : ∀ x c, X.env.cells.lookup x = some c → c ≠ it) (h3 : ∀ p ∈ X.pn ++ pins, p.1 ≠ it) : Inv X pins σ H { s with heap := h', toks := t' } := by
  have nit : ∀ b u, H b = some u → b ≠ it := fun b u e z => by rw [z, hn] at e; cases e
  refine I.step (g' := s.gens) (d' := s.drawn) (ch := [it]) (fun b hb => ?_) (fun b o _ _ hc e _ => k b o (fun z => hc (by simp [z])) e) (fun b o _ _ hc e _ => ⟨o.slots, k b o (fun z => hc (by simp [z])) e⟩) (fun _ _ _ _ n => n)
    (fun b o hc e => ⟨o, k b o (fun z => hc (by simp [z])) e⟩) (fun _ _ e => e) (fun _ _ _ e => e) (fun b ps e => ⟨#[], by rw [e]; simp⟩) (fun m hm => ?_) (fun b u e => ?_) I.bare
  · have e : b = it := by simpa using hb
    subst e
    exact ⟨h1, hL, h2, h3⟩
  · obtain ⟨o, es, ep, ho, r⟩ := hm
    exact ⟨o, es, ep, k _ o (Ne.symm hL) ho, r⟩
  · refine (I.hok b u e).stay (fun c v hc q => k c v ?_ q) (fun _ q => q) fun _ _ q => q
    rcases hc with z | z
    · rw [z]; exact nit b u e
    · exact nit c _ z
theorem Inv.tok (I : Inv X pins σ H s) (t : Nat) : Inv X pins σ H { s with toks := t } := I.un (h' := s.heap) (t' := t) Un.refl I.hok
theorem Inv.kept {t' : Nat} (I : Inv X pins σ H s) (k : ∀ b u, s.heap.get? b = some u → h'.get? b = some u) : Inv X pins σ H { s with heap := h', toks := t' } := I.un (Un.kept k) (I.hok.kept k)
theorem Inv.laid {a : Addr} {o : HO} {t' : Nat} (I : Inv X pins σ H s) (k : ∀ b u, s.heap.get? b = some u → h'.get? b = some u) (hp : s.heap.objs.size ≤ a) (new : ObjOk X.prog X.w (upd H a o) h' a o) :
    Inv X pins σ (upd H a o) { s with heap := h', toks := t' } := I.un (Un.laid k hp (I.hok.fresh hp)) (I.hok.laid k hp new)
theorem Inv.write {x e : Addr} {o : HO} {t' : Nat} (I : Inv X pins σ H s) (mu : Mut (H x)) (he : e = x ∨ H e = some (.own x)) (k : ∀ b u, b ≠ e → s.heap.get? b = some u → h'.get? b = some u) (heo : ∃ u, h'.get? e = some u)
    (new : ObjOk X.prog X.w (upd H x o) h' x o) : Inv X pins σ (upd H x o) { s with heap := h', toks := t' } := I.un (Un.write mu he k heo) (I.hok.write mu he k heo new)
theorem Inv.pins_of {pins' : List (Addr × Obj)} (I : Inv X pins σ H s) (h : ∀ p ∈ pins', s.heap.get? p.1 = some p.2 ∧ H p.1 = none ∧ p.1 ≠ X.env.locals ∧ p.1 ∉ X.fs ∧ ∀ v, p.2.data ≠ .cell v) : Inv X pins' σ H s :=
  ⟨I.ok, I.os, I.bare, I.base, I.loc, I.cell, I.free, I.freeC, fun p hp => (List.mem_append.mp hp).elim (fun z => I.pin p (List.mem_append_left _ z)) (h p), I.hok, I.len⟩
theorem nodup_ix {N : List Str} (hN : N.Nodup) {i j : Nat} {x : Str} (a : N[i]? = some x) (b : N[j]? = some x) : i = j := by
  obtain ⟨h1, e1⟩ := List.getElem?_eq_some_iff.mp a
  obtain ⟨h2, e2⟩ := List.getElem?_eq_some_iff.mp b
  exact (List.getElem_inj hN).mp (e1.trans e2.symm)
theorem store_ok2 {M : Model} {A : Around} {E : Value → Shared → Prop} {i : Nat} {x : Str} {v : V} {u : Value} {Q : Unit → Shared → Prop} (I : Inv X pins σ H s) (hN : X.N.Nodup) (hi : X.N[i]? = some x) (hx : Loc X.env.scope x) (r : RelV v u)
    (h : ∀ s', Inv X pins (σ.set i (some v)) H s' → (∃ a, Heap.SameBut a s.heap s'.heap ∧ (a = X.env.locals ∨ X.env.cells.lookup x = some a)) → Q () s') (hf : X.fn x = true ∨ X.env.scope.names.lookup x = some .local := by first | exact .inl rfl | exact .inr rfl | assumption) : wpAny M A (storeName X.env x u) Q E s := by
  obtain ⟨m, hn, hl⟩ := id I.loc
  have hcls : (X.env.scope.kind == .class || (X.env.scope.kind == .module && X.env.locals != X.env.globals)) = false := by rw [I.ok.kind]; rfl
  have hiσ : i < σ.length := by rw [I.len]; exact (List.getElem?_eq_some_iff.mp hi).1
  have cne := I.cne
  have tracked : ∀ {a : Addr} {h' : Heap}, (∃ o, s.heap.get? a = some o ∧ H a = none) → Heap.SameBut a s.heap h' → HOk X.prog X.w H h' := fun {a h'} ha hs b ob e => by
    obtain ⟨_, _, hfree⟩ := ha
    refine (I.hok b ob e).stay (fun c w' hc q => (hs.2 c ?_).trans q) (fun _ q => q) fun _ _ q => q
    rintro rfl
    rcases hc with rfl | hc
    · rw [hfree] at e; cases e
    · rw [hfree] at hc; cases hc
  rcases hx with hk | hk
  · refine wpAny_storeName_local hk hn (fun h' hn' hs => ?_) hcls
    obtain ⟨oL, _, _, hoL, _⟩ := id hn
    refine h _ ⟨I.ok, I.os, I.bare, ⟨fun b o e n hb hx => ?_, fun b o e n hb hx => ?_, I.base.free, fun b o e hx => ?_, I.base.tups, I.base.frzs, I.base.tbls⟩, ⟨_, hn', fun j y v' e1 e2 e3 => ?_⟩, fun y c e => ?_, I.free, I.freeC, fun p hp => ?_, tracked ⟨oL, hoL, I.free⟩ hs, by simpa using I.len⟩ ⟨_, hs, .inl rfl⟩
    · exact (hs.2 b (Nat.ne_of_lt (Nat.lt_of_lt_of_le (Heap.lt_size e) I.ok.above))).trans (I.base.keep b o e n hb hx)
    · obtain ⟨sl, e1⟩ := I.base.slot b o e n hb hx
      exact ⟨sl, (hs.2 b (Nat.ne_of_lt (Nat.lt_of_lt_of_le (Heap.lt_size e) I.ok.above))).trans e1⟩
    · obtain ⟨o', e1⟩ := I.base.there b o e hx
      exact ⟨o', (hs.2 b (Nat.ne_of_lt (Nat.lt_of_lt_of_le (Heap.lt_size e) I.ok.above))).trans e1⟩
    · by_cases hj : j = i
      · subst hj
        rw [hi] at e1; cases e1
        rw [List.getElem?_set_self hiσ] at e2
        cases e2
        exact ⟨u, r, .inl ⟨hk, by simp⟩⟩
      · rw [List.getElem?_set_ne (Ne.symm hj)] at e2
        obtain ⟨u', r', q⟩ := hl j y v' e1 e2 e3
        refine ⟨u', r', ?_⟩
        rcases q with ⟨k, e⟩ | ⟨k, c, e, z⟩
        · refine .inl ⟨k, ?_⟩
          have : y ≠ x := fun e => hj (nodup_ix hN e1 (e ▸ hi))
          simp [this, e]
        · exact .inr ⟨k, c, e, z.sameBut hs (cne y c e)⟩
    · obtain ⟨w', z⟩ := I.cell y c e
      exact ⟨w', z.sameBut hs (cne y c e)⟩
    · obtain ⟨e, n, ne, nf, d⟩ := I.pin p hp
      exact ⟨(hs.2 p.1 ne).trans e, n, ne, nf, d⟩
  · have hfn : X.fn x = true := by
      rcases hf with z | z
      · exact z
      · rw [z] at hk; cases hk
    obtain ⟨c, hc⟩ := I.ok.has x (.inl hk)
    obtain ⟨w', z⟩ := I.cell x c hc
    refine wpAny_storeName_cell I.ok.kind hk hc z (fun h' hc' hs => ?_)
    obtain ⟨oc, hoc, hocd⟩ := id z
    refine h { s with heap := h' } ⟨I.ok, I.os, I.bare, ⟨fun b o e n hb hx => ?_, fun b o e n hb hx => ?_, I.base.free, fun b o e hx => ?_, I.base.tups, I.base.frzs, I.base.tbls⟩, ⟨m, hn.sameBut hs (Ne.symm (cne x c hc)), fun j y v' e1 e2 e3 => ?_⟩, fun y c' e => ?_, I.free, I.freeC, fun p hp => ?_, tracked ⟨oc, hoc, I.freeC x c hc⟩ hs, by simpa using I.len⟩ ⟨c, hs, .inr hc⟩
    · exact (hs.2 b (Nat.ne_of_lt (Nat.lt_of_lt_of_le (Heap.lt_size e) (I.ok.cab x c hfn hc)))).trans (I.base.keep b o e n hb hx)
    · obtain ⟨sl, e1⟩ := I.base.slot b o e n hb hx
      exact ⟨sl, (hs.2 b (Nat.ne_of_lt (Nat.lt_of_lt_of_le (Heap.lt_size e) (I.ok.cab x c hfn hc)))).trans e1⟩
    · obtain ⟨o', e1⟩ := I.base.there b o e hx
      exact ⟨o', (hs.2 b (Nat.ne_of_lt (Nat.lt_of_lt_of_le (Heap.lt_size e) (I.ok.cab x c hfn hc)))).trans e1⟩
    · by_cases hj : j = i
      · subst hj
        rw [hi] at e1; cases e1
        rw [List.getElem?_set_self hiσ] at e2
        cases e2
        exact ⟨u, r, .inr ⟨.inl hk, c, hc, hc'⟩⟩
      · rw [List.getElem?_set_ne (Ne.symm hj)] at e2
        obtain ⟨u', r', q⟩ := hl j y v' e1 e2 e3
        refine ⟨u', r', ?_⟩
        rcases q with q | ⟨k, c', e, z'⟩
        · exact .inl q
        · refine .inr ⟨k, c', e, z'.sameBut hs ?_⟩
          rintro rfl
          exact hj (nodup_ix hN e1 (I.ok.inj _ _ _ e hc ▸ hi))
    · by_cases hcc : c' = c
      · subst hcc; exact ⟨_, hc'⟩
      · obtain ⟨w2, z2⟩ := I.cell y c' e
        exact ⟨w2, z2.sameBut hs hcc⟩
    · obtain ⟨e, n, ne, nf, d⟩ := I.pin p hp
      refine ⟨(hs.2 p.1 ?_).trans e, n, ne, nf, d⟩
      intro q
      rw [q, hoc] at e
      have q' : oc = p.2 := Option.some.inj e
      exact d w' (by rw [← q']; exact hocd)
theorem store_ok {M : Model} {A : Around} {E : Value → Shared → Prop} {i : Nat} {x : Str} {v : V} {u : Value} {Q : Unit → Shared → Prop} (I : Inv X pins σ H s) (hN : X.N.Nodup) (hi : X.N[i]? = some x) (hx : Loc X.env.scope x) (r : RelV v u)
    (h : ∀ s', Inv X pins (σ.set i (some v)) H s' → Q () s') (hf : X.fn x = true ∨ X.env.scope.names.lookup x = some .local := by first | exact .inl rfl | exact .inr rfl | assumption) : wpAny M A (storeName X.env x u) Q E s :=
  store_ok2 I hN hi hx r (fun s' I' _ => h s' I') hf
theorem Inv.call' {s' : Shared} {ch : List Addr} (I : Inv X pins σ H s) (ho : s'.os = s.os) (u : Un (frs X.stack) ch H H' s.heap s'.heap) (hok : HOk X.prog X.w H' s'.heap) (hg : AllBare s'.gens)
    (hch : ∀ b ∈ ch, (b ∈ X.ex ∨ X.s₀.heap.objs.size ≤ b) ∧ b ≠ X.env.locals ∧ (∀ x c, X.env.cells.lookup x = some c → c ≠ b) ∧ ∀ p ∈ X.pn ++ pins, p.1 ≠ b) : Inv X pins σ H' s' := by
  obtain ⟨h', g', d', t', o'⟩ := s'
  have e : o' = s.os := ho
  subst e
  exact I.call (g' := g') (t' := t') (d' := d') u hok hg hch
end
abbrev XK := Value → Option Addr → Hp → Prop
abbrev St := List (Option V)
abbrev VK := V → Hp → Prop
abbrev TE := St → Hp → VK → Prop
abbrev TT := St → Hp → (Bool → Hp → Prop) → Prop
abbrev TA := St → Hp → (List V → Hp → Prop) → Prop
structure Ends where
  nx : St → Hp → Prop
  rt : VK
  bk : St → Hp → Prop := fun _ _ => False
  ct : St → Hp → Prop := fun _ _ => False
abbrev TS := Ends → St → Hp → Prop
def EP (X : Cx) (pins : List (Addr × Obj)) (σ : St) (Q : VK) (u : Value) (s' : Shared) : Prop := ∃ v H', Inv X pins σ H' s' ∧ RelV v u ∧ Q v H'
def TP (X : Cx) (pins : List (Addr × Obj)) (σ : St) (Q : Bool → Hp → Prop) (b : Bool) (s' : Shared) : Prop := ∃ H', Inv X pins σ H' s' ∧ Q b H'
def AP (X : Cx) (pins : List (Addr × Obj)) (σ : St) (Q : List V → Hp → Prop) (us : List Value) (s' : Shared) : Prop := ∃ vs H', Inv X pins σ H' s' ∧ Vals vs us ∧ Q vs H'
def SP (X : Cx) (pins : List (Addr × Obj)) (D : Ends) (f : Flow) (s' : Shared) : Prop :=
  match f with
  | .next => ∃ σ' H', Inv X pins σ' H' s' ∧ D.nx σ' H'
  | .brk => ∃ σ' H', Inv X pins σ' H' s' ∧ D.bk σ' H'
  | .cont => ∃ σ' H', Inv X pins σ' H' s' ∧ D.ct σ' H'
  | .ret u => ∃ v σ' H', Inv X pins σ' H' s' ∧ RelV v u ∧ D.rt v H'
def PE (X : Cx) (e : Expr) (t : TE) : Prop :=
  ∀ (pins : List (Addr × Obj)) (s : Shared) (σ : St) (H : Hp) (Q : VK), Inv X pins σ H s → t σ H Q → wpAny (model X.prog X.w) X.A (eval e X.env) (EP X pins σ Q) X.xe s
def PT (X : Cx) (e : Expr) (t : TT) : Prop :=
  ∀ (pins : List (Addr × Obj)) (s : Shared) (σ : St) (H : Hp) (Q : Bool → Hp → Prop), Inv X pins σ H s → t σ H Q → wpAny (model X.prog X.w) X.A (isTrue e X.env (eval e X.env)) (TP X pins σ Q) X.xe s
def PW (X : Cx) (e : Expr) (t : TT) : Prop :=
  ∀ (whole : Sem Value) (pins : List (Addr × Obj)) (s : Shared) (σ : St) (H : Hp) (Q : Bool → Hp → Prop), Inv X pins σ H s → t σ H Q → wpAny (model X.prog X.w) X.A (isTrue e X.env whole) (TP X pins σ Q) X.xe s
theorem PW.pt {X : Cx} {e : Expr} {t : TT} (h : PW X e t) : PT X e t := h _
def PA (X : Cx) (es : List Expr) (t : TA) : Prop :=
  ∀ (pos : Pos) (pins : List (Addr × Obj)) (s : Shared) (σ : St) (H : Hp) (Q : List V → Hp → Prop), Inv X pins σ H s → t σ H Q → wpAny (model X.prog X.w) X.A (spliced (backTo pos (starEach es X.env))) (AP X pins σ Q) X.xe s
def PS (X : Cx) (st : Stmt) (t : TS) : Prop :=
  ∀ (pins : List (Addr × Obj)) (s : Shared) (σ : St) (H : Hp) (D : Ends), Inv X pins σ H s → t D σ H → wpAny (model X.prog X.w) X.A (exec st X.env) (SP X pins D) X.xe s
def PSs (X : Cx) (st : List Stmt) (t : TS) : Prop :=
  ∀ (pins : List (Addr × Obj)) (s : Shared) (σ : St) (H : Hp) (D : Ends), Inv X pins σ H s → t D σ H → wpAny (model X.prog X.w) X.A (execs st X.env) (SP X pins D) X.xe s
theorem thn {α : Type} {t : Sem α} {Q Q' : α → Shared → Prop} {M : Model} {A : Around} {E : Value → Shared → Prop} {s : Shared} (h : wpAny M A t Q E s) (hQ : ∀ a s, Q a s → Q' a s) : wpAny M A t Q' E s := wpAny_mono h hQ fun _ _ x => x
end L2
namespace L2
open PySem PySem.Spec PyProof.Rows
section
variable {X : Cx}
theorem bin {a b : Expr} {ta tb : TE} (ha : PE X a ta) (hb : PE X b tb) {pins : List (Addr × Obj)} {s : Shared} {σ : St} {H : Hp} {R : V → V → Hp → Prop} (I : Inv X pins σ H s) (h : ta σ H fun x H1 => tb σ H1 fun y H2 => R x y H2)
    {α : Type} {Q : α → Shared → Prop} {f : Value → Value → Sem α}
    (hf : ∀ v u s2 x y H2, Inv X pins σ H2 s2 → RelV x v → RelV y u → R x y H2 → wpAny (model X.prog X.w) X.A (f v u) Q X.xe s2) :
    wpAny (model X.prog X.w) X.A (eval a X.env) (fun v s₁ => wpAny (model X.prog X.w) X.A (eval b X.env) (fun u s₂ => wpAny (model X.prog X.w) X.A (f v u) Q X.xe s₂) X.xe s₁) X.xe s := by
  refine thn (ha pins s σ H _ I h) fun v s1 ⟨x, H1, I1, r1, q1⟩ => ?_
  refine thn (hb pins s1 σ H1 _ I1 q1) fun u s2 ⟨y, H2, I2, r2, q2⟩ => ?_
  exact hf v u s2 x y H2 I2 r1 r2 q2
def tVar (i : Nat) : TE := fun σ H Q => ∃ v, σ[i]? = some (some v) ∧ Q v H
def tC (v : V) : TE := fun _ H Q => Q v H
theorem pe_var {i : Nat} {x : Str} {pos : Pos} (hN : X.N[i]? = some x) (hv : Vis X.env.scope x) (hd : (x == ("__debug__" : Str)) = false := by decide) (hcd : (x == ("__classdict__" : Str)) = false := by decide) : PE X (.Name x pos) (tVar i) := by
  intro pins s σ H Q I h
  obtain ⟨v, e, h⟩ := h
  obtain ⟨m, hn, hl⟩ := I.loc
  obtain ⟨u, r, l⟩ := hl i x v hN e hv
  have fin : EP X pins σ Q u s := ⟨v, H, I, r, h⟩
  rcases l with ⟨hk, hm⟩ | ⟨hk, c, hc, hcell⟩
  · exact wpAny_Name (wpAny_loadName_local I.ok.kind hk hn hm fin) hd
  · rcases hk with hk | hk
    · exact wpAny_Name (wpAny_loadName_cell I.ok.kind hk hc hcell fin) hd
    · exact wpAny_Name (wpAny_loadName_free I.ok.kind hk hc hcell fin hcd) hd
theorem pe_int {i j pos} : PE X (.Constant (.int i) j pos) (tC (.int i)) := fun _ _ _ H _ I h => wpAny_Constant_int ⟨.int i, H, I.tok _, ⟨_, rfl⟩, h⟩
theorem pe_bl {b j pos} : PE X (.Constant (.bool b) j pos) (tC (.bl b)) := fun _ _ _ H _ I h => Constant_bool ⟨.bl b, H, I, rfl, h⟩
theorem pe_non {j pos} : PE X (.Constant .none j pos) (tC .non) := fun _ _ _ H _ I h => Constant_none ⟨.non, H, I, rfl, h⟩
theorem pe_str {x j pos} : PE X (.Constant (.str x) j pos) (tC (.str x)) := fun _ _ _ H _ I h => Calls.Constant_str ⟨.str x, H, I.tok _, ⟨_, rfl⟩, h⟩
def Gl (X : Cx) (x : Str) : Prop := X.env.kindOf x = some .globalImplicit
theorem ld_glob {E : Value → Shared → Prop} {pins : List (Addr × Obj)} {s : Shared} {σ : St} {H : Hp} {x : Str} {u : Value} {pos : Pos} {Q : Value → Shared → Prop} (I : Inv X pins σ H s) (hg : Gl X x) (hm : X.mg x = some u) (h : Q u s)
    (hd : (x == ("__debug__" : Str)) = false := by decide) : wpAny (model X.prog X.w) X.A (eval (.Name x pos) X.env) Q E s :=
  Calls.Name_function_global I.ok.kind hg (Calls.loadGlobal_global (by rw [I.ok.glob]; exact I.mod.glob.keeps I.bk) hm h) hd
theorem ld_blt {E : Value → Shared → Prop} {pins : List (Addr × Obj)} {s : Shared} {σ : St} {H : Hp} {x : Str} {u : Value} {pos : Pos} {Q : Value → Shared → Prop} (I : Inv X pins σ H s) (hg : Gl X x) (hm : X.mg x = none) (hv : bootBuiltins x = some u) (h : Q u s)
    (hn : x ≠ "__name__" := by decide) (hd : (x == ("__debug__" : Str)) = false := by decide) : wpAny (model X.prog X.w) X.A (eval (.Name x pos) X.env) Q E s := by
  obtain ⟨mb, h1, h2⟩ := I.mod.blt
  exact Calls.Name_function_global I.ok.kind hg (Calls.loadGlobal_builtin (by rw [I.ok.glob]; exact I.mod.glob.keeps I.bk) hm (by rw [I.ok.blt]; exact h1.keeps I.bk) ((h2 x hn).trans hv) h) hd
theorem pe_glob {x : Str} {v : V} {u : Value} {pos : Pos} (hg : Gl X x) (hm : X.mg x = some u) (r : RelV v u) (hd : (x == ("__debug__" : Str)) = false := by decide) : PE X (.Name x pos) (tC v) :=
  fun _ _ _ H _ I h => ld_glob I hg hm ⟨v, H, I, r, h⟩ hd
theorem pe_bltn {x : Str} {v : V} {u : Value} {pos : Pos} (hg : Gl X x) (hm : X.mg x = none) (hv : bootBuiltins x = some u) (r : RelV v u) (hn : x ≠ "__name__" := by decide) (hd : (x == ("__debug__" : Str)) = false := by decide) : PE X (.Name x pos) (tC v) :=
  fun _ _ _ H _ I h => ld_blt I hg hm hv ⟨v, H, I, r, h⟩ hn hd
variable {a b : Expr} {ta tb : TE} {pos : Pos}
variable {tA tB' : TT} {rest : List Expr}
def tAnd (t u : TT) : TT := fun σ H Q => t σ H fun c H1 => if c = true then u σ H1 Q else Q false H1
def tOr (t u : TT) : TT := fun σ H Q => t σ H fun c H1 => if c = true then Q true H1 else u σ H1 Q
def tNot (t : TT) : TT := fun σ H Q => t σ H fun c H1 => Q (!c) H1
theorem pw_and1 (ha : PT X a tA) : PW X (.BoolOp .And [a] pos) tA := by
  intro wh pins s σ H Q I h
  refine isTrue_and (thn (ha pins s σ H Q I h) fun c s1 e => ?_)
  cases c with
  | true => exact isTrue_and_nil e
  | false => exact e
theorem pw_or1 (ha : PT X a tA) : PW X (.BoolOp .Or [a] pos) tA := by
  intro wh pins s σ H Q I h
  refine isTrue_or (thn (ha pins s σ H Q I h) fun c s1 e => ?_)
  cases c with
  | false => exact isTrue_or_nil e
  | true => exact e
theorem pw_and (ha : PT X a tA) (hb : PW X (.BoolOp .And (b :: rest) pos) tB') : PW X (.BoolOp .And (a :: b :: rest) pos) (tAnd tA tB') := by
  intro wh pins s σ H Q I h
  refine isTrue_and (thn (ha pins s σ H _ I h) fun c s1 ⟨H1, I1, q1⟩ => ?_)
  cases c with
  | true => exact hb wh pins s1 σ H1 Q I1 q1
  | false => exact ⟨H1, I1, q1⟩
theorem pw_or (ha : PT X a tA) (hb : PW X (.BoolOp .Or (b :: rest) pos) tB') : PW X (.BoolOp .Or (a :: b :: rest) pos) (tOr tA tB') := by
  intro wh pins s σ H Q I h
  refine isTrue_or (thn (ha pins s σ H _ I h) fun c s1 ⟨H1, I1, q1⟩ => ?_)
  cases c with
  | true => exact ⟨H1, I1, q1⟩
  | false => exact hb wh pins s1 σ H1 Q I1 q1
theorem pt_not (ha : PT X a tA) : PT X (.UnaryOp .Not a pos) (tNot tA) := by
  intro pins s σ H Q I h
  exact isTrue_not (ha pins s σ H (fun c H1 => Q (!c) H1) I h)
def tAndV (ta tb : TE) : TE := fun σ H Q => ta σ H fun x H1 => ∃ c, x = .bl c ∧ if c = true then tb σ H1 Q else Q (.bl false) H1
def tOrV (ta tb : TE) : TE := fun σ H Q => ta σ H fun x H1 => ∃ c, x = .bl c ∧ if c = true then Q (.bl true) H1 else tb σ H1 Q
theorem pe_one {op} {t : TE} (h : PE X a t) : PE X (.BoolOp op [a] pos) t := fun pins s σ H Q I hw => BoolOp_one (h pins s σ H Q I hw)
theorem pe_and (ha : PE X a ta) (hb : PE X (.BoolOp .And (b :: rest) pos) tb) : PE X (.BoolOp .And (a :: b :: rest) pos) (tAndV ta tb) := by
  intro pins s σ H Q I h
  refine BoolOp_and (thn (ha pins s σ H _ I h) fun v s1 ⟨x, H1, I1, r1, q1⟩ => ?_)
  obtain ⟨c, rfl, q1⟩ := q1
  cases r1
  refine wpAny_truthy_bool ?_
  cases c with
  | true => exact hb pins s1 σ H1 Q I1 q1
  | false => exact ⟨.bl false, H1, I1, rfl, q1⟩
theorem pe_or (ha : PE X a ta) (hb : PE X (.BoolOp .Or (b :: rest) pos) tb) : PE X (.BoolOp .Or (a :: b :: rest) pos) (tOrV ta tb) := by
  intro pins s σ H Q I h
  refine BoolOp_or (thn (ha pins s σ H _ I h) fun v s1 ⟨x, H1, I1, r1, q1⟩ => ?_)
  obtain ⟨c, rfl, q1⟩ := q1
  cases r1
  refine wpAny_truthy_bool ?_
  cases c with
  | false => exact hb pins s1 σ H1 Q I1 q1
  | true => exact ⟨.bl true, H1, I1, rfl, q1⟩
def tIf (t : TT) (ta tb : TE) : TE := fun σ H Q => t σ H fun c H1 => if c = true then ta σ H1 Q else tb σ H1 Q
theorem pe_ifExp {c : Expr} (hc : PT X c tA) (ha : PE X a ta) (hb : PE X b tb) : PE X (.IfExp c a b pos) (tIf tA ta tb) := by
  intro pins s σ H Q I h
  refine wpAny_IfExp (thn (hc pins s σ H _ I h) fun d s1 ⟨H1, I1, q1⟩ => ?_)
  cases d with
  | true => exact ha pins s1 σ H1 Q I1 q1
  | false => exact hb pins s1 σ H1 Q I1 q1
end
end L2
namespace L2
open PySem PySem.Spec PyProof.Rows
def SqL (K : PySem.W.Frag) (H : Hp) (a : Addr) (xs : List V) : Prop :=
  Rd H a (.lst xs) ∨
    ∃ (o : Obj) (its : Array Value) (n : Nat), K.lookup a = some o ∧ o.cls = .type "list" ∧ o.dict = none ∧ o.data = .seq its n ∧ its.size ≤ sizeLine ∧ Vals xs its.toList
def SqT (K : PySem.W.Frag) (H : Hp) (a : Addr) (xs : List V) : Prop :=
  Rd H a (.tup xs) ∨
    ∃ (o : Obj) (its : Array Value) (n : Nat), K.lookup a = some o ∧ o.cls = .type "tuple" ∧ o.data = .seq its n ∧ its.size ≤ sizeLine ∧ Vals xs its.toList
def absV : Value → Option V
  | .none => some .non
  | .bool b => some (.bl b)
  | .int i _ => some (.int i)
  | .str x _ => some (.str x)
  | .bytes b _ => some (.byt b)
  | .float b _ => some (.flt b)
  | .ref a => some (.ref a)
  | .type n => some (.ty n)
  | _ => none
theorem RelV.abs {x : V} {u : Value} (r : RelV x u) : absV u = some x := by
  cases x with
  | non => cases r; rfl
  | bl _ => cases r; rfl
  | int _ => obtain ⟨t, rfl⟩ := r; rfl
  | str _ => obtain ⟨t, rfl⟩ := r; rfl
  | byt _ => obtain ⟨t, rfl⟩ := r; rfl
  | flt _ => obtain ⟨t, rfl⟩ := r; rfl
  | ref _ => cases r; rfl
  | ty _ => cases r; rfl
theorem RelV.inj {x y : V} {u : Value} (r : RelV x u) (q : RelV y u) : x = y := Option.some.inj (r.abs.symm.trans q.abs)
theorem Vals.inj : ∀ {xs ys : List V} {us : List Value}, Vals xs us → Vals ys us → xs = ys
  | _, _, _, .nil, .nil => rfl
  | _, _, _, .cons r t, .cons r' t' => by rw [r.inj r', Vals.inj t t']
section
variable {X : Cx} {pins : List (Addr × Obj)} {σ : St} {H : Hp} {s : Shared} {a : Addr} {xs ys : List V}
theorem SqT.of {K : PySem.W.Frag} (h : H a = some (.tup xs)) : SqT K H a xs := .inl (.inl h)
theorem Inv.list (I : Inv X pins σ H s) (h : SqL X.K H a xs) : ∃ its : List Value, Vals xs its ∧ PlainL s.heap a its.toArray ∧ xs.length ≤ sizeLine := by
  rcases h with h | ⟨o, its, n, hk, hc, hd, hs, hz, r⟩
  · obtain ⟨z, its, n, r, e⟩ := h.ok I.hok
    exact ⟨its, r, ⟨_, n, e, rfl, rfl, rfl⟩, z⟩
  · refine ⟨its.toList, r, ⟨o, n, I.kIn a o hk, hc, hd, by simpa using hs⟩, ?_⟩
    have e := r.length
    simp only [Array.length_toList] at e
    omega
theorem Inv.tuple (I : Inv X pins σ H s) (h : SqT X.K H a xs) : ∃ its : List Value, Vals xs its ∧ IsTup s.heap a its.toArray ∧ xs.length ≤ sizeLine := by
  rcases h with h | ⟨o, its, n, hk, hc, hs, hz, r⟩
  · obtain ⟨z, its, r, p⟩ := h.ok I.hok
    exact ⟨its, r, p, z⟩
  · refine ⟨its.toList, r, ⟨o, I.kIn a o hk, hc, n, by simpa using hs⟩, ?_⟩
    have e := r.length
    simp only [Array.length_toList] at e
    omega
theorem Inv.list_inj (I : Inv X pins σ H s) (h : SqL X.K H a xs) (h' : SqL X.K H a ys) : xs = ys := by
  obtain ⟨its, r, ⟨o, n, e, _, _, d⟩, _⟩ := I.list h
  obtain ⟨its', r', ⟨o', n', e', _, _, d'⟩, _⟩ := I.list h'
  rw [e] at e'; cases e'
  rw [d] at d'
  injection d' with d1 _
  have : its = its' := by simpa using congrArg Array.toList d1
  subst this
  exact r.inj r'
theorem Inv.tuple_inj (I : Inv X pins σ H s) (h : SqT X.K H a xs) (h' : SqT X.K H a ys) : xs = ys := by
  obtain ⟨its, r, ⟨o, e, _, n, d⟩, _⟩ := I.tuple h
  obtain ⟨its', r', ⟨o', e', _, n', d'⟩, _⟩ := I.tuple h'
  rw [e] at e'; cases e'
  rw [d] at d'
  injection d' with d1 _
  have : its = its' := by simpa using congrArg Array.toList d1
  subst this
  exact r.inj r'
end
abbrev Cx.wish (X : Cx) (E : Value → Shared → Prop) : Cx := { X with xe := E }
abbrev Cx.nox (X : Cx) : Cx := X.wish fun _ _ => False
theorem Cx.Ok.wish {X : Cx} (ok : X.Ok) (E : Value → Shared → Prop) : (X.wish E).Ok :=
  ⟨ok.mod, ok.kind, ok.glob, ok.blt, ok.above, ok.inj, ok.has, ok.cab, ok.hd, ok.frames, ok.stk, ok.exf, ok.bs, ok.bsz, ok.noex, ok.exfs, ok.funs, ok.frf⟩
theorem Cx.Ok.unwish {X : Cx} {E : Value → Shared → Prop} (ok : (X.wish E).Ok) : X.Ok :=
  ⟨ok.mod, ok.kind, ok.glob, ok.blt, ok.above, ok.inj, ok.has, ok.cab, ok.hd, ok.frames, ok.stk, ok.exf, ok.bs, ok.bsz, ok.noex, ok.exfs, ok.funs, ok.frf⟩
section
variable {X : Cx} {pins : List (Addr × Obj)} {σ : St} {H : Hp} {s : Shared} {E : Value → Shared → Prop}
theorem Inv.wish (I : Inv X pins σ H s) (E : Value → Shared → Prop) : Inv (X.wish E) pins σ H s := ⟨I.ok.wish E, I.os, I.bare, I.base, I.loc, I.cell, I.free, I.freeC, I.pin, I.hok, I.len⟩
theorem Inv.unwish (I : Inv (X.wish E) pins σ H s) : Inv X pins σ H s := ⟨I.ok.unwish, I.os, I.bare, I.base, I.loc, I.cell, I.free, I.freeC, I.pin, I.hok, I.len⟩
theorem SP.unwish {D : Ends} {f : Flow} {s' : Shared} (h : SP (X.wish E) pins D f s') : SP X pins D f s' := by
  cases f with
  | next => obtain ⟨σ', H', I, q⟩ := h; exact ⟨σ', H', I.unwish, q⟩
  | brk => obtain ⟨σ', H', I, q⟩ := h; exact ⟨σ', H', I.unwish, q⟩
  | cont => obtain ⟨σ', H', I, q⟩ := h; exact ⟨σ', H', I.unwish, q⟩
  | ret u => obtain ⟨v, σ', H', I, r, q⟩ := h; exact ⟨v, σ', H', I.unwish, r, q⟩
theorem PSs.nox {st : List Stmt} {t : TS} (h : PSs X.nox st t) : PSs X st t := fun pins s σ H D I hw =>
  wpAny_mono (h pins s σ H D (I.wish _) hw) (fun _ _ q => q.unwish) fun _ _ z => False.elim z
end
section
variable {X : Cx} {st : Stmt} {rest : List Stmt} {t u : TS} {e : Expr} {te : TE} {pos : Pos}
def tNext : TS := fun D σ H => D.nx σ H
def tSeq (t u : TS) : TS := fun D σ H => t { D with nx := u D } σ H
theorem pss_nil : PSs X [] tNext := fun _ _ σ H _ I h => wpAny_execs_nil ⟨σ, H, I, h⟩
theorem pss_cons (h1 : PS X st t) (h2 : PSs X rest u) : PSs X (st :: rest) (tSeq t u) := by
  intro pins s σ H D I h
  refine wpAny_execs_cons (thn (h1 pins s σ H { D with nx := u D } I h) fun f s1 q => ?_)
  cases f with
  | next =>
    obtain ⟨σ', H', I', q⟩ := q
    exact h2 pins s1 σ' H' D I' q
  | ret v => exact q
  | brk => exact q
  | cont => exact q
def tBreak : TS := fun D σ H => D.bk σ H
def tCont : TS := fun D σ H => D.ct σ H
theorem ps_pass : PS X (.Pass pos) tNext := fun _ _ σ H _ I h => wpAny_Pass ⟨σ, H, I, h⟩
theorem ps_break : PS X (.Break pos) tBreak := fun _ _ σ H _ I h => wpAny_Break ⟨σ, H, I, h⟩
theorem ps_continue : PS X (.Continue pos) tCont := fun _ _ σ H _ I h => wpAny_Continue ⟨σ, H, I, h⟩
theorem Inv.quiet {pins : List (Addr × Obj)} {σ : St} {H : Hp} {s : Shared} (I : Inv X pins σ H s) : interactive X.env = false := by simp [interactive, I.ok.kind]
theorem ps_doc {x j pos pos'} : PS X (.Expr (.Constant (.str x) j pos) pos') tNext := fun _ s σ H _ I h => wpAny_Expr (Calls.Constant_str (show SP X _ _ .next { s with toks := s.toks + 1 } from ⟨σ, H, I.tok _, h⟩)) I.quiet
def tDrop (te : TE) : TS := fun D σ H => te σ H fun _ H1 => D.nx σ H1
theorem ps_expr (he : PE X e te) (hs : swapsWith e none pos.line X.env = pure false := by rfl) : PS X (.Expr e pos) (tDrop te) := by
  intro pins s σ H D I h
  exact wpAny_Expr_any (thn (he pins s σ H _ I h) fun v s1 ⟨x, H1, I1, r1, q1⟩ => ⟨σ, H1, I1, q1⟩) I.quiet hs
def tRet (te : TE) : TS := fun D σ H => te σ H D.rt
theorem ps_ret (he : PE X e te) : PS X (.Return (some e) pos) (tRet te) := by
  intro pins s σ H D I h
  exact wpAny_Return_some (thn (he pins s σ H _ I h) fun v s1 ⟨x, H1, I1, r1, q1⟩ => ⟨x, σ, H1, I1, r1, q1⟩)
def tRetN : TS := fun D _ H => D.rt .non H
theorem ps_retN : PS X (.Return none pos) tRetN := fun _ _ σ H _ I h => wpAny_Return_none ⟨.non, σ, H, I, rfl, h⟩
def tIfS (c : TT) (t u : TS) : TS := fun D σ H => c σ H fun b H1 => if b = true then t D σ H1 else u D σ H1
theorem ps_if {c : Expr} {a b : List Stmt} {tc : TT} (hc : PT X c tc) (ha : PSs X a t) (hb : PSs X b u) : PS X (.If c a b pos) (tIfS tc t u) := by
  intro pins s σ H D I h
  refine wpAny_If (thn (hc pins s σ H _ I h) fun d s1 ⟨H1, I1, q1⟩ => ?_)
  cases d with
  | true => exact ha pins s1 σ H1 D I1 q1
  | false => exact hb pins s1 σ H1 D I1 q1
end
abbrev TG := V → St → Hp → (St → Hp → Prop) → Prop
abbrev TGs := List V → St → Hp → (St → Hp → Prop) → Prop
def PG (X : Cx) (target : Expr) (t : TG) : Prop :=
  ∀ (pins : List (Addr × Obj)) (s : Shared) (σ : St) (H : Hp) (v : V) (u : Value) (Q : St → Hp → Prop), Inv X pins σ H s → RelV v u → t v σ H Q →
    wpAny (model X.prog X.w) X.A (assign target X.env u) (fun _ s' => ∃ σ' H', Inv X pins σ' H' s' ∧ Q σ' H') X.xe s
def PGs (X : Cx) (ts : List Expr) (t : TGs) : Prop :=
  ∀ (pins : List (Addr × Obj)) (s : Shared) (σ : St) (H : Hp) (vs : List V) (us : List Value) (Q : St → Hp → Prop), Inv X pins σ H s → Vals vs us → t vs σ H Q →
    wpAny (model X.prog X.w) X.A (assignInOrder ((assignEach ts X.env).map (·.2)) us) (fun _ s' => ∃ σ' H', Inv X pins σ' H' s' ∧ Q σ' H') X.xe s
abbrev TSet := V → V → V → Hp → (Hp → Prop) → Prop
def PSet (X : Cx) (t : TSet) : Prop :=
  ∀ (pins : List (Addr × Obj)) (s : Shared) (σ : St) (H : Hp) (o i v : V) (ov iv u : Value) (Q : Hp → Prop), Inv X pins σ H s → RelV o ov → RelV i iv → RelV v u → t o i v H Q →
    wpAny (model X.prog X.w) X.A (setItem ov iv u) (fun _ s' => ∃ H', Inv X pins σ H' s' ∧ Q H') X.xe s
section
variable {X : Cx} {pos : Pos}
def gName (i : Nat) : TG := fun v σ H Q => Q (σ.set i (some v)) H
theorem pg_name {i : Nat} {x : Str} (hN : X.N.Nodup) (hi : X.N[i]? = some x) (hx : Loc X.env.scope x) (hf : X.fn x = true ∨ X.env.scope.names.lookup x = some .local := by first | exact .inl rfl | exact .inr rfl | assumption) : PG X (.Name x pos) (gName i) := by
  intro pins s σ H v u Q I r h
  exact wpAny_assign_Name (store_ok I hN hi hx r (fun s' I' => ⟨_, H, I', h⟩) hf)
def gNil : TGs := fun vs σ H Q => vs = [] ∧ Q σ H
def gCons (t : TG) (u : TGs) : TGs := fun vs σ H Q => ∃ v r, vs = v :: r ∧ t v σ H fun σ' H' => u r σ' H' Q
theorem pgs_nil : PGs X [] gNil := by
  intro pins s σ H vs us Q I r h
  obtain ⟨e, h⟩ := h
  subst e
  cases r
  exact assignInOrder_nil ⟨σ, H, I, h⟩
theorem pgs_cons {e : Expr} {es : List Expr} {t : TG} {u : TGs} (h1 : PG X e t) (h2 : PGs X es u)
    (hs : (assignEach (e :: es) X.env).map (·.2) = assign e X.env :: (assignEach es X.env).map (·.2) := by rfl) : PGs X (e :: es) (gCons t u) := by
  intro pins s σ H vs us Q I r h
  obtain ⟨v, vr, e1, h⟩ := h
  subst e1
  cases r with
  | cons r rr =>
    rw [hs]
    refine assignInOrder_cons (thn (h1 pins s σ H _ _ _ I r h) fun _ s1 ⟨σ1, H1, I1, q1⟩ => ?_)
    exact h2 pins s1 σ1 H1 _ _ Q I1 rr q1
def gTup (K : PySem.W.Frag) (n : Nat) (t : TGs) : TG := fun v σ H Q => ∃ a xs, v = .ref a ∧ SqT K H a xs ∧ xs.length = n ∧ t xs σ H Q
theorem pg_tup {es : List Expr} {k : Nat} {t : TGs} {n : Nat} (hc : X.calm = true) (h : PGs X es t)
    (hn : (assignEach es X.env).length = n := by rfl) (hst : (assignEach es X.env).findIdx? (·.1) = none := by rfl) : PG X (.Tuple es k pos) (gTup X.K n t) := by
  intro pins s σ H v u Q I r hw
  obtain ⟨a, xs, e1, hq, hl, hw⟩ := hw
  subst e1
  cases r
  obtain ⟨its, rv, ht, hz⟩ := I.tuple hq
  refine assign_Tuple_tuple (I.ok.hd hc) ht (by simp [hn, ← hl, rv.length]) hst fun h' hx => ?_
  have I1 : Inv X pins σ H { s with heap := h' } := I.kept (t' := s.toks) fun b o e => hx b o (Nat.ne_of_lt (Heap.lt_size e)) e
  exact h pins _ σ H xs _ Q I1 (by simpa using rv) hw
def tAsg (te : TE) (g : TG) : TS := fun D σ H => te σ H fun x H1 => g x σ H1 D.nx
theorem ps_set {i : Nat} {x : Str} {e : Expr} {te : TE} {pos' : Pos} (hN : X.N.Nodup) (hi : X.N[i]? = some x) (hx : Loc X.env.scope x) (he : PE X e te) (hs : swapsWith e (some (.Name x pos')) pos.line X.env = pure false := by rfl) (hf : X.fn x = true ∨ X.env.scope.names.lookup x = some .local := by first | exact .inl rfl | exact .inr rfl | assumption) :
    PS X (.Assign [.Name x pos'] e pos) (tAsg te (gName i)) := by
  intro pins s σ H D I h
  refine wpAny_Assign_Name (thn (he pins s σ H _ I h) fun v s1 ⟨y, H1, I1, r1, q1⟩ => ?_) hs
  exact store_ok I1 hN hi hx r1 (fun s2 I2 => ⟨_, H1, I2, q1⟩) hf
end
section
variable {X : Cx} {pos : Pos}
def tWhile (c : TT) (tb : TS) : TS := fun D σ H => ∃ W : Nat → St → Hp → Prop, (∃ m, W m σ H) ∧ ∀ m σ H, W m σ H →
  c σ H fun b H1 => if b = true then ∃ N : St → Hp → Prop, (∀ σ' H', N σ' H' → ∃ m', m' < m ∧ W m' σ' H') ∧ tb { D with nx := N, ct := N, bk := D.nx } σ H1 else D.nx σ H1
theorem ps_while {c : Expr} {body : List Stmt} {tc : TT} {tb : TS} (hp : PassesOwn (model X.prog X.w) X.A X.env X.xe) (hc : PT X c tc) (hb : PSs X body tb) : PS X (.While c body [] pos) (tWhile tc tb) := by
  intro pins s σ H D I h
  obtain ⟨W, ⟨m0, w0⟩, turn⟩ := h
  refine wpAny_While (codeAny_whileLoop (fun n s' => ∃ σ' H', Inv X pins σ' H' s' ∧ W n σ' H') ?_ m0 ⟨σ, H, I, w0⟩)
  rintro n s1 ⟨σ1, H1, I1, w1⟩
  refine wpAny_passesOwn hp (thn (hc pins s1 σ1 H1 _ I1 (turn n σ1 H1 w1)) fun b s2 ⟨H2, I2, q2⟩ => ?_)
  cases b with
  | true =>
    obtain ⟨N, hN, q2⟩ := q2
    rw [if_pos rfl]
    refine wpAny_passesOwn hp (thn (hb pins s2 σ1 H2 _ I2 q2) fun f s3 q3 => ?_)
    cases f with
    | next =>
      obtain ⟨σ3, H3, I3, n3⟩ := q3
      obtain ⟨m', hm, w3⟩ := hN σ3 H3 n3
      exact ⟨m', hm, σ3, H3, I3, w3⟩
    | cont =>
      obtain ⟨σ3, H3, I3, n3⟩ := q3
      obtain ⟨m', hm, w3⟩ := hN σ3 H3 n3
      exact ⟨m', hm, σ3, H3, I3, w3⟩
    | brk => exact q3
    | ret v => exact q3
  | false =>
    rw [if_neg Bool.false_ne_true]
    exact wpAny_execs_nil ⟨σ1, H2, I2, q2⟩
end
structure It where
  go : Nat → Hp → Prop
  yld : Nat → Hp → V → Hp → Prop
  stop : Nat → Hp → Prop
def FpOk (X : Cx) (pins : List (Addr × Obj)) (H : Hp) (b : Addr) : Prop :=
  H b = none ∧ b ≠ X.env.locals ∧ b ∉ X.fs ∧ (b ∈ X.ex ∨ X.s₀.heap.objs.size ≤ b) ∧ (∀ x c, X.env.cells.lookup x = some c → c ≠ b) ∧ ∀ p ∈ X.pn ++ pins, p.1 ≠ b
theorem Inv.fpOk {X : Cx} {pins : List (Addr × Obj)} {σ : St} {H H' : Hp} {s : Shared} {b : Addr} (I : Inv X pins σ H s) (hb : s.heap.objs.size ≤ b) (hn : H' b = none) : FpOk X pins H' b := by
  refine ⟨hn, Nat.ne_of_gt (Nat.lt_of_lt_of_le I.lt hb), I.nofs hb, .inr (Nat.le_trans I.sz hb), fun x c e z => ?_, fun p hp z => ?_⟩
  · obtain ⟨v, q⟩ := I.cell x c e
    exact absurd (Nat.lt_of_lt_of_le q.lt (by rw [z]; exact hb)) (Nat.lt_irrefl _)
  · exact absurd (Nat.lt_of_lt_of_le (Heap.lt_size (I.pin p hp).1) (by rw [z]; exact hb)) (Nat.lt_irrefl _)
structure Turn (P : Program) (w : World) (K : PySem.W.Frag) (tg : Expr) (J : It) (fp : List Addr) (it : Addr) (tn : Nat → Heap → Prop) : Prop where
  mem : it ∈ fp
  obj : ∀ i h, tn i h → ∀ b ∈ fp, ∃ o, h.get? b = some o ∧ ∀ v, o.data ≠ .cell v
  keep : ∀ i h h', tn i h → (∀ b ∈ fp, ∀ o, h.get? b = some o → h'.get? b = some o) → tn i h'
  item : ∀ (X : Cx), X.prog = P → X.w = w → X.K = K → X.calm = true → ∀ (i : Nat) (pins : List (Addr × Obj)) (s : Shared) (σ : St) (H : Hp) (E : Value → Shared → Prop), Inv X pins σ H s → (∀ b ∈ fp, FpOk X pins H b) → tn i s.heap → J.go i H →
    wpAny (model P w) X.A (pyNext (.ref it)) (fun r s1 => ∃ u, r = some u ∧
      wpAny (model P w) X.A (letOwnedTupleGo tg (.ref it) u) (fun _ s2 => ∃ x H', Inv X pins σ H' s2 ∧ RelV x u ∧ J.yld i H x H' ∧ tn (i + 1) s2.heap ∧ ∀ b ∈ fp, H' b = none) E s1) E s
  done : ∀ (X : Cx), X.prog = P → X.w = w → X.K = K → X.calm = true → ∀ (i : Nat) (pins : List (Addr × Obj)) (s : Shared) (σ : St) (H : Hp) (E : Value → Shared → Prop), Inv X pins σ H s → (∀ b ∈ fp, FpOk X pins H b) → tn i s.heap → J.stop i H →
    wpAny (model P w) X.A (pyNext (.ref it)) (fun r s1 => r = none ∧ Inv X pins σ H s1) E s
  self : ∀ (A : Around) (i : Nat) (s : Shared) (Q : Value → Shared → Prop) (E : Value → Shared → Prop), tn i s.heap → Q (.ref it) s → wpAny (model P w) A (pyIter (.ref it)) Q E s
abbrev TI := St → Hp → (It → Hp → Prop) → Prop
def PIE (X : Cx) (pins : List (Addr × Obj)) (σ : St) (tg : Expr) (R : It → Hp → Prop) (itv : Value) (s2 : Shared) : Prop :=
  ∃ (it : Addr) (fp : List Addr) (tn : Nat → Heap → Prop) (J : It) (H' : Hp), itv = .ref it ∧ Inv X pins σ H' s2 ∧ Turn X.prog X.w X.K tg J fp it tn ∧ tn 0 s2.heap ∧ (∀ b ∈ fp, FpOk X pins H' b) ∧ R J H'
def PI (X : Cx) (tg iter : Expr) (wi : TI) : Prop :=
  ∀ (pins : List (Addr × Obj)) (s : Shared) (σ : St) (H : Hp) (R : It → Hp → Prop), Inv X pins σ H s → wi σ H R →
    wpAny (model X.prog X.w) X.A (eval iter X.env) (fun v s1 => wpAny (model X.prog X.w) X.A (pyIter v) (PIE X pins σ tg R) X.xe s1) X.xe s
theorem go_of {M : Model} {A : Around} {E : Value → Shared → Prop} {s : Shared} {tg : Expr} {it : Addr} {u : Value} {o : Obj} {n : String} {vs : Array Value} {Q : Unit → Shared → Prop} (ho : s.heap.get? it = some o) (hc : o.cls = .type n) (hd : o.data = .fields vs)
    (hn : ["enumerate", "zip", "dict_itemiterator", "dict_reverseitemiterator", "odict_iterator", "itertools.zip_longest", "itertools.pairwise"].contains n = false) (hQ : Q () s) : wpAny M A (letOwnedTupleGo tg (.ref it) u) Q E s := by
  unfold letOwnedTupleGo
  cases tg <;> first
    | exact wpAny_pure hQ
    | (cases u <;> first
        | exact wpAny_pure hQ
        | (refine wpAny_bind (wpAny_load ho ?_)
           rw [hc, hd]
           show wpAny M A (if (["enumerate", "zip", "dict_itemiterator", "dict_reverseitemiterator", "odict_iterator", "itertools.zip_longest", "itertools.pairwise"].contains n && vs[0]? == some (rawInt _)) = true then _ else _) Q E s
           rw [if_neg (by intro h; rw [hn, Bool.false_and] at h; cases h)]
           exact wpAny_pure hQ))
def Itl (K : PySem.W.Frag) (a : Addr) : It :=
  ⟨fun i H => ∃ xs x, SqL K H a xs ∧ xs[i]? = some x, fun i H x H' => H' = H ∧ ∀ xs, SqL K H a xs → xs[i]? = some x, fun i H => ∃ xs, SqL K H a xs ∧ xs.length ≤ i⟩
def Itt (K : PySem.W.Frag) (a : Addr) : It :=
  ⟨fun i H => ∃ xs x, SqT K H a xs ∧ xs[i]? = some x, fun i H x H' => H' = H ∧ ∀ xs, SqT K H a xs → xs[i]? = some x, fun i H => ∃ xs, SqT K H a xs ∧ xs.length ≤ i⟩
def Itr (lo : Int) (n : Nat) : It := ⟨fun i _ => i < n, fun i H x H' => H' = H ∧ x = .int (lo + i), fun i _ => n ≤ i⟩
theorem turn_list {P : Program} {w : World} {K : PySem.W.Frag} {tg : Expr} (a it : Addr) : Turn P w K tg (Itl K a) [it] it (fun i h => h.IsListIter it a i) where
  mem := by simp
  obj := fun i h st b hb => by
    have e : b = it := by simpa using hb
    subst e
    obtain ⟨o, e, c, d⟩ := st
    exact ⟨o, e, fun v z => by rw [d] at z; cases z⟩
  keep := fun i h h' st k => st.at fun o e => k it (by simp) o e
  item := by
    intro X hP hw hK hc i pins s σ H E I hf st hg
    subst hP hw hK
    obtain ⟨xs, x, hq, hx⟩ := hg
    obtain ⟨its, rv, p, hz⟩ := I.list hq
    obtain ⟨u, hu, ru⟩ := rv.get hx
    obtain ⟨f0, f1, f2, f3, f4, f5⟩ := hf it (by simp)
    refine wpAny_pyNext_list_item st p.isList (x := u) (by simpa using hu) fun h' st' sb => ?_
    have I1 : Inv X pins σ H { s with heap := h' } := I.turned (t' := s.toks) (fun b o hb e => (sb.2 b hb).trans e) f0 f1 f3 f4 f5
    obtain ⟨o, e, c, d⟩ := id st'
    exact ⟨u, rfl, go_of (s := { s with heap := h' }) e c d (by decide) ⟨x, H, I1, ru, ⟨rfl, fun ys hy => by rw [I.list_inj hy hq]; exact hx⟩, st', fun b hb => (hf b hb).1⟩⟩
  done := by
    intro X hP hw hK hc i pins s σ H E I hf st hg
    subst hP hw hK
    obtain ⟨xs, hq, hx⟩ := hg
    obtain ⟨its, rv, p, hz⟩ := I.list hq
    obtain ⟨f0, f1, f2, f3, f4, f5⟩ := hf it (by simp)
    have hl := rv.length
    exact wpAny_pyNext_list_end (I.ok.hd hc) st p.isList (by simp; omega) fun h' eb => ⟨rfl, I.turned (t' := s.toks) (fun b o hb e => eb b o hb e) f0 f1 f3 f4 f5⟩
  self := fun _ _ _ _ _ st h => wpAny_pyIter_listiter st h
theorem turn_tuple {P : Program} {w : World} {K : PySem.W.Frag} {tg : Expr} (a it : Addr) : Turn P w K tg (Itt K a) [it] it (fun i h => h.IsTupleIter it a i) where
  mem := by simp
  obj := fun i h st b hb => by
    have e : b = it := by simpa using hb
    subst e
    obtain ⟨o, e, c, d⟩ := st
    exact ⟨o, e, fun v z => by rw [d] at z; cases z⟩
  keep := fun i h h' st k => st.at fun o e => k it (by simp) o e
  item := by
    intro X hP hw hK hc i pins s σ H E I hf st hg
    subst hP hw hK
    obtain ⟨xs, x, hq, hx⟩ := hg
    obtain ⟨its, rv, p, hz⟩ := I.tuple hq
    obtain ⟨u, hu, ru⟩ := rv.get hx
    obtain ⟨f0, f1, f2, f3, f4, f5⟩ := hf it (by simp)
    refine wpAny_pyNext_tuple_item st (show s.heap.IsTuple a its.toArray from p) (x := u) (by simpa using hu) fun h' st' sb => ?_
    have I1 : Inv X pins σ H { s with heap := h' } := I.turned (t' := s.toks) (fun b o hb e => (sb.2 b hb).trans e) f0 f1 f3 f4 f5
    obtain ⟨o, e, c, d⟩ := id st'
    exact ⟨u, rfl, go_of (s := { s with heap := h' }) e c d (by decide) ⟨x, H, I1, ru, ⟨rfl, fun ys hy => by rw [I.tuple_inj hy hq]; exact hx⟩, st', fun b hb => (hf b hb).1⟩⟩
  done := by
    intro X hP hw hK hc i pins s σ H E I hf st hg
    subst hP hw hK
    obtain ⟨xs, hq, hx⟩ := hg
    obtain ⟨its, rv, p, hz⟩ := I.tuple hq
    obtain ⟨f0, f1, f2, f3, f4, f5⟩ := hf it (by simp)
    have hl := rv.length
    exact wpAny_pyNext_tuple_end (I.ok.hd hc) st (show s.heap.IsTuple a its.toArray from p) (by simp; omega) fun h' eb => ⟨rfl, I.turned (t' := s.toks) (fun b o hb e => eb b o hb e) f0 f1 f3 f4 f5⟩
  self := fun _ _ _ _ _ st h => wpAny_pyIter_tupleiter st h
theorem turn_range {P : Program} {w : World} {K : PySem.W.Frag} {tg : Expr} (it : Addr) (lo : Int) (n : Nat) : Turn P w K tg (Itr lo n) [it] it (fun i h => IsRangeIter h it (lo + (i : Nat) * 1) ((n : Int) - (i : Nat)) 1) where
  mem := by simp
  obj := fun i h st b hb => by
    have e : b = it := by simpa using hb
    subst e
    exact ⟨_, st, fun v z => by
      have z' : Data.fields _ = Data.cell v := z
      cases z'⟩
  keep := fun i h h' st k => k it (by simp) _ st
  item := by
    intro X hP hw hK hc i pins s σ H E I hf st hg
    subst hP hw hK
    obtain ⟨f0, f1, f2, f3, f4, f5⟩ := hf it (by simp)
    have W := Walks.range (prog := X.prog) (w := X.w) (I.ok.hd hc) it lo 1 n
    refine W.item i s _ _ hg st fun v h' tk hv st' kk => ?_
    obtain ⟨t, rfl⟩ := hv
    have I1 : Inv X pins σ H { s with heap := h', toks := tk } := I.turned (fun b o hb e => kk b o (by simpa using hb) e) f0 f1 f3 f4 f5
    refine ⟨_, rfl, go_of (s := { s with heap := h', toks := tk }) (n := "range_iterator") st' rfl rfl (by decide) ⟨.int (lo + i), H, I1, ⟨t, ?_⟩, ⟨rfl, rfl⟩, st', fun b hb => (hf b hb).1⟩⟩
    rw [Int.mul_one]
  done := by
    intro X hP hw hK hc i pins s σ H E I hf st hg
    subst hP hw hK
    obtain ⟨f0, f1, f2, f3, f4, f5⟩ := hf it (by simp)
    exact wpAny_pyNext_range_end (I.ok.hd hc) st (by have : n ≤ i := hg; omega) fun h' eb => ⟨rfl, I.turned (t' := s.toks) (fun b o hb e => eb b o hb e) f0 f1 f3 f4 f5⟩
  self := fun _ _ _ _ _ st h => wpAny_pyIter_rangeiter st h
end L2
namespace L2
open PySem PySem.Spec PyProof.Rows
section
variable {X : Cx} {tg : Expr}
def iList (K : PySem.W.Frag) (tl : TE) : TI := fun σ H R => tl σ H fun x H1 => ∃ a, x = .ref a ∧ (∃ xs, SqL K H1 a xs) ∧ R (Itl K a) H1
def iTup (K : PySem.W.Frag) (tl : TE) : TI := fun σ H R => tl σ H fun x H1 => ∃ a, x = .ref a ∧ (∃ xs, SqT K H1 a xs) ∧ R (Itt K a) H1
theorem pi_list {l : Expr} {tl : TE} (hl : PE X l tl) : PI X tg l (iList X.K tl) := by
  intro pins s σ H R I h
  refine thn (hl pins s σ H _ I h) fun v s1 ⟨x, H1, I1, r1, q1⟩ => ?_
  obtain ⟨a, e, ⟨xs, hq⟩, q⟩ := q1
  subst e
  cases r1
  obtain ⟨its, rv, p, hz⟩ := I1.list hq
  refine wpAny_pyIter_list p.isList ?_
  refine ⟨s1.heap.objs.size, [s1.heap.objs.size], _, _, H1, rfl, I1.kept (t' := s1.toks) fun b o e => Heap.get?_push_of_some _ e, turn_list a _, ⟨_, Heap.get?_push_size _ rfl, rfl, rfl⟩, fun b hb => ?_, q⟩
  have e : b = s1.heap.objs.size := by simpa using hb
  subst e
  exact I1.fpOk (Nat.le_refl _) (I1.hok.fresh (Nat.le_refl _))
theorem pi_tup {l : Expr} {tl : TE} (hl : PE X l tl) : PI X tg l (iTup X.K tl) := by
  intro pins s σ H R I h
  refine thn (hl pins s σ H _ I h) fun v s1 ⟨x, H1, I1, r1, q1⟩ => ?_
  obtain ⟨a, e, ⟨xs, hq⟩, q⟩ := q1
  subst e
  cases r1
  obtain ⟨its, rv, p, hz⟩ := I1.tuple hq
  refine wpAny_pyIter_tuple (show s1.heap.IsTuple a its.toArray from p) ?_
  refine ⟨s1.heap.objs.size, [s1.heap.objs.size], _, _, H1, rfl, I1.kept (t' := s1.toks) fun b o e => Heap.get?_push_of_some _ e, turn_tuple a _, ⟨_, Heap.get?_push_size _ rfl, rfl, rfl⟩, fun b hb => ?_, q⟩
  have e : b = s1.heap.objs.size := by simpa using hb
  subst e
  exact I1.fpOk (Nat.le_refl _) (I1.hok.fresh (Nat.le_refl _))
theorem range_it {pins : List (Addr × Obj)} {σ : St} {H : Hp} {s : Shared} {R : It → Hp → Prop} {E : Value → Shared → Prop} {lo hi : Int} {t u v : Tok} {tk : Nat} (I : Inv X pins σ H s) (h1 : -(2 ^ 62) ≤ lo) (h2 : lo < 2 ^ 62) (h3 : -(2 ^ 62) ≤ hi) (h4 : hi < 2 ^ 62)
    (q : R (Itr lo (hi - lo).toNat) H) : wpAny (model X.prog X.w) X.A (pyIter (.ref s.heap.objs.size)) (PIE X pins σ tg R) E { s with heap := s.heap.push { cls := .type "range", data := .fields #[.int lo t, .int hi u, .int 1 v] }, toks := tk } := by
  refine wpAny_pyIter_range (IsRange.new ..) (small_one h1 h2 h3 h4) ?_
  have I1 : Inv X pins σ H { s with heap := s.heap.push { cls := .type "range", data := .fields #[.int lo t, .int hi u, .int 1 v] }, toks := tk } := I.kept fun b o e => Heap.get?_push_of_some _ e
  refine ⟨(s.heap.push { cls := .type "range", data := .fields #[.int lo t, .int hi u, .int 1 v] }).objs.size, [(s.heap.push { cls := .type "range", data := .fields #[.int lo t, .int hi u, .int 1 v] }).objs.size], _, _, H, rfl,
    I1.kept (t' := tk) fun b o e => Heap.get?_push_of_some _ e, turn_range _ lo (hi - lo).toNat, ?_, fun b hb => ?_, q⟩
  · have e1 : lo + ((0 : Nat) : Int) * 1 = lo := by simp
    have e2 : (((hi - lo).toNat : Nat) : Int) - ((0 : Nat) : Int) = Builtin.Range.rangeSize lo hi 1 := by rw [rangeSize_one]; split <;> omega
    show IsRangeIter _ _ (lo + ((0 : Nat) : Int) * 1) ((((hi - lo).toNat : Nat) : Int) - ((0 : Nat) : Int)) 1
    rw [e1, e2]
    exact Heap.get?_push_size _ rfl
  · have e : b = (s.heap.push { cls := .type "range", data := .fields #[.int lo t, .int hi u, .int 1 v] }).objs.size := by simpa using hb
    subst e
    exact I1.fpOk (Nat.le_refl _) (I1.hok.fresh (Nat.le_refl _))
def iRng1 (ta : TA) : TI := fun σ H R => ta σ H fun vs H1 => ∃ j : Int, vs = [.int j] ∧ -(2 ^ 62) ≤ j ∧ j < 2 ^ 62 ∧ R (Itr 0 j.toNat) H1
def iRng2 (ta : TA) : TI := fun σ H R => ta σ H fun vs H1 => ∃ i j : Int, vs = [.int i, .int j] ∧ (-(2 ^ 62) ≤ i ∧ i < 2 ^ 62 ∧ -(2 ^ 62) ≤ j ∧ j < 2 ^ 62) ∧ R (Itr i (j - i).toNat) H1
theorem pi_range1 {a : Expr} {ta : TA} {p pos : Pos} (hg : Gl X "range") (hm : X.mg "range" = none) (ha : PA X [a] ta) (hs : starEach [a] X.env = [(false, eval a X.env)] := by rfl) : PI X tg (.Call (.Name "range" p) [a] [] pos) (iRng1 ta) := by
  intro pins s σ H R I h
  refine Call_ (ld_blt I hg hm boot_range (PyProof.Rows.callWith_type1 (thn (ha pos pins s σ H _ I h) fun us s1 ⟨vs, H1, I1, r1, q1⟩ => ?_) hs rfl))
  obtain ⟨j, e, q1, q2, q⟩ := q1
  subst e
  cases r1 with
  | cons r rr =>
    cases rr
    obtain ⟨t, rfl⟩ := r
    exact call_range_1 (range_it I1 (by omega) (by omega) q1 q2 (by simpa using q))
theorem pi_range2 {a b : Expr} {ta : TA} {p pos : Pos} (hg : Gl X "range") (hm : X.mg "range" = none) (ha : PA X [a, b] ta) (hs : starEach [a, b] X.env = [(false, eval a X.env), (false, eval b X.env)] := by rfl) (hs2 : starEach [b] X.env = [(false, eval b X.env)] := by rfl) :
    PI X tg (.Call (.Name "range" p) [a, b] [] pos) (iRng2 ta) := by
  intro pins s σ H R I h
  refine Call_ (ld_blt I hg hm boot_range (PyProof.Rows.callWith_type1 (thn (ha pos pins s σ H _ I h) fun us s1 ⟨vs, H1, I1, r1, q1⟩ => ?_) (by rw [hs, hs2]) (by rw [hs2]; rfl)))
  obtain ⟨i, j, e, ⟨q1, q2, q3, q4⟩, q⟩ := q1
  subst e
  cases r1 with
  | cons r rr =>
    cases rr with
    | cons r' rr =>
      cases rr
      obtain ⟨t, rfl⟩ := r
      obtain ⟨t', rfl⟩ := r'
      exact call_range_2 (range_it I1 q1 q2 q3 q4 q)
def tFor (wi : TI) (g : TG) (tb : TS) : TS := fun D σ H => wi σ H fun J H1 => ∃ W : Nat → Nat → St → Hp → Prop, (∃ m, W 0 m σ H1) ∧ ∀ i m σ H, W i m σ H →
  (J.stop i H ∧ D.nx σ H) ∨ (J.go i H ∧ ∃ N : St → Hp → Prop, (∀ σ' H', N σ' H' → ∃ m', m' < m ∧ W (i + 1) m' σ' H') ∧ ∀ x H', J.yld i H x H' → g x σ H' fun σ2 H2 => tb { D with nx := N, ct := N, bk := D.nx } σ2 H2)
def pinsAt (fp : List Addr) (h : Heap) : List (Addr × Obj) := fp.filterMap fun b => (h.get? b).map fun o => (b, o)
theorem mem_pinsAt {fp : List Addr} {h : Heap} {b : Addr} {o : Obj} (hb : b ∈ fp) (e : h.get? b = some o) : (b, o) ∈ pinsAt fp h := List.mem_filterMap.mpr ⟨b, hb, by rw [e]; rfl⟩
theorem of_pinsAt {fp : List Addr} {h : Heap} {p : Addr × Obj} (hp : p ∈ pinsAt fp h) : p.1 ∈ fp ∧ h.get? p.1 = some p.2 := by
  obtain ⟨b, hb, e⟩ := List.mem_filterMap.mp hp
  cases q : h.get? b with
  | none => rw [q] at e; cases e
  | some o =>
    rw [q] at e
    have e' : (b, o) = p := Option.some.inj e
    subst e'
    exact ⟨hb, q⟩
theorem Inv.pinned {pins : List (Addr × Obj)} {σ : St} {H : Hp} {s : Shared} {fp : List Addr} (I : Inv X pins σ H s) (hf : ∀ b ∈ fp, FpOk X pins H b) (ho : ∀ b ∈ fp, ∃ o, s.heap.get? b = some o ∧ ∀ v, o.data ≠ .cell v) : Inv X (pins ++ pinsAt fp s.heap) σ H s :=
  I.pins_of fun p hp => (List.mem_append.mp hp).elim (fun z => I.pin p (List.mem_append_right _ z)) fun z => by
    obtain ⟨hb, e⟩ := of_pinsAt z
    obtain ⟨f0, f1, f2, _⟩ := hf p.1 hb
    obtain ⟨o, e', d⟩ := ho p.1 hb
    rw [e] at e'; cases e'
    exact ⟨e, f0, f1, f2, d⟩
theorem Inv.unpinned {pins pl : List (Addr × Obj)} {σ : St} {H : Hp} {s : Shared} (I : Inv X (pins ++ pl) σ H s) : Inv X pins σ H s := I.pins_of fun p hp => I.pin p (List.mem_append_right _ (List.mem_append_left _ hp))
theorem ps_for {iter : Expr} {body : List Stmt} {wi : TI} {g : TG} {tb : TS} {pos : Pos} (hp : PassesOwn (model X.prog X.w) X.A X.env X.xe) (hc : X.calm = true) (hi : PI X tg iter wi) (hg : PG X tg g) (hb : PSs X body tb)
    (hs : ∀ x, foldedSetIterable iter X.env x = pure x := by intro _; rfl) : PS X (.For tg iter body [] pos) (tFor wi g tb) := by
  intro pins s σ H D I h
  refine wpAny_For (thn (hi pins s σ H _ I h) fun v s1 h1 => thn h1 fun itv s2 h2 => ?_) hs
  obtain ⟨it, fp, tn, J, H2, e, I2, T, st2, f2, W, ⟨m0, w0⟩, turn⟩ := h2
  subst e
  have stat : ∀ {H' : Hp}, (∀ b ∈ fp, H' b = none) → ∀ b ∈ fp, FpOk X pins H' b := fun hn b hb => ⟨hn b hb, (f2 b hb).2⟩
  refine codeAny_forLoop_any (fun n s' => ∃ i σ' H', Inv X pins σ' H' s' ∧ tn i s'.heap ∧ (∀ b ∈ fp, H' b = none) ∧ W i n σ' H') ?_ m0 ⟨0, σ, H2, I2, st2, fun b hb => (f2 b hb).1, w0⟩
  rintro n s3 ⟨i, σ3, H3, I3, st3, fr3, w3⟩
  rcases turn i n σ3 H3 w3 with ⟨stop, qn⟩ | ⟨go, N, hN, step⟩
  · refine wpAny_passesOwn hp (thn (T.done X rfl rfl rfl hc i pins s3 σ3 H3 X.xe I3 (stat fr3) st3 stop) fun r s4 ⟨hr, I4⟩ => ?_)
    subst hr
    exact wpAny_execs_nil ⟨σ3, H3, I4, qn⟩
  · refine wpAny_passesOwn hp (thn (T.item X rfl rfl rfl hc i pins s3 σ3 H3 X.xe I3 (stat fr3) st3 go) fun r s4 ⟨u, hr, h4⟩ => ?_)
    subst hr
    refine wpAny_passesOwn hp (thn h4 fun _ s5 ⟨x, H5, I5, r5, y5, st5, fr5⟩ => ?_)
    have I5' := I5.pinned (stat fr5) (T.obj _ _ st5)
    refine wpAny_passesOwn hp (thn (hg _ s5 σ3 H5 x u _ I5' r5 (step x H5 y5)) fun _ s6 ⟨σ6, H6, I6, q6⟩ => ?_)
    refine wpAny_passesOwn hp (thn (hb _ s6 σ6 H6 _ I6 q6) fun f s7 q7 => ?_)
    have again : ∀ {σ7 : St} {H7 : Hp}, Inv X (pins ++ pinsAt fp s5.heap) σ7 H7 s7 → N σ7 H7 → ∃ m, m < n ∧ ∃ i σ' H', Inv X pins σ' H' s7 ∧ tn i s7.heap ∧ (∀ b ∈ fp, H' b = none) ∧ W i m σ' H' := fun {σ7 H7} I7 n7 => by
      obtain ⟨m', hm, w7⟩ := hN σ7 H7 n7
      refine ⟨m', hm, i + 1, σ7, H7, I7.unpinned, T.keep _ _ _ st5 fun b hb o e => (I7.pin (b, o) (List.mem_append_right _ (List.mem_append_right _ (mem_pinsAt hb e)))).1, fun b hb => ?_, w7⟩
      obtain ⟨o, e, d⟩ := T.obj _ _ st5 b hb
      exact (I7.pin (b, o) (List.mem_append_right _ (List.mem_append_right _ (mem_pinsAt hb e)))).2.1
    cases f with
    | next => obtain ⟨σ7, H7, I7, n7⟩ := q7; exact again I7 n7
    | cont => obtain ⟨σ7, H7, I7, n7⟩ := q7; exact again I7 n7
    | brk => obtain ⟨σ7, H7, I7, q7⟩ := q7; exact ⟨σ7, H7, I7.unpinned, q7⟩
    | ret v => obtain ⟨x7, σ7, H7, I7, r7, q7⟩ := q7; exact ⟨x7, σ7, H7, I7.unpinned, r7, q7⟩
end
end L2
namespace L2
open PySem PySem.Spec PyProof.Rows
abbrev R2 := V → V → Hp → VK → Prop
def OpR (X : Cx) (f : Value → Value → Sem Value) (r : R2) : Prop :=
  ∀ (pins : List (Addr × Obj)) (s : Shared) (σ : St) (H : Hp) (x y : V) (v u : Value) (Q : VK), Inv X pins σ H s → RelV x v → RelV y u → r x y H Q →
    wpAny (model X.prog X.w) X.A (f v u) (EP X pins σ Q) X.xe s
def UnR (X : Cx) (f : Value → Sem Value) (r : V → Hp → VK → Prop) : Prop :=
  ∀ (pins : List (Addr × Obj)) (s : Shared) (σ : St) (H : Hp) (x : V) (v : Value) (Q : VK), Inv X pins σ H s → RelV x v → r x H Q →
    wpAny (model X.prog X.w) X.A (f v) (EP X pins σ Q) X.xe s
def CallR (X : Cx) (f : Value) (r : List V → Hp → VK → Prop) : Prop :=
  ∀ (pins : List (Addr × Obj)) (s : Shared) (σ : St) (H : Hp) (xs : List V) (us : List Value) (Q : VK), Inv X pins σ H s → Vals xs us → r xs H Q →
    wpAny (model X.prog X.w) X.A (call f us) (EP X pins σ Q) X.xe s
def TruR (X : Cx) (r : V → Hp → (Bool → Hp → Prop) → Prop) : Prop :=
  ∀ (pins : List (Addr × Obj)) (s : Shared) (σ : St) (H : Hp) (x : V) (v : Value) (Q : Bool → Hp → Prop), Inv X pins σ H s → RelV x v → r x H Q →
    wpAny (model X.prog X.w) X.A (truthy v) (TP X pins σ Q) X.xe s
def tOp (r : R2) (ta tb : TE) : TE := fun σ H Q => ta σ H fun x H1 => tb σ H1 fun y H2 => r x y H2 Q
def tUn (r : V → Hp → VK → Prop) (ta : TE) : TE := fun σ H Q => ta σ H fun x H1 => r x H1 Q
def rI (C : Int → Int → Prop) (g : Int → Int → V) : R2 := fun x y H Q => ∃ i j, x = .int i ∧ y = .int j ∧ C i j ∧ Q (g i j) H
def rI0 (g : Int → Int → V) : R2 := fun x y H Q => ∃ i j, x = .int i ∧ y = .int j ∧ Q (g i j) H
def rU (g : Int → V) : V → Hp → VK → Prop := fun x H Q => ∃ i, x = .int i ∧ Q (g i) H
section
variable {X : Cx} {a b c : Expr} {ta tb tc : TE} {pos : Pos}
theorem binT (ha : PE X a ta) (hb : PE X b tb) {pins : List (Addr × Obj)} {s : Shared} {σ : St} {H : Hp} {R : V → V → Hp → Prop} (I : Inv X pins σ H s)
    (h : ta σ H fun x H1 => tb σ H1 fun y H2 => R x y H2) {Q : Value → Shared → Prop} {f : Value → Value → Sem Value}
    (hf : ∀ v u s2 x y H2, Inv X pins σ H2 s2 → RelV x v → RelV y u → R x y H2 → wpAny (model X.prog X.w) X.A (f v u) Q X.xe s2) :
    wpAny (model X.prog X.w) X.A (eval a X.env) (fun v s₁ => wpAny (model X.prog X.w) X.A (eval b X.env) (fun u s₂ => wpAny (model X.prog X.w) X.A (f v u) Q X.xe s₂) X.xe s₁) X.xe s := by
  refine thn (ha pins s σ H _ I h) fun v s1 ⟨x, H1, I1, r1, q1⟩ => ?_
  refine thn (hb pins s1 σ H1 _ I1 q1) fun u s2 ⟨y, H2, I2, r2, q2⟩ => ?_
  exact hf v u s2 x y H2 I2 r1 r2 q2
theorem pe_op {op : Operator} {r : R2} (ho : OpR X (binaryOp op) r) (ha : PE X a ta) (hb : PE X b tb) : PE X (.BinOp a op b pos) (tOp r ta tb) := by
  intro pins s σ H Q I h
  exact wpAny_BinOp (binT ha hb I h fun v u s2 x y H2 I2 rx ry q => ho pins s2 σ H2 x y v u Q I2 rx ry q)
theorem pe_un {op : UnaryOp} {r : V → Hp → VK → Prop} (ho : UnR X (unaryOp op) r) (ha : PE X a ta) : PE X (.UnaryOp op a pos) (tUn r ta) := by
  intro pins s σ H Q I h
  exact UnaryOp_ (thn (ha pins s σ H _ I h) fun v s1 ⟨x, H1, I1, r1, q1⟩ => ho pins s1 σ H1 x v Q I1 r1 q1)
theorem opI {f : Value → Value → Sem Value} {C : Int → Int → Prop} {g : Int → Int → Int}
    (rule : ∀ (i j : Int) (t u : Tok) (s : Shared) (Q : Value → Shared → Prop) (E : Value → Shared → Prop), C i j → Q (.int (g i j) s.toks) { s with toks := s.toks + 1 } → wpAny (model X.prog X.w) X.A (f (.int i t) (.int j u)) Q E s) :
    OpR X f (rI C fun i j => .int (g i j)) := by
  intro pins s σ H x y v u Q I rx ry h
  obtain ⟨i, j, rfl, rfl, hc, q⟩ := h
  obtain ⟨t, rfl⟩ := rx
  obtain ⟨t', rfl⟩ := ry
  exact rule i j t t' s _ _ hc ⟨.int (g i j), H, I.tok _, ⟨_, rfl⟩, q⟩
theorem opI0 {f : Value → Value → Sem Value} {g : Int → Int → Int}
    (rule : ∀ (i j : Int) (t u : Tok) (s : Shared) (Q : Value → Shared → Prop) (E : Value → Shared → Prop), Q (.int (g i j) s.toks) { s with toks := s.toks + 1 } → wpAny (model X.prog X.w) X.A (f (.int i t) (.int j u)) Q E s) :
    OpR X f (rI0 fun i j => .int (g i j)) := by
  intro pins s σ H x y v u Q I rx ry h
  obtain ⟨i, j, rfl, rfl, q⟩ := h
  obtain ⟨t, rfl⟩ := rx
  obtain ⟨t', rfl⟩ := ry
  exact rule i j t t' s _ _ ⟨.int (g i j), H, I.tok _, ⟨_, rfl⟩, q⟩
theorem opB0 {f : Value → Value → Sem Value} {g : Int → Int → Bool}
    (rule : ∀ (i j : Int) (t u : Tok) (s : Shared) (Q : Value → Shared → Prop) (E : Value → Shared → Prop), Q (.bool (g i j)) s → wpAny (model X.prog X.w) X.A (f (.int i t) (.int j u)) Q E s) :
    OpR X f (rI0 fun i j => .bl (g i j)) := by
  intro pins s σ H x y v u Q I rx ry h
  obtain ⟨i, j, rfl, rfl, q⟩ := h
  obtain ⟨t, rfl⟩ := rx
  obtain ⟨t', rfl⟩ := ry
  exact rule i j t t' s _ _ ⟨.bl (g i j), H, I, rfl, q⟩
def CDiv (i j : Int) : Prop := 0 < j ∧ j < 1073741824
def CMul (i j : Int) : Prop := (-(2 ^ 64) < i ∧ i < 2 ^ 64) ∨ (-(2 ^ 64) < j ∧ j < 2 ^ 64)
theorem CMul.ok {i j : Int} (h : CMul i j) : IntMulOk i j := by
  rcases h with ⟨h1, h2⟩ | ⟨h1, h2⟩
  · exact .of_left (intBits_le_64 h1 h2)
  · exact .of_right (intBits_le_64 h1 h2)
theorem op_add : OpR X (binaryOp .Add) (rI0 fun i j => .int (i + j)) := opI0 fun _ _ _ _ _ _ _ q => add_int q
theorem op_sub : OpR X (binaryOp .Sub) (rI0 fun i j => .int (i - j)) := opI0 fun _ _ _ _ _ _ _ q => sub_int q
theorem op_mul : OpR X (binaryOp .Mult) (rI CMul fun i j => .int (i * j)) := opI fun _ _ _ _ _ _ _ hc q => mul_int q hc.ok
theorem op_fdiv : OpR X (binaryOp .FloorDiv) (rI CDiv fun i j => .int (i / j)) := opI fun i j _ _ _ _ _ hc q => by
  have h1 : (0 : Int) < j := hc.1
  have h2 : j < 1073741824 := hc.2
  exact floordiv_int (by omega) (by rw [Int.fdiv_eq_ediv_of_nonneg i (by omega)]; exact q) (.inl (PyProof.noPylong_small (by omega)))
theorem op_mod : OpR X (binaryOp .Mod) (rI (fun _ j => 0 < j) fun i j => .int (i % j)) := opI fun i j _ _ _ _ _ hc q => by
  have h1 : (0 : Int) < j := hc
  exact mod_int' (by omega) (by rw [Int.fmod_eq_emod_of_nonneg i (by omega)]; exact q)
theorem unI {f : Value → Sem Value} {g : Int → Int}
    (rule : ∀ (i : Int) (t : Tok) (s : Shared) (Q : Value → Shared → Prop) (E : Value → Shared → Prop), Q (.int (g i) s.toks) { s with toks := s.toks + 1 } → wpAny (model X.prog X.w) X.A (f (.int i t)) Q E s) :
    UnR X f (rU fun i => .int (g i)) := by
  intro pins s σ H x v Q I rx h
  obtain ⟨i, rfl, q⟩ := h
  obtain ⟨t, rfl⟩ := rx
  exact rule i t s _ _ ⟨.int (g i), H, I.tok _, ⟨_, rfl⟩, q⟩
theorem un_neg : UnR X (unaryOp .USub) (rU fun i => .int (-i)) := unI fun _ _ _ _ _ q => neg_int q
end
section
variable {X : Cx} {a b c : Expr} {ta tb tc : TE} {pos : Pos}
theorem fin_bl {pins : List (Addr × Obj)} {σ : St} {H : Hp} {s : Shared} {Q : VK} {k k' : Bool} (I : Inv X pins σ H s) (q : Q (.bl k) H) (e : k = k') : EP X pins σ Q (.bool k') s := by
  subst e
  exact ⟨.bl k, H, I, rfl, q⟩
theorem op_lt : OpR X (compareOp .Lt) (rI0 fun i j => .bl (decide (i < j))) := opB0 fun _ _ _ _ _ _ _ q => lt_int q
theorem op_le : OpR X (compareOp .LtE) (rI0 fun i j => .bl (decide (i ≤ j))) := opB0 fun _ _ _ _ _ _ _ q => le_int q
theorem op_gt : OpR X (compareOp .Gt) (rI0 fun i j => .bl (decide (j < i))) := opB0 fun _ _ _ _ _ _ _ q => gt_int q
theorem op_ge : OpR X (compareOp .GtE) (rI0 fun i j => .bl (decide (j ≤ i))) := opB0 fun _ _ _ _ _ _ _ q => ge_int q
theorem op_isN : OpR X (compareOp .Is) (fun x y H Q => y = .non ∧ Q (.bl (decide (x = .non))) H) := by
  intro pins s σ H x y v u Q I rx ry h
  obtain ⟨rfl, q⟩ := h
  cases ry
  refine is_none_gen (fin_bl I q ?_)
  cases x <;> first
    | (cases rx; rfl)
    | (obtain ⟨t, rfl⟩ := rx; rfl)
theorem op_notN : OpR X (compareOp .IsNot) (fun x y H Q => y = .non ∧ Q (.bl (!decide (x = .non))) H) := by
  intro pins s σ H x y v u Q I rx ry h
  obtain ⟨rfl, q⟩ := h
  cases ry
  refine isnot_none_gen (fin_bl I q ?_)
  cases x <;> first
    | (cases rx; rfl)
    | (obtain ⟨t, rfl⟩ := rx; rfl)
theorem OpR.or {f : Value → Value → Sem Value} {r r' : R2} (h : OpR X f r) (h' : OpR X f r') : OpR X f (fun x y H Q => r x y H Q ∨ r' x y H Q) := by
  intro pins s σ H x y v u Q I rx ry q
  rcases q with q | q
  · exact h pins s σ H x y v u Q I rx ry q
  · exact h' pins s σ H x y v u Q I rx ry q
theorem pe_cmpR {op : CmpOp} {r : R2} (ho : OpR X (compareOp op) r) (ha : PE X a ta) (hb : PE X b tb) (hm : behindInMarks op b = false) : PE X (.Compare a [op] [b] pos) (tOp r ta tb) := by
  intro pins s σ H Q I h
  exact wpAny_Compare1 (binT ha hb I h fun v u s2 x y H2 I2 rx ry q => ho pins s2 σ H2 x y v u Q I2 rx ry q) hm
def tTest (t : TE) : TT := fun σ H Q => t σ H fun x H' => ∃ k, x = .bl k ∧ Q k H'
theorem pt_cmpR {op : CmpOp} {r : R2} (ho : OpR X (compareOp op) r) (ha : PE X a ta) (hb : PE X b tb) (hm : behindInMarks op b = false) : PT X (.Compare a [op] [b] pos) (tTest (tOp r ta tb)) := by
  intro pins s σ H Q I h
  refine wpAny_isTrue_Compare1 (thn (ha pins s σ H _ I h) fun v s1 ⟨x, H1, I1, r1, q1⟩ => thn (hb pins s1 σ H1 _ I1 q1) fun u s2 ⟨y, H2, I2, r2, q2⟩ =>
    thn (ho pins s2 σ H2 x y v u _ I2 r1 r2 q2) fun c s3 ⟨z, H3, I3, r3, k, e, q3⟩ => ?_) hm
  subst e
  cases r3
  exact wpAny_truthy_bool ⟨H3, I3, q3⟩
def tChain (r r' : R2) (ta tb tc : TE) : TE := fun σ H Q => ta σ H fun x H1 => tb σ H1 fun y H2 => r x y H2 fun z H3 => ∃ k, z = .bl k ∧
  (if k = true then tc σ H3 fun w' H4 => r' y w' H4 Q else Q (.bl false) H3)
theorem pe_chain {op op' : CmpOp} {r r' : R2} (ho : OpR X (compareOp op) r) (ho' : OpR X (compareOp op') r') (ha : PE X a ta) (hb : PE X b tb) (hc : PE X c tc)
    (hm : lastMarks [op, op'] [b, c] = false := by with_unfolding_all rfl) : PE X (.Compare a [op, op'] [b, c] pos) (tChain r r' ta tb tc) := by
  intro pins s σ H Q I h
  refine Compare_chain (thn (ha pins s σ H _ I h) fun v s1 ⟨x, H1, I1, r1, q1⟩ => chain_link (thn (hb pins s1 σ H1 _ I1 q1) fun u s2 ⟨y, H2, I2, r2, q2⟩ =>
    thn (ho pins s2 σ H2 x y v u _ I2 r1 r2 q2) fun d s3 ⟨z, H3, I3, r3, k, e, q3⟩ => ?_)) hm
  subst e
  cases r3
  refine wpAny_truthy_bool ?_
  cases k with
  | false => exact ite_ff ⟨.bl false, H3, I3, rfl, q3⟩
  | true => exact ite_tt (chain_last (thn (hc pins s3 σ H3 _ I3 q3) fun w' s4 ⟨z', H4, I4, r4, q4⟩ => ho' pins s4 σ H4 y z' u w' Q I4 r2 r4 q4))
theorem pt_chain {op op' : CmpOp} {r r' : R2} (ho : OpR X (compareOp op) r) (ho' : OpR X (compareOp op') r') (ha : PE X a ta) (hb : PE X b tb) (hc : PE X c tc)
    (hm : lastMarks [op, op'] [b, c] = false := by with_unfolding_all rfl) : PT X (.Compare a [op, op'] [b, c] pos) (tTest (tChain r r' ta tb tc)) := by
  intro pins s σ H Q I h
  refine isTrue_chain (thn (ha pins s σ H _ I h) fun v s1 ⟨x, H1, I1, r1, q1⟩ => test_link (thn (hb pins s1 σ H1 _ I1 q1) fun u s2 ⟨y, H2, I2, r2, q2⟩ =>
    thn (ho pins s2 σ H2 x y v u _ I2 r1 r2 q2) fun d s3 ⟨z, H3, I3, r3, k, e, q3⟩ => ?_)) hm
  subst e
  cases r3
  refine wpAny_truthy_bool ?_
  cases k with
  | false =>
    obtain ⟨k', e', q'⟩ := q3
    cases e'
    exact ite_ff ⟨H3, I3, q'⟩
  | true =>
    refine ite_tt (test_last (thn (hc pins s3 σ H3 _ I3 q3) fun w' s4 ⟨z', H4, I4, r4, q4⟩ => thn (ho' pins s4 σ H4 y z' u w' _ I4 r2 r4 q4) fun d' s5 ⟨z2, H5, I5, r5, k2, e2, q5⟩ => ?_))
    subst e2
    cases r5
    exact wpAny_truthy_bool ⟨H5, I5, q5⟩
def TruV (K : PySem.W.Frag) (x : V) (H : Hp) (k : Bool) : Prop :=
  match x with
  | .non => k = false
  | .bl b => k = b
  | .int i => k = (i != 0)
  | .str y => y.length ≤ sizeLine ∧ k = ((y.length : Int) != 0)
  | .byt y => y.size ≤ sizeLine ∧ k = ((y.size : Int) != 0)
  | .ref p => (∃ xs, SqL K H p xs ∧ k = !xs.isEmpty) ∨ (∃ xs, SqT K H p xs ∧ k = !xs.isEmpty) ∨ ∃ kvs, H p = some (.dK kvs) ∧ k = !kvs.isEmpty
  | _ => False
theorem isEmpty_kv {κ : Type} {kvs : List (κ × V)} {vs : List (κ × Value)} (r : KV kvs vs) : (!vs.isEmpty) = !kvs.isEmpty := by
  cases r <;> rfl
theorem isEmpty_of {xs : List V} {its : List Value} (r : Vals xs its) : (!its.toArray.isEmpty) = !xs.isEmpty := by
  cases r <;> simp
theorem line63 : (sizeLine : Nat) < 2 ^ 63 := by rw [sizeLine_eq]; decide
theorem tru_ok : TruR X (fun x H Q => ∃ k, TruV X.K x H k ∧ Q k H) := by
  intro pins s σ H x v Q I rx h
  obtain ⟨k, e, q⟩ := h
  have hl := line63
  have hs : sizeLine = 16777216 := sizeLine_eq
  cases x with
  | non =>
    cases rx
    have e' : k = false := e
    subst e'
    exact truthy_none ⟨H, I, q⟩
  | bl b =>
    cases rx
    have e' : k = b := e
    subst e'
    exact wpAny_truthy_bool ⟨H, I, q⟩
  | int i =>
    obtain ⟨t, rfl⟩ := rx
    have e' : k = (i != 0) := e
    subst e'
    exact PySem.P.truthy_int ⟨H, I, q⟩
  | str y =>
    obtain ⟨t, rfl⟩ := rx
    obtain ⟨hy, e'⟩ : y.length ≤ sizeLine ∧ k = ((y.length : Int) != 0) := e
    subst e'
    exact PySem.P.truthy_str (by omega) ⟨H, I.tok _, q⟩
  | byt y =>
    obtain ⟨t, rfl⟩ := rx
    obtain ⟨hy, e'⟩ : y.size ≤ sizeLine ∧ k = ((y.size : Int) != 0) := e
    subst e'
    exact PySem.W.truthy_bytes (by omega) ⟨H, I.tok _, q⟩
  | ref p =>
    cases rx
    have e' : (∃ xs, SqL X.K H p xs ∧ k = !xs.isEmpty) ∨ (∃ xs, SqT X.K H p xs ∧ k = !xs.isEmpty) ∨ ∃ kvs, H p = some (.dK kvs) ∧ k = !kvs.isEmpty := e
    rcases e' with ⟨xs, hx, e'⟩ | ⟨xs, hx, e'⟩ | ⟨kvs, hx, e'⟩
    · subst e'
      obtain ⟨its, r, pl, hz⟩ := I.list hx
      have hlen := r.length
      exact wpAny_truthy_list pl.isList (by simp only [List.size_toArray]; omega) ⟨H, I.tok _, by rw [isEmpty_of r]; exact q⟩
    · subst e'
      obtain ⟨its, r, pl, hz⟩ := I.tuple hx
      have hlen := r.length
      exact truthy_tuple pl (by simp only [List.size_toArray]; omega) ⟨H, I.tok _, by rw [isEmpty_of r]; exact q⟩
    · subst e'
      obtain ⟨hz, hS, vs, r, m⟩ : kvs.length ≤ sizeLine ∧ (p == sysModules) = false ∧ ∃ vs, KV kvs vs ∧ s.heap.DictOf (mixKind X.prog X.w) p vs := I.hok p _ hx
      have hlen : kvs.length = vs.length := Paired.length r
      exact wpAny_truthy_dict hS m (by omega) ⟨H, I.tok _, by rw [isEmpty_kv r]; exact q⟩
  | _ => exact (show False from e).elim
theorem pt_truth (ha : PE X a ta) (he : ∀ whole, isTrue a X.env whole = (do let v ← whole; standAt a.pos; holding [v] (truthy v))) :
    PT X a (fun σ H Q => ta σ H fun x H' => ∃ k, TruV X.K x H' k ∧ Q k H') := by
  intro pins s σ H Q I h
  exact isTrue_plain (thn (ha pins s σ H _ I h) fun v s1 ⟨x, H1, I1, r1, q1⟩ => tru_ok pins s1 σ H1 x v Q I1 r1 q1) (he _)
theorem op_add_str : OpR X (binaryOp .Add) (fun x y H Q => ∃ i j, x = .str i ∧ y = .str j ∧ i.length + j.length ≤ sizeLine ∧ Q (.str (i ++ j)) H) := by
  intro pins s σ H x y v u Q I rx ry h
  obtain ⟨i, j, rfl, rfl, hz, q⟩ := h
  obtain ⟨t, rfl⟩ := rx
  obtain ⟨t', rfl⟩ := ry
  exact add_str (fun t' tk => ⟨.str (i ++ j), H, I.tok _, ⟨_, rfl⟩, q⟩) hz
theorem vals1 {x : V} {us : List Value} (r : Vals [x] us) : ∃ u, us = [u] ∧ RelV x u := by
  cases r with
  | cons r1 r2 => cases r2; exact ⟨_, rfl, r1⟩
theorem vals2 {x y : V} {us : List Value} (r : Vals [x, y] us) : ∃ u w', us = [u, w'] ∧ RelV x u ∧ RelV y w' := by
  cases r with
  | cons r1 r2 =>
    cases r2 with
    | cons r3 r4 => cases r4; exact ⟨_, _, rfl, r1, r3⟩
theorem call_max2 (hc : X.calm = true) : CallR X (.builtin "max") (fun xs H Q => ∃ i j, xs = [.int i, .int j] ∧ Q (.int (if j > i then j else i)) H) := by
  intro pins s σ H xs us Q I r h
  obtain ⟨i, j, rfl, q⟩ := h
  obtain ⟨u, w', rfl, ⟨t, rfl⟩, ⟨t', rfl⟩⟩ := vals2 r
  refine max_two_ints (I.ok.hd hc) fun h' tk k => ⟨_, H, I.kept k, ?_, q⟩
  by_cases hj : j > i
  · rw [if_pos hj, if_pos hj]; exact ⟨_, rfl⟩
  · rw [if_neg hj, if_neg hj]; exact ⟨_, rfl⟩
theorem call_min2 (hc : X.calm = true) : CallR X (.builtin "min") (fun xs H Q => ∃ i j, xs = [.int i, .int j] ∧ Q (.int (if j < i then j else i)) H) := by
  intro pins s σ H xs us Q I r h
  obtain ⟨i, j, rfl, q⟩ := h
  obtain ⟨u, w', rfl, ⟨t, rfl⟩, ⟨t', rfl⟩⟩ := vals2 r
  refine min_two_ints (I.ok.hd hc) fun h' tk k => ⟨_, H, I.kept k, ?_, q⟩
  by_cases hj : j < i
  · rw [if_pos hj, if_pos hj]; exact ⟨_, rfl⟩
  · rw [if_neg hj, if_neg hj]; exact ⟨_, rfl⟩
theorem call_str_int : CallR X (.type "str") (fun xs H Q => ∃ i, xs = [.int i] ∧ i.natAbs.log2 < 1920 ∧ Q (.str (toString i)) H) := by
  intro pins s σ H xs us Q I r h
  obtain ⟨i, rfl, hz, q⟩ := h
  obtain ⟨u, rfl, t, rfl⟩ := vals1 r
  exact PySem.P.str_of_int hz ⟨.str _, H, I.tok _, ⟨_, rfl⟩, q⟩
end
end L2
namespace L2
open PySem PySem.Spec PyProof.Rows
structure ObjM (h : Heap) (x dx C : Addr) (mA : Str → Option Value) : Prop where
  obj : h.get? x = some (PySem.W.instObj C dx)
  ns : h.Ns1 dx mA
  ne : dx ≠ x
theorem lookIn_ns {h : Heap} {dx : Addr} {mA : Str → Option Value} (n : h.Ns1 dx mA) : ∃ od, h.get? dx = some od ∧ ∀ name, PySem.W.lookIn name od = some (mA name) := by
  obtain ⟨o, es, ep, ho, hd, hk, _, hm⟩ := n
  refine ⟨o, ho, fun name => ?_⟩
  have e := hm name
  unfold nsFind findBy at e
  rw [← Array.find?_toList] at e
  unfold PySem.W.lookIn
  rw [hd]
  dsimp only
  split
  · rename_i y q
    rw [q] at e
    exact congrArg some e
  · rename_i q
    rw [q] at e
    have a : es.toList.any (·.refKey) = false := by
      rw [List.any_eq_false]
      intro y hy
      obtain ⟨z, t, hkey⟩ := hk y (Array.mem_toList_iff.mp hy)
      simp [DictEntry.refKey, hkey]
    have a' : ¬ es.toList.any (·.refKey) = true := by rw [a]; exact Bool.false_ne_true
    rw [if_neg a']
    exact congrArg some e
theorem ObjM.look {h : Heap} {x dx C : Addr} {mA : Str → Option Value} (I : ObjM h x dx C mA) : ∃ od, PySem.W.InstAt h x (PySem.W.instObj C dx) C (some od) ∧ ∀ name, PySem.W.lookIn name od = some (mA name) :=
  let ⟨od, ho, hl⟩ := lookIn_ns I.ns
  ⟨od, ⟨I.obj, rfl, rfl, ho⟩, hl⟩
section
variable {prog : Program} {w : World} {A : Around} {E : Value → Shared → Prop} {s : Shared} {K : PySem.W.Frag} {x dx C f : Addr} {mA : Str → Option Value} {name : Str} {v : Value}
end
theorem RelO.some_of {v : V} {o : Option Value} (r : RelO (some v) o) : ∃ u, o = some u ∧ RelV v u := by
  cases o with
  | none => exact (show False from r).elim
  | some u => exact ⟨u, rfl, r⟩
section
variable {P : Program} {w : World} {H H' : Hp} {h h' : Heap} {a C dx : Addr} {fs fs' : List (Str × V)}
theorem ins_get (hok : HOk P w H h) (e : H a = some (.ins C dx fs)) : ∃ mA, ObjM h a dx C mA ∧ (∀ f, RelO (fs.lookup f) (mA f)) ∧ PySem.Within mA (fs.map (·.1)) ∧ fs.length ≤ 1000 ∧ H dx = some (.own a) := by
  obtain ⟨d, z, ne, ob, mA, n, r, q⟩ := (show ObjOk P w H h a (.ins C dx fs) from hok a _ e)
  exact ⟨mA, ⟨ob, n, ne⟩, r, q, z, d⟩
end
structure Cls (K : PySem.W.Frag) (C : Addr) : Prop where
  pg : PySem.W.plainGet K C Str.empty = true
  hd : PySem.W.hasDictIn K C = true
  po : PySem.W.plainOver K C = true
  sa : PySem.W.findIn K (.ref C) "__setattr__" = some (some (.builtin "object.__setattr__"))
theorem Cls.get {K : PySem.W.Frag} {C : Addr} (c : Cls K C) (f : Str) : PySem.W.plainGet K C f = true := c.pg
section
variable {X : Cx} {pins : List (Addr × Obj)} {σ : St} {H : Hp} {s : Shared} {a C dx : Addr} {fs : List (Str × V)} {f : Str} {v : V} {A : Around} {E : Value → Shared → Prop}
end
section
variable {X : Cx} {o e value : Expr} {f : Str} {pos pos' tpos : Pos} {ta tv : TE}
end
section
variable {X : Cx} {pins : List (Addr × Obj)} {σ : St} {H : Hp} {s : Shared} {A : Around} {E : Value → Shared → Prop} {Q : Value → Shared → Prop} {c : Value} {b : Bool}
inductive TyOf (K : PySem.W.Frag) (H : Hp) : V → Value → Prop where
  | non : TyOf K H .non (.type "NoneType")
  | bl (x : Bool) : TyOf K H (.bl x) (.type "bool")
  | int (i : Int) : TyOf K H (.int i) (.type "int")
  | str (x : Str) : TyOf K H (.str x) (.type "str")
  | flt (x : UInt64) : TyOf K H (.flt x) (.type "float")
  | lst {a : Addr} {xs : List V} (e : H a = some (.lst xs)) : TyOf K H (.ref a) (.type "list")
  | frz {a : Addr} {o : Obj} {xs : List V} (e : H a = some (.frz o (.lst xs))) : TyOf K H (.ref a) (.type "list")
  | tup {a : Addr} {xs : List V} (e : H a = some (.tup xs)) : TyOf K H (.ref a) (.type "tuple")
  | dK {a : Addr} {kvs : List (Key × V)} (e : H a = some (.dK kvs)) : TyOf K H (.ref a) (.type "dict")
  | dT {a : Addr} {kvs : List (List Key × V)} (e : H a = some (.dT kvs)) : TyOf K H (.ref a) (.type "dict")
  | ins {a C dx : Addr} {fs : List (Str × V)} (e : H a = some (.ins C dx fs)) (cl : Cls K C) (ha : PySem.W.findIn K (.ref C) "__class__" = some (some (.builtin "object.__class__")))
      (hn : PySem.W.specialIn K (.builtin "object.__class__") "__get__" = some (some (.builtin "getset_descriptor.__get__"))) (htk : PySem.W.takesIn K (.builtin "object.__class__") = some true)
      (hm : PySem.W.mroIn K C (.type "object") = some true) : TyOf K H (.ref a) (.ref C)
theorem isinst_ok {x : V} {u t : Value} (I : Inv X pins σ H s) (rx : RelV x u) (ty : TyOf X.K H x t) (e : PySem.W.kitOne X.K t c = some b) (h : ∀ tk, Q (.bool b) { s with toks := tk }) :
    wpAny (model X.prog X.w) A (call (.builtin "isinstance") [u, c]) Q E s := by
  cases ty with
  | non => cases (show u = Value.none from rx); exact PySem.W.kia_one PySem.W.kitx_none I.kIn True.intro e (fun z => nomatch z) h
  | bl y => cases (show u = Value.bool y from rx); exact PySem.W.kia_one PySem.W.kitx_bool I.kIn True.intro e (fun z => nomatch z) h
  | int i => obtain ⟨t, q⟩ := (show ∃ t, u = Value.int i t from rx); cases q; exact PySem.W.kia_one PySem.W.kitx_int I.kIn True.intro e (fun z => nomatch z) h
  | str y => obtain ⟨t, q⟩ := (show ∃ t, u = Value.str y t from rx); cases q; exact PySem.W.kia_one PySem.W.kitx_str I.kIn True.intro e (fun z => nomatch z) h
  | flt y => obtain ⟨t, q⟩ := (show ∃ t, u = Value.float y t from rx); cases q; exact PySem.W.kia_one PySem.W.kitx_float I.kIn True.intro e (fun z => nomatch z) h
  | @lst a xs ea =>
    cases (show u = Value.ref a from rx)
    obtain ⟨_, _, n, _, h1⟩ := (show ObjOk X.prog X.w H s.heap a (.lst xs) from I.hok a _ ea)
    exact PySem.W.kia_one PySem.W.kitx_list I.kIn ⟨_, h1, rfl⟩ e (fun z => nomatch z) h
  | @frz a ob xs ea =>
    cases (show u = Value.ref a from rx)
    obtain ⟨_, _, _, n, _, h1⟩ := (show ObjOk X.prog X.w H s.heap a (.frz ob (.lst xs)) from I.hok a _ ea)
    exact PySem.W.kia_one PySem.W.kitx_list I.kIn ⟨_, h1, rfl⟩ e (fun z => nomatch z) h
  | @tup a xs ea =>
    cases (show u = Value.ref a from rx)
    obtain ⟨_, _, _, p⟩ := (show ObjOk X.prog X.w H s.heap a (.tup xs) from I.hok a _ ea)
    obtain ⟨o, h1, h2, _⟩ := p
    exact PySem.W.kia_one PySem.W.kitx_tuple I.kIn ⟨o, h1, h2⟩ e (fun z => nomatch z) h
  | @dK a kvs ea =>
    cases (show u = Value.ref a from rx)
    obtain ⟨_, _, vs, _, p⟩ := (show ObjOk X.prog X.w H s.heap a (.dK kvs) from I.hok a _ ea)
    obtain ⟨o, es, ep, h1, h2, _⟩ := p
    exact PySem.W.kia_one PySem.W.kitx_dict I.kIn ⟨o, h1, h2.1⟩ e (fun z => nomatch z) h
  | @dT a kvs ea =>
    cases (show u = Value.ref a from rx)
    obtain ⟨_, _, xs, _, o, es, ep, h1, h2, _⟩ := (show ObjOk X.prog X.w H s.heap a (.dT kvs) from I.hok a _ ea)
    exact PySem.W.kia_one PySem.W.kitx_dict I.kIn ⟨o, h1, h2.1⟩ e (fun z => nomatch z) h
  | @ins a C dx fs ea cl ha hn htk hm =>
    cases (show u = Value.ref a from rx)
    obtain ⟨mA, O, _⟩ := ins_get I.hok ea
    obtain ⟨od, J, _⟩ := O.look
    exact PySem.W.kia_one (PySem.W.kitx_own (cl.get _) cl.hd ha hn htk hm) I.kIn J e (fun z => nomatch z) h
end
end L2
namespace L2
open PySem PySem.Spec PyProof.Rows
structure Room (k : Nat) (A : Around) : Prop where
  hd : A.handled = none
  dp : A.depth + 3 * k + 5 < recursionLimit
  un : A.units + 16 * k + 200 < cLine
theorem Room.deeper {k : Nat} {A : Around} (r : Room (k + 1) A) (env : Env) : Room k (A.deeper env) :=
  ⟨r.hd, by have := r.dp; show A.depth + 1 + 3 * k + 5 < _; omega, by have := r.un; show A.units + 3 + 16 * k + 200 < _; omega⟩
theorem Room.depth {k : Nat} {A : Around} (r : Room k A) : A.depth < recursionLimit := by have := r.dp; omega
def tNil : TA := fun _ H Q => Q [] H
def tCons (ta : TE) (tr : TA) : TA := fun σ H Q => ta σ H fun x H1 => tr σ H1 fun xs H2 => Q (x :: xs) H2
section
variable {X : Cx} {e : Expr} {es : List Expr} {te : TE} {t : TA} {pos : Pos}
theorem pa_nil : PA X [] tNil := fun _ _ _ _ H Q I h => Calls.spliced_nil ⟨[], H, I, .nil, h⟩
theorem pa_cons (ha : PE X e te) (hr : PA X es t) (hs : starEach (e :: es) X.env = (false, eval e X.env) :: starEach es X.env := by rfl) : PA X (e :: es) (tCons te t) := by
  intro pos pins s σ H Q I h
  rw [hs]
  show wpAny _ _ (spliced ((false, eval e X.env) :: backTo pos (starEach es X.env))) _ _ s
  refine Calls.spliced_cons (thn (ha pins s σ H _ I h) fun u s1 ⟨x, H1, I1, r1, q1⟩ => ?_)
  exact thn (hr pos pins s1 σ H1 _ I1 q1) fun us s2 ⟨xs, H2, I2, r2, q2⟩ => ⟨x :: xs, H2, I2, .cons r1 r2, q2⟩
def tTup (t : TA) : TE := fun σ H Q => t σ H fun xs H1 => xs.length ≤ sizeLine ∧ ∀ p, H1 p = none → Q (.ref p) (upd H1 p (.tup xs))
def tLst (t : TA) : TE := fun σ H Q => t σ H fun xs H1 => xs.length ≤ sizeLine ∧ ∀ p, H1 p = none → Q (.ref p) (upd H1 p (.lst xs))
theorem pe_tup {x1} (h : PA X es t) : PE X (.Tuple es x1 pos) (tTup t) := by
  intro pins s σ H Q I hq
  refine wpAny_Tuple_spliced (thn (h pos pins s σ H _ I hq) fun us s1 ⟨xs, H1, I1, r, z, q⟩ => ⟨by rw [← r.length]; exact z, ?_⟩)
  have hf : H1 s1.heap.objs.size = none := I1.hok.fresh (Nat.le_refl _)
  refine ⟨.ref s1.heap.objs.size, upd H1 s1.heap.objs.size (.tup xs), I1.laid (t' := s1.toks) (fun b u e => Heap.get?_push_of_some _ e) (Nat.le_refl _) ?_, rfl, q _ hf⟩
  exact ⟨z, us, r, ⟨_, Heap.get?_push_size _ rfl, rfl, _, rfl⟩⟩
theorem pe_lst (h : PA X es t) : PE X (.List es pos) (tLst t) := by
  intro pins s σ H Q I hq
  refine wpAny_List_spliced (thn (h pos pins s σ H _ I hq) fun us s1 ⟨xs, H1, I1, r, z, q⟩ => ⟨by rw [← r.length]; exact z, ?_⟩)
  have hf : H1 s1.heap.objs.size = none := I1.hok.fresh (Nat.le_refl _)
  refine ⟨.ref s1.heap.objs.size, upd H1 s1.heap.objs.size (.lst xs), I1.laid (t' := s1.toks) (fun b u e => Heap.get?_push_of_some _ e) (Nat.le_refl _) ?_, rfl, q _ hf⟩
  exact ⟨z, us, 0, r, Heap.get?_push_size _ rfl⟩
end
abbrev Sp := List V → Hp → VK → XK → Prop
abbrev CXT := List Env → Hp → Shared → XK → Value → Shared → Prop
structure Env0 (P : Program) (w : World) (K : PySem.W.Frag) (mg : Str → Option Value) (base : Heap) (A : Around) (outer : List Env) (s : Shared) (H : Hp) : Prop where
  frames : A.frames = some outer
  mod : Mod K mg base
  bs : ∀ b o, base.get? b = some o → s.heap.get? b = some o ∧ H b = none
  bsz : base.objs.size ≤ s.heap.objs.size
  funs : s.heap.FunFrames base outer
  frf : ∀ b ∈ frs outer, H b = none
  hok : HOk P w H s.heap
  bare : AllBare s.gens
def CE (outer : List Env) (P : Program) (w : World) (H : Hp) (s : Shared) (Q : VK) (u : Value) (s' : Shared) : Prop :=
  ∃ v H', s'.os = s.os ∧ AllBare s'.gens ∧ Un (frs outer) [] H H' s.heap s'.heap ∧ HOk P w H' s'.heap ∧ RelV v u ∧ Q v H'
def CR (CX : CXT) (outer : List Env) (P : Program) (w : World) (H : Hp) (s : Shared) (Q : VK) (E : XK) (r : Result) (s' : Shared) : Prop :=
  match r with
  | .ok (.ret u) => CE outer P w H s Q u s'
  | .ok _ => False
  | .error e => CX outer H s E e s'
structure FnOk (P : Program) (w : World) (K : PySem.W.Frag) (mg : Str → Option Value) (base : Heap) (CX : CXT) (k : Nat) (f : Addr) (fd : FuncData) (ps : List Str) (sp : Sp) : Prop where
  len : ∀ vs H Q E, sp vs H Q E → vs.length = ps.length
  run : ∀ (A : Around) (outer : List Env) (s : Shared) (H : Hp) (args : Args) (us : List Value) (vs : List V) (Q : VK) (E : XK), Room k A → Env0 P w K mg base A outer s H → BindsTo s fd args (ps.zip us) → Vals vs us → sp vs H Q E →
    codeAny (model P w) A (.call (.ref f) args) (CR CX outer P w H s Q E) s
section
variable {X : Cx} {pins : List (Addr × Obj)} {σ : St} {H : Hp} {s s' : Shared}
theorem Inv.env0 (I : Inv X pins σ H s) : Env0 X.prog X.w X.K X.mg X.base X.A X.stack s H :=
  ⟨I.ok.frames, I.ok.mod, I.bs, Nat.le_trans I.ok.bsz I.sz, I.stack, I.stkFree, I.hok, I.bare⟩
theorem Inv.after {Q : VK} {u : Value} (I : Inv X pins σ H s) (h : CE X.stack X.prog X.w H s Q u s') : EP X pins σ Q u s' := by
  obtain ⟨v, H', os, bare, un, hok, r, q⟩ := h
  obtain ⟨hh, g, d, t, os'⟩ := s'
  obtain rfl : os' = s.os := os
  exact ⟨v, H', I.call (h' := hh) (g' := g) (d' := d) (t' := t) (ch := []) un hok bare (fun b z => absurd z (by simp)), r, q⟩
end
def tCall (sp : Sp) (dvs : List V) (E : XK) (t : TA) : TE := fun σ H Q => t σ H fun vs H1 => sp (vs ++ dvs) H1 Q E
def Binds (K : PySem.W.Frag) (fd : FuncData) (ps : List Str) (ds : List Value) : Prop :=
  ∀ (s : Shared) (us : List Value), K.In s.heap → (us ++ ds).length = ps.length → BindsTo s fd ⟨us, []⟩ (ps.zip (us ++ ds))
theorem Binds.all {K : PySem.W.Frag} {fd : FuncData} {ps : List Str} (h : ∀ us : List Value, us.length = ps.length → bindArgs fd ⟨us, []⟩ = pure (ps.zip us)) : Binds K fd ps [] := fun s us _ hl => by
  rw [List.append_nil] at hl ⊢
  exact .of_eq (h us hl)
def Passes (CX : CXT) (X : Cx) (E : XK) : Prop := ∀ (pins : List (Addr × Obj)) (σ : St) (H : Hp) (s : Shared) (e : Value) (s' : Shared), Inv X pins σ H s → CX X.stack H s E e s' → X.xe e s'
section
variable {X : Cx} {CX : CXT} {k : Nat} {f C : Addr} {fd : FuncData} {ps : List Str} {sp : Sp} {dvs : List V} {ds : List Value} {E : XK} {x m : Str} {p pos apos : Pos} {e o : Expr} {es : List Expr} {ta : TE} {t : TA}
theorem run_fn {pins : List (Addr × Obj)} {σ : St} {H : Hp} {s : Shared} {Q : VK} {us : List Value} {vs : List V} (F : FnOk X.prog X.w X.K X.mg X.base CX k f fd ps sp) (hr : Room k X.A) (hb : Binds X.K fd ps ds) (hd : Vals dvs ds) (hx : Passes CX X E)
    (I : Inv X pins σ H s) (r : Vals vs us) (h : sp (vs ++ dvs) H Q E) : wpAny (model X.prog X.w) X.A (call (.ref f) us) (EP X pins σ Q) X.xe s := by
  have r2 : Vals (vs ++ dvs) (us ++ ds) := r.append hd
  have hl : (us ++ ds).length = ps.length := by rw [← r2.length]; exact F.len _ _ _ _ h
  refine wpAny_call (codeAny_mono (F.run X.A X.stack s H ⟨us, []⟩ (us ++ ds) (vs ++ dvs) Q E hr I.env0 (hb s us I.kIn hl) r2 h) fun r s' hq => ?_)
  cases r with
  | error e => exact hx pins σ H s e s' I hq
  | ok fl =>
    cases fl with
    | ret u => exact I.after hq
    | next => exact False.elim hq
    | brk => exact False.elim hq
    | cont => exact False.elim hq
theorem pe_call (F : FnOk X.prog X.w X.K X.mg X.base CX k f fd ps sp) (hr : Room k X.A) (hg : Gl X x) (hm : X.mg x = some (.ref f)) (hk : PySem.W.keepIn X.K (.ref f) = true) (hb : Binds X.K fd ps ds) (hd : Vals dvs ds) (hx : Passes CX X E)
    (ha : PA X (e :: es) t) (hdb : (x == ("__debug__" : Str)) = false := by decide) (he : starEach (e :: es) X.env = (false, eval e X.env) :: starEach es X.env := by rfl) (hpl : (backTo pos (starEach es X.env)).any (·.1) = false := by rfl) :
    PE X (.Call (.Name x p) (e :: es) [] pos) (tCall sp dvs E t) := by
  intro pins s σ H Q I h
  refine wpAny_Call_Name_kw (ld_glob I hg hm ?_ hdb)
  refine PySem.W.callWith_K (h₀ := X.base) I.ok.mod.kin hk (thn (ha pos pins s σ H _ I h) fun us s1 ⟨vs, H1, I1, r, q⟩ => ⟨I1.kIn, ?_⟩) he hpl
  exact run_fn F hr hb hd hx I1 r q
theorem pe_call0 (F : FnOk X.prog X.w X.K X.mg X.base CX k f fd ps sp) (hr : Room k X.A) (hg : Gl X x) (hm : X.mg x = some (.ref f)) (hk : PySem.W.keepIn X.K (.ref f) = true) (hb : Binds X.K fd ps ds) (hd : Vals dvs ds) (hx : Passes CX X E)
    (hdb : (x == ("__debug__" : Str)) = false := by decide) : PE X (.Call (.Name x p) [] [] pos) (tCall sp dvs E tNil) := by
  intro pins s σ H Q I h
  refine wpAny_Call_Name_kw (ld_glob I hg hm ?_ hdb)
  exact PySem.W.callWith_K0 I.kIn hk (run_fn (us := []) F hr hb hd hx I .nil h)
end
section
variable {X : Cx} {CX : CXT} {k : Nat} {f C : Addr} {fd : FuncData} {ps ks : List Str} {sp : Sp} {E : XK} {x m : Str} {p pos apos kpos : Pos} {e o : Expr} {es : List Expr} {kws : List Keyword} {te ta : TE} {t tk : TA} {nm : Option Str}
variable {g : List Value → List Value → List Value} {gV : List V → List V → List V}
end
structure FnScope (N P : List Str) (sc : Scope) : Prop where
  kind : sc.kind = .function
  co : sc.isCoroutine = false
  gen : sc.isGenerator = false
  nd : N.Nodup
  pre : N.take P.length = P
  par : ∀ x ∈ P, sc.names.lookup x = some .local ∨ sc.names.lookup x = some .cell
  nofree : ∀ y ∈ sc.names, y.2 ≠ .free
theorem bindL_out {kindOf : Str → Option NameKind} {x : Str} : ∀ {binds : List (Str × Value)} {m : Str → Option Value}, (∀ v, (x, v) ∉ binds) → bindL kindOf binds m x = m x
  | [], _, _ => rfl
  | (n, v) :: r, m, h => by
    unfold bindL
    rw [bindL_out fun w hw => h w (List.mem_cons_of_mem _ hw)]
    split
    · have : x ≠ n := by rintro rfl; exact h v List.mem_cons_self
      simp [this]
    · rfl
theorem bindC_out {kindOf : Str → Option NameKind} {x : Str} : ∀ {binds : List (Str × Value)} {m : Str → Option Value}, (∀ v, (x, v) ∉ binds) → bindC kindOf binds m x = m x
  | [], _, _ => rfl
  | (n, v) :: r, m, h => by
    unfold bindC
    rw [bindC_out fun w hw => h w (List.mem_cons_of_mem _ hw)]
    split
    · rfl
    · have : x ≠ n := by rintro rfl; exact h v List.mem_cons_self
      simp [this]
theorem bindL_get {kindOf : Str → Option NameKind} {x : Str} {v : Value} : ∀ {P : List Str} {vs : List Value} {i : Nat} {m : Str → Option Value}, P.Nodup → P[i]? = some x → vs[i]? = some v → kindOf x = some .local →
    bindL kindOf (P.zip vs) m x = some v
  | [], _, _, _, _, h, _, _ => by simp at h
  | _ :: _, [], _, _, _, _, h, _ => by simp at h
  | p :: P, w :: vs, 0, m, nd, h1, h2, hk => by
    simp at h1 h2; subst h1; subst h2
    show bindL kindOf ((p, w) :: P.zip vs) m p = _
    unfold bindL
    rw [bindL_out fun v hv => (List.nodup_cons.mp nd).1 (List.of_mem_zip hv).1, if_pos hk]
    simp
  | p :: P, w :: vs, i + 1, m, nd, h1, h2, hk => by
    show bindL kindOf ((p, w) :: P.zip vs) m x = _
    unfold bindL
    exact bindL_get (i := i) (List.nodup_cons.mp nd).2 (by simpa using h1) (by simpa using h2) hk
theorem bindC_get {kindOf : Str → Option NameKind} {x : Str} {v : Value} : ∀ {P : List Str} {vs : List Value} {i : Nat} {m : Str → Option Value}, P.Nodup → P[i]? = some x → vs[i]? = some v → kindOf x ≠ some .local →
    bindC kindOf (P.zip vs) m x = some v
  | [], _, _, _, _, h, _, _ => by simp at h
  | _ :: _, [], _, _, _, _, h, _ => by simp at h
  | p :: P, w :: vs, 0, m, nd, h1, h2, hk => by
    simp at h1 h2; subst h1; subst h2
    show bindC kindOf ((p, w) :: P.zip vs) m p = _
    unfold bindC
    rw [bindC_out fun v hv => (List.nodup_cons.mp nd).1 (List.of_mem_zip hv).1, if_neg hk]
    simp
  | p :: P, w :: vs, i + 1, m, nd, h1, h2, hk => by
    show bindC kindOf ((p, w) :: P.zip vs) m x = _
    unfold bindC
    exact bindC_get (i := i) (List.nodup_cons.mp nd).2 (by simpa using h1) (by simpa using h2) hk
def start (N : List Str) (vs : List V) : St := vs.map some ++ List.replicate (N.length - vs.length) none
def cxOf (CX : CXT) (P : Program) (w : World) (K : PySem.W.Frag) (mg : Str → Option Value) (base : Heap) (N : List Str) (qual : Str) (scope : Scope) (f : Addr) (cd : Value) (A : Around) (outer : List Env) (s : Shared) (H : Hp) (E : XK) : Cx where
  prog := P
  w := w
  K := K
  mg := mg
  base := base
  A := A.deeper (envOfC qual scope s.heap.objs.size f cd)
  N := N
  s₀ := s
  H₀ := H
  env := envOfC qual scope s.heap.objs.size f cd
  outer := outer
  stack := envOfC qual scope s.heap.objs.size f cd :: outer
  ex := []
  calm := true
  fn := fun _ => true
  pn := []
  xe := fun e s' => wpAny (model P w) (A.deeper (envOfC qual scope s.heap.objs.size f cd)) (leaving (envOfC qual scope s.heap.objs.size f cd) e) (fun _ s'' => CX outer H s E e s'') (fun e' s'' => CX outer H s E e' s'') s'
theorem cell_has {sc : Scope} {n : Nat} {x : Str} (h : sc.names.lookup x = some .cell) : ∃ c, (cellsFrom n sc.names []).lookup x = some c := by
  have q := PySem.W.cellsFrom_some sc.names n [] (.inl h)
  exact Option.isSome_iff_exists.mp q
theorem inv_start {CX : CXT} {P : Program} {w : World} {K : PySem.W.Frag} {mg : Str → Option Value} {base : Heap} {N ps : List Str} {qual : Str} {scope : Scope} {f : Addr} {cd : Value} {A : Around} {outer : List Env} {s s1 : Shared} {H : Hp} {E : XK} {us : List Value} {vs : List V}
    (S : FnScope N ps scope) (hd : A.handled = none) (e0 : Env0 P w K mg base A outer s H) (hl : vs.length = ps.length) (r : Vals vs us)
    (x : InCallC s s.heap.objs.size (bindL (envOfC qual scope s.heap.objs.size f cd).kindOf (ps.zip us) fun _ => none) (cellsFrom (s.heap.objs.size + 1) scope.names []) (bindC (envOfC qual scope s.heap.objs.size f cd).kindOf (ps.zip us) fun _ => none) s1) :
    Inv (cxOf CX P w K mg base N qual scope f cd A outer s H E) [] (start N vs) H s1 := by
  have hpl : ps.length ≤ N.length := by have := congrArg List.length S.pre; rw [List.length_take] at this; omega
  obtain ⟨h1, tk, rfl, hk⟩ := x.done
  have noA : ∀ b : Addr, b ∉ (cxOf CX P w K mg base N qual scope f cd A outer s H E).ex := fun b z => absurd (show b ∈ ([] : List Addr) from z) (by simp)
  refine ⟨⟨e0.mod, S.kind, rfl, rfl, Nat.le_refl _, fun y z c h1 h2 => ?_, fun y hy => ?_, fun y c _ h => ?_, fun _ => hd, Around.frames_deeper e0.frames, .inr ⟨rfl, rfl⟩, fun b z => absurd z (noA b), e0.bs, e0.bsz, fun b _ _ => noA b, fun b z => absurd z (noA b), e0.funs, e0.frf⟩,
    rfl, e0.bare, Un.kept hk, ⟨_, x.toInCall.ns, fun i y v h1 h2 h3 => ?_⟩, fun y c h => ⟨_, x.cell y c h⟩, e0.hok.fresh (Nat.le_refl _), fun y c h => ?_, fun p hp => absurd (show p ∈ ([] : List (Addr × Obj)) from hp) (by simp), e0.hok.kept hk, ?_⟩
  · exact name_of_addr x.apart (PySem.mem_of_lookup h1) (PySem.mem_of_lookup h2)
  · have hy : scope.names.lookup y = some .cell ∨ scope.names.lookup y = some .free := hy
    rcases hy with hy | hy
    · exact cell_has hy
    · exact absurd rfl (S.nofree _ (PySem.mem_of_lookup hy))
  · exact Nat.le_of_lt (x.above y c (PySem.mem_of_lookup h))
  · have hi : i < vs.length := by
      unfold start at h2
      by_cases hi : i < vs.length
      · exact hi
      · rw [List.getElem?_append_right (by simpa using hi)] at h2
        rw [List.getElem?_replicate] at h2
        split at h2 <;> cases h2
    have ha : vs[i]? = some v := by
      unfold start at h2
      rw [List.getElem?_append_left (by simpa using hi), List.getElem?_map] at h2
      cases e : vs[i]? with
      | none => rw [e] at h2; cases h2
      | some a => rw [e] at h2; cases h2; rfl
    obtain ⟨u, hu, rv⟩ := r.get ha
    have hp : ps[i]? = some y := by
      rw [← S.pre, List.getElem?_take_of_lt (by omega)]; exact h1
    have ndP : ps.Nodup := by rw [← S.pre]; exact S.nd.sublist (List.take_sublist _ _)
    refine ⟨u, rv, ?_⟩
    rcases S.par y (List.mem_of_getElem? hp) with k | k
    · exact .inl ⟨k, bindL_get ndP hp hu k⟩
    · obtain ⟨c, e⟩ := cell_has (n := s.heap.objs.size + 1) k
      refine .inr ⟨.inl k, c, e, ?_⟩
      have q := x.cell y c e
      rw [bindC_get ndP hp hu (by show scope.names.lookup y ≠ _; rw [k]; decide)] at q
      exact q
  · exact e0.hok.fresh (Nat.le_of_lt (x.above y c (PySem.mem_of_lookup h)))
  · unfold start
    show _ = N.length
    rw [List.length_append, List.length_map, List.length_replicate]
    omega
theorem fn_of {CX : CXT} {P : Program} {w : World} {K : PySem.W.Frag} {mg : Str → Option Value} {base : Heap} {k : Nat} {f : Addr} {name qual : Str} {params : Arguments} {body : List Stmt} {scope : Scope} {dV kV doc pm cdv ct oc : Value} {an od : Option Addr}
    {osl : Array (Option Value)} {N ps : List Str} {sp : Sp} (lk : K.lookup f = some ⟨oc, od, .func (PySem.W.fnOf name qual params body scope dV kV doc pm an cdv ct), osl⟩) (hcd : PySem.W.codeIn K cdv qual = true) (S : FnScope N ps scope)
    (len : ∀ vs H Q E, sp vs H Q E → vs.length = ps.length)
    (hbody : ∀ (A : Around) (outer : List Env) (s : Shared) (H : Hp) (vs : List V) (Q : VK) (E : XK), Room k (A.deeper (envOfC qual scope s.heap.objs.size f cdv)) → sp vs H Q E →
      ∃ t, PSs (cxOf CX P w K mg base N qual scope f cdv A outer s H E) body t ∧ t { nx := fun _ H' => Q .non H', rt := Q } (start N vs) H) :
    FnOk P w K mg base CX (k + 1) f (PySem.W.fnOf name qual params body scope dV kV doc pm an cdv ct) ps sp := by
  refine ⟨len, fun A outer s H args us vs Q E hr e0 hb r hsp => ?_⟩
  have hl := len _ _ _ _ hsp
  have KX : K.In s.heap := e0.mod.kin.keeps fun b o e => (e0.bs b o e).1
  have lim : s.heap.NoLimit := e0.mod.nolimit.keeps fun b o e => (e0.bs b o e).1
  have hkind : ∀ y ∈ ps.zip us, scope.names.lookup y.1 = some .local ∨ (scope.names.lookup y.1 = some .cell ∧ ((cellsFrom (s.heap.objs.size + 1) scope.names []).lookup y.1).isSome = true) := fun ⟨n, v⟩ hy => by
    rcases S.par n (List.of_mem_zip hy).1 with q | q
    · exact .inl q
    · exact .inr ⟨q, PySem.W.cellsFrom_some _ _ _ (.inl q)⟩
  refine codeAny_call_function hr.depth (KX _ _ lk) rfl S.co S.gen rfl (PySem.W.codeRec_of KX hcd) (hb _ _ _ _ ?_)
  refine wpAny_newFunctionEnv_cells S.kind hkind fun env he s1 x => ?_
  subst he
  refine ⟨lim.keeps x.toInCall.keep, codeAny_func ?_⟩
  obtain ⟨t, ht, hq⟩ := hbody A outer s H vs Q E (hr.deeper _) hsp
  have I : Inv (cxOf CX P w K mg base N qual scope f cdv A outer s H E) [] (start N vs) H s1 := inv_start S hr.hd e0 hl r x
  refine wpAny_mono (ht [] s1 (start N vs) H _ I hq) (fun fl s' hs => ?_) fun e s' hs => hs
  have fin : ∀ {σ' : St} {H' : Hp} {v : V} {u : Value}, Inv (cxOf CX P w K mg base N qual scope f cdv A outer s H E) [] σ' H' s' → RelV v u → Q v H' → CE outer P w H s Q u s' :=
    fun {σ' H' v u} J rv q => ⟨v, H', J.os, J.bare, J.base, J.hok, rv, q⟩
  cases fl with
  | ret u =>
    obtain ⟨v, σ', H', J, rv, q⟩ := hs
    exact fin J rv q
  | next =>
    obtain ⟨σ', H', J, q⟩ := hs
    exact fin (v := V.non) (u := Value.none) J rfl q
  | brk =>
    obtain ⟨_, _, _, q⟩ := hs
    exact False.elim q
  | cont =>
    obtain ⟨_, _, _, q⟩ := hs
    exact False.elim q
end L2
namespace L2
open PySem PySem.Spec PyProof.Rows
section
variable {X : Cx} {x : Str} {p pos : Pos} {e : Expr} {es : List Expr} {t : TA} {id T : String} {r : List V → Hp → VK → Prop}
def tCB (r : List V → Hp → VK → Prop) (t : TA) : TE := fun σ H Q => t σ H fun vs H1 => r vs H1 Q
theorem pe_callB (hc : CallR X (.builtin id) r) (hg : Gl X x) (hm : X.mg x = none) (hv : bootBuiltins x = some (.builtin id)) (ha : PA X (e :: es) t) (hn : x ≠ "__name__" := by decide) (hdb : (x == ("__debug__" : Str)) = false := by decide)
    (he : starEach (e :: es) X.env = (false, eval e X.env) :: starEach es X.env := by rfl) (hpl : (backTo pos (starEach es X.env)).any (·.1) = false := by rfl) : PE X (.Call (.Name x p) (e :: es) [] pos) (tCB r t) := by
  intro pins s σ H Q I h
  refine wpAny_Call_Name_kw (ld_blt I hg hm hv ?_ hn hdb)
  exact PyProof.Rows.callWith_builtin1 (thn (ha pos pins s σ H _ I h) fun us s1 ⟨vs, H1, I1, r1, q1⟩ => hc pins s1 σ H1 vs us Q I1 r1 q1) he hpl
theorem pe_callTy (hc : CallR X (.type T) r) (hg : Gl X x) (hm : X.mg x = none) (hv : bootBuiltins x = some (.type T)) (ha : PA X (e :: es) t) (hn : x ≠ "__name__" := by decide) (hdb : (x == ("__debug__" : Str)) = false := by decide)
    (he : starEach (e :: es) X.env = (false, eval e X.env) :: starEach es X.env := by rfl) (hpl : (backTo pos (starEach es X.env)).any (·.1) = false := by rfl) : PE X (.Call (.Name x p) (e :: es) [] pos) (tCB r t) := by
  intro pins s σ H Q I h
  refine wpAny_Call_Name_kw (ld_blt I hg hm hv ?_ hn hdb)
  exact PyProof.Rows.callWith_type1 (thn (ha pos pins s σ H _ I h) fun us s1 ⟨vs, H1, I1, r1, q1⟩ => hc pins s1 σ H1 vs us Q I1 r1 q1) he hpl
end
end L2
namespace HT
open PySem PyProof.Rows
section
open PySem.SeqAt
open PySem.AutoSeq1 (wpAny_loadPart')
open PySem.MeetsSeq PySem.MeetsSeq2 PySem.MeetsSeq3
end
section
variable {prog : Program} {w : World} {A : Around} {E : Value → Shared → Prop} {s : Shared}
theorem cat_tup {t b : Addr} {vs ws : List Value} {Q : Value → Shared → Prop} (ht : IsTup s.heap t vs.toArray) (hb : IsTup s.heap b ws.toArray) (hv : vs ≠ [])
    (h1 : ws = [] → Q (.ref t) s) (h2 : ws ≠ [] → Q (.ref s.heap.objs.size) { s with heap := s.heap.push { cls := .type "tuple", data := .seq (vs ++ ws).toArray } })
    (hsz : vs.length + ws.length ≤ sizeLine) : wpAny (model prog w) A (binaryOp .Add (.ref t) (.ref b)) Q E s := by
  obtain ⟨⟨cls, dd, data, sl⟩, ho, hc, n, hd⟩ := id ht
  obtain ⟨⟨cls2, dd2, data2, sl2⟩, ho2, hc2, n2, hd2⟩ := id hb
  simp only at hc hd hc2 hd2
  subst hc hd hc2 hd2
  have e : vs.toArray ++ ws.toArray = (vs ++ ws).toArray := by simp
  by_cases hw : ws = []
  · exact concat_meets ⟨_, ho, rfl⟩ ⟨_, ho2, rfl⟩ noFill_tuple_add seq_tuple_add PySem.F.slot_tuple_add PySem.F.entry_tuple_add (PySem.F.args_tuple_add_2 _ _)
      (tuple_addW1 t b vs.toArray ws.toArray n n2 dd dd2 sl sl2 (by simpa using hv) (by simp [hw])) ⟨ho, ho2, h1 hw⟩
  · refine concat_meets ⟨_, ho, rfl⟩ ⟨_, ho2, rfl⟩ noFill_tuple_add seq_tuple_add PySem.F.slot_tuple_add PySem.F.entry_tuple_add (PySem.F.args_tuple_add_2 _ _)
      (tuple_addW2 t b vs.toArray ws.toArray n n2 dd dd2 sl sl2 (by simpa using hv) (by simpa using hw) (by rw [List.size_toArray, List.size_toArray]; exact hsz)) ⟨ho, ho2, ?_⟩
    rw [e]
    exact h2 hw
def sIx (n d : Nat) : Option Int → Nat
  | none => d
  | some v => if v < 0 then (v + (n : Int)).toNat else min v.toNat n
theorem sIx_le (n d : Nat) (hd : d ≤ n) (o : Option Int) : sIx n d o ≤ n := by
  cases o with
  | none => exact hd
  | some v =>
    show (if v < 0 then (v + (n : Int)).toNat else min v.toNat n) ≤ n
    by_cases hv : v < 0
    · rw [if_pos hv]; omega
    · rw [if_neg hv]; exact Nat.min_le_right _ _
theorem clip_eq (v : Int) (n d : Nat) : (if v < 0 then max (v + (n : Int)) 0 else min v (n : Int)) = ((sIx n d (some v) : Nat) : Int) := by
  show (if v < 0 then max (v + (n : Int)) 0 else min v (n : Int)) = (((if v < 0 then (v + (n : Int)).toNat else min v.toNat n) : Nat) : Int)
  by_cases hv : v < 0
  · simp only [if_pos hv]; omega
  · simp only [if_neg hv]; omega
theorem adjust_gen (lo hi : Option Int) (n : Nat) : Builtin.Slice.sliceAdjust lo hi 1 (n : Int) = (((sIx n 0 lo : Nat) : Int), ((sIx n n hi : Nat) : Int)) := by
  have h1 : ¬ ((1 : Int) < 0) := by omega
  unfold Builtin.Slice.sliceAdjust
  simp only [h1, if_false]
  refine Prod.ext ?_ ?_
  · cases lo with
    | none => rfl
    | some v => exact clip_eq v n 0
  · cases hi with
    | none => rfl
    | some v => exact clip_eq v n n
theorem places_gen (i j : Nat) : Builtin.Slice.slicePlaces (i : Int) (j : Int) 1 = j - i := by
  unfold Builtin.Slice.slicePlaces
  have h1 : (1 : Int) > 0 := by omega
  simp only [h1, if_true, Int.ediv_one]
  split <;> omega
theorem slicePart_ {v : Value} {o : Option Int} {Q : Option Int → Shared → Prop} (p : IsPart v o) (h : Q o s) : wpAny (model prog w) A (Builtin.Slice.slicePartIndex v) Q E s := by
  cases p with
  | none => exact slicePart_none h
  | int i t => exact slicePart_int h
theorem sliceApplied_gen {sl : Addr} {vl vu : Value} {lo hi : Option Int} {n : Nat} {Q : Int × Int × Nat → Shared → Prop} (hs : s.heap.IsSliceOf sl vl vu .none) (pl : IsPart vl lo) (pu : IsPart vu hi)
    (h : Q (((sIx n 0 lo : Nat) : Int), 1, sIx n n hi - sIx n 0 lo) s) : wpAny (model prog w) A (Builtin.Slice.sliceApplied (.ref sl) (pure (n : Int))) Q E s := by
  obtain ⟨os, hos, hcs, hds⟩ := id hs
  unfold Builtin.Slice.sliceApplied Builtin.Slice.sliceFields
  refine wpAny_bind (wpAny_bind (wpAny_field hos hds (x := vl) rfl (wpAny_bind (wpAny_field hos hds (x := vu) rfl (wpAny_bind (wpAny_field hos hds (x := .none) rfl (wpAny_pure ?_)))))))
  refine wpAny_bind (slicePart_none ?_)
  show wpAny _ _ (if ((1 : Int) == 0) = true then _ else _) _ _ s
  rw [if_neg (by decide)]
  refine wpAny_bind (slicePart_ pl (wpAny_bind (slicePart_ pu (wpAny_bind (wpAny_pure ?_)))))
  show wpAny _ _ (match Builtin.Slice.sliceAdjust lo hi 1 (n : Int) with | (lo, hi) => pure (lo, (1 : Int), Builtin.Slice.slicePlaces lo hi 1)) _ _ s
  rw [adjust_gen lo hi n]
  show wpAny _ _ (pure (((sIx n 0 lo : Nat) : Int), (1 : Int), Builtin.Slice.slicePlaces ((sIx n 0 lo : Nat) : Int) ((sIx n n hi : Nat) : Int) 1)) _ _ s
  rw [places_gen]
  exact wpAny_pure h
theorem pick_gen (xs : Array Value) (i k : Nat) : ((List.range k).filterMap fun (m : Nat) => xs[((i : Int) + (m : Int) * 1).toNat]?).toArray = ((xs.toList.drop i).take k).toArray := by
  have e : (fun (m : Nat) => xs[((i : Int) + (m : Int) * 1).toNat]?) = fun m => xs[i + m]? := by
    funext m
    have : ((i : Int) + (m : Int) * 1).toNat = i + m := by omega
    rw [this]
  rw [e]
  have := pick_run xs i k
  rw [List.filterMap_map] at this
  have e2 : ((fun x => xs[x]?) ∘ fun x => i + x) = fun m => xs[i + m]? := rfl
  rw [e2] at this
  rw [this]
theorem getItem_tuple_cut {t sl : Addr} {items : Array Value} {vl vu : Value} {lo hi : Option Int} {Q : Value → Shared → Prop} (ht : IsTup s.heap t items) (hs : s.heap.IsSliceOf sl vl vu .none) (pl : IsPart vl lo) (pu : IsPart vu hi)
    (hw : ¬ (sIx items.size 0 lo = 0 ∧ sIx items.size items.size hi = items.size))
    (h : Q (.ref s.heap.objs.size) { s with heap := s.heap.push { cls := .type "tuple", data := .seq ((items.toList.drop (sIx items.size 0 lo)).take (sIx items.size items.size hi - sIx items.size 0 lo)).toArray } })
    (hsz : items.size ≤ sizeLine) : wpAny (model prog w) A (getItem (.ref t) (.ref sl)) Q E s := by
  have htake : sizeOk (.seq ((items.toList.drop (sIx items.size 0 lo)).take (sIx items.size items.size hi - sIx items.size 0 lo)).toArray) := by
    show ((items.toList.drop (sIx items.size 0 lo)).take (sIx items.size items.size hi - sIx items.size 0 lo)).toArray.size ≤ sizeLine
    rw [List.size_toArray, List.length_take, List.length_drop, Array.length_toList]
    omega
  have hj : sIx items.size items.size hi ≤ items.size := sIx_le _ _ (Nat.le_refl _) hi
  obtain ⟨os, hos, hcs, hds⟩ := id hs
  have hTs : s.TypeIs (.ref sl) "slice" := ⟨os, hos, hcs⟩
  unfold getItem
  try with_reducible refine wpAny_holding ?_
  first | refine wpAny_bind (wpAny_pure ?_) | skip
  refine wpAny_bind (wpAny_sequenceKey ht.typeIs (by decide) ?_)
  refine wpAny_bind (wpAny_callSpecial?_slot (name := Str.ofString "__getitem__") ht.typeIs PyProof.Rows.slot_tuple_getitem
    (wpAny_call_entry PyProof.Rows.slot_tuple_getitem ht.typeIs entry_tuple_getitem ?_ (args_tuple_getitem _ _)))
  show wpAny _ _ (Builtin.Tuple.tupleItemsOf (.ref t) >>= _) _ _ s
  refine wpAny_bind (tupleItemsOf_ ht ?_)
  refine wpAny_bind (wpAny_typeOf hTs ?_)
  rw [if_pos (by decide)]
  refine wpAny_bind (sliceApplied_gen hs pl pu ?_)
  have hno : ¬ ((((sIx items.size 0 lo : Nat) : Int) == 0 && (1 : Int) == 1 && (sIx items.size items.size hi - sIx items.size 0 lo) == items.size) = true) := by
    intro q
    rw [Bool.and_eq_true, Bool.and_eq_true] at q
    have q1 : ((sIx items.size 0 lo : Nat) : Int) = 0 := eq_of_beq q.1.1
    have q2 : sIx items.size items.size hi - sIx items.size 0 lo = items.size := eq_of_beq q.2
    exact hw ⟨by omega, by omega⟩
  show wpAny _ _ (if (((sIx items.size 0 lo : Nat) : Int) == 0 && (1 : Int) == 1 && (sIx items.size items.size hi - sIx items.size 0 lo) == items.size) = true then _ else _) _ _ s
  rw [if_neg hno, pick_gen]
  first
    | exact wpAny_bind (m := Builtin.Tuple.tupleExact _) (wpAny_newObj_type (wpAny_pure ⟨_, rfl, wpAny_pure h⟩) htake)
    | exact wpAny_bind (m := Builtin.Tuple.tupleExact _) (wpAny_newObj_type (wpAny_bind (wpAny_pure (wpAny_pure ⟨_, rfl, wpAny_pure h⟩))) htake)
    | exact wpAny_bind (wpAny_bind (m := Builtin.Tuple.tupleExact _) (wpAny_newObj_type (wpAny_pure (wpAny_pure ⟨_, rfl, wpAny_pure h⟩)) htake))
    | exact wpAny_bind (wpAny_bind (m := Builtin.Tuple.tupleExact _) (wpAny_newObj_type (wpAny_pure ⟨_, rfl, wpAny_pure h⟩) htake))
end
end HT
namespace L2
open PySem PySem.Spec PyProof.Rows
abbrev TO := St → Hp → (Option Int → Hp → Prop) → Prop
def PO (X : Cx) (e : Option Expr) (t : TO) : Prop :=
  ∀ (pins : List (Addr × Obj)) (s : Shared) (σ : St) (H : Hp) (Q : Option Int → Hp → Prop), Inv X pins σ H s → t σ H Q →
    wpAny (model X.prog X.w) X.A (evalPart e X.env) (fun u s' => ∃ o H', Inv X pins σ H' s' ∧ IsPart u o ∧ Q o H') X.xe s
def tNoPart : TO := fun _ H Q => Q none H
def tPart (t : TE) : TO := fun σ H Q => t σ H fun x H1 => ∃ i, x = .int i ∧ Q (some i) H1
section
variable {X : Cx} {e : Expr} {te : TE} {lo hi : Option Expr} {tl th : TO} {pos p2 : Pos}
theorem po_none : PO X none tNoPart := by
  intro pins s σ H Q I h
  rw [evalPart_none]
  exact wpAny_pure ⟨none, H, I, .none, h⟩
theorem po_some (h : PE X e te) : PO X (some e) (tPart te) := by
  intro pins s σ H Q I hw
  rw [evalPart_some]
  refine thn (h pins s σ H _ I hw) fun u s1 ⟨x, H1, I1, r1, q1⟩ => ?_
  obtain ⟨i, rfl, q⟩ := q1
  obtain ⟨t, rfl⟩ := r1
  exact ⟨some i, H1, I1, .int i t, q⟩
def SlR (X : Cx) (r : V → Option Int → Option Int → Hp → VK → Prop) : Prop :=
  ∀ (pins : List (Addr × Obj)) (s : Shared) (σ : St) (H : Hp) (x : V) (v vl vu : Value) (lo hi : Option Int) (sl : Addr) (Q : VK), Inv X pins σ H s → RelV x v → s.heap.IsSliceOf sl vl vu .none → IsPart vl lo → IsPart vu hi → r x lo hi H Q →
    ∃ T id, typeLookup (.type T) "__getitem__" = pure (some (.builtin id)) ∧ s.TypeIs v T ∧ wpAny (model X.prog X.w) X.A (getItem v (.ref sl)) (EP X pins σ Q) X.xe s
theorem SlR.or {r r' : V → Option Int → Option Int → Hp → VK → Prop} (h : SlR X r) (h' : SlR X r') : SlR X (fun x lo hi H Q => r x lo hi H Q ∨ r' x lo hi H Q) := by
  intro pins s σ H x v vl vu lo hi sl Q I rx hs pl pu q
  rcases q with q | q
  · exact h pins s σ H x v vl vu lo hi sl Q I rx hs pl pu q
  · exact h' pins s σ H x v vl vu lo hi sl Q I rx hs pl pu q
def tSl (r : V → Option Int → Option Int → Hp → VK → Prop) (te : TE) (tl th : TO) : TE := fun σ H Q => te σ H fun x H1 => tl σ H1 fun l H2 => th σ H2 fun u H3 => r x l u H3 Q
theorem pe_slice {r : V → Option Int → Option Int → Hp → VK → Prop} (hr : SlR X r) (he : PE X e te) (hl : PO X lo tl) (hu : PO X hi th) : PE X (.Subscript e (.Slice lo hi none p2) pos) (tSl r te tl th) := by
  intro pins s σ H Q I h
  refine Subscript_ (thn (he pins s σ H _ I h) fun v s1 ⟨x, H1, I1, r1, q1⟩ => ?_)
  refine wpAny_Slice (thn (hl pins s1 σ H1 _ I1 q1) fun vl s2 ⟨l, H2, I2, pl, q2⟩ => thn (hu pins s2 σ H2 _ I2 q2) fun vu s3 ⟨u, H3, I3, pu, q3⟩ => ?_)
  rw [evalPart_none]
  refine wpAny_pure ?_
  have I4 : Inv X pins σ H3 { s3 with heap := s3.heap.push { cls := .type "slice", data := .fields #[vl, vu, .none] } } := I3.kept (t' := s3.toks) fun b ob q => Heap.get?_push_of_some _ q
  obtain ⟨T, id, hT, ht, hg⟩ := hr pins { s3 with heap := s3.heap.push { cls := .type "slice", data := .fields #[vl, vu, .none] } } σ H3 x v vl vu l u s3.heap.objs.size Q I4 r1 (Heap.IsSliceOf.new ..) pl pu q3
  show wpAny (model X.prog X.w) X.A (subscriptTail e (.Slice lo hi none p2) v (.ref s3.heap.objs.size)) (EP X pins σ Q) X.xe { s3 with heap := s3.heap.push { cls := .type "slice", data := .fields #[vl, vu, .none] } }
  exact tail_any (ops := [.ref s3.heap.objs.size, v]) ht hT hg (by with_unfolding_all rfl)
def cutV (xs : List V) (lo hi : Option Int) : List V := (xs.drop (HT.sIx xs.length 0 lo)).take (HT.sIx xs.length xs.length hi - HT.sIx xs.length 0 lo)
theorem cutV_length (xs : List V) (lo hi : Option Int) : (cutV xs lo hi).length ≤ xs.length := by
  unfold cutV
  rw [List.length_take, List.length_drop]
  omega
def rSlT (K : PySem.W.Frag) : V → Option Int → Option Int → Hp → VK → Prop := fun x lo hi H Q => ∃ a xs, x = .ref a ∧ SqT K H a xs ∧
  ¬ (HT.sIx xs.length 0 lo = 0 ∧ HT.sIx xs.length xs.length hi = xs.length) ∧ ∀ p, H p = none → Q (.ref p) (upd H p (.tup (cutV xs lo hi)))
theorem sl_tup : SlR X (rSlT X.K) := by
  intro pins s σ H x v vl vu lo hi sl Q I rx hs pl pu h
  obtain ⟨a, xs, rfl, hx, hw, q⟩ := h
  cases rx
  obtain ⟨its, r, ht, hz⟩ := I.tuple hx
  have hlen : its.toArray.size = xs.length := by rw [List.size_toArray]; exact r.length.symm
  refine ⟨"tuple", _, PyProof.Rows.slot_tuple_getitem.lookup, ht.typeIs, ?_⟩
  refine HT.getItem_tuple_cut ht hs pl pu (by rw [hlen]; exact hw) ?_ (by rw [hlen]; exact hz)
  rw [hlen]
  refine ⟨.ref s.heap.objs.size, _, I.laid (t' := s.toks) (o := .tup (cutV xs lo hi)) (fun b ob q => Heap.get?_push_of_some _ q) (Nat.le_refl _) ?_, rfl, q _ (I.hok.fresh (Nat.le_refl _))⟩
  exact ⟨Nat.le_trans (cutV_length xs lo hi) hz, _, (r.drop (HT.sIx xs.length 0 lo)).take (HT.sIx xs.length xs.length hi - HT.sIx xs.length 0 lo), IsTup.new _ _⟩
def rCatT (K : PySem.W.Frag) : R2 := fun x y H Q => ∃ a b xs ys, x = .ref a ∧ y = .ref b ∧ SqT K H a xs ∧ SqT K H b ys ∧ xs ≠ [] ∧ xs.length + ys.length ≤ sizeLine ∧
  (ys = [] → Q (.ref a) H) ∧ (ys ≠ [] → ∀ p, H p = none → Q (.ref p) (upd H p (.tup (xs ++ ys))))
theorem Vals.nil_iff {xs : List V} {us : List Value} (r : Vals xs us) : us = [] ↔ xs = [] := by
  cases r with
  | nil => simp
  | cons _ _ => simp
theorem op_catT : OpR X (binaryOp .Add) (rCatT X.K) := by
  intro pins s σ H x y v u Q I rx ry h
  obtain ⟨a, b, xs, ys, rfl, rfl, ha, hb, hx, hz, q1, q2⟩ := h
  cases rx
  cases ry
  obtain ⟨its, r1, p1, _⟩ := I.tuple ha
  obtain ⟨its2, r2, p2, _⟩ := I.tuple hb
  refine HT.cat_tup p1 p2 (fun z => hx (r1.nil_iff.mp z)) (fun z => ⟨.ref a, H, I, rfl, q1 (r2.nil_iff.mp z)⟩) (fun z => ?_) (by rw [← r1.length, ← r2.length]; exact hz)
  refine ⟨.ref s.heap.objs.size, _, I.laid (t' := s.toks) (o := .tup (xs ++ ys)) (fun b ob q => Heap.get?_push_of_some _ q) (Nat.le_refl _) ?_, rfl, q2 (fun w => z (r2.nil_iff.mpr w)) _ (I.hok.fresh (Nat.le_refl _))⟩
  exact ⟨by rw [List.length_append]; exact hz, _, r1.append r2, IsTup.new _ _⟩
end
end L2
namespace L2
open PySem PySem.Spec PyProof.Rows
def ixN (n : Nat) (i : Int) : Option Nat := if 0 ≤ i then (if i < n then some i.toNat else none) else if -(n : Int) ≤ i then some (i + n).toNat else none
def atI {α : Type} (xs : List α) (i : Int) : Option α := (ixN xs.length i).bind fun j => xs[j]?
theorem ixN_seq {n : Nat} {i : Int} {j : Nat} (h : ixN n i = some j) : seqIndex? i n = some j ∧ j < n ∧ -(n : Int) ≤ i ∧ i < n := by
  unfold ixN at h
  by_cases h0 : 0 ≤ i
  · rw [if_pos h0] at h
    by_cases h1 : i < n
    · rw [if_pos h1] at h
      have e : i.toNat = j := Option.some.inj h
      exact ⟨by rw [seqIndex_of h0 h1, e], by omega, by omega, h1⟩
    · rw [if_neg h1] at h; cases h
  · rw [if_neg h0] at h
    by_cases h1 : -(n : Int) ≤ i
    · rw [if_pos h1] at h
      have e : (i + n).toNat = j := Option.some.inj h
      exact ⟨by rw [seqIndex_neg (by omega) h1, e], by omega, h1, by omega⟩
    · rw [if_neg h1] at h; cases h
theorem atI_get {α : Type} {xs : List α} {i : Int} {v : α} (h : atI xs i = some v) : ∃ j, seqIndex? i xs.length = some j ∧ xs[j]? = some v ∧ j < xs.length ∧ -(xs.length : Int) ≤ i ∧ i < xs.length := by
  unfold atI at h
  cases e : ixN xs.length i with
  | none => rw [e] at h; cases h
  | some j =>
    rw [e] at h
    obtain ⟨h1, h2, h3, h4⟩ := ixN_seq e
    exact ⟨j, h1, h, h2, h3, h4⟩
def PlainIx (b : Expr) : Prop := ∀ o i, subscripted b false o i = operate [o, i] (getItem o i)
def IxR (X : Cx) (r : R2) : Prop :=
  ∀ (value slice : Expr) (pins : List (Addr × Obj)) (s : Shared) (σ : St) (H : Hp) (x y : V) (v u : Value) (Q : VK), Inv X pins σ H s → RelV x v → RelV y u → r x y H Q →
    subscripted slice false v u = operate [v, u] (getItem v u) → wpAny (model X.prog X.w) X.A (subscriptTail value slice v u) (EP X pins σ Q) X.xe s
def MtR (X : Cx) (id : String) (r : V → List V → Hp → VK → Prop) : Prop :=
  ∀ (pins : List (Addr × Obj)) (s : Shared) (σ : St) (H : Hp) (x : V) (xs : List V) (v : Value) (us : List Value) (Q : VK), Inv X pins σ H s → RelV x v → Vals xs us → r x xs H Q →
    wpAny (model X.prog X.w) X.A (call (.builtin id) (v :: us)) (EP X pins σ Q) X.xe s
section
variable {X : Cx} {a b : Expr} {ta tb : TE} {pos : Pos}
theorem IxR.or {r r' : R2} (h : IxR X r) (h' : IxR X r') : IxR X (fun x y H Q => r x y H Q ∨ r' x y H Q) := by
  intro value slice pins s σ H x y v u Q I rx ry q hs
  rcases q with q | q
  · exact h value slice pins s σ H x y v u Q I rx ry q hs
  · exact h' value slice pins s σ H x y v u Q I rx ry q hs
theorem pe_ix {r : R2} (hr : IxR X r) (ha : PE X a ta) (hb : PE X b tb) (hs : PlainIx b) : PE X (.Subscript a b pos) (tOp r ta tb) := by
  intro pins s σ H Q I h
  exact Subscript_ (binT ha hb I h fun v u s2 x y H2 I2 rx ry q => hr a b pins s2 σ H2 x y v u Q I2 rx ry q (hs _ _))
def rIxL (K : PySem.W.Frag) : R2 := fun x y H Q => ∃ p xs i v, x = .ref p ∧ y = .int i ∧ SqL K H p xs ∧ atI xs i = some v ∧ Q v H
def rIxT (K : PySem.W.Frag) : R2 := fun x y H Q => ∃ p xs i v, x = .ref p ∧ y = .int i ∧ SqT K H p xs ∧ atI xs i = some v ∧ Q v H
theorem ix_list : IxR X (rIxL X.K) := by
  intro value slice pins s σ H x y v u Q I rx ry h hs
  obtain ⟨p, xs, i, z, rfl, rfl, hq, he, q⟩ := h
  cases rx
  obtain ⟨t, rfl⟩ := ry
  obtain ⟨its, r, pl, hz⟩ := I.list hq
  obtain ⟨j, h1, h2, h3, h4, h5⟩ := atI_get he
  obtain ⟨w, ew, rw'⟩ := r.get h2
  have hl := r.length
  have hn := line63
  have fin : EP X pins σ Q w s := ⟨z, H, I, rw', q⟩
  by_cases h0 : 0 ≤ i
  · have hj : i.toNat = j := by
      rw [seqIndex_of h0 h5] at h1
      exact Option.some.inj h1
    exact item_listR pl.isList h0 (by omega) (by rw [hj]; simpa using ew) fin hs
  · have hj : (i + (its.toArray.size : Int)).toNat = j := by
      rw [seqIndex_neg (by omega) h4] at h1
      rw [List.size_toArray, ← hl]
      exact Option.some.inj h1
    exact subscriptTail_builtinR (x := w) pl.isList.typeIs slot_list_getitem.lookup
      (wpAny_getItem_list_neg (Q := fun r s' => r = w ∧ EP X pins σ Q r s') pl.isList (by omega) (by rw [List.size_toArray] <;> omega) (by omega) (by rw [hj]; simpa using ew) ⟨rfl, fin⟩) hs
theorem ix_tup : IxR X (rIxT X.K) := by
  intro value slice pins s σ H x y v u Q I rx ry h hs
  obtain ⟨p, xs, i, z, rfl, rfl, hq, he, q⟩ := h
  cases rx
  obtain ⟨t, rfl⟩ := ry
  obtain ⟨its, r, pl, hz⟩ := I.tuple hq
  obtain ⟨j, h1, h2, h3, h4, h5⟩ := atI_get he
  obtain ⟨w, ew, rw'⟩ := r.get h2
  have hl := r.length
  have hn := line63
  have fin : EP X pins σ Q w s := ⟨z, H, I, rw', q⟩
  exact subscriptTail_builtinR (x := w) pl.typeIs slot_tuple_getitem.lookup
    (getItem_tuple (j := j) (Q := fun r s' => r = w ∧ EP X pins σ Q r s') pl (by omega) (by omega) (by rw [List.size_toArray, ← hl]; exact h1) (by simpa using ew) ⟨rfl, fin⟩) hs
theorem mapSeq_set (its : List Value) (n j : Nat) (u : Value) : Obj.mapSeq (·.setIfInBounds j u) { cls := .type "list", data := .seq its.toArray n } = { cls := .type "list", data := .seq (its.set j u).toArray n } := by
  simp [Obj.mapSeq]
theorem Inv.lst {pins : List (Addr × Obj)} {σ : St} {H : Hp} {s : Shared} {p : Addr} {xs : List V} (I : Inv X pins σ H s) (h : H p = some (.lst xs)) :
    ∃ (its : List Value) (n : Nat), Vals xs its ∧ s.heap.get? p = some { cls := .type "list", data := .seq its.toArray n } ∧ xs.length ≤ sizeLine := by
  obtain ⟨z, its, n, r, e⟩ := I.hok p _ h
  exact ⟨its, n, r, e, z⟩
theorem Inv.lstUpd {pins : List (Addr × Obj)} {σ : St} {H : Hp} {s : Shared} {p : Addr} {xs ys : List V} {its its' : List Value} {n n' : Nat} {f : Obj → Obj} (I : Inv X pins σ H s) (h : H p = some (.lst xs))
    (ho : s.heap.get? p = some { cls := .type "list", data := .seq its.toArray n }) (hf : f { cls := .type "list", data := .seq its.toArray n } = { cls := .type "list", data := .seq its'.toArray n' }) (r : Vals ys its') (hz : ys.length ≤ sizeLine) (t : Nat) :
    Inv X pins σ (upd H p (.lst ys)) { s with heap := s.heap.update p f, toks := t } := by
  have e : (s.heap.update p f).get? p = some { cls := .type "list", data := .seq its'.toArray n' } := by
    rw [Heap.get?_update_self f ho (by rw [hf] <;> rfl), hf]
  refine I.write (x := p) (e := p) (by rw [h]; trivial) (.inl rfl) (fun b u hb q => (Heap.get?_update_other _ _ (Ne.symm hb)).trans q) ⟨_, e⟩ ?_
  exact ⟨hz, its', n', r, e⟩
def rSetL : V → V → V → Hp → (Hp → Prop) → Prop := fun o i v H Q => ∃ p xs k j, o = .ref p ∧ i = .int k ∧ H p = some (.lst xs) ∧ ixN xs.length k = some j ∧ Q (upd H p (.lst (xs.set j v)))
theorem set_list : PSet X rSetL := by
  intro pins s σ H o i v ov iv u Q I ro ri rv h
  obtain ⟨p, xs, k, j, rfl, rfl, hp, hj, q⟩ := h
  cases ro
  obtain ⟨t, rfl⟩ := ri
  obtain ⟨its, n, r, ho, hz⟩ := I.lst hp
  obtain ⟨h1, h2, h3, h4⟩ := ixN_seq hj
  have hl := r.length
  have hn := line63
  have I' : Inv X pins σ (upd H p (.lst (xs.set j v))) { s with heap := s.heap.update p (Obj.mapSeq (·.setIfInBounds j u)) } :=
    I.lstUpd hp ho (mapSeq_set its n j u) (r.set rv j) (by rw [List.length_set]; exact hz) s.toks
  by_cases h0 : 0 ≤ k
  · have hk : k.toNat = j := by
      rw [seqIndex_of h0 h4] at h1
      exact Option.some.inj h1
    exact PySem.W.ki_setAt ho h0 (by omega) (by rw [List.size_toArray, ← hl]; exact h4) (by rw [hk]; exact ⟨_, I', q⟩)
  · have hk : (k + (its.toArray.size : Int)).toNat = j := by
      rw [seqIndex_neg (by omega) h3] at h1
      rw [List.size_toArray, ← hl]
      exact Option.some.inj h1
    exact PySem.W.ki_setBack ho (by omega) (by rw [List.size_toArray, ← hl]; exact h3) (by omega) (by rw [hk]; exact ⟨_, I', q⟩)
theorem slice_bounds (lo hi : Option Int) (n : Nat) : (sliceBounds lo hi none n).1 = ((HT.sIx n 0 lo : Nat) : Int) ∧ (sliceBounds lo hi none n).2.1 = ((HT.sIx n n hi : Nat) : Int) ∧ (sliceBounds lo hi none n).2.2 = 1 := by
  refine ⟨?_, ?_, rfl⟩
  · cases lo with
    | none => simp [sliceBounds, HT.sIx]
    | some i =>
      simp only [sliceBounds, HT.sIx, Option.getD_none, show (1 : Int) > 0 by decide, if_true]
      by_cases h : i < 0
      · simp only [h, if_true] <;> omega
      · simp only [h, if_false] <;> omega
  · cases hi with
    | none => simp [sliceBounds, HT.sIx]
    | some i =>
      simp only [sliceBounds, HT.sIx, Option.getD_none, show (1 : Int) > 0 by decide, if_true]
      by_cases h : i < 0
      · simp only [h, if_true] <;> omega
      · simp only [h, if_false] <;> omega
theorem slicePick_cut (its : List Value) (lo hi : Option Int) : slicePick its.toArray lo hi none = ((its.drop (HT.sIx its.length 0 lo)).take (HT.sIx its.length its.length hi - HT.sIx its.length 0 lo)).toArray := by
  obtain ⟨h1, h2, h3⟩ := slice_bounds lo hi its.toArray.size
  unfold slicePick
  rw [h1, h2, h3]
  simp only [sliceRange_one, pick_run, List.size_toArray] <;> rfl
def rSlL (K : PySem.W.Frag) : V → Option Int → Option Int → Hp → VK → Prop := fun x lo hi H Q => ∃ a xs, x = .ref a ∧ SqL K H a xs ∧ ∀ p, H p = none → Q (.ref p) (upd H p (.lst (cutV xs lo hi)))
theorem sl_list : SlR X (rSlL X.K) := by
  intro pins s σ H x v vl vu lo hi sl Q I rx hs pl pu h
  obtain ⟨a, xs, rfl, hx, q⟩ := h
  cases rx
  obtain ⟨its, r, ht, hz⟩ := I.list hx
  have hlen := r.length
  refine ⟨"list", _, slot_list_getitem.lookup, ht.isList.typeIs, ?_⟩
  refine wpAny_getItem_list_slice ht.isList hs pl pu .none (by simp) ?_ (by rw [List.size_toArray] <;> omega)
  rw [slicePick_cut, ← hlen]
  refine ⟨.ref s.heap.objs.size, _, I.laid (t' := s.toks) (o := .lst (cutV xs lo hi)) (fun b ob q => Heap.get?_push_of_some _ q) (Nat.le_refl _) ?_, rfl, q _ (I.hok.fresh (Nat.le_refl _))⟩
  exact ⟨Nat.le_trans (cutV_length xs lo hi) hz, _, 0, (r.drop (HT.sIx xs.length 0 lo)).take (HT.sIx xs.length xs.length hi - HT.sIx xs.length 0 lo), Heap.get?_push_size _ rfl⟩
def flatV : V → Bool
  | .non => true
  | .bl _ => true
  | .int _ => true
  | .str _ => true
  | _ => false
def eqV : V → V → Bool
  | .non, .non => true
  | .bl a, .bl b => a == b
  | .bl a, .int b => (if a then 1 else 0) == b
  | .int a, .bl b => a == (if b then 1 else 0)
  | .int a, .int b => a == b
  | .str a, .str b => a == b
  | _, _ => false
theorem eqAt_V {A : Around} {s : Shared} {y x : V} {u v : Value} (ry : RelV y u) (rx : RelV x v) (fy : flatV y = true) (fx : flatV x = true) : SeqAt.EqAt A s u v (eqV y x) := by
  cases y with
  | non =>
    cases ry
    cases x with
    | non => cases rx; exact SeqAt.EqAt.same _
    | bl b => cases rx; exact SeqAt.EqAt.none_bool b
    | int b => obtain ⟨t, rfl⟩ := rx; exact SeqAt.EqAt.none_int b t
    | str b => obtain ⟨t, rfl⟩ := rx; exact SeqAt.EqAt.none_str b t
    | _ => exact absurd (show false = true from fx) Bool.false_ne_true
  | bl a =>
    cases ry
    cases x with
    | non => cases rx; exact SeqAt.EqAt.bool_none a
    | bl b => cases rx; exact SeqAt.EqAt.bool_bool a b
    | int b => obtain ⟨t, rfl⟩ := rx; exact SeqAt.EqAt.bool_int a b t
    | str b => obtain ⟨t, rfl⟩ := rx; exact SeqAt.EqAt.bool_str a b t
    | _ => exact absurd (show false = true from fx) Bool.false_ne_true
  | int a =>
    obtain ⟨t', rfl⟩ := ry
    cases x with
    | non => cases rx; exact SeqAt.EqAt.int_none a t'
    | bl b => cases rx; exact SeqAt.EqAt.int_bool a t' b
    | int b => obtain ⟨t, rfl⟩ := rx; exact SeqAt.EqAt.int_int a t' b t
    | str b => obtain ⟨t, rfl⟩ := rx; exact SeqAt.EqAt.int_str a t' b t
    | _ => exact absurd (show false = true from fx) Bool.false_ne_true
  | str a =>
    obtain ⟨t', rfl⟩ := ry
    cases x with
    | non => cases rx; exact SeqAt.EqAt.str_none a t'
    | bl b => cases rx; exact SeqAt.EqAt.str_bool a t' b
    | int b => obtain ⟨t, rfl⟩ := rx; exact SeqAt.EqAt.str_int a t' b t
    | str b => obtain ⟨t, rfl⟩ := rx; exact SeqAt.EqAt.str_str a t' b t
    | _ => exact absurd (show false = true from fx) Bool.false_ne_true
  | _ => exact absurd (show false = true from fy) Bool.false_ne_true
def eqU (x : V) (u : Value) : Bool := match u with
  | .none => eqV .non x
  | .bool b => eqV (.bl b) x
  | .int i _ => eqV (.int i) x
  | .str z _ => eqV (.str z) x
  | _ => false
theorem eqU_of {x y : V} {u : Value} (r : RelV y u) (f : flatV y = true) : eqU x u = eqV y x := by
  cases y with
  | non => cases r; rfl
  | bl b => cases r; rfl
  | int i => obtain ⟨t, rfl⟩ := r; rfl
  | str z => obtain ⟨t, rfl⟩ := r; rfl
  | _ => exact absurd (show false = true from f) Bool.false_ne_true
theorem any_eqU {x : V} : ∀ {xs : List V} {us : List Value}, Vals xs us → xs.all flatV = true → us.any (eqU x) = xs.any fun y => eqV y x
  | _, _, .nil, _ => rfl
  | y :: xs, u :: us, .cons r t, f => by
    rw [List.all_cons, Bool.and_eq_true] at f
    rw [List.any_cons, List.any_cons, eqU_of r f.1, any_eqU t f.2]
theorem mem_eqAt {A : Around} {s : Shared} {x : V} {v : Value} (rx : RelV x v) (fx : flatV x = true) : ∀ {xs : List V} {us : List Value}, Vals xs us → xs.all flatV = true → ∀ u ∈ us, SeqAt.EqAt A s u v (eqU x u)
  | _, _, .nil, _ => fun u hu => by cases hu
  | y :: xs, u :: us, .cons r t, f => fun u' hu => by
    rw [List.all_cons, Bool.and_eq_true] at f
    rcases List.mem_cons.mp hu with rfl | hu
    · rw [eqU_of r f.1]; exact eqAt_V r rx f.1 fx
    · exact mem_eqAt rx fx t f.2 u' hu
def inV (x : V) (xs : List V) : Bool := xs.any fun y => eqV y x
def rIn (K : PySem.W.Frag) (neg : Bool) : R2 := fun x y H Q => ∃ p xs, y = .ref p ∧ (SqL K H p xs ∨ SqT K H p xs) ∧ flatV x = true ∧ xs.all flatV = true ∧ Q (.bl (if neg then !inV x xs else inV x xs)) H
theorem op_in_seq : OpR X (compareOp .In) (rIn X.K false) := by
  intro pins s σ H x y v u Q I rx ry h
  obtain ⟨p, xs, rfl, hq, fx, fs, q⟩ := h
  cases ry
  rcases hq with hq | hq
  · obtain ⟨its, r, pl, hz⟩ := I.list hq
    refine SeqAt.in_listAt (eqU x) pl.isList (fun w hw => mem_eqAt rx fx r fs w (by simpa using hw)) ⟨.bl _, H, I, rfl, ?_⟩
    rw [show its.toArray.any (eqU x) = its.any (eqU x) by simp, any_eqU r fs]
    exact q
  · obtain ⟨its, r, pl, hz⟩ := I.tuple hq
    refine SeqAt.in_tupleAt (eqU x) pl (fun w hw => mem_eqAt rx fx r fs w (by simpa using hw)) ⟨.bl _, H, I, rfl, ?_⟩
    rw [show its.toArray.any (eqU x) = its.any (eqU x) by simp, any_eqU r fs]
    exact q
theorem op_notIn_seq : OpR X (compareOp .NotIn) (rIn X.K true) := by
  intro pins s σ H x y v u Q I rx ry h
  obtain ⟨p, xs, rfl, hq, fx, fs, q⟩ := h
  cases ry
  rcases hq with hq | hq
  · obtain ⟨its, r, pl, hz⟩ := I.list hq
    refine SeqAt.notIn_listAt (eqU x) pl.isList (fun w hw => mem_eqAt rx fx r fs w (by simpa using hw)) ⟨.bl _, H, I, rfl, ?_⟩
    rw [show its.toArray.any (eqU x) = its.any (eqU x) by simp, any_eqU r fs]
    exact q
  · obtain ⟨its, r, pl, hz⟩ := I.tuple hq
    refine SeqAt.notIn_tupleAt (eqU x) pl (fun w hw => mem_eqAt rx fx r fs w (by simpa using hw)) ⟨.bl _, H, I, rfl, ?_⟩
    rw [show its.toArray.any (eqU x) = its.any (eqU x) by simp, any_eqU r fs]
    exact q
theorem call_len_seq : CallR X (.builtin "len") (fun xs H Q => ∃ p ys, xs = [.ref p] ∧ (SqL X.K H p ys ∨ SqT X.K H p ys) ∧ Q (.int ys.length) H) := by
  intro pins s σ H xs us Q I r h
  obtain ⟨p, ys, rfl, hq, q⟩ := h
  obtain ⟨u, rfl, rx⟩ := vals1 r
  cases rx
  have hn := line63
  rcases hq with hq | hq
  · obtain ⟨its, r', pl, hz⟩ := I.list hq
    have hlen := r'.length
    exact Calls.call_len_list pl.isList (by simp only [List.size_toArray] <;> omega) ⟨.int ys.length, H, I.tok _, ⟨s.toks + 1, by rw [List.size_toArray, hlen]⟩, q⟩
  · obtain ⟨its, r', pl, hz⟩ := I.tuple hq
    have hlen := r'.length
    exact len_tuple pl (by simp only [List.size_toArray] <;> omega) ⟨.int ys.length, H, I.tok _, ⟨s.toks + 1, by rw [List.size_toArray, hlen]⟩, q⟩
theorem call_len_str : CallR X (.builtin "len") (fun xs H Q => ∃ z, xs = [.str z] ∧ z.length ≤ sizeLine ∧ Q (.int z.length) H) := by
  intro pins s σ H xs us Q I r h
  obtain ⟨z, rfl, hz, q⟩ := h
  obtain ⟨u, rfl, t, rfl⟩ := vals1 r
  have hn := line63
  exact len_str (by omega) ⟨.int z.length, H, I.tok _, ⟨_, rfl⟩, q⟩
theorem call_list_of : CallR X (.type "list") (fun xs H Q => ∃ p ys, xs = [.ref p] ∧ (SqL X.K H p ys ∨ SqT X.K H p ys) ∧ ∀ l, H l = none → Q (.ref l) (upd H l (.lst ys))) := by
  intro pins s σ H xs us Q I r h
  obtain ⟨p, ys, rfl, hq, q⟩ := h
  obtain ⟨u, rfl, rx⟩ := vals1 r
  cases rx
  have fin : ∀ (its : List Value), Vals ys its → ys.length ≤ sizeLine → ∀ (h' : Heap) (c' : Nat), (∀ b o', s.heap.get? b = some o' → h'.get? b = some o') →
      h'.get? s.heap.objs.size = some { cls := .type "list", dict := none, data := .seq its.toArray c', slots := #[] } → EP X pins σ Q (.ref s.heap.objs.size) { s with heap := h' } := fun its r' hz h' c' kp e =>
    ⟨.ref s.heap.objs.size, _, I.laid (t' := s.toks) kp (Nat.le_refl _) (show ObjOk X.prog X.w _ h' _ (.lst ys) from ⟨hz, its, c', r', e⟩), rfl, q _ (I.hok.fresh (Nat.le_refl _))⟩
  rcases hq with hq | hq
  · obtain ⟨its, r', pl, hz⟩ := I.list hq
    have hlen := r'.length
    obtain ⟨o, ho, hc, n, hd⟩ := pl.isList
    exact call_list_seq p (.inl rfl) ho hc hd (fun h' c' kp e => fin its r' hz h' c' kp e) (by simp only [List.size_toArray] <;> omega)
  · obtain ⟨its, r', pl, hz⟩ := I.tuple hq
    have hlen := r'.length
    obtain ⟨o, ho, hc, n, hd⟩ := pl
    exact call_list_seq p (.inr rfl) ho hc hd (fun h' c' kp e => fin its r' hz h' c' kp e) (by simp only [List.size_toArray] <;> omega)
theorem call_tuple_of : CallR X (.type "tuple") (fun xs H Q => ∃ p ys, xs = [.ref p] ∧ ((SqL X.K H p ys ∧ ∀ l, H l = none → Q (.ref l) (upd H l (.tup ys))) ∨ (SqT X.K H p ys ∧ Q (.ref p) H))) := by
  intro pins s σ H xs us Q I r h
  obtain ⟨p, ys, rfl, h⟩ := h
  obtain ⟨u, rfl, rx⟩ := vals1 r
  cases rx
  rcases h with ⟨hq, q⟩ | ⟨hq, q⟩
  · obtain ⟨its, r', pl, hz⟩ := I.list hq
    have hlen := r'.length
    refine call_tuple_list pl.isList (fun h' kp => ?_) (by simp only [List.size_toArray] <;> omega)
    have I1 : Inv X pins σ H { s with heap := h' } := I.kept (t' := s.toks) kp
    have I2 : Inv X pins σ (upd H h'.objs.size (.tup ys)) { s with heap := h'.push { cls := .type "tuple", data := .seq its.toArray } } :=
      I1.laid (t' := s.toks) (fun b o e => Heap.get?_push_of_some _ e) (Nat.le_refl _) (show ObjOk X.prog X.w _ _ _ (.tup ys) from ⟨hz, its, r', IsTup.new _ _⟩)
    exact ⟨.ref h'.objs.size, _, I2, rfl, q _ (I1.hok.fresh (Nat.le_refl _))⟩
  · obtain ⟨its, r', pl, hz⟩ := I.tuple hq
    exact call_tuple_same pl ⟨.ref p, H, I, rfl, q⟩
def tyV (K : PySem.W.Frag) (T : String) (x : V) (H : Hp) : Prop := match x with
  | .str _ => T = "str"
  | .int _ => T = "int"
  | .ref p => (T = "list" ∧ ∃ xs, SqL K H p xs) ∨ (T = "tuple" ∧ ∃ o, K.lookup p = some o ∧ o.cls = .type "tuple" ∧ o.dict = none) ∨
      (T = "dict" ∧ ((∃ kvs, H p = some (.dK kvs)) ∨ ∃ kvs, H p = some (.dT kvs))) ∨ (T = "set" ∧ ∃ S n, H p = some (.set S n))
  | _ => False
theorem tyV_is {pins : List (Addr × Obj)} {σ : St} {H : Hp} {s : Shared} {T : String} {x : V} {v : Value} (I : Inv X pins σ H s) (r : RelV x v) (ty : tyV X.K T x H) :
    s.TypeIs v T ∧ ∀ a, v = .ref a → ∃ ob, s.heap.get? a = some ob ∧ ob.dict = none := by
  cases x with
  | str z =>
    obtain ⟨t, rfl⟩ := r
    cases (show T = "str" from ty)
    exact ⟨typeIs_str s z t, fun _ e => nomatch e⟩
  | int i =>
    obtain ⟨t, rfl⟩ := r
    cases (show T = "int" from ty)
    exact ⟨typeIs_int s i t, fun _ e => nomatch e⟩
  | ref p =>
    cases r
    rcases ty with ⟨rfl, xs, hq⟩ | ⟨rfl, o, hk, hc, hd⟩ | ⟨rfl, hk⟩ | ⟨rfl, S, n, hk⟩
    · obtain ⟨its, _, pl, _⟩ := I.list hq
      refine ⟨pl.isList.typeIs, fun a e => ?_⟩
      cases e
      obtain ⟨o, n, e, c, hd, _⟩ := pl
      exact ⟨o, e, hd⟩
    · refine ⟨⟨o, I.kIn p o hk, hc⟩, fun a e => ?_⟩
      cases e
      exact ⟨o, I.kIn _ o hk, hd⟩
    · have z : ∃ o, s.heap.get? p = some o ∧ o.ExactDict := by
        rcases hk with ⟨kvs, hk⟩ | ⟨kvs, hk⟩
        · obtain ⟨_, _, _, _, o, _, _, e, ex, _⟩ := I.hok p _ hk
          exact ⟨o, e, ex⟩
        · obtain ⟨_, _, _, _, o, _, _, e, ex, _⟩ := I.hok p _ hk
          exact ⟨o, e, ex⟩
      obtain ⟨o, e, ex⟩ := z
      refine ⟨⟨o, e, ex.1⟩, fun a e2 => ?_⟩
      cases e2
      exact ⟨o, e, ex.2.1⟩
    · obtain ⟨o, _, _, _, e, ex, _⟩ := I.hok p _ hk
      refine ⟨⟨o, e, ex.1⟩, fun a e2 => ?_⟩
      cases e2
      exact ⟨o, e, ex.2.1⟩
  | _ => exact False.elim ty
def tBM (K : PySem.W.Frag) (T : String) (r : V → List V → Hp → VK → Prop) (to : TE) (t : TA) : TE := fun σ H Q => to σ H fun x H1 => tyV K T x H1 ∧ t σ H1 fun xs H2 => r x xs H2 Q
variable {o e : Expr} {es : List Expr} {to : TE} {t : TA} {name : Str} {apos cpos : Pos} {T id : String} {r : V → List V → Hp → VK → Prop}
theorem pe_bm (pa : PlainAttrs T) (slot : Slot T name id) (hty : typeOf (.builtin id) = pure (.type "method_descriptor")) (hm : MtR X id r) (ho : PE X o to) (ha : PA X (e :: es) t)
    (hbase : attributeBase o name X.env (eval o X.env) = eval o X.env := by rfl)
    (hfew : ((backTo cpos (starEach (e :: es) X.env)).all (fun x => !x.1) && (backToKw cpos (keywordEach [] X.env)).all (fun x => x.1.isSome)
      && decide ((e :: es).length + ([] : List Keyword).length + (if ([] : List Keyword).isEmpty then 0 else 1) < 30)) = true := by rfl)
    (hline : (apos.endLine == cpos.line) = true := by rfl) (hs : starEach (e :: es) X.env = (false, eval e X.env) :: starEach es X.env := by rfl) (hplain : (backTo cpos (starEach es X.env)).any (·.1) = false := by rfl) :
    PE X (.Call (.Attribute o name apos) (e :: es) [] cpos) (tBM X.K T r to t) := by
  intro pins s σ H Q I h
  refine wpAny_Call_method_late hbase hfew hline rfl (thn (ho pins s σ H _ I h) fun v s1 ⟨x, H1, I1, r1, ty, q1⟩ => ?_)
  obtain ⟨h1, h2⟩ := tyV_is I1 r1 ty
  refine ⟨T, id, pa, slot, hty, h1, h2, ?_⟩
  have hA := ha cpos pins s1 σ H1 _ I1 q1
  rw [hs] at hA ⊢
  refine Calls.callWith_builtin (by show (false || (backTo cpos (starEach es X.env)).any (·.1)) = false; rw [hplain] <;> rfl) (Calls.evalArgs_plain ?_)
  exact thn hA fun us s2 ⟨vs, H2, I2, r2, q2⟩ => hm pins s2 σ H2 x vs v us Q I2 r1 r2 q2
/- xs.append(e), list.index on a module's tuple .. are MtR facts of 06m -/
end
end L2
namespace L2
open PySem PySem.Spec PyProof.Rows
def MtM (X : Cx) (id : String) (r : V → List V → Hp → VK → Prop) : Prop :=
  ∀ (pins : List (Addr × Obj)) (s : Shared) (σ : St) (H : Hp) (x : V) (xs : List V) (v : Value) (us : List Value) (Q : VK), Inv X pins σ H s → RelV x v → Vals xs us → r x xs H Q →
    wpAny (model X.prog X.w) X.A (call (.builtin id) (v :: us)) (EP X pins σ Q) X.xe s
theorem Vals.one : ∀ {x : V} {us : List Value}, Vals [x] us → ∃ u, us = [u] ∧ RelV x u
  | _, _, .cons r .nil => ⟨_, rfl, r⟩
theorem Vals.reverse {xs : List V} {us : List Value} (h : Vals xs us) : Vals xs.reverse us.reverse := by
  induction h with
  | nil => exact .nil
  | cons r t ih => rw [List.reverse_cons, List.reverse_cons]; exact Vals.append ih (.cons r .nil)
section
variable {X : Cx} {pins : List (Addr × Obj)} {σ : St} {H : Hp} {s : Shared} {l b : Addr} {xs ys zs : List V}
theorem Inv.lset {its its' : List Value} {n : Nat} {f : Array Value → Array Value} {t' : Nat} (I : Inv X pins σ H s) (hH : H l = some (.lst xs))
    (e : s.heap.get? l = some { cls := .type "list", data := .seq its.toArray n }) (hf : f its.toArray = its'.toArray) (hv : Vals ys its') (hz : ys.length ≤ sizeLine) :
    Inv X pins σ (upd H l (.lst ys)) { s with heap := s.heap.update l (Obj.mapSeq f), toks := t' } := by
  have q := PySem.IsL.update e f
  rw [hf] at q
  refine I.write (x := l) (e := l) (by rw [hH]; exact trivial) (.inl rfl) (fun b' u hb hu => (Heap.get?_update_other s.heap (Obj.mapSeq f) (Ne.symm hb)).trans hu) ⟨_, q⟩ ?_
  exact ⟨hz, its', _, hv, q⟩
theorem Inv.lnew {its : List Value} {t' : Nat} (I : Inv X pins σ H s) (hv : Vals ys its) (hz : ys.length ≤ sizeLine) :
    Inv X pins σ (upd H s.heap.objs.size (.lst ys)) { s with heap := s.heap.push { cls := .type "list", data := .seq its.toArray }, toks := t' } :=
  I.laid (fun _ _ q => Heap.get?_push_of_some _ q) (Nat.le_refl _) ⟨hz, its, 0, hv, Heap.get?_push_size _ rfl⟩
theorem Inv.fresh (I : Inv X pins σ H s) : H s.heap.objs.size = none := I.hok.fresh (Nat.le_refl _)
theorem Inv.lstM (I : Inv X pins σ H s) (hH : H l = some (.lst xs)) : xs.length ≤ sizeLine ∧ ∃ (its : List Value) (n : Nat), Vals xs its ∧ xs.length = its.length ∧ s.heap.get? l = some { cls := .type "list", data := .seq its.toArray n } := by
  obtain ⟨z, its, n, r, e⟩ := I.hok l _ hH
  exact ⟨z, its, n, r, r.length, e⟩
end
section
variable {X : Cx}
def rAppend : V → List V → Hp → VK → Prop := fun x vs H Q => ∃ l xs y, x = .ref l ∧ vs = [y] ∧ H l = some (.lst xs) ∧ xs.length < sizeLine ∧ Q .non (upd H l (.lst (xs ++ [y])))
theorem mt_append : MtM X "list.append" rAppend := by
  intro pins s σ H x vs v us Q I rx rv h
  obtain ⟨l, xs, y, rfl, rfl, hH, hz, q⟩ := h
  cases rx
  obtain ⟨u, rfl, ru⟩ := rv.one
  obtain ⟨z, its, n, r, hl, e⟩ := I.lstM hH
  refine call_meets F.slot_list_append ⟨_, e, rfl⟩ F.entry_list_append (F.args_list_append_2 _ _) (PySem.list_append l its.toArray n u (by rw [List.size_toArray]; omega)) ⟨e, ?_⟩
  refine ⟨.non, _, I.lset (its' := its ++ [u]) hH e (by simp) (r.append (.cons ru .nil)) ?_, rfl, q⟩
  rw [List.length_append, List.length_singleton]
  omega
end
section
variable {prog : Program} {w : World} {A : Around} {E : Value → Shared → Prop} {s : Shared}
end
section
variable {X : Cx}
end
end L2
namespace L2
open PySem PySem.Spec PyProof.Rows
section
variable {κ : Type} [DecidableEq κ]
def valV (kvs : List (κ × V)) (k : κ) : Option V := (kvs.find? fun kv => decide (kv.1 = k)).map (·.2)
def putK (kvs : List (κ × V)) (k : κ) (v : V) : List (κ × V) :=
  if (kvs.any fun kv => decide (kv.1 = k)) = true then kvs.map (fun kv => if kv.1 = k then (kv.1, v) else kv) else kvs ++ [(k, v)]
theorem valV_pos {p : κ × V} {r : List (κ × V)} {k : κ} (e : p.1 = k) : valV (p :: r) k = some p.2 := by simp [valV, List.find?_cons, e]
theorem valV_neg {p : κ × V} {r : List (κ × V)} {k : κ} (e : ¬ p.1 = k) : valV (p :: r) k = valV r k := by simp [valV, List.find?_cons, e]
theorem valV_any (k : κ) : ∀ kvs : List (κ × V), (kvs.any fun kv => decide (kv.1 = k)) = (valV kvs k).isSome
  | [] => rfl
  | p :: r => by
    rw [List.any_cons]
    by_cases e : p.1 = k
    · simp only [valV_pos e, decide_eq_true e, Bool.true_or, Option.isSome_some]
    · rw [valV_neg e, decide_eq_false e, Bool.false_or]; exact valV_any k r
theorem length_putK (kvs : List (κ × V)) (k : κ) (v : V) : (putK kvs k v).length ≤ kvs.length + 1 := by
  unfold putK
  split
  · rw [List.length_map]; omega
  · rw [List.length_append, List.length_cons, List.length_nil]; omega
theorem RelO.isSome_eq {o : Option V} {u : Option Value} (r : RelO o u) : o.isSome = u.isSome := by
  cases o with
  | none => cases u with
    | none => rfl
    | some _ => exact (show False from r).elim
  | some _ => cases u with
    | none => exact (show False from r).elim
    | some _ => rfl
theorem RelO.getD {o : Option V} {u : Option Value} {d : V} {d' : Value} (r : RelO o u) (rd : RelV d d') : RelV (o.getD d) (u.getD d') := by
  cases o with
  | none => cases u with
    | none => exact rd
    | some _ => exact (show False from r).elim
  | some _ => cases u with
    | none => exact (show False from r).elim
    | some _ => exact r
theorem KV.val {kvs : List (κ × V)} {vs : List (κ × Value)} (r : KV kvs vs) (k : κ) : RelO (valV kvs k) (valueAt vs k) := by
  unfold KV at r
  induction r with
  | nil => exact True.intro
  | @cons p q ps qs h t ih =>
    obtain ⟨h1, h2⟩ := h
    by_cases e : p.1 = k
    · have e' : q.1 = k := h1.symm.trans e
      have b : valueAt (q :: qs) k = some q.2 := by simp [valueAt, List.find?_cons, e']
      rw [valV_pos e, b]; exact h2
    · have e' : ¬ q.1 = k := fun z => e (h1.trans z)
      have b : valueAt (q :: qs) k = valueAt qs k := by simp [valueAt, List.find?_cons, e']
      rw [valV_neg e, b]; exact ih
theorem KV.any {kvs : List (κ × V)} {vs : List (κ × Value)} (r : KV kvs vs) (k : κ) : (kvs.any fun kv => decide (kv.1 = k)) = vs.any fun kv => decide (kv.1 = k) := by
  unfold KV at r
  induction r with
  | nil => rfl
  | cons h t ih => rw [List.any_cons, List.any_cons, ih, h.1]
theorem KV.repl {kvs : List (κ × V)} {vs : List (κ × Value)} (r : KV kvs vs) (k : κ) {y : V} {u : Value} (ry : RelV y u) :
    KV (kvs.map fun kv => if kv.1 = k then (kv.1, y) else kv) (vs.map fun kv => if kv.1 = k then (kv.1, u) else kv) := by
  unfold KV at r ⊢
  induction r with
  | nil => exact .nil
  | @cons p q ps qs h t ih =>
    rw [List.map_cons, List.map_cons]
    refine .cons ?_ ih
    obtain ⟨h1, h2⟩ := h
    by_cases e : p.1 = k
    · rw [if_pos e, if_pos (h1.symm.trans e)]; exact ⟨h1, ry⟩
    · rw [if_neg e, if_neg (fun z => e (h1.trans z))]; exact ⟨h1, h2⟩
theorem KV.put {kvs : List (κ × V)} {vs : List (κ × Value)} (r : KV kvs vs) (k : κ) {y : V} {u : Value} (ry : RelV y u) : KV (putK kvs k y) (stored vs k u) := by
  unfold putK stored
  rw [r.any k]
  by_cases e : (vs.any fun kv => decide (kv.1 = k)) = true
  · rw [if_pos e, if_pos e]; exact r.repl k ry
  · rw [if_neg e, if_neg e]; exact Paired.snoc r ⟨rfl, ry⟩
theorem KV.length {kvs : List (κ × V)} {vs : List (κ × Value)} (r : KV kvs vs) : kvs.length = vs.length := Paired.length r
end
theorem kV_is {P : Program} {w : World} {k : Key} {u : Value} (r : RelV (kV k) u) : (mixKind P w).is k u = true := by
  cases k with
  | inl i => obtain ⟨t, e⟩ := (show ∃ t, u = Value.int i t from r); subst e; exact mixKind_int P w i t
  | inr x => obtain ⟨t, e⟩ := (show ∃ t, u = Value.str x t from r); subst e; exact mixKind_str P w x t
theorem items_are {P : Program} {w : World} : ∀ {ks : List Key} {us : List Value}, Vals (ks.map kV) us → ItemsAre (mixKind P w) ks us
  | [], _, r => by rw [List.map_nil] at r; cases r; exact .nil
  | k :: ks, _, r => by
    rw [List.map_cons] at r
    cases r with
    | cons h t => exact .cons (kV_is h) (items_are t)
abbrev KT (H : Hp) : List (List Key × V) → List (List Key × Addr × Value) → Prop := Paired fun p q => p.1 = q.1 ∧ H q.2.1 = some (.tup (p.1.map kV)) ∧ RelV p.2 q.2.2
theorem KT.val {H : Hp} {kvs : List (List Key × V)} {xs : List (List Key × Addr × Value)} (r : KT H kvs xs) (k : List Key) : RelO (valV kvs k) ((atKey xs k).map (·.2)) := by
  induction r with
  | nil => exact True.intro
  | @cons p q ps qs h t ih =>
    obtain ⟨h1, _, h2⟩ := h
    by_cases e : p.1 = k
    · have e' : q.1 = k := h1.symm.trans e
      have b : atKey (q :: qs) k = some q.2 := by simp [atKey, List.find?_cons, e']
      rw [valV_pos e, b]; exact h2
    · have e' : ¬ q.1 = k := fun z => e (h1.trans z)
      have b : atKey (q :: qs) k = atKey qs k := by simp [atKey, List.find?_cons, e']
      rw [valV_neg e, b]; exact ih
theorem KT.repl {H : Hp} {kvs : List (List Key × V)} {xs : List (List Key × Addr × Value)} (r : KT H kvs xs) (k : List Key) {y : V} {u : Value} (ry : RelV y u) :
    KT H (kvs.map fun kv => if kv.1 = k then (kv.1, y) else kv) (xs.map (putAt k u)) := by
  induction r with
  | nil => exact .nil
  | @cons p q ps qs h t ih =>
    rw [List.map_cons, List.map_cons]
    refine .cons ?_ ih
    obtain ⟨h1, h2, h3⟩ := h
    unfold putAt
    by_cases e : p.1 = k
    · rw [if_pos e, if_pos (h1.symm.trans e)]; exact ⟨h1, h2, ry⟩
    · rw [if_neg e, if_neg (fun z => e (h1.trans z))]; exact ⟨h1, h2, h3⟩
theorem KT.put {H : Hp} {kvs : List (List Key × V)} {xs : List (List Key × Addr × Value)} (r : KT H kvs xs) (k : List Key) {b : Addr} {y : V} {u : Value} (hb : H b = some (.tup (k.map kV))) (ry : RelV y u) :
    KT H (putK kvs k y) (storedH xs k b u) := by
  have e : (kvs.any fun kv => decide (kv.1 = k)) = (atKey xs k).isSome := by
    rw [valV_any, (r.val k).isSome_eq, Option.isSome_map]
  unfold putK storedH
  rw [e]
  by_cases q : (atKey xs k).isSome = true
  · rw [if_pos q, if_pos q]; exact r.repl k ry
  · rw [if_neg q, if_neg q]; exact Paired.snoc r ⟨rfl, hb, ry⟩
theorem KT.keeps {H H' : Hp} {kvs : List (List Key × V)} {xs : List (List Key × Addr × Value)} (r : KT H kvs xs) (ht : ∀ b ys, H b = some (.tup ys) → H' b = some (.tup ys)) : KT H' kvs xs :=
  Paired.mapP r fun _ _ z => ⟨z.1, ht _ _ z.2.1, z.2.2⟩
section
variable {P : Program} {w : World} {H : Hp} {h : Heap} {a : Addr}
theorem rd_of {u : HO} (ok : HOk P w H h) (e : Rd H a u) : ObjOk P w H h a u := e.ok ok
theorem dk_rd {kvs : List (Key × V)} (ok : HOk P w H h) (e : Rd H a (.dK kvs)) : kvs.length ≤ sizeLine ∧ (a == sysModules) = false ∧ ∃ vs, KV kvs vs ∧ h.DictOf (mixKind P w) a vs :=
  show ObjOk P w H h a (.dK kvs) from rd_of ok e
theorem dk_of {kvs : List (Key × V)} (ok : HOk P w H h) (e : H a = some (.dK kvs)) : kvs.length ≤ sizeLine ∧ (a == sysModules) = false ∧ ∃ vs, KV kvs vs ∧ h.DictOf (mixKind P w) a vs := dk_rd ok (.inl e)
theorem key_of {ks : List Key} (ok : HOk P w H h) (e : H a = some (.tup (ks.map kV))) : (tupleKind (mixKind P w)).is h ks a := by
  obtain ⟨_, its, r, o, h1, h2, n, h3⟩ := (show ObjOk P w H h a (.tup (ks.map kV)) from ok a _ e)
  exact ⟨o, its.toArray, n, h1, h2, h3, by simpa using items_are r⟩
theorem dt_rd {kvs : List (List Key × V)} (ok : HOk P w H h) (e : Rd H a (.dT kvs)) : kvs.length ≤ sizeLine ∧ (a == sysModules) = false ∧
    ∃ xs, KT H kvs xs ∧ h.DictOfH (tupleKind (mixKind P w)) a xs := by
  obtain ⟨z, y, xs, r, o, es, ep, h1, h2, h3, h4, h5⟩ := (show ObjOk P w H h a (.dT kvs) from rd_of ok e)
  refine ⟨z, y, xs, r, o, es, ep, h1, h2, h3, h4, fun x hx => ?_, h5⟩
  have all : ∀ {l : List (List Key × V)} {m : List (List Key × Addr × Value)}, KT H l m → ∀ x ∈ m, (tupleKind (mixKind P w)).is h x.1 x.2.1 := by
    intro l m q
    induction q with
    | nil => intro x hx; exact nomatch hx
    | @cons p q ps qs hq t ih =>
      intro x hx
      rcases List.mem_cons.mp hx with e | hx
      · subst e
        exact key_of ok (by rw [← hq.1]; exact hq.2.1)
      · exact ih x hx
  exact all r x hx
theorem dt_of {kvs : List (List Key × V)} (ok : HOk P w H h) (e : H a = some (.dT kvs)) : kvs.length ≤ sizeLine ∧ (a == sysModules) = false ∧
    ∃ xs, KT H kvs xs ∧ h.DictOfH (tupleKind (mixKind P w)) a xs := dt_rd ok (.inl e)
end
def DGet (H : Hp) (a : Addr) (y : V) (r : Option V) : Prop :=
  (∃ kvs k, Rd H a (.dK kvs) ∧ y = kV k ∧ r = valV kvs k) ∨ ∃ kvs k b, Rd H a (.dT kvs) ∧ y = .ref b ∧ H b = some (.tup (k.map kV)) ∧ r = valV kvs k
def DPut (H : Hp) (a : Addr) (y v : V) (H' : Hp) : Prop :=
  (∃ kvs k, H a = some (.dK kvs) ∧ y = kV k ∧ kvs.length < sizeLine ∧ H' = upd H a (.dK (putK kvs k v))) ∨
  ∃ kvs k b, H a = some (.dT kvs) ∧ y = .ref b ∧ H b = some (.tup (k.map kV)) ∧ kvs.length < sizeLine ∧ H' = upd H a (.dT (putK kvs k v))
theorem DGet.k {H : Hp} {a : Addr} {kvs : List (Key × V)} {k : Key} (e : H a = some (.dK kvs)) : DGet H a (kV k) (valV kvs k) := .inl ⟨kvs, k, .inl e, rfl, rfl⟩
theorem DGet.t {H : Hp} {a b : Addr} {kvs : List (List Key × V)} {k : List Key} (e : H a = some (.dT kvs)) (eb : H b = some (.tup (k.map kV))) : DGet H a (.ref b) (valV kvs k) := .inr ⟨kvs, k, b, .inl e, rfl, eb, rfl⟩
theorem DPut.k {H : Hp} {a : Addr} {kvs : List (Key × V)} {k : Key} {v : V} (e : H a = some (.dK kvs)) (hl : kvs.length < sizeLine) : DPut H a (kV k) v (upd H a (.dK (putK kvs k v))) := .inl ⟨kvs, k, e, rfl, hl, rfl⟩
theorem DPut.t {H : Hp} {a b : Addr} {kvs : List (List Key × V)} {k : List Key} {v : V} (e : H a = some (.dT kvs)) (eb : H b = some (.tup (k.map kV))) (hl : kvs.length < sizeLine) :
    DPut H a (.ref b) v (upd H a (.dT (putK kvs k v))) := .inr ⟨kvs, k, b, e, rfl, eb, hl, rfl⟩
section
variable {X : Cx} {pins : List (Addr × Obj)} {σ : St} {H : Hp} {s : Shared} {a : Addr} {y v : V} {u r : Value} {o : Option V} {A : Around} {E : Value → Shared → Prop}
theorem Inv.big (I : Inv X pins σ H s) : sysModules < s.heap.objs.size := by
  have h : mainGlobals < s.heap.objs.size := (I.mod.glob.keeps I.bk).lt
  exact Nat.lt_trans (by decide) h
theorem d_getItem {Q : Value → Shared → Prop} (hu : A.units + 1 < cLine) (I : Inv X pins σ H s) (g : DGet H a y (some v)) (ry : RelV y u) (h : ∀ w' s', Inv X pins σ H s' → RelV v w' → Q w' s') :
    wpAny (model X.prog X.w) A (getItem (.ref a) u) Q E s := by
  rcases g with ⟨kvs, k, e, ey, l⟩ | ⟨kvs, k, b, e, ey, eb, l⟩
  · subst ey
    obtain ⟨z, hd, vs, rel, dd⟩ := dk_rd I.hok e
    obtain ⟨w', hw, rw'⟩ := RelO.some_of (v := v) (o := valueAt vs k) (by rw [l]; exact rel.val k)
    exact wpAny_getItem_of (kV_is ry) dd.mapOf hw (h w' _ (I.tok _) rw')
  · subst ey
    cases (show u = Value.ref b from ry)
    obtain ⟨z, hd, xs, rel, dd⟩ := dt_rd I.hok e
    obtain ⟨w', hw, rw'⟩ := RelO.some_of (v := v) (o := (atKey xs k).map (·.2)) (by rw [l]; exact rel.val k)
    obtain ⟨p, hp, hp2⟩ := Option.map_eq_some_iff.mp hw
    refine wpAny_getItem_heap (tupleKind_room_in1 hu) (key_of I.hok eb) dd hp ?_
    rw [hp2]
    exact h w' _ (I.tok _) rw'
theorem d_in {Q : Value → Shared → Prop} (hu : A.units + 1 < cLine) (I : Inv X pins σ H s) (g : DGet H a y o) (ry : RelV y u) (h : ∀ s', Inv X pins σ H s' → Q (.bool o.isSome) s') :
    wpAny (model X.prog X.w) A (compareOp .In u (.ref a)) Q E s := by
  rcases g with ⟨kvs, k, e, ey, l⟩ | ⟨kvs, k, b, e, ey, eb, l⟩
  · subst ey
    obtain ⟨z, hd, vs, rel, dd⟩ := dk_rd I.hok e
    refine wpAny_in_of (kV_is ry) hd dd.mapOf ?_
    rw [← (rel.val k).isSome_eq, ← l]
    exact h _ (I.tok _)
  · subst ey
    cases (show u = Value.ref b from ry)
    obtain ⟨z, hd, xs, rel, dd⟩ := dt_rd I.hok e
    refine wpAny_in_heap (tupleKind_room_in1 hu) (key_of I.hok eb) hd dd ?_
    have q := (rel.val k).isSome_eq
    rw [Option.isSome_map] at q
    rw [← q, ← l]
    exact h _ (I.tok _)
theorem d_notIn {Q : Value → Shared → Prop} (hu : A.units + 1 < cLine) (I : Inv X pins σ H s) (g : DGet H a y o) (ry : RelV y u) (h : ∀ s', Inv X pins σ H s' → Q (.bool (!o.isSome)) s') :
    wpAny (model X.prog X.w) A (compareOp .NotIn u (.ref a)) Q E s := by
  rcases g with ⟨kvs, k, e, ey, l⟩ | ⟨kvs, k, b, e, ey, eb, l⟩
  · subst ey
    obtain ⟨z, hd, vs, rel, dd⟩ := dk_rd I.hok e
    refine wpAny_notIn_of (kV_is ry) hd dd.mapOf ?_
    rw [← (rel.val k).isSome_eq, ← l]
    exact h _ (I.tok _)
  · subst ey
    cases (show u = Value.ref b from ry)
    obtain ⟨z, hd, xs, rel, dd⟩ := dt_rd I.hok e
    refine wpAny_notIn_heap (tupleKind_room_in1 hu) (key_of I.hok eb) hd dd ?_
    have q := (rel.val k).isSome_eq
    rw [Option.isSome_map] at q
    rw [← q, ← l]
    exact h _ (I.tok _)
theorem d_write {h' : Heap} {t' : Nat} {ob : HO} (I : Inv X pins σ H s) (mu : Mut (H a)) (hs : Heap.SameBut a s.heap h') (he : ∃ q, h'.get? a = some q) (new : ObjOk X.prog X.w (upd H a ob) h' a ob) :
    Inv X pins σ (upd H a ob) { s with heap := h', toks := t' } :=
  I.write (x := a) (e := a) mu (.inl rfl) (fun b q hb z => (hs.2 b hb).trans z) he new
theorem dk_new {P : Program} {w : World} {H' : Hp} {h' : Heap} {kvs : List (Key × V)} {vs : List (Key × Value)} (z : kvs.length ≤ sizeLine) (hd : (a == sysModules) = false) (rel : KV kvs vs) (dd : h'.DictOf (mixKind P w) a vs) :
    ObjOk P w H' h' a (.dK kvs) := ⟨z, hd, vs, rel, dd⟩
theorem d_setItem {H' : Hp} {Q : Unit → Shared → Prop} (hu : A.units + 1 < cLine) (I : Inv X pins σ H s) (g : DPut H a y v H') (ry : RelV y u) (rv : RelV v r) (h : ∀ s', Inv X pins σ H' s' → Q () s') :
    wpAny (model X.prog X.w) A (setItem (.ref a) u r) Q E s := by
  rcases g with ⟨kvs, k, e, ey, l, eH⟩ | ⟨kvs, k, b, e, ey, eb, l, eH⟩
  · subst ey eH
    obtain ⟨z, hd, vs, rel, dd⟩ := dk_of I.hok e
    have hz : vs.length ≤ sizeLine := by rw [← rel.length]; exact z
    have hl : (putK kvs k v).length ≤ sizeLine := by have := length_putK kvs k v; omega
    refine wpAny_setItem_pairs (hsz := hz) (kV_is ry) dd fun h' dd' hs => h _ ?_
    have he : ∃ q, h'.get? a = some q := let ⟨q, _, _, hq, _⟩ := dd'; ⟨q, hq⟩
    exact d_write I (by rw [e]; exact True.intro) hs he (dk_new hl hd (rel.put k rv) dd')
  · subst ey eH
    cases (show u = Value.ref b from ry)
    obtain ⟨z, hd, xs, rel, dd⟩ := dt_of I.hok e
    have hz : xs.length ≤ sizeLine := by rw [← Paired.length rel]; exact z
    have hl : (putK kvs k v).length ≤ sizeLine := by have := length_putK kvs k v; omega
    refine wpAny_setItem_heap (hsz := hz) (tupleKind_room_in1 hu) (key_of I.hok eb) dd fun h' dd' hs => h _ ?_
    obtain ⟨q, es, ep, hq, h2, h3, h4, _, h5⟩ := dd'
    refine d_write I (by rw [e]; exact True.intro) hs ⟨q, hq⟩ ⟨hl, hd, _, (rel.put k eb rv).keeps fun c ys ec => ?_, q, es, ep, hq, h2, h3, h4, h5⟩
    rw [upd_ne (ne_of ec e (fun z => nomatch z))]
    exact ec
end
section
variable {X : Cx} {pins : List (Addr × Obj)} {σ : St} {H : Hp} {s : Shared} {a : Addr} {kvs : List (Key × V)} {k : Key} {u : Value} {A : Around} {E : Value → Shared → Prop}
theorem d_len {Q : Value → Shared → Prop} (I : Inv X pins σ H s) (e : Rd H a (.dK kvs)) (h : ∀ t s', Inv X pins σ H s' → Q (.int kvs.length t) s') : wpAny (model X.prog X.w) A (call (.builtin "len") [.ref a]) Q E s := by
  obtain ⟨z, hd, vs, rel, dd⟩ := dk_rd I.hok e
  refine call_len_dict hd dd (by rw [← rel.length]; rw [sizeLine_eq] at z; omega) ?_
  rw [← rel.length]
  exact h _ _ (I.tok _)
end
theorem dict_typeIs {X : Cx} {pins : List (Addr × Obj)} {σ : St} {H : Hp} {s : Shared} {a : Addr} {y : V} {o : Option V} (I : Inv X pins σ H s) (g : DGet H a y o) : s.TypeIs (.ref a) "dict" := by
  rcases g with ⟨kvs, k, e, _, _⟩ | ⟨kvs, k, b, e, _, _, _⟩
  · obtain ⟨_, _, vs, _, dd⟩ := dk_rd I.hok e
    exact dd.typeIs
  · obtain ⟨_, _, xs, _, dd⟩ := dt_rd I.hok e
    exact dd.typeIs
theorem dict_noDict {X : Cx} {pins : List (Addr × Obj)} {σ : St} {H : Hp} {s : Shared} {a : Addr} {y : V} {o : Option V} (I : Inv X pins σ H s) (g : DGet H a y o) :
    ∀ b, Value.ref a = .ref b → ∃ ob, s.heap.get? b = some ob ∧ ob.dict = none := fun b q => by
  cases q
  rcases g with ⟨kvs, k, e, _, _⟩ | ⟨kvs, k, b, e, _, _, _⟩
  · obtain ⟨_, _, vs, _, ob, _, _, h1, h2, _⟩ := dk_rd I.hok e
    exact ⟨ob, h1, h2.2.1⟩
  · obtain ⟨_, _, xs, _, ob, _, _, h1, h2, _⟩ := dt_rd I.hok e
    exact ⟨ob, h1, h2.2.1⟩
section
variable {X : Cx} {o i e value : Expr} {pos pos' tpos : Pos} {td ty tv : TE}
end
theorem dk_empty {P : Program} {w : World} {H : Hp} (h : Heap) (hb : sysModules < h.objs.size) : ObjOk P w H (h.push { cls := .type "dict", data := .dict #[] }) h.objs.size (.dK []) :=
  ⟨Nat.zero_le _, beq_eq_false_iff_ne.mpr (Ne.symm (Nat.ne_of_lt hb)), [], .nil, Heap.DictOf.new h⟩
theorem dt_empty {P : Program} {w : World} {H : Hp} (h : Heap) (hb : sysModules < h.objs.size) : ObjOk P w H (h.push { cls := .type "dict", data := .dict #[] }) h.objs.size (.dT []) :=
  ⟨Nat.zero_le _, beq_eq_false_iff_ne.mpr (Ne.symm (Nat.ne_of_lt hb)), [], .nil, _, #[], 0, Heap.get?_push_size _ rfl, ⟨rfl, rfl, rfl⟩, rfl, rfl, List.nodup_nil⟩
def tDNewK : TE := fun _ H Q => ∀ p, H p = none → Q (.ref p) (upd H p (.dK []))
def tDNewT : TE := fun _ H Q => ∀ p, H p = none → Q (.ref p) (upd H p (.dT []))
section
variable {X : Cx} {pos : Pos}
theorem pe_dnewK : PE X (.Dict [] [] pos) tDNewK := fun pins s σ H Q I h =>
  wpAny_Dict_empty ⟨.ref s.heap.objs.size, _, I.laid (a := s.heap.objs.size) (o := .dK []) (t' := s.toks) (fun _ _ q => Heap.get?_push_of_some _ q) (Nat.le_refl _) (dk_empty s.heap I.big), rfl, h _ (I.hok.fresh (Nat.le_refl _))⟩
theorem pe_dnewT : PE X (.Dict [] [] pos) tDNewT := fun pins s σ H Q I h =>
  wpAny_Dict_empty ⟨.ref s.heap.objs.size, _, I.laid (a := s.heap.objs.size) (o := .dT []) (t' := s.toks) (fun _ _ q => Heap.get?_push_of_some _ q) (Nat.le_refl _) (dt_empty s.heap I.big), rfl, h _ (I.hok.fresh (Nat.le_refl _))⟩
end
structure M1 (X : Cx) (o : Expr) (m : Str) (apos : Pos) (e : Expr) (cpos : Pos) : Prop where
  base : attributeBase o m X.env (eval o X.env) = eval o X.env
  few : ((backTo cpos (starEach [e] X.env)).all (fun x => !x.1) && (backToKw cpos (keywordEach [] X.env)).all (fun x => x.1.isSome)
    && decide (([e] : List Expr).length + ([] : List Keyword).length + (if ([] : List Keyword).isEmpty then 0 else 1) < 30)) = true
  line : (apos.endLine == cpos.line) = true
  trees : backTo cpos (starEach [e] X.env) = [(false, eval e X.env)]
structure M2 (X : Cx) (o : Expr) (m : Str) (apos : Pos) (e f : Expr) (cpos : Pos) : Prop where
  base : attributeBase o m X.env (eval o X.env) = eval o X.env
  few : ((backTo cpos (starEach [e, f] X.env)).all (fun x => !x.1) && (backToKw cpos (keywordEach [] X.env)).all (fun x => x.1.isSome)
    && decide (([e, f] : List Expr).length + ([] : List Keyword).length + (if ([] : List Keyword).isEmpty then 0 else 1) < 30)) = true
  line : (apos.endLine == cpos.line) = true
  trees : backTo cpos (starEach [e, f] X.env) = [(false, eval e X.env), (false, eval f X.env)]
def IsD (H : Hp) (a : Addr) : Prop := (∃ kvs, Rd H a (.dK kvs)) ∨ ∃ kvs, Rd H a (.dT kvs)
theorem isD_at {X : Cx} {pins : List (Addr × Obj)} {σ : St} {H : Hp} {s : Shared} {a : Addr} (I : Inv X pins σ H s) (d : IsD H a) :
    s.TypeIs (.ref a) "dict" ∧ (∀ b, Value.ref a = .ref b → ∃ ob, s.heap.get? b = some ob ∧ ob.dict = none) ∧ (a == sysModules) = false := by
  rcases d with ⟨kvs, e⟩ | ⟨kvs, e⟩
  · obtain ⟨_, hd, vs, _, dd⟩ := dk_rd I.hok e
    refine ⟨dd.typeIs, fun b q => ?_, hd⟩
    cases q
    obtain ⟨ob, _, _, h1, h2, _⟩ := dd
    exact ⟨ob, h1, h2.2.1⟩
  · obtain ⟨_, hd, xs, _, dd⟩ := dt_rd I.hok e
    refine ⟨dd.typeIs, fun b q => ?_, hd⟩
    cases q
    obtain ⟨ob, _, _, h1, h2, _⟩ := dd
    exact ⟨ob, h1, h2.2.1⟩
section
variable {X : Cx} {pins : List (Addr × Obj)} {σ : St} {H : Hp} {s : Shared} {a : Addr} {y d : V} {u r : Value} {o : Option V} {A : Around} {E : Value → Shared → Prop}
theorem d_get1 {Q : Value → Shared → Prop} (hu : A.units + 1 < cLine) (I : Inv X pins σ H s) (g : DGet H a y o) (ry : RelV y u) (h : ∀ w' s', Inv X pins σ H s' → RelV (o.getD .non) w' → Q w' s') :
    wpAny (model X.prog X.w) A (call (.builtin "dict.get") [.ref a, u]) Q E s := by
  rcases g with ⟨kvs, k, e, ey, l⟩ | ⟨kvs, k, b, e, ey, eb, l⟩
  · subst ey
    obtain ⟨z, hd, vs, rel, dd⟩ := dk_rd I.hok e
    refine call_meetsIn PySem.F.slot_dict_get dd.typeIs PySem.F.entry_dict_get (PySem.F.args_dict_get_2 _ _) (meets_dict_get (mixKind X.prog X.w) a (kV_is ry) hd) ⟨_, dd.mapOf, h _ _ (I.tok _) ?_⟩
    rw [l]
    exact (rel.val k).getD rfl
  · subst ey
    cases (show u = Value.ref b from ry)
    obtain ⟨z, hd, xs, rel, dd⟩ := dt_rd I.hok e
    refine call_meetsIn PySem.F.slot_dict_get dd.typeIs PySem.F.entry_dict_get (PySem.F.args_dict_get_2 _ _) (meetsH_dict_get (tupleKind (mixKind X.prog X.w)) a b hd) ⟨tupleKind_room_in1 hu, k, xs, key_of I.hok eb, dd, h _ _ (I.tok _) ?_⟩
    rw [l]
    exact (rel.val k).getD rfl
theorem d_get2 {Q : Value → Shared → Prop} (hu : A.units + 1 < cLine) (I : Inv X pins σ H s) (g : DGet H a y o) (ry : RelV y u) (rd : RelV d r) (h : ∀ w' s', Inv X pins σ H s' → RelV (o.getD d) w' → Q w' s') :
    wpAny (model X.prog X.w) A (call (.builtin "dict.get") [.ref a, u, r]) Q E s := by
  rcases g with ⟨kvs, k, e, ey, l⟩ | ⟨kvs, k, b, e, ey, eb, l⟩
  · subst ey
    obtain ⟨z, hd, vs, rel, dd⟩ := dk_rd I.hok e
    refine call_meetsIn PySem.F.slot_dict_get dd.typeIs PySem.F.entry_dict_get (PySem.F.args_dict_get_3 _ _ _) (meets_dict_get_default (mixKind X.prog X.w) a (kV_is ry) hd r) ⟨_, dd.mapOf, h _ _ (I.tok _) ?_⟩
    rw [l]
    exact (rel.val k).getD rd
  · subst ey
    cases (show u = Value.ref b from ry)
    obtain ⟨z, hd, xs, rel, dd⟩ := dt_rd I.hok e
    refine call_meetsIn PySem.F.slot_dict_get dd.typeIs PySem.F.entry_dict_get (PySem.F.args_dict_get_3 _ _ _) (meetsH_dict_get_default (tupleKind (mixKind X.prog X.w)) a b hd r) ⟨tupleKind_room_in1 hu, k, xs, key_of I.hok eb, dd, h _ _ (I.tok _) ?_⟩
    rw [l]
    exact (rel.val k).getD rd
end
def tDGet1 (td ty : TE) : TE := fun σ H Q => td σ H fun x H1 => ∃ a, x = .ref a ∧ IsD H1 a ∧ ty σ H1 fun y H2 => ∃ o, DGet H2 a y o ∧ Q (o.getD .non) H2
def tDGet2 (td ty tx : TE) : TE := fun σ H Q => td σ H fun x H1 => ∃ a, x = .ref a ∧ IsD H1 a ∧ ty σ H1 fun y H2 => tx σ H2 fun z H3 => ∃ o, DGet H3 a y o ∧ Q (o.getD z) H3
section
variable {X : Cx} {o e f : Expr} {apos cpos : Pos} {td ty tx : TE}
theorem pe_dget1 (hu : X.A.units + 1 < cLine) (ho : PE X o td) (he : PE X e ty) (m : M1 X o "get" apos e cpos) : PE X (.Call (.Attribute o "get" apos) [e] [] cpos) (tDGet1 td ty) := by
  intro pins s σ H Q I h
  refine wpAny_Call_method m.base m.few m.line PySem.F.plainAttrs_dict PySem.F.slot_dict_get PySem.F.type_dict_get (thn (ho pins s σ H _ I h) fun u s1 ⟨x, H1, I1, rx, a, ex, d, q1⟩ => ?_)
  subst ex
  obtain rfl : u = Value.ref a := rx
  obtain ⟨t1, t2, _⟩ := isD_at I1 d
  refine ⟨t1, t2, ?_⟩
  rw [m.trees]
  refine Calls.callWith_builtin rfl (Calls.evalArgs_plain (Calls.spliced_cons (thn (he pins s1 σ H1 _ I1 q1) fun iv s2 ⟨y, H2, I2, ry, ov, g, q2⟩ => Calls.spliced_nil ?_)))
  exact d_get1 hu I2 g ry fun w' s3 I3 rw' => ⟨_, H2, I3, rw', q2⟩
theorem pe_dget2 (hu : X.A.units + 1 < cLine) (ho : PE X o td) (he : PE X e ty) (hf : PE X f tx) (m : M2 X o "get" apos e f cpos) : PE X (.Call (.Attribute o "get" apos) [e, f] [] cpos) (tDGet2 td ty tx) := by
  intro pins s σ H Q I h
  refine wpAny_Call_method m.base m.few m.line PySem.F.plainAttrs_dict PySem.F.slot_dict_get PySem.F.type_dict_get (thn (ho pins s σ H _ I h) fun u s1 ⟨x, H1, I1, rx, a, ex, d, q1⟩ => ?_)
  subst ex
  obtain rfl : u = Value.ref a := rx
  obtain ⟨t1, t2, _⟩ := isD_at I1 d
  refine ⟨t1, t2, ?_⟩
  rw [m.trees]
  refine Calls.callWith_builtin rfl (Calls.evalArgs_plain (Calls.spliced_cons (thn (he pins s1 σ H1 _ I1 q1) fun iv s2 ⟨y, H2, I2, ry, q2⟩ =>
    Calls.spliced_cons (thn (hf pins s2 σ H2 _ I2 q2) fun fv s3 ⟨z, H3, I3, rz, ov, g, q3⟩ => Calls.spliced_nil ?_))))
  exact d_get2 hu I3 g ry rz fun w' s4 I4 rw' => ⟨_, H3, I4, rw', q3⟩
end
section
variable {X : Cx} {pins : List (Addr × Obj)} {σ : St} {H : Hp} {s : Shared} {a : Addr} {kvs : List (Key × V)} {A : Around} {E : Value → Shared → Prop}
end
section
variable {X : Cx} {pins : List (Addr × Obj)} {σ : St} {H : Hp} {s : Shared} {a : Addr} {y : V} {u : Value} {A : Around} {E : Value → Shared → Prop}
end
end L2
namespace Att
open PySem PySem.W PySem.Calls PyProof.Rows
theorem ints_of_wellAll {P : Params} {h : Heap} : ∀ (ns : List Int) (vs : List Value), WellAll P h vs (ns.map WData.int) → IntsAre vs ns := by
  intro ns
  induction ns with
  | nil =>
    intro vs w
    rw [List.map_nil] at w
    cases w
    exact .nil
  | cons n ns ih =>
    intro vs w
    rw [List.map_cons] at w
    cases w with
    | cons a b =>
      cases a
      exact .cons _ _ (ih _ b)
theorem script_of {l : OpenLaw} {n : Nat} (hn : l.most = some n) {P : Params} {h : Heap} {args : List WData} {vals : List Value}
    (hpre : l.row.toRowW.claim.pre args = true) (hwl : WellAll P h vals args) :
    ∃ a vs ns, vals = [Value.ref a] ∧ args = [WData.list (ns.map WData.int)] ∧ h.get? a = some { cls := .type "list", data := .seq vs.toArray } ∧ IntsAre vs ns ∧ ns.length ≤ n := by
  have hsh : WShape.hasAll [] args [.list .int] = true := (pre_splitW hpre).1
  have hc : l.pre.holds [] { args := args } = true := (pre_splitW hpre).2
  obtain ⟨d, r, rfl, h1, h2⟩ := hasAllW_cons hsh
  obtain rfl := hasAllW_nil h2
  obtain ⟨xs, rfl, h3⟩ := hasW_list h1
  obtain ⟨ns, rfl⟩ := items_int h3
  have hlen : ns.length ≤ n := by
    unfold OpenLaw.pre at hc
    have h4 : (WTm.not (.lt (.lit (.int (n : Int))) (.len (.arg 0)))).holds [] { args := [.list (ns.map .int)] } = true := by
      have h4 := (holds_andW hc).1
      rw [hn] at h4
      exact h4
    have h5 := condW_of h4 (w_not (w_lt w_lit (w_len_list (w_arg rfl))))
    rw [List.length_map] at h5
    refine Nat.le_of_not_lt fun q => ?_
    have q' : (n : Int) < ((ns.length : Nat) : Int) := by omega
    first
      | (rw [decide_eq_true q'] at h5; exact absurd h5 (by decide))
      | (simp at h5; omega)
  cases hwl with
  | cons w1 w2 =>
    cases w2
    cases w1 with
    | list ho hall => exact ⟨_, _, ns, rfl, rfl, ho, ints_of_wellAll ns _ hall, hlen⟩
theorem post_true (l : OpenLaw) (args : List WData) : l.row.toRowW.claim.post args (.bool true) args = true :=
  postW_of (r := l.row.toRowW) (X := (true == true))
    (show WShape.has [] (.bool true) .bool = true by first | rfl | decide | simp [WShape.has, WShape.arms, WShape.armsAll])
    (show (WTm.eq .res (.lit (.bool true))).value [] { args := args, res := some (.bool true), after := args } = some (.bool (true == true)) from w_eq_bool (w_res rfl) w_lit) rfl
theorem attach_call {l : OpenLaw} {n : Nat} {q : Program} {loose : List Str} {XP : (Str → Option Value) → Heap → Prop} {YP : World → Heap → Prop} {d : DefRec}
    (hn : l.most = some n) (hdf : d.params.defaults = [])
    (call : ∀ (w : World) (s₀ s₁ : Shared) (mg mb : Str → Option Value) (fa : Addr) (o : Obj) (pm cd doc : Value) (a : Addr) (vs : List Value) (ns : List Int),
      Ground q loose [] XP w s₀ mg mb s₁.heap → YP w s₁.heap →
      s₁.heap.get? fa = some o → o.data = .func (docDef d.name d.params d.body d.scope pm cd doc) → s₁.heap.CodeRec cd d.name → mg d.name = some (.ref fa) →
      s₁.heap.get? a = some { cls := .type "list", data := .seq vs.toArray } → IntsAre vs ns → ns.length ≤ n → s₁.gens = #[] →
      codeAny (model l.prog w) callerA (.call (.ref fa) ⟨[.ref a], []⟩) (fun r s' => r = .ok (.ret (.bool true)) ∧ OldK s₁.heap s'.heap ∧ s'.os = s₁.os ∧ AllBare s'.gens) s₁) :
    WalkO q loose XP YP l.row.toRowW d [] (fun f vs => PySem.call f vs) := by
  intro w s₀ s₁ mg mb G Y fa o pm cd doc dV kV ho hd hcd hD hmg hg args vals as hpre hlay hrd hwl hlo
  obtain rfl : dV = .none := Dflts.none hD hdf
  obtain rfl : kV = .none := Dflts.noKw hD
  obtain ⟨a, vs, ns, rfl, rfl, hobj, hints, hlen⟩ := script_of hn hpre hwl
  refine enter_call (codeAny_mono (call w s₀ s₁ mg mb fa o pm cd doc a vs ns G Y ho (fd_plain hd) hcd hmg hobj hints hlen hg) fun r s' hq => ?_)
  obtain ⟨rfl, h2, h3, h4⟩ := hq
  exact ⟨.inl ⟨.bool true, .bool true, [], rfl, fun _ => rfl, .bool true, post_true l _, fun _ => ⟨List.Pairwise.nil, fun _ hm => (nomatch hm)⟩⟩, h2, h3, h4⟩
section
variable {prog : Program} {w : World} {A : Around} {E : Value → Shared → Prop} {s : Shared} {K : Frag}
end
end Att
namespace L2
open PySem PySem.Spec PyProof.Rows
theorem vals_ints : ∀ {vs : List Value} {ns : List Int}, IntsAre vs ns → Vals (ns.map V.int) vs
  | _, _, .nil => .nil
  | _, _, .cons n t h => .cons ⟨t, rfl⟩ (vals_ints h)
def Only (H : Hp) : Prop := ∀ b, H b = none ∨ ∃ o xs, H b = some (.frz o (.lst xs))
theorem law_call {P : Program} {w : World} {K : PySem.W.Frag} {mg mb : Str → Option Value} {CX : CXT} {k : Nat} {fa a : Addr} {fd : FuncData} {x : Str} {sp : Sp} {s₁ : Shared} {vs : List Value} {ns : List Int}
    (KX : K.In s₁.heap) (hns : s₁.heap.Ns mainGlobals mg) (hb : s₁.heap.Ns builtinsNs mb) (hbb : ∀ x : Str, x ≠ "__name__" → mb x = bootBuiltins x) (hlim : s₁.heap.NoLimit) (hg : s₁.gens = #[])
    (ha : s₁.heap.get? a = some { cls := .type "list", data := .seq vs.toArray }) (hi : IntsAre vs ns) (hl : ns.length ≤ sizeLine) (hr : Room k callerA)
    (F : ∀ base : Heap, K.In base → base.Ns mainGlobals mg → FnOk P w K mg base CX k fa fd [x] sp) (hbind : ∀ (s : Shared) (u : Value), BindsTo s fd ⟨[u], []⟩ [(x, u)])
    (hsp : ∀ H : Hp, Only H → SqL K H a (ns.map V.int) → sp [.ref a] H (fun v _ => v = .bl true) fun _ _ _ => False)
    (hCX : ∀ H e s', CX [] H s₁ (fun _ _ _ => False) e s' → False) :
    codeAny (model P w) callerA (.call (.ref fa) ⟨[.ref a], []⟩) (fun r s' => r = .ok (.ret (.bool true)) ∧ OldK s₁.heap s'.heap ∧ s'.os = s₁.os ∧ AllBare s'.gens) s₁ := by
  have rv := vals_ints hi
  have lenV := hi.length
  have core : ∀ H : Hp, Only H → SqL K H a (ns.map V.int) → HOk P w H s₁.heap → (∀ b, H b ≠ none → b = a) → (H a ≠ none → K.lookup a = none) →
      codeAny (model P w) callerA (.call (.ref fa) ⟨[.ref a], []⟩) (fun r s' => r = .ok (.ret (.bool true)) ∧ OldK s₁.heap s'.heap ∧ s'.os = s₁.os ∧ AllBare s'.gens) s₁ := by
    intro H hO hS hok hA hK
    have base_of : ∀ {b : Addr} {o : Obj}, s₁.heap.get? b = some o → H b = none → (hidT s₁.heap H).get? b = some o := fun e n => hidT_get e n
    have noA : ∀ {b : Addr} {o : Obj} {es : Array DictEntry} {ep : Nat}, s₁.heap.get? b = some o → o.data = .dict es ep → H b = none := fun {b o es ep} e d => by
      cases q : H b with
      | none => rfl
      | some u =>
        have e' : b = a := hA b (by rw [q]; simp)
        subst e'
        rw [ha] at e; cases e
        have d' : Data.seq vs.toArray _ = Data.dict es ep := d
        cases d'
    have nsK : ∀ {b : Addr} {m : Str → Option Value}, s₁.heap.Ns b m → (hidT s₁.heap H).Ns b m := fun {b m} ⟨o, es, ep, e, d, r⟩ => ⟨o, es, ep, base_of e (noA e d), d, r⟩
    have hKb : K.In (hidT s₁.heap H) := fun b o e => base_of (KX b o e) (by
      cases q : H b with
      | none => rfl
      | some u =>
        have e' : b = a := hA b (by rw [q]; simp)
        subst e'
        rw [hK (by rw [q]; simp)] at e; cases e)
    have hM : Mod K mg (hidT s₁.heap H) := ⟨hKb, nsK hns, ⟨mb, nsK hb, hbb⟩, let ⟨mc, h1, h2⟩ := hlim; ⟨mc, nsK h1, h2⟩⟩
    have e0 : Env0 P w K mg (hidT s₁.heap H) callerA [] s₁ H := ⟨rfl, hM, fun b o e => of_hidT e, Nat.le_of_eq (hidT_size _ _), trivial, fun b hb => absurd (show b ∈ ([] : List Addr) from hb) (by simp), hok, .of_eq hg⟩
    refine codeAny_mono ((F _ hKb (nsK hns)).run callerA [] s₁ H ⟨[.ref a], []⟩ [.ref a] [.ref a] _ _ hr e0 (hbind s₁ (.ref a)) (.cons rfl .nil) (hsp H hO hS)) fun r s' h => ?_
    cases r with
    | error e => exact (hCX H e s' h).elim
    | ok fl =>
      cases fl with
      | next => exact False.elim h
      | brk => exact False.elim h
      | cont => exact False.elim h
      | ret u =>
        obtain ⟨v, H', os, bare, un, hok', r', q⟩ := h
        have q' : v = .bl true := q
        subst q'
        obtain rfl : u = Value.bool true := r'
        refine ⟨rfl, OldK.of_keep fun b o e => ?_, os, bare⟩
        cases q : H b with
        | none => exact un.keep b o e q (by intro z; exact absurd (show b ∈ ([] : List Addr) from z) (by simp)) (by simp)
        | some u =>
          rcases hO b with z | ⟨ob, xs, z⟩
          · rw [q] at z; cases z
          · have z2 := un.frzs b ob _ z
            obtain ⟨e1, _⟩ := hok b _ z
            obtain ⟨e2, _⟩ := hok' b _ z2
            rw [e] at e1; cases e1
            exact e2
  cases hk : K.lookup a with
  | some o =>
    have e := KX a o hk
    rw [ha] at e
    cases e
    refine core (fun _ => none) (fun _ => .inl rfl) (.inr ⟨_, vs.toArray, _, hk, rfl, rfl, rfl, by rw [List.size_toArray, lenV]; exact hl, by simpa using rv⟩) (fun b u z => by have z' : (none : Option HO) = some u := z; cases z') (fun b z => absurd rfl z) fun z => absurd rfl z
  | none =>
    refine core (fun b => if b = a then some (.frz { cls := .type "list", data := .seq vs.toArray } (.lst (ns.map V.int))) else none) (fun b => ?_) (.inl (.inr ⟨{ cls := .type "list", data := .seq vs.toArray }, if_pos rfl⟩)) (fun b u z => ?_) (fun b z => ?_) fun _ => hk
    · by_cases hb : b = a
      · exact .inr ⟨_, _, if_pos hb⟩
      · exact .inl (if_neg hb)
    · by_cases hb : b = a
      · have z' := (if_pos hb).symm.trans z
        cases z'
        subst hb
        exact ⟨ha, by rw [List.length_map]; exact hl, vs, _, rv, ha⟩
      · have z' := (if_neg hb).symm.trans z
        cases z'
    · by_cases hb : b = a
      · exact hb
      · exact absurd (if_neg hb) z
end L2
namespace L2
open PySem PySem.Spec PyProof.Rows
theorem walk_of {l : PySem.W.OpenLaw} {n k : Nat} {q : Program} {loose : List Str} {XP : (Str → Option Value) → Heap → Prop} {YP : World → Heap → Prop} {d : DefRec} {K : Params → PySem.W.Frag} {CX : World → CXT} {sp : World → Sp} {x : Str}
    (hn : l.most = some n) (hn2 : n ≤ sizeLine) (hdf : d.params.defaults = []) (hr : Room k callerA)
    (hY : ∀ (w : World) (h : Heap), YP w h → (K w.params).In h)
    (F : ∀ (w : World) (mg : Str → Option Value) (fa : Addr) (h : Heap), (K w.params).In h → h.Ns mainGlobals mg → mg d.name = some (.ref fa) →
      ∃ fd : FuncData, (∀ (s : Shared) (u : Value), BindsTo s fd ⟨[u], []⟩ [(x, u)]) ∧
        ∀ base : Heap, (K w.params).In base → base.Ns mainGlobals mg → FnOk l.prog w (K w.params) mg base (CX w) k fa fd [x] (sp w))
    (hsp : ∀ (w : World) (H : Hp) (a : Addr) (ns : List Int), ns.length ≤ n → Only H → SqL (K w.params) H a (ns.map V.int) → sp w [.ref a] H (fun v _ => v = .bl true) fun _ _ _ => False)
    (hCX : ∀ (w : World) (H : Hp) (s : Shared) (e : Value) (s' : Shared), CX w [] H s (fun _ _ _ => False) e s' → False) :
    PySem.W.WalkO q loose XP YP l.row.toRowW d [] (fun f vs => PySem.call f vs) := by
  refine Att.attach_call hn hdf fun w s₀ s₁ mg mb fa o pm cd doc a vs ns G Y ho hd hcd hmg hobj hints hlen hg => ?_
  have KX := hY w _ Y
  obtain ⟨fd, hb, hF⟩ := F w mg fa _ KX G.T.g hmg
  exact law_call KX G.T.g G.T.b G.T.builtins G.T.nolimit hg hobj hints (Nat.le_trans hlen hn2) hr hF hb (fun H hO hS => hsp w H a ns hlen hO hS) fun H e s' => hCX w H s₁ e s'
end L2
/- THE LAST THEOREM (shape; LID, My.* are yours):
   My.Adr: a structure of the addresses that your layer names (classes, functions); My.Txt K t: a structure (Prop) of the equations over K;
   My.txt_mk : {K} {implicit addresses ..} (e1 : nsIn K mainGlobals "law" = some (some (.ref f))) (e2 : K.lookup f = some ⟨oc, od, .func (fnOf "law" "law" params body scope dV kV doc pm an cdv ct), sl⟩) (e3 : codeIn K cdv "law" = true) .. : ∃ t, My.Txt K t
set_option maxRecDepth 100000 in
set_option maxHeartbeats 0 in
theorem PySem.Challenge.cw_LID_holds : PySem.Challenge.rw_LID.Holds := by
  w_on; o_law; k_head; (case hw => w_witness2)
  k_fill
  refine L2.walk_of (l := PySem.Challenge.rw_LID) (n := 63) (k := 40) (x := "script") (CX := fun w => ..) (sp := fun _ => My.sp_law) rfl (by decide) rfl ⟨rfl, by decide, by decide⟩ (fun w h Y => PySem.W.kIn_of Y) ?F ?S ?C
  case F =>
    intro w mg fa h KX G hmg
    have T : ∃ t, My.Txt (L2.KOf KX) t := by
      dsimp only [L2.KOf]                          -- K must stand as «<heap const> w.params» for k_is
      refine' My.txt_mk ?e1 ?e2 ?e3 ..
      (case e1 => PySem.W.k_is)                    -- in the order: a name -> its address -> its object -> its parts
      (case e2 => PySem.W.k_is)
      ..
    obtain ⟨t, T⟩ := T
    have e0 := hmg.symm.trans (PySem.W.mg_of KX G T.law)
    cases e0                                       -- fa is the law's own address
    exact ⟨_, fun s u => .of_eq rfl, fun base kb nb => My.law_fn T kb nb⟩     -- if «.of_eq rfl» comes too early: refine' ⟨_, ?b, fun base kb nb => My.law_fn T kb nb⟩; exact fun s u => .of_eq rfl
  case S => exact fun w H a ns hl hO hS => ..
  case C => exact ..
(the tactic k_is has no namespace: write k_is) -/
namespace L2
open PySem PySem.Spec PyProof.Rows
def defArgs (s : Stmt) : Arguments := match s with
  | .FunctionDef _ a _ _ _ _ _ _ _ _ => a
  | _ => { posonlyargs := [], args := [], vararg := none, kwonlyargs := [], kw_defaults := [], kwarg := none, defaults := [] }
def defBody (s : Stmt) : List Stmt := match s with
  | .FunctionDef _ _ b _ _ _ _ _ _ _ => b
  | _ => []
def defScope (s : Stmt) : Scope := match s with
  | .FunctionDef _ _ _ _ _ _ sc _ _ _ => sc
  | _ => { kind := .function, names := [], isGenerator := false, isCoroutine := false }
abbrev CX0 : CXT := fun _ _ _ _ _ _ => False
abbrev E0 : XK := fun _ _ _ => False
theorem pass0 {X : Cx} : Passes CX0 X E0 := fun _ _ _ _ _ _ _ h => h.elim
structure Fun (K : PySem.W.Frag) (x qual : Str) (st : Stmt) (f : Addr) (fd : FuncData) : Prop where
  ex : ∃ (oc : Value) (od : Option Addr) (kV doc pm : Value) (an : Option Addr) (cdv ct : Value) (osl : Array (Option Value)),
    fd = PySem.W.fnOf x qual (defArgs st) (defBody st) (defScope st) .none kV doc pm an cdv ct ∧ K.lookup f = some ⟨oc, od, .func fd, osl⟩ ∧ PySem.W.codeIn K cdv qual = true
  kp : PySem.W.keepIn K (.ref f) = true
section
variable {P : Program} {w : World} {K : PySem.W.Frag} {mg : Str → Option Value} {base : Heap}
theorem Fun.ok {x qual : Str} {st : Stmt} {f : Addr} {fd : FuncData} {N ps : List Str} {k : Nat} {sp : Sp} (F : Fun K x qual st f fd) (S : FnScope N ps (defScope st)) (len : ∀ vs H Q E, sp vs H Q E → vs.length = ps.length)
    (hbody : ∀ (cdv : Value) (A : Around) (outer : List Env) (s : Shared) (H : Hp) (vs : List V) (Q : VK) (E : XK), Room k (A.deeper (envOfC qual (defScope st) s.heap.objs.size f cdv)) → sp vs H Q E →
      ∃ t, PSs (cxOf CX0 P w K mg base N qual (defScope st) f cdv A outer s H E).nox (defBody st) t ∧ t { nx := fun _ H' => Q .non H', rt := Q } (start N vs) H) : FnOk P w K mg base CX0 (k + 1) f fd ps sp := by
  obtain ⟨oc, od, kV, doc, pm, an, cdv, ct, osl, rfl, lk, hcd⟩ := F.ex
  refine fn_of lk hcd S len fun A outer s H vs Q E hr hsp => ?_
  obtain ⟨t, h, q⟩ := hbody cdv A outer s H vs Q E hr hsp
  exact ⟨t, h.nox, q⟩
theorem Fun.binds {x qual : Str} {st : Stmt} {f : Addr} {fd : FuncData} {ps : List Str} (F : Fun K x qual st f fd)
    (h : ∀ (kV doc pm : Value) (an : Option Addr) (cdv ct : Value) (us : List Value), us.length = ps.length → bindArgs (PySem.W.fnOf x qual (defArgs st) (defBody st) (defScope st) .none kV doc pm an cdv ct) ⟨us, []⟩ = pure (ps.zip us)) : Binds K fd ps [] := by
  obtain ⟨oc, od, kV, doc, pm, an, cdv, ct, osl, rfl, lk, hcd⟩ := F.ex
  exact .all (h kV doc pm an cdv ct)
theorem fun_mk {x qual : Str} {st : Stmt} {f : Addr} {oc : Value} {od an : Option Addr} {osl : Array (Option Value)} {kV doc pm cdv ct : Value} (l : K.lookup f = some ⟨oc, od, .func (PySem.W.fnOf x qual (defArgs st) (defBody st) (defScope st) .none kV doc pm an cdv ct), osl⟩)
    (c : PySem.W.codeIn K cdv qual = true) (k : PySem.W.keepIn K (.ref f) = true) : Fun K x qual st f (PySem.W.fnOf x qual (defArgs st) (defBody st) (defScope st) .none kV doc pm an cdv ct) := ⟨⟨oc, od, kV, doc, pm, an, cdv, ct, osl, rfl, l, c⟩, k⟩
end
section
variable {X : Cx}
end
def Same (H H' : Hp) : Prop := ∀ b o, H b = some o → H' b = some o
theorem Same.refl (H : Hp) : Same H H := fun _ _ h => h
section
variable {κ : Type} [DecidableEq κ]
end
end L2

namespace L2
open PySem PySem.Spec PyProof.Rows
def freesOf (env : Env) : List (Str × NameKind) → List (Str × Addr) → List (Str × Addr)
  | [], cs => cs
  | (n, k) :: r, cs => freesOf env r (if (k == NameKind.free) = true then (n, (env.cells.lookup n).getD 0) :: cs else cs)
theorem closure_of {sc : Scope} {env : Env} (h : ∀ x ∈ sc.names, x.2 = .free → ∃ c, env.cells.lookup x.1 = some c) : closureFor sc env = pure (freesOf env sc.names []) := by
  have go : ∀ (l : List (Str × NameKind)) (cs : List (Str × Addr)), (∀ x ∈ l, x.2 = .free → ∃ c, env.cells.lookup x.1 = some c) →
      (forIn l cs (fun (x : Str × NameKind) (r : List (Str × Addr)) =>
        if (x.2 == NameKind.free) = true then do let a ← cellOf env x.1; pure (ForInStep.yield ((x.1, a) :: r)) else pure (ForInStep.yield r)) : Sem (List (Str × Addr))) = pure (freesOf env l cs) := by
    intro l
    induction l with
    | nil => intro cs _; rfl
    | cons x r ih =>
      intro cs hx
      obtain ⟨n, k⟩ := x
      have hr : ∀ y ∈ r, y.2 = .free → ∃ c, env.cells.lookup y.1 = some c := fun y hy => hx y (List.mem_cons_of_mem _ hy)
      rw [List.forIn_cons]
      by_cases hk : (k == NameKind.free) = true
      · obtain ⟨c, hc⟩ := hx (n, k) List.mem_cons_self (by simpa using hk)
        have e : cellOf env n = pure c := by unfold cellOf; simp only at hc; rw [hc]
        simp only [hk, if_true, e]
        show _ = pure (freesOf env r (if (k == NameKind.free) = true then (n, (env.cells.lookup n).getD 0) :: cs else cs))
        rw [if_pos hk]
        simp only at hc
        rw [hc]
        exact ih _ hr
      · simp only [hk]
        show _ = pure (freesOf env r (if (k == NameKind.free) = true then (n, (env.cells.lookup n).getD 0) :: cs else cs))
        rw [if_neg hk]
        exact ih _ hr
  have q := go sc.names [] h
  unfold closureFor
  show ((forIn sc.names [] (fun (x : Str × NameKind) (r : List (Str × Addr)) =>
        if (x.2 == NameKind.free) = true then do let a ← cellOf env x.1; pure (ForInStep.yield ((x.1, a) :: r)) else pure (ForInStep.yield r)) : Sem (List (Str × Addr))) >>= fun cs => pure cs) = _
  rw [q]
  rfl
theorem freesOf_has {env : Env} {x : Str} : ∀ {l : List (Str × NameKind)} {cs : List (Str × Addr)}, ((x, NameKind.free) ∈ l ∨ ∃ c, cs.lookup x = some c) → ∃ c, (freesOf env l cs).lookup x = some c
  | [], cs, h => by
    rcases h with h | h
    · exact nomatch h
    · exact h
  | (n, k) :: r, cs, h => by
    show ∃ c, (freesOf env r (if (k == NameKind.free) = true then (n, (env.cells.lookup n).getD 0) :: cs else cs)).lookup x = some c
    refine freesOf_has ?_
    rcases h with h | ⟨c, h⟩
    · rcases List.mem_cons.mp h with e | e
      · injection e with e1 e2
        subst e1 e2
        right
        rw [if_pos (by rfl)]
        exact ⟨_, by rw [List.lookup_cons]; simp; rfl⟩
      · exact .inl e
    · right
      by_cases hk : (k == NameKind.free) = true
      · rw [if_pos hk, List.lookup_cons]
        split
        · exact ⟨_, rfl⟩
        · exact ⟨c, h⟩
      · rw [if_neg hk]; exact ⟨c, h⟩
theorem freesOf_get {env : Env} {x : Str} {c : Addr} : ∀ {l : List (Str × NameKind)} {cs : List (Str × Addr)}, (∀ y ∈ l, y.2 = .free → ∃ d, env.cells.lookup y.1 = some d) →
    (freesOf env l cs).lookup x = some c → cs.lookup x = some c ∨ ((x, NameKind.free) ∈ l ∧ env.cells.lookup x = some c)
  | [], cs, _, h => .inl h
  | (n, k) :: r, cs, hx, h => by
    have h' : (freesOf env r (if (k == NameKind.free) = true then (n, (env.cells.lookup n).getD 0) :: cs else cs)).lookup x = some c := h
    rcases freesOf_get (fun y hy => hx y (List.mem_cons_of_mem _ hy)) h' with q | ⟨q1, q2⟩
    · by_cases hk : (k == NameKind.free) = true
      · rw [if_pos hk, List.lookup_cons] at q
        split at q
        · rename_i e
          have e' : x = n := by simpa using e
          subst e'
          have hk' : k = .free := by simpa using hk
          subst hk'
          obtain ⟨d, hd⟩ := hx (x, .free) List.mem_cons_self rfl
          simp only at hd
          rw [hd] at q
          simp only [Option.getD_some] at q
          exact .inr ⟨List.mem_cons_self, by rw [hd]; exact q⟩
        · exact .inl q
      · rw [if_neg hk] at q; exact .inl q
    · exact .inr ⟨List.mem_cons_of_mem _ q1, q2⟩
section
variable {prog : Program} {w : World} {A : Around} {R : Result → Shared → Prop} {s : Shared}
theorem comp_loop {elt target iter : Expr} {ifs : List Expr} {scope : Scope} {pos : Pos} {it acc : Value} {env : Env} (I : Nat → Shared → Prop)
    (turn : ∀ n s, I n s → wpAny (model prog w) A (pyNext it) (fun r s₁ => match r with
      | none => R (.ok .next) s₁
      | some v => wpAny (model prog w) A (letOwnedTupleGo target it v) (fun _ s₁' => wpAny (model prog w) A (assign target env v) (fun _ s₂ =>
          wpAny (model prog w) A (forIn ifs true fun c r => if r = true then do let ok ← isTrue c env (eval c env); pure (ForInStep.yield ok) else pure (ForInStep.yield r)) (fun ok s₃ =>
            if ok = true then wpAny (model prog w) A (eval elt env) (fun x s₄ =>
              wpAny (model prog w) A (call (.builtin "list.append") [acc, x]) (fun _ s₅ => ∃ m, m < n ∧ I m s₅) (fun _ _ => False) s₄) (fun _ _ => False) s₃
            else ∃ m, m < n ∧ I m s₃) (fun _ _ => False) s₂) (fun _ _ => False) s₁') (fun _ _ => False) s₁) (fun _ _ => False) s)
    (n : Nat) (h : I n s) :
    codeAny (model prog w) A (.compLoop (.ListComp elt [⟨target, iter, ifs, 0⟩] scope pos) 0 it acc env) R s := by
  refine codeAny_loop rfl I (fun n s hI => ?_) n h
  show wpAny _ A ((compTurn (.ListComp elt [⟨target, iter, ifs, 0⟩] scope pos) 0 it acc env).onRaise (fun x => do noteFrame x env; theTreesLotGoes x)) _ _ s
  refine wpAny_noted ?_
  rw [compTurn_list]
  refine wpAny_bind (wpAny_standAt (wpAny_bind (wpAny_mono (turn n s hI) (fun r s₁ h₁ => ?_) fun _ _ h' => h'.elim)))
  cases r with
  | none => exact wpAny_pure h₁
  | some v =>
    refine wpAny_bind (wpAny_mono h₁ (fun _ s₁' h₁' => ?_) fun _ _ h' => h'.elim)
    refine wpAny_bind (wpAny_mono h₁' (fun _ s₂ h₂ => wpAny_bind (wpAny_mono h₂ (fun ok s₃ h₃ => ?_) fun _ _ h' => h'.elim)) fun _ _ h' => h'.elim)
    cases ok with
    | false => exact wpAny_pure ⟨rfl, h₃⟩
    | true =>
      exact wpAny_bind (wpAny_bind (wpAny_mono h₃ (fun x s₄ h₄ => wpAny_bind (wpAny_mono h₄ (fun _ s₅ h₅ => wpAny_pure (wpAny_pure ⟨rfl, h₅⟩)) fun _ _ h' => h'.elim)) fun _ _ h' => h'.elim))
end
theorem relabel_free {env : Env} : ∀ {names : List (Str × NameKind)} {x : Str}, names.lookup x = some .free →
    (names.map fun (n, k) => if (k == NameKind.free && env.scope.kind == .function && env.kindOf n == some .cell) then (n, NameKind.cell) else (n, k)).lookup x = some .cell ∨
    (names.map fun (n, k) => if (k == NameKind.free && env.scope.kind == .function && env.kindOf n == some .cell) then (n, NameKind.cell) else (n, k)).lookup x = some .free
  | [], _, h => by simp at h
  | (n, k) :: r, x, h => by
    have ih := @relabel_free env r x
    show List.lookup x ((if (k == NameKind.free && env.scope.kind == .function && env.kindOf n == some .cell) = true then (n, NameKind.cell) else (n, k)) :: _) = _ ∨ List.lookup x ((if (k == NameKind.free && env.scope.kind == .function && env.kindOf n == some .cell) = true then (n, NameKind.cell) else (n, k)) :: _) = _
    cases hx : x == n with
    | true =>
      simp only [List.lookup_cons, hx] at h
      cases h
      by_cases hc : (NameKind.free == NameKind.free && env.scope.kind == .function && env.kindOf n == some .cell) = true
      · rw [if_pos hc]; simp [List.lookup_cons, hx]
      · rw [if_neg hc]; simp [List.lookup_cons, hx]
    | false =>
      simp only [List.lookup_cons, hx] at h
      by_cases hc : (k == NameKind.free && env.scope.kind == .function && env.kindOf n == some .cell) = true
      · rw [if_pos hc]; simp only [List.lookup_cons, hx]; exact ih h
      · rw [if_neg hc]; simp only [List.lookup_cons, hx]; exact ih h
theorem relabel_mem {env : Env} : ∀ {names : List (Str × NameKind)} {x : Str} {q : NameKind}, q = .cell ∨ q = .free →
    (names.map fun (n, k) => if (k == NameKind.free && env.scope.kind == .function && env.kindOf n == some .cell) then (n, NameKind.cell) else (n, k)).lookup x = some q → ∃ k, (x, k) ∈ names ∧ (k = .free ∨ k = .cell)
  | [], _, _, _, h => by simp at h
  | (n, k) :: r, x, q, hq, h => by
    have h' : List.lookup x ((if (k == NameKind.free && env.scope.kind == .function && env.kindOf n == some .cell) = true then (n, NameKind.cell) else (n, k)) :: (r.map fun (n, k) => if (k == NameKind.free && env.scope.kind == .function && env.kindOf n == some .cell) then (n, NameKind.cell) else (n, k))) = some q := h
    cases hx : x == n with
    | true =>
      have e : x = n := by simpa using hx
      by_cases hc : (k == NameKind.free && env.scope.kind == .function && env.kindOf n == some .cell) = true
      · have hk : k = .free := by
          simp only [Bool.and_eq_true] at hc
          simpa using hc.1.1
        exact ⟨k, by rw [e]; exact List.mem_cons_self, .inl hk⟩
      · rw [if_neg hc] at h'
        simp only [List.lookup_cons, hx] at h'
        cases h'
        exact ⟨k, by rw [e]; exact List.mem_cons_self, hq.symm⟩
    | false =>
      have h2 : List.lookup x (r.map fun (n, k) => if (k == NameKind.free && env.scope.kind == .function && env.kindOf n == some .cell) then (n, NameKind.cell) else (n, k)) = some q := by
        by_cases hc : (k == NameKind.free && env.scope.kind == .function && env.kindOf n == some .cell) = true
        · rw [if_pos hc] at h'; simpa only [List.lookup_cons, hx] using h'
        · rw [if_neg hc] at h'; simpa only [List.lookup_cons, hx] using h'
      obtain ⟨k', m, z⟩ := relabel_mem hq h2
      exact ⟨k', List.mem_cons_of_mem _ m, z⟩
def cxB (X : Cx) (pins : List (Addr × Obj)) (N : List Str) (sc : Scope) (fp : List Addr) (C : Addr) (s : Shared) (H : Hp) : Cx where
  prog := X.prog
  w := X.w
  K := X.K
  mg := X.mg
  base := X.base
  A := X.A
  N := N
  s₀ := s
  H₀ := H
  env := compEnvC sc (freesOf X.env sc.names []) C X.env
  outer := X.stack
  stack := X.stack
  ex := fp
  calm := X.calm
  fn := fun _ => false
  pn := X.pn ++ pins
  xe := fun _ _ => False
structure BScope (X : Cx) (N : List Str) (ts : Nat) (js : List Nat) (sc : Scope) : Prop where
  kind : sc.kind = .function
  len : N.length = ts + js.length
  nocell : ∀ x ∈ sc.names, x.2 ≠ .cell
  names : ∀ x ∈ sc.names, x.2 = .local → sc.names.lookup x.1 = some .local
  frees : ∀ x ∈ sc.names, x.2 = .free → X.env.kindOf x.1 = some .cell ∨ X.env.kindOf x.1 = some .free
  slots : ∀ (i : Nat) (y : Str) (j : Nat), N[ts + i]? = some y → js[i]? = some j → X.N[j]? = some y ∧ sc.names.lookup y = some .free
def blockSt (ts : Nat) (js : List Nat) (σ : St) : St := List.replicate ts none ++ js.map fun j => (σ[j]?).join
section
variable {X : Cx} {pins : List (Addr × Obj)} {σ : St} {H : Hp} {s : Shared} {N : List Str} {ts : Nat} {js : List Nat} {sc : Scope} {fp : List Addr}
theorem BScope.cl (B : BScope X N ts js sc) (ok : X.Ok) : ∀ x ∈ sc.names, x.2 = .free → ∃ c, X.env.cells.lookup x.1 = some c := fun x hx hk => ok.has x.1 (B.frees x hx hk)
theorem BScope.get (B : BScope X N ts js sc) (ok : X.Ok) {x : Str} {c : Addr} (h : (freesOf X.env sc.names []).lookup x = some c) : X.env.cells.lookup x = some c := by
  rcases freesOf_get (B.cl ok) h with q | ⟨_, q⟩
  · cases q
  · exact q
theorem Inv.fpB (I : Inv X pins σ H s) {b : Addr} (f : FpOk X pins H b) : b ∉ frs X.stack := fun z => by
  rcases List.mem_cons.mp (I.stkSub b z) with e | e
  · exact f.2.1 e
  · exact f.2.2.1 e
theorem Inv.okB (I : Inv X pins σ H s) (B : BScope X N ts js sc) (hf : ∀ b ∈ fp, FpOk X pins H b) (ho : ∀ b ∈ fp, b < s.heap.objs.size) : (cxB X pins N sc fp s.heap.objs.size s H).Ok where
  mod := I.ok.mod
  kind := B.kind
  glob := I.ok.glob
  blt := I.ok.blt
  above := Nat.le_refl _
  inj := fun x y c h1 h2 => I.ok.inj x y c (B.get I.ok h1) (B.get I.ok h2)
  has := fun x hx => by
    have hx' : ∃ q, (q = NameKind.cell ∨ q = .free) ∧ (sc.names.map fun (n, k) => if (k == NameKind.free && X.env.scope.kind == .function && X.env.kindOf n == some .cell) then (n, NameKind.cell) else (n, k)).lookup x = some q := by
      rcases hx with h | h
      · exact ⟨_, .inl rfl, h⟩
      · exact ⟨_, .inr rfl, h⟩
    obtain ⟨q, hq, hl⟩ := hx'
    obtain ⟨k, hm, hk⟩ := relabel_mem hq hl
    have hk' : k = .free := hk.resolve_right (B.nocell _ hm)
    subst hk'
    exact freesOf_has (.inl hm)
  cab := fun x c h => absurd (show false = true from h) Bool.false_ne_true
  hd := I.ok.hd
  frames := I.ok.frames
  stk := .inl rfl
  exf := fun b hb => ⟨Nat.ne_of_lt (ho b hb), fun x c h => (hf b hb).2.2.2.2.1 x c (B.get I.ok h)⟩
  bs := I.bs
  bsz := Nat.le_trans I.ok.bsz I.sz
  noex := fun b o e hb => by
    rcases (hf b hb).2.2.2.1 with z | z
    · exact I.ok.noex b o e z
    · exact absurd (Nat.lt_of_lt_of_le (Heap.lt_size e) (Nat.le_trans I.ok.bsz z)) (Nat.lt_irrefl _)
  exfs := fun b hb => I.fpB (hf b hb)
  funs := I.stack
  frf := I.stkFree
theorem Inv.block {h' : Heap} {tk : Nat} {m : Str → Option Value} (I : Inv X pins σ H s) (B : BScope X N ts js sc) (hf : ∀ b ∈ fp, FpOk X pins H b) (ho : ∀ b ∈ fp, b < s.heap.objs.size)
    (hn : h'.Ns s.heap.objs.size m) (k : ∀ b o, s.heap.get? b = some o → h'.get? b = some o) : Inv (cxB X pins N sc fp s.heap.objs.size s H) [] (blockSt ts js σ) H { s with heap := h', toks := tk } := by
  refine ⟨I.okB B hf ho, rfl, I.bare, Un.kept k, ⟨m, hn, fun i y v h1 h2 h3 => ?_⟩, fun x c h => ?_, I.hok.fresh (Nat.le_refl _), fun x c h => I.freeC x c (B.get I.ok h), fun p hp => ?_, I.hok.kept k, ?_⟩
  · have hi : ts ≤ i := by
      by_cases hi : ts ≤ i
      · exact hi
      · unfold blockSt at h2
        rw [List.getElem?_append_left (by simpa using hi), List.getElem?_replicate] at h2
        split at h2 <;> cases h2
    obtain ⟨d, rfl⟩ : ∃ d, i = ts + d := ⟨i - ts, by omega⟩
    have h2' : (js.map fun j => (σ[j]?).join)[d]? = some (some v) := by
      unfold blockSt at h2
      rw [List.getElem?_append_right (by simp)] at h2
      simpa using h2
    rw [List.getElem?_map] at h2'
    cases ej : js[d]? with
    | none => rw [ej] at h2'; cases h2'
    | some j =>
      rw [ej] at h2'
      have h4 : (σ[j]?).join = some v := by simpa using h2'
      have h5 : σ[j]? = some (some v) := by
        cases e : σ[j]? with
        | none => rw [e] at h4; cases h4
        | some o => rw [e] at h4; simp at h4; rw [h4]
      obtain ⟨g1, g2⟩ := B.slots d y j h1 ej
      have hm : (y, NameKind.free) ∈ sc.names := PySem.mem_of_lookup g2
      have hk := B.frees _ hm rfl
      obtain ⟨m0, hn0, hl0⟩ := I.loc
      have hv : Vis X.env.scope y := by
        rcases hk with z | z
        · exact .inr (.inl z)
        · exact .inr (.inr z)
      obtain ⟨u, ru, lk⟩ := hl0 j y v g1 h5 hv
      refine ⟨u, ru, .inr ⟨relabel_free g2, ?_⟩⟩
      rcases lk with ⟨z, _⟩ | ⟨_, c, hc, hcell⟩
      · rcases hk with z' | z' <;> (rw [z] at z'; cases z')
      · obtain ⟨c', hc'⟩ := freesOf_has (env := X.env) (l := sc.names) (cs := []) (.inl hm)
        have e := B.get I.ok hc'
        rw [hc] at e
        cases e
        obtain ⟨o, ho', hd'⟩ := hcell
        exact ⟨c, hc', o, k _ _ ho', hd'⟩
  · obtain ⟨v, o, ho', hd'⟩ := I.cell x c (B.get I.ok h)
    exact ⟨v, o, k _ _ ho', hd'⟩
  · have hp' : p ∈ X.pn ++ pins := by simpa [cxB] using hp
    obtain ⟨e, n, ne, nf, d⟩ := I.pin p hp'
    refine ⟨k _ _ e, n, Nat.ne_of_lt (Heap.lt_size e), fun z => ?_, d⟩
    rcases List.mem_cons.mp (I.stkSub p.1 z) with q | q
    · exact ne q
    · exact nf q
  · show (blockSt ts js σ).length = N.length
    unfold blockSt
    rw [List.length_append, List.length_replicate, List.length_map, B.len]
end
def PTs (X : Cx) (ifs : List Expr) (t : TT) : Prop :=
  ∀ (pins : List (Addr × Obj)) (s : Shared) (σ : St) (H : Hp) (Q : Bool → Hp → Prop), Inv X pins σ H s → t σ H Q →
    wpAny (model X.prog X.w) X.A (forIn ifs true fun c r => if r = true then do let ok ← isTrue c X.env (eval c X.env); pure (ForInStep.yield ok) else pure (ForInStep.yield r)) (TP X pins σ Q) X.xe s
def tYes : TT := fun _ H Q => Q true H
theorem pts_nil {X : Cx} : PTs X [] tYes := fun _ _ _ H _ I h => wpAny_tests_nil ⟨H, I, h⟩
theorem pts_one {X : Cx} {c : Expr} {t : TT} (h : PT X c t) : PTs X [c] t := fun pins s σ H Q I q => wpAny_tests_one (h pins s σ H Q I q)
def tComp (wi : TI) (g : TG) (tc : TT) (te : TE) (ts : Nat) (js : List Nat) : TE := fun σ H Q => wi σ H fun J H1 => ∀ acc, H1 acc = none →
  ∃ W : Nat → Nat → St → Hp → Prop, (∃ m, W 0 m (blockSt ts js σ) (upd H1 acc (.lst []))) ∧ ∀ i m τ H, W i m τ H →
    (J.stop i H ∧ Q (.ref acc) H) ∨ (J.go i H ∧ ∀ x H', J.yld i H x H' → g x τ H' fun τ2 H2 => tc τ2 H2 fun b H3 =>
      if b = true then te τ2 H3 fun y H4 => ∃ ys, H4 acc = some (.lst ys) ∧ ys.length < sizeLine ∧ ∃ m', m' < m ∧ W (i + 1) m' τ2 (upd H4 acc (.lst (ys ++ [y])))
      else ∃ m', m' < m ∧ W (i + 1) m' τ2 H3)
section
variable {X : Cx} {elt iter tg : Expr} {ifs : List Expr} {sc : Scope} {pos : Pos} {N : List Str} {ts : Nat} {js : List Nat} {wi : TI} {g : TG} {tc : TT} {te : TE}
theorem Inv.blockEnd {pins : List (Addr × Obj)} {σ τ : St} {H H' : Hp} {s s' : Shared} {fp : List Addr} {h'' : Heap} (I : Inv X pins σ H s) (hf : ∀ b ∈ fp, FpOk X pins H b)
    (J : Inv (cxB X pins N sc fp s.heap.objs.size s H) [] τ H' s') (sb : Heap.SameBut s.heap.objs.size s'.heap h'') : Inv X pins σ H' { s' with heap := h'' } := by
  have hC : H' s.heap.objs.size = none := J.free
  have k : ∀ b o, b ≠ s.heap.objs.size → s'.heap.get? b = some o → h''.get? b = some o := fun b o hb e => sb.extBut b o hb e
  have ne : ∀ b o, s.heap.get? b = some o → b ≠ s.heap.objs.size := fun b o e => Nat.ne_of_lt (Heap.lt_size e)
  have u : Un (frs X.stack) fp H H' s.heap h'' :=
    ⟨fun b o e n hb hx => k b o (ne b o e) (J.base.keep b o e n hb hx),
     fun b o e n hb hx => by
      obtain ⟨sl, q⟩ := J.base.slot b o e n hb hx
      exact ⟨sl, k b _ (ne b o e) q⟩,
     J.base.free,
     fun b o e hx => by
      obtain ⟨o', q⟩ := J.base.there b o e hx
      exact ⟨o', k b _ (ne b o e) q⟩,
     J.base.tups, J.base.frzs, J.base.tbls⟩
  have hok : HOk X.prog X.w H' h'' := fun b ob e => by
    refine (J.hok b ob e).stay (fun c v hc q => k c v ?_ q) (fun _ q => q) fun _ _ q => q
    rintro rfl
    rcases hc with z | z
    · rw [z] at hC; rw [hC] at e; cases e
    · rw [hC] at z; cases z
  exact I.call' (s' := { s' with heap := h'' }) (ch := fp) J.os u hok J.bare fun b hb => ⟨(hf b hb).2.2.2.1, (hf b hb).2.1, (hf b hb).2.2.2.2.1, (hf b hb).2.2.2.2.2⟩
theorem pe_comp (hc : X.calm = true) (B : BScope X N ts js sc) (hi : PI X tg iter wi)
    (hg : ∀ pins fp C s H, PG (cxB X pins N sc fp C s H) tg g) (ht : ∀ pins fp C s H, PTs (cxB X pins N sc fp C s H) ifs tc) (he : ∀ pins fp C s H, PE (cxB X pins N sc fp C s H) elt te)
    (hs : ∀ x, foldedSetIterable iter X.env x = pure x := by intro _; rfl) : PE X (.ListComp elt [⟨tg, iter, ifs, 0⟩] sc pos) (tComp wi g tc te ts js) := by
  intro pins s σ H Q I h
  rw [eval_ListComp]
  refine wpAny_comprehension_free (use := none) rfl hs (closure_of (B.cl I.ok)) B.kind B.names (thn (hi pins s σ H _ I h) fun v s1 h1 => thn h1 fun itv s2 h2 => ?_)
  obtain ⟨it, fp, tn, J, H2, e, I2, T, st2, f2, h2'⟩ := h2
  subst e
  have hnew : H2 s2.heap.objs.size = none := I2.hok.fresh (Nat.le_refl _)
  obtain ⟨W, ⟨m0, w0⟩, turn⟩ := h2' s2.heap.objs.size hnew
  refine wpAny_newObj_type (wpAny_newFunctionEnv B.nocell (by intro y hy; simp at hy) (fun h₁ hns₁ hsb₁ => ?_) B.kind)
  obtain ⟨s3, hs3⟩ : ∃ s3 : Shared, ({ s2 with heap := s2.heap.push { cls := .type "list", dict := none, data := .seq ([] : List Value).toArray } } : Shared) = s3 := ⟨_, rfl⟩
  have e3 : s3.heap = s2.heap.push { cls := .type "list", dict := none, data := .seq ([] : List Value).toArray } := by rw [← hs3]
  have hns₂ : h₁.Ns s3.heap.objs.size fun x => ([] : List (Str × Value)).reverse.lookup x := by rw [e3]; exact hns₁
  have hsb₂ : Heap.SameBut s3.heap.objs.size (s3.heap.push { cls := .type (if (some X.env).isSome then "dict" else "frame"), data := .dict #[] }) h₁ := by rw [e3]; exact hsb₁
  have I3 : Inv X pins σ (upd H2 s2.heap.objs.size (.lst [])) s3 := by
    rw [← hs3]
    exact I2.laid (t' := s2.toks) (fun b u e => Heap.get?_push_of_some _ e) (Nat.le_refl _) ⟨Nat.zero_le _, [], 0, .nil, Heap.get?_push_size _ rfl⟩
  have lt2 : ∀ b ∈ fp, b < s2.heap.objs.size := fun b hb => by
    obtain ⟨o, e, _⟩ := T.obj _ _ st2 b hb
    exact Heap.lt_size e
  have f3 : ∀ b ∈ fp, FpOk X pins (upd H2 s2.heap.objs.size (.lst [])) b := fun b hb => ⟨by rw [upd_ne (Nat.ne_of_lt (lt2 b hb))]; exact (f2 b hb).1, (f2 b hb).2⟩
  have sz3 : s2.heap.objs.size < s3.heap.objs.size := by rw [e3, Heap.size_push]; exact Nat.lt_succ_self _
  have lt3 : ∀ b ∈ fp, b < s3.heap.objs.size := fun b hb => Nat.lt_trans (lt2 b hb) sz3
  have k1 : ∀ b o, s3.heap.get? b = some o → h₁.get? b = some o := fun b o e => hsb₂.extBut b o (Nat.ne_of_lt (Heap.lt_size e)) (Heap.get?_push_of_some _ e)
  have IB := I3.block (tk := s3.toks + ([] : List (Str × Value)).length) (N := N) B f3 lt3 hns₂ k1
  have st4 : tn 0 h₁ := T.keep _ _ _ st2 fun b hb o e => k1 b o (by rw [e3]; exact Heap.get?_push_of_some _ e)
  have stat : ∀ {H' : Hp}, (∀ b ∈ fp, H' b = none) → ∀ b ∈ fp, FpOk (cxB X pins N sc fp s3.heap.objs.size s3 (upd H2 s2.heap.objs.size (.lst []))) [] H' b := fun hn b hb =>
    ⟨hn b hb, Nat.ne_of_lt (lt3 b hb), I3.fpB (f3 b hb), .inl hb, fun x c h => (f3 b hb).2.2.2.2.1 x c (B.get I3.ok h), fun p hp => (f3 b hb).2.2.2.2.2 p (by simpa [cxB] using hp)⟩
  have loop : codeAny (model X.prog X.w) X.A (.compLoop (.ListComp elt [⟨tg, iter, ifs, 0⟩] sc pos) 0 (.ref it) (.ref s2.heap.objs.size) (compEnvC sc (freesOf X.env sc.names []) s3.heap.objs.size X.env))
      (compPost (model X.prog X.w) X.A X.xe none (EP X pins σ Q) (.ref s2.heap.objs.size) s3.heap.objs.size) { s3 with heap := h₁, toks := s3.toks + ([] : List (Str × Value)).length } := by
    refine comp_loop (fun n s' => ∃ i τ H', Inv (cxB X pins N sc fp s3.heap.objs.size s3 (upd H2 s2.heap.objs.size (.lst []))) [] τ H' s' ∧ tn i s'.heap ∧ (∀ b ∈ fp, H' b = none) ∧ W i n τ H') ?_ m0
      ⟨0, blockSt ts js σ, _, IB, st4, fun b hb => (f3 b hb).1, w0⟩
    rintro n s5 ⟨i, τ, H5, I5, st5, fr5, w5⟩
    rcases turn i n τ H5 w5 with ⟨stop, qn⟩ | ⟨go, step⟩
    · refine thn (T.done (cxB X pins N sc fp s3.heap.objs.size s3 (upd H2 s2.heap.objs.size (.lst []))) rfl rfl rfl hc i [] s5 τ H5 (fun _ _ => False) I5 (stat fr5) st5 stop) fun r s6 ⟨hr, I6⟩ => ?_
      subst hr
      obtain ⟨m, hn, _⟩ := I6.loc
      exact ⟨m, hn, fun h' hs' => ⟨.ref s2.heap.objs.size, H5, I3.blockEnd f3 I6 hs', rfl, qn⟩⟩
    · refine thn (T.item (cxB X pins N sc fp s3.heap.objs.size s3 (upd H2 s2.heap.objs.size (.lst []))) rfl rfl rfl hc i [] s5 τ H5 (fun _ _ => False) I5 (stat fr5) st5 go) fun r s6 ⟨u, hr, h6⟩ => ?_
      subst hr
      refine thn h6 fun _ s7 ⟨x, H7, I7, r7, y7, st7, fr7⟩ => ?_
      have I7' := I7.pinned (stat fr7) (T.obj _ _ st7)
      refine thn (hg _ _ _ _ _ _ s7 τ H7 x u _ I7' r7 (step x H7 y7)) fun _ s8 ⟨τ8, H8, I8, q8⟩ => ?_
      refine thn (ht _ _ _ _ _ _ s8 τ8 H8 _ I8 q8) fun ok s9 ⟨H9, I9, q9⟩ => ?_
      have again : ∀ {s' : Shared} {τ' : St} {H' : Hp}, Inv (cxB X pins N sc fp s3.heap.objs.size s3 (upd H2 s2.heap.objs.size (.lst []))) ([] ++ pinsAt fp s7.heap) τ' H' s' → (∃ m', m' < n ∧ W (i + 1) m' τ' H') →
          ∃ m, m < n ∧ ∃ i τ H', Inv (cxB X pins N sc fp s3.heap.objs.size s3 (upd H2 s2.heap.objs.size (.lst []))) [] τ H' s' ∧ tn i s'.heap ∧ (∀ b ∈ fp, H' b = none) ∧ W i m τ H' := fun {s' τ' H'} I' ⟨m', hm, w'⟩ => by
        refine ⟨m', hm, i + 1, τ', H', I'.unpinned, T.keep _ _ _ st7 fun b hb o e => (I'.pin (b, o) (List.mem_append_right _ (List.mem_append_right _ (mem_pinsAt hb e)))).1, fun b hb => ?_, w'⟩
        obtain ⟨o, e, d⟩ := T.obj _ _ st7 b hb
        exact (I'.pin (b, o) (List.mem_append_right _ (List.mem_append_right _ (mem_pinsAt hb e)))).2.1
      cases ok with
      | false => exact again I9 q9
      | true =>
        refine thn (he _ _ _ _ _ _ s9 τ8 H9 _ I9 q9) fun xv s10 ⟨y, H10, I10, r10, ys, ha, hz, q10⟩ => ?_
        refine thn (mt_append _ s10 τ8 H10 (.ref s2.heap.objs.size) [y] (.ref s2.heap.objs.size) [xv] (fun _ H' => ∃ m', m' < n ∧ W (i + 1) m' τ8 H') I10 rfl (.cons r10 .nil) ⟨_, ys, y, rfl, rfl, ha, hz, q10⟩) fun _ s11 ⟨_, H11, I11, _, q11⟩ => ?_
        exact again I11 q11
  subst hs3
  exact codeAny_compStart_list loop (T.self _ 0 _ _ _ st4 loop)
end
end L2
namespace L2
open PySem
end L2

namespace L2
open PySem PySem.Spec PyProof.Rows
open PySem.SeqAt
open PySem.AutoSeq1 (wpAny_loadPart')
def tyIs (t T : String) : Bool := t == T || (t == "bool" && T == "int")
def tyN (H : Hp) : V → Option String
  | .non => some "NoneType"
  | .bl _ => some "bool"
  | .int _ => some "int"
  | .str _ => some "str"
  | .ref a => match H a with
    | some (.lst _) => some "list"
    | some (.tup _) => some "tuple"
    | _ => none
  | _ => none
theorem tyN_in {H : Hp} {v : V} {t : String} (h : tyN H v = some t) : t = "NoneType" ∨ t = "bool" ∨ t = "int" ∨ t = "str" ∨ t = "list" ∨ t = "tuple" := by
  cases v with
  | ref a =>
    unfold tyN at h
    simp only at h
    split at h <;> first
      | (cases h; simp)
      | cases h
  | _ => first
    | (cases h; simp)
    | cases h
theorem tyOf_of {K : PySem.W.Frag} {H : Hp} {v : V} {t : String} (h : tyN H v = some t) : TyOf K H v (.type t) := by
  cases v with
  | non => cases h; exact .non
  | bl b => cases h; exact .bl b
  | int i => cases h; exact .int i
  | str x => cases h; exact .str x
  | ref a =>
    unfold tyN at h
    simp only at h
    split at h
    · rename_i xs e; cases h; exact .lst e
    · rename_i xs e; cases h; exact .tup e
    · cases h
  | _ => cases h
theorem kit_all (K : PySem.W.Frag) {t T : String} (ht : t = "NoneType" ∨ t = "bool" ∨ t = "int" ∨ t = "str" ∨ t = "list" ∨ t = "tuple") (hT : T = "int" ∨ T = "bool" ∨ T = "tuple" ∨ T = "str" ∨ T = "list") :
    PySem.W.kitOne K (.type t) (.type T) = some (tyIs t T) := by
  rcases ht with rfl | rfl | rfl | rfl | rfl | rfl <;> rcases hT with rfl | rfl | rfl | rfl | rfl <;> first
    | rfl
    | kernel_rfl
section
variable {X : Cx}
theorem all_range (bs : List Bool) : (List.range bs.length).all (fun i => bs.getD i true) = bs.all id := by
  rw [Bool.eq_iff_iff]
  simp only [List.all_eq_true, List.mem_range, id]
  constructor
  · intro h b hb
    obtain ⟨i, hi, e⟩ := List.mem_iff_getElem.mp hb
    have q := h i hi
    rw [List.getD_eq_getElem?_getD, List.getElem?_eq_getElem hi] at q
    simpa [e] using q
  · intro h i hi
    rw [List.getD_eq_getElem?_getD, List.getElem?_eq_getElem hi]
    exact h _ (List.getElem_mem hi)
theorem call_allB (hc : X.calm = true) : CallR X (.builtin "all") (fun xs H Q => ∃ (p : Addr) (bs : List Bool), xs = [.ref p] ∧ SqL X.K H p (bs.map V.bl) ∧ Q (.bl (bs.all id)) H) := by
  intro pins s σ H xs us Q I r h
  obtain ⟨p, bs, rfl, hq, q⟩ := h
  obtain ⟨u, rfl, rx⟩ := vals1 r
  cases rx
  obtain ⟨its, rv, pl, hz⟩ := I.list hq
  have hl := rv.length
  rw [List.length_map] at hl
  have hlt : p < s.heap.objs.size := by
    obtain ⟨o, n, e, _⟩ := pl
    exact Heap.lt_size e
  refine call_all_walk (wpAny_pyIter_list pl.isList ?_)
  refine ⟨s.heap.objs.size, _, _, its.toArray.size, _, _, fun i => bs.getD i true, rfl, Walks.list (A := X.A.in1) (show X.A.in1.handled = none from I.ok.hd hc) s.heap.objs.size p (Nat.ne_of_lt hlt) its.toArray, ⟨⟨_, Heap.get?_push_size _ rfl, rfl, rfl⟩, ?_⟩, ?_, ?_⟩
  · obtain ⟨o, e, c⟩ := pl.isList
    exact ⟨o, Heap.get?_push_of_some _ e, c⟩
  · intro i v s' Q' E' hP hQ
    have hP' : its[i]? = some v := by simpa using hP
    have hi : i < its.length := (List.getElem?_eq_some_iff.mp hP').1
    have hb : (bs.map V.bl)[i]? = some (V.bl (bs.getD i true)) := by
      rw [List.getElem?_map, List.getElem?_eq_getElem (by omega), List.getD_eq_getElem?_getD, List.getElem?_eq_getElem (by omega)]
      rfl
    obtain ⟨u, hu, ru⟩ := rv.get hb
    rw [hP'] at hu
    cases hu
    cases ru
    exact wpAny_truthy_bool hQ
  · intro h' tk hk
    refine ⟨.bl (bs.all id), H, I.kept (t' := tk) (fun b o e => hk b o (by simpa using Nat.ne_of_lt (Heap.lt_size e)) (Heap.get?_push_of_some _ e)), ?_, q⟩
    show Value.bool _ = Value.bool _
    rw [List.size_toArray, ← hl, all_range]
theorem same_new {H : Hp} {p : Addr} (h : H p = none) (o : HO) : Same H (upd H p o) := fun b u q => by rw [upd_ne (ne_of_none q h)]; exact q
def rCatA : R2 := fun x y H Q => ∃ a b xs ys, x = .ref a ∧ y = .ref b ∧ H a = some (.tup xs) ∧ H b = some (.tup ys) ∧ xs.length + ys.length ≤ sizeLine ∧ ∀ r H', Same H H' → H' r = some (.tup (xs ++ ys)) → Q (.ref r) H'
theorem op_catA : OpR X (binaryOp .Add) rCatA := by
  intro pins s σ H x y v u Q I rx ry h
  obtain ⟨a, b, xs, ys, rfl, rfl, ha, hb, hz, q⟩ := h
  cases rx
  cases ry
  obtain ⟨its, r1, p1, _⟩ := I.tuple (SqT.of ha)
  obtain ⟨its2, r2, p2, _⟩ := I.tuple (SqT.of hb)
  by_cases hx : xs = []
  · subst hx
    cases r1
    obtain ⟨⟨cls, dd, data, sl⟩, ho, hc, n, hd⟩ := id p1
    obtain ⟨⟨cls2, dd2, data2, sl2⟩, ho2, hc2, n2, hd2⟩ := id p2
    simp only at hc hd hc2 hd2
    subst hc hd hc2 hd2
    exact concat_meets ⟨_, ho, rfl⟩ ⟨_, ho2, rfl⟩ noFill_tuple_add seq_tuple_add PySem.F.slot_tuple_add PySem.F.entry_tuple_add (PySem.F.args_tuple_add_2 _ _)
      (tuple_addW0 a b ([] : List Value).toArray its2.toArray n n2 dd dd2 sl sl2 (by simp)) ⟨ho, ho2, ⟨.ref b, H, I, rfl, q b H (Same.refl H) hb⟩⟩
  · refine op_catT pins s σ H (.ref a) (.ref b) _ _ Q I rfl rfl ⟨a, b, xs, ys, rfl, rfl, SqT.of ha, SqT.of hb, hx, hz, fun e => ?_, fun e p hp => ?_⟩
    · subst e
      exact q a H (Same.refl H) (by rw [List.append_nil]; exact ha)
    · exact q p _ (same_new hp _) upd_same
theorem getItem_tuple_whole {prog : Program} {w : World} {A : Around} {E : Value → Shared → Prop} {s : Shared} {t sl : Addr} {items : Array Value} {vl vu : Value} {lo hi : Option Int} {Q : Value → Shared → Prop} (ht : IsTup s.heap t items) (hs : s.heap.IsSliceOf sl vl vu .none) (pl : IsPart vl lo) (pu : IsPart vu hi)
    (hw : HT.sIx items.size 0 lo = 0 ∧ HT.sIx items.size items.size hi = items.size)
    (h : Q (.ref t) s) : wpAny (model prog w) A (getItem (.ref t) (.ref sl)) Q E s := by
  obtain ⟨os, hos, hcs, hds⟩ := id hs
  have hTs : s.TypeIs (.ref sl) "slice" := ⟨os, hos, hcs⟩
  unfold getItem
  try with_reducible refine wpAny_holding ?_
  first | refine wpAny_bind (wpAny_pure ?_) | skip
  refine wpAny_bind (wpAny_sequenceKey ht.typeIs (by decide) ?_)
  refine wpAny_bind (wpAny_callSpecial?_slot (name := Str.ofString "__getitem__") ht.typeIs PyProof.Rows.slot_tuple_getitem
    (wpAny_call_entry PyProof.Rows.slot_tuple_getitem ht.typeIs entry_tuple_getitem ?_ (args_tuple_getitem _ _)))
  show wpAny _ _ (Builtin.Tuple.tupleItemsOf (.ref t) >>= _) _ _ s
  refine wpAny_bind (tupleItemsOf_ ht ?_)
  refine wpAny_bind (wpAny_typeOf hTs ?_)
  rw [if_pos (by decide)]
  refine wpAny_bind (HT.sliceApplied_gen hs pl pu ?_)
  have hyes : (((HT.sIx items.size 0 lo : Nat) : Int) == 0 && (1 : Int) == 1 && (HT.sIx items.size items.size hi - HT.sIx items.size 0 lo) == items.size) = true := by
    rw [hw.1, hw.2]
    simp
  show wpAny _ _ (if (((HT.sIx items.size 0 lo : Nat) : Int) == 0 && (1 : Int) == 1 && (HT.sIx items.size items.size hi - HT.sIx items.size 0 lo) == items.size) = true then _ else _) _ _ s
  rw [if_pos hyes]
  refine wpAny_bind ?_
  unfold Builtin.Tuple.tupleIsExact
  refine wpAny_bind (wpAny_typeOf ht.typeIs (wpAny_pure ?_))
  rw [if_pos (by decide)]
  first
    | exact wpAny_bind (wpAny_rule (wpAny_bind (wpAny_pure (wpAny_pure ⟨_, rfl, wpAny_pure h⟩))))
    | exact wpAny_bind (wpAny_rule (wpAny_pure ⟨_, rfl, wpAny_pure h⟩))
    | exact wpAny_bind (wpAny_rule (wpAny_pure (wpAny_pure ⟨_, rfl, wpAny_pure h⟩)))
def rSlA : V → Option Int → Option Int → Hp → VK → Prop := fun x lo hi H Q => ∃ a xs, x = .ref a ∧ H a = some (.tup xs) ∧ ∀ r H', Same H H' → H' r = some (.tup (cutV xs lo hi)) → Q (.ref r) H'
theorem sl_tupA : SlR X rSlA := by
  intro pins s σ H x v vl vu lo hi sl Q I rx hs pl pu h
  obtain ⟨a, xs, rfl, ha, q⟩ := h
  cases rx
  by_cases hw : HT.sIx xs.length 0 lo = 0 ∧ HT.sIx xs.length xs.length hi = xs.length
  · obtain ⟨its, r, ht, hz⟩ := I.tuple (SqT.of ha)
    have hlen : its.toArray.size = xs.length := by rw [List.size_toArray]; exact r.length.symm
    refine ⟨"tuple", _, PyProof.Rows.slot_tuple_getitem.lookup, ht.typeIs, ?_⟩
    refine getItem_tuple_whole ht hs pl pu (by rw [hlen]; exact hw) ⟨.ref a, H, I, rfl, q a H (Same.refl H) ?_⟩
    have e : cutV xs lo hi = xs := by
      unfold cutV
      rw [hw.1, hw.2]
      simp
    rw [e]
    exact ha
  · exact sl_tup pins s σ H (.ref a) _ vl vu lo hi sl Q I rfl hs pl pu ⟨a, xs, rfl, SqT.of ha, hw, fun p hp => q p _ (same_new hp _) upd_same⟩
theorem sliceApplied_rev {prog : Program} {w : World} {A : Around} {E : Value → Shared → Prop} {s : Shared} {sl : Addr} {tk : Tok} {n : Nat} {Q : Int × Int × Nat → Shared → Prop} (hs : s.heap.IsSliceOf sl .none .none (.int (-1) tk))
    (h : Q ((n : Int) - 1, -1, n) s) : wpAny (model prog w) A (Builtin.Slice.sliceApplied (.ref sl) (pure (n : Int))) Q E s := by
  obtain ⟨os, hos, hcs, hds⟩ := id hs
  unfold Builtin.Slice.sliceApplied Builtin.Slice.sliceFields
  refine wpAny_bind (wpAny_bind (wpAny_field hos hds (x := .none) rfl (wpAny_bind (wpAny_field hos hds (x := .none) rfl (wpAny_bind (wpAny_field hos hds (x := .int (-1) tk) rfl (wpAny_pure ?_)))))))
  refine wpAny_bind (slicePart_int ?_)
  show wpAny _ _ (if ((-1 : Int) == 0) = true then _ else _) _ _ s
  rw [if_neg (by decide)]
  refine wpAny_bind (slicePart_none (wpAny_bind (slicePart_none (wpAny_bind (wpAny_pure ?_)))))
  have e1 : Builtin.Slice.sliceAdjust none none (-1) (n : Int) = ((n : Int) - 1, -1) := by
    unfold Builtin.Slice.sliceAdjust
    simp
  have e2 : Builtin.Slice.slicePlaces ((n : Int) - 1) (-1) (-1) = n := by
    unfold Builtin.Slice.slicePlaces
    have h1 : ¬ ((-1 : Int) > 0) := by decide
    simp only [h1, if_false]
    have h2 : (-(-1) : Int) = 1 := by decide
    rw [h2, Int.ediv_one]
    split <;> omega
  show wpAny _ _ (match Builtin.Slice.sliceAdjust none none (-1) (n : Int) with | (lo, hi) => pure (lo, (-1 : Int), Builtin.Slice.slicePlaces lo hi (-1))) _ _ s
  rw [e1]
  show wpAny _ _ (pure ((n : Int) - 1, (-1 : Int), Builtin.Slice.slicePlaces ((n : Int) - 1) (-1) (-1))) _ _ s
  rw [e2]
  exact wpAny_pure h
theorem fm_congr {α β : Type} {f g : α → Option β} : ∀ {l : List α}, (∀ x ∈ l, f x = g x) → l.filterMap f = l.filterMap g
  | [], _ => rfl
  | a :: r, h => by rw [List.filterMap_cons, List.filterMap_cons, h a List.mem_cons_self, fm_congr fun x hx => h x (List.mem_cons_of_mem _ hx)]
theorem pick_rev (xs : Array Value) : ((List.range xs.size).filterMap fun (m : Nat) => xs[((xs.size : Int) - 1 + (m : Int) * (-1)).toNat]?).toArray = xs.toList.reverse.toArray := by
  congr 1
  have e : ((List.range xs.size).filterMap fun (m : Nat) => xs[((xs.size : Int) - 1 + (m : Int) * (-1)).toNat]?) = ((List.range xs.size).map fun k => xs.size - 1 - k).filterMap fun m => xs[m]? := by
    rw [List.filterMap_map]
    refine fm_congr fun m hm => ?_
    have hm' := List.mem_range.mp hm
    have : ((xs.size : Int) - 1 + (m : Int) * (-1)).toNat = xs.size - 1 - m := by omega
    rw [this]
    rfl
  rw [e, PySem.W.krv_range, List.filterMap_reverse, PySem.W.krv_all]
theorem getItem_tuple_rev {prog : Program} {w : World} {A : Around} {E : Value → Shared → Prop} {s : Shared} {t sl : Addr} {items : Array Value} {tk : Tok} {Q : Value → Shared → Prop} (ht : IsTup s.heap t items) (hs : s.heap.IsSliceOf sl .none .none (.int (-1) tk)) (hsz : items.size ≤ sizeLine)
    (h : Q (.ref s.heap.objs.size) { s with heap := s.heap.push { cls := .type "tuple", data := .seq items.toList.reverse.toArray } }) : wpAny (model prog w) A (getItem (.ref t) (.ref sl)) Q E s := by
  have htake : sizeOk (.seq items.toList.reverse.toArray) := by
    show items.toList.reverse.toArray.size ≤ sizeLine
    rw [List.size_toArray, List.length_reverse, Array.length_toList]
    exact hsz
  obtain ⟨os, hos, hcs, hds⟩ := id hs
  have hTs : s.TypeIs (.ref sl) "slice" := ⟨os, hos, hcs⟩
  unfold getItem
  try with_reducible refine wpAny_holding ?_
  first | refine wpAny_bind (wpAny_pure ?_) | skip
  refine wpAny_bind (wpAny_sequenceKey ht.typeIs (by decide) ?_)
  refine wpAny_bind (wpAny_callSpecial?_slot (name := Str.ofString "__getitem__") ht.typeIs PyProof.Rows.slot_tuple_getitem
    (wpAny_call_entry PyProof.Rows.slot_tuple_getitem ht.typeIs entry_tuple_getitem ?_ (args_tuple_getitem _ _)))
  show wpAny _ _ (Builtin.Tuple.tupleItemsOf (.ref t) >>= _) _ _ s
  refine wpAny_bind (tupleItemsOf_ ht ?_)
  refine wpAny_bind (wpAny_typeOf hTs ?_)
  rw [if_pos (by decide)]
  refine wpAny_bind (sliceApplied_rev hs ?_)
  show wpAny _ _ (if ((((items.size : Nat) : Int) - 1) == 0 && (-1 : Int) == 1 && items.size == items.size) = true then _ else _) _ _ s
  rw [if_neg (by simp), pick_rev]
  first
    | exact wpAny_bind (m := Builtin.Tuple.tupleExact _) (wpAny_newObj_type (wpAny_pure ⟨_, rfl, wpAny_pure h⟩) htake)
    | exact wpAny_bind (m := Builtin.Tuple.tupleExact _) (wpAny_newObj_type (wpAny_bind (wpAny_pure (wpAny_pure ⟨_, rfl, wpAny_pure h⟩))) htake)
    | exact wpAny_bind (wpAny_bind (m := Builtin.Tuple.tupleExact _) (wpAny_newObj_type (wpAny_pure (wpAny_pure ⟨_, rfl, wpAny_pure h⟩)) htake))
    | exact wpAny_bind (wpAny_bind (m := Builtin.Tuple.tupleExact _) (wpAny_newObj_type (wpAny_pure ⟨_, rfl, wpAny_pure h⟩) htake))
def tRev (te tk : TE) : TE := fun σ H Q => te σ H fun x H1 => tk σ H1 fun k H2 => ∃ a xs, x = .ref a ∧ k = .int (-1) ∧ H2 a = some (.tup xs) ∧ ∀ p, H2 p = none → Q (.ref p) (upd H2 p (.tup xs.reverse))
theorem pe_revT {e st : Expr} {te tk : TE} {p2 pos : Pos} (he : PE X e te) (hk : PE X st tk) : PE X (.Subscript e (.Slice none none (some st) p2) pos) (tRev te tk) := by
  intro pins s σ H Q I h
  refine Subscript_ (thn (he pins s σ H _ I h) fun v s1 ⟨x, H1, I1, r1, q1⟩ => ?_)
  refine wpAny_Slice ?_
  rw [evalPart_none, evalPart_some]
  refine wpAny_pure (wpAny_pure (thn (hk pins s1 σ H1 _ I1 q1) fun kv s3 ⟨k, H3, I3, rk, a, xs, ex, ek, ha, q⟩ => ?_))
  subst ex ek
  obtain ⟨tk', rfl⟩ := rk
  cases r1
  have I4 : Inv X pins σ H3 { s3 with heap := s3.heap.push { cls := .type "slice", data := .fields #[.none, .none, .int (-1) tk'] } } := I3.kept (t' := s3.toks) fun b ob q => Heap.get?_push_of_some _ q
  obtain ⟨its, r, ht, hz⟩ := I4.tuple (SqT.of ha)
  have hlen : its.toArray.size = xs.length := by rw [List.size_toArray]; exact r.length.symm
  show wpAny (model X.prog X.w) X.A (subscriptTail e (.Slice none none (some st) p2) (.ref a) (.ref s3.heap.objs.size)) (EP X pins σ Q) X.xe { s3 with heap := s3.heap.push { cls := .type "slice", data := .fields #[.none, .none, .int (-1) tk'] } }
  refine tail_any (ops := [.ref a, .ref s3.heap.objs.size]) ht.typeIs PyProof.Rows.slot_tuple_getitem.lookup (getItem_tuple_rev ht (Heap.IsSliceOf.new ..) (by rw [hlen]; exact hz) ?_) (by with_unfolding_all rfl)
  refine ⟨.ref _, _, I4.laid (t' := s3.toks) (o := .tup xs.reverse) (fun b ob q => Heap.get?_push_of_some _ q) (Nat.le_refl _) ?_, rfl, q _ (I4.hok.fresh (Nat.le_refl _))⟩
  exact ⟨by rw [List.length_reverse]; exact hz, _, r.reverse, IsTup.new _ _⟩
theorem noFill_tuple_mul : fillsNumberSlot (.type "tuple") "mul" = pure false :=
  PySem.fillsNumberSlot_seq (id := "tuple.__mul__") (r := some (.builtin "tuple.__rmul__")) PySem.F.slot_tuple_mul.lookup (by decide +kernel) PySem.F.slot_tuple_rmul.lookup (by decide +kernel)
theorem repeat_tuple : seqRepeat? (.type "tuple") = pure (some (.builtin "tuple.__mul__")) := by
  unfold seqRepeat?
  rw [PySem.seqSlot_of (T := "tuple") (name := "__mul__") (id := "tuple.__mul__") PySem.F.slot_tuple_mul.lookup (by decide +kernel), PySem.seqSlot_of (T := "tuple") (name := "__rmul__") (id := "tuple.__rmul__") PySem.F.slot_tuple_rmul.lookup (by decide +kernel)]
  rfl
theorem int_rmul_tuple (a : Int) (t : Tok) (l : Addr) (items : Array Value) (n : Nat) (d : Option Addr) (sl : Array (Option Value)) :
    Meets (Builtin.«int.__rmul__» ⟨[.int a t, .ref l], []⟩) (fun _ R s => s.heap.get? l = some { cls := .type "tuple", dict := d, data := .seq items n, slots := sl } ∧ R (.ok (.ret Value.notImplemented)) s) :=
  .of_wp fun prog w A R s h => by obtain ⟨hp, g, d, tk, os⟩ := s; obtain ⟨hl, h⟩ := h; wp_walk; exact ⟨_, rfl, h⟩
theorem tuple_mul2 (l : Addr) (items : Array Value) (n : Nat) (d : Option Addr) (sl : Array (Option Value)) (u : Tok) (hne : ¬ items.isEmpty = true) (hz : items.size * 2 ≤ 1000000) :
    Meets (Builtin.«tuple.__mul__» ⟨[.ref l, .int 2 u], []⟩) (fun _ R s => s.heap.get? l = some { cls := .type "tuple", dict := d, data := .seq items n, slots := sl } ∧
      R (.ok (.ret (Value.ref s.heap.objs.size))) { s with heap := s.heap.push { cls := Value.type "tuple", data := Data.seq (#[] ++ items ++ items) }, toks := s.toks }) :=
  .of_wp fun prog w A R s h => by
    obtain ⟨hp, g, dr, tk, os⟩ := s
    obtain ⟨hl, h⟩ := h
    have f1 := AutoSeq1.idx_int
    have h1 : ¬ ((items.size : Int) * 2 > (2 ^ 63 - 1) / 8) := by omega
    have h2 : ¬ Builtin.Tuple.tupleTooMany ((items.size : Int) * 2) = true := by
      unfold Builtin.Tuple.tupleTooMany
      simp [sizeLine]
      omega
    have h3 : (items.isEmpty || (2 : Int) == 1) = false := by simpa using hne
    have h4 : ((2 : Int) ≤ 0 || items.isEmpty) = false := by simpa using hne
    wp_walk using wpAny_loadPart' hl
    rw [if_neg h1]
    show wpAny _ _ (if Builtin.Tuple.tupleTooMany ((items.size : Int) * 2) = true then _ else _) _ _ _
    rw [if_neg h2]
    have hsz : sizeOk (.seq (List.foldl (fun x1 x2 => x1 ++ x2) #[] (List.replicate (Int.toNat 2) items))) := by
      show (List.foldl (fun x1 x2 => x1 ++ x2) #[] (List.replicate (Int.toNat 2) items)).size ≤ sizeLine
      show (#[] ++ items ++ items).size ≤ sizeLine
      simp [sizeLine]
      omega
    show wpAny _ _ (Builtin.Tuple.tupleExact (List.foldl (fun x1 x2 => x1 ++ x2) #[] (List.replicate (Int.toNat 2) items)) >>= fun v => ret v) _ _ _
    exact wpAny_bind (m := Builtin.Tuple.tupleExact _) (wpAny_newObj_type (wpAny_pure ⟨_, rfl, h⟩) hsz)
def rMul2 : R2 := fun x y H Q => ∃ a xs, x = .ref a ∧ y = .int 2 ∧ H a = some (.tup xs) ∧ xs ≠ [] ∧ xs.length ≤ 100000 ∧ ∀ p, H p = none → Q (.ref p) (upd H p (.tup (xs ++ xs)))
theorem op_mulT2 : OpR X (binaryOp .Mult) rMul2 := by
  intro pins s σ H x y v u Q I rx ry h
  obtain ⟨a, xs, rfl, rfl, ha, hne, hz, q⟩ := h
  cases rx
  obtain ⟨t, rfl⟩ := ry
  obtain ⟨its, r, ht, hz'⟩ := I.tuple (SqT.of ha)
  have hl := r.length
  obtain ⟨⟨cls, dd, data, sl⟩, ho, hc, n, hd⟩ := id ht
  simp only at hc hd
  subst hc hd
  have hne' : ¬ its.toArray.isEmpty = true := by
    intro z
    have : its = [] := by simpa using z
    exact hne (r.nil_iff.mp this)
  refine wpAny_binaryOp_repeat_ref (T := "tuple") (U := "int") (by decide) ⟨_, ho, rfl⟩ (fun s' => typeIs_int s' 2 t) noFill_tuple_mul PySem.F.fills_int_mul PySem.F.slot_int_rmul repeat_tuple PySem.F.slot_int_index.lookup
    (call_meets PySem.F.slot_int_rmul (typeIs_int s 2 t) PySem.F.entry_int_rmul (PySem.F.args_int_rmul_2 _ _) (int_rmul_tuple 2 t a its.toArray n dd sl)
      ⟨ho, rfl, ⟨_, ho, rfl⟩, call_meets PySem.F.slot_tuple_mul ⟨_, ho, rfl⟩ PySem.F.entry_tuple_mul (PySem.F.args_tuple_mul_2 _ _)
        (tuple_mul2 a its.toArray n dd sl t hne' (by rw [List.size_toArray]; omega)) ⟨ho, ?_⟩⟩)
  refine ⟨.ref s.heap.objs.size, _, I.laid (t' := s.toks) (o := .tup (xs ++ xs)) (fun b ob q => Heap.get?_push_of_some _ q) (Nat.le_refl _) ?_, rfl, q _ (I.hok.fresh (Nat.le_refl _))⟩
  refine ⟨by rw [List.length_append, sizeLine_eq]; omega, its ++ its, r.append r, ?_⟩
  have e : (#[] ++ its.toArray ++ its.toArray : Array Value) = (its ++ its).toArray := by simp
  rw [e]
  exact IsTup.new _ _
def lkS : List (Str × Int) → Str → Option Int
  | [], _ => none
  | (y, i) :: r, x => if x = y then some i else lkS r x
def rowsO : List DictEntry → Option (List (Str × Int))
  | [] => some []
  | ⟨_, .str x _, .int i _⟩ :: r => (rowsO r).map fun D => (x, i) :: D
  | _ => none
def tabO (o : Obj) : Option (List (Str × Int)) := match o with
  | ⟨.type t, none, .dict es _, sl⟩ => if t = "dict" ∧ sl = #[] then rowsO es.toList else none
  | _ => none
open PyProof.Rows.KTD in
theorem rowsO_rows {h : Heap} : ∀ {es : List DictEntry} {D : List (Str × Int)}, rowsO es = some D → PyProof.Rows.KTD.Rows (Dat.At h) es (D.map fun p => (p.1, Dat.flat (.int p.2)))
  | [], D, e => by
    cases e
    exact .nil
  | ⟨hs, k, v⟩ :: r, D, e => by
    cases k <;> first
      | (cases e; done)
      | skip
    rename_i x t
    cases v <;> first
      | (cases e; done)
      | skip
    rename_i i u
    have e' : (rowsO r).map (fun D => (x, i) :: D) = some D := e
    cases hr : rowsO r with
    | none => rw [hr] at e'; cases e'
    | some D' =>
      rw [hr] at e'
      cases e'
      exact .cons rfl (PyProof.V.Flat.int i u) (rowsO_rows hr)
structure TabK (K : PySem.W.Frag) (a : Addr) (D : List (Str × Int)) : Prop where
  low : (a == sysModules) = false
  at_ : ∃ o, K.lookup a = some o ∧ tabO o = some D
theorem TabK.text {K : PySem.W.Frag} {a : Addr} {D : List (Str × Int)} {h : Heap} (T : TabK K a D) (X : K.In h) : PyProof.Rows.KTD.TextTab h a (D.map fun p => (p.1, PyProof.Rows.KTD.Dat.flat (.int p.2))) := by
  obtain ⟨lo, o, lk, e⟩ := T
  refine ⟨lo, o, ?_⟩
  obtain ⟨c, d, dt, sl⟩ := o
  unfold tabO at e
  split at e
  · rename_i t es ep sl' he
    injection he with h1 h2 h3 h4
    subst h1 h2 h3 h4
    split at e
    · rename_i hc
      obtain ⟨rfl, rfl⟩ := hc
      exact ⟨es, ep, X _ _ lk, ⟨rfl, rfl, rfl⟩, rfl, rowsO_rows e⟩
    · cases e
  · cases e
theorem each_of {h : Heap} {k : Str} {P : Value → Prop} {els : Prop} : ∀ {D : List (Str × Int)}, (match lkS D k with | some i => ∀ t, P (.int i t) | none => els) → PyProof.Rows.KTD.Each h k P els (D.map fun p => (p.1, PyProof.Rows.KTD.Dat.flat (.int p.2)))
  | [], q => q
  | (y, i) :: r, q => by
    show if decide (k = y) = true then _ else _
    unfold lkS at q
    by_cases e : k = y
    · rw [if_pos e] at q
      rw [decide_eq_true e, if_pos rfl]
      exact q
    · rw [if_neg e] at q
      rw [decide_eq_false e, if_neg Bool.false_ne_true]
      exact each_of q
def tTabGet (a : Addr) (D : List (Str × Int)) (td ty : TE) : TE := fun σ H Q => td σ H fun x H1 => x = .ref a ∧ ty σ H1 fun y H2 => ∃ k, y = .str k ∧ Q (match lkS D k with | some i => .int i | none => .non) H2
theorem pe_tabget {a : Addr} {D : List (Str × Int)} {o e : Expr} {apos cpos : Pos} {td ty : TE} (tb : TabK X.K a D) (ho : PE X o td) (he : PE X e ty) (m : M1 X o "get" apos e cpos := by exact ⟨rfl, rfl, rfl, rfl⟩) : PE X (.Call (.Attribute o "get" apos) [e] [] cpos) (tTabGet a D td ty) := by
  intro pins s σ H Q I h
  refine wpAny_Call_method m.base m.few m.line PySem.F.plainAttrs_dict PySem.F.slot_dict_get PySem.F.type_dict_get (thn (ho pins s σ H _ I h) fun u s1 ⟨x, H1, I1, rx, ex, q1⟩ => ?_)
  subst ex
  obtain rfl : u = Value.ref a := rx
  have T1 : PyProof.Rows.KTD.Here X.base s1.heap a (D.map fun p => (p.1, PyProof.Rows.KTD.Dat.flat (.int p.2))) := ⟨tb.text I1.mod.kin, I1.bk⟩
  refine ⟨T1.typeIs, T1.noDict, ?_⟩
  rw [m.trees]
  refine Calls.callWith_builtin rfl (Calls.evalArgs_plain (Calls.spliced_cons (thn (he pins s1 σ H1 _ I1 q1) fun iv s2 ⟨y, H2, I2, ry, k, ek, q2⟩ => Calls.spliced_nil ?_)))
  subst ek
  obtain ⟨tk, rfl⟩ := ry
  have T2 : PyProof.Rows.KTD.Here X.base s2.heap a (D.map fun p => (p.1, PyProof.Rows.KTD.Dat.flat (.int p.2))) := ⟨tb.text I2.mod.kin, I2.bk⟩
  refine PyProof.Rows.KTD.get1_text T2 (each_of ?_)
  cases hk : lkS D k with
  | none =>
    rw [hk] at q2
    exact ⟨.non, H2, I2.tok _, rfl, q2⟩
  | some i =>
    rw [hk] at q2
    exact fun t => ⟨.int i, H2, I2.tok _, ⟨t, rfl⟩, q2⟩
end
end L2

namespace L2
open PySem PySem.Spec PyProof.Rows
open PySem.SeqAt
open PySem.AutoSeq1 (wpAny_loadPart')
section
variable {X : Cx}
theorem any_range (bs : List Bool) : (List.range bs.length).any (fun i => bs.getD i true) = bs.any id := by
  rw [Bool.eq_iff_iff]
  simp only [List.any_eq_true, List.mem_range, id]
  constructor
  · rintro ⟨i, hi, h⟩
    rw [List.getD_eq_getElem?_getD, List.getElem?_eq_getElem hi] at h
    exact ⟨bs[i], List.getElem_mem hi, by simpa using h⟩
  · rintro ⟨b, hb, h⟩
    obtain ⟨i, hi, e⟩ := List.mem_iff_getElem.mp hb
    refine ⟨i, hi, ?_⟩
    rw [List.getD_eq_getElem?_getD, List.getElem?_eq_getElem hi]
    simpa [e] using h
theorem call_anyB (hc : X.calm = true) : CallR X (.builtin "any") (fun xs H Q => ∃ (p : Addr) (bs : List Bool), xs = [.ref p] ∧ SqL X.K H p (bs.map V.bl) ∧ Q (.bl (bs.any id)) H) := by
  intro pins s σ H xs us Q I r h
  obtain ⟨p, bs, rfl, hq, q⟩ := h
  obtain ⟨u, rfl, rx⟩ := vals1 r
  cases rx
  obtain ⟨its, rv, pl, hz⟩ := I.list hq
  have hl := rv.length
  rw [List.length_map] at hl
  have hlt : p < s.heap.objs.size := by
    obtain ⟨o, n, e, _⟩ := pl
    exact Heap.lt_size e
  refine call_any_walk (wpAny_pyIter_list pl.isList ?_)
  refine ⟨s.heap.objs.size, _, _, its.toArray.size, _, _, fun i => bs.getD i true, rfl, Walks.list (A := X.A.in1) (show X.A.in1.handled = none from I.ok.hd hc) s.heap.objs.size p (Nat.ne_of_lt hlt) its.toArray, ⟨⟨_, Heap.get?_push_size _ rfl, rfl, rfl⟩, ?_⟩, ?_, ?_⟩
  · obtain ⟨o, e, c⟩ := pl.isList
    exact ⟨o, Heap.get?_push_of_some _ e, c⟩
  · intro i v s' Q' E' hP hQ
    have hP' : its[i]? = some v := by simpa using hP
    have hi : i < its.length := (List.getElem?_eq_some_iff.mp hP').1
    have hb : (bs.map V.bl)[i]? = some (V.bl (bs.getD i true)) := by
      rw [List.getElem?_map, List.getElem?_eq_getElem (by omega), List.getD_eq_getElem?_getD, List.getElem?_eq_getElem (by omega)]
      rfl
    obtain ⟨u, hu, ru⟩ := rv.get hb
    rw [hP'] at hu
    cases hu
    cases ru
    exact wpAny_truthy_bool hQ
  · intro h' tk hk
    refine ⟨.bl (bs.any id), H, I.kept (t' := tk) (fun b o e => hk b o (by simpa using Nat.ne_of_lt (Heap.lt_size e)) (Heap.get?_push_of_some _ e)), ?_, q⟩
    show Value.bool _ = Value.bool _
    rw [List.size_toArray, ← hl, any_range]
theorem meets_dict_lenH {prog : Program} {w : World} {d : Addr} {o : Obj} {es : Array DictEntry} {ep : Nat} (hd : (d == sysModules) = false) (ho : ∀ s : Shared, s.heap.get? d = some o → True) :
    MeetsIn prog w (Builtin.«dict.__len__» ⟨[.ref d], []⟩) (fun _ R s => (s.heap.get? d = some o ∧ o.ExactDict ∧ o.data = .dict es ep) ∧ R (.ok (.ret (.int es.size s.toks))) { s with toks := s.toks + 1 }) :=
  .of_wp fun A R s ⟨⟨ho, hc, hdat⟩, h⟩ => by
    show wpAny _ _ (dictSize d >>= _) _ _ s
    unfold dictSize
    refine wpAny_bind (wpAny_bind (wpAny_dictEntries ho hdat (wpAny_pure ?_)))
    show wpAny _ _ (Builtin.Dict.pendingCount d >>= _) _ _ s
    refine wpAny_bind (wpAny_pendingCount_other hd ?_)
    refine wpAny_ret_mkInt ?_
    rw [Nat.add_zero]; exact h
theorem call_len_raw {prog : Program} {w : World} {A : Around} {E : Value → Shared → Prop} {s : Shared} {d : Addr} {o : Obj} {es : Array DictEntry} {ep : Nat} {Q : Value → Shared → Prop} (hd : (d == sysModules) = false)
    (ho : s.heap.get? d = some o) (hc : o.ExactDict) (hdat : o.data = .dict es ep) (hfit : (es.size : Int) < 2 ^ 63)
    (h : Q (.int es.size (s.toks + 1)) { s with toks := s.toks + 1 + 1 }) : wpAny (model prog w) A (call (.builtin "len") [.ref d]) Q E s := by
  have hT : s.TypeIs (.ref d) "dict" := ⟨o, ho, hc.1⟩
  refine Calls.call_function_entry kind_len plain_len entry_len (args_len1 _) ?_
  unfold Builtin.«len»
  refine wpAny_bind (m := oneArg "len" _) (wpAny_pure ?_)
  refine wpAny_bind (m := callSpecial? (.ref d) (Str.ofString "__len__")) (wpAny_callSpecial?_slot (name := Str.ofString "__len__") hT F.slot_dict_len
    (call_meetsIn F.slot_dict_len hT F.entry_dict_len (F.args_dict_len_1 _) (meets_dict_lenH (o := o) (es := es) (ep := ep) hd fun _ _ => trivial) ⟨⟨ho, hc, hdat⟩, ?_⟩))
  show wpAny _ _ _ _ _ { s with toks := s.toks + 1 }
  refine wpAny_bind (wpAny_holding (wpAny_pure ?_))
  refine wpAny_bind (wpAny_letGo ?_)
  show wpAny _ _ (if ((es.size : Nat) : Int) < 0 then _ else _) _ _ _
  rw [if_neg (by omega)]
  show wpAny _ _ (if ((es.size : Nat) : Int) ≥ 2 ^ 63 then _ else _) _ _ _
  rw [if_neg (by omega)]
  exact wpAny_bind (wpAny_mkInt (wpAny_pure ⟨_, rfl, h⟩))
def DLen (H : Hp) (a : Addr) (n : Nat) : Prop := (∃ kvs, Rd H a (.dK kvs) ∧ kvs.length = n) ∨ ∃ kvs, Rd H a (.dT kvs) ∧ kvs.length = n
theorem call_len_dic : CallR X (.builtin "len") (fun xs H Q => ∃ p n, xs = [.ref p] ∧ DLen H p n ∧ Q (.int n) H) := by
  intro pins s σ H xs us Q I r h
  obtain ⟨p, n, rfl, hd, q⟩ := h
  obtain ⟨u, rfl, rx⟩ := vals1 r
  cases rx
  rcases hd with ⟨kvs, e, rfl⟩ | ⟨kvs, e, rfl⟩
  · exact d_len I e fun t s' I' => ⟨.int kvs.length, H, I', ⟨t, rfl⟩, q⟩
  · obtain ⟨z, hd, xs, rel, o, es, ep, h1, h2, h3, h4, _⟩ := dt_rd I.hok e
    have hl : es.size = kvs.length := by
      have : es.toList.length = xs.length := by rw [h4, List.length_map]
      rw [← Array.length_toList, this, ← rel.length]
    refine call_len_raw hd h1 h2 h3 (by rw [sizeLine_eq] at z; omega) ?_
    rw [hl]
    exact ⟨.int kvs.length, H, I.tok _, ⟨_, rfl⟩, q⟩
theorem subscriptTail_dic {prog : Program} {w : World} {A : Around} {E : Value → Shared → Prop} {s₂ : Shared} {value slice : Expr} {o i : Value} {Q : Value → Shared → Prop}
    (hT : s₂.TypeIs o "dict") (h₂ : wpAny (model prog w) A (getItem o i) Q E s₂) (hs : subscripted slice false o i = operate [o, i] (getItem o i)) : wpAny (model prog w) A (subscriptTail value slice o i) Q E s₂ := by
  unfold subscriptTail
  refine wpAny_bind ?_
  rw [getitemInPython_of_ne hT.not_modules]
  refine wpAny_bind (wpAny_specialOf hT PySem.F.slot_dict_getitem.lookup ?_)
  have fin : wpAny (model prog w) A (subscripted slice false o i) (fun r s₃ => wpAny (model prog w) A (letTemporaryGo value o r >>= fun _ => pure r) Q E s₃) E s₂ := by
    rw [hs]
    exact wpAny_operating (wpAny_mono h₂ (fun r s₃ h₃ => wpAny_bind (wpAny_letTemporaryGo (wpAny_pure h₃))) fun _ _ x => x)
  first
    | exact wpAny_pure (wpAny_bind fin)
    | exact wpAny_bind (wpAny_pure (wpAny_bind fin))
    | exact wpAny_bind fin
theorem call_rangeR : CallR X (.type "range") (fun xs H Q => ∃ lo hi, (xs = [.int lo, .int hi] ∨ (lo = 0 ∧ xs = [.int hi])) ∧ ∀ p, H p = none → Q (.ref p) (upd H p (.rng lo hi))) := by
  intro pins s σ H xs us Q I r h
  obtain ⟨lo, hi, hx, q⟩ := h
  rcases hx with rfl | ⟨rfl, rfl⟩
  · obtain ⟨u, w', rfl, rx, ry⟩ := vals2 r
    obtain ⟨t, rfl⟩ := rx
    obtain ⟨t', rfl⟩ := ry
    refine call_range_2 ⟨.ref s.heap.objs.size, _, I.laid (a := s.heap.objs.size) (o := .rng lo hi) (fun b o e => Heap.get?_push_of_some _ e) (Nat.le_refl _) ⟨_, _, _, Heap.get?_push_size _ rfl⟩, rfl, q _ (I.hok.fresh (Nat.le_refl _))⟩
  · obtain ⟨u, rfl, rx⟩ := vals1 r
    obtain ⟨t, rfl⟩ := rx
    refine call_range_1 ⟨.ref s.heap.objs.size, _, I.laid (a := s.heap.objs.size) (o := .rng 0 hi) (fun b o e => Heap.get?_push_of_some _ e) (Nat.le_refl _) ⟨_, _, _, Heap.get?_push_size _ rfl⟩, rfl, q _ (I.hok.fresh (Nat.le_refl _))⟩
def rngV (lo : Int) (n : Nat) : List V := (List.range n).map fun k => .int (lo + (k : Nat))
theorem rng_vals {lo : Int} : ∀ {acc : List Value} {n : Nat}, acc.length = n → (∀ (j : Nat) v, acc[j]? = some v → ∃ t, v = .int (lo + j * 1) t) → Vals (rngV lo n) acc := by
  intro acc n hl h
  suffices ∀ (k : Nat) (acc' : List Value), acc'.length + k = n → (∀ (j : Nat) v, acc'[j]? = some v → ∃ t, v = .int (lo + ((k + j : Nat) : Int)) t) → Vals ((List.range' k acc'.length).map fun i => V.int (lo + (i : Nat))) acc' by
    have q := this 0 acc (by omega) fun j v hj => by
      obtain ⟨t, e⟩ := h j v hj
      exact ⟨t, by rw [e]; congr 1 <;> simp⟩
    unfold rngV
    rw [List.range_eq_range', ← hl]
    exact q
  intro k acc'
  induction acc' generalizing k with
  | nil => intro _ _; exact .nil
  | cons x xs ih =>
    intro hn hx
    rw [List.length_cons, List.range'_succ, List.map_cons]
    refine .cons ?_ ?_
    · obtain ⟨t, e⟩ := hx 0 x rfl
      exact ⟨t, by rw [e]; simp⟩
    · refine ih (k + 1) (by rw [List.length_cons] at hn; omega) fun j v hj => ?_
      obtain ⟨t, e⟩ := hx (j + 1) v (by simpa using hj)
      exact ⟨t, by rw [e]; congr 1; omega⟩
theorem call_list_rng (hc : X.calm = true) : CallR X (.type "list") (fun xs H Q => ∃ p lo hi, xs = [.ref p] ∧ H p = some (.rng lo hi) ∧ (-(2 ^ 62) ≤ lo ∧ lo < 2 ^ 62 ∧ -(2 ^ 62) ≤ hi ∧ hi < 2 ^ 62) ∧ (hi - lo).toNat ≤ sizeLine ∧
    ∀ l, H l = none → Q (.ref l) (upd H l (.lst (rngV lo (hi - lo).toNat)))) := by
  intro pins s σ H xs us Q I r h
  obtain ⟨p, lo, hi, rfl, hp, ⟨h1, h2, h3, h4⟩, hz, q⟩ := h
  obtain ⟨u, rfl, rx⟩ := vals1 r
  cases rx
  obtain ⟨t, u, v, e⟩ := (show ObjOk X.prog X.w H s.heap p (.rng lo hi) from I.hok p _ hp)
  refine call_list_range (n := (hi - lo).toNat) (I.ok.hd hc) (show IsRange s.heap p lo hi 1 t u v from e) (small_one h1 h2 h3 h4) (by rw [rangeSize_one]; split <;> omega) (by rw [sizeLine_eq] at hz; omega) fun h' tk acc' c' hk hS hi' => ?_
  obtain ⟨i1, i2⟩ := hi'
  have hv : Vals (rngV lo (hi - lo).toNat) acc'.toList := rng_vals (by rw [Array.length_toList]; exact i1) fun j v hj => i2 j v (by simpa using hj)
  have hlen := hv.length
  refine ⟨.ref s.heap.objs.size, _, I.laid (a := s.heap.objs.size) (o := .lst (rngV lo (hi - lo).toNat)) (t' := tk) hk (Nat.le_refl _) ⟨by unfold rngV; rw [List.length_map, List.length_range]; exact hz, acc'.toList, c', hv, by simpa using hS⟩, rfl, q _ (I.hok.fresh (Nat.le_refl _))⟩
theorem tuple_mul3 (l : Addr) (items : Array Value) (n : Nat) (d : Option Addr) (sl : Array (Option Value)) (u : Tok) (hne : ¬ items.isEmpty = true) (hz : items.size * 3 ≤ 1000000) :
    Meets (Builtin.«tuple.__mul__» ⟨[.ref l, .int 3 u], []⟩) (fun _ R s => s.heap.get? l = some { cls := .type "tuple", dict := d, data := .seq items n, slots := sl } ∧
      R (.ok (.ret (Value.ref s.heap.objs.size))) { s with heap := s.heap.push { cls := Value.type "tuple", data := Data.seq (#[] ++ items ++ items ++ items) }, toks := s.toks }) :=
  .of_wp fun prog w A R s h => by
    obtain ⟨hp, g, dr, tk, os⟩ := s
    obtain ⟨hl, h⟩ := h
    have f1 := AutoSeq1.idx_int
    have h1 : ¬ ((items.size : Int) * 3 > (2 ^ 63 - 1) / 8) := by omega
    have h2 : ¬ Builtin.Tuple.tupleTooMany ((items.size : Int) * 3) = true := by
      unfold Builtin.Tuple.tupleTooMany
      simp [sizeLine]
      omega
    have h3 : (items.isEmpty || (3 : Int) == 1) = false := by simpa using hne
    have h4 : ((3 : Int) ≤ 0 || items.isEmpty) = false := by simpa using hne
    wp_walk using wpAny_loadPart' hl
    rw [if_neg h1]
    show wpAny _ _ (if Builtin.Tuple.tupleTooMany ((items.size : Int) * 3) = true then _ else _) _ _ _
    rw [if_neg h2]
    have hsz : sizeOk (.seq (List.foldl (fun x1 x2 => x1 ++ x2) #[] (List.replicate (Int.toNat 3) items))) := by
      show (List.foldl (fun x1 x2 => x1 ++ x2) #[] (List.replicate (Int.toNat 3) items)).size ≤ sizeLine
      show (#[] ++ items ++ items ++ items).size ≤ sizeLine
      simp [sizeLine]
      omega
    show wpAny _ _ (Builtin.Tuple.tupleExact (List.foldl (fun x1 x2 => x1 ++ x2) #[] (List.replicate (Int.toNat 3) items)) >>= fun v => ret v) _ _ _
    exact wpAny_bind (m := Builtin.Tuple.tupleExact _) (wpAny_newObj_type (wpAny_pure ⟨_, rfl, h⟩) hsz)
def rMul3 : R2 := fun x y H Q => ∃ a xs, x = .ref a ∧ y = .int 3 ∧ H a = some (.tup xs) ∧ xs ≠ [] ∧ xs.length ≤ 100000 ∧ ∀ p, H p = none → Q (.ref p) (upd H p (.tup (xs ++ xs ++ xs)))
theorem op_mulT3 : OpR X (binaryOp .Mult) rMul3 := by
  intro pins s σ H x y v u Q I rx ry h
  obtain ⟨a, xs, rfl, rfl, ha, hne, hz, q⟩ := h
  cases rx
  obtain ⟨t, rfl⟩ := ry
  obtain ⟨its, r, ht, hz'⟩ := I.tuple (SqT.of ha)
  have hl := r.length
  obtain ⟨⟨cls, dd, data, sl⟩, ho, hc, n, hd⟩ := id ht
  simp only at hc hd
  subst hc hd
  have hne' : ¬ its.toArray.isEmpty = true := by
    intro z
    have : its = [] := by simpa using z
    exact hne (r.nil_iff.mp this)
  refine wpAny_binaryOp_repeat_ref (T := "tuple") (U := "int") (by decide) ⟨_, ho, rfl⟩ (fun s' => typeIs_int s' 3 t) noFill_tuple_mul PySem.F.fills_int_mul PySem.F.slot_int_rmul repeat_tuple PySem.F.slot_int_index.lookup
    (call_meets PySem.F.slot_int_rmul (typeIs_int s 3 t) PySem.F.entry_int_rmul (PySem.F.args_int_rmul_2 _ _) (int_rmul_tuple 3 t a its.toArray n dd sl)
      ⟨ho, rfl, ⟨_, ho, rfl⟩, call_meets PySem.F.slot_tuple_mul ⟨_, ho, rfl⟩ PySem.F.entry_tuple_mul (PySem.F.args_tuple_mul_2 _ _)
        (tuple_mul3 a its.toArray n dd sl t hne' (by rw [List.size_toArray]; omega)) ⟨ho, ?_⟩⟩)
  refine ⟨.ref s.heap.objs.size, _, I.laid (t' := s.toks) (o := .tup (xs ++ xs ++ xs)) (fun b ob q => Heap.get?_push_of_some _ q) (Nat.le_refl _) ?_, rfl, q _ (I.hok.fresh (Nat.le_refl _))⟩
  refine ⟨by rw [List.length_append, List.length_append, sizeLine_eq]; omega, its ++ its ++ its, (r.append r).append r, ?_⟩
  have e : (#[] ++ its.toArray ++ its.toArray ++ its.toArray : Array Value) = (its ++ its ++ its).toArray := by simp
  rw [e]
  exact IsTup.new _ _
theorem tuple_mul1 (l : Addr) (items : Array Value) (n : Nat) (d : Option Addr) (sl : Array (Option Value)) (u : Tok) :
    Meets (Builtin.«tuple.__mul__» ⟨[.ref l, .int 1 u], []⟩) (fun _ R s => s.heap.get? l = some { cls := .type "tuple", dict := d, data := .seq items n, slots := sl } ∧ R (.ok (.ret (Value.ref l))) s) :=
  .of_wp fun prog w A R s h => by
    obtain ⟨hp, g, dr, tk, os⟩ := s
    obtain ⟨hl, h⟩ := h
    have f1 := AutoSeq1.idx_int
    have h3 : (items.isEmpty || (1 : Int) == 1) = true := by simp
    wp_walk using wpAny_loadPart' hl
    all_goals exact ⟨_, rfl, h⟩
def rMul1 : R2 := fun x y H Q => ∃ a xs, x = .ref a ∧ y = .int 1 ∧ H a = some (.tup xs) ∧ Q (.ref a) H
theorem op_mulT1 : OpR X (binaryOp .Mult) rMul1 := by
  intro pins s σ H x y v u Q I rx ry h
  obtain ⟨a, xs, rfl, rfl, ha, q⟩ := h
  cases rx
  obtain ⟨t, rfl⟩ := ry
  obtain ⟨its, r, ht, hz'⟩ := I.tuple (SqT.of ha)
  obtain ⟨⟨cls, dd, data, sl⟩, ho, hc, n, hd⟩ := id ht
  simp only at hc hd
  subst hc hd
  refine wpAny_binaryOp_repeat_ref (T := "tuple") (U := "int") (by decide) ⟨_, ho, rfl⟩ (fun s' => typeIs_int s' 1 t) noFill_tuple_mul PySem.F.fills_int_mul PySem.F.slot_int_rmul repeat_tuple PySem.F.slot_int_index.lookup
    (call_meets PySem.F.slot_int_rmul (typeIs_int s 1 t) PySem.F.entry_int_rmul (PySem.F.args_int_rmul_2 _ _) (int_rmul_tuple 1 t a its.toArray n dd sl)
      ⟨ho, rfl, ⟨_, ho, rfl⟩, call_meets PySem.F.slot_tuple_mul ⟨_, ho, rfl⟩ PySem.F.entry_tuple_mul (PySem.F.args_tuple_mul_2 _ _)
        (tuple_mul1 a its.toArray n dd sl t) ⟨ho, ?_⟩⟩)
  exact ⟨.ref a, H, I, rfl, q⟩
def rIndex (K : PySem.W.Frag) : V → List V → Hp → VK → Prop := fun x vs H Q => ∃ (l : Addr) (ns : List Int) (k : Int), x = .ref l ∧ vs = [.int k] ∧ SqL K H l (ns.map V.int) ∧ k ∈ ns ∧ Q (.int (ns.idxOf k : Nat)) H
theorem ints_are : ∀ {ns : List Int} {us : List Value}, Vals (ns.map V.int) us → IntsAre us ns
  | [], us, h => by rw [List.map_nil] at h; cases h; exact .nil
  | n :: ns, us, h => by
    rw [List.map_cons] at h
    cases h with
    | cons h t =>
      obtain ⟨tk, rfl⟩ := h
      exact .cons n tk (ints_are t)
theorem mt_index : MtM X "list.index" (rIndex X.K) := by
  intro pins s σ H x vs v us Q I rx rv h
  obtain ⟨l, ns, k, rfl, rfl, hH, hk, q⟩ := h
  cases rx
  obtain ⟨u, rfl, ru⟩ := rv.one
  obtain ⟨t, rfl⟩ := ru
  obtain ⟨its, r, pl, hz⟩ := I.list hH
  have hi := ints_are r
  obtain ⟨⟨cls, dd, data, sl⟩, ho, hc, n, hd⟩ := id pl.isList
  simp only at hc hd
  subst hc hd
  have hlen := hi.length
  have hj : ns.idxOf k < ns.length := List.idxOf_lt_length_iff.mpr hk
  rw [List.length_map, sizeLine_eq] at hz
  refine call_meets PySem.F.slot_list_index ⟨_, ho, rfl⟩ PySem.F.entry_list_index (PySem.F.args_list_index_2 _ _)
    (list_indexAt l its.toArray n dd sl (.int k t) (isInt k) (ns.idxOf k) (by simpa [hlen] using hj) (by omega) ?_ ?_) ⟨ho, fun y hy => (eq_isInt k t hi y (by simpa using hy)).at _ _, ⟨.int (ns.idxOf k : Nat), H, I.tok _, ⟨_, rfl⟩, q⟩⟩
  · show isInt k its[ns.idxOf k] = true
    rw [isInt_at k hi _ (by omega) hj]
    simpa using List.getElem_idxOf hj
  · intro j hjs hlt
    show isInt k its[j] = false
    rw [isInt_at k hi j (by simpa using hjs) (by omega)]
    exact ne_of_lt_idxOf hlt _
end
end L2

namespace L2
open PySem PySem.Spec PyProof.Rows
section
variable {X : Cx} {elt iter tg : Expr} {ifs : List Expr} {sc : Scope} {pos : Pos} {N : List Str} {ts : Nat} {js : List Nat} {wi : TI} {g : TG} {tc : TT} {te : TE}
theorem ps_setComp (hc : X.calm = true) (B : BScope X N ts js sc) (hi : PI X tg iter wi)
    (hg : ∀ pins fp C s H, PG (cxB X pins N sc fp C s H) tg g) (ht : ∀ pins fp C s H, PTs (cxB X pins N sc fp C s H) ifs tc) (he : ∀ pins fp C s H, PE (cxB X pins N sc fp C s H) elt te)
    (hs : ∀ x, foldedSetIterable iter X.env x = pure x) {y : Str} {py spos : Pos} {gt : TG} (hsw : X.Ok → swapsWith (.ListComp elt [⟨tg, iter, ifs, 0⟩] sc pos) (some (.Name y py)) spos.line X.env = pure true) (hgt : PG X (.Name y py) gt) :
    PS X (.Assign [.Name y py] (.ListComp elt [⟨tg, iter, ifs, 0⟩] sc pos) spos) (fun D σ H => tComp wi g tc te ts js σ H fun v H1 => gt v σ H1 D.nx) := by
  intro pins s σ H D I h
  rw [exec_Assign_Name_used _ _ _ _ (hsw I.ok)]
  refine wpAny_bind (wpAny_standAt (wpAny_bind ?_))
  show wpAny _ X.A (do let _ ← comprehension (.ListComp elt [⟨tg, iter, ifs, 0⟩] sc pos) sc X.env _ (newList []) false (eval iter X.env) (some (assign (.Name y py) X.env))) _ _ s
  refine wpAny_bind (wpAny_mono (wpAny_comprehension_free (use := some (assign (.Name y py) X.env)) (Q := fun _ s' => SP X pins D .next s') rfl hs (closure_of (B.cl I.ok)) B.kind B.names
    (thn (hi pins s σ H _ I h) fun v s1 h1 => thn h1 fun itv s2 h2 => ?_)) (fun _ s' hq => wpAny_pure (wpAny_pure hq)) fun _ _ e => e)
  obtain ⟨it, fp, tn, J, H2, e, I2, T, st2, f2, h2'⟩ := h2
  subst e
  have hnew : H2 s2.heap.objs.size = none := I2.hok.fresh (Nat.le_refl _)
  obtain ⟨W, ⟨m0, w0⟩, turn⟩ := h2' s2.heap.objs.size hnew
  refine wpAny_newObj_type (wpAny_newFunctionEnv B.nocell (by intro y hy; simp at hy) (fun h₁ hns₁ hsb₁ => ?_) B.kind)
  obtain ⟨s3, hs3⟩ : ∃ s3 : Shared, ({ s2 with heap := s2.heap.push { cls := .type "list", dict := none, data := .seq ([] : List Value).toArray } } : Shared) = s3 := ⟨_, rfl⟩
  have e3 : s3.heap = s2.heap.push { cls := .type "list", dict := none, data := .seq ([] : List Value).toArray } := by rw [← hs3]
  have hns₂ : h₁.Ns s3.heap.objs.size fun x => ([] : List (Str × Value)).reverse.lookup x := by rw [e3]; exact hns₁
  have hsb₂ : Heap.SameBut s3.heap.objs.size (s3.heap.push { cls := .type (if (some X.env).isSome then "dict" else "frame"), data := .dict #[] }) h₁ := by rw [e3]; exact hsb₁
  have I3 : Inv X pins σ (upd H2 s2.heap.objs.size (.lst [])) s3 := by
    rw [← hs3]
    exact I2.laid (t' := s2.toks) (fun b u e => Heap.get?_push_of_some _ e) (Nat.le_refl _) ⟨Nat.zero_le _, [], 0, .nil, Heap.get?_push_size _ rfl⟩
  have lt2 : ∀ b ∈ fp, b < s2.heap.objs.size := fun b hb => by
    obtain ⟨o, e, _⟩ := T.obj _ _ st2 b hb
    exact Heap.lt_size e
  have f3 : ∀ b ∈ fp, FpOk X pins (upd H2 s2.heap.objs.size (.lst [])) b := fun b hb => ⟨by rw [upd_ne (Nat.ne_of_lt (lt2 b hb))]; exact (f2 b hb).1, (f2 b hb).2⟩
  have sz3 : s2.heap.objs.size < s3.heap.objs.size := by rw [e3, Heap.size_push]; exact Nat.lt_succ_self _
  have lt3 : ∀ b ∈ fp, b < s3.heap.objs.size := fun b hb => Nat.lt_trans (lt2 b hb) sz3
  have k1 : ∀ b o, s3.heap.get? b = some o → h₁.get? b = some o := fun b o e => hsb₂.extBut b o (Nat.ne_of_lt (Heap.lt_size e)) (Heap.get?_push_of_some _ e)
  have IB := I3.block (tk := s3.toks + ([] : List (Str × Value)).length) (N := N) B f3 lt3 hns₂ k1
  have st4 : tn 0 h₁ := T.keep _ _ _ st2 fun b hb o e => k1 b o (by rw [e3]; exact Heap.get?_push_of_some _ e)
  have stat : ∀ {H' : Hp}, (∀ b ∈ fp, H' b = none) → ∀ b ∈ fp, FpOk (cxB X pins N sc fp s3.heap.objs.size s3 (upd H2 s2.heap.objs.size (.lst []))) [] H' b := fun hn b hb =>
    ⟨hn b hb, Nat.ne_of_lt (lt3 b hb), I3.fpB (f3 b hb), .inl hb, fun x c h => (f3 b hb).2.2.2.2.1 x c (B.get I3.ok h), fun p hp => (f3 b hb).2.2.2.2.2 p (by simpa [cxB] using hp)⟩
  have loop : codeAny (model X.prog X.w) X.A (.compLoop (.ListComp elt [⟨tg, iter, ifs, 0⟩] sc pos) 0 (.ref it) (.ref s2.heap.objs.size) (compEnvC sc (freesOf X.env sc.names []) s3.heap.objs.size X.env))
      (compPost (model X.prog X.w) X.A X.xe (some (assign (.Name y py) X.env)) (fun _ s' => SP X pins D .next s') (.ref s2.heap.objs.size) s3.heap.objs.size) { s3 with heap := h₁, toks := s3.toks + ([] : List (Str × Value)).length } := by
    refine comp_loop (fun n s' => ∃ i τ H', Inv (cxB X pins N sc fp s3.heap.objs.size s3 (upd H2 s2.heap.objs.size (.lst []))) [] τ H' s' ∧ tn i s'.heap ∧ (∀ b ∈ fp, H' b = none) ∧ W i n τ H') ?_ m0
      ⟨0, blockSt ts js σ, _, IB, st4, fun b hb => (f3 b hb).1, w0⟩
    rintro n s5 ⟨i, τ, H5, I5, st5, fr5, w5⟩
    rcases turn i n τ H5 w5 with ⟨stop, qn⟩ | ⟨go, step⟩
    · refine thn (T.done (cxB X pins N sc fp s3.heap.objs.size s3 (upd H2 s2.heap.objs.size (.lst []))) rfl rfl rfl hc i [] s5 τ H5 (fun _ _ => False) I5 (stat fr5) st5 stop) fun r s6 ⟨hr, I6⟩ => ?_
      subst hr
      obtain ⟨m, hn, _⟩ := I6.loc
      have IO : Inv X pins σ H5 s6 := I3.blockEnd (h'' := s6.heap) f3 I6 ⟨rfl, fun _ _ => rfl⟩
      have fC : FpOk X pins H5 s3.heap.objs.size := I3.fpOk (Nat.le_refl _) I6.free
      obtain ⟨oC, esC, epC, eC, dC, rC⟩ := id hn
      have IOp := IO.pinned (fp := [s3.heap.objs.size]) (fun b hb => by rw [List.mem_singleton.mp hb]; exact fC) fun b hb => by
        rw [List.mem_singleton.mp hb]
        exact ⟨oC, eC, fun v z => by rw [dC] at z; cases z⟩
      refine thn (hgt _ s6 σ H5 (.ref s2.heap.objs.size) (.ref s2.heap.objs.size) D.nx IOp rfl qn) fun _ s8 ⟨σ8, H8, I8, q8⟩ => ?_
      obtain ⟨pC, fC8, _⟩ := I8.pin (s3.heap.objs.size, oC) (List.mem_append_right _ (List.mem_append_right _ (mem_pinsAt (by simp) eC)))
      refine ⟨m, hn.at' fun o e => ?_, fun h' hs' => ⟨σ8, H8, ?_, q8⟩⟩
      · rw [eC] at e; cases e; exact pC
      · exact (I8.unpinned).turned (it := s3.heap.objs.size) (t' := s8.toks) (fun b o hb e => hs'.extBut b o hb e) fC8 fC.2.1 fC.2.2.2.1 fC.2.2.2.2.1 fC.2.2.2.2.2
    · refine thn (T.item (cxB X pins N sc fp s3.heap.objs.size s3 (upd H2 s2.heap.objs.size (.lst []))) rfl rfl rfl hc i [] s5 τ H5 (fun _ _ => False) I5 (stat fr5) st5 go) fun r s6 ⟨u, hr, h6⟩ => ?_
      subst hr
      refine thn h6 fun _ s7 ⟨x, H7, I7, r7, y7, st7, fr7⟩ => ?_
      have I7' := I7.pinned (stat fr7) (T.obj _ _ st7)
      refine thn (hg _ _ _ _ _ _ s7 τ H7 x u _ I7' r7 (step x H7 y7)) fun _ s8 ⟨τ8, H8, I8, q8⟩ => ?_
      refine thn (ht _ _ _ _ _ _ s8 τ8 H8 _ I8 q8) fun ok s9 ⟨H9, I9, q9⟩ => ?_
      have again : ∀ {s' : Shared} {τ' : St} {H' : Hp}, Inv (cxB X pins N sc fp s3.heap.objs.size s3 (upd H2 s2.heap.objs.size (.lst []))) ([] ++ pinsAt fp s7.heap) τ' H' s' → (∃ m', m' < n ∧ W (i + 1) m' τ' H') →
          ∃ m, m < n ∧ ∃ i τ H', Inv (cxB X pins N sc fp s3.heap.objs.size s3 (upd H2 s2.heap.objs.size (.lst []))) [] τ H' s' ∧ tn i s'.heap ∧ (∀ b ∈ fp, H' b = none) ∧ W i m τ H' := fun {s' τ' H'} I' ⟨m', hm, w'⟩ => by
        refine ⟨m', hm, i + 1, τ', H', I'.unpinned, T.keep _ _ _ st7 fun b hb o e => (I'.pin (b, o) (List.mem_append_right _ (List.mem_append_right _ (mem_pinsAt hb e)))).1, fun b hb => ?_, w'⟩
        obtain ⟨o, e, d⟩ := T.obj _ _ st7 b hb
        exact (I'.pin (b, o) (List.mem_append_right _ (List.mem_append_right _ (mem_pinsAt hb e)))).2.1
      cases ok with
      | false => exact again I9 q9
      | true =>
        refine thn (he _ _ _ _ _ _ s9 τ8 H9 _ I9 q9) fun xv s10 ⟨y, H10, I10, r10, ys, ha, hz, q10⟩ => ?_
        refine thn (mt_append _ s10 τ8 H10 (.ref s2.heap.objs.size) [y] (.ref s2.heap.objs.size) [xv] (fun _ H' => ∃ m', m' < n ∧ W (i + 1) m' τ8 H') I10 rfl (.cons r10 .nil) ⟨_, ys, y, rfl, rfl, ha, hz, q10⟩) fun _ s11 ⟨_, H11, I11, _, q11⟩ => ?_
        exact again I11 q11
  subst hs3
  exact codeAny_compStart_list loop (T.self _ 0 _ _ _ st4 loop)
end
end L2

namespace L2
open PySem PySem.Spec PyProof.Rows
section
variable {prog : Program} {w : World} {A : Around} {E : Value → Shared → Prop} {s : Shared}
theorem nextOf_tuple_item {it t : Addr} {i : Nat} {items} {x : Value} {Q : Value → Shared → Prop} (hit : s.heap.IsTupleIter it t i)
    (ht : s.heap.IsTuple t items) (hx : items[i]? = some x)
    (hQ : ∀ h', h'.IsTupleIter it t (i + 1) → Heap.SameBut it s.heap h' → Q x { s with heap := h' }) :
    wpAny (model prog w) A (Builtin.SmallTypes.nextOf (.ref it)) Q E s := by
  obtain ⟨o, ho, hc, hd⟩ := id hit
  obtain ⟨ol, hol, _, nl, hdl⟩ := ht
  unfold Builtin.SmallTypes.nextOf
  refine wpAny_bind (wpAny_callSpecial?_slot (name := Str.ofString "__next__") hit.typeIs PySem.F.slot_tuple_iterator_next
    (wpAny_call_entry PySem.F.slot_tuple_iterator_next hit.typeIs PySem.F.entry_tuple_iterator_next ?_ (PySem.F.args_tuple_iterator_next_1 _)))
  show wpAny _ _ (field (.ref it) 0 >>= _) _ _ s
  refine wpAny_bind (wpAny_field ho hd (x := .ref t) rfl ?_)
  show wpAny _ _ (if (Value.ref t == Value.none) = true then _ else _) _ _ s
  rw [if_neg (show ¬ ((Value.ref t == Value.none) = true) from Bool.false_ne_true)]
  show wpAny _ _ (field (.ref it) 1 >>= _) _ _ s
  refine wpAny_bind (wpAny_field ho hd (x := .int i 0) rfl ?_)
  show wpAny _ _ (seqItems? (.ref t) >>= _) _ _ s
  refine wpAny_bind (wpAny_seqItems hol hdl ?_)
  simp only [Int.toNat_natCast, hx]
  refine wpAny_bind (wpAny_setField ho hd (by simp) (wpAny_pure ⟨x, rfl, wpAny_pure (hQ _ ?_ (Heap.SameBut.update ..))⟩))
  exact ⟨_, Heap.get?_update_self _ ho (Obj.isFreed_of_fields (Obj.data_mapFields hd _)), (Obj.cls_mapFields ..).trans hc, by
    rw [Obj.data_mapFields hd]; simp [rawInt]⟩
theorem nextOf_tuple_end {it t : Addr} {i : Nat} {items} {Q : Value → Shared → Prop} (hh : A.handled = none)
    (hit : s.heap.IsTupleIter it t i) (ht : s.heap.IsTuple t items) (hx : items[i]? = none)
    (hE : ∀ h' e, Heap.ExtBut it s.heap h' → (∃ o, h'.get? e = some o ∧ o.cls = .type "StopIteration") → E (.ref e) { s with heap := h' }) :
    wpAny (model prog w) A (Builtin.SmallTypes.nextOf (.ref it)) Q E s := by
  obtain ⟨o, ho, hc, hd⟩ := id hit
  obtain ⟨ol, hol, _, nl, hdl⟩ := ht
  unfold Builtin.SmallTypes.nextOf
  refine wpAny_bind (wpAny_callSpecial?_slot (name := Str.ofString "__next__") hit.typeIs PySem.F.slot_tuple_iterator_next
    (wpAny_call_entry PySem.F.slot_tuple_iterator_next hit.typeIs PySem.F.entry_tuple_iterator_next ?_ (PySem.F.args_tuple_iterator_next_1 _)))
  show wpAny _ _ (field (.ref it) 0 >>= _) _ _ s
  refine wpAny_bind (wpAny_field ho hd (x := .ref t) rfl ?_)
  show wpAny _ _ (if (Value.ref t == Value.none) = true then _ else _) _ _ s
  rw [if_neg (show ¬ ((Value.ref t == Value.none) = true) from Bool.false_ne_true)]
  show wpAny _ _ (field (.ref it) 1 >>= _) _ _ s
  refine wpAny_bind (wpAny_field ho hd (x := .int i 0) rfl ?_)
  show wpAny _ _ (seqItems? (.ref t) >>= _) _ _ s
  refine wpAny_bind (wpAny_seqItems hol hdl ?_)
  simp only [Int.toNat_natCast, hx]
  refine wpAny_bind (wpAny_rule (wpAny_bind (wpAny_setField ho hd (by simp) ?_)))
  show wpAny _ _ (newExc (.type "StopIteration") [] >>= _) _ _ _
  refine wpAny_bind ?_
  simp only [newExc, newTuple]
  refine wpAny_bind (wpAny_newObj_type ?_ (by size_fits))
  refine wpAny_bind (m := firstArgMember _ _) (wpAny_of_eq (a := Value.none) (by first | rfl | (simp only [firstArgMember]; rfl)) ?_)
  refine wpAny_newObj_type ?_ (by size_fits)
  simp only [raiseNew]
  refine wpAny_bind (wpAny_handled ?_)
  first | rw [show A.in1.handled = none from hh] | rw [hh]
  refine wpAny_bind (wpAny_pure (wpAny_throw ?_))
  exact hE _ _ (((Heap.SameBut.update ..).extBut.push _).push _) ⟨_, Heap.get?_push_size _ rfl, rfl⟩
end
theorem draws_tuple {prog : Program} {w : World} {A : Around} (hh : A.handled = none) (it l : Addr) (hne : l ≠ it) (items : Array Value) :
    Draws prog w A it [it, l] items.size (fun i v => items[i]? = some v) (fun i h => h.IsTupleIter it l i ∧ h.IsTuple l items) where
  live := fun _ _ st => let ⟨o, ho, _⟩ := st.1; ⟨o, ho⟩
  frame := fun _ _ _ st hk => ⟨st.1.at fun o e => hk it (by simp) o e, let ⟨o, ho, r⟩ := st.2; ⟨o, hk l (by simp) o ho, r⟩⟩
  item := fun i s Q E hi st hQ => by
    refine nextOf_tuple_item st.1 st.2 (x := items[i]) (by simp [hi]) fun h' hit' hs' => ?_
    exact hQ _ h' s.toks (by simp [hi]) ⟨hit', st.2.extBut hs'.extBut hne⟩ hs'
  done := fun s Q E st hE => nextOf_tuple_end hh st.1 st.2 (by simp) hE
abbrev IsZ (h : Heap) (z TI TO : Addr) (f0 f1 : Value) : Prop :=
  h.get? z = some { cls := .type "zip", dict := none, data := .fields #[f0, f1, .bool false, .ref TI, .ref TO], slots := #[] }
def ZF (f0 f1 : Value) : Prop := (f0 = .none ∨ ∃ (T : Int) (t : Tok), f0 = .int T t) ∧ ∃ b, f1 = .bool b
structure ZAp (z TI TO i1 i2 : Addr) (fp1 fp2 : List Addr) : Prop where
  TIz : TI ≠ z
  TOz : TO ≠ z
  i1z : i1 ≠ z
  i2z : i2 ≠ z
  TITO : TI ≠ TO
  TIi1 : TI ≠ i1
  TIi2 : TI ≠ i2
  TOi1 : TO ≠ i1
  TOi2 : TO ≠ i2
  i12 : i1 ≠ i2
  z1 : z ∉ fp1
  z2 : z ∉ fp2
  T1 : TO ∉ fp1
  T2 : TO ∉ fp2
  x1 : i2 ∉ fp1
  x2 : i1 ∉ fp2
section
variable {prog : Program} {w : World} {A : Around} {E : Value → Shared → Prop} {s : Shared} {z TI TO i1 i2 : Addr} {fp1 fp2 : List Addr} {n1 n2 : Nat} {P1 P2 : Nat → Value → Prop} {St1 St2 : Nat → Heap → Prop}
theorem wpAny_alive {M : Model} {a : Addr} {Q : Option Obj → Shared → Prop} (h : Q (s.heap.get? a) s) : wpAny M A (loadIfAlive a) Q E s := fun Γ p _ => by
  unfold loadIfAlive
  rw [Sem.wp_loadIfAlive]
  exact wpAny_pure (M := M) (A := A) (E := E) (Q := Q) h Γ p (by assumption)
theorem zfree {f0 f1 : Value} {Q : Bool → Shared → Prop} (hf : ZF f0 f1) (hz : IsZ s.heap z TI TO f0 f1) (h1 : Q true s) (h2 : ∀ h', IsZ h' z TI TO f0 (.bool true) → Heap.SameBut z s.heap h' → Q false { s with heap := h' }) :
    wpAny (model prog w) A (Builtin.SmallTypes.ownedTupleIsFree (.ref z)) Q E s := by
  unfold Builtin.SmallTypes.ownedTupleIsFree
  refine wpAny_bind (wpAny_field hz rfl (x := f0) rfl ?_)
  obtain ⟨hf0, b, rfl⟩ := hf
  rcases hf0 with rfl | ⟨T, t, rfl⟩
  · exact wpAny_pure h1
  · dsimp only
    refine wpAny_bind (wpAny_alive ?_)
    cases s.heap.get? T.toNat with
    | none => exact wpAny_pure h1
    | some o =>
      show wpAny _ _ (field (.ref z) 1 >>= _) _ _ _
      refine wpAny_bind (wpAny_field hz rfl (x := .bool b) rfl ?_)
      cases b with
      | true => exact wpAny_pure (h2 s.heap hz ⟨rfl, fun _ _ => rfl⟩)
      | false =>
        show wpAny _ _ (setField (.ref z) 1 (.bool true) >>= _) _ _ _
        exact wpAny_bind (wpAny_setField_rec hz (by simp) fun h₁ hz₁ hs₁ => wpAny_pure (h2 h₁ hz₁ hs₁))
theorem zip_item (D1 : Draws prog w A i1 fp1 n1 P1 St1) (D2 : Draws prog w A i2 fp2 n2 P2 St2) (ap : ZAp z TI TO i1 i2 fp1 fp2) {f0 f1 a b : Value} {k : Nat} {Q : Value → Shared → Prop} (hf : ZF f0 f1) (hz : IsZ s.heap z TI TO f0 f1)
    (hTI : IsPair s.heap TI (.ref i1) (.ref i2)) (hTO : IsPair s.heap TO a b) (hk1 : k < n1) (hk2 : k < n2) (h1 : St1 k s.heap) (h2 : St2 k s.heap)
    (hQ : ∀ h' tk T x y f0 f1 a b, ZF f0 f1 → IsZ h' z TI TO f0 f1 → IsPair h' TO a b → St1 (k + 1) h' → St2 (k + 1) h' → P1 k x → P2 k y → s.heap.objs.size ≤ T → IsPair h' T x y →
      (∀ c o, c ≠ z → c ≠ TO → c ≠ i1 → c ≠ i2 → s.heap.get? c = some o → h'.get? c = some o) → Q (.ref T) { s with heap := h', toks := tk }) :
    wpAny (model prog w) A (Builtin.«zip.__next__» ⟨[.ref z], []⟩) (fun fin s' => ∃ v, fin = .done (.ret v) ∧ Q v s') E s := by
  show wpAny _ _ (field (.ref z) 2 >>= _) _ _ _
  refine wpAny_bind (wpAny_field hz rfl (x := .bool false) rfl ?_)
  show wpAny _ _ (field (.ref z) 3 >>= _) _ _ _
  refine wpAny_bind (wpAny_field hz rfl (x := .ref TI) rfl ?_)
  refine wpAny_bind (wpAny_seqItems hTI rfl ?_)
  show wpAny _ _ (Builtin.SmallTypes.ownedTupleIsFree (.ref z) >>= _) _ _ _
  refine wpAny_bind (zfree hf hz ?_ ?_)
  · simp only [if_true]
    refine wpAny_bind (wpAny_rule ?_)
    refine wpAny_bind (wpAny_field hz rfl (x := .ref TO) rfl ?_)
    refine wpAny_bind (wpAny_setField_rec hz (by simp) fun h₁ hz₁ hs₁ => ?_)
    replace hz₁ : IsZ h₁ z TI TO .ellipsis f1 := hz₁
    refine wpAny_bind ?_
    simp only [List.zipIdx_cons, List.zipIdx_nil, List.forIn_cons, List.forIn_nil]
    refine wpAny_bind (wpAny_bind (wpAny_onRaise ?_))
    show wpAny _ _ (Builtin.SmallTypes.nextOf (.ref i1) >>= _) _ _ _
    refine wpAny_bind (D1.item k _ _ _ hk1 (D1.frame k _ h₁ h1 fun c hc o e => hs₁.extBut _ _ (fun x => ap.z1 (x ▸ hc)) e) fun x h₂ tk2 px h1₂ hs₂ => wpAny_pure ?_)
    have hTO₂ : IsPair h₂ TO a b := hs₂.extBut _ _ ap.TOi1 (hs₁.extBut _ _ ap.TOz hTO)
    refine wpAny_bind (wpAny_seqItems hTO₂ rfl ?_)
    refine wpAny_bind (wpAny_updateSeq_pair hTO₂ fun h₃ hTO₃ hs₃ => ?_)
    replace hTO₃ : IsPair h₃ TO x b := hTO₃
    refine wpAny_bind (wpAny_letGo (wpAny_pure ?_))
    refine wpAny_bind (wpAny_bind (wpAny_onRaise ?_))
    show wpAny _ _ (Builtin.SmallTypes.nextOf (.ref i2) >>= _) _ _ _
    have k3 : ∀ c o, c ≠ z → c ≠ TO → c ≠ i1 → s.heap.get? c = some o → h₃.get? c = some o := fun c o c1 c2 c3 e => hs₃.extBut _ _ c2 (hs₂.extBut _ _ c3 (hs₁.extBut _ _ c1 e))
    refine wpAny_bind (D2.item k _ _ _ hk2 (D2.frame k _ h₃ h2 fun c hc o e => k3 c o (fun x => ap.z2 (x ▸ hc)) (fun x => ap.T2 (x ▸ hc)) (fun x => ap.x2 (x ▸ hc)) e) fun y h₄ tk4 py h2₄ hs₄ => wpAny_pure ?_)
    have hTO₄ : IsPair h₄ TO x b := hs₄.extBut _ _ ap.TOi2 hTO₃
    refine wpAny_bind (wpAny_seqItems hTO₄ rfl ?_)
    refine wpAny_bind (wpAny_updateSeq_pair hTO₄ fun h₅ hTO₅ hs₅ => ?_)
    replace hTO₅ : IsPair h₅ TO x y := hTO₅
    refine wpAny_bind (wpAny_letGo (wpAny_pure (wpAny_pure ?_)))
    refine wpAny_bind (wpAny_seqItems hTO₅ rfl ?_)
    refine wpAny_bind (wpAny_newTuple ?_)
    have hsz : h₅.objs.size = s.heap.objs.size := by rw [hs₅.1, hs₄.1, hs₃.1, hs₂.1, hs₁.1]
    have hz₅ : IsZ h₅ z TI TO .ellipsis f1 := hs₅.extBut _ _ ap.TOz.symm (hs₄.extBut _ _ ap.i2z.symm (hs₃.extBut _ _ ap.TOz.symm (hs₂.extBut _ _ ap.i1z.symm hz₁)))
    have hk₅ : ∀ c o, c ≠ z → c ≠ TO → c ≠ i1 → c ≠ i2 → s.heap.get? c = some o → h₅.get? c = some o := fun c o c1 c2 c3 c4 e => hs₅.extBut _ _ c2 (hs₄.extBut _ _ c4 (k3 c o c1 c2 c3 e))
    have hzlt : z < h₅.objs.size := Heap.lt_size hz₅
    show wpAny _ _ (Builtin.SmallTypes.ownedTupleHandOut (.ref z) (.ref h₅.objs.size) >>= _) _ _ _
    refine wpAny_bind ?_
    unfold Builtin.SmallTypes.ownedTupleHandOut
    have hz₆ : IsZ (h₅.push { cls := .type "tuple", data := .seq #[x, y] }) z TI TO .ellipsis f1 := Heap.get?_push_of_some _ hz₅
    refine wpAny_bind (wpAny_setField_rec hz₆ (by simp) fun h₇ hz₇ hs₇ => ?_)
    replace hz₇ : IsZ h₇ z TI TO (rawInt h₅.objs.size) f1 := hz₇
    refine wpAny_setField_rec hz₇ (by simp) fun h₈ hz₈ hs₈ => ?_
    replace hz₈ : IsZ h₈ z TI TO (rawInt h₅.objs.size) (.bool false) := hz₈
    have up : ∀ c o, c ≠ z → h₅.get? c = some o → h₈.get? c = some o := fun c o c1 e => hs₈.extBut _ _ c1 (hs₇.extBut _ _ c1 (Heap.get?_push_of_some _ e))
    have hT₈ : IsPair h₈ h₅.objs.size x y := hs₈.extBut _ _ (Nat.ne_of_gt hzlt) (hs₇.extBut _ _ (Nat.ne_of_gt hzlt) (Heap.get?_push_size _ rfl))
    refine wpAny_pure ⟨_, rfl, ?_⟩
    refine hQ h₈ _ h₅.objs.size x y _ _ x y ⟨.inr ⟨_, _, rfl⟩, false, rfl⟩ hz₈ (up _ _ ap.TOz hTO₅) (D1.frame _ h₂ h₈ h1₂ fun c hc o e => ?_) (D2.frame _ h₄ h₈ h2₄ fun c hc o e => ?_) px py (by rw [hsz]; exact Nat.le_refl _) hT₈ fun c o c1 c2 c3 c4 e => up c o c1 (hk₅ c o c1 c2 c3 c4 e)
    · exact up c o (fun x => ap.z1 (x ▸ hc)) (hs₅.extBut _ _ (fun x => ap.T1 (x ▸ hc)) (hs₄.extBut _ _ (fun x => ap.x1 (x ▸ hc)) (hs₃.extBut _ _ (fun x => ap.T1 (x ▸ hc)) e)))
    · exact up c o (fun x => ap.z2 (x ▸ hc)) (hs₅.extBut _ _ (fun x => ap.T2 (x ▸ hc)) e)
  · intro h₁ hz₁ hs₁
    simp only [Bool.false_eq_true, if_false, List.forIn_toArray, List.forIn_cons, List.forIn_nil]
    refine wpAny_bind ?_
    refine wpAny_bind ?_
    refine wpAny_bind ?_
    refine wpAny_holding ?_
    show wpAny _ _ (Builtin.SmallTypes.nextOf (.ref i1) >>= _) _ _ _
    refine wpAny_bind (D1.item k _ _ _ hk1 (D1.frame k _ h₁ h1 fun c hc o e => hs₁.extBut _ _ (fun x => ap.z1 (x ▸ hc)) e) fun x h₂ tk2 px h1₂ hs₂ => wpAny_pure ?_)
    refine wpAny_pure ?_
    refine wpAny_bind ?_
    refine wpAny_bind ?_
    refine wpAny_holding ?_
    show wpAny _ _ (Builtin.SmallTypes.nextOf (.ref i2) >>= _) _ _ _
    refine wpAny_bind (D2.item k _ _ _ hk2 (D2.frame k _ h₂ h2 fun c hc o e => hs₂.extBut _ _ (fun x => ap.x2 (x ▸ hc)) (hs₁.extBut _ _ (fun x => ap.z2 (x ▸ hc)) e)) fun y h₃ tk3 py h2₃ hs₃ => wpAny_pure ?_)
    refine wpAny_pure ?_
    refine wpAny_pure ?_
    show wpAny _ _ (newTuple [x, y] >>= _) _ _ _
    refine wpAny_bind (wpAny_newTuple (items := [x, y]) ?_)
    have hsz : h₃.objs.size = s.heap.objs.size := by rw [hs₃.1, hs₂.1, hs₁.1]
    have up : ∀ c o, h₃.get? c = some o → (h₃.push { cls := .type "tuple", data := .seq #[x, y] }).get? c = some o := fun c o e => Heap.get?_push_of_some _ e
    refine wpAny_pure ⟨_, rfl, ?_⟩
    refine hQ _ _ h₃.objs.size x y f0 (.bool true) a b ⟨hf.1, true, rfl⟩ (up _ _ (hs₃.extBut _ _ ap.i2z.symm (hs₂.extBut _ _ ap.i1z.symm hz₁))) (up _ _ (hs₃.extBut _ _ ap.TOi2 (hs₂.extBut _ _ ap.TOi1 (hs₁.extBut _ _ ap.TOz hTO))))
      (D1.frame _ h₂ _ h1₂ fun c hc o e => up _ _ (hs₃.extBut _ _ (fun x => ap.x1 (x ▸ hc)) e)) (D2.frame _ h₃ _ h2₃ fun c hc o e => up _ _ e) px py (by rw [hsz]; exact Nat.le_refl _) (Heap.get?_push_size _ rfl) fun c o c1 c2 c3 c4 e => up _ _ (hs₃.extBut _ _ c4 (hs₂.extBut _ _ c3 (hs₁.extBut _ _ c1 e)))
theorem zip_stop (D1 : Draws prog w A i1 fp1 n1 P1 St1) (D2 : Draws prog w A i2 fp2 n2 P2 St2) (ap : ZAp z TI TO i1 i2 fp1 fp2) {f0 f1 a b : Value} {k : Nat} {Q : Fin → Shared → Prop} (hf : ZF f0 f1) (hz : IsZ s.heap z TI TO f0 f1)
    (hTI : IsPair s.heap TI (.ref i1) (.ref i2)) (hTO : IsPair s.heap TO a b) (hk : k = n1 ∨ (k < n1 ∧ k = n2)) (h1 : St1 k s.heap) (h2 : St2 k s.heap)
    (hE : ∀ h' tk e, (∀ c o, c ≠ z → c ≠ TO → c ≠ i1 → c ≠ i2 → s.heap.get? c = some o → h'.get? c = some o) → (∃ o, h'.get? e = some o ∧ o.cls = .type "StopIteration") → E (.ref e) { s with heap := h', toks := tk }) :
    wpAny (model prog w) A (Builtin.«zip.__next__» ⟨[.ref z], []⟩) Q E s := by
  show wpAny _ _ (field (.ref z) 2 >>= _) _ _ _
  refine wpAny_bind (wpAny_field hz rfl (x := .bool false) rfl ?_)
  show wpAny _ _ (field (.ref z) 3 >>= _) _ _ _
  refine wpAny_bind (wpAny_field hz rfl (x := .ref TI) rfl ?_)
  refine wpAny_bind (wpAny_seqItems hTI rfl ?_)
  show wpAny _ _ (Builtin.SmallTypes.ownedTupleIsFree (.ref z) >>= _) _ _ _
  refine wpAny_bind (zfree hf hz ?_ ?_)
  · simp only [if_true]
    refine wpAny_bind (wpAny_rule ?_)
    refine wpAny_bind (wpAny_field hz rfl (x := .ref TO) rfl ?_)
    refine wpAny_bind (wpAny_setField_rec hz (by simp) fun h₁ hz₁ hs₁ => ?_)
    replace hz₁ : IsZ h₁ z TI TO .ellipsis f1 := hz₁
    refine wpAny_bind ?_
    simp only [List.zipIdx_cons, List.zipIdx_nil, List.forIn_cons, List.forIn_nil]
    refine wpAny_bind (wpAny_bind (wpAny_onRaise ?_))
    show wpAny _ _ (Builtin.SmallTypes.nextOf (.ref i1) >>= _) _ _ _
    have f1₁ := D1.frame k _ h₁ h1 fun c hc o e => hs₁.extBut _ _ (fun x => ap.z1 (x ▸ hc)) e
    rcases hk with rfl | ⟨hk, rfl⟩
    · refine wpAny_bind (D1.done _ _ _ f1₁ fun h₂ e hs₂ he => ?_)
      obtain ⟨oe, hoe, hce⟩ := he
      have hz₂ : IsZ h₂ z TI TO .ellipsis f1 := hs₂ _ _ ap.i1z.symm hz₁
      have hez : e ≠ z := fun x => by subst x; rw [hz₂] at hoe; cases hoe; simp at hce
      exact wpAny_setField_rec hz₂ (by simp) fun h₃ _ hs₃ => hE h₃ s.toks e (fun c o c1 _ c3 _ x => hs₃.extBut _ _ c1 (hs₂ _ _ c3 (hs₁.extBut _ _ c1 x))) ⟨oe, hs₃.extBut _ _ hez hoe, hce⟩
    · refine wpAny_bind (D1.item k _ _ _ hk f1₁ fun x h₂ tk2 px h1₂ hs₂ => wpAny_pure ?_)
      have hTO₂ : IsPair h₂ TO a b := hs₂.extBut _ _ ap.TOi1 (hs₁.extBut _ _ ap.TOz hTO)
      refine wpAny_bind (wpAny_seqItems hTO₂ rfl ?_)
      refine wpAny_bind (wpAny_updateSeq_pair hTO₂ fun h₃ hTO₃ hs₃ => ?_)
      refine wpAny_bind (wpAny_letGo (wpAny_pure ?_))
      refine wpAny_bind (wpAny_bind (wpAny_onRaise ?_))
      show wpAny _ _ (Builtin.SmallTypes.nextOf (.ref i2) >>= _) _ _ _
      have k3 : ∀ c o, c ≠ z → c ≠ TO → c ≠ i1 → s.heap.get? c = some o → h₃.get? c = some o := fun c o c1 c2 c3 e => hs₃.extBut _ _ c2 (hs₂.extBut _ _ c3 (hs₁.extBut _ _ c1 e))
      refine wpAny_bind (D2.done _ _ _ (D2.frame k _ h₃ h2 fun c hc o e => k3 c o (fun x => ap.z2 (x ▸ hc)) (fun x => ap.T2 (x ▸ hc)) (fun x => ap.x2 (x ▸ hc)) e) fun h₄ e hs₄ he => ?_)
      obtain ⟨oe, hoe, hce⟩ := he
      have hz₄ : IsZ h₄ z TI TO .ellipsis f1 := hs₄ _ _ ap.i2z.symm (hs₃.extBut _ _ ap.TOz.symm (hs₂.extBut _ _ ap.i1z.symm hz₁))
      have hez : e ≠ z := fun x => by subst x; rw [hz₄] at hoe; cases hoe; simp at hce
      exact wpAny_setField_rec hz₄ (by simp) fun h₅ _ hs₅ => hE h₅ tk2 e (fun c o c1 c2 c3 c4 x => hs₅.extBut _ _ c1 (hs₄ _ _ c4 (k3 c o c1 c2 c3 x))) ⟨oe, hs₅.extBut _ _ hez hoe, hce⟩
  · intro h₁ hz₁ hs₁
    simp only [Bool.false_eq_true, if_false, List.forIn_toArray, List.forIn_cons, List.forIn_nil]
    refine wpAny_bind ?_
    refine wpAny_bind ?_
    refine wpAny_bind ?_
    refine wpAny_holding ?_
    show wpAny _ _ (Builtin.SmallTypes.nextOf (.ref i1) >>= _) _ _ _
    have f1₁ := D1.frame k _ h₁ h1 fun c hc o e => hs₁.extBut _ _ (fun x => ap.z1 (x ▸ hc)) e
    rcases hk with rfl | ⟨hk, rfl⟩
    · exact wpAny_bind (D1.done _ _ _ f1₁ fun h₂ e hs₂ he => hE h₂ s.toks e (fun c o c1 _ c3 _ x => hs₂ _ _ c3 (hs₁.extBut _ _ c1 x)) he)
    · refine wpAny_bind (D1.item k _ _ _ hk f1₁ fun x h₂ tk2 px h1₂ hs₂ => wpAny_pure ?_)
      refine wpAny_pure ?_
      refine wpAny_bind ?_
      refine wpAny_bind ?_
      refine wpAny_holding ?_
      show wpAny _ _ (Builtin.SmallTypes.nextOf (.ref i2) >>= _) _ _ _
      exact wpAny_bind (D2.done _ _ _ (D2.frame k _ h₂ h2 fun c hc o e => hs₂.extBut _ _ (fun x => ap.x2 (x ▸ hc)) (hs₁.extBut _ _ (fun x => ap.z2 (x ▸ hc)) e)) fun h₃ e hs₃ he => hE h₃ tk2 e (fun c o c1 _ c3 c4 x => hs₃ _ _ c4 (hs₂.extBut _ _ c3 (hs₁.extBut _ _ c1 x))) he)
theorem pyNext_zip_item (D1 : Draws prog w A.in1 i1 fp1 n1 P1 St1) (D2 : Draws prog w A.in1 i2 fp2 n2 P2 St2) (ap : ZAp z TI TO i1 i2 fp1 fp2) {f0 f1 a b : Value} {k : Nat} {Q : Option Value → Shared → Prop} (hf : ZF f0 f1) (hz : IsZ s.heap z TI TO f0 f1)
    (hTI : IsPair s.heap TI (.ref i1) (.ref i2)) (hTO : IsPair s.heap TO a b) (hk1 : k < n1) (hk2 : k < n2) (h1 : St1 k s.heap) (h2 : St2 k s.heap)
    (hQ : ∀ h' tk T x y f0 f1 a b, ZF f0 f1 → IsZ h' z TI TO f0 f1 → IsPair h' TO a b → St1 (k + 1) h' → St2 (k + 1) h' → P1 k x → P2 k y → s.heap.objs.size ≤ T → IsPair h' T x y →
      (∀ c o, c ≠ z → c ≠ TO → c ≠ i1 → c ≠ i2 → s.heap.get? c = some o → h'.get? c = some o) → Q (some (.ref T)) { s with heap := h', toks := tk }) : wpAny (model prog w) A (pyNext (.ref z)) Q E s := by
  have hT : s.TypeIs (.ref z) "zip" := ⟨_, hz, rfl⟩
  unfold pyNext
  exact wpAny_bind (wpAny_attempt (wpAny_callSpecial?_slot (name := Str.ofString "__next__") hT PySem.F.slot_zip_next
    (wpAny_call_entry PySem.F.slot_zip_next hT PySem.F.entry_zip_next
      (zip_item D1 D2 ap hf hz hTI hTO hk1 hk2 h1 h2 fun h' tk T x y f0 f1 a b c1 c2 c3 c4 c5 c6 c7 c8 c9 c10 => wpAny_pure (hQ h' tk T x y f0 f1 a b c1 c2 c3 c4 c5 c6 c7 c8 c9 c10)) (PySem.F.args_zip_next_1 _))))
theorem pyNext_zip_stop (D1 : Draws prog w A.in1 i1 fp1 n1 P1 St1) (D2 : Draws prog w A.in1 i2 fp2 n2 P2 St2) (ap : ZAp z TI TO i1 i2 fp1 fp2) {f0 f1 a b : Value} {k : Nat} {Q : Option Value → Shared → Prop} (hf : ZF f0 f1) (hz : IsZ s.heap z TI TO f0 f1)
    (hTI : IsPair s.heap TI (.ref i1) (.ref i2)) (hTO : IsPair s.heap TO a b) (hk : k = n1 ∨ (k < n1 ∧ k = n2)) (h1 : St1 k s.heap) (h2 : St2 k s.heap)
    (hQ : ∀ h' tk, (∀ c o, c ≠ z → c ≠ TO → c ≠ i1 → c ≠ i2 → s.heap.get? c = some o → h'.get? c = some o) → Q none { s with heap := h', toks := tk }) : wpAny (model prog w) A (pyNext (.ref z)) Q E s := by
  have hT : s.TypeIs (.ref z) "zip" := ⟨_, hz, rfl⟩
  unfold pyNext
  refine wpAny_bind (wpAny_attempt (wpAny_callSpecial?_slot (name := Str.ofString "__next__") hT PySem.F.slot_zip_next
    (wpAny_call_entry PySem.F.slot_zip_next hT PySem.F.entry_zip_next (zip_stop D1 D2 ap hf hz hTI hTO hk h1 h2 fun h' tk e hkk he => ?_) (PySem.F.args_zip_next_1 _))))
  obtain ⟨o, ho, hc⟩ := he
  refine wpAny_bind (wpAny_isInstance (T := "StopIteration") (b := true) ⟨o, ho, hc⟩ isSubtype_stop ?_)
  exact wpAny_pure (hQ _ _ hkk)
def ZI (z TI TO i1 i2 : Addr) (St1 St2 : Nat → Heap → Prop) (k : Nat) (h : Heap) : Prop := ∃ f0 f1 a b, ZF f0 f1 ∧ IsZ h z TI TO f0 f1 ∧ IsPair h TI (.ref i1) (.ref i2) ∧ IsPair h TO a b ∧ St1 k h ∧ St2 k h
theorem ZI.frame (ap : ZAp z TI TO i1 i2 fp1 fp2) (D1 : Draws prog w A i1 fp1 n1 P1 St1) (D2 : Draws prog w A i2 fp2 n2 P2 St2) {k : Nat} {h h' : Heap} (x : ZI z TI TO i1 i2 St1 St2 k h)
    (hk : ∀ b, (b = z ∨ b = TI ∨ b = TO ∨ b ∈ fp1 ∨ b ∈ fp2) → ∀ o, h.get? b = some o → h'.get? b = some o) : ZI z TI TO i1 i2 St1 St2 k h' := by
  obtain ⟨f0, f1, a, b, c1, c2, c3, c4, c5, c6⟩ := x
  exact ⟨f0, f1, a, b, c1, hk _ (.inl rfl) _ c2, hk _ (.inr (.inl rfl)) _ c3, hk _ (.inr (.inr (.inl rfl))) _ c4, D1.frame _ _ _ c5 fun b hb => hk b (.inr (.inr (.inr (.inl hb)))), D2.frame _ _ _ c6 fun b hb => hk b (.inr (.inr (.inr (.inr hb))))⟩
def ZP (B : Nat) (bad : List Addr) (P1 P2 : Nat → Value → Prop) (acc : Array Value) (k : Nat) (h : Heap) : Prop := acc.size = k ∧ (∀ j v, acc[j]? = some v → ∃ T x y, v = .ref T ∧ B ≤ T ∧ T ∉ bad ∧ IsPair h T x y ∧ P1 j x ∧ P2 j y) ∧ ∀ (i j : Nat) (v : Value), acc[i]? = some v → acc[j]? = some v → i = j
theorem ZP.frame {B : Nat} {bad : List Addr} {acc : Array Value} {k : Nat} {h h' : Heap} (x : ZP B bad P1 P2 acc k h) (hk : ∀ b o, b ∉ bad → h.get? b = some o → h'.get? b = some o) : ZP B bad P1 P2 acc k h' := by
  refine ⟨x.1, fun j v hj => ?_, x.2.2⟩
  obtain ⟨T, a, b, e, c1, c2, c3, c4, c5⟩ := x.2.1 j v hj
  exact ⟨T, a, b, e, c1, c2, hk _ _ c2 c3, c4, c5⟩
theorem ZP.push {B : Nat} {bad : List Addr} {acc : Array Value} {k : Nat} {h : Heap} {T : Addr} {a b : Value} (x : ZP B bad P1 P2 acc k h) (c1 : B ≤ T) (c2 : T ∉ bad) (c3 : IsPair h T a b) (c4 : P1 k a) (c5 : P2 k b) (c6 : ∀ j : Nat, acc[j]? ≠ some (Value.ref T)) : ZP B bad P1 P2 (acc.push (.ref T)) (k + 1) h := by
  refine ⟨by rw [Array.size_push, x.1], fun j v hj => ?_, fun i j v hi hj => ?_⟩
  · rw [Array.getElem?_push] at hj
    split at hj
    · rename_i e
      rw [x.1] at e
      cases hj
      exact ⟨T, a, b, rfl, c1, c2, c3, by rw [e]; exact c4, by rw [e]; exact c5⟩
    · exact x.2.1 j v hj
  · rw [Array.getElem?_push] at hi hj
    split at hi
    · split at hj
      · omega
      · cases hi; exact absurd hj (c6 j)
    · split at hj
      · cases hj; exact absurd hi (c6 i)
      · exact x.2.2 i j v hi hj
theorem extend_zip (ap : ZAp z TI TO i1 i2 fp1 fp2) (D1 : Draws prog w A.in1.in1 i1 fp1 n1 P1 St1) (D2 : Draws prog w A.in1.in1 i2 fp2 n2 P2 St2) {B S : Nat} {res : Value} (hn : n1 ≤ sizeLine) {R : Result → Shared → Prop}
    (hSz : S ≠ z ∧ S ≠ TI ∧ S ≠ TO ∧ S ∉ fp1 ∧ S ∉ fp2) (hi1 : i1 ∈ fp1) (hi2 : i2 ∈ fp2) :
    ∀ (m k : Nat) (s : Shared) (acc : Array Value) (c : Nat), min n1 n2 - k = m → k ≤ n1 → k ≤ n2 → B ≤ s.heap.objs.size → ZI z TI TO i1 i2 St1 St2 k s.heap → s.heap.get? S = some { cls := .type "list", dict := none, data := .seq acc c, slots := #[] } →
    ZP B [z, TO, i1, i2, S] P1 P2 acc k s.heap →
    (∀ h' tk acc' c', (∀ b o, b ∉ [z, TO, i1, i2, S] → s.heap.get? b = some o → h'.get? b = some o) → h'.get? S = some { cls := .type "list", dict := none, data := .seq acc' c', slots := #[] } → ZP B [z, TO, i1, i2, S] P1 P2 acc' (min n1 n2) h' →
      R (.ok (.ret res)) { s with heap := h', toks := tk }) →
    codeAny (model prog w) A (.builtin "list.extend.loop" ⟨[.ref S, .ref z, res], []⟩) R s := by
  have hSi1 : S ≠ i1 := fun e => hSz.2.2.2.1 (e ▸ hi1)
  have hSi2 : S ≠ i2 := fun e => hSz.2.2.2.2 (e ▸ hi2)
  intro m
  induction m with
  | zero =>
    intro k s acc c hm hk1 hk2 hB hzi hS hacc hR
    refine codeAny_builtin PySem.F.entry_extend_loop ?_
    rw [Around.under_plainId PySem.F.plain_extend_loop _]
    show wpAny _ A.in1 (pyNext (.ref z) >>= _) _ _ s
    obtain ⟨f0, f1, a, b, c1, c2, c3, c4, c5, c6⟩ := hzi
    have hmin : min n1 n2 = k := by omega
    refine wpAny_bind (pyNext_zip_stop D1 D2 ap c1 c2 c3 c4 (k := k) (by omega) c5 c6 fun h' tk hk => wpAny_pure ?_)
    refine hR h' tk acc c (fun b o hb e => hk b o (fun x => hb (by simp [x])) (fun x => hb (by simp [x])) (fun x => hb (by simp [x])) (fun x => hb (by simp [x])) e) (hk _ _ hSz.1 hSz.2.2.1 hSi1 hSi2 hS) ?_
    rw [hmin]
    exact hacc.frame fun b o hb e => hk b o (fun x => hb (by simp [x])) (fun x => hb (by simp [x])) (fun x => hb (by simp [x])) (fun x => hb (by simp [x])) e
  | succ m ih =>
    intro k s acc c hm hk1 hk2 hB hzi hS hacc hR
    refine codeAny_builtin PySem.F.entry_extend_loop ?_
    rw [Around.under_plainId PySem.F.plain_extend_loop _]
    show wpAny _ A.in1 (pyNext (.ref z) >>= _) _ _ s
    obtain ⟨f0, f1, a, b, c1, c2, c3, c4, c5, c6⟩ := hzi
    refine wpAny_bind (pyNext_zip_item D1 D2 ap c1 c2 c3 c4 (k := k) (by omega) (by omega) c5 c6 fun h' tk T x y g0 g1 a' b' d1 d2 d3 d4 d5 px py hT hp hk => ?_)
    have kk : ∀ b o, b ∉ [z, TO, i1, i2, S] → s.heap.get? b = some o → h'.get? b = some o := fun b o hb e => hk b o (fun x => hb (by simp [x])) (fun x => hb (by simp [x])) (fun x => hb (by simp [x])) (fun x => hb (by simp [x])) e
    have hS' := hk _ _ hSz.1 hSz.2.2.1 hSi1 hSi2 hS
    have hTI' := hk _ _ ap.TIz ap.TITO ap.TIi1 ap.TIi2 c3
    have lt : ∀ {b o}, s.heap.get? b = some o → T ≠ b := fun e => Nat.ne_of_gt (Nat.lt_of_lt_of_le (Heap.lt_size e) hT)
    have hTbad : T ∉ [z, TO, i1, i2, S] := by
      obtain ⟨o1, e1⟩ := D1.live _ _ c5
      obtain ⟨o2, e2⟩ := D2.live _ _ c6
      simp only [List.mem_cons, List.not_mem_nil, or_false, not_or]
      exact ⟨lt c2, lt c4, lt e1, lt e2, lt hS⟩
    show wpAny _ A.in1 (updateSeq S (·.push (.ref T)) >>= _) _ _ _
    refine wpAny_bind ?_
    refine wpAny_updateSeq hS' rfl (wpAny_pure ⟨plainId_quiet PySem.F.plain_extend_loop _, ih (k + 1) _ (acc.push (.ref T)) _ (by omega) (by omega) (by omega) ?_ ?_ (Heap.get?_update_self _ hS' rfl) ?_ fun h'' tk' acc' c' hk'' hS'' hacc' => ?_⟩)
      (by rw [hacc.1]; omega) (by show (acc.push (Value.ref T)).size ≤ sizeLine + 1; rw [Array.size_push, hacc.1]; omega)
    · show B ≤ (h'.update S _).objs.size
      rw [Heap.size_update]
      exact Nat.le_trans hB (Nat.le_trans hT (Nat.le_of_lt (Heap.lt_size hp)))
    · refine ZI.frame ap D1 D2 ⟨g0, g1, a', b', d1, d2, hTI', d3, d4, d5⟩ fun b hb o e => (Heap.get?_update_other _ _ (fun h : S = b => ?_)).trans e
      subst h
      rcases hb with h | h | h | h | h
      · exact hSz.1 h
      · exact hSz.2.1 h
      · exact hSz.2.2.1 h
      · exact hSz.2.2.2.1 h
      · exact hSz.2.2.2.2 h
    · refine ZP.frame ((hacc.frame kk).push (Nat.le_trans hB hT) hTbad hp px py fun j hj => by
        obtain ⟨T', _, _, e, _, _, c3', _⟩ := hacc.2.1 j _ hj
        cases e
        exact lt c3' rfl) fun b o hb e => (Heap.get?_update_other _ _ (fun h : S = b => hb (by simp [h]))).trans e
    · refine hR h'' tk' acc' c' (fun b o hb e => hk'' b o hb ((Heap.get?_update_other _ _ (fun h : S = b => hb (by simp [h]))).trans (kk b o hb e))) hS'' hacc'
theorem zip_no_len : typeLookup (.type "zip") "__len__" = pure none := by rw [typeLookup_type, builtinLookup_eq_fast]; kernel_rfl
theorem zip_no_hint : typeLookup (.type "zip") "__length_hint__" = pure none := by rw [typeLookup_type, builtinLookup_eq_fast]; kernel_rfl
theorem extendWith_zip (ap : ZAp z TI TO i1 i2 fp1 fp2) (D1 : Draws prog w A.in1.in1 i1 fp1 n1 P1 St1) (D2 : Draws prog w A.in1.in1 i2 fp2 n2 P2 St2) {B S c₀ : Nat} {res : Value} (hn : n1 ≤ sizeLine) {R : Result → Shared → Prop}
    (hSz : S ≠ z ∧ S ≠ TI ∧ S ≠ TO ∧ S ∉ fp1 ∧ S ∉ fp2) (hi1 : i1 ∈ fp1) (hi2 : i2 ∈ fp2) (hB : B ≤ s.heap.objs.size) (hzi : ZI z TI TO i1 i2 St1 St2 0 s.heap) (hS : s.heap.get? S = some { cls := .type "list", data := .seq #[] c₀ })
    (hR : ∀ h' tk acc' c', (∀ b o, b ∉ [z, TO, i1, i2, S] → s.heap.get? b = some o → h'.get? b = some o) → h'.get? S = some { cls := .type "list", dict := none, data := .seq acc' c', slots := #[] } → ZP B [z, TO, i1, i2, S] P1 P2 acc' (min n1 n2) h' →
      R (.ok (.ret res)) { s with heap := h', toks := tk }) :
    wpAny (model prog w) A.in1 (Builtin.List.listExtendWith (.ref S) (.ref z) res)
      (fun fin s' => match fin with | .done f => R (.ok f) s' | .again c' => c'.quiet = true ∧ codeAny (model prog w) A c' R s') (fun e s' => R (.error e) s') s := by
  obtain ⟨f0, f1, a, b, c1, c2, c3, c4, c5, c6⟩ := id hzi
  have hT : s.TypeIs (.ref z) "zip" := ⟨_, c2, rfl⟩
  unfold Builtin.List.listExtendWith
  refine wpAny_bind (wpAny_typeOf hT ?_)
  have h1 : Builtin.List.listSameRef (.ref S) (.ref z) = false := by simp [Builtin.List.listSameRef, hSz.1]
  have h2 : (Value.type "zip" == Value.type "list") = false := by decide
  have h3 : (Value.type "zip" == Value.type "tuple") = false := by decide
  simp only [h1, h2, h3, Bool.or_false, Bool.false_eq_true, if_false]
  refine wpAny_bind (wpAny_pyIter_slot hT PySem.F.slot_zip_iter (wpAny_call_entry PySem.F.slot_zip_iter hT PySem.F.entry_zip_iter ?_ (PySem.F.args_zip_iter_1 _)))
  show wpAny _ _ (ret (.ref z)) _ _ s
  refine wpAny_pure ⟨_, rfl, "zip", _, hT, PySem.F.slot_zip_next.lookup, ?_⟩
  refine wpAny_bind (wpAny_holding ?_)
  unfold Builtin.List.listLengthHint
  refine wpAny_bind (wpAny_specialOf hT zip_no_len ?_)
  show wpAny _ A.in1 (specialOf (Value.ref z) (Str.ofString "__length_hint__") >>= _) _ _ _
  refine wpAny_bind (wpAny_specialOf hT zip_no_hint ?_)
  refine wpAny_pure ?_
  show wpAny _ A.in1 (rule "list.extend.makes-room" >>= fun _ => Builtin.List.listTouch (.ref S) >>= fun _ =>
    again (.builtin "list.extend.loop" ⟨[.ref S, .ref z, res], []⟩)) _ _ _
  refine wpAny_bind (wpAny_rule ?_)
  refine wpAny_bind ?_
  show wpAny _ A.in1 (updateSeq S (·.push .none) >>= fun _ => updateSeq S (·.pop)) _ _ _
  refine wpAny_bind (wpAny_updateSeq hS rfl ?_)
  have hS₂ := Heap.get?_update_self (Obj.mapSeq (·.push Value.none)) hS rfl
  refine wpAny_updateSeq (hz := by seq_fits) hS₂ rfl ?_
  have hS₃ := Heap.get?_update_self (Obj.mapSeq (·.pop)) hS₂ rfl
  have oth : ∀ b o, b ≠ S → s.heap.get? b = some o → ((s.heap.update S (Obj.mapSeq (·.push Value.none))).update S (Obj.mapSeq (·.pop))).get? b = some o :=
    fun b o hb e => (Heap.get?_update_other _ _ (Ne.symm hb)).trans ((Heap.get?_update_other _ _ (Ne.symm hb)).trans e)
  refine wpAny_pure ⟨plainId_quiet PySem.F.plain_extend_loop _, extend_zip ap D1 D2 (B := B) hn hSz hi1 hi2 _ 0 _ _ _ rfl (Nat.zero_le _) (Nat.zero_le _) ?_ (ZI.frame ap D1 D2 hzi fun b hb o e => oth b o (fun h => ?_) e) hS₃ ⟨rfl, (fun j v hj => by simp at hj), (fun i j v hi _ => by simp at hi)⟩ fun h' tk acc' c' hk hS' hacc => ?_⟩
  · show B ≤ ((s.heap.update S _).update S _).objs.size
    rw [Heap.size_update, Heap.size_update]
    exact hB
  · subst h
    rcases hb with h | h | h | h | h
    · exact hSz.1 h
    · exact hSz.2.1 h
    · exact hSz.2.2.1 h
    · exact hSz.2.2.2.1 h
    · exact hSz.2.2.2.2 h
  · exact hR h' tk acc' c' (fun b o hb e => hk b o hb (oth b o (fun h => hb (by simp [h])) e)) hS' hacc
theorem call_list_zip (ap : ZAp z TI TO i1 i2 fp1 fp2) (D1 : Draws prog w A.in1.in1.in1 i1 fp1 n1 P1 St1) (D2 : Draws prog w A.in1.in1.in1 i2 fp2 n2 P2 St2) {B : Nat} (hn : n1 ≤ sizeLine) {Q : Value → Shared → Prop}
    (hlt : z < s.heap.objs.size ∧ TI < s.heap.objs.size ∧ TO < s.heap.objs.size ∧ (∀ b ∈ fp1, b < s.heap.objs.size) ∧ ∀ b ∈ fp2, b < s.heap.objs.size) (hi1 : i1 ∈ fp1) (hi2 : i2 ∈ fp2) (hB : B ≤ s.heap.objs.size) (hzi : ZI z TI TO i1 i2 St1 St2 0 s.heap)
    (hQ : ∀ h' tk acc' c', (∀ b o, b ∉ [z, TO, i1, i2] → s.heap.get? b = some o → h'.get? b = some o) → h'.get? s.heap.objs.size = some { cls := .type "list", dict := none, data := .seq acc' c', slots := #[] } → ZP B [z, TO, i1, i2, s.heap.objs.size] P1 P2 acc' (min n1 n2) h' →
      Q (.ref s.heap.objs.size) { s with heap := h', toks := tk }) :
    wpAny (model prog w) A (call (.type "list") [.ref z]) Q E s := by
  refine callType_codes (Q₁ := fun obj s₁ => obj = .ref s.heap.objs.size ∧ s₁ = { s with heap := s.heap.push { cls := .type "list", data := .seq #[] } }) PySem.F.called_list (PySem.F.typeCall_list_1 _) PySem.F.entry_list_init
    (code_list_new _ ⟨rfl, rfl⟩) fun obj s₁ h₁ => ?_
  obtain ⟨rfl, rfl⟩ := h₁
  have hS : (s.heap.push { cls := .type "list", data := .seq #[] }).get? s.heap.objs.size = some { cls := .type "list", data := .seq #[] } := Heap.get?_push_size _ rfl
  refine ⟨⟨_, hS, rfl⟩, PySem.F.args_list_init_2 _ _, ?_⟩
  show wpAny _ A.in1.in1 (do let old ← Builtin.List.listItems (.ref s.heap.objs.size); Builtin.List.listUpdate (.ref s.heap.objs.size) (fun _ => #[]); letGo old.toList.reverse; Builtin.List.listExtendWith (.ref s.heap.objs.size) (.ref z) .none) _ _ _
  refine wpAny_bind ?_
  unfold Builtin.List.listItems
  refine wpAny_bind (wpAny_seqItems hS rfl (wpAny_pure ?_))
  show wpAny _ _ (updateSeq s.heap.objs.size (fun _ => #[]) >>= fun _ => letGo (#[] : Array Value).toList.reverse >>= fun _ => Builtin.List.listExtendWith (.ref s.heap.objs.size) (.ref z) .none) _ _ _
  refine wpAny_bind (wpAny_updateSeq hS rfl ?_)
  have hS₂ := Heap.get?_update_self (Obj.mapSeq (fun _ => (#[] : Array Value))) hS rfl
  have oth : ∀ b o, s.heap.get? b = some o → ((s.heap.push { cls := .type "list", data := .seq #[] }).update s.heap.objs.size (Obj.mapSeq (fun _ => (#[] : Array Value)))).get? b = some o :=
    fun b o e => (Heap.get?_update_other _ _ (Nat.ne_of_gt (Heap.lt_size e))).trans (Heap.get?_push_of_some _ e)
  refine wpAny_bind (wpAny_letGo ?_)
  refine extendWith_zip ap D1 D2 (B := B) hn ⟨Nat.ne_of_gt hlt.1, Nat.ne_of_gt hlt.2.1, Nat.ne_of_gt hlt.2.2.1, fun h => Nat.lt_irrefl _ (hlt.2.2.2.1 _ h), fun h => Nat.lt_irrefl _ (hlt.2.2.2.2 _ h)⟩ hi1 hi2 ?_ (ZI.frame ap D1 D2 hzi fun b _ o e => oth b o e) hS₂ fun h' tk acc' c' hk hS' hacc => ?_
  · show B ≤ ((s.heap.push _).update _ _).objs.size
    rw [Heap.size_update, Heap.size_push]
    omega
  · refine ⟨rfl, hQ h' tk acc' c' (fun b o hb e => hk b o ?_ (oth b o e)) hS' hacc⟩
    intro hm
    simp only [List.mem_cons, List.not_mem_nil, or_false] at hm hb
    rcases hm with h | h | h | h | h
    · exact hb (.inl h)
    · exact hb (.inr (.inl h))
    · exact hb (.inr (.inr (.inl h)))
    · exact hb (.inr (.inr (.inr h)))
    · exact absurd (Heap.lt_size e) (by rw [h]; exact Nat.lt_irrefl _)
abbrev zT1 (h : Heap) (l1 : Addr) : Heap := h.push { cls := .type "tuple_iterator", data := .fields #[.ref l1, .int 0 0] }
abbrev zT2 (h : Heap) (l1 l2 : Addr) : Heap := (zT1 h l1).push { cls := .type "tuple_iterator", data := .fields #[.ref l2, .int 0 0] }
abbrev zT3 (h : Heap) (l1 l2 : Addr) : Heap := (zT2 h l1 l2).push { cls := .type "tuple", data := .seq #[.ref h.objs.size, .ref (zT1 h l1).objs.size] }
abbrev zT4 (h : Heap) (l1 l2 : Addr) : Heap := (zT3 h l1 l2).push { cls := .type "tuple", data := .seq #[.none, .none] }
abbrev zT5 (h : Heap) (l1 l2 : Addr) : Heap := (zT4 h l1 l2).push { cls := .type "zip", data := .fields #[.none, .bool false, .bool false, .ref (zT2 h l1 l2).objs.size, .ref (zT3 h l1 l2).objs.size] }
theorem meets_zip_newT (l1 l2 : Addr) (xs ys : Array Value) :
    Meets (Builtin.«zip.__new__» ⟨[.type "zip", .ref l1, .ref l2], []⟩) (fun _ R s => s.heap.IsTuple l1 xs ∧ s.heap.IsTuple l2 ys ∧
      R (.ok (.ret (.ref (zT4 s.heap l1 l2).objs.size))) { s with heap := zT5 s.heap l1 l2 }) :=
  .of_wp fun prog w A R s h => by
    obtain ⟨hp, g, d, tk, os⟩ := s; obtain ⟨hl1, hl2, h⟩ := h
    have hsub := sub_zip
    have hL1 : Heap.IsTuple (Shared.heap ⟨hp, g, d, tk, os⟩) l1 xs := hl1
    have hL2 : Heap.IsTuple (Shared.heap ⟨hp.push { cls := .type "tuple_iterator", data := .fields #[.ref l1, .int 0 0] }, g, d, tk, os⟩) l2 ys := Heap.IsTuple.push hl2 _
    wp_walk using wpAny_pyIter_tuple hL1, wpAny_pyIter_tuple hL2
    exact ⟨_, rfl, h⟩
theorem call_zip_T {l1 l2 : Addr} {xs ys : Array Value} {Q : Value → Shared → Prop} (hl1 : s.heap.IsTuple l1 xs) (hl2 : s.heap.IsTuple l2 ys)
    (h : ∀ h', IsZ h' (s.heap.objs.size + 4) (s.heap.objs.size + 2) (s.heap.objs.size + 3) .none (.bool false) → IsPair h' (s.heap.objs.size + 2) (.ref s.heap.objs.size) (.ref (s.heap.objs.size + 1)) →
      IsPair h' (s.heap.objs.size + 3) .none .none → h'.IsTupleIter s.heap.objs.size l1 0 → h'.IsTupleIter (s.heap.objs.size + 1) l2 0 → h'.objs.size = s.heap.objs.size + 5 →
      (∀ c o, s.heap.get? c = some o → h'.get? c = some o) → Q (.ref (s.heap.objs.size + 4)) { s with heap := h' }) :
    wpAny (model prog w) A (call (.type "zip") [.ref l1, .ref l2]) Q E s := by
  refine callType_new PySem.F.called_zip (by decide) (PySem.F.typeCall_zip_2 _ _) (PySem.F.newCall_zip_2 _ _) (fun obj => PySem.F.args_object_init_3 obj _ _) PySem.F.entry_zip_new
    (meets_zip_newT l1 l2 xs ys) ⟨hl1, hl2, ?_⟩
  have z1 : (zT1 s.heap l1).objs.size = s.heap.objs.size + 1 := Heap.size_push ..
  have z2 : (zT2 s.heap l1 l2).objs.size = s.heap.objs.size + 2 := by rw [Heap.size_push, z1]
  have z3 : (zT3 s.heap l1 l2).objs.size = s.heap.objs.size + 3 := by rw [Heap.size_push, z2]
  have z4 : (zT4 s.heap l1 l2).objs.size = s.heap.objs.size + 4 := by rw [Heap.size_push, z3]
  have z5 : (zT5 s.heap l1 l2).objs.size = s.heap.objs.size + 5 := by rw [Heap.size_push, z4]
  have g5 : (zT5 s.heap l1 l2).get? (zT4 s.heap l1 l2).objs.size = some _ := Heap.get?_push_size _ rfl
  have g4 : (zT5 s.heap l1 l2).get? (zT3 s.heap l1 l2).objs.size = some _ := Heap.get?_push_of_some _ (Heap.get?_push_size _ rfl)
  have g3 : (zT5 s.heap l1 l2).get? (zT2 s.heap l1 l2).objs.size = some _ := Heap.get?_push_of_some _ (Heap.get?_push_of_some _ (Heap.get?_push_size _ rfl))
  have g2 : (zT5 s.heap l1 l2).get? (zT1 s.heap l1).objs.size = some _ := Heap.get?_push_of_some _ (Heap.get?_push_of_some _ (Heap.get?_push_of_some _ (Heap.get?_push_size _ rfl)))
  have g1 : (zT5 s.heap l1 l2).get? s.heap.objs.size = some _ := Heap.get?_push_of_some _ (Heap.get?_push_of_some _ (Heap.get?_push_of_some _ (Heap.get?_push_of_some _ (Heap.get?_push_size _ rfl))))
  show _ ∧ _
  rw [z2, z3, z4] at g5
  rw [z1, z2] at g3
  rw [z3] at g4
  rw [z1] at g2
  rw [z4]
  exact ⟨⟨_, g5, rfl⟩, h _ g5 g3 g4 ⟨_, g1, rfl, rfl⟩ ⟨_, g2, rfl, rfl⟩ z5 fun c o x =>
    Heap.get?_push_of_some _ (Heap.get?_push_of_some _ (Heap.get?_push_of_some _ (Heap.get?_push_of_some _ (Heap.get?_push_of_some _ x))))⟩
theorem Inv.lays {X : Cx} {pins : List (Addr × Obj)} {σ : L2.St} {H H' : Hp} {s : Shared} {h' : Heap} {t' : Nat} (I : Inv X pins σ H s) (k : ∀ b u, s.heap.get? b = some u → h'.get? b = some u) (hs : Same H H')
    (hnew : ∀ b o, H' b = some o → H b = some o ∨ (s.heap.objs.size ≤ b ∧ ObjOk X.prog X.w H' h' b o)) : Inv X pins σ H' { s with heap := h', toks := t' } := by
  refine I.un ⟨fun b u q _ _ _ => k b u q, fun b u q _ _ _ => ⟨u.slots, k b u q⟩, fun b u q n _ => ?_, fun b u q _ => ⟨u, k b u q⟩, fun b xs q => hs _ _ q, fun b u xs q => hs _ _ q, fun b ps q => ⟨#[], by rw [hs _ _ q]; simp⟩⟩ fun b o e => ?_
  · cases e : H' b with
    | none => rfl
    | some o =>
      rcases hnew b o e with z | ⟨z, _⟩
      · rw [n] at z; cases z
      · exact absurd (Heap.lt_size q) (Nat.not_lt.mpr z)
  · rcases hnew b o e with z | ⟨_, z⟩
    · exact (I.hok b o z).stay (fun c v _ q => k c v q) (fun c q => hs _ _ q) fun c xs q => hs _ _ q
    · exact z
def PairsV (H : Hp) (us ws ts : List V) : Prop := ts.length = min us.length ws.length ∧ ∀ (j : Nat) t, ts[j]? = some t → ∃ T u w, t = .ref T ∧ H T = some (.tup [u, w]) ∧ us[j]? = some u ∧ ws[j]? = some w
def refV : Value → V
  | .ref a => .ref a
  | _ => .non
theorem refs_vals : ∀ {l : List Value}, (∀ v ∈ l, ∃ T, v = Value.ref T) → Vals (l.map refV) l
  | [], _ => .nil
  | v :: l, h => by
    obtain ⟨T, rfl⟩ := h v List.mem_cons_self
    exact .cons rfl (refs_vals fun v hv => h v (List.mem_cons_of_mem _ hv))
theorem tup2 {a b c d : V} (h : a = c) (k : b = d) : (some (HO.tup [a, b]) : Option HO) = some (HO.tup [c, d]) := by rw [h, k]
theorem zap_nat (N a b : Nat) (la : a < N) (lb : b < N) : ZAp (N + 4) (N + 2) (N + 3) N (N + 1) [N, a] [N + 1, b] := by
  have e2 : ∀ {x y z : Nat}, x ≠ y → x ≠ z → x ∉ [y, z] := fun h1 h2 h => by
    rcases List.mem_cons.mp h with h | h
    · exact h1 h
    · exact h2 (by simpa using h)
  have ne : ∀ {x y : Nat}, x < y ∨ y < x → x ≠ y := fun h => by omega
  exact ⟨ne (by omega), ne (by omega), ne (by omega), ne (by omega), ne (by omega), ne (by omega), ne (by omega), ne (by omega), ne (by omega), ne (by omega), e2 (by omega) (by omega), e2 (by omega) (by omega), e2 (by omega) (by omega), e2 (by omega) (by omega), e2 (by omega) (by omega), e2 (by omega) (by omega)⟩
theorem two_lt {N a c : Nat} {k : Nat} (la : a < N) (hc : c ∈ [N + k, a]) (hk : k < 5) : c < N + 5 := by
  simp at hc
  rcases hc with rfl | rfl <;> omega
open Classical in
theorem pe_list_zip {X : Cx} (hc : X.calm = true) {x1 x2 : Expr} {t : TA} {p pos p2 pos2 : Pos} (hgL : Gl X "list") (hmL : X.mg "list" = none) (hgZ : Gl X "zip") (hmZ : X.mg "zip" = none) (ha : PA X [x1, x2] t)
    (he : starEach [x1, x2] X.env = (false, eval x1 X.env) :: starEach [x2] X.env) (hpl : (backTo pos (starEach [x2] X.env)).any (·.1) = false) :
    PE X (.Call (.Name "list" p2) [.Call (.Name "zip" p) [x1, x2] [] pos] [] pos2) (fun σ H Q => t σ H fun vs H1 => ∃ a b us ws, vs = [.ref a, .ref b] ∧ SqT X.K H1 a us ∧ SqT X.K H1 b ws ∧
      ∀ l H' ts, Same H1 H' → H1 l = none → H' l = some (.lst ts) → PairsV H' us ws ts → Q (.ref l) H') := by
  intro pins s σ H Q I h
  refine wpAny_Call_Name_kw (ld_blt I hgL hmL boot_list ?_ (by decide +kernel) (by decide +kernel))
  refine PyProof.Rows.callWith_type1 ?_ rfl rfl
  show wpAny _ _ (spliced [(false, eval (.Call (.Name "zip" p) [x1, x2] [] pos) X.env)]) _ _ s
  refine Calls.spliced_cons ?_
  refine wpAny_Call_Name_kw (ld_blt I hgZ hmZ PyProof.Rows.boot_zip ?_ (by decide +kernel) (by decide +kernel))
  refine PyProof.Rows.callWith_type1 (thn (ha pos pins s σ H _ I h) fun us s1 ⟨vs, H1, I1, r1, q1⟩ => ?_) he hpl
  obtain ⟨a, b, ua, ub, rfl, ta, tb, q⟩ := q1
  obtain ⟨va, vb, rfl, ra, rb⟩ := vals2 r1
  cases ra
  cases rb
  obtain ⟨ia, rva, pa, za⟩ := I1.tuple ta
  obtain ⟨ib, rvb, pb, zb⟩ := I1.tuple tb
  have pa' : s1.heap.IsTuple a ia.toArray := pa
  have pb' : s1.heap.IsTuple b ib.toArray := pb
  obtain ⟨N, hN⟩ : ∃ N : Nat, N = s1.heap.objs.size := ⟨_, rfl⟩
  have la : (a : Nat) < s1.heap.objs.size := by obtain ⟨o, e, _⟩ := pa'; exact Heap.lt_size e
  have lb : (b : Nat) < s1.heap.objs.size := by obtain ⟨o, e, _⟩ := pb'; exact Heap.lt_size e
  refine call_zip_T pa' pb' fun h2 g1 g2 g3 g4 g5 hsz hk => ?_
  refine Calls.spliced_nil ?_
  have hh : X.A.in1.in1.in1.handled = none := I1.ok.hd hc
  have hsz2 : ({ s1 with heap := h2 } : Shared).heap.objs.size = s1.heap.objs.size + 5 := hsz
  have up : ∀ {c : Addr} {items : Array Value}, s1.heap.IsTuple c items → h2.IsTuple c items := fun {c items} x => let ⟨o, e, r⟩ := x; ⟨o, hk _ _ e, r⟩
  have ap := zap_nat s1.heap.objs.size a b la lb
  have lt5 : ∀ k : Nat, k < 5 → s1.heap.objs.size + k < ({ s1 with heap := h2 } : Shared).heap.objs.size := fun k hk => by rw [hsz2]; exact Nat.add_lt_add_left hk _
  refine call_list_zip (s := { s1 with heap := h2 }) ap (draws_tuple hh s1.heap.objs.size a (Nat.ne_of_lt la) ia.toArray) (draws_tuple hh (s1.heap.objs.size + 1) b (Nat.ne_of_lt (Nat.lt_succ_of_lt lb)) ib.toArray) (B := s1.heap.objs.size) (by rw [List.size_toArray, ← rva.length]; exact za)
    ⟨lt5 4 (by decide), lt5 2 (by decide), lt5 3 (by decide), fun c hc => ?_, fun c hc => ?_⟩ (by simp) (by simp) (Nat.le_of_lt (lt5 0 (by decide))) ⟨.none, .bool false, .none, .none, ⟨.inl rfl, false, rfl⟩, g1, g2, g3, ⟨g4, up pa'⟩, ⟨g5, up pb'⟩⟩ fun h' tk acc c' hk' hS hacc => ?_
  · rw [hsz2]
    exact two_lt (k := 0) la hc (by decide)
  · rw [hsz2]
    exact two_lt (k := 1) lb hc (by decide)
  rw [hsz2] at hS hacc ⊢
  obtain ⟨a1, a2, a3⟩ := hacc
  have n5 : ∀ b o, s1.heap.get? b = some o → h'.get? b = some o := fun b o e => by
    have hb : (b : Nat) < s1.heap.objs.size := Heap.lt_size e
    refine hk' b o (fun hm => ?_) (hk b o e)
    simp only [List.mem_cons, List.not_mem_nil, or_false] at hm
    have : (b : Nat) ≥ s1.heap.objs.size := by
      rcases hm with h | h | h | h
      · exact h ▸ Nat.le_add_right _ _
      · exact h ▸ Nat.le_add_right _ _
      · exact h ▸ Nat.le_refl _
      · exact h ▸ Nat.le_add_right _ _
    exact absurd hb (Nat.not_lt.mpr this)
  have hrefs : ∀ v ∈ acc.toList, ∃ T, v = Value.ref T := fun v hv => by
    obtain ⟨j, hj, e⟩ := List.mem_iff_getElem.mp hv
    obtain ⟨T, _, _, e', _⟩ := a2 j v (by rw [← Array.getElem?_toList, List.getElem?_eq_getElem hj, e])
    exact ⟨T, e'⟩
  have hV := refs_vals hrefs
  let H2 : Hp := fun c => if c = s1.heap.objs.size + 5 then some (.lst (acc.toList.map refV)) else
    if hj : ∃ (j : Nat) (u w' : V), acc[j]? = some (Value.ref c) ∧ ua[j]? = some u ∧ ub[j]? = some w' then some (.tup [hj.choose_spec.choose, hj.choose_spec.choose_spec.choose]) else H1 c
  have fr : ∀ c, s1.heap.objs.size ≤ c → H1 c = none := fun c hc => I1.hok.fresh hc
  have notS : ∀ (j : Nat) T, acc[j]? = some (Value.ref T) → T ≠ s1.heap.objs.size + 5 := fun j T e z => by
    obtain ⟨T', _, _, e', _, hb, _⟩ := a2 j _ e
    cases e'
    exact hb (by rw [z]; simp)
  have hTge : ∀ (j : Nat) T, acc[j]? = some (Value.ref T) → s1.heap.objs.size ≤ T := fun j T e => by
    obtain ⟨T', _, _, e', h1, _⟩ := a2 j _ e
    cases e'
    exact h1
  have atT : ∀ (j : Nat) T u w', acc[j]? = some (Value.ref T) → ua[j]? = some u → ub[j]? = some w' → H2 T = some (.tup [u, w']) := fun j T u w' e1 e2 e3 => by
    have hj : ∃ (j : Nat) (u w' : V), acc[j]? = some (Value.ref T) ∧ ua[j]? = some u ∧ ub[j]? = some w' := ⟨j, u, w', e1, e2, e3⟩
    show (if T = s1.heap.objs.size + 5 then _ else if hj : _ then _ else _) = _
    rw [if_neg (notS j T e1), dif_pos hj]
    obtain ⟨c1, c2, c3⟩ := hj.choose_spec.choose_spec.choose_spec
    have ej := a3 _ _ _ c1 e1
    have q1 := Option.some.inj (c2.symm.trans (show ua[hj.choose]? = some u by rw [ej]; exact e2))
    have q2 := Option.some.inj (c3.symm.trans (show ub[hj.choose]? = some w' by rw [ej]; exact e3))
    exact tup2 q1 q2
  have hS2 : H2 (s1.heap.objs.size + 5) = some (.lst (acc.toList.map refV)) := if_pos rfl
  have sm : Same H1 H2 := fun c o e => by
    show (if c = s1.heap.objs.size + 5 then _ else if hj : _ then _ else _) = _
    rw [if_neg, dif_neg]
    · exact e
    · rintro ⟨j, u, w', e1, _⟩
      rw [fr c (hTge j c e1)] at e
      cases e
    · rintro rfl
      rw [fr _ (Nat.le_add_right _ _)] at e
      cases e
  have hlen : acc.toList.length = min ua.length ub.length := by
    rw [Array.length_toList, a1, List.size_toArray, List.size_toArray, ← rva.length, ← rvb.length]
  have I2 : Inv X pins σ H2 { s1 with heap := h', toks := tk } := by
    refine I1.lays n5 sm fun c o e => ?_
    have e' : (if c = s1.heap.objs.size + 5 then some (HO.lst (acc.toList.map refV)) else
      if hj : ∃ (j : Nat) (u w' : V), acc[j]? = some (Value.ref c) ∧ ua[j]? = some u ∧ ub[j]? = some w' then some (.tup [hj.choose_spec.choose, hj.choose_spec.choose_spec.choose]) else H1 c) = some o := e
    split at e'
    · rename_i hc
      cases e'
      refine .inr ⟨by rw [hc]; exact Nat.le_add_right _ _, ?_⟩
      rw [hc]
      refine ⟨?_, acc.toList, c', hV, by simpa using hS⟩
      rw [List.length_map, hlen]
      exact Nat.le_trans (Nat.min_le_left _ _) za
    · split at e'
      · rename_i hj
        cases e'
        obtain ⟨c1, c2, c3⟩ := hj.choose_spec.choose_spec.choose_spec
        obtain ⟨T, x, y, eT, b1, b2, b3, b4, b5⟩ := a2 _ _ c1
        cases eT
        refine .inr ⟨b1, ?_, [x, y], ?_, ⟨_, b3, rfl, _, rfl⟩⟩
        · rw [sizeLine_eq]; simp
        · obtain ⟨x', ex, rx⟩ := rva.get c2
          obtain ⟨y', ey, ry⟩ := rvb.get c3
          have e1 : ia[hj.choose]? = some x := by simpa using b4
          have e2 : ib[hj.choose]? = some y := by simpa using b5
          rw [ex] at e1
          rw [ey] at e2
          cases e1
          cases e2
          exact .cons rx (.cons ry .nil)
      · exact .inl e'
  refine ⟨.ref (s1.heap.objs.size + 5), H2, I2, rfl, q _ H2 _ sm (fr _ (Nat.le_add_right _ _)) hS2 ⟨by rw [List.length_map, hlen], fun j t ht => ?_⟩⟩
  rw [List.getElem?_map] at ht
  obtain ⟨v, hv, rfl⟩ : ∃ v, acc.toList[j]? = some v ∧ refV v = t := by
    cases hq : acc.toList[j]? with
    | none => rw [hq] at ht; cases ht
    | some v => rw [hq] at ht; exact ⟨v, rfl, by simpa using ht⟩
  have hjl : j < min ua.length ub.length := by rw [← hlen]; exact (List.getElem?_eq_some_iff.mp hv).1
  have hv' : acc[j]? = some v := by rw [← Array.getElem?_toList]; exact hv
  obtain ⟨T, x, y, rfl, _⟩ := a2 j v hv'
  have l1 : j < ua.length := Nat.lt_of_lt_of_le hjl (Nat.min_le_left _ _)
  have l2 : j < ub.length := Nat.lt_of_lt_of_le hjl (Nat.min_le_right _ _)
  exact ⟨T, ua[j], ub[j], rfl, atT j T _ _ hv' (List.getElem?_eq_getElem l1) (List.getElem?_eq_getElem l2), List.getElem?_eq_getElem l1, List.getElem?_eq_getElem l2⟩
end
end L2

namespace L2
open PySem PySem.Spec PyProof.Rows
theorem meets_enumerate_newT (l : Addr) (items : Array Value) (o : Obj) (ht : o.cls = .type "tuple") (n : Nat) (hd : o.data = .seq items n) :
    Meets (Builtin.«enumerate.__new__» ⟨[.type "enumerate", .ref l], []⟩) (fun _ R s => s.heap.get? l = some o ∧
      R (.ok (.ret (.ref (s.heap.push { cls := .type "tuple_iterator", data := .fields #[.ref l, .int 0 0] }).objs.size)))
        { s with heap := (s.heap.push { cls := .type "tuple_iterator", data := .fields #[.ref l, .int 0 0] }).push { cls := .type "enumerate", data := .fields #[.none, .bool false, .ref s.heap.objs.size, rawInt 0, .none, .none] } }) :=
  .of_wp fun prog w A R s h => by
    obtain ⟨hp, g, d, tk, os⟩ := s; obtain ⟨hl, h⟩ := h
    have hsub := sub_enumerate
    have hL : Heap.IsTuple (Shared.heap ⟨hp, g, d, tk, os⟩) l items := ⟨_, hl, ht, n, hd⟩
    wp_walk using wpAny_loadPart' hl
    refine wpAny_stack_any fun st => wpAny_pure ?_
    split
    · rename_i c _ _ _ _ _
      cases (c == Value.type "enumerate")
      · wp_walk using wpAny_loadPart' hl, wpAny_pyIter_tuple hL
        exact ⟨_, rfl, h⟩
      · wp_walk using wpAny_loadPart' hl, wpAny_pyIter_tuple hL
        exact ⟨_, rfl, h⟩
    · wp_walk using wpAny_loadPart' hl, wpAny_pyIter_tuple hL
      exact ⟨_, rfl, h⟩
section
variable {prog : Program} {w : World} {A : Around} {E : Value → Shared → Prop} {s : Shared}
theorem call_enumerate_T {l : Addr} {items : Array Value} {Q : Value → Shared → Prop} (hl : s.heap.IsTuple l items)
    (h : ∀ h', IsEnum h' (s.heap.objs.size + 1) s.heap.objs.size 0 .none → h'.IsTupleIter s.heap.objs.size l 0 → h'.objs.size = s.heap.objs.size + 2 →
      (∀ b o, s.heap.get? b = some o → h'.get? b = some o) → Q (.ref (s.heap.objs.size + 1)) { s with heap := h' }) :
    wpAny (model prog w) A (call (.type "enumerate") [.ref l]) Q E s := by
  obtain ⟨o, ho, hc, n, hd⟩ := hl
  refine callType_new PySem.F.called_enumerate (by decide) (PySem.F.typeCall_enumerate_1 _) (PySem.F.newCall_enumerate_1 _) (fun obj => PySem.F.args_object_init_2 obj _) PySem.F.entry_enumerate_new
    (meets_enumerate_newT l items o hc n hd) ⟨ho, ?_⟩
  have hz : (s.heap.push { cls := .type "tuple_iterator", data := .fields #[.ref l, .int 0 0] }).objs.size = s.heap.objs.size + 1 := Heap.size_push ..
  show _ ∧ _
  rw [hz]
  have he : IsEnum ((s.heap.push { cls := .type "tuple_iterator", data := .fields #[.ref l, .int 0 0] }).push
      { cls := .type "enumerate", data := .fields #[.none, .bool false, .ref s.heap.objs.size, rawInt 0, .none, .none] }) (s.heap.objs.size + 1) s.heap.objs.size 0 .none := by
    have := Heap.get?_push_size (s.heap.push { cls := .type "tuple_iterator", data := .fields #[.ref l, .int 0 0] })
      (o := { cls := .type "enumerate", data := .fields #[.none, .bool false, .ref s.heap.objs.size, rawInt 0, .none, .none] }) rfl
    rw [hz] at this; exact this
  refine ⟨⟨_, he, rfl⟩, h _ he ⟨_, Heap.get?_push_of_some _ (Heap.get?_push_size _ rfl), rfl, rfl⟩ (by rw [Heap.size_push, hz]) fun b o x => Heap.get?_push_of_some _ (Heap.get?_push_of_some _ x)⟩
end
def Ite (K : PySem.W.Frag) (a : Addr) : It :=
  ⟨fun i H => ∃ xs x, SqT K H a xs ∧ xs[i]? = some x, fun i H x H' => ∃ T v, H T = none ∧ H' = upd H T (.tup [.int i, v]) ∧ x = .ref T ∧ ∀ xs, SqT K H a xs → xs[i]? = some v, fun i H => ∃ xs, SqT K H a xs ∧ xs.length ≤ i⟩
theorem turn_enumT {P : Program} {w : World} {K : PySem.W.Frag} {elts : List Expr} {kk : Nat} {pos : Pos} (a it e : Addr) (hei : e ≠ it) : Turn P w K (.Tuple elts kk pos) (Ite K a) [e, it] e (fun i h => (∃ old, IsEnum h e it i old) ∧ h.IsTupleIter it a i) where
  mem := by simp
  obj := fun i h st b hb => by
    obtain ⟨⟨old, he⟩, o, eo, c, d⟩ := st
    have hb' : b = e ∨ b = it := by simpa using hb
    rcases hb' with z | z
    · rw [z]; exact ⟨_, he, fun v z => nomatch z⟩
    · rw [z]; exact ⟨o, eo, fun v z => by rw [d] at z; cases z⟩
  keep := fun i h h' st k => ⟨let ⟨old, he⟩ := st.1; ⟨old, k e (by simp) _ he⟩, st.2.at fun o x => k it (by simp) o x⟩
  item := by
    intro X hP hw hK hc i pins s σ H E I hf st hg
    subst hP hw hK
    obtain ⟨xs, x, hq, hx⟩ := hg
    obtain ⟨its, rv, p, hz⟩ := I.tuple hq
    have p' : s.heap.IsTuple a its.toArray := p
    obtain ⟨u, hu, ru⟩ := rv.get hx
    obtain ⟨f0, f1, f2, f3, f4, f5⟩ := hf it (by simp)
    obtain ⟨g0, g1, g2, g3, g4, g5⟩ := hf e (by simp)
    obtain ⟨⟨old, he⟩, hit⟩ := st
    have hai : a ≠ it := fun z => by
      obtain ⟨o1, e1, c1, _⟩ := p'
      obtain ⟨o2, e2, c2, _⟩ := id hit
      rw [z, e2] at e1
      cases e1
      rw [c1] at c2
      simp at c2
    have hae : a ≠ e := fun z => by
      obtain ⟨o1, e1, c1, _⟩ := p'
      rw [z, he] at e1
      cases e1
      simp at c1
    have hlt : i < its.toArray.size := by
      have := (List.getElem?_eq_some_iff.mp hu).1
      simpa using this
    refine wpAny_pyNext_enum_itemD (draws_tuple (A := X.A.in1) (I.ok.hd hc) it a hai its.toArray) he ⟨hit, p'⟩ hlt hei (by simp [hei, Ne.symm hae]) fun x1 h' tk px ho hs' hT hsz hk => ?_
    have ex1 : x1 = u := by
      have : its[i]? = some x1 := by simpa using px
      rw [hu] at this
      cases this
      rfl
    subst ex1
    refine ⟨_, rfl, ?_⟩
    refine wpAny_letOwnedTupleGo_enum ho fun h2 he2 sb2 => ?_
    have hTe : s.heap.objs.size ≠ e := Nat.ne_of_gt (Heap.lt_size he)
    have hTi : s.heap.objs.size ≠ it := by
      obtain ⟨o, eo, _⟩ := hit
      exact Nat.ne_of_gt (Heap.lt_size eo)
    have kk2 : ∀ b o, b ≠ e → b ≠ it → s.heap.get? b = some o → h2.get? b = some o := fun b o h1 h3 q => sb2.extBut b o h1 (hk b o h1 h3 q)
    have hn : H s.heap.objs.size = none := I.hok.fresh (Nat.le_refl _)
    have nit : ∀ b v, H b = some v → b ≠ e ∧ b ≠ it := fun b v q => ⟨(fun z => by rw [z, g0] at q; cases q), (fun z => by rw [z, f0] at q; cases q)⟩
    have hT2 : h2.get? s.heap.objs.size = some { cls := .type "tuple", data := .seq #[.int i tk, x1] } := sb2.extBut _ _ hTe hT
    have I1 : Inv X pins σ (upd H s.heap.objs.size (.tup [.int i, x])) { s with heap := h2, toks := tk + 1 } := by
      refine I.step (g' := s.gens) (d' := s.drawn) (ch := [e, it]) (fun b hb => ?_) (fun b o _ _ hc q _ => kk2 b o (fun z => hc (by simp [z])) (fun z => hc (by simp [z])) q) (fun b o _ _ hc q _ => ⟨o.slots, kk2 b o (fun z => hc (by simp [z])) (fun z => hc (by simp [z])) q⟩)
        (fun b o _ q n => by rw [upd_ne (Nat.ne_of_lt (Heap.lt_size q))]; exact n) (fun b o hc q => ⟨o, kk2 b o (fun z => hc (by simp [z])) (fun z => hc (by simp [z])) q⟩) (fun b xs q => by rw [upd_ne (ne_of_none q hn)]; exact q) (fun b o v q => by rw [upd_ne (ne_of_none q hn)]; exact q)
        (fun b ps q => ⟨#[], by rw [upd_ne (ne_of_none q hn), q]; simp⟩) (fun m hm => ?_) (fun b v q => ?_) I.bare
      · have hb' : b = e ∨ b = it := by simpa using hb
        rcases hb' with z | z
        · rw [z]; exact ⟨g3, g1, g4, g5⟩
        · rw [z]; exact ⟨f3, f1, f4, f5⟩
      · obtain ⟨o, es, ep, ho', r⟩ := hm
        exact ⟨o, es, ep, kk2 _ o (Ne.symm g1) (Ne.symm f1) ho', r⟩
      · by_cases hb : b = s.heap.objs.size
        · rw [hb, upd_same] at q
          cases q
          rw [hb]
          exact ⟨by rw [sizeLine_eq]; simp, [.int i tk, x1], .cons ⟨tk, rfl⟩ (.cons ru .nil), ⟨_, hT2, rfl, _, rfl⟩⟩
        · rw [upd_ne hb] at q
          refine (I.hok b v q).stay (fun c y hc qq => ?_) (fun c qq => by rw [upd_ne (ne_of_none qq hn)]; exact qq) fun c xs qq => by rw [upd_ne (ne_of_none qq hn)]; exact qq
          have : c ≠ e ∧ c ≠ it := by
            rcases hc with z | z
            · rw [z]; exact nit b v q
            · exact nit c _ z
          exact kk2 c y this.1 this.2 qq
    refine ⟨.ref s.heap.objs.size, _, I1, rfl, ⟨s.heap.objs.size, x, hn, rfl, rfl, fun ys hy => by rw [I.tuple_inj hy hq]; exact hx⟩, ⟨⟨x1, by simpa using he2⟩, hs'.1.at fun o q => sb2.extBut _ _ (Ne.symm hei) q⟩, fun b hb => ?_⟩
    have hb' : b = e ∨ b = it := by simpa using hb
    rcases hb' with z | z
    · rw [z, upd_ne (Ne.symm hTe)]; exact g0
    · rw [z, upd_ne (Ne.symm hTi)]; exact f0
  done := by
    intro X hP hw hK hc i pins s σ H E I hf st hg
    subst hP hw hK
    obtain ⟨xs, hq, hx⟩ := hg
    obtain ⟨its, rv, p, hz⟩ := I.tuple hq
    obtain ⟨f0, f1, f2, f3, f4, f5⟩ := hf it (by simp)
    obtain ⟨⟨old, he⟩, hit⟩ := st
    have hl := rv.length
    have hT : s.TypeIs (.ref e) "enumerate" := ⟨_, he, rfl⟩
    unfold pyNext
    refine wpAny_bind (wpAny_attempt (wpAny_callSpecial?_slot (name := Str.ofString "__next__") hT PySem.F.slot_enumerate_next
      (wpAny_call_entry PySem.F.slot_enumerate_next hT PySem.F.entry_enumerate_next ?_ (PySem.F.args_enumerate_next_1 _))))
    show wpAny _ _ (field (.ref e) 2 >>= _) _ _ _
    refine wpAny_bind (wpAny_field he rfl (x := .ref it) rfl ?_)
    refine wpAny_bind (nextOf_tuple_end (I.ok.hd hc) hit (show s.heap.IsTuple a its.toArray from p) (by simp; omega) fun h' y he' hx' => ?_)
    obtain ⟨o, ho, hcl⟩ := hx'
    refine wpAny_bind (wpAny_isInstance (T := "StopIteration") (b := true) ⟨o, ho, hcl⟩ isSubtype_stop ?_)
    exact wpAny_pure ⟨rfl, I.turned (t' := s.toks) (fun b o hb q => he' b o hb q) f0 f1 f3 f4 f5⟩
  self := fun _ _ _ _ _ st h => let ⟨old, he⟩ := st.1; wpAny_pyIter_enum he h
section
variable {X : Cx}
def iEnum (K : PySem.W.Frag) (ta : TA) : TI := fun σ H R => ta σ H fun vs H1 => ∃ a, vs = [.ref a] ∧ (∃ xs, SqT K H1 a xs) ∧ R (Ite K a) H1
theorem pi_enumT {elts : List Expr} {kk : Nat} {p3 p pos : Pos} {x : Expr} {ta : TA} (hg : Gl X "enumerate") (hm : X.mg "enumerate" = none) (ha : PA X [x] ta) (hs : starEach [x] X.env = [(false, eval x X.env)]) :
    PI X (.Tuple elts kk p3) (.Call (.Name "enumerate" p) [x] [] pos) (iEnum X.K ta) := by
  intro pins s σ H R I h
  refine Call_ (ld_blt I hg hm boot_enumerate (PyProof.Rows.callWith_type1 (thn (ha pos pins s σ H _ I h) fun us s1 ⟨vs, H1, I1, r1, q1⟩ => ?_) hs rfl) (by decide +kernel) (by decide +kernel))
  obtain ⟨a, rfl, ⟨xs, hq⟩, q⟩ := q1
  obtain ⟨u, rfl, ru⟩ := vals1 r1
  cases ru
  obtain ⟨its, rv, pl, hz⟩ := I1.tuple hq
  refine call_enumerate_T (show s1.heap.IsTuple a its.toArray from pl) fun h' he hit hsz hk => ?_
  refine wpAny_pyIter_enum he ?_
  have I2 : Inv X pins σ H1 { s1 with heap := h' } := I1.kept (t' := s1.toks) hk
  refine ⟨s1.heap.objs.size + 1, [s1.heap.objs.size + 1, s1.heap.objs.size], _, _, H1, rfl, I2, turn_enumT a _ _ (Nat.succ_ne_self _), ⟨⟨_, he⟩, hit⟩, fun b hb => ?_, q⟩
  have hb' : b = s1.heap.objs.size + 1 ∨ b = s1.heap.objs.size := by simpa using hb
  rcases hb' with z | z
  · rw [z]; exact I1.fpOk (Nat.le_succ _) (I1.hok.fresh (Nat.le_succ _))
  · rw [z]; exact I1.fpOk (Nat.le_refl _) (I1.hok.fresh (Nat.le_refl _))
end
end L2

namespace L2
open PySem PySem.Spec PyProof.Rows
section
variable {prog : Program} {w : World} {A : Around} {E : Value → Shared → Prop} {s : Shared}
theorem zip_letGo {elts : List Expr} {x1} {pos : Pos} {z TI TO T : Addr} {f0 f1 : Value} {Q : Unit → Shared → Prop} (hf : ZF f0 f1) (hz : IsZ s.heap z TI TO f0 f1)
    (hQ : ∀ h' g0, ZF g0 f1 → IsZ h' z TI TO g0 f1 → Heap.SameBut z s.heap h' → Q () { s with heap := h' }) :
    wpAny (model prog w) A (letOwnedTupleGo (.Tuple elts x1 pos) (.ref z) (.ref T)) Q E s := by
  unfold letOwnedTupleGo
  refine wpAny_bind (wpAny_load hz ?_)
  show wpAny _ _ (if (["enumerate", "zip", "dict_itemiterator", "dict_reverseitemiterator", "odict_iterator", "itertools.zip_longest", "itertools.pairwise"].contains "zip" &&
      (#[f0, f1, .bool false, .ref TI, .ref TO] : Array Value)[0]? == some (rawInt T)) = true then _ else _) Q E s
  split
  · refine wpAny_bind (wpAny_rule ?_)
    show wpAny _ _ (setField (.ref z) 0 .none) Q E s
    exact wpAny_setField_rec hz (by simp) fun h' hz' hs' => hQ h' .none ⟨.inl rfl, hf.2⟩ hz' hs'
  · exact wpAny_pure (hQ s.heap f0 hf hz ⟨rfl, fun _ _ => rfl⟩)
end
def Itz (K : PySem.W.Frag) (a b : Addr) : It :=
  ⟨fun i H => ∃ xs ys x y, SqT K H a xs ∧ SqT K H b ys ∧ xs[i]? = some x ∧ ys[i]? = some y,
   fun i H p H' => ∃ T u v, H T = none ∧ H' = upd H T (.tup [u, v]) ∧ p = .ref T ∧ (∀ xs, SqT K H a xs → xs[i]? = some u) ∧ ∀ ys, SqT K H b ys → ys[i]? = some v,
   fun i H => ∃ xs ys, SqT K H a xs ∧ SqT K H b ys ∧ (i = xs.length ∨ (i < xs.length ∧ i = ys.length)) ∧ i ≤ ys.length⟩
theorem fp_ne {X : Cx} {pins : List (Addr × Obj)} {σ : L2.St} {H : Hp} {s : Shared} {a c : Addr} {xs : List V} (I : Inv X pins σ H s) (hf : FpOk X pins H c) (hq : SqT X.K H a xs) : a ≠ c := by
  rintro rfl
  rcases hq with (h | ⟨o, h⟩) | ⟨o, its, n, hk, _⟩
  · rw [hf.1] at h; cases h
  · rw [hf.1] at h; cases h
  · have hb : X.base.get? a = some o := I.ok.mod.kin a o hk
    rcases hf.2.2.2.1 with z | z
    · exact I.ok.noex a o hb z
    · exact absurd (Nat.lt_of_lt_of_le (Heap.lt_size hb) I.ok.bsz) (Nat.not_lt.mpr z)
theorem turn_zipT {P : Program} {w : World} {K : PySem.W.Frag} {elts : List Expr} {kk : Nat} {pos : Pos} (a b z TI TO i1 i2 : Addr) (hne : ∀ fa fb : Addr, fa ≠ z → fa ≠ TO → fa ≠ i1 → fa ≠ i2 → fb ≠ z → fb ≠ TO → fb ≠ i1 → fb ≠ i2 → ZAp z TI TO i1 i2 [i1, fa] [i2, fb]) :
    Turn P w K (.Tuple elts kk pos) (Itz K a b) [z, TI, TO, i1, i2] z (fun i h => ZI z TI TO i1 i2 (fun i h => h.IsTupleIter i1 a i) (fun i h => h.IsTupleIter i2 b i) i h) where
  mem := by simp
  obj := fun i h st c hc => by
    obtain ⟨f0, f1, x, y, q1, q2, q3, q4, ⟨o5, e5, c5, d5⟩, o6, e6, c6, d6⟩ := st
    have hc' : c = z ∨ c = TI ∨ c = TO ∨ c = i1 ∨ c = i2 := by simpa using hc
    rcases hc' with e | e | e | e | e
    · rw [e]; exact ⟨_, q2, fun v z => nomatch z⟩
    · rw [e]; exact ⟨_, q3, fun v z => nomatch z⟩
    · rw [e]; exact ⟨_, q4, fun v z => nomatch z⟩
    · rw [e]; exact ⟨o5, e5, fun v z => by rw [d5] at z; cases z⟩
    · rw [e]; exact ⟨o6, e6, fun v z => by rw [d6] at z; cases z⟩
  keep := fun i h h' st k => by
    obtain ⟨f0, f1, x, y, q1, q2, q3, q4, q5, q6⟩ := st
    exact ⟨f0, f1, x, y, q1, k _ (by simp) _ q2, k _ (by simp) _ q3, k _ (by simp) _ q4, q5.at fun o e => k _ (by simp) _ e, q6.at fun o e => k _ (by simp) _ e⟩
  item := by
    intro X hP hw hK hc i pins s σ H E I hf st hg
    subst hP hw hK
    obtain ⟨xs, ys, x, y, ha, hb, hx, hy⟩ := hg
    obtain ⟨ia, ra, pa, za⟩ := I.tuple ha
    obtain ⟨ib, rb, pb, zb⟩ := I.tuple hb
    have pa' : s.heap.IsTuple a ia.toArray := pa
    have pb' : s.heap.IsTuple b ib.toArray := pb
    obtain ⟨ux, hux, rux⟩ := ra.get hx
    obtain ⟨uy, huy, ruy⟩ := rb.get hy
    obtain ⟨f0, f1, x0, y0, q1, q2, q3, q4, q5, q6⟩ := st
    have F : ∀ c ∈ [z, TI, TO, i1, i2], FpOk X pins H c := hf
    have na : ∀ c ∈ [z, TI, TO, i1, i2], a ≠ c := fun c hc => fp_ne I (hf c hc) ha
    have nb : ∀ c ∈ [z, TI, TO, i1, i2], b ≠ c := fun c hc => fp_ne I (hf c hc) hb
    have ap := hne a b (na z (by simp)) (na TO (by simp)) (na i1 (by simp)) (na i2 (by simp)) (nb z (by simp)) (nb TO (by simp)) (nb i1 (by simp)) (nb i2 (by simp))
    have hla : i < ia.toArray.size := by simpa using (List.getElem?_eq_some_iff.mp hux).1
    have hlb : i < ib.toArray.size := by simpa using (List.getElem?_eq_some_iff.mp huy).1
    refine pyNext_zip_item (draws_tuple (A := X.A.in1) (I.ok.hd hc) i1 a (na i1 (by simp)) ia.toArray) (draws_tuple (A := X.A.in1) (I.ok.hd hc) i2 b (nb i2 (by simp)) ib.toArray) ap q1 q2 q3 q4 hla hlb ⟨q5, pa'⟩ ⟨q6, pb'⟩
      fun h' tk T vx vy g0 g1 x1 y1 d1 d2 d3 d4 d5 px py hT hp hk => ?_
    have e1 : vx = ux := by
      have : ia[i]? = some vx := by simpa using px
      rw [hux] at this; cases this; rfl
    have e2 : vy = uy := by
      have : ib[i]? = some vy := by simpa using py
      rw [huy] at this; cases this; rfl
    subst e1 e2
    refine ⟨_, rfl, ?_⟩
    refine zip_letGo d1 d2 fun h2 g2 d1' d2' sb2 => ?_
    have lt : ∀ {c o}, s.heap.get? c = some o → T ≠ c := fun e => Nat.ne_of_gt (Nat.lt_of_lt_of_le (Heap.lt_size e) hT)
    have hTz : T ≠ z := lt q2
    have kk2 : ∀ c o, c ∉ [z, TO, i1, i2] → s.heap.get? c = some o → h2.get? c = some o := fun c o h1 q => by
      simp only [List.mem_cons, List.not_mem_nil, or_false, not_or] at h1
      exact sb2.extBut c o h1.1 (hk c o h1.1 h1.2.1 h1.2.2.1 h1.2.2.2 q)
    have hn : H T = none := I.hok.fresh hT
    have nit : ∀ c v, H c = some v → c ∉ [z, TO, i1, i2] := fun c v q hm => by
      have : c ∈ [z, TI, TO, i1, i2] := by
        simp only [List.mem_cons, List.not_mem_nil, or_false] at hm ⊢
        rcases hm with h | h | h | h
        · exact .inl h
        · exact .inr (.inr (.inl h))
        · exact .inr (.inr (.inr (.inl h)))
        · exact .inr (.inr (.inr (.inr h)))
      rw [(F c this).1] at q
      cases q
    have hT2 : IsPair h2 T vx vy := sb2.extBut _ _ hTz hp
    have I1 : Inv X pins σ (upd H T (.tup [x, y])) { s with heap := h2, toks := tk } := by
      refine I.step (g' := s.gens) (d' := s.drawn) (ch := [z, TO, i1, i2]) (fun c hc => ?_) (fun c o _ _ hc q _ => kk2 c o hc q) (fun c o _ _ hc q _ => ⟨o.slots, kk2 c o hc q⟩)
        (fun c o _ q n => by rw [upd_ne (Ne.symm (lt q))]; exact n) (fun c o hc q => ⟨o, kk2 c o hc q⟩) (fun c xs q => by rw [upd_ne (ne_of_none q hn)]; exact q) (fun c o v q => by rw [upd_ne (ne_of_none q hn)]; exact q)
        (fun c ps q => ⟨#[], by rw [upd_ne (ne_of_none q hn), q]; simp⟩) (fun m hm => ?_) (fun c v q => ?_) I.bare
      · have : c ∈ [z, TI, TO, i1, i2] := by
          simp only [List.mem_cons, List.not_mem_nil, or_false] at hc ⊢
          rcases hc with h | h | h | h
          · exact .inl h
          · exact .inr (.inr (.inl h))
          · exact .inr (.inr (.inr (.inl h)))
          · exact .inr (.inr (.inr (.inr h)))
        obtain ⟨w0, w1, w2, w3, w4, w5⟩ := F c this
        exact ⟨w3, w1, w4, w5⟩
      · obtain ⟨o, es, ep, ho', r⟩ := hm
        refine ⟨o, es, ep, kk2 _ o (fun hm => ?_) ho', r⟩
        simp only [List.mem_cons, List.not_mem_nil, or_false] at hm
        rcases hm with h | h | h | h
        · exact (F z (by simp)).2.1 h.symm
        · exact (F TO (by simp)).2.1 h.symm
        · exact (F i1 (by simp)).2.1 h.symm
        · exact (F i2 (by simp)).2.1 h.symm
      · by_cases hcT : c = T
        · rw [hcT, upd_same] at q
          cases q
          rw [hcT]
          exact ⟨by rw [sizeLine_eq]; simp, [vx, vy], .cons rux (.cons ruy .nil), ⟨_, hT2, rfl, _, rfl⟩⟩
        · rw [upd_ne hcT] at q
          refine (I.hok c v q).stay (fun d y hd qq => ?_) (fun d qq => by rw [upd_ne (ne_of_none qq hn)]; exact qq) fun d xs qq => by rw [upd_ne (ne_of_none qq hn)]; exact qq
          refine kk2 d y ?_ qq
          rcases hd with h | h
          · rw [h]; exact nit c v q
          · exact nit d _ h
    refine ⟨.ref T, _, I1, rfl, ⟨T, x, y, hn, rfl, rfl, fun zs h => by rw [I.tuple_inj h ha]; exact hx, fun zs h => by rw [I.tuple_inj h hb]; exact hy⟩,
      ⟨g2, g1, x1, y1, d1', d2', sb2.extBut _ _ ap.TIz (hk _ _ ap.TIz ap.TITO ap.TIi1 ap.TIi2 q3), sb2.extBut _ _ ap.TOz d3, d4.1.at fun o q => sb2.extBut _ _ ap.i1z q, d5.1.at fun o q => sb2.extBut _ _ ap.i2z q⟩, fun c hc => ?_⟩
    have hcT : c ≠ T := fun e => by
      obtain ⟨⟨o1, l1, _⟩, _⟩ := (show s.heap.IsTupleIter i1 a i ∧ True from ⟨q5, trivial⟩)
      obtain ⟨⟨o2, l2, _⟩, _⟩ := (show s.heap.IsTupleIter i2 b i ∧ True from ⟨q6, trivial⟩)
      simp only [List.mem_cons, List.not_mem_nil, or_false] at hc
      rcases hc with h | h | h | h | h
      · exact lt q2 (e.symm.trans h)
      · exact lt q3 (e.symm.trans h)
      · exact lt q4 (e.symm.trans h)
      · exact lt l1 (e.symm.trans h)
      · exact lt l2 (e.symm.trans h)
    rw [upd_ne hcT]
    exact (F c hc).1
  done := by
    intro X hP hw hK hc i pins s σ H E I hf st hg
    subst hP hw hK
    obtain ⟨xs, ys, ha, hb, hi, hj⟩ := hg
    obtain ⟨ia, ra, pa, za⟩ := I.tuple ha
    obtain ⟨ib, rb, pb, zb⟩ := I.tuple hb
    have pa' : s.heap.IsTuple a ia.toArray := pa
    have pb' : s.heap.IsTuple b ib.toArray := pb
    obtain ⟨f0, f1, x0, y0, q1, q2, q3, q4, q5, q6⟩ := st
    have F : ∀ c ∈ [z, TI, TO, i1, i2], FpOk X pins H c := hf
    have na : ∀ c ∈ [z, TI, TO, i1, i2], a ≠ c := fun c hc => fp_ne I (hf c hc) ha
    have nb : ∀ c ∈ [z, TI, TO, i1, i2], b ≠ c := fun c hc => fp_ne I (hf c hc) hb
    have ap := hne a b (na z (by simp)) (na TO (by simp)) (na i1 (by simp)) (na i2 (by simp)) (nb z (by simp)) (nb TO (by simp)) (nb i1 (by simp)) (nb i2 (by simp))
    refine pyNext_zip_stop (draws_tuple (A := X.A.in1) (I.ok.hd hc) i1 a (na i1 (by simp)) ia.toArray) (draws_tuple (A := X.A.in1) (I.ok.hd hc) i2 b (nb i2 (by simp)) ib.toArray) ap q1 q2 q3 q4 (k := i) ?_ ⟨q5, pa'⟩ ⟨q6, pb'⟩ fun h' tk hk => ⟨rfl, ?_⟩
    · rw [List.size_toArray, List.size_toArray, ← ra.length, ← rb.length]
      exact hi
    · have kk2 : ∀ c o, c ∉ [z, TO, i1, i2] → s.heap.get? c = some o → h'.get? c = some o := fun c o h1 q => by
        simp only [List.mem_cons, List.not_mem_nil, or_false, not_or] at h1
        exact hk c o h1.1 h1.2.1 h1.2.2.1 h1.2.2.2 q
      have sub : ∀ c, c ∈ [z, TO, i1, i2] → c ∈ [z, TI, TO, i1, i2] := fun c hm => by
        simp only [List.mem_cons, List.not_mem_nil, or_false] at hm ⊢
        rcases hm with h | h | h | h
        · exact .inl h
        · exact .inr (.inr (.inl h))
        · exact .inr (.inr (.inr (.inl h)))
        · exact .inr (.inr (.inr (.inr h)))
      have nit : ∀ c v, H c = some v → c ∉ [z, TO, i1, i2] := fun c v q hm => by
        rw [(F c (sub c hm)).1] at q
        cases q
      refine I.step (g' := s.gens) (d' := s.drawn) (ch := [z, TO, i1, i2]) (fun c hc => ?_) (fun c o _ _ hc q _ => kk2 c o hc q) (fun c o _ _ hc q _ => ⟨o.slots, kk2 c o hc q⟩)
        (fun _ _ _ _ n => n) (fun c o hc q => ⟨o, kk2 c o hc q⟩) (fun _ _ q => q) (fun _ _ _ q => q) (fun c ps q => ⟨#[], by rw [q]; simp⟩) (fun m hm => ?_) (fun c v q => ?_) I.bare
      · obtain ⟨w0, w1, w2, w3, w4, w5⟩ := F c (sub c hc)
        exact ⟨w3, w1, w4, w5⟩
      · obtain ⟨o, es, ep, ho', r⟩ := hm
        exact ⟨o, es, ep, kk2 _ o (fun hm => (F _ (sub _ hm)).2.1 rfl) ho', r⟩
      · refine (I.hok c v q).stay (fun d y hd qq => kk2 d y ?_ qq) (fun _ qq => qq) fun _ _ qq => qq
        rcases hd with h | h
        · rw [h]; exact nit c v q
        · exact nit d _ h
  self := fun A i s Q E st h => by
    obtain ⟨f0, f1, x, y, q1, q2, _⟩ := st
    have hT : s.TypeIs (.ref z) "zip" := ⟨_, q2, rfl⟩
    refine wpAny_pyIter_slot hT PySem.F.slot_zip_iter (wpAny_call_entry PySem.F.slot_zip_iter hT PySem.F.entry_zip_iter ?_ (PySem.F.args_zip_iter_1 _))
    show wpAny _ _ (ret (.ref z)) _ _ s
    exact wpAny_pure ⟨_, rfl, "zip", _, hT, PySem.F.slot_zip_next.lookup, h⟩
theorem zap_ne (N : Nat) (fa fb : Nat) (a1 : fa ≠ N + 4) (a2 : fa ≠ N + 3) (a3 : fa ≠ N) (a4 : fa ≠ N + 1) (b1 : fb ≠ N + 4) (b2 : fb ≠ N + 3) (b3 : fb ≠ N) (b4 : fb ≠ N + 1) : ZAp (N + 4) (N + 2) (N + 3) N (N + 1) [N, fa] [N + 1, fb] := by
  have e2 : ∀ {x y z : Nat}, x ≠ y → x ≠ z → x ∉ [y, z] := fun h1 h2 h => by
    rcases List.mem_cons.mp h with h | h
    · exact h1 h
    · exact h2 (by simpa using h)
  have ne : ∀ {x y : Nat}, x < y ∨ y < x → x ≠ y := fun h => by omega
  exact ⟨ne (by omega), ne (by omega), ne (by omega), ne (by omega), ne (by omega), ne (by omega), ne (by omega), ne (by omega), ne (by omega), ne (by omega), e2 (by omega) a1.symm, e2 (by omega) b1.symm, e2 (by omega) a2.symm, e2 (by omega) b2.symm, e2 (by omega) a4.symm, e2 (by omega) b3.symm⟩
section
variable {X : Cx}
def iZip (K : PySem.W.Frag) (ta : TA) : TI := fun σ H R => ta σ H fun vs H1 => ∃ a b, vs = [.ref a, .ref b] ∧ (∃ xs, SqT K H1 a xs) ∧ (∃ ys, SqT K H1 b ys) ∧ R (Itz K a b) H1
theorem pi_zipT {elts : List Expr} {kk : Nat} {p3 p pos : Pos} {x1 x2 : Expr} {ta : TA} (hg : Gl X "zip") (hm : X.mg "zip" = none) (ha : PA X [x1, x2] ta) (he : starEach [x1, x2] X.env = (false, eval x1 X.env) :: starEach [x2] X.env) (hpl : (backTo pos (starEach [x2] X.env)).any (·.1) = false) :
    PI X (.Tuple elts kk p3) (.Call (.Name "zip" p) [x1, x2] [] pos) (iZip X.K ta) := by
  intro pins s σ H R I h
  refine Call_ (ld_blt I hg hm PyProof.Rows.boot_zip (PyProof.Rows.callWith_type1 (thn (ha pos pins s σ H _ I h) fun us s1 ⟨vs, H1, I1, r1, q1⟩ => ?_) he hpl) (by decide +kernel) (by decide +kernel))
  obtain ⟨a, b, rfl, ⟨xs, hqa⟩, ⟨ys, hqb⟩, q⟩ := q1
  obtain ⟨va, vb, rfl, ra, rb⟩ := vals2 r1
  cases ra
  cases rb
  obtain ⟨ia, rva, pa, za⟩ := I1.tuple hqa
  obtain ⟨ib, rvb, pb, zb⟩ := I1.tuple hqb
  refine call_zip_T (show s1.heap.IsTuple a ia.toArray from pa) (show s1.heap.IsTuple b ib.toArray from pb) fun h2 g1 g2 g3 g4 g5 hsz hk => ?_
  have hT : ({ s1 with heap := h2 } : Shared).TypeIs (.ref (s1.heap.objs.size + 4)) "zip" := ⟨_, g1, rfl⟩
  refine wpAny_pyIter_slot hT PySem.F.slot_zip_iter (wpAny_call_entry PySem.F.slot_zip_iter hT PySem.F.entry_zip_iter ?_ (PySem.F.args_zip_iter_1 _))
  show wpAny _ _ (ret (.ref (s1.heap.objs.size + 4))) _ _ _
  refine wpAny_pure ⟨_, rfl, "zip", _, hT, PySem.F.slot_zip_next.lookup, ?_⟩
  have I2 : Inv X pins σ H1 { s1 with heap := h2 } := I1.kept (t' := s1.toks) hk
  refine ⟨s1.heap.objs.size + 4, [s1.heap.objs.size + 4, s1.heap.objs.size + 2, s1.heap.objs.size + 3, s1.heap.objs.size, s1.heap.objs.size + 1], _, _, H1, rfl, I2,
    turn_zipT a b _ _ _ _ _ (fun fa fb a1 a2 a3 a4 b1 b2 b3 b4 => zap_ne s1.heap.objs.size fa fb a1 a2 a3 a4 b1 b2 b3 b4), ⟨.none, .bool false, .none, .none, ⟨.inl rfl, false, rfl⟩, g1, g2, g3, g4, g5⟩, fun c hc => ?_, q⟩
  have hge : s1.heap.objs.size ≤ c := by
    simp only [List.mem_cons, List.not_mem_nil, or_false] at hc
    rcases hc with h | h | h | h | h <;> rw [h] <;> first | exact Nat.le_refl _ | exact Nat.le_add_right _ _
  exact I1.fpOk hge (I1.hok.fresh hge)
end
end L2

namespace Y
open PySem
inductive D where
  | non | bl (b : Bool) | int (i : Int) | str (x : Str) | tup (xs : List D) | pl (xs : List D)
inductive P where
  | d (x : D) | obj (n : Nat) | scr (ns : List Int)
inductive O where
  | lst (xs : List P) | dK (kvs : List (Sum Int Str × P)) | dT (kvs : List (List (Sum Int Str) × P))
abbrev Sto := List O
abbrev Rho := List (Option P)
inductive R (α : Type) where
  | ok (a : α) (st : Sto) | ex (x : Str) (st : Sto) | no
def R.bind {α β : Type} (r : R α) (k : α → Sto → R β) : R β := match r with
  | .ok a st => k a st
  | .ex x st => .ex x st
  | .no => .no
def R.of {α : Type} (o : Option α) (st : Sto) : R α := match o with
  | some a => .ok a st
  | none => .no
@[simp] theorem bind_ok {α β : Type} (a : α) (st : Sto) (k : α → Sto → R β) : (R.ok a st).bind k = k a st := rfl
@[simp] theorem bind_ex {α β : Type} (x : Str) (st : Sto) (k : α → Sto → R β) : (R.ex x st : R α).bind k = .ex x st := rfl
@[simp] theorem bind_no {α β : Type} (k : α → Sto → R β) : (R.no : R α).bind k = .no := rfl
@[simp] theorem of_some {α : Type} (a : α) (st : Sto) : R.of (some a) st = .ok a st := rfl
@[simp] theorem of_none {α : Type} (st : Sto) : R.of (none : Option α) st = .no := rfl
inductive Bop where | add | sub | mul | mod | fdiv
inductive Cop where | lt | le | gt | ge | eq | ne | isin | notin | isN | notN
inductive Bf where | len | min2 | max2 | all | any | sum | str | tuple
mutual
inductive E where
  | var (i : Nat)
  | cst (x : D)
  | op (o : Bop) (a b : E)
  | neg (a : E)
  | not (a : E)
  | cmp (o : Cop) (a b : E)
  | chain (o o' : Cop) (a b c : E)
  | and (es : List E)
  | or (es : List E)
  | ite (c a b : E)
  | tup (es : List E)
  | lst (m : Bool) (l : L)
  | call (f : Nat) (es : List E)
  | isi (a : E) (T : String)
  | bf (f : Bf) (es : List E)
  | ix (a b : E)
  | slice (a : E) (lo hi : Option E)
  | rev (a : E)
  | join (a : E) (b : E)
  | tget (t : List (Str × Int)) (a : E)
  | dnew (t : Bool)
  | dget (a b : E)
  | dget2 (a b c : E)
  | index (a b : E)
inductive L where
  | disp (es : List E)
  | comp (it : W) (ts : Nat) (js : List Nat) (c : Option E) (e : E)
  | list (e : E)
  | rng (es : List E)
  | zip (a b : E)
  | compO (e : E) (js : List Nat) (c : Option E) (ee : E)
inductive W where
  | ex (e : E)
  | rng (es : List E)
  | enum (e : E)
  | zip (a b : E)
end
inductive Tg where
  | nm (i : Nat)
  | tup (is : List Nat)
  | two (i j : Nat)
inductive S where
  | ret (e : E)
  | retN
  | set (i : Nat) (e : E)
  | ifs (c : E) (a b : List S)
  | for_ (t : Tg) (w : W) (b : List S)
  | while_ (c : E) (b : List S)
  | forO (t : Tg) (e : E) (b : List S)
  | expr (e : E)
  | app (a e : E)
  | put (a i e : E)
  | pass
  | brk
  | cont
inductive Fl where
  | nx (r : Rho) | bk (r : Rho) | ct (r : Rho) | rt (v : P)
def lineN : Nat := 16777216
def bigI : Int := 18446744073709551616
def rngI : Int := 4611686018427387904
def opI (o : Bop) (i j : Int) : Option Int := match o with
  | .add => some (i + j)
  | .sub => some (i - j)
  | .mul => if (-bigI < i ∧ i < bigI) ∨ (-bigI < j ∧ j < bigI) then some (i * j) else none
  | .mod => if 0 < j then some (i % j) else none
  | .fdiv => if 0 < j ∧ j < 1073741824 then some (i / j) else none
def dval : P → Option D
  | .d x => some x
  | _ => none
def dvals : List P → Option (List D)
  | [] => some []
  | p :: r => (dval p).bind fun x => (dvals r).map fun xs => x :: xs
def litems (st : Sto) : P → Option (List P)
  | .d (.pl xs) => some (xs.map .d)
  | .obj n => match st[n]? with
    | some (.lst xs) => some xs
    | _ => none
  | _ => none
def opP (o : Bop) (a b : P) (st : Sto) : Option P := match o, a, b with
  | o, .d (.int i), .d (.int j) => (opI o i j).map fun k => .d (.int k)
  | .add, .d (.str x), .d (.str y) => if x.length + y.length ≤ lineN then some (.d (.str (x ++ y))) else none
  | .add, .d (.tup xs), .d (.tup ys) => if xs.length + ys.length ≤ lineN then some (.d (.tup (xs ++ ys))) else none
  | .mul, .d (.tup xs), .d (.int k) => if k = 1 then some (.d (.tup xs)) else if k = 2 ∧ 0 < xs.length ∧ xs.length ≤ 100000 then some (.d (.tup (xs ++ xs))) else if k = 3 ∧ 0 < xs.length ∧ xs.length ≤ 100000 then some (.d (.tup (xs ++ xs ++ xs))) else none
  | .add, a, b => (litems st a).bind fun xs => (litems st b).bind fun ys => (dvals (xs ++ ys)).bind fun zs => if zs.length ≤ lineN then some (.d (.pl zs)) else none
  | _, _, _ => none
mutual
def eqD : D → D → Bool
  | .non, .non => true
  | .bl a, .bl b => a == b
  | .bl a, .int j => (if a then 1 else 0) == j
  | .int i, .bl b => i == (if b then 1 else 0)
  | .int i, .int j => i == j
  | .str x, .str y => x == y
  | .tup xs, .tup ys => eqDs xs ys
  | .pl xs, .pl ys => eqDs xs ys
  | _, _ => false
def eqDs : List D → List D → Bool
  | [], [] => true
  | x :: xs, y :: ys => eqD x y && eqDs xs ys
  | _, _ => false
end
mutual
def depD : D → Nat
  | .tup xs => depDs xs + 1
  | .pl xs => depDs xs + 1
  | _ => 0
def depDs : List D → Nat
  | [] => 0
  | x :: xs => max (depD x) (depDs xs)
end
def eqO (x y : D) : Option Bool := if min (depD x) (depD y) ≤ 100 then some (eqD x y) else none
def flatD : D → Bool
  | .tup _ => false
  | .pl _ => false
  | _ => true
def cmpI (o : Cop) (i j : Int) : Option Bool := match o with
  | .lt => some (decide (i < j))
  | .le => some (decide (i ≤ j))
  | .gt => some (decide (j < i))
  | .ge => some (decide (j ≤ i))
  | _ => none
def sitems (st : Sto) : P → Option (List P)
  | .d (.tup xs) => some (xs.map .d)
  | .scr ns => some (ns.map fun i => .d (.int i))
  | p => litems st p
def isNon : P → Bool
  | .d .non => true
  | _ => false
def froz (st : Sto) : P → Option D
  | .d x => some x
  | .obj n => match st[n]? with
    | some (.lst xs) => (dvals xs).map .pl
    | _ => none
  | .scr _ => none
def argP (st : Sto) : P → Option P
  | .scr ns => some (.scr ns)
  | p => (froz st p).map .d
def argPs (st : Sto) : List P → Option (List P)
  | [] => some []
  | p :: r => (argP st p).bind fun x => (argPs st r).map fun xs => x :: xs
def keyOf : P → Option (Sum Int Str)
  | .d (.int i) => some (.inl i)
  | .d (.str x) => some (.inr x)
  | _ => none
def keysOf : List D → Option (List (Sum Int Str))
  | [] => some []
  | x :: r => (keyOf (.d x)).bind fun k => (keysOf r).map fun ks => k :: ks
def keyT : P → Option (List (Sum Int Str))
  | .d (.tup xs) => keysOf xs
  | _ => none
def valP {κ : Type} [DecidableEq κ] (kvs : List (κ × P)) (k : κ) : Option P := (kvs.find? fun kv => decide (kv.1 = k)).map (·.2)
def putP {κ : Type} [DecidableEq κ] (kvs : List (κ × P)) (k : κ) (v : P) : List (κ × P) :=
  if (kvs.any fun kv => decide (kv.1 = k)) = true then kvs.map (fun kv => if kv.1 = k then (kv.1, v) else kv) else kvs ++ [(k, v)]
def dgetO (o : O) (k : P) : Option (Option P) := match o with
  | .lst _ => none
  | .dK kvs => (keyOf k).map fun k => valP kvs k
  | .dT kvs => (keyT k).map fun k => valP kvs k
def isDic : O → Bool
  | .lst _ => false
  | _ => true
def theO (st : Sto) : P → Option O
  | .obj n => st[n]?
  | _ => none
def theDic (st : Sto) (p : P) : Option O := (theO st p).bind fun o => if isDic o then some o else none
def lenO : O → Nat
  | .lst xs => xs.length
  | .dK kvs => kvs.length
  | .dT kvs => kvs.length
def dputO (o : O) (k v : P) : Option O := match o with
  | .lst _ => none
  | .dK kvs => if kvs.length < lineN then (keyOf k).map fun k => .dK (putP kvs k v) else none
  | .dT kvs => if kvs.length < lineN then (keyT k).map fun k => .dT (putP kvs k v) else none
def intP (o : Cop) (a b : P) : Option Bool := match a, b with
  | .d (.int i), .d (.int j) => cmpI o i j
  | _, _ => none
def inP (a b : P) (st : Sto) : Option Bool := match theDic st b with
  | some o => (dgetO o a).map fun r => r.isSome
  | none => (dval a).bind fun x => (sitems st b).bind fun ps => (dvals ps).bind fun ys => if flatD x && ys.all flatD then some (ys.any fun y => eqD y x) else none
def cmpP (o : Cop) (a b : P) (st : Sto) : Option Bool := match o with
  | .eq => (froz st a).bind fun x => (froz st b).bind fun y => eqO x y
  | .ne => (froz st a).bind fun x => (froz st b).bind fun y => (eqO x y).map not
  | .isN => if isNon b then some (isNon a) else none
  | .notN => if isNon b then some (!isNon a) else none
  | .isin => inP a b st
  | .notin => (inP a b st).map not
  | _ => intP o a b
def truP (st : Sto) : P → Option Bool
  | .d .non => some false
  | .d (.bl b) => some b
  | .d (.int i) => some (i != 0)
  | .d (.str x) => if x.length ≤ lineN then some ((x.length : Int) != 0) else none
  | .d (.tup xs) => some (!xs.isEmpty)
  | p => (litems st p).map fun xs => !xs.isEmpty
def tyD : P → Sto → Option String
  | .d .non, _ => some "NoneType"
  | .d (.bl _), _ => some "bool"
  | .d (.int _), _ => some "int"
  | .d (.str _), _ => some "str"
  | .d (.tup _), _ => some "tuple"
  | .d (.pl _), _ => some "list"
  | .obj n, st => match st[n]? with
    | some (.lst _) => some "list"
    | _ => none
  | .scr _, _ => none
def tyIs (t T : String) : Bool := t == T || (t == "bool" && T == "int")
def ixN (n : Nat) (i : Int) : Option Nat := if 0 ≤ i then (if i < n then some i.toNat else none) else if -(n : Int) ≤ i then some (i + n).toNat else none
def atI {α : Type} (xs : List α) (i : Int) : Option α := (ixN xs.length i).bind fun j => xs[j]?
def sIx (n d : Nat) : Option Int → Nat
  | none => d
  | some i => if i < 0 then (i + n).toNat else min i.toNat n
def cutL {α : Type} (xs : List α) (lo hi : Option Int) : List α := (xs.drop (sIx xs.length 0 lo)).take (sIx xs.length xs.length hi - sIx xs.length 0 lo)
def partI : Option P → Option (Option Int)
  | none => some none
  | some (.d (.int i)) => some (some i)
  | _ => none
def sliceP (a : P) (lo hi : Option P) (st : Sto) : Option P :=
  (partI lo).bind fun l => (partI hi).bind fun h => match a with
    | .d (.tup xs) => some (.d (.tup (cutL xs l h)))
    | p => (litems st p).bind fun xs => (dvals (cutL xs l h)).map fun ys => .d (.pl ys)
def ixS (a b : P) (st : Sto) : Option P := match b with
  | .d (.int i) => (sitems st a).bind fun xs => atI xs i
  | _ => none
def ixP (a b : P) (st : Sto) : Option P := match theDic st a with
  | some o => (dgetO o b).bind id
  | none => ixS a b st
def appP (a v : P) (st : Sto) : Option Sto := match a with
  | .obj n => match st[n]? with
    | some (.lst xs) => if xs.length < lineN then some (st.set n (.lst (xs ++ [v]))) else none
    | _ => none
  | _ => none
def putO (o : O) (k v : P) : Option O := match o with
  | .lst xs => match k with
    | .d (.int i) => (ixN xs.length i).map fun j => .lst (xs.set j v)
    | _ => none
  | o => dputO o k v
def setP (a k v : P) (st : Sto) : Option Sto := match a with
  | .obj n => (st[n]?).bind fun o => (putO o k v).map fun o' => st.set n o'
  | _ => none
def boolsOf : List P → Option (List Bool)
  | [] => some []
  | .d (.bl b) :: r => (boolsOf r).map fun bs => b :: bs
  | _ => none
def intsOf : List P → Option (List Int)
  | [] => some []
  | .d (.int b) :: r => (intsOf r).map fun bs => b :: bs
  | _ => none
def lkS : List (Str × Int) → Str → Option Int
  | [], _ => none
  | (y, i) :: r, x => if x = y then some i else lkS r x
end Y

namespace Y
open PySem
section
variable (C : Nat → List P → Sto → R P)
def getV (r : Rho) (i : Nat) : Option P := (r[i]?).join
def bfP (f : Bf) (ps : List P) (st : Sto) : Option P := match f, ps with
  | .len, [p] => match p with
    | .d (.str x) => if x.length ≤ lineN then some (.d (.int x.length)) else none
    | p => match theDic st p with
      | some o => some (.d (.int (lenO o)))
      | none => (sitems st p).map fun xs => .d (.int xs.length)
  | .min2, [.d (.int i), .d (.int j)] => some (.d (.int (min i j)))
  | .max2, [.d (.int i), .d (.int j)] => some (.d (.int (max i j)))
  | .all, [p] => (litems st p).bind fun xs => (boolsOf xs).map fun bs => .d (.bl (bs.all id))
  | .any, [p] => (litems st p).bind fun xs => (boolsOf xs).map fun bs => .d (.bl (bs.any id))
  | .str, [.d (.int i)] => if i.natAbs.log2 < 1920 then some (.d (.str (Str.ofString (toString i)))) else none
  | .tuple, [p] => (sitems st p).bind fun xs => (dvals xs).map fun ys => .d (.tup ys)
  | _, _ => none
def ditems : P → Option (List P)
  | .d (.tup xs) => some (xs.map .d)
  | .d (.pl xs) => some (xs.map .d)
  | _ => none
def rngL (lo hi : Int) : List P := (List.range (hi - lo).toNat).map fun k => .d (.int (lo + (k : Nat)))
def rngP : List P → Option (List P)
  | [.d (.int j)] => if -rngI ≤ j ∧ j < rngI then some (rngL 0 j) else none
  | [.d (.int i), .d (.int j)] => if -rngI ≤ i ∧ i < rngI ∧ -rngI ≤ j ∧ j < rngI then some (rngL i j) else none
  | _ => none
def enumL : Nat → List D → List P
  | _, [] => []
  | k, x :: xs => .d (.tup [.int k, x]) :: enumL (k + 1) xs
def indexP (a b : P) (st : Sto) : Option P := match b with
  | .d (.int i) => (litems st a).bind fun xs => (intsOf xs).bind fun ns => if i ∈ ns then some (.d (.int (ns.idxOf i : Nat))) else none
  | _ => none
def getP (a k x : P) (st : Sto) : Option P := (theDic st a).bind fun o => (dgetO o k).map fun r => r.getD x
def zipP : P → P → Option (List D)
  | .d (.tup xs), .d (.tup ys) => some ((xs.zip ys).map fun p => .tup [p.1, p.2])
  | _, _ => none
def compL (g : P → Rho) (c : Rho → Sto → R Bool) (e : Rho → Sto → R P) : List P → Sto → R (List P)
  | [], st => .ok [] st
  | p :: r, st => (c (g p) st).bind fun b st1 => if b then (e (g p) st1).bind fun y st2 => (compL g c e r st2).bind fun ys st3 => .ok (y :: ys) st3 else compL g c e r st1
def atO (n : Nat) (st : Sto) (i : Nat) : Option (Option P) := match st[n]? with
  | some (.lst xs) => some xs[i]?
  | _ => none
def compO (n : Nat) (g : P → Rho) (c : Rho → Sto → R Bool) (e : Rho → Sto → R P) : Nat → Nat → Sto → R (List P)
  | 0, _, _ => .no
  | k + 1, i, st => match atO n st i with
    | none => .no
    | some none => .ok [] st
    | some (some p) => (c (g p) st).bind fun b st1 => if b then (e (g p) st1).bind fun y st2 => (compO n g c e k (i + 1) st2).bind fun ys st3 => .ok (y :: ys) st3 else compO n g c e k (i + 1) st1
def blockR (js : List Nat) (r : Rho) : Rho := js.map fun j => (r[j]?).join
mutual
def evalE : E → Rho → Sto → R P
  | .var i, r, st => R.of (getV r i) st
  | .cst x, _, st => .ok (.d x) st
  | .op o a b, r, st => (evalE a r st).bind fun x st1 => (evalE b r st1).bind fun y st2 => R.of (opP o x y st2) st2
  | .neg a, r, st => (evalE a r st).bind fun x st1 => match x with
    | .d (.int i) => .ok (.d (.int (-i))) st1
    | _ => .no
  | .not a, r, st => (evalE a r st).bind fun x st1 => (R.of (truP st1 x) st1).bind fun b st2 => .ok (.d (.bl (!b))) st2
  | .cmp o a b, r, st => (evalE a r st).bind fun x st1 => (evalE b r st1).bind fun y st2 => (R.of (cmpP o x y st2) st2).bind fun b st3 => .ok (.d (.bl b)) st3
  | .chain o o' a b c, r, st => (evalE a r st).bind fun x st1 => (evalE b r st1).bind fun y st2 => (R.of (cmpP o x y st2) st2).bind fun k st3 =>
    if k then (evalE c r st3).bind fun z st4 => (R.of (cmpP o' y z st4) st4).bind fun b st5 => .ok (.d (.bl b)) st5 else .ok (.d (.bl false)) st3
  | .and es, r, st => evalA es r st
  | .or es, r, st => evalO es r st
  | .ite c a b, r, st => (evalE c r st).bind fun x st1 => (R.of (truP st1 x) st1).bind fun k st2 => if k then evalE a r st2 else evalE b r st2
  | .tup es, r, st => (evalEs es r st).bind fun ps st1 => if ps.length ≤ lineN then (R.of (dvals ps) st1).bind fun xs st2 => .ok (.d (.tup xs)) st2 else .no
  | .lst m l, r, st => (evalL l r st).bind fun ps st1 => if m then .ok (.obj st1.length) (st1 ++ [.lst ps]) else (R.of (dvals ps) st1).bind fun xs st2 => .ok (.d (.pl xs)) st2
  | .call f es, r, st => (evalEs es r st).bind fun ps st1 => C f ps st1
  | .isi a T, r, st => (evalE a r st).bind fun x st1 => (R.of (tyD x st1) st1).bind fun t st2 => .ok (.d (.bl (tyIs t T))) st2
  | .bf f es, r, st => (evalEs es r st).bind fun ps st1 => R.of (bfP f ps st1) st1
  | .ix a b, r, st => (evalE a r st).bind fun x st1 => (evalE b r st1).bind fun y st2 => R.of (ixP x y st2) st2
  | .slice a lo hi, r, st => (evalE a r st).bind fun x st1 => (evalM lo r st1).bind fun l st2 => (evalM hi r st2).bind fun h st3 => R.of (sliceP x l h st3) st3
  | .rev a, r, st => (evalE a r st).bind fun x st1 => match x with
    | .d (.tup xs) => .ok (.d (.tup xs.reverse)) st1
    | _ => .no
  | .join a b, r, st => .no
  | .tget t a, r, st => (evalE a r st).bind fun x st1 => match x with
    | .d (.str k) => .ok (.d (match lkS t k with | some i => .int i | none => .non)) st1
    | _ => .no
  | .dnew t, r, st => .ok (.obj st.length) (st ++ [if t then .dT [] else .dK []])
  | .dget a b, r, st => (evalE a r st).bind fun x st1 => (R.of (theDic st1 x) st1).bind fun _ st1 => (evalE b r st1).bind fun y st2 => R.of (getP x y (.d .non) st2) st2
  | .dget2 a b c, r, st => (evalE a r st).bind fun x st1 => (R.of (theDic st1 x) st1).bind fun _ st1 => (evalE b r st1).bind fun y st2 => (evalE c r st2).bind fun z st3 => R.of (getP x y z st3) st3
  | .index a b, r, st => (evalE a r st).bind fun x st1 => (R.of (litems st1 x) st1).bind fun _ st1 => (evalE b r st1).bind fun y st2 => R.of (indexP x y st2) st2
def evalM : Option E → Rho → Sto → R (Option P)
  | none, _, st => .ok none st
  | some e, r, st => (evalE e r st).bind fun x st1 => .ok (some x) st1
def evalEs : List E → Rho → Sto → R (List P)
  | [], _, st => .ok [] st
  | e :: es, r, st => (evalE e r st).bind fun x st1 => (evalEs es r st1).bind fun xs st2 => .ok (x :: xs) st2
def evalA : List E → Rho → Sto → R P
  | [], _, _ => .no
  | [e], r, st => evalE e r st
  | e :: e' :: es, r, st => (evalE e r st).bind fun x st1 => match x with
    | .d (.bl b) => if b then evalA (e' :: es) r st1 else .ok (.d (.bl false)) st1
    | _ => .no
def evalO : List E → Rho → Sto → R P
  | [], _, _ => .no
  | [e], r, st => evalE e r st
  | e :: e' :: es, r, st => (evalE e r st).bind fun x st1 => match x with
    | .d (.bl b) => if b then .ok (.d (.bl true)) st1 else evalO (e' :: es) r st1
    | _ => .no
def evalL : L → Rho → Sto → R (List P)
  | .disp es, r, st => (evalEs es r st).bind fun ps st1 => if ps.length ≤ lineN then .ok ps st1 else .no
  | .comp w ts js c e, r, st => (evalW w r st).bind fun ps st1 => if ts = 1 ∧ ps.length ≤ lineN then compL (fun p => some p :: blockR js r) (evalC c) (fun r' st' => evalE e r' st') ps st1 else .no
  | .list e, r, st => (evalE e r st).bind fun x st1 => R.of (sitems st1 x) st1
  | .rng es, r, st => (evalEs es r st).bind fun ps st1 => (R.of (rngP ps) st1).bind fun qs st2 => if qs.length ≤ lineN then .ok qs st2 else .no
  | .zip a b, r, st => (evalE a r st).bind fun x st1 => (evalE b r st1).bind fun y st2 => (R.of (zipP x y) st2).bind fun zs st3 => .ok (zs.map .d) st3
  | .compO e js c ee, r, st => (evalE e r st).bind fun x st1 => match x with
    | .obj n => compO n (fun p => some p :: blockR js r) (evalC c) (fun r' st' => evalE ee r' st') lineN 0 st1
    | _ => .no
def evalC : Option E → Rho → Sto → R Bool
  | none, _, st => .ok true st
  | some c, r, st => (evalE c r st).bind fun x st2 => R.of (truP st2 x) st2
def evalW : W → Rho → Sto → R (List P)
  | .ex e, r, st => (evalE e r st).bind fun x st1 => R.of (ditems x) st1
  | .rng es, r, st => (evalEs es r st).bind fun ps st1 => R.of (rngP ps) st1
  | .enum e, r, st => (evalE e r st).bind fun x st1 => match x with
    | .d (.tup xs) => .ok (enumL 0 xs) st1
    | _ => .no
  | .zip a b, r, st => (evalE a r st).bind fun x st1 => (evalE b r st1).bind fun y st2 => (R.of (zipP x y) st2).bind fun zs st3 => .ok (zs.map .d) st3
end
def tgR : Tg → P → Rho → Option Rho
  | .nm i, p, r => some (r.set i (some p))
  | .tup _, _, _ => none
  | .two i j, p, r => match p with
    | .d (.tup [x, y]) => some ((r.set i (some (.d x))).set j (some (.d y)))
    | _ => none
def forL (g : P → Rho → Option Rho) (b : Rho → Sto → R Fl) : List P → Rho → Sto → R Fl
  | [], r, st => .ok (.nx r) st
  | p :: ps, r, st => (R.of (g p r) st).bind fun r1 st0 => (b r1 st0).bind fun f st1 => match f with
    | .nx r2 => forL g b ps r2 st1
    | .ct r2 => forL g b ps r2 st1
    | .bk r2 => .ok (.nx r2) st1
    | .rt v => .ok (.rt v) st1
def forO (n : Nat) (g : P → Rho → Option Rho) (b : Rho → Sto → R Fl) : Nat → Nat → Rho → Sto → R Fl
  | 0, _, _, _ => .no
  | k + 1, i, r, st => match atO n st i with
    | none => .no
    | some none => .ok (.nx r) st
    | some (some p) => (R.of (g p r) st).bind fun r1 st0 => (b r1 st0).bind fun f st1 => match f with
      | .nx r2 => forO n g b k (i + 1) r2 st1
      | .ct r2 => forO n g b k (i + 1) r2 st1
      | .bk r2 => .ok (.nx r2) st1
      | .rt v => .ok (.rt v) st1
def whileL (c : Rho → Sto → R Bool) (b : Rho → Sto → R Fl) : Nat → Rho → Sto → R Fl
  | 0, _, _ => .no
  | n + 1, r, st => (c r st).bind fun k st1 => if k then (b r st1).bind fun f st2 => match f with
    | .nx r2 => whileL c b n r2 st2
    | .ct r2 => whileL c b n r2 st2
    | .bk r2 => .ok (.nx r2) st2
    | .rt v => .ok (.rt v) st2 else .ok (.nx r) st1
def runT (d : Rho → Sto → R P) (r : Rho) (st : Sto) : R Bool := (d r st).bind fun x st1 => R.of (truP st1 x) st1
def mostW : Nat := 1000000
mutual
def execS : S → Rho → Sto → R Fl
  | .ret e, r, st => (evalE C e r st).bind fun v st1 => .ok (.rt v) st1
  | .retN, r, st => .ok (.rt (.d .non)) st
  | .set i e, r, st => (evalE C e r st).bind fun v st1 => .ok (.nx (r.set i (some v))) st1
  | .ifs c a b, r, st => (runT (evalE C c) r st).bind fun k st1 => if k then execSs a r st1 else execSs b r st1
  | .for_ t w b, r, st => (evalW C w r st).bind fun ps st1 => forL (tgR t) (execSs b) ps r st1
  | .while_ c b, r, st => whileL (runT (evalE C c)) (execSs b) mostW r st
  | .forO t e b, r, st => (evalE C e r st).bind fun x st1 => match x with
    | .obj n => forO n (tgR t) (execSs b) mostW 0 r st1
    | _ => .no
  | .expr e, r, st => (evalE C e r st).bind fun _ st1 => .ok (.nx r) st1
  | .app a e, r, st => (evalE C a r st).bind fun x st1 => (R.of (litems st1 x) st1).bind fun _ st1 => (evalE C e r st1).bind fun v st2 => (R.of (appP x v st2) st2).bind fun st3 _ => .ok (.nx r) st3
  | .put a i e, r, st => (evalE C e r st).bind fun v st1 => (evalE C a r st1).bind fun x st2 => (evalE C i r st2).bind fun k st3 => (R.of (setP x k v st3) st3).bind fun st4 _ => .ok (.nx r) st4
  | .pass, r, st => .ok (.nx r) st
  | .brk, r, st => .ok (.bk r) st
  | .cont, r, st => .ok (.ct r) st
def execSs : List S → Rho → Sto → R Fl
  | [], r, st => .ok (.nx r) st
  | s :: rest, r, st => (execS s r st).bind fun f st1 => match f with
    | .nx r1 => execSs rest r1 st1
    | .bk r1 => .ok (.bk r1) st1
    | .ct r1 => .ok (.ct r1) st1
    | .rt v => .ok (.rt v) st1
end
end
structure Fn where
  np : Nat
  nn : Nat
  body : List S
  sh : Bool := false
mutual
def noPl : D → Bool
  | .pl _ => false
  | .tup xs => noPls xs
  | _ => true
def noPls : List D → Bool
  | [] => true
  | x :: xs => noPl x && noPls xs
end
def isObj : P → Bool
  | .obj _ => true
  | _ => false
def outF (r : R Fl) : Option D := match r with
  | .ok (.rt p) st => froz st p
  | .ok (.nx _) _ => some .non
  | _ => none
def startR (nn : Nat) (ps : List P) : Rho := ps.map some ++ List.replicate (nn - ps.length) none
def runF (C : Nat → List P → Sto → R P) (F : Fn) (ps : List P) : Option D := if ps.length = F.np then outF (execSs C F.body (startR F.nn ps) []) else none
def backP (ps : List P) (d : D) (st : Sto) : R P := if ps.any isObj && !noPl d then .no else .ok (.d d) st
def outS (r : R Fl) : R P := match r with
  | .ok (.rt p) st => .ok p st
  | .ok (.nx _) st => .ok (.d .non) st
  | _ => .no
def callC (Fs : List Fn) : Nat → Nat → List P → Sto → R P
  | 0, _, _, _ => .no
  | n + 1, f, ps, st => match Fs[f]? with
    | none => .no
    | some F => if F.sh then (if ps.length = F.np then outS (execSs (callC Fs n) F.body (startR F.nn ps) st) else .no) else match argPs st ps with
      | none => .no
      | some qs => match runF (callC Fs n) F qs with
        | none => .no
        | some d => backP ps d st
end Y

namespace Y
open PySem L2
mutual
def RelD (K : PySem.W.Frag) (H : Hp) (m Z : List Addr) : D → V → Prop
  | .non, v => v = .non
  | .bl b, v => v = .bl b
  | .int i, v => v = .int i
  | .str x, v => v = .str x
  | .tup xs, v => ∃ a us, v = .ref a ∧ H a = some (.tup us) ∧ RelDs K H m Z xs us
  | .pl xs, v => ∃ a us, v = .ref a ∧ Rd H a (.lst us) ∧ a ∉ m ∧ a ∉ Z ∧ RelDs K H m Z xs us
def RelDs (K : PySem.W.Frag) (H : Hp) (m Z : List Addr) : List D → List V → Prop
  | [], us => us = []
  | x :: xs, us => ∃ v vs, us = v :: vs ∧ RelD K H m Z x v ∧ RelDs K H m Z xs vs
end
def FrzL (K : PySem.W.Frag) (H : Hp) (a : Addr) (us : List V) : Prop := (∃ o, H a = some (.frz o (.lst us))) ∨
  ∃ (o : Obj) (its : Array Value) (n : Nat), K.lookup a = some o ∧ o.cls = .type "list" ∧ o.dict = none ∧ o.data = .seq its n ∧ its.size ≤ sizeLine ∧ Vals us its.toList
theorem FrzL.sq {K : PySem.W.Frag} {H : Hp} {a : Addr} {us : List V} (h : FrzL K H a us) : SqL K H a us := by
  rcases h with h | h
  · exact .inl (.inr h)
  · exact .inr h
def RelP (K : PySem.W.Frag) (H : Hp) (m Z : List Addr) : P → V → Prop
  | .d x, v => RelD K H m Z x v
  | .obj n, v => ∃ a, m[n]? = some a ∧ v = .ref a
  | .scr ns, v => ∃ a, v = .ref a ∧ FrzL K H a (ns.map V.int)
def RelPs (K : PySem.W.Frag) (H : Hp) (m Z : List Addr) : List P → List V → Prop
  | [], us => us = []
  | x :: xs, us => ∃ v vs, us = v :: vs ∧ RelP K H m Z x v ∧ RelPs K H m Z xs vs
def RelKs {κ : Type} (K : PySem.W.Frag) (H : Hp) (m Z : List Addr) : List (κ × P) → List (κ × V) → Prop
  | [], us => us = []
  | x :: xs, us => ∃ v vs, us = (x.1, v) :: vs ∧ RelP K H m Z x.2 v ∧ RelKs K H m Z xs vs
def AbsO (K : PySem.W.Frag) (H : Hp) (m Z : List Addr) (a : Addr) : O → Prop
  | .lst ps => ∃ us, H a = some (.lst us) ∧ RelPs K H m Z ps us
  | .dK kvs => ∃ us, H a = some (.dK us) ∧ RelKs K H m Z kvs us
  | .dT kvs => ∃ us, H a = some (.dT us) ∧ RelKs K H m Z kvs us
theorem RelPs.mono {K : PySem.W.Frag} {H H' : Hp} {m m' Z Z' : List Addr} (f : ∀ p v, RelP K H m Z p v → RelP K H' m' Z' p v) : ∀ {xs : List P} {us : List V}, RelPs K H m Z xs us → RelPs K H' m' Z' xs us
  | [], _, h => h
  | x :: xs, us, h => by
    obtain ⟨v, vs, e, r, rs⟩ := (show ∃ v vs, us = v :: vs ∧ RelP K H m Z x v ∧ RelPs K H m Z xs vs from h)
    exact ⟨v, vs, e, f _ _ r, RelPs.mono f rs⟩
theorem RelKs.mono {κ : Type} {K : PySem.W.Frag} {H H' : Hp} {m m' Z Z' : List Addr} (f : ∀ p v, RelP K H m Z p v → RelP K H' m' Z' p v) : ∀ {xs : List (κ × P)} {us : List (κ × V)}, RelKs K H m Z xs us → RelKs K H' m' Z' xs us
  | [], _, h => h
  | x :: xs, us, h => by
    obtain ⟨v, vs, e, r, rs⟩ := (show ∃ v vs, us = (x.1, v) :: vs ∧ RelP K H m Z x.2 v ∧ RelKs K H m Z xs vs from h)
    exact ⟨v, vs, e, f _ _ r, RelKs.mono f rs⟩
theorem AbsO.mono {K : PySem.W.Frag} {H H' : Hp} {m m' Z Z' : List Addr} {a : Addr} {o : O} (he : ∀ u, H a = some u → H' a = some u) (f : ∀ p v, RelP K H m Z p v → RelP K H' m' Z' p v) (h : AbsO K H m Z a o) : AbsO K H' m' Z' a o := by
  cases o with
  | lst ps => obtain ⟨us, e, r⟩ := h; exact ⟨us, he _ e, r.mono f⟩
  | dK ps => obtain ⟨us, e, r⟩ := h; exact ⟨us, he _ e, r.mono f⟩
  | dT ps => obtain ⟨us, e, r⟩ := h; exact ⟨us, he _ e, r.mono f⟩
theorem AbsO.trk {K : PySem.W.Frag} {H : Hp} {m Z : List Addr} {a : Addr} {o : O} (h : AbsO K H m Z a o) : H a ≠ none ∧ (∀ us, H a ≠ some (.tup us)) ∧ ∀ o' u, H a ≠ some (.frz o' u) := by
  cases o with
  | lst ps => obtain ⟨us, e, r⟩ := h; rw [e]; exact ⟨(fun z => nomatch z), (fun _ z => nomatch z), (fun _ _ z => nomatch z)⟩
  | dK ps => obtain ⟨us, e, r⟩ := h; rw [e]; exact ⟨(fun z => nomatch z), (fun _ z => nomatch z), (fun _ _ z => nomatch z)⟩
  | dT ps => obtain ⟨us, e, r⟩ := h; rw [e]; exact ⟨(fun z => nomatch z), (fun _ z => nomatch z), (fun _ _ z => nomatch z)⟩
structure AbsSt (K : PySem.W.Frag) (H : Hp) (m Z : List Addr) (st : Sto) : Prop where
  len : m.length = st.length
  nd : m.Nodup
  at_ : ∀ (n : Nat) (o : O), st[n]? = some o → ∃ a, m[n]? = some a ∧ AbsO K H m Z a o
  zt : ∀ a ∈ Z, H a ≠ none
  zm : ∀ a ∈ Z, a ∉ m
structure AbsR (K : PySem.W.Frag) (H : Hp) (m Z : List Addr) (r : Rho) (σ : St) : Prop where
  len : r.length = σ.length
  at_ : ∀ (i : Nat) (p : P), r[i]? = some (some p) → ∃ v, σ[i]? = some (some v) ∧ RelP K H m Z p v
structure Le (K : PySem.W.Frag) (m : List Addr) (H : Hp) (m' : List Addr) (H' : Hp) : Prop where
  pre : ∃ t, m' = m ++ t
  tup : ∀ a xs, H a = some (.tup xs) → H' a = some (.tup xs)
  keep : ∀ a u, H a = some u → a ∉ m → H' a = some u
  new : ∀ a ∈ m', a ∈ m ∨ H a = none
  trk : ∀ a, H a ≠ none → H' a ≠ none
  frz : ∀ a o u, H a = some (.frz o u) → H' a = some (.frz o u)
section
variable {K : PySem.W.Frag} {H H' H1 H2 : Hp} {m m' m1 m2 Z : List Addr} {α β : Type}
theorem rd_ne {a : Addr} {u : HO} (h : Rd H a u) : H a ≠ none := by
  rcases h with h | ⟨o, h⟩ <;> (rw [h]; exact fun z => nomatch z)
theorem Le.refl : Le K m H m H := ⟨⟨[], by simp⟩, fun _ _ h => h, fun _ _ h _ => h, fun _ h => .inl h, fun _ h => h, fun _ _ _ h => h⟩
theorem Le.trans (a : Le K m H m1 H1) (b : Le K m1 H1 m2 H2) : Le K m H m2 H2 where
  pre := by
    obtain ⟨t, e⟩ := a.pre
    obtain ⟨u, e'⟩ := b.pre
    exact ⟨t ++ u, by rw [e', e, List.append_assoc]⟩
  tup := fun c xs h => b.tup c xs (a.tup c xs h)
  keep := fun c u h hc => b.keep c u (a.keep c u h hc) fun z => by
    rcases a.new c z with q | q
    · exact hc q
    · rw [h] at q; cases q
  new := fun c hc => by
    rcases b.new c hc with q | q
    · exact a.new c q
    · cases e : H c with
      | none => exact .inr rfl
      | some o => exact absurd q (a.trk c (by rw [e]; exact fun z => nomatch z))
  trk := fun c h => b.trk c (a.trk c h)
  frz := fun c o u h => b.frz c o u (a.frz c o u h)
theorem ne_same {a : Addr} (e : Same H H') (h : H a ≠ none) : H' a ≠ none := by
  cases q : H a with
  | none => exact absurd q h
  | some o => rw [e _ _ q]; exact fun z => nomatch z
theorem Le.same (e : Same H H') : Le K m H m H' := ⟨⟨[], by simp⟩, fun _ _ h => e _ _ h, fun _ _ h _ => e _ _ h, fun _ h => .inl h, fun _ h => ne_same e h, fun _ _ _ h => e _ _ h⟩
theorem Le.rd (le : Le K m H m' H') {a : Addr} {u : HO} (h : Rd H a u) (hm : a ∉ m) : Rd H' a u := by
  rcases h with h | ⟨o, h⟩
  · exact .inl (le.keep _ _ h hm)
  · exact .inr ⟨o, le.keep _ _ h hm⟩
mutual
theorem RelD.le (le : Le K m H m' H') : ∀ {x : D} {v : V}, RelD K H m Z x v → RelD K H' m' Z x v
  | .non, _, h => h
  | .bl _, _, h => h
  | .int _, _, h => h
  | .str _, _, h => h
  | .tup xs, v, h => by
    obtain ⟨a, us, e, q, r⟩ := (show ∃ a us, v = .ref a ∧ H a = some (.tup us) ∧ RelDs K H m Z xs us from h)
    exact ⟨a, us, e, le.tup _ _ q, RelDs.le le r⟩
  | .pl xs, v, h => by
    obtain ⟨a, us, e, q, hm, hz, r⟩ := (show ∃ a us, v = .ref a ∧ Rd H a (.lst us) ∧ a ∉ m ∧ a ∉ Z ∧ RelDs K H m Z xs us from h)
    refine ⟨a, us, e, le.rd q hm, fun z => ?_, hz, RelDs.le le r⟩
    rcases le.new a z with y | y
    · exact hm y
    · exact rd_ne q y
theorem RelDs.le (le : Le K m H m' H') : ∀ {xs : List D} {us : List V}, RelDs K H m Z xs us → RelDs K H' m' Z xs us
  | [], _, h => h
  | x :: xs, us, h => by
    obtain ⟨v, vs, e, r, rs⟩ := (show ∃ v vs, us = v :: vs ∧ RelD K H m Z x v ∧ RelDs K H m Z xs vs from h)
    exact ⟨v, vs, e, RelD.le le r, RelDs.le le rs⟩
end
theorem RelP.le (le : Le K m H m' H') : ∀ {x : P} {v : V}, RelP K H m Z x v → RelP K H' m' Z x v
  | .d _, _, h => RelD.le le h
  | .obj n, v, h => by
    obtain ⟨a, e, r⟩ := (show ∃ a, m[n]? = some a ∧ v = .ref a from h)
    obtain ⟨t, q⟩ := le.pre
    refine ⟨a, ?_, r⟩
    rw [q, List.getElem?_append_left (List.getElem?_eq_some_iff.mp e).1]
    exact e
  | .scr ns, v, h => by
    obtain ⟨a, e, r⟩ := (show ∃ a, v = .ref a ∧ FrzL K H a (ns.map V.int) from h)
    refine ⟨a, e, ?_⟩
    rcases r with ⟨o, r⟩ | r
    · exact .inl ⟨o, le.frz _ _ _ r⟩
    · exact .inr r
theorem RelPs.le (le : Le K m H m' H') : ∀ {xs : List P} {us : List V}, RelPs K H m Z xs us → RelPs K H' m' Z xs us
  | [], _, h => h
  | x :: xs, us, h => by
    obtain ⟨v, vs, e, r, rs⟩ := (show ∃ v vs, us = v :: vs ∧ RelP K H m Z x v ∧ RelPs K H m Z xs vs from h)
    exact ⟨v, vs, e, r.le le, RelPs.le le rs⟩
theorem AbsR.le {r : Rho} {σ : St} (A : AbsR K H m Z r σ) (le : Le K m H m' H') : AbsR K H' m' Z r σ := ⟨A.len, fun i p h => by
  obtain ⟨v, e, q⟩ := A.at_ i p h
  exact ⟨v, e, q.le le⟩⟩
theorem AbsSt.same {st : Sto} (A : AbsSt K H m Z st) (e : Same H H') : AbsSt K H' m Z st := by
  refine ⟨A.len, A.nd, fun n o h => ?_, fun a h => ne_same e (A.zt a h), A.zm⟩
  obtain ⟨a, q, r⟩ := A.at_ n o h
  exact ⟨a, q, r.mono (fun u hu => e _ _ hu) fun p v z => z.le (Le.same e)⟩
def Ok (K : PySem.W.Frag) (Z : List Addr) (r : R α) (m : List Addr) (H : Hp) (Q : α → Sto → List Addr → Hp → Prop) : Prop := match r with
  | .ok a st' => ∀ m' H', Le K m H m' H' → AbsSt K H' m' Z st' → Q a st' m' H'
  | _ => False
theorem Ok.le {r : R α} {Q : α → Sto → List Addr → Hp → Prop} (h : Ok K Z r m H Q) (le : Le K m H m' H') : Ok K Z r m' H' Q := by
  cases r with
  | ok a st' => exact fun m2 H2 l2 a2 => h m2 H2 (le.trans l2) a2
  | ex x st' => exact h
  | no => exact h
theorem Ok.bind {r : R α} {k : α → Sto → R β} {Q : β → Sto → List Addr → Hp → Prop} (h : Ok K Z (r.bind k) m H Q) : Ok K Z r m H (fun a st' m' H' => Ok K Z (k a st') m' H' Q) := by
  cases r with
  | ok a st' => exact fun m' H' le _ => Ok.le (r := k a st') h le
  | ex x st' => exact h
  | no => exact h
theorem Ok.mono {r : R α} {Q Q' : α → Sto → List Addr → Hp → Prop} (h : Ok K Z r m H Q) (f : ∀ a st' m' H', Le K m H m' H' → AbsSt K H' m' Z st' → Q a st' m' H' → Q' a st' m' H') : Ok K Z r m H Q' := by
  cases r with
  | ok a st' => exact fun m' H' le as => f a st' m' H' le as (h m' H' le as)
  | ex x st' => exact h
  | no => exact h
theorem Ok.mono' {r : R α} {Q Q' : α → Sto → List Addr → Hp → Prop} (h : Ok K Z r m H Q) (f : ∀ a st' m' H', r = .ok a st' → Le K m H m' H' → AbsSt K H' m' Z st' → Q a st' m' H' → Q' a st' m' H') : Ok K Z r m H Q' := by
  cases r with
  | ok a st' => exact fun m' H' le as => f a st' m' H' rfl le as (h m' H' le as)
  | ex x st' => exact h
  | no => exact h
theorem Ok.of {o : Option α} {st : Sto} {Q : α → Sto → List Addr → Hp → Prop} (h : Ok K Z (R.of o st) m H Q) (as : AbsSt K H m Z st) : ∃ a, o = some a ∧ Q a st m H ∧ ∀ m' H', Le K m H m' H' → AbsSt K H' m' Z st → Q a st m' H' := by
  cases o with
  | none => exact (show False from h).elim
  | some a => exact ⟨a, rfl, h m H Le.refl as, h⟩
theorem Ok.here {a : α} {st : Sto} {Q : α → Sto → List Addr → Hp → Prop} (h : Ok K Z (R.ok a st) m H Q) (as : AbsSt K H m Z st) : Q a st m H := h m H Le.refl as
def tE (K : PySem.W.Frag) (Z : List Addr) (d : Rho → Sto → R P) : TE := fun σ H Q => ∃ m r st, AbsR K H m Z r σ ∧ AbsSt K H m Z st ∧ Ok K Z (d r st) m H (fun p _ m' H' => ∀ v, RelP K H' m' Z p v → Q v H')
def tT (K : PySem.W.Frag) (Z : List Addr) (d : Rho → Sto → R Bool) : TT := fun σ H Q => ∃ m r st, AbsR K H m Z r σ ∧ AbsSt K H m Z st ∧ Ok K Z (d r st) m H (fun b _ _ H' => Q b H')
def tA (K : PySem.W.Frag) (Z : List Addr) (d : Rho → Sto → R (List P)) : TA := fun σ H Q => ∃ m r st, AbsR K H m Z r σ ∧ AbsSt K H m Z st ∧ Ok K Z (d r st) m H (fun ps _ m' H' => ∀ vs, RelPs K H' m' Z ps vs → Q vs H')
def LQ (K : PySem.W.Frag) (Z : List Addr) (r : R (List P)) (m : List Addr) (H : Hp) (Q : VK) : Prop := match r with
  | .ok ps st' => ∀ m' H' a vs, Le K m H m' H' → H a = none → a ∉ m' → H' a = some (.lst vs) → AbsSt K H' m' (a :: Z) st' → RelPs K H' m' (a :: Z) ps vs → Q (.ref a) H'
  | _ => False
def tL (K : PySem.W.Frag) (Z : List Addr) (d : Rho → Sto → R (List P)) : TE := fun σ H Q => ∃ m r st, AbsR K H m Z r σ ∧ AbsSt K H m Z st ∧ LQ K Z (d r st) m H Q
def FlQ (K : PySem.W.Frag) (Z : List Addr) (D : Ends) : Fl → Sto → List Addr → Hp → Prop := fun f _ m' H' => match f with
  | .nx r => ∀ σ, AbsR K H' m' Z r σ → D.nx σ H'
  | .bk r => ∀ σ, AbsR K H' m' Z r σ → D.bk σ H'
  | .ct r => ∀ σ, AbsR K H' m' Z r σ → D.ct σ H'
  | .rt p => ∀ v, RelP K H' m' Z p v → D.rt v H'
mutual
theorem RelD.sub {Z' : List Addr} (sm : ∀ a ∈ m', a ∈ m) (s : ∀ a ∈ Z, a ∈ Z') : ∀ {x : D} {v : V}, RelD K H m Z' x v → RelD K H m' Z x v
  | .non, _, h => h
  | .bl _, _, h => h
  | .int _, _, h => h
  | .str _, _, h => h
  | .tup xs, v, h => by
    obtain ⟨a, us, e, q, r⟩ := (show ∃ a us, v = .ref a ∧ H a = some (.tup us) ∧ RelDs K H m Z' xs us from h)
    exact ⟨a, us, e, q, RelDs.sub sm s r⟩
  | .pl xs, v, h => by
    obtain ⟨a, us, e, q, hm, hz, r⟩ := (show ∃ a us, v = .ref a ∧ Rd H a (.lst us) ∧ a ∉ m ∧ a ∉ Z' ∧ RelDs K H m Z' xs us from h)
    exact ⟨a, us, e, q, fun z => hm (sm a z), fun z => hz (s a z), RelDs.sub sm s r⟩
theorem RelDs.sub {Z' : List Addr} (sm : ∀ a ∈ m', a ∈ m) (s : ∀ a ∈ Z, a ∈ Z') : ∀ {xs : List D} {us : List V}, RelDs K H m Z' xs us → RelDs K H m' Z xs us
  | [], _, h => h
  | x :: xs, us, h => by
    obtain ⟨v, vs, e, r, rs⟩ := (show ∃ v vs, us = v :: vs ∧ RelD K H m Z' x v ∧ RelDs K H m Z' xs vs from h)
    exact ⟨v, vs, e, RelD.sub sm s r, RelDs.sub sm s rs⟩
end
theorem RelD.subZ {Z' : List Addr} (s : ∀ a ∈ Z, a ∈ Z') {x : D} {v : V} (h : RelD K H m Z' x v) : RelD K H m Z x v := RelD.sub (fun _ h => h) s h
theorem RelD.bare {x : D} {v : V} (h : RelD K H m Z x v) : RelD K H [] [] x v := RelD.sub (fun _ h => by cases h) (fun _ h => by cases h) h
theorem RelDs.bare {x : List D} {v : List V} (h : RelDs K H m Z x v) : RelDs K H [] [] x v := RelDs.sub (fun _ h => by cases h) (fun _ h => by cases h) h
theorem RelP.subZ {Z' : List Addr} (s : ∀ a ∈ Z, a ∈ Z') : ∀ {x : P} {v : V}, RelP K H m Z' x v → RelP K H m Z x v
  | .d _, _, h => RelD.subZ s h
  | .obj _, _, h => h
  | .scr _, _, h => h
theorem RelPs.subZ {Z' : List Addr} (s : ∀ a ∈ Z, a ∈ Z') : ∀ {xs : List P} {us : List V}, RelPs K H m Z' xs us → RelPs K H m Z xs us
  | [], _, h => h
  | x :: xs, us, h => by
    obtain ⟨v, vs, e, r, rs⟩ := (show ∃ v vs, us = v :: vs ∧ RelP K H m Z' x v ∧ RelPs K H m Z' xs vs from h)
    exact ⟨v, vs, e, r.subZ s, RelPs.subZ s rs⟩
mutual
theorem RelD.addZ {b : Addr} (hb : H b = none) : ∀ {x : D} {v : V}, RelD K H m Z x v → RelD K H m (b :: Z) x v
  | .non, _, h => h
  | .bl _, _, h => h
  | .int _, _, h => h
  | .str _, _, h => h
  | .tup xs, v, h => by
    obtain ⟨a, us, e, q, r⟩ := (show ∃ a us, v = .ref a ∧ H a = some (.tup us) ∧ RelDs K H m Z xs us from h)
    exact ⟨a, us, e, q, RelDs.addZ hb r⟩
  | .pl xs, v, h => by
    obtain ⟨a, us, e, q, hm, hz, r⟩ := (show ∃ a us, v = .ref a ∧ Rd H a (.lst us) ∧ a ∉ m ∧ a ∉ Z ∧ RelDs K H m Z xs us from h)
    refine ⟨a, us, e, q, hm, fun z => ?_, RelDs.addZ hb r⟩
    rcases List.mem_cons.mp z with z | z
    · rw [z] at q; exact rd_ne q hb
    · exact hz z
theorem RelDs.addZ {b : Addr} (hb : H b = none) : ∀ {xs : List D} {us : List V}, RelDs K H m Z xs us → RelDs K H m (b :: Z) xs us
  | [], _, h => h
  | x :: xs, us, h => by
    obtain ⟨v, vs, e, r, rs⟩ := (show ∃ v vs, us = v :: vs ∧ RelD K H m Z x v ∧ RelDs K H m Z xs vs from h)
    exact ⟨v, vs, e, RelD.addZ hb r, RelDs.addZ hb rs⟩
end
theorem RelP.addZ {b : Addr} (hb : H b = none) : ∀ {x : P} {v : V}, RelP K H m Z x v → RelP K H m (b :: Z) x v
  | .d _, _, h => RelD.addZ hb h
  | .obj _, _, h => h
  | .scr _, _, h => h
theorem RelPs.addZ {b : Addr} (hb : H b = none) : ∀ {xs : List P} {us : List V}, RelPs K H m Z xs us → RelPs K H m (b :: Z) xs us
  | [], _, h => h
  | x :: xs, us, h => by
    obtain ⟨v, vs, e, r, rs⟩ := (show ∃ v vs, us = v :: vs ∧ RelP K H m Z x v ∧ RelPs K H m Z xs vs from h)
    exact ⟨v, vs, e, r.addZ hb, RelPs.addZ hb rs⟩
theorem AbsSt.mtrk {st : Sto} (A : AbsSt K H m Z st) {a : Addr} (h : a ∈ m) : H a ≠ none := by
  obtain ⟨n, hn, e⟩ := List.mem_iff_getElem.mp h
  have hn' : n < st.length := by rw [← A.len]; exact hn
  obtain ⟨a', e', r⟩ := A.at_ n st[n] (List.getElem?_eq_getElem hn')
  rw [List.getElem?_eq_getElem hn, e] at e'
  cases e'
  exact r.trk.1
theorem AbsSt.fresh {st : Sto} (A : AbsSt K H m Z st) {a : Addr} (h : H a = none) : a ∉ m ∧ a ∉ Z := ⟨fun z => A.mtrk z h, fun z => A.zt a z h⟩
theorem AbsSt.laid {st : Sto} (A : AbsSt K H m Z st) {a : Addr} (h : H a = none) (o : HO) : AbsSt K (upd H a o) m (a :: Z) st := by
  have e : Same H (upd H a o) := same_new h o
  have A' := A.same e
  refine ⟨A.len, A.nd, fun n ob hn => ?_, fun b hb => ?_, fun b hb => ?_⟩
  · obtain ⟨c, q, r⟩ := A.at_ n ob hn
    exact ⟨c, q, r.mono (fun u hu => e _ _ hu) fun p v z => (z.addZ h).le (Le.same e)⟩
  · rcases List.mem_cons.mp hb with z | z
    · rw [z, upd_same]; exact fun z => nomatch z
    · exact A'.zt b z
  · rcases List.mem_cons.mp hb with z | z
    · rw [z]; exact (A.fresh h).1
    · exact A.zm b z
theorem AbsSt.laidS {st : Sto} (A : AbsSt K H m Z st) {a : Addr} (h : H a = none) (e : Same H H') (h' : H' a ≠ none) : AbsSt K H' m (a :: Z) st := by
  refine ⟨A.len, A.nd, fun n ob hn => ?_, fun b hb => ?_, fun b hb => ?_⟩
  · obtain ⟨c, q, r⟩ := A.at_ n ob hn
    exact ⟨c, q, r.mono (fun u hu => e _ _ hu) fun p v z => (z.addZ h).le (Le.same e)⟩
  · rcases List.mem_cons.mp hb with z | z
    · rw [z]; exact h'
    · exact ne_same e (A.zt b z)
  · rcases List.mem_cons.mp hb with z | z
    · rw [z]; exact (A.fresh h).1
    · exact A.zm b z
theorem AbsSt.subZ {st : Sto} {Z' : List Addr} (A : AbsSt K H m Z' st) (s : ∀ a ∈ Z, a ∈ Z') : AbsSt K H m Z st :=
  ⟨A.len, A.nd, fun n o h => by
    obtain ⟨a, q, r⟩ := A.at_ n o h
    exact ⟨a, q, r.mono (fun u hu => hu) fun p v z => z.subZ s⟩, fun a h => A.zt a (s a h), fun a h => A.zm a (s a h)⟩
mutual
theorem RelD.adopt {b : Addr} : ∀ {x : D} {v : V}, RelD K H m (b :: Z) x v → RelD K H (m ++ [b]) Z x v
  | .non, _, h => h
  | .bl _, _, h => h
  | .int _, _, h => h
  | .str _, _, h => h
  | .tup xs, v, h => by
    obtain ⟨a, us, e, q, r⟩ := (show ∃ a us, v = .ref a ∧ H a = some (.tup us) ∧ RelDs K H m (b :: Z) xs us from h)
    exact ⟨a, us, e, q, RelDs.adopt r⟩
  | .pl xs, v, h => by
    obtain ⟨a, us, e, q, hm, hz, r⟩ := (show ∃ a us, v = .ref a ∧ Rd H a (.lst us) ∧ a ∉ m ∧ a ∉ b :: Z ∧ RelDs K H m (b :: Z) xs us from h)
    refine ⟨a, us, e, q, fun z => ?_, fun z => hz (List.mem_cons_of_mem _ z), RelDs.adopt r⟩
    rcases List.mem_append.mp z with z | z
    · exact hm z
    · exact hz (by simp at z; rw [z]; exact List.mem_cons_self)
theorem RelDs.adopt {b : Addr} : ∀ {xs : List D} {us : List V}, RelDs K H m (b :: Z) xs us → RelDs K H (m ++ [b]) Z xs us
  | [], _, h => h
  | x :: xs, us, h => by
    obtain ⟨v, vs, e, r, rs⟩ := (show ∃ v vs, us = v :: vs ∧ RelD K H m (b :: Z) x v ∧ RelDs K H m (b :: Z) xs vs from h)
    exact ⟨v, vs, e, RelD.adopt r, RelDs.adopt rs⟩
end
theorem RelP.adopt {b : Addr} : ∀ {x : P} {v : V}, RelP K H m (b :: Z) x v → RelP K H (m ++ [b]) Z x v
  | .d _, _, h => RelD.adopt h
  | .obj n, v, h => by
    obtain ⟨a, e, r⟩ := (show ∃ a, m[n]? = some a ∧ v = .ref a from h)
    exact ⟨a, by rw [List.getElem?_append_left (List.getElem?_eq_some_iff.mp e).1]; exact e, r⟩
  | .scr _, _, h => h
theorem nodup_ix {l : List Addr} (nd : l.Nodup) {i j : Nat} (hi : i < l.length) (hj : j < l.length) (h : l[i] = l[j]) : i = j := by
  rcases Nat.lt_trichotomy i j with z | z | z
  · exact absurd h (List.pairwise_iff_getElem.mp nd i j hi hj z)
  · exact z
  · exact absurd h.symm (List.pairwise_iff_getElem.mp nd j i hj hi z)
theorem AbsSt.adoptO {st : Sto} {a : Addr} {ob : O} (A : AbsSt K H m (a :: Z) st) (hz : a ∉ Z) (r : AbsO K H m (a :: Z) a ob) : AbsSt K H (m ++ [a]) Z (st ++ [ob]) := by
  refine ⟨by rw [List.length_append, List.length_append, A.len]; rfl, ?_, fun n o h => ?_, fun b h => A.zt b (List.mem_cons_of_mem _ h), fun b h z => ?_⟩
  · refine List.nodup_append.mpr ⟨A.nd, by simp, fun x hx y hy => ?_⟩
    have e : y = a := by simpa using hy
    rw [e]
    rintro rfl
    exact A.zm x List.mem_cons_self hx
  · by_cases hn : n < st.length
    · rw [List.getElem?_append_left hn] at h
      obtain ⟨b, q, rr⟩ := A.at_ n o h
      exact ⟨b, by rw [List.getElem?_append_left (by rw [A.len]; exact hn)]; exact q, rr.mono (fun u hu => hu) fun p v z => z.adopt⟩
    · rw [List.getElem?_append_right (by omega)] at h
      have hz0 : n - st.length = 0 := by
        have := (List.getElem?_eq_some_iff.mp h).1
        simp at this
        omega
      rw [hz0] at h
      cases h
      refine ⟨a, ?_, r.mono (fun u hu => hu) fun p v z => z.adopt⟩
      rw [List.getElem?_append_right (by rw [A.len]; omega), A.len, hz0]
      rfl
  · rcases List.mem_append.mp z with z | z
    · exact A.zm b (List.mem_cons_of_mem _ h) z
    · have e : b = a := by simpa using z
      rw [e] at h
      exact hz h
theorem AbsSt.adopt {st : Sto} {a : Addr} {vs : List V} {ps : List P} (A : AbsSt K H m (a :: Z) st) (hz : a ∉ Z) (ha : H a = some (.lst vs)) (r : RelPs K H m (a :: Z) ps vs) : AbsSt K H (m ++ [a]) Z (st ++ [.lst ps]) := A.adoptO hz ⟨vs, ha, r⟩
theorem AbsSt.write {st : Sto} {n : Nat} {a : Addr} {o o' : O} {ho : HO} (A : AbsSt K H m Z st) (hn : st[n]? = some o) (ha : m[n]? = some a) (ho' : ∀ H', H' a = some ho → (∀ p v, RelP K H m Z p v → RelP K H' m Z p v) → AbsO K H' m Z a o') :
    Le K m H m (upd H a ho) ∧ AbsSt K (upd H a ho) m Z (st.set n o') := by
  obtain ⟨a', e, r⟩ := A.at_ n o hn
  rw [ha] at e
  cases e
  obtain ⟨t1, t2, t3⟩ := r.trk
  have le : Le K m H m (upd H a ho) := by
    refine ⟨⟨[], by simp⟩, fun b xs h => ?_, fun b u h hb => ?_, fun b h => .inl h, fun b h => ?_, fun b o u h => ?_⟩
    · rw [upd_ne (fun z => t2 xs (by rw [← z]; exact h))]; exact h
    · rw [upd_ne (fun z => hb (by rw [z]; exact List.mem_of_getElem? ha))]; exact h
    · by_cases hba : b = a
      · rw [hba, upd_same]; exact fun z => nomatch z
      · rw [upd_ne hba]; exact h
    · rw [upd_ne (fun z => t3 o u (by rw [← z]; exact h))]; exact h
  refine ⟨le, ⟨by rw [List.length_set]; exact A.len, A.nd, fun k ob hk => ?_, fun b hb => le.trk b (A.zt b hb), A.zm⟩⟩
  by_cases hkn : n = k
  · subst hkn
    have hlt := (List.getElem?_eq_some_iff.mp hn).1
    rw [List.getElem?_set_self hlt] at hk
    cases hk
    exact ⟨a, ha, ho' _ upd_same fun p v z => z.le le⟩
  · rw [List.getElem?_set_ne hkn] at hk
    obtain ⟨b, q, rr⟩ := A.at_ k ob hk
    have hba : b ≠ a := by
      rintro rfl
      have h1 := (List.getElem?_eq_some_iff.mp ha)
      have h2 := (List.getElem?_eq_some_iff.mp q)
      obtain ⟨l1, e1⟩ := h1
      obtain ⟨l2, e2⟩ := h2
      exact hkn (nodup_ix A.nd l1 l2 (e1.trans e2.symm))
    exact ⟨b, q, rr.mono (fun u hu => by rw [upd_ne hba]; exact hu) fun p v z => z.le le⟩
end
end Y

namespace Y
open PySem L2
mutual
def RH (h : Heap) : D → Value → Prop
  | .non, u => u = .none
  | .bl b, u => u = .bool b
  | .int i, u => ∃ t, u = .int i t
  | .str x, u => ∃ t, u = .str x t
  | .tup xs, u => ∃ a its, u = .ref a ∧ h.IsTuple a its.toArray ∧ RHs h xs its
  | .pl xs, u => ∃ a its, u = .ref a ∧ h.IsList a its.toArray ∧ RHs h xs its
def RHs (h : Heap) : List D → List Value → Prop
  | [], us => us = []
  | x :: xs, us => ∃ u r, us = u :: r ∧ RH h x u ∧ RHs h xs r
end
section
variable {h : Heap}
theorem RHs.length : ∀ {xs : List D} {us : List Value}, RHs h xs us → us.length = xs.length
  | [], us, r => by cases (show us = [] from r); rfl
  | x :: xs, us, r => by
    obtain ⟨u, q, rfl, _, rs⟩ := (show ∃ u r, us = u :: r ∧ RH h x u ∧ RHs h xs r from r)
    rw [List.length_cons, List.length_cons, RHs.length rs]
theorem isTuple_inj {a : Addr} {x y : Array Value} (p : h.IsTuple a x) (q : h.IsTuple a y) : x = y := by
  obtain ⟨o, e, _, n, d⟩ := p
  obtain ⟨o', e', _, n', d'⟩ := q
  rw [e] at e'; cases e'
  rw [d] at d'; cases d'; rfl
theorem isList_inj {a : Addr} {x y : Array Value} (p : h.IsList a x) (q : h.IsList a y) : x = y := by
  obtain ⟨o, e, _, n, d⟩ := p
  obtain ⟨o', e', _, n', d'⟩ := q
  rw [e] at e'; cases e'
  rw [d] at d'; cases d'; rfl
theorem not_both {a : Addr} {x y : Array Value} (p : h.IsTuple a x) (q : h.IsList a y) : False := by
  obtain ⟨o, e, c, _⟩ := p
  obtain ⟨o', e', c', _⟩ := q
  rw [e] at e'; cases e'
  rw [c] at c'
  exact absurd c' (by decide +kernel)
mutual
theorem RH.self : ∀ {x y : D} {u : Value}, RH h x u → RH h y u → eqD x y = true
  | .non, y, u, p, q => by
    cases (show u = .none from p)
    cases y with
    | non => rfl
    | bl b => exact nomatch (show Value.none = .bool b from q)
    | int i => obtain ⟨t, e⟩ := q; exact nomatch e
    | str i => obtain ⟨t, e⟩ := q; exact nomatch e
    | tup i => obtain ⟨t, _, e, _⟩ := q; exact nomatch e
    | pl i => obtain ⟨t, _, e, _⟩ := q; exact nomatch e
  | .bl b, y, u, p, q => by
    cases (show u = .bool b from p)
    cases y with
    | non => exact nomatch (show Value.bool b = .none from q)
    | bl c => cases (show Value.bool b = .bool c from q); simp [eqD]
    | int i => obtain ⟨t, e⟩ := q; exact nomatch e
    | str i => obtain ⟨t, e⟩ := q; exact nomatch e
    | tup i => obtain ⟨t, _, e, _⟩ := q; exact nomatch e
    | pl i => obtain ⟨t, _, e, _⟩ := q; exact nomatch e
  | .int b, y, u, p, q => by
    obtain ⟨t0, rfl⟩ := p
    cases y with
    | non => exact nomatch (show Value.int b t0 = .none from q)
    | bl c => exact nomatch (show Value.int b t0 = .bool c from q)
    | int i => obtain ⟨t, e⟩ := q; cases e; simp [eqD]
    | str i => obtain ⟨t, e⟩ := q; exact nomatch e
    | tup i => obtain ⟨t, _, e, _⟩ := q; exact nomatch e
    | pl i => obtain ⟨t, _, e, _⟩ := q; exact nomatch e
  | .str b, y, u, p, q => by
    obtain ⟨t0, rfl⟩ := p
    cases y with
    | non => exact nomatch (show Value.str b t0 = .none from q)
    | bl c => exact nomatch (show Value.str b t0 = .bool c from q)
    | int i => obtain ⟨t, e⟩ := q; exact nomatch e
    | str i => obtain ⟨t, e⟩ := q; cases e; simp [eqD]
    | tup i => obtain ⟨t, _, e, _⟩ := q; exact nomatch e
    | pl i => obtain ⟨t, _, e, _⟩ := q; exact nomatch e
  | .tup xs, y, u, p, q => by
    obtain ⟨a, its, rfl, ht, rs⟩ := p
    cases y with
    | non => exact nomatch (show Value.ref a = .none from q)
    | bl c => exact nomatch (show Value.ref a = .bool c from q)
    | int i => obtain ⟨t, e⟩ := q; exact nomatch e
    | str i => obtain ⟨t, e⟩ := q; exact nomatch e
    | tup ys =>
      obtain ⟨b, its', e, ht', rs'⟩ := q
      cases e
      have e2 : its = its' := by simpa using isTuple_inj ht ht'
      subst e2
      show eqDs xs ys = true
      exact RHs.self rs rs'
    | pl ys =>
      obtain ⟨b, its', e, ht', rs'⟩ := q
      cases e
      exact (not_both ht ht').elim
  | .pl xs, y, u, p, q => by
    obtain ⟨a, its, rfl, ht, rs⟩ := p
    cases y with
    | non => exact nomatch (show Value.ref a = .none from q)
    | bl c => exact nomatch (show Value.ref a = .bool c from q)
    | int i => obtain ⟨t, e⟩ := q; exact nomatch e
    | str i => obtain ⟨t, e⟩ := q; exact nomatch e
    | tup ys =>
      obtain ⟨b, its', e, ht', rs'⟩ := q
      cases e
      exact (not_both ht' ht).elim
    | pl ys =>
      obtain ⟨b, its', e, ht', rs'⟩ := q
      cases e
      have e2 : its = its' := by simpa using isList_inj ht ht'
      subst e2
      show eqDs xs ys = true
      exact RHs.self rs rs'
theorem RHs.self : ∀ {xs ys : List D} {us : List Value}, RHs h xs us → RHs h ys us → eqDs xs ys = true
  | [], ys, us, p, q => by
    cases (show us = [] from p)
    cases ys with
    | nil => rfl
    | cons y ys => obtain ⟨u, r, e, _⟩ := q; exact nomatch e
  | x :: xs, ys, us, p, q => by
    obtain ⟨u, r, rfl, p1, p2⟩ := (show ∃ u r, us = u :: r ∧ RH h x u ∧ RHs h xs r from p)
    cases ys with
    | nil => exact nomatch (show u :: r = [] from q)
    | cons y ys =>
      obtain ⟨u', r', e, q1, q2⟩ := (show ∃ u' r', u :: r = u' :: r' ∧ RH h y u' ∧ RHs h ys r' from q)
      cases e
      show (eqD x y && eqDs xs ys) = true
      rw [RH.self p1 q1, RHs.self p2 q2]
      rfl
end
def pairD (xs ys : List D) (j : Nat) : Bool := eqD (xs.getD j .non) (ys.getD j .non)
theorem eqDs_eq : ∀ xs ys : List D, ((List.range (min xs.length ys.length)).all (pairD xs ys) && xs.length == ys.length) = eqDs xs ys
  | [], [] => rfl
  | [], _ :: _ => by simp [eqDs]
  | _ :: _, [] => by simp [eqDs]
  | x :: xs, y :: ys => by
    have ih := eqDs_eq xs ys
    have e1 : min (x :: xs).length (y :: ys).length = min xs.length ys.length + 1 := by simp only [List.length_cons]; omega
    have e2 : ((x :: xs).length == (y :: ys).length) = (xs.length == ys.length) := by simp
    have e3 : (List.range (min xs.length ys.length + 1)).all (pairD (x :: xs) (y :: ys)) = (eqD x y && (List.range (min xs.length ys.length)).all (pairD xs ys)) := by
      rw [List.range_succ_eq_map, List.all_cons, List.all_map]
      first | rfl | simp [pairD, Function.comp_def]
    rw [e1, e2, e3, eqDs, ← ih, Bool.and_assoc]
theorem eqDs_len {xs ys : List D} (h : xs.length = ys.length) : (List.range xs.length).all (pairD xs ys) = eqDs xs ys := by
  have := eqDs_eq xs ys
  rw [← h, Nat.min_self] at this
  simpa using this
theorem eqDs_other {xs ys : List D} (h : xs.length ≠ ys.length) : eqDs xs ys = false := by
  rw [← eqDs_eq xs ys]
  simp [h]
open SeqAt
mutual
theorem rcAt : ∀ (x y : D) (A : Around) (s : Shared) (u v : Value), RH s.heap x u → RH s.heap y v → A.units + min (depD x) (depD y) < cLine → RcAt A s u v (eqD x y) ∧ RcNeAt A s u v (!eqD x y)
  | .non, y, A, s, u, v, p, q, hu => by
    cases (show u = .none from p)
    cases y with
    | non => cases (show v = .none from q); exact ⟨RcAt.none_none, RcNeAt.none_none⟩
    | bl b => cases (show v = .bool b from q); exact ⟨RcAt.none_bool b, RcNeAt.none_bool b⟩
    | int b => obtain ⟨t, rfl⟩ := q; exact ⟨RcAt.none_int b t, RcNeAt.none_int b t⟩
    | str b => obtain ⟨t, rfl⟩ := q; exact ⟨RcAt.none_str b t, RcNeAt.none_str b t⟩
    | tup ys => obtain ⟨a, its, rfl, hl, _⟩ := q; exact ⟨RcAt.none_tuple hl (room_here hu), RcNeAt.none_tuple hl (room_here hu)⟩
    | pl ys => obtain ⟨a, its, rfl, hl, _⟩ := q; exact ⟨RcAt.none_list hl (room_here hu), RcNeAt.none_list hl (room_here hu)⟩
  | .bl x, y, A, s, u, v, p, q, hu => by
    cases (show u = .bool x from p)
    cases y with
    | non => cases (show v = .none from q); exact ⟨RcAt.bool_none x, RcNeAt.bool_none x⟩
    | bl b => cases (show v = .bool b from q); exact ⟨RcAt.bool_bool x b, RcNeAt.bool_bool x b⟩
    | int b => obtain ⟨t, rfl⟩ := q; exact ⟨RcAt.bool_int x b t, RcNeAt.bool_int x b t⟩
    | str b => obtain ⟨t, rfl⟩ := q; exact ⟨RcAt.bool_str x b t, RcNeAt.bool_str x b t⟩
    | tup ys => obtain ⟨a, its, rfl, hl, _⟩ := q; exact ⟨RcAt.bool_tuple x hl (room_here hu), RcNeAt.bool_tuple x hl (room_here hu)⟩
    | pl ys => obtain ⟨a, its, rfl, hl, _⟩ := q; exact ⟨RcAt.bool_list x hl (room_here hu), RcNeAt.bool_list x hl (room_here hu)⟩
  | .int x, y, A, s, u, v, p, q, hu => by
    obtain ⟨t0, rfl⟩ := p
    cases y with
    | non => cases (show v = .none from q); exact ⟨RcAt.int_none x t0, RcNeAt.int_none x t0⟩
    | bl b => cases (show v = .bool b from q); exact ⟨RcAt.int_bool x t0 b, RcNeAt.int_bool x t0 b⟩
    | int b => obtain ⟨t, rfl⟩ := q; exact ⟨RcAt.int_int x t0 b t, RcNeAt.int_int x t0 b t⟩
    | str b => obtain ⟨t, rfl⟩ := q; exact ⟨RcAt.int_str x t0 b t, RcNeAt.int_str x t0 b t⟩
    | tup ys => obtain ⟨a, its, rfl, hl, _⟩ := q; exact ⟨RcAt.int_tuple x t0 hl (room_here hu), RcNeAt.int_tuple x t0 hl (room_here hu)⟩
    | pl ys => obtain ⟨a, its, rfl, hl, _⟩ := q; exact ⟨RcAt.int_list x t0 hl (room_here hu), RcNeAt.int_list x t0 hl (room_here hu)⟩
  | .str x, y, A, s, u, v, p, q, hu => by
    obtain ⟨t0, rfl⟩ := p
    cases y with
    | non => cases (show v = .none from q); exact ⟨RcAt.str_none x t0, RcNeAt.str_none x t0⟩
    | bl b => cases (show v = .bool b from q); exact ⟨RcAt.str_bool x t0 b, RcNeAt.str_bool x t0 b⟩
    | int b => obtain ⟨t, rfl⟩ := q; exact ⟨RcAt.str_int x t0 b t, RcNeAt.str_int x t0 b t⟩
    | str b => obtain ⟨t, rfl⟩ := q; exact ⟨RcAt.str_str x t0 b t, RcNeAt.str_str x t0 b t⟩
    | tup ys => obtain ⟨a, its, rfl, hl, _⟩ := q; exact ⟨RcAt.str_tuple x t0 hl (room_here hu), RcNeAt.str_tuple x t0 hl (room_here hu)⟩
    | pl ys => obtain ⟨a, its, rfl, hl, _⟩ := q; exact ⟨RcAt.str_list x t0 hl (room_here hu), RcNeAt.str_list x t0 hl (room_here hu)⟩
  | .tup xs, y, A, s, u, v, p, q, hu => by
    obtain ⟨a, its, rfl, hl, rs⟩ := p
    cases y with
    | non => cases (show v = .none from q); exact ⟨RcAt.tuple_none hl (room_here hu), RcNeAt.tuple_none hl (room_here hu)⟩
    | bl b => cases (show v = .bool b from q); exact ⟨RcAt.tuple_bool b hl (room_here hu), RcNeAt.tuple_bool b hl (room_here hu)⟩
    | int b => obtain ⟨t, rfl⟩ := q; exact ⟨RcAt.tuple_int b t hl (room_here hu), RcNeAt.tuple_int b t hl (room_here hu)⟩
    | str b => obtain ⟨t, rfl⟩ := q; exact ⟨RcAt.tuple_str b t hl (room_here hu), RcNeAt.tuple_str b t hl (room_here hu)⟩
    | pl ys => obtain ⟨b, its', rfl, hl', _⟩ := q; exact ⟨RcAt.tuple_list hl hl' (room_here hu), RcNeAt.tuple_list hl hl' (room_here hu)⟩
    | tup ys =>
      obtain ⟨b, its', rfl, hl', rs'⟩ := q
      have n1 : its.toArray.size = xs.length := by rw [List.size_toArray]; exact rs.length
      have n2 : its'.toArray.size = ys.length := by rw [List.size_toArray]; exact rs'.length
      have he : ∀ j (j1 : j < its.toArray.size) (j2 : j < its'.toArray.size), EqAt A.in1 s its.toArray[j] its'.toArray[j] (pairD xs ys j) := fun j j1 j2 => by
        have := eqAts xs ys A.in1 s its its' rs rs' (room_in hu) j (by simpa using j1) (by simpa using j2)
        simpa using this
      show RcAt A s (.ref a) (.ref b) (eqDs xs ys) ∧ RcNeAt A s (.ref a) (.ref b) (!eqDs xs ys)
      rw [← eqDs_eq xs ys, ← n1, ← n2]
      exact ⟨RcAt.tuples hl hl' (room_here hu) he, RcNeAt.tuples hl hl' (room_here hu) he⟩
  | .pl xs, y, A, s, u, v, p, q, hu => by
    obtain ⟨a, its, rfl, hl, rs⟩ := p
    cases y with
    | non => cases (show v = .none from q); exact ⟨RcAt.list_none hl (room_here hu), RcNeAt.list_none hl (room_here hu)⟩
    | bl b => cases (show v = .bool b from q); exact ⟨RcAt.list_bool b hl (room_here hu), RcNeAt.list_bool b hl (room_here hu)⟩
    | int b => obtain ⟨t, rfl⟩ := q; exact ⟨RcAt.list_int b t hl (room_here hu), RcNeAt.list_int b t hl (room_here hu)⟩
    | str b => obtain ⟨t, rfl⟩ := q; exact ⟨RcAt.list_str b t hl (room_here hu), RcNeAt.list_str b t hl (room_here hu)⟩
    | tup ys => obtain ⟨b, its', rfl, hl', _⟩ := q; exact ⟨RcAt.list_tuple hl hl' (room_here hu), RcNeAt.list_tuple hl hl' (room_here hu)⟩
    | pl ys =>
      obtain ⟨b, its', rfl, hl', rs'⟩ := q
      have n1 : its.toArray.size = xs.length := by rw [List.size_toArray]; exact rs.length
      have n2 : its'.toArray.size = ys.length := by rw [List.size_toArray]; exact rs'.length
      have he : ∀ j (j1 : j < its.toArray.size) (j2 : j < its'.toArray.size), EqAt A.in1 s its.toArray[j] its'.toArray[j] (pairD xs ys j) := fun j j1 j2 => by
        have := eqAts xs ys A.in1 s its its' rs rs' (room_in hu) j (by simpa using j1) (by simpa using j2)
        simpa using this
      show RcAt A s (.ref a) (.ref b) (eqDs xs ys) ∧ RcNeAt A s (.ref a) (.ref b) (!eqDs xs ys)
      by_cases hsz : its.toArray.size = its'.toArray.size
      · rw [← eqDs_len (by omega : xs.length = ys.length), ← n1]
        exact ⟨RcAt.lists hl hl' hsz (room_here hu) he, RcNeAt.lists hl hl' hsz (room_here hu) he⟩
      · rw [eqDs_other (by omega : xs.length ≠ ys.length)]
        exact ⟨RcAt.lists_lengths hl hl' (by simpa using hsz) (room_here hu), RcNeAt.lists_lengths hl hl' (by simpa using hsz) (room_here hu)⟩
theorem eqAt : ∀ (x y : D) (A : Around) (s : Shared) (u v : Value), RH s.heap x u → RH s.heap y v → A.units + min (depD x) (depD y) < cLine → EqAt A s u v (eqD x y)
  | .non, y, A, s, u, v, p, q, hu => by
    cases (show u = .none from p)
    cases y with
    | non => cases (show v = .none from q); exact EqAt.same _
    | bl b => cases (show v = .bool b from q); exact EqAt.none_bool b
    | int b => obtain ⟨t, rfl⟩ := q; exact EqAt.none_int b t
    | str b => obtain ⟨t, rfl⟩ := q; exact EqAt.none_str b t
    | tup ys => obtain ⟨a, its, rfl, hl, _⟩ := q; exact EqAt.none_tuple hl (room_here hu)
    | pl ys => obtain ⟨a, its, rfl, hl, _⟩ := q; exact EqAt.none_list hl (room_here hu)
  | .bl x, y, A, s, u, v, p, q, hu => by
    cases (show u = .bool x from p)
    cases y with
    | non => cases (show v = .none from q); exact EqAt.bool_none x
    | bl b => cases (show v = .bool b from q); exact EqAt.bool_bool x b
    | int b => obtain ⟨t, rfl⟩ := q; exact EqAt.bool_int x b t
    | str b => obtain ⟨t, rfl⟩ := q; exact EqAt.bool_str x b t
    | tup ys => obtain ⟨a, its, rfl, hl, _⟩ := q; exact EqAt.bool_tuple x hl (room_here hu)
    | pl ys => obtain ⟨a, its, rfl, hl, _⟩ := q; exact EqAt.bool_list x hl (room_here hu)
  | .int x, y, A, s, u, v, p, q, hu => by
    obtain ⟨t0, rfl⟩ := p
    cases y with
    | non => cases (show v = .none from q); exact EqAt.int_none x t0
    | bl b => cases (show v = .bool b from q); exact EqAt.int_bool x t0 b
    | int b => obtain ⟨t, rfl⟩ := q; exact EqAt.int_int x t0 b t
    | str b => obtain ⟨t, rfl⟩ := q; exact EqAt.int_str x t0 b t
    | tup ys => obtain ⟨a, its, rfl, hl, _⟩ := q; exact EqAt.int_tuple x t0 hl (room_here hu)
    | pl ys => obtain ⟨a, its, rfl, hl, _⟩ := q; exact EqAt.int_list x t0 hl (room_here hu)
  | .str x, y, A, s, u, v, p, q, hu => by
    obtain ⟨t0, rfl⟩ := p
    cases y with
    | non => cases (show v = .none from q); exact EqAt.str_none x t0
    | bl b => cases (show v = .bool b from q); exact EqAt.str_bool x t0 b
    | int b => obtain ⟨t, rfl⟩ := q; exact EqAt.str_int x t0 b t
    | str b => obtain ⟨t, rfl⟩ := q; exact EqAt.str_str x t0 b t
    | tup ys => obtain ⟨a, its, rfl, hl, _⟩ := q; exact EqAt.str_tuple x t0 hl (room_here hu)
    | pl ys => obtain ⟨a, its, rfl, hl, _⟩ := q; exact EqAt.str_list x t0 hl (room_here hu)
  | .tup xs, y, A, s, u, v, p, q, hu => by
    obtain ⟨a, its, rfl, hl, rs⟩ := p
    cases y with
    | non => cases (show v = .none from q); exact EqAt.tuple_none hl (room_here hu)
    | bl b => cases (show v = .bool b from q); exact EqAt.tuple_bool b hl (room_here hu)
    | int b => obtain ⟨t, rfl⟩ := q; exact EqAt.tuple_int b t hl (room_here hu)
    | str b => obtain ⟨t, rfl⟩ := q; exact EqAt.tuple_str b t hl (room_here hu)
    | pl ys => obtain ⟨b, its', rfl, hl', _⟩ := q; exact EqAt.tuple_list hl hl' (room_here hu)
    | tup ys =>
      obtain ⟨b, its', rfl, hl', rs'⟩ := q
      have n1 : its.toArray.size = xs.length := by rw [List.size_toArray]; exact rs.length
      have n2 : its'.toArray.size = ys.length := by rw [List.size_toArray]; exact rs'.length
      have he : ∀ j (j1 : j < its.toArray.size) (j2 : j < its'.toArray.size), EqAt A.in1 s its.toArray[j] its'.toArray[j] (pairD xs ys j) := fun j j1 j2 => by
        have := eqAts xs ys A.in1 s its its' rs rs' (room_in hu) j (by simpa using j1) (by simpa using j2)
        simpa using this
      show EqAt A s (.ref a) (.ref b) (eqDs xs ys)
      by_cases hab : a = b
      · subst hab
        have e2 : its = its' := by simpa using isTuple_inj hl hl'
        subst e2
        rw [RHs.self rs rs']
        exact EqAt.same _
      · rw [← eqDs_eq xs ys, ← n1, ← n2]
        exact EqAt.of_refs hab (RcAt.tuples hl hl' (room_here hu) he)
  | .pl xs, y, A, s, u, v, p, q, hu => by
    obtain ⟨a, its, rfl, hl, rs⟩ := p
    cases y with
    | non => cases (show v = .none from q); exact EqAt.list_none hl (room_here hu)
    | bl b => cases (show v = .bool b from q); exact EqAt.list_bool b hl (room_here hu)
    | int b => obtain ⟨t, rfl⟩ := q; exact EqAt.list_int b t hl (room_here hu)
    | str b => obtain ⟨t, rfl⟩ := q; exact EqAt.list_str b t hl (room_here hu)
    | tup ys => obtain ⟨b, its', rfl, hl', _⟩ := q; exact EqAt.list_tuple hl hl' (room_here hu)
    | pl ys =>
      obtain ⟨b, its', rfl, hl', rs'⟩ := q
      have n1 : its.toArray.size = xs.length := by rw [List.size_toArray]; exact rs.length
      have n2 : its'.toArray.size = ys.length := by rw [List.size_toArray]; exact rs'.length
      have he : ∀ j (j1 : j < its.toArray.size) (j2 : j < its'.toArray.size), EqAt A.in1 s its.toArray[j] its'.toArray[j] (pairD xs ys j) := fun j j1 j2 => by
        have := eqAts xs ys A.in1 s its its' rs rs' (room_in hu) j (by simpa using j1) (by simpa using j2)
        simpa using this
      show EqAt A s (.ref a) (.ref b) (eqDs xs ys)
      by_cases hab : a = b
      · subst hab
        have e2 : its = its' := by simpa using isList_inj hl hl'
        subst e2
        rw [RHs.self rs rs']
        exact EqAt.same _
      · by_cases hsz : its.toArray.size = its'.toArray.size
        · rw [← eqDs_len (by omega : xs.length = ys.length), ← n1]
          exact EqAt.of_refs hab (RcAt.lists hl hl' hsz (room_here hu) he)
        · rw [eqDs_other (by omega : xs.length ≠ ys.length)]
          exact EqAt.of_refs hab (RcAt.lists_lengths hl hl' (by simpa using hsz) (room_here hu))
theorem eqAts : ∀ (xs ys : List D) (A : Around) (s : Shared) (us vs : List Value), RHs s.heap xs us → RHs s.heap ys vs → A.units + min (depDs xs) (depDs ys) < cLine →
    ∀ j (h1 : j < us.length) (h2 : j < vs.length), EqAt A s us[j] vs[j] (pairD xs ys j)
  | [], _, _, _, us, _, ra, _, _, j, h1, _ => by cases (show us = [] from ra); exact absurd h1 (Nat.not_lt_zero _)
  | _ :: _, [], _, _, _, vs, _, rb, _, j, _, h2 => by cases (show vs = [] from rb); exact absurd h2 (Nat.not_lt_zero _)
  | x :: xs, y :: ys, A, s, us, vs, ra, rb, hu, j, h1, h2 => by
    obtain ⟨u, r, rfl, p1, p2⟩ := (show ∃ u r, us = u :: r ∧ RH s.heap x u ∧ RHs s.heap xs r from ra)
    obtain ⟨v, r', rfl, q1, q2⟩ := (show ∃ u r, vs = u :: r ∧ RH s.heap y u ∧ RHs s.heap ys r from rb)
    cases j with
    | zero => exact eqAt x y A s u v p1 q1 (room_head hu)
    | succ j => exact eqAts xs ys A s r r' p2 q2 (room_tail hu) j (Nat.lt_of_succ_lt_succ h1) (Nat.lt_of_succ_lt_succ h2)
end
end
section
variable {X : Cx} {pins : List (Addr × Obj)} {σ : St} {H : Hp} {s : Shared} {m Z : List Addr}
mutual
theorem RelD.rh (I : Inv X pins σ H s) : ∀ {x : D} {v : V} {u : Value}, RelD X.K H m Z x v → RelV v u → RH s.heap x u
  | .non, v, u, p, r => by cases (show v = .non from p); exact r
  | .bl b, v, u, p, r => by cases (show v = .bl b from p); exact r
  | .int b, v, u, p, r => by cases (show v = .int b from p); exact r
  | .str b, v, u, p, r => by cases (show v = .str b from p); exact r
  | .tup xs, v, u, p, r => by
    obtain ⟨a, us, rfl, q, rs⟩ := (show ∃ a us, v = .ref a ∧ H a = some (.tup us) ∧ RelDs X.K H m Z xs us from p)
    cases (show u = .ref a from r)
    obtain ⟨its, rv, ht, _⟩ := I.tuple (SqT.of q)
    exact ⟨a, its, rfl, ht, RelDs.rh I rs rv⟩
  | .pl xs, v, u, p, r => by
    obtain ⟨a, us, rfl, q, _, _, rs⟩ := (show ∃ a us, v = .ref a ∧ Rd H a (.lst us) ∧ a ∉ m ∧ a ∉ Z ∧ RelDs X.K H m Z xs us from p)
    cases (show u = .ref a from r)
    obtain ⟨its, rv, ht, _⟩ := I.list (.inl q)
    exact ⟨a, its, rfl, ht.isList, RelDs.rh I rs rv⟩
theorem RelDs.rh (I : Inv X pins σ H s) : ∀ {xs : List D} {vs : List V} {us : List Value}, RelDs X.K H m Z xs vs → Vals vs us → RHs s.heap xs us
  | [], vs, us, p, r => by cases (show vs = [] from p); cases r; rfl
  | x :: xs, vs, us, p, r => by
    obtain ⟨v, w', rfl, p1, p2⟩ := (show ∃ v w', vs = v :: w' ∧ RelD X.K H m Z x v ∧ RelDs X.K H m Z xs w' from p)
    cases r with
    | cons r1 r2 => exact ⟨_, _, rfl, RelD.rh I p1 r1, RelDs.rh I p2 r2⟩
end
theorem op_eqD (hu : X.A.units + 100 < cLine) : OpR X (compareOp .Eq) (fun v u H Q => ∃ m Z x y k, RelD X.K H m Z x v ∧ RelD X.K H m Z y u ∧ eqO x y = some k ∧ Q (.bl k) H) := by
  intro pins s σ H v u a b Q I rx ry h
  obtain ⟨m, Z, x, y, k, p, q, e, hq⟩ := h
  unfold eqO at e
  split at e
  · rename_i hd
    cases e
    exact (rcAt x y X.A s a b (p.rh I rx) (q.rh I ry) (by omega)).1 X.prog X.w X.xe _ ⟨.bl (eqD x y), H, I, rfl, hq⟩
  · cases e
theorem op_neD (hu : X.A.units + 100 < cLine) : OpR X (compareOp .NotEq) (fun v u H Q => ∃ m Z x y k, RelD X.K H m Z x v ∧ RelD X.K H m Z y u ∧ eqO x y = some k ∧ Q (.bl (!k)) H) := by
  intro pins s σ H v u a b Q I rx ry h
  obtain ⟨m, Z, x, y, k, p, q, e, hq⟩ := h
  unfold eqO at e
  split at e
  · rename_i hd
    cases e
    exact (rcAt x y X.A s a b (p.rh I rx) (q.rh I ry) (by omega)).2 X.prog X.w X.xe _ ⟨.bl (!eqD x y), H, I, rfl, hq⟩
  · cases e
end
end Y

namespace Y
open PySem L2 PySem.Spec PyProof.Rows
structure G where
  N : List Str
  names : List (Str × NameKind)
  fns : List (Str × Nat)
  consts : List (Str × Int)
  tabs : List (Str × List (Str × Int))
def notStar : Expr → Bool
  | .Starred _ _ => false
  | _ => true
def G.vis (g : G) (x : Str) : Bool := match g.names.lookup x with
  | some .local => true
  | some .cell => true
  | some .free => true
  | _ => false
def G.gl (g : G) (x : Str) : Bool := decide (g.names.lookup x = some .globalImplicit)
def plainName (x : Str) : Bool := !(x == ("__debug__" : Str)) && !(x == ("__classdict__" : Str)) && !(x == ("__name__" : Str))
def bopOf : Bop → Operator
  | .add => .Add
  | .sub => .Sub
  | .mul => .Mult
  | .mod => .Mod
  | .fdiv => .FloorDiv
def copOf : Cop → CmpOp
  | .lt => .Lt
  | .le => .LtE
  | .gt => .Gt
  | .ge => .GtE
  | .eq => .Eq
  | .ne => .NotEq
  | .isin => .In
  | .notin => .NotIn
  | .isN => .Is
  | .notN => .IsNot
def bfName : Bf → Str
  | .len => "len"
  | .min2 => "min"
  | .max2 => "max"
  | .all => "all"
  | .any => "any"
  | .sum => "sum"
  | .str => "str"
  | .tuple => "tuple"
def tyNames : List String := ["int", "bool", "tuple", "str", "list"]
def isSlice : Expr → Bool
  | .Slice _ _ _ _ => true
  | _ => false
def isComp : Expr → Bool
  | .ListComp _ _ _ _ => true
  | .SetComp _ _ _ _ => true
  | .DictComp _ _ _ _ _ => true
  | _ => false
def isSetD : Expr → Bool
  | .Set _ _ _ => true
  | _ => false
def bOkG (g : G) (N : List Str) (js : List Nat) (sc : Scope) : Bool :=
  decide (sc.kind = .function) && decide (N.length = 1 + js.length) &&
  sc.names.all (fun x => decide (x.2 ≠ .cell) && (decide (x.2 ≠ .local) || decide (sc.names.lookup x.1 = some .local)) && (decide (x.2 ≠ .free) || (decide (g.names.lookup x.1 = some .cell) || decide (g.names.lookup x.1 = some .free)))) &&
  (List.range js.length).all (fun i => match N[1 + i]?, js[i]? with
    | some y, some j => decide (g.N[j]? = some y) && decide (sc.names.lookup y = some .free)
    | _, _ => true)
def compN (g : G) (x : Str) (js : List Nat) : List Str := x :: js.map fun j => (g.N[j]?).getD "?"
def G.inner (g : G) (N : List Str) (sc : Scope) : G := { g with N := N, names := sc.names }
def isCall : Expr → Bool
  | .Call _ _ _ _ => true
  | _ => false
def isM1 (e : Expr) : Bool := match e with
  | .UnaryOp op c _ => match c with
    | .Constant k _ _ => decide (op = .USub) && decide (k = .int 1)
    | _ => false
  | _ => false
def isEnum : W → Bool
  | .enum _ => true
  | .zip _ _ => true
  | _ => false
mutual
def okE (g : G) : E → Expr → Bool
  | .var i => fun e => match e with
    | .Name x _ => decide (g.N[i]? = some x) && g.vis x && plainName x
    | _ => false
  | .cst d => fun e => match e with
    | .Constant c _ _ => match d with
      | .int i => decide (c = .int i)
      | .bl i => decide (c = .bool i)
      | .non => decide (c = .none)
      | .str i => decide (c = .str i)
      | _ => false
    | .Name x _ => match d with
      | .int i => g.gl x && decide (g.consts.lookup x = some i) && plainName x
      | _ => false
    | _ => false
  | .op o a b => fun e => match e with
    | .BinOp x p y _ => decide (p = bopOf o) && okE g a x && okE g b y
    | _ => false
  | .neg a => fun e => match e with
    | .UnaryOp op x _ => decide (op = .USub) && okE g a x
    | _ => false
  | .not a => fun e => match e with
    | .UnaryOp op x _ => decide (op = .Not) && okE g a x
    | _ => false
  | .cmp o a b => fun e => match e with
    | .Compare x ops ys _ => match ops with
      | p :: r => match ys with
        | y :: s => r.isEmpty && s.isEmpty && decide (p = copOf o) && okE g a x && okE g b y && !isSetD y
        | [] => false
      | [] => false
    | _ => false
  | .chain o o' a b c => fun e => match e with
    | .Compare x ops ys _ => match ops with
      | p :: r => match r with
        | q :: r' => match ys with
          | y :: s => match s with
            | z :: s' => r'.isEmpty && s'.isEmpty && decide (p = copOf o) && decide (q = copOf o') && okE g a x && okE g b y && okE g c z && !isSetD y && !isSetD z
            | [] => false
          | [] => false
        | [] => false
      | [] => false
    | _ => false
  | .and es => fun e => match e with
    | .BoolOp op xs _ => decide (op = .And) && okEs g es xs
    | _ => false
  | .or es => fun e => match e with
    | .BoolOp op xs _ => decide (op = .Or) && okEs g es xs
    | _ => false
  | .ite c a b => fun e => match e with
    | .IfExp x y z _ => okE g c x && okE g a y && okE g b z
    | _ => false
  | .tup es => fun e => match e with
    | .Tuple xs _ _ => okEs g es xs
    | _ => false
  | .lst _ l => fun e => okL g l e
  | .call f es => fun e => match e with
    | .Call f0 xs kws _ => match f0 with
      | .Name x _ => kws.isEmpty && decide (g.fns[f]? = some (x, es.length)) && g.gl x && plainName x && okEs g es xs
      | _ => false
    | _ => false
  | .isi a T => fun e => match e with
    | .Call f0 xs kws _ => match f0 with
      | .Name n _ => match xs with
        | x :: r => match r with
          | t0 :: r' => match t0 with
            | .Name t _ => kws.isEmpty && r'.isEmpty && decide (n = "isinstance") && g.gl "isinstance" && decide (t = Str.ofString T) && g.gl (Str.ofString T) && decide (T ∈ tyNames) && okE g a x && notStar x
            | _ => false
          | [] => false
        | [] => false
      | _ => false
    | _ => false
  | .bf f es => fun e => match e with
    | .Call f0 xs kws _ => match f0 with
      | .Name n _ => kws.isEmpty && decide (n = bfName f) && g.gl (bfName f) && okEs g es xs && !xs.isEmpty
      | _ => false
    | _ => false
  | .ix a b => fun e => match e with
    | .Subscript x y _ => okE g a x && okE g b y && !isSlice y
    | _ => false
  | .slice a lo hi => fun e => match e with
    | .Subscript x sl _ => match sl with
      | .Slice l h s _ => s.isNone && okE g a x && okM g lo l && okM g hi h
      | _ => false
    | _ => false
  | .rev a => fun e => match e with
    | .Subscript x sl _ => match sl with
      | .Slice l h s _ => match s with
        | some u => l.isNone && h.isNone && isM1 u && okE g a x
        | none => false
      | _ => false
    | _ => false
  | .join _ _ => fun _ => false
  | .tget t a => fun e => match e with
    | .Call f0 xs kws cp => match f0 with
      | .Attribute o n ap => match o with
        | .Name d _ => match xs with
          | x :: r => r.isEmpty && kws.isEmpty && (ap.endLine == cp.line) && decide (n = "get") && g.gl d && plainName d && decide (g.tabs.lookup d = some t) && okE g a x && notStar x
          | [] => false
        | _ => false
      | _ => false
    | _ => false
  | .dnew _ => fun e => match e with
    | .Dict ks vs _ => ks.isEmpty && vs.isEmpty
    | _ => false
  | .dget a b => fun e => match e with
    | .Call f0 xs kws cp => match f0 with
      | .Attribute o n ap => match xs with
        | x :: r => r.isEmpty && kws.isEmpty && (ap.endLine == cp.line) && decide (n = "get") && !isCall o && okE g a o && okE g b x && notStar x
        | [] => false
      | _ => false
    | _ => false
  | .dget2 a b c => fun e => match e with
    | .Call f0 xs kws cp => match f0 with
      | .Attribute o n ap => match xs with
        | x :: r => match r with
          | y :: r' => r'.isEmpty && kws.isEmpty && (ap.endLine == cp.line) && decide (n = "get") && !isCall o && okE g a o && okE g b x && notStar x && okE g c y && notStar y
          | [] => false
        | [] => false
      | _ => false
    | _ => false
  | .index a b => fun e => match e with
    | .Call f0 xs kws cp => match f0 with
      | .Attribute o n ap => match xs with
        | x :: r => r.isEmpty && kws.isEmpty && (ap.endLine == cp.line) && decide (n = "index") && !isCall o && okE g a o && okE g b x && notStar x
        | [] => false
      | _ => false
    | _ => false
def okM (g : G) : Option E → Option Expr → Bool
  | none => fun o => o.isNone
  | some e => fun o => match o with
    | some x => okE g e x
    | none => false
def okEs (g : G) : List E → List Expr → Bool
  | [] => fun l => l.isEmpty
  | e :: es => fun l => match l with
    | x :: xs => okE g e x && notStar x && okEs g es xs
    | [] => false
def okC (g : G) : Option E → List Expr → Bool
  | none => fun l => l.isEmpty
  | some c => fun l => match l with
    | i :: r => r.isEmpty && okE g c i
    | [] => false
def okL (g : G) : L → Expr → Bool
  | .disp es => fun e => match e with
    | .List xs _ => okEs g es xs
    | _ => false
  | .comp w ts js c e => fun e0 => match e0 with
    | .ListComp elt gens sc _ => match gens with
      | ge :: r => match ge with
        | ⟨tg, iter, ifs, a⟩ => match tg with
          | .Name x _ => r.isEmpty && decide (ts = 1) && decide (a = 0) && okW g w iter && !isEnum w && bOkG g (compN g x js) js sc && decide (sc.names.lookup x = some .local) && decide (compN g x js).Nodup &&
              okC (g.inner (compN g x js) sc) c ifs && okE (g.inner (compN g x js) sc) e elt && !isSetD iter
          | _ => false
      | [] => false
    | _ => false
  | .list e => fun e0 => match e0 with
    | .Call f0 xs kws _ => match f0 with
      | .Name n _ => match xs with
        | x :: r => r.isEmpty && kws.isEmpty && decide (n = "list") && g.gl "list" && okE g e x && notStar x
        | [] => false
      | _ => false
    | _ => false
  | .rng es => fun e0 => match e0 with
    | .Call f0 ys kws _ => match f0 with
      | .Name n _ => match ys with
        | y :: r => match y with
          | .Call f1 xs kws1 _ => match f1 with
            | .Name n1 _ => r.isEmpty && kws.isEmpty && kws1.isEmpty && decide (n = "list") && g.gl "list" && decide (n1 = "range") && g.gl "range" && okEs g es xs
            | _ => false
          | _ => false
        | [] => false
      | _ => false
    | _ => false
  | .zip a b => fun e0 => match e0 with
    | .Call f0 ys kws _ => match f0 with
      | .Name n _ => match ys with
        | y :: r => match y with
          | .Call f1 xs kws1 _ => match f1 with
            | .Name n1 _ => match xs with
              | x1 :: r1 => match r1 with
                | x2 :: r2 => r.isEmpty && r2.isEmpty && kws.isEmpty && kws1.isEmpty && decide (n = "list") && g.gl "list" && decide (n1 = "zip") && g.gl "zip" && okE g a x1 && notStar x1 && okE g b x2 && notStar x2
                | [] => false
              | [] => false
            | _ => false
          | _ => false
        | [] => false
      | _ => false
    | _ => false
  | .compO e js c ee => fun e0 => match e0 with
    | .ListComp elt gens sc _ => match gens with
      | ge :: r => match ge with
        | ⟨tg, iter, ifs, a⟩ => match tg with
          | .Name x _ => r.isEmpty && decide (a = 0) && okE g e iter && bOkG g (compN g x js) js sc && decide (sc.names.lookup x = some .local) && decide (compN g x js).Nodup &&
              okC (g.inner (compN g x js) sc) c ifs && okE (g.inner (compN g x js) sc) ee elt && !isSetD iter
          | _ => false
      | [] => false
    | _ => false
def okW (g : G) : W → Expr → Bool
  | .ex e => fun x => okE g e x && !isSetD x
  | .rng es => fun x => match x with
    | .Call f0 xs kws _ => match f0 with
      | .Name n _ => kws.isEmpty && decide (n = "range") && g.gl "range" && okEs g es xs
      | _ => false
    | _ => false
  | .enum e => fun x => match x with
    | .Call f0 xs kws _ => match f0 with
      | .Name n _ => match xs with
        | y :: r => r.isEmpty && kws.isEmpty && decide (n = "enumerate") && g.gl "enumerate" && okE g e y && notStar y
        | [] => false
      | _ => false
    | _ => false
  | .zip a b => fun x => match x with
    | .Call f0 xs kws _ => match f0 with
      | .Name n _ => match xs with
        | y :: r => match r with
          | y2 :: r2 => r2.isEmpty && kws.isEmpty && decide (n = "zip") && g.gl "zip" && okE g a y && notStar y && okE g b y2 && notStar y2
          | [] => false
        | [] => false
      | _ => false
    | _ => false
end
theorem isM1_of {e : Expr} (h : isM1 e = true) : ∃ k p1 p2, e = .UnaryOp .USub (.Constant (.int 1) k p1) p2 := by
  unfold isM1 at h
  split at h
  · split at h
    · simp only [Bool.and_eq_true, decide_eq_true_eq] at h
      obtain ⟨rfl, rfl⟩ := h
      exact ⟨_, _, _, rfl⟩
    · cases h
  · cases h
def spP (K : PySem.W.Frag) (c : List P → Sto → R P) (n : Nat) : Sp := fun vs H Q _ => ∃ m Z qs st, vs.length = n ∧ RelPs K H m Z qs vs ∧ AbsSt K H m Z st ∧ Ok K Z (c qs st) m H (fun p _ m' H' => ∀ v, RelP K H' m' Z p v → Q v H')
structure CallOk (X : Cx) (c : List P → Sto → R P) (x : Str) (n : Nat) : Prop where
  ex : ∃ (k : Nat) (f : Addr) (fd : FuncData) (ps : List Str), FnOk X.prog X.w X.K X.mg X.base CX0 k f fd ps (spP X.K c n) ∧
    Room k X.A ∧ X.mg x = some (.ref f) ∧ PySem.W.keepIn X.K (.ref f) = true ∧ Binds X.K fd ps []
def bltNames : List Str := ["len", "min", "max", "all", "any", "sum", "str", "tuple", "list", "int", "bool", "isinstance", "range", "zip", "enumerate", "sorted"]
structure Good (X : Cx) (g : G) (C : Nat → List P → Sto → R P) : Prop where
  N : X.N = g.N
  loc : ∀ x, g.names.lookup x = some .local → X.env.scope.names.lookup x = some .local
  cel : ∀ x, (g.names.lookup x = some .cell ∨ g.names.lookup x = some .free) → (X.env.scope.names.lookup x = some .cell ∨ X.env.scope.names.lookup x = some .free)
  gl : ∀ x, g.names.lookup x = some .globalImplicit → X.env.scope.names.lookup x = some .globalImplicit
  calm : X.calm = true
  hu : X.A.units + 100 < cLine
  bl : ∀ x ∈ bltNames, X.mg x = none
  fn : ∀ (k : Nat) (x : Str) (n : Nat), g.fns[k]? = some (x, n) → CallOk X (C k) x n
  cs : ∀ x i, g.consts.lookup x = some i → ∃ t, X.mg x = some (.int i t)
  tb : ∀ x t, g.tabs.lookup x = some t → ∃ a, X.mg x = some (.ref a) ∧ TabK X.K a t
section
variable {X : Cx} {g : G} {C : Nat → List P → Sto → R P} {Z : List Addr} {e : Expr} {es : List Expr}
theorem Good.vis (T : Good X g C) {x : Str} (h : g.vis x = true) : Vis X.env.scope x := by
  unfold G.vis at h
  split at h
  · exact .inl (T.loc _ ‹_›)
  · rcases T.cel x (.inl ‹_›) with q | q
    · exact .inr (.inl q)
    · exact .inr (.inr q)
  · rcases T.cel x (.inr ‹_›) with q | q
    · exact .inr (.inl q)
    · exact .inr (.inr q)
  · cases h
theorem Good.glob (T : Good X g C) {x : Str} (h : g.gl x = true) : Gl X x := T.gl x (of_decide_eq_true h)
theorem PE.imp {t t' : TE} (h : PE X e t) (i : ∀ σ H Q, t' σ H Q → t σ H Q) : PE X e t' := fun pins s σ H Q I q => h pins s σ H Q I (i σ H Q q)
theorem PT.imp {t t' : TT} (h : PT X e t) (i : ∀ σ H Q, t' σ H Q → t σ H Q) : PT X e t' := fun pins s σ H Q I q => h pins s σ H Q I (i σ H Q q)
theorem PW.imp {t t' : TT} (h : PW X e t) (i : ∀ σ H Q, t' σ H Q → t σ H Q) : PW X e t' := fun wh pins s σ H Q I q => h wh pins s σ H Q I (i σ H Q q)
theorem PA.imp {t t' : TA} (h : PA X es t) (i : ∀ σ H Q, t' σ H Q → t σ H Q) : PA X es t' := fun pos pins s σ H Q I q => h pos pins s σ H Q I (i σ H Q q)
theorem pn {x : Str} (h : plainName x = true) : (x == ("__debug__" : Str)) = false ∧ (x == ("__classdict__" : Str)) = false ∧ x ≠ "__name__" := by
  unfold plainName at h
  simp only [Bool.and_eq_true, Bool.not_eq_true'] at h
  exact ⟨h.1.1, h.1.2, fun z => by rw [z] at h; exact absurd h.2 (by simp)⟩
theorem star_of {env : PySem.Env} (h : notStar e = true) : starEach (e :: es) env = (false, eval e env) :: starEach es env := by
  cases e <;> first
    | rfl
    | exact absurd (show false = true from h) Bool.false_ne_true
theorem s_var (T : Good X g C) {i : Nat} {x : Str} {pos : Pos} (h1 : g.N[i]? = some x) (h2 : g.vis x = true) (h3 : plainName x = true) : PE X (.Name x pos) (tE X.K Z (evalE C (.var i))) := by
  refine PE.imp (pe_var (i := i) (by rw [T.N]; exact h1) (T.vis h2) (pn h3).1 (pn h3).2.1) ?_
  rintro σ H Q ⟨m, r, st, ar, as, h⟩
  obtain ⟨p, e, q, _⟩ := Ok.of (show Ok X.K Z (R.of (getV r i) st) m H _ from h) as
  have e' : r[i]? = some (some p) := by
    unfold getV at e
    cases q : r[i]? with
    | none => rw [q] at e; cases e
    | some o => rw [q] at e; simp at e; rw [e]
  obtain ⟨v, ev, rv⟩ := ar.at_ i p e'
  exact ⟨v, ev, q v rv⟩
theorem s_cst {x : D} {v : V} (h : PE X e (tC v)) (hr : ∀ H m, RelD X.K H m Z x v) : PE X e (tE X.K Z (evalE C (.cst x))) := by
  refine PE.imp h ?_
  rintro σ H Q ⟨m, r, st, ar, as, q⟩
  exact Ok.here (show Ok X.K Z (R.ok (P.d x) st) m H _ from q) as v (hr H m)
theorem s_two {f : Value → Value → Sem Value} {r : R2} {da db : Rho → Sto → R P} {k : P → P → Sto → R P} {σ : L2.St} {H : Hp} {Q : VK}
    (hr : ∀ (x y : P) (v u : V) (m : List Addr) (H : Hp) (st : Sto) (Q : VK), AbsSt X.K H m Z st → RelP X.K H m Z x v → RelP X.K H m Z y u → Ok X.K Z (k x y st) m H (fun p _ m' H' => ∀ v, RelP X.K H' m' Z p v → Q v H') → r v u H Q)
    (h : tE X.K Z (fun ρ st => (da ρ st).bind fun x st1 => (db ρ st1).bind fun y st2 => k x y st2) σ H Q) : tOp r (tE X.K Z da) (tE X.K Z db) σ H Q := by
  obtain ⟨m, ρ, st, ar, as, h⟩ := h
  refine ⟨m, ρ, st, ar, as, (Ok.bind h).mono fun x st1 m1 H1 le1 as1 h1 v rv => ?_⟩
  refine ⟨m1, ρ, st1, ar.le le1, as1, (Ok.bind h1).mono fun y st2 m2 H2 le2 as2 h2 u ru => ?_⟩
  exact hr x y v u m2 H2 st2 Q as2 (rv.le le2) ru h2
theorem RelDs.map {K : PySem.W.Frag} {H : Hp} {m Z : List Addr} : ∀ {xs : List D} {us : List V}, RelDs K H m Z xs us → RelPs K H m Z (xs.map .d) us
  | [], _, h => h
  | x :: xs, us, h => by
    obtain ⟨v, vs, e, r, rs⟩ := (show ∃ v vs, us = v :: vs ∧ RelD K H m Z x v ∧ RelDs K H m Z xs vs from h)
    exact ⟨v, vs, e, r, RelDs.map rs⟩
theorem RelPs.dvals {K : PySem.W.Frag} {H : Hp} {m Z : List Addr} : ∀ {ps : List P} {xs : List D} {us : List V}, RelPs K H m Z ps us → Y.dvals ps = some xs → RelDs K H m Z xs us
  | [], xs, us, h, e => by cases e; exact h
  | p :: ps, xs, us, h, e => by
    obtain ⟨v, vs, e1, r, rs⟩ := (show ∃ v vs, us = v :: vs ∧ RelP K H m Z p v ∧ RelPs K H m Z ps vs from h)
    cases p with
    | obj n => cases e
    | scr n => cases e
    | d x =>
      have e' : (Y.dvals ps).map (fun xs => x :: xs) = some xs := e
      cases q : Y.dvals ps with
      | none => rw [q] at e'; cases e'
      | some zs =>
        rw [q] at e'
        cases e'
        exact ⟨v, vs, e1, r, RelPs.dvals rs q⟩
theorem RelPs.append {K : PySem.W.Frag} {H : Hp} {m Z : List Addr} : ∀ {ps qs : List P} {us vs : List V}, RelPs K H m Z ps us → RelPs K H m Z qs vs → RelPs K H m Z (ps ++ qs) (us ++ vs)
  | [], _, us, _, h, h' => by cases (show us = [] from h); exact h'
  | p :: ps, qs, us, vs, h, h' => by
    obtain ⟨v, w', rfl, r, rs⟩ := (show ∃ v vs, us = v :: vs ∧ RelP K H m Z p v ∧ RelPs K H m Z ps vs from h)
    exact ⟨v, w' ++ vs, rfl, r, RelPs.append rs h'⟩
theorem RelDs.append {K : PySem.W.Frag} {H : Hp} {m Z : List Addr} : ∀ {ps qs : List D} {us vs : List V}, RelDs K H m Z ps us → RelDs K H m Z qs vs → RelDs K H m Z (ps ++ qs) (us ++ vs)
  | [], _, us, _, h, h' => by cases (show us = [] from h); exact h'
  | p :: ps, qs, us, vs, h, h' => by
    obtain ⟨v, w', rfl, r, rs⟩ := (show ∃ v vs, us = v :: vs ∧ RelD K H m Z p v ∧ RelDs K H m Z ps vs from h)
    exact ⟨v, w' ++ vs, rfl, r, RelDs.append rs h'⟩
theorem RelDs.length {K : PySem.W.Frag} {H : Hp} {m Z : List Addr} : ∀ {ps : List D} {us : List V}, RelDs K H m Z ps us → us.length = ps.length
  | [], us, h => by cases (show us = [] from h); rfl
  | p :: ps, us, h => by
    obtain ⟨v, w', rfl, r, rs⟩ := (show ∃ v vs, us = v :: vs ∧ RelD K H m Z p v ∧ RelDs K H m Z ps vs from h)
    rw [List.length_cons, List.length_cons, RelDs.length rs]
theorem RelPs.length {K : PySem.W.Frag} {H : Hp} {m Z : List Addr} : ∀ {ps : List P} {us : List V}, RelPs K H m Z ps us → us.length = ps.length
  | [], us, h => by cases (show us = [] from h); rfl
  | p :: ps, us, h => by
    obtain ⟨v, w', rfl, r, rs⟩ := (show ∃ v vs, us = v :: vs ∧ RelP K H m Z p v ∧ RelPs K H m Z ps vs from h)
    rw [List.length_cons, List.length_cons, RelPs.length rs]
theorem RelPs.get {K : PySem.W.Frag} {H : Hp} {m Z : List Addr} : ∀ {ps : List P} {us : List V} {i : Nat} {p : P}, RelPs K H m Z ps us → ps[i]? = some p → ∃ v, us[i]? = some v ∧ RelP K H m Z p v
  | [], us, i, p, h, e => by simp at e
  | q :: ps, us, i, p, h, e => by
    obtain ⟨v, w', rfl, r, rs⟩ := (show ∃ v vs, us = v :: vs ∧ RelP K H m Z q v ∧ RelPs K H m Z ps vs from h)
    cases i with
    | zero => simp at e; subst e; exact ⟨v, by simp, r⟩
    | succ i => simpa using RelPs.get rs (by simpa using e)
theorem RelPs.drop {K : PySem.W.Frag} {H : Hp} {m Z : List Addr} : ∀ (n : Nat) {ps : List P} {us : List V}, RelPs K H m Z ps us → RelPs K H m Z (ps.drop n) (us.drop n)
  | 0, _, _, h => h
  | n + 1, [], us, h => by cases (show us = [] from h); rfl
  | n + 1, p :: ps, us, h => by
    obtain ⟨v, w', rfl, r, rs⟩ := (show ∃ v vs, us = v :: vs ∧ RelP K H m Z p v ∧ RelPs K H m Z ps vs from h)
    exact RelPs.drop n rs
theorem RelPs.take {K : PySem.W.Frag} {H : Hp} {m Z : List Addr} : ∀ (n : Nat) {ps : List P} {us : List V}, RelPs K H m Z ps us → RelPs K H m Z (ps.take n) (us.take n)
  | 0, _, _, _ => by simp [RelPs]
  | n + 1, [], us, h => by cases (show us = [] from h); rfl
  | n + 1, p :: ps, us, h => by
    obtain ⟨v, w', rfl, r, rs⟩ := (show ∃ v vs, us = v :: vs ∧ RelP K H m Z p v ∧ RelPs K H m Z ps vs from h)
    exact ⟨v, w'.take n, rfl, r, RelPs.take n rs⟩
theorem RelDs.reverse {K : PySem.W.Frag} {H : Hp} {m Z : List Addr} : ∀ {ps : List D} {us : List V}, RelDs K H m Z ps us → RelDs K H m Z ps.reverse us.reverse
  | [], us, h => by cases (show us = [] from h); rfl
  | p :: ps, us, h => by
    obtain ⟨v, w', rfl, r, rs⟩ := (show ∃ v vs, us = v :: vs ∧ RelD K H m Z p v ∧ RelDs K H m Z ps vs from h)
    rw [List.reverse_cons, List.reverse_cons]
    exact RelDs.append (RelDs.reverse rs) ⟨v, [], rfl, r, rfl⟩
theorem litems_at {K : PySem.W.Frag} {H : Hp} {m Z : List Addr} {st : Sto} {p : P} {ps : List P} {v : V} (as : AbsSt K H m Z st) (h : litems st p = some ps) (r : RelP K H m Z p v) : ∃ a us, v = .ref a ∧ Rd H a (.lst us) ∧ RelPs K H m Z ps us := by
  cases p with
  | d x =>
    cases x with
    | pl xs =>
      have e : some (xs.map P.d) = some ps := h
      cases e
      obtain ⟨a, us, e, q, _, _, rs⟩ := r
      exact ⟨a, us, e, q, rs.map⟩
    | _ => cases h
  | obj n =>
    obtain ⟨a, e, rfl⟩ := r
    have h' : (match st[n]? with | some (.lst xs) => some xs | _ => none) = some ps := h
    split at h'
    · rename_i xs hs
      cases h'
      obtain ⟨a', e', o⟩ := as.at_ n _ hs
      rw [e] at e'
      cases e'
      obtain ⟨us, hu, rs⟩ := o
      exact ⟨a, us, rfl, .inl hu, rs⟩
    · cases h'
  | scr n => cases h
theorem rel_ints {K : PySem.W.Frag} {H : Hp} {m Z : List Addr} : ∀ ns : List Int, RelPs K H m Z (ns.map fun i => P.d (.int i)) (ns.map V.int)
  | [] => rfl
  | n :: ns => ⟨_, _, rfl, rfl, rel_ints ns⟩
theorem sitems_at {K : PySem.W.Frag} {H : Hp} {m Z : List Addr} {st : Sto} {p : P} {ps : List P} {v : V} (as : AbsSt K H m Z st) (h : sitems st p = some ps) (r : RelP K H m Z p v) : ∃ a us, v = .ref a ∧ (SqL K H a us ∨ H a = some (.tup us)) ∧ RelPs K H m Z ps us := by
  cases p with
  | d x =>
    cases x with
    | tup xs =>
      have e : some (xs.map P.d) = some ps := h
      cases e
      obtain ⟨a, us, e, q, rs⟩ := r
      exact ⟨a, us, e, .inr q, rs.map⟩
    | pl xs =>
      obtain ⟨a, us, e, q, rs⟩ := litems_at as (show litems st (.d (.pl xs)) = some ps from h) r
      exact ⟨a, us, e, .inl (.inl q), rs⟩
    | non => cases h
    | bl b => cases h
    | int b => cases h
    | str b => cases h
  | obj n =>
    obtain ⟨a, us, e, q, rs⟩ := litems_at as (show litems st (.obj n) = some ps from h) r
    exact ⟨a, us, e, .inl (.inl q), rs⟩
  | scr n =>
    have e : some (n.map fun i => P.d (.int i)) = some ps := h
    cases e
    obtain ⟨a, e, q⟩ := r
    exact ⟨a, _, e, .inl q.sq, rel_ints n⟩
theorem sq_of {K : PySem.W.Frag} {H : Hp} {a : Addr} {us : List V} (h : SqL K H a us ∨ H a = some (.tup us)) : SqL K H a us ∨ SqT K H a us := h.imp_right SqT.of
theorem new_tup {K : PySem.W.Frag} {H : Hp} {m Z : List Addr} {st : Sto} {xs : List D} {us : List V} {α : Type} {Q : V → Hp → Prop} (as : AbsSt K H m Z st) (r : RelDs K H m Z xs us) {a : Addr} (ha : H a = none)
    (h : Ok K Z (R.ok (P.d (.tup xs)) st) m H (fun p _ m' H' => ∀ v, RelP K H' m' Z p v → Q v H')) : Q (.ref a) (upd H a (.tup us)) := by
  have le : Le K m H m (upd H a (.tup us)) := Le.same (same_new ha _)
  exact h m (upd H a (.tup us)) le (as.same (same_new ha _)) (.ref a) ⟨a, us, rfl, upd_same, r.le le⟩
theorem new_pl {K : PySem.W.Frag} {H : Hp} {m Z : List Addr} {st : Sto} {xs : List D} {us : List V} {Q : V → Hp → Prop} (as : AbsSt K H m Z st) (r : RelDs K H m Z xs us) {a : Addr} (ha : H a = none)
    (h : Ok K Z (R.ok (P.d (.pl xs)) st) m H (fun p _ m' H' => ∀ v, RelP K H' m' Z p v → Q v H')) : Q (.ref a) (upd H a (.lst us)) := by
  have le : Le K m H m (upd H a (.lst us)) := Le.same (same_new ha _)
  exact h m (upd H a (.lst us)) le (as.same (same_new ha _)) (.ref a) ⟨a, us, rfl, .inl upd_same, (as.fresh ha).1, (as.fresh ha).2, r.le le⟩
end
end Y

namespace Y
open PySem L2 PySem.Spec PyProof.Rows
section
variable {X : Cx} {g : G} {C : Nat → List P → Sto → R P} {Z : List Addr} {e : Expr} {es : List Expr}
theorem line_eq : lineN = sizeLine := by rw [sizeLine_eq]; rfl
theorem rd_lstM {pins : List (Addr × Obj)} {σ : L2.St} {H : Hp} {s : Shared} {a : Addr} {xs : List V} (h : Rd H a (.lst xs)) (I : Inv X pins σ H s) :
    xs.length ≤ sizeLine ∧ ∃ (its : List Value) (n : Nat), Vals xs its ∧ s.heap.get? a = some { cls := .type "list", data := .seq its.toArray n } := h.ok I.hok
def rCatR : R2 := fun x y H Q => ∃ l b xs zs, x = .ref l ∧ y = .ref b ∧ Rd H l (.lst xs) ∧ Rd H b (.lst zs) ∧ xs.length + zs.length ≤ sizeLine ∧ ∀ p, H p = none → Q (.ref p) (upd H p (.lst (xs ++ zs)))
theorem op_catR : OpR X (binaryOp .Add) rCatR := by
  intro pins s σ H x y v u Q I rx ry h
  obtain ⟨l, b, xs, zs, rfl, rfl, hH, hB, hz, q⟩ := h
  cases rx
  cases ry
  obtain ⟨z, its, n, r, e⟩ := rd_lstM hH I
  obtain ⟨z2, its2, n2, r2, e2⟩ := rd_lstM hB I
  have hl := r.length
  have hl2 := r2.length
  refine PySem.P.add_list e e2 ?_ (by rw [List.size_toArray, List.size_toArray]; omega)
  have ea : its.toArray ++ its2.toArray = (its ++ its2).toArray := by simp
  rw [ea]
  exact ⟨.ref _, _, I.lnew (t' := s.toks) (r.append r2) (by rw [List.length_append]; omega), rfl, q _ I.fresh⟩
def rStr : R2 := fun x y H Q => ∃ i j, x = .str i ∧ y = .str j ∧ i.length + j.length ≤ sizeLine ∧ Q (.str (i ++ j)) H
def rBop (K : PySem.W.Frag) : Bop → R2
  | .add => fun v u H Q => rI0 (fun i j => .int (i + j)) v u H Q ∨ rStr v u H Q ∨ rCatA v u H Q ∨ rCatR v u H Q
  | .sub => rI0 fun i j => .int (i - j)
  | .mul => fun v u H Q => rI CMul (fun i j => .int (i * j)) v u H Q ∨ rMul2 v u H Q ∨ rMul3 v u H Q ∨ rMul1 v u H Q
  | .mod => rI (fun _ j => 0 < j) fun i j => .int (i % j)
  | .fdiv => rI CDiv fun i j => .int (i / j)
theorem op_bop : ∀ o : Bop, OpR X (binaryOp (bopOf o)) (rBop X.K o)
  | .add => op_add.or (op_add_str.or (op_catA.or op_catR))
  | .sub => op_sub
  | .mul => op_mul.or (op_mulT2.or (op_mulT3.or op_mulT1))
  | .mod => op_mod
  | .fdiv => op_fdiv
theorem bop_of {K : PySem.W.Frag} {o : Bop} {x y : P} {v u : V} {m : List Addr} {H : Hp} {st : Sto} {Q : VK} (as : AbsSt K H m Z st) (rx : RelP K H m Z x v) (ry : RelP K H m Z y u)
    (h : Ok K Z (R.of (opP o x y st) st) m H (fun p _ m' H' => ∀ v, RelP K H' m' Z p v → Q v H')) : rBop K o v u H Q := by
  obtain ⟨p, e, q, qq⟩ := Ok.of h as
  unfold opP at e
  split at e
  · rename_i i j
    cases (show v = .int i from rx)
    cases (show u = .int j from ry)
    cases o with
    | add => cases e; exact .inl ⟨i, j, rfl, rfl, q _ rfl⟩
    | sub => cases e; exact ⟨i, j, rfl, rfl, q _ rfl⟩
    | mul =>
      unfold opI at e
      simp only at e
      split at e
      · rename_i hc
        cases e
        exact .inl ⟨i, j, rfl, rfl, hc, q _ rfl⟩
      · cases e
    | mod =>
      unfold opI at e
      simp only at e
      split at e
      · rename_i hc
        cases e
        exact ⟨i, j, rfl, rfl, hc, q _ rfl⟩
      · cases e
    | fdiv =>
      unfold opI at e
      simp only at e
      split at e
      · rename_i hc
        cases e
        exact ⟨i, j, rfl, rfl, hc, q _ rfl⟩
      · cases e
  · rename_i x y
    cases (show v = .str x from rx)
    cases (show u = .str y from ry)
    split at e
    · rename_i hc
      cases e
      exact .inr (.inl ⟨x, y, rfl, rfl, by rw [← line_eq]; exact hc, q _ rfl⟩)
    · cases e
  · rename_i xs ys
    obtain ⟨a, us, rfl, ha, ra⟩ := rx
    obtain ⟨b, vs, rfl, hb, rb⟩ := ry
    split at e
    · rename_i hc
      cases e
      refine .inr (.inr (.inl ⟨a, b, us, vs, rfl, rfl, ha, hb, by rw [ra.length, rb.length, ← line_eq]; exact hc, fun r H' sm hr => ?_⟩))
      have le : Le K m H m H' := Le.same sm
      exact qq m H' le (as.same sm) (.ref r) ⟨r, us ++ vs, rfl, hr, (ra.append rb).le le⟩
    · cases e
  · rename_i xs k
    obtain ⟨a, us, rfl, ha, ra⟩ := rx
    cases (show u = .int k from ry)
    split at e
    · rename_i hc
      cases e
      subst hc
      exact .inr (.inr (.inr ⟨a, us, rfl, rfl, ha, q (.ref a) ⟨a, us, rfl, ha, ra⟩⟩))
    split at e
    · rename_i hc
      cases e
      obtain ⟨rfl, h1, h2⟩ := hc
      refine .inr (.inl ⟨a, us, rfl, rfl, ha, fun z => ?_, by rw [ra.length]; exact h2, fun p hp => ?_⟩)
      · have := ra.length
        rw [z] at this
        simp at this
        omega
      · exact new_tup (α := Unit) as (ra.append ra) hp qq
    split at e
    · rename_i hc
      cases e
      obtain ⟨rfl, h1, h2⟩ := hc
      refine .inr (.inr (.inl ⟨a, us, rfl, rfl, ha, fun z => ?_, by rw [ra.length]; exact h2, fun p hp => ?_⟩))
      · have := ra.length
        rw [z] at this
        simp at this
        omega
      · exact new_tup (α := Unit) as ((ra.append ra).append ra) hp qq
    · cases e
  · rename_i h1 h2 h3
    cases ha : litems st x with
    | none => rw [ha] at e; cases e
    | some ps =>
      cases hb : litems st y with
      | none => rw [ha, hb] at e; cases e
      | some qs =>
        rw [ha, hb] at e
        simp only [Option.bind_some] at e
        cases hz : dvals (ps ++ qs) with
        | none => rw [hz] at e; cases e
        | some zs =>
          rw [hz] at e
          simp only [Option.bind_some] at e
          split at e
          · rename_i hc
            cases e
            obtain ⟨c, us, rfl, hc1, rc⟩ := litems_at as ha rx
            obtain ⟨d, vs, rfl, hd1, rd⟩ := litems_at as hb ry
            have rr := (rc.append rd).dvals hz
            have hlen := rr.length
            rw [List.length_append] at hlen
            refine .inr (.inr (.inr ⟨c, d, us, vs, rfl, rfl, hc1, hd1, by rw [← line_eq]; omega, fun p hp => ?_⟩))
            exact new_pl as rr hp qq
          · cases e
  · cases e
theorem s_op {a b : Expr} {ea eb : E} {o : Bop} {pos : Pos} (ha : PE X a (tE X.K Z (evalE C ea))) (hb : PE X b (tE X.K Z (evalE C eb))) : PE X (.BinOp a (bopOf o) b pos) (tE X.K Z (evalE C (.op o ea eb))) :=
  PE.imp (pe_op (op_bop o) ha hb) fun σ H Q h => s_two (f := binaryOp (bopOf o)) (fun x y v u m H st Q as rx ry h => bop_of as rx ry h) h
theorem obind {α β : Type} {o : Option α} {f : α → Option β} {b : β} (h : o.bind f = some b) : ∃ a, o = some a ∧ f a = some b := by
  cases o with
  | none => cases h
  | some a => exact ⟨a, rfl, h⟩
theorem omap {α β : Type} {o : Option α} {f : α → β} {b : β} (h : o.map f = some b) : ∃ a, o = some a ∧ f a = b := by
  cases o with
  | none => cases h
  | some a => exact ⟨a, rfl, by simpa using h⟩
theorem froz_rel {K : PySem.W.Frag} {H : Hp} {m : List Addr} {st : Sto} {p : P} {x : D} {v : V} (as : AbsSt K H m Z st) (h : froz st p = some x) (r : RelP K H m Z p v) : RelD K H [] [] x v := by
  cases p with
  | d y => cases h; exact RelD.bare r
  | obj n =>
    obtain ⟨a, e, rfl⟩ := r
    have h' : (match st[n]? with | some (.lst xs) => (dvals xs).map D.pl | _ => none) = some x := h
    split at h'
    · rename_i xs hs
      obtain ⟨a', e', o⟩ := as.at_ n _ hs
      rw [e] at e'
      cases e'
      obtain ⟨us, hu, rs⟩ := o
      cases hd : dvals xs with
      | none => rw [hd] at h'; cases h'
      | some ys =>
        rw [hd] at h'
        cases h'
        exact ⟨a, us, rfl, .inl hu, by simp, by simp, (rs.dvals hd).bare⟩
    · cases h'
  | scr n => cases h
theorem RelP.key {K : PySem.W.Frag} {H : Hp} {m : List Addr} {p : P} {k : Sum Int Str} {v : V} (r : RelP K H m Z p v) (e : keyOf p = some k) : v = kV k := by
  unfold keyOf at e
  split at e
  · cases e; exact r
  · cases e; exact r
  · cases e
theorem RelDs.keys {K : PySem.W.Frag} {H : Hp} {m : List Addr} : ∀ {xs : List D} {ks : List (Sum Int Str)} {us : List V}, RelDs K H m Z xs us → keysOf xs = some ks → us = ks.map kV
  | [], ks, us, h, e => by cases e; exact h
  | x :: xs, ks, us, h, e => by
    obtain ⟨v, vs, rfl, r, rs⟩ := (show ∃ v vs, us = v :: vs ∧ RelD K H m Z x v ∧ RelDs K H m Z xs vs from h)
    unfold keysOf at e
    cases e1 : keyOf (.d x) with
    | none => rw [e1] at e; cases e
    | some k =>
      rw [e1] at e
      cases e2 : keysOf xs with
      | none => rw [e2] at e; cases e
      | some k2 =>
        rw [e2] at e
        cases e
        rw [RelDs.keys rs e2, RelP.key (show RelP K H m Z (.d x) v from r) e1]
        rfl
theorem RelP.keyT {K : PySem.W.Frag} {H : Hp} {m : List Addr} {p : P} {k : List (Sum Int Str)} {v : V} (r : RelP K H m Z p v) (e : Y.keyT p = some k) : ∃ b, v = .ref b ∧ H b = some (.tup (k.map kV)) := by
  unfold Y.keyT at e
  split at e
  · obtain ⟨b, us, rfl, h1, rs⟩ := r
    exact ⟨b, rfl, by rw [← RelDs.keys rs e]; exact h1⟩
  · cases e
theorem RelKs.val {κ : Type} [DecidableEq κ] {K : PySem.W.Frag} {H : Hp} {m : List Addr} {k : κ} : ∀ {kvs : List (κ × P)} {us : List (κ × V)}, RelKs K H m Z kvs us → (valV us k).isSome = (valP kvs k).isSome ∧ ∀ p, valP kvs k = some p → ∃ v, valV us k = some v ∧ RelP K H m Z p v
  | [], us, h => by
    cases (show us = [] from h)
    exact ⟨rfl, fun p e => by cases e⟩
  | x :: xs, us, h => by
    obtain ⟨v, vs, rfl, r, rs⟩ := (show ∃ v vs, us = (x.1, v) :: vs ∧ RelP K H m Z x.2 v ∧ RelKs K H m Z xs vs from h)
    obtain ⟨i1, i2⟩ := RelKs.val (k := k) rs
    by_cases hk : x.1 = k
    · have e1 : valV ((x.1, v) :: vs) k = some v := valV_pos hk
      have e2 : valP (x :: xs) k = some x.2 := by simp [valP, List.find?_cons, hk]
      rw [e1, e2]
      exact ⟨rfl, fun p e => by cases e; exact ⟨v, rfl, r⟩⟩
    · have e1 : valV ((x.1, v) :: vs) k = valV vs k := valV_neg hk
      have e2 : valP (x :: xs) k = valP xs k := by simp [valP, List.find?_cons, hk]
      rw [e1, e2]
      exact ⟨i1, i2⟩
theorem RelKs.length {κ : Type} {K : PySem.W.Frag} {H : Hp} {m : List Addr} : ∀ {kvs : List (κ × P)} {us : List (κ × V)}, RelKs K H m Z kvs us → us.length = kvs.length
  | [], us, h => by cases (show us = [] from h); rfl
  | x :: xs, us, h => by
    obtain ⟨v, vs, rfl, r, rs⟩ := (show ∃ v vs, us = (x.1, v) :: vs ∧ RelP K H m Z x.2 v ∧ RelKs K H m Z xs vs from h)
    rw [List.length_cons, List.length_cons, RelKs.length rs]
theorem RelKs.app {κ : Type} {K : PySem.W.Frag} {H : Hp} {m : List Addr} {k : κ} {p : P} {v : V} (rp : RelP K H m Z p v) : ∀ {kvs : List (κ × P)} {us : List (κ × V)}, RelKs K H m Z kvs us → RelKs K H m Z (kvs ++ [(k, p)]) (us ++ [(k, v)])
  | [], us, h => by cases (show us = [] from h); exact ⟨v, [], rfl, rp, rfl⟩
  | x :: xs, us, h => by
    obtain ⟨v', vs, rfl, r, rs⟩ := (show ∃ v vs, us = (x.1, v) :: vs ∧ RelP K H m Z x.2 v ∧ RelKs K H m Z xs vs from h)
    exact ⟨v', vs ++ [(k, v)], rfl, r, RelKs.app rp rs⟩
theorem RelKs.repl {κ : Type} [DecidableEq κ] {K : PySem.W.Frag} {H : Hp} {m : List Addr} {k : κ} {p : P} {v : V} (rp : RelP K H m Z p v) : ∀ {kvs : List (κ × P)} {us : List (κ × V)}, RelKs K H m Z kvs us →
    RelKs K H m Z (kvs.map fun kv => if kv.1 = k then (kv.1, p) else kv) (us.map fun kv => if kv.1 = k then (kv.1, v) else kv)
  | [], us, h => by cases (show us = [] from h); rfl
  | x :: xs, us, h => by
    obtain ⟨v', vs, rfl, r, rs⟩ := (show ∃ v vs, us = (x.1, v) :: vs ∧ RelP K H m Z x.2 v ∧ RelKs K H m Z xs vs from h)
    have ih := RelKs.repl (k := k) rp rs
    rw [List.map_cons, List.map_cons]
    by_cases hk : x.1 = k
    · rw [if_pos hk, if_pos hk]; exact ⟨v, _, rfl, rp, ih⟩
    · rw [if_neg hk, if_neg hk]; exact ⟨v', _, rfl, r, ih⟩
theorem RelKs.put {κ : Type} [DecidableEq κ] {K : PySem.W.Frag} {H : Hp} {m : List Addr} {k : κ} {p : P} {v : V} {kvs : List (κ × P)} {us : List (κ × V)} (rs : RelKs K H m Z kvs us) (rp : RelP K H m Z p v) : RelKs K H m Z (putP kvs k p) (putK us k v) := by
  have e : (us.any fun kv => decide (kv.1 = k)) = (kvs.any fun kv => decide (kv.1 = k)) := by
    have e2 : ∀ kvs : List (κ × P), (kvs.any fun kv => decide (kv.1 = k)) = (valP kvs k).isSome := fun kvs => by
      unfold valP
      rw [Option.isSome_map]
      induction kvs with
      | nil => rfl
      | cons x xs ih =>
        rw [List.any_cons, List.find?_cons]
        cases hx : decide (x.1 = k)
        · simpa using ih
        · rfl
    rw [valV_any, (rs.val (k := k)).1, e2]
  unfold putP putK
  rw [e]
  split
  · exact rs.repl rp
  · exact rs.app rp
theorem dic_at {K : PySem.W.Frag} {H : Hp} {m : List Addr} {st : Sto} {p : P} {o : O} {v : V} (as : AbsSt K H m Z st) (h : theDic st p = some o) (r : RelP K H m Z p v) : ∃ n a, p = .obj n ∧ st[n]? = some o ∧ m[n]? = some a ∧ v = .ref a ∧ AbsO K H m Z a o ∧ isDic o = true := by
  unfold theDic at h
  cases p with
  | d x => cases h
  | scr x => cases h
  | obj n =>
    obtain ⟨a, e, rfl⟩ := r
    cases hs : st[n]? with
    | none => rw [show theO st (.obj n) = st[n]? from rfl, hs] at h; cases h
    | some o' =>
      rw [show theO st (.obj n) = st[n]? from rfl, hs] at h
      have h' : (if isDic o' = true then some o' else none) = some o := h
      split at h'
      · rename_i hd
        cases h'
        obtain ⟨a', e', q⟩ := as.at_ n _ hs
        rw [e] at e'
        cases e'
        exact ⟨n, a, rfl, hs, e, rfl, q, hd⟩
      · cases h'
theorem dget_at {K : PySem.W.Frag} {H : Hp} {m : List Addr} {o : O} {a : Addr} {k : P} {y : V} {res : Option P} (ao : AbsO K H m Z a o) (rk : RelP K H m Z k y) (h : dgetO o k = some res) : ∃ ov, DGet H a y ov ∧ ov.isSome = res.isSome ∧ ∀ p, res = some p → ∃ v, ov = some v ∧ RelP K H m Z p v := by
  cases o with
  | lst xs => cases h
  | dK kvs =>
    obtain ⟨us, hu, rs⟩ := ao
    cases hk : keyOf k with
    | none => rw [show dgetO (.dK kvs) k = (keyOf k).map _ from rfl, hk] at h; cases h
    | some kk =>
      rw [show dgetO (.dK kvs) k = (keyOf k).map _ from rfl, hk] at h
      cases h
      obtain ⟨i1, i2⟩ := rs.val (k := kk)
      refine ⟨valV us kk, ?_, i1, fun p hp => i2 p hp⟩
      rw [rk.key hk]
      exact DGet.k hu
  | dT kvs =>
    obtain ⟨us, hu, rs⟩ := ao
    cases hk : keyT k with
    | none => rw [show dgetO (.dT kvs) k = (keyT k).map _ from rfl, hk] at h; cases h
    | some kk =>
      rw [show dgetO (.dT kvs) k = (keyT k).map _ from rfl, hk] at h
      cases h
      obtain ⟨i1, i2⟩ := rs.val (k := kk)
      obtain ⟨b, rfl, hb⟩ := rk.keyT hk
      exact ⟨valV us kk, DGet.t hu hb, i1, fun p hp => i2 p hp⟩
def rDIn (neg : Bool) : R2 := fun y x H Q => ∃ a o, x = .ref a ∧ DGet H a y o ∧ Q (.bl (if neg then !o.isSome else o.isSome)) H
theorem op_din (hu : X.A.units + 100 < cLine) : OpR X (compareOp .In) (rDIn false) := by
  intro pins s σ H x y v u Q I rx ry h
  obtain ⟨a, o, rfl, g, q⟩ := h
  cases ry
  exact d_in (by omega) I g rx fun s3 I3 => ⟨.bl o.isSome, H, I3, rfl, q⟩
theorem op_dnotin (hu : X.A.units + 100 < cLine) : OpR X (compareOp .NotIn) (rDIn true) := by
  intro pins s σ H x y v u Q I rx ry h
  obtain ⟨a, o, rfl, g, q⟩ := h
  cases ry
  exact d_notIn (by omega) I g rx fun s3 I3 => ⟨.bl (!o.isSome), H, I3, rfl, q⟩
def rCop (K : PySem.W.Frag) : Cop → R2
  | .lt => rI0 fun i j => .bl (decide (i < j))
  | .le => rI0 fun i j => .bl (decide (i ≤ j))
  | .gt => rI0 fun i j => .bl (decide (j < i))
  | .ge => rI0 fun i j => .bl (decide (j ≤ i))
  | .eq => fun v u H Q => ∃ m Z x y k, RelD K H m Z x v ∧ RelD K H m Z y u ∧ eqO x y = some k ∧ Q (.bl k) H
  | .ne => fun v u H Q => ∃ m Z x y k, RelD K H m Z x v ∧ RelD K H m Z y u ∧ eqO x y = some k ∧ Q (.bl (!k)) H
  | .isin => fun v u H Q => rIn K false v u H Q ∨ rDIn false v u H Q
  | .notin => fun v u H Q => rIn K true v u H Q ∨ rDIn true v u H Q
  | .isN => fun x y H Q => y = .non ∧ Q (.bl (decide (x = .non))) H
  | .notN => fun x y H Q => y = .non ∧ Q (.bl (!decide (x = .non))) H
theorem op_cop (hu : X.A.units + 100 < cLine) : ∀ o : Cop, OpR X (compareOp (copOf o)) (rCop X.K o)
  | .lt => op_lt
  | .le => op_le
  | .gt => op_gt
  | .ge => op_ge
  | .eq => op_eqD hu
  | .ne => op_neD hu
  | .isin => op_in_seq.or (op_din hu)
  | .notin => op_notIn_seq.or (op_dnotin hu)
  | .isN => op_isN
  | .notN => op_notN
theorem flat_V {K : PySem.W.Frag} {H : Hp} {m Z : List Addr} {x : D} {v : V} (h : RelD K H m Z x v) (f : flatD x = true) : flatV v = true := by
  cases x with
  | non => cases (show v = .non from h); rfl
  | bl b => cases (show v = .bl b from h); rfl
  | int b => cases (show v = .int b from h); rfl
  | str b => cases (show v = .str b from h); rfl
  | tup xs => cases f
  | pl xs => cases f
theorem eq_V {K : PySem.W.Frag} {H : Hp} {m Z : List Addr} {x y : D} {v u : V} (h : RelD K H m Z x v) (h' : RelD K H m Z y u) (f : flatD x = true) (f' : flatD y = true) : eqV v u = eqD x y := by
  cases x with
  | tup xs => cases f
  | pl xs => cases f
  | non =>
    cases (show v = .non from h)
    cases y with
    | tup xs => cases f'
    | pl xs => cases f'
    | non => cases (show u = .non from h'); rfl
    | bl b => cases (show u = .bl b from h'); rfl
    | int b => cases (show u = .int b from h'); rfl
    | str b => cases (show u = .str b from h'); rfl
  | bl a =>
    cases (show v = .bl a from h)
    cases y with
    | tup xs => cases f'
    | pl xs => cases f'
    | non => cases (show u = .non from h'); rfl
    | bl b => cases (show u = .bl b from h'); rfl
    | int b => cases (show u = .int b from h'); rfl
    | str b => cases (show u = .str b from h'); rfl
  | int a =>
    cases (show v = .int a from h)
    cases y with
    | tup xs => cases f'
    | pl xs => cases f'
    | non => cases (show u = .non from h'); rfl
    | bl b => cases (show u = .bl b from h'); rfl
    | int b => cases (show u = .int b from h'); rfl
    | str b => cases (show u = .str b from h'); rfl
  | str a =>
    cases (show v = .str a from h)
    cases y with
    | tup xs => cases f'
    | pl xs => cases f'
    | non => cases (show u = .non from h'); rfl
    | bl b => cases (show u = .bl b from h'); rfl
    | int b => cases (show u = .int b from h'); rfl
    | str b => cases (show u = .str b from h'); rfl
theorem flats {K : PySem.W.Frag} {H : Hp} {m Z : List Addr} {x : D} {v : V} (h : RelD K H m Z x v) (f : flatD x = true) : ∀ {ys : List D} {us : List V}, RelDs K H m Z ys us → ys.all flatD = true → us.all flatV = true ∧ inV v us = ys.any fun y => eqD y x
  | [], us, r, _ => by cases (show us = [] from r); exact ⟨rfl, rfl⟩
  | y :: ys, us, r, q => by
    obtain ⟨w', ws, rfl, r1, r2⟩ := (show ∃ v vs, us = v :: vs ∧ RelD K H m Z y v ∧ RelDs K H m Z ys vs from r)
    rw [List.all_cons, Bool.and_eq_true] at q
    obtain ⟨i1, i2⟩ := flats h f r2 q.2
    refine ⟨by rw [List.all_cons, flat_V r1 q.1, i1]; rfl, ?_⟩
    unfold inV at i2 ⊢
    rw [List.any_cons, List.any_cons, eq_V r1 h q.1 f, i2]
theorem non_of {K : PySem.W.Frag} {H : Hp} {m Z : List Addr} {x : P} {v : V} (h : RelP K H m Z x v) : decide (v = .non) = isNon x := by
  cases x with
  | obj n => obtain ⟨a, _, rfl⟩ := h; exact decide_eq_false (fun z => nomatch z)
  | scr n => obtain ⟨a, rfl, _⟩ := h; exact decide_eq_false (fun z => nomatch z)
  | d x =>
    cases x with
    | non => cases (show v = .non from h); rfl
    | bl b => cases (show v = .bl b from h); exact decide_eq_false (fun z => nomatch z)
    | int b => cases (show v = .int b from h); exact decide_eq_false (fun z => nomatch z)
    | str b => cases (show v = .str b from h); exact decide_eq_false (fun z => nomatch z)
    | tup xs => obtain ⟨a, _, rfl, _⟩ := h; exact decide_eq_false (fun z => nomatch z)
    | pl xs => obtain ⟨a, _, rfl, _⟩ := h; exact decide_eq_false (fun z => nomatch z)
theorem in_of {K : PySem.W.Frag} {neg : Bool} {x y : P} {v u : V} {m : List Addr} {H : Hp} {st : Sto} {Q : VK} {k : Bool} (as : AbsSt K H m Z st) (rx : RelP K H m Z x v) (ry : RelP K H m Z y u)
    (e : inP x y st = some k) (q : Q (.bl (if neg then !k else k)) H) : rIn K neg v u H Q ∨ rDIn neg v u H Q := by
  unfold inP at e
  split at e
  · rename_i o ho
    obtain ⟨res, e1, rfl⟩ := omap e
    obtain ⟨n, a, rfl, hs, hm, rfl, ao, _⟩ := dic_at as ho ry
    obtain ⟨ov, hg, h1, _⟩ := dget_at ao rx e1
    refine .inr ⟨a, ov, rfl, hg, ?_⟩
    rw [h1]
    exact q
  · left
    obtain ⟨xd, e1, e⟩ := obind e
    obtain ⟨ps, e2, e⟩ := obind e
    obtain ⟨ys, e3, e9⟩ := obind e
    clear e
    split at e9
    · rename_i hf
      rw [Bool.and_eq_true] at hf
      cases x with
      | obj n => cases e1
      | scr n => cases e1
      | d x =>
        cases e1
        obtain ⟨a, us, rfl, hs, rs⟩ := sitems_at as e2 ry
        obtain ⟨f1, f2⟩ := flats rx hf.1 (rs.dvals e3) hf.2
        refine ⟨a, us, rfl, sq_of hs, flat_V rx hf.1, f1, ?_⟩
        rw [f2]
        cases e9
        cases neg <;> exact q
    · cases e9
theorem cop_of {K : PySem.W.Frag} {o : Cop} {x y : P} {v u : V} {m : List Addr} {H : Hp} {st : Sto} {Q : VK} {k : Bool} (as : AbsSt K H m Z st) (rx : RelP K H m Z x v) (ry : RelP K H m Z y u) (e : cmpP o x y st = some k) (q : Q (.bl k) H) : rCop K o v u H Q := by
  have twoI : ∀ {o : Cop}, intP o x y = some k → ∃ i j, v = .int i ∧ u = .int j ∧ cmpI o i j = some k := fun {o} z => by
    unfold intP at z
    split at z
    · exact ⟨_, _, rx, ry, z⟩
    · cases z
  cases o with
  | lt => obtain ⟨i, j, rfl, rfl, z⟩ := twoI e; cases z; exact ⟨i, j, rfl, rfl, q⟩
  | le => obtain ⟨i, j, rfl, rfl, z⟩ := twoI e; cases z; exact ⟨i, j, rfl, rfl, q⟩
  | gt => obtain ⟨i, j, rfl, rfl, z⟩ := twoI e; cases z; exact ⟨i, j, rfl, rfl, q⟩
  | ge => obtain ⟨i, j, rfl, rfl, z⟩ := twoI e; cases z; exact ⟨i, j, rfl, rfl, q⟩
  | eq =>
    obtain ⟨a, e1, e⟩ := obind (show ((froz st x).bind fun x => (froz st y).bind fun y => eqO x y) = some k from e)
    obtain ⟨b, e2, e⟩ := obind e
    exact ⟨[], [], a, b, k, froz_rel as e1 rx, froz_rel as e2 ry, e, q⟩
  | ne =>
    obtain ⟨a, e1, e⟩ := obind (show ((froz st x).bind fun x => (froz st y).bind fun y => (eqO x y).map not) = some k from e)
    obtain ⟨b, e2, e⟩ := obind e
    obtain ⟨c, e3, rfl⟩ := omap e
    exact ⟨[], [], a, b, c, froz_rel as e1 rx, froz_rel as e2 ry, e3, q⟩
  | isin => exact in_of (neg := false) as rx ry e q
  | notin =>
    obtain ⟨k', e', rfl⟩ := omap (show (inP x y st).map not = some k from e)
    exact in_of (neg := true) as rx ry e' q
  | isN =>
    have e' : (if isNon y then some (isNon x) else none) = some k := e
    split at e'
    · rename_i hy
      cases e'
      have := non_of ry
      rw [hy] at this
      exact ⟨of_decide_eq_true this, by rw [non_of rx]; exact q⟩
    · cases e'
  | notN =>
    have e' : (if isNon y then some (!isNon x) else none) = some k := e
    split at e'
    · rename_i hy
      cases e'
      have := non_of ry
      rw [hy] at this
      exact ⟨of_decide_eq_true this, by rw [non_of rx]; exact q⟩
    · cases e'
theorem Ok.truth {K : PySem.W.Frag} {o : Option Bool} {st : Sto} {m : List Addr} {H : Hp} {Q : VK} (as : AbsSt K H m Z st)
    (h : Ok K Z ((R.of o st).bind fun b st3 => R.ok (P.d (.bl b)) st3) m H (fun p _ m' H' => ∀ v, RelP K H' m' Z p v → Q v H')) : ∃ k, o = some k ∧ Q (.bl k) H := by
  obtain ⟨k, e, q, _⟩ := Ok.of (Ok.bind h) as
  exact ⟨k, e, Ok.here q as (.bl k) rfl⟩
theorem nomarks {b : Expr} {op : CmpOp} (h : isSetD b = false) : behindInMarks op b = false := by
  cases b <;> first
    | rfl
    | exact absurd (show true = false from h) Bool.false_ne_true.symm
theorem s_cmp (T : Good X g C) {a b : Expr} {ea eb : E} {o : Cop} {pos : Pos} (ha : PE X a (tE X.K Z (evalE C ea))) (hb : PE X b (tE X.K Z (evalE C eb))) (hn : isSetD b = false) :
    PE X (.Compare a [copOf o] [b] pos) (tE X.K Z (evalE C (.cmp o ea eb))) :=
  PE.imp (pe_cmpR (op_cop T.hu o) ha hb (nomarks hn)) fun σ H Q h => s_two (f := compareOp (copOf o)) (fun x y v u m H st Q as rx ry h => by
    obtain ⟨k, e, q⟩ := Ok.truth as h
    exact cop_of as rx ry e q) h
theorem rbind {α β : Type} {r : R α} {f : α → Sto → R β} {b : β} {st : Sto} (h : r.bind f = .ok b st) : ∃ a st1, r = .ok a st1 ∧ f a st1 = .ok b st := by
  cases r with
  | ok a st1 => exact ⟨a, st1, rfl, h⟩
  | ex x st1 => cases h
  | no => cases h
theorem tru_of {K : PySem.W.Frag} {p : P} {v : V} {m : List Addr} {H : Hp} {st : Sto} {k : Bool} (as : AbsSt K H m Z st) (r : RelP K H m Z p v) (e : truP st p = some k) : TruV K v H k := by
  have lists : (litems st p).map (fun xs => !xs.isEmpty) = some k → TruV K v H k := fun z => by
    obtain ⟨ps, e1, rfl⟩ := omap z
    obtain ⟨a, us, rfl, hr, rs⟩ := litems_at as e1 r
    refine .inl ⟨us, .inl hr, ?_⟩
    have := rs.length
    cases ps <;> cases us <;> simp at this ⊢
  cases p with
  | obj n => exact lists e
  | scr n => exact lists e
  | d x =>
    cases x with
    | non => cases (show v = .non from r); cases e; rfl
    | bl b => cases (show v = .bl b from r); cases e; rfl
    | int b => cases (show v = .int b from r); cases e; rfl
    | str b =>
      cases (show v = .str b from r)
      have e' : (if b.length ≤ lineN then some ((b.length : Int) != 0) else none) = some k := e
      split at e'
      · rename_i hc
        cases e'
        exact ⟨by rw [← line_eq]; exact hc, rfl⟩
      · cases e'
    | tup xs =>
      obtain ⟨a, us, rfl, hs, rs⟩ := r
      cases e
      refine .inr (.inl ⟨us, SqT.of hs, ?_⟩)
      have := rs.length
      cases xs <;> cases us <;> simp at this ⊢
    | pl xs => exact lists e
theorem tT_val {d : Rho → Sto → R P} {σ : L2.St} {H : Hp} {Q : Bool → Hp → Prop} (h : tT X.K Z (runT d) σ H Q) : tE X.K Z d σ H fun x H' => ∃ k, TruV X.K x H' k ∧ Q k H' := by
  obtain ⟨m, r, st, ar, as, h⟩ := h
  refine ⟨m, r, st, ar, as, (Ok.bind h).mono fun p st1 m1 H1 le1 as1 h1 v rv => ?_⟩
  obtain ⟨k, e, q, _⟩ := Ok.of h1 as1
  exact ⟨k, tru_of as1 rv e, q⟩
theorem s_truth {d : Rho → Sto → R P} (ha : PE X e (tE X.K Z d)) (he : ∀ whole, isTrue e X.env whole = (do let v ← whole; standAt e.pos; holding [v] (truthy v))) : PT X e (tT X.K Z (runT d)) :=
  PT.imp (pt_truth ha he) fun σ H Q h => tT_val h
theorem tT_bool {d : Rho → Sto → R P} (hb : ∀ r st p st1, d r st = .ok p st1 → ∃ b, p = .d (.bl b)) {σ : L2.St} {H : Hp} {Q : Bool → Hp → Prop} (h : tT X.K Z (runT d) σ H Q) : tE X.K Z d σ H fun x H' => ∃ k, x = .bl k ∧ Q k H' := by
  obtain ⟨m, r, st, ar, as, h⟩ := h
  refine ⟨m, r, st, ar, as, (Ok.bind h).mono' fun p st1 m1 H1 hr le1 as1 h1 v rv => ?_⟩
  obtain ⟨b, rfl⟩ := hb r st p st1 hr
  obtain ⟨k, e, q, _⟩ := Ok.of h1 as1
  cases e
  cases (show v = .bl b from rv)
  exact ⟨b, rfl, q⟩
theorem cmp_bool {o : Cop} {a b : E} : ∀ r st p st1, evalE C (.cmp o a b) r st = .ok p st1 → ∃ b, p = .d (.bl b) := fun r st p st1 h => by
  unfold evalE at h
  obtain ⟨x, s1, _, h⟩ := rbind h
  obtain ⟨y, s2, _, h⟩ := rbind h
  obtain ⟨k, s3, _, h⟩ := rbind h
  cases h
  exact ⟨k, rfl⟩
theorem s_cmpT (T : Good X g C) {a b : Expr} {ea eb : E} {o : Cop} {pos : Pos} (ha : PE X a (tE X.K Z (evalE C ea))) (hb : PE X b (tE X.K Z (evalE C eb))) (hn : isSetD b = false) :
    PT X (.Compare a [copOf o] [b] pos) (tT X.K Z (runT (evalE C (.cmp o ea eb)))) :=
  PT.imp (pt_cmpR (op_cop T.hu o) ha hb (nomarks hn)) fun σ H Q h => s_two (f := compareOp (copOf o)) (fun x y v u m H st Q as rx ry h => by
    obtain ⟨k, e, q⟩ := Ok.truth as h
    exact cop_of as rx ry e q) (tT_bool cmp_bool h)
theorem lastmarks {b c : Expr} {p q : CmpOp} (h : isSetD b = false) (h' : isSetD c = false) : lastMarks [p, q] [b, c] = false := by
  cases c <;> first
    | rfl
    | exact absurd (show true = false from h') Bool.false_ne_true.symm
theorem s_chain0 {a b c : E} {o o' : Cop} {σ : L2.St} {H : Hp} {Q : VK} (h : tE X.K Z (evalE C (.chain o o' a b c)) σ H Q) :
    tChain (rCop X.K o) (rCop X.K o') (tE X.K Z (evalE C a)) (tE X.K Z (evalE C b)) (tE X.K Z (evalE C c)) σ H Q := by
  obtain ⟨m, ρ, st, ar, as, h⟩ := h
  unfold evalE at h
  refine ⟨m, ρ, st, ar, as, (Ok.bind h).mono fun x st1 m1 H1 le1 as1 h1 v rv => ?_⟩
  refine ⟨m1, ρ, st1, ar.le le1, as1, (Ok.bind h1).mono fun y st2 m2 H2 le2 as2 h2 u ru => ?_⟩
  obtain ⟨k, e, h3, _⟩ := Ok.of (Ok.bind h2) as2
  refine cop_of as2 (rv.le le2) ru e ⟨k, rfl, ?_⟩
  cases k with
  | false => exact Ok.here h3 as2 (.bl false) rfl
  | true =>
    refine ⟨m2, ρ, st2, (ar.le le1).le le2, as2, (Ok.bind (show Ok X.K Z ((evalE C c ρ st2).bind _) m2 H2 _ from h3)).mono fun z st4 m4 H4 le4 as4 h4 w' rw' => ?_⟩
    obtain ⟨k', e', q⟩ := Ok.truth as4 h4
    exact cop_of as4 (ru.le le4) rw' e' q
theorem s_chain (T : Good X g C) {a b c : Expr} {ea eb ec : E} {o o' : Cop} {pos : Pos} (ha : PE X a (tE X.K Z (evalE C ea))) (hb : PE X b (tE X.K Z (evalE C eb))) (hc : PE X c (tE X.K Z (evalE C ec))) (hn : isSetD b = false) (hn' : isSetD c = false) :
    PE X (.Compare a [copOf o, copOf o'] [b, c] pos) (tE X.K Z (evalE C (.chain o o' ea eb ec))) :=
  PE.imp (pe_chain (op_cop T.hu o) (op_cop T.hu o') ha hb hc (lastmarks hn hn')) fun σ H Q h => s_chain0 h
theorem chain_bool {o o' : Cop} {a b c : E} : ∀ r st p st1, evalE C (.chain o o' a b c) r st = .ok p st1 → ∃ b, p = .d (.bl b) := fun r st p st1 h => by
  unfold evalE at h
  obtain ⟨x, s1, _, h⟩ := rbind h
  obtain ⟨y, s2, _, h⟩ := rbind h
  obtain ⟨k, s3, _, h⟩ := rbind h
  cases k with
  | false => cases h; exact ⟨false, rfl⟩
  | true =>
    obtain ⟨z, s4, _, h⟩ := rbind (show ((evalE C c r s3).bind _) = _ from h)
    obtain ⟨k', s5, _, h⟩ := rbind h
    cases h
    exact ⟨k', rfl⟩
theorem s_chainT (T : Good X g C) {a b c : Expr} {ea eb ec : E} {o o' : Cop} {pos : Pos} (ha : PE X a (tE X.K Z (evalE C ea))) (hb : PE X b (tE X.K Z (evalE C eb))) (hc : PE X c (tE X.K Z (evalE C ec))) (hn : isSetD b = false) (hn' : isSetD c = false) :
    PT X (.Compare a [copOf o, copOf o'] [b, c] pos) (tT X.K Z (runT (evalE C (.chain o o' ea eb ec)))) :=
  PT.imp (pt_chain (op_cop T.hu o) (op_cop T.hu o') ha hb hc (lastmarks hn hn')) fun σ H Q h => s_chain0 (tT_bool chain_bool h)
theorem pe_notG {a : Expr} {ta : TE} {pos : Pos} (ha : PE X a ta) : PE X (.UnaryOp .Not a pos) (fun σ H Q => ta σ H fun x H1 => ∃ k, TruV X.K x H1 k ∧ Q (.bl (!k)) H1) := by
  intro pins s σ H Q I h
  refine UnaryOp_ (thn (ha pins s σ H _ I h) fun v s1 ⟨x, H1, I1, r1, q1⟩ => not_of ?_)
  exact thn (tru_ok pins s1 σ H1 x v (fun k H' => Q (.bl (!k)) H') I1 r1 q1) fun c s2 ⟨H2, I2, q2⟩ => ⟨.bl (!c), H2, I2, rfl, q2⟩
theorem s_not {a : Expr} {ea : E} {pos : Pos} (ha : PE X a (tE X.K Z (evalE C ea))) : PE X (.UnaryOp .Not a pos) (tE X.K Z (evalE C (.not ea))) := by
  refine PE.imp (pe_notG ha) ?_
  rintro σ H Q ⟨m, ρ, st, ar, as, h⟩
  unfold evalE at h
  refine ⟨m, ρ, st, ar, as, (Ok.bind h).mono fun x st1 m1 H1 le1 as1 h1 v rv => ?_⟩
  obtain ⟨k, e, h2, _⟩ := Ok.of (Ok.bind h1) as1
  exact ⟨k, tru_of as1 rv e, Ok.here h2 as1 (.bl (!k)) rfl⟩
theorem s_notT {a : Expr} {ea : E} {pos : Pos} (ha : PT X a (tT X.K Z (runT (evalE C ea)))) : PT X (.UnaryOp .Not a pos) (tT X.K Z (runT (evalE C (.not ea)))) := by
  refine PT.imp (pt_not ha) ?_
  rintro σ H Q ⟨m, ρ, st, ar, as, h⟩
  unfold runT evalE at h
  refine ⟨m, ρ, st, ar, as, ?_⟩
  unfold runT
  cases hr : evalE C ea ρ st with
  | ex x s => rw [hr] at h; exact h
  | no => rw [hr] at h; exact h
  | ok p s1 =>
    rw [hr] at h
    simp only [bind_ok] at h ⊢
    cases ht : truP s1 p with
    | none => rw [ht] at h; exact h
    | some k => rw [ht] at h; exact h
theorem s_and1 {a : Expr} {ea : E} {pos : Pos} (ha : PE X a (tE X.K Z (evalE C ea))) : PE X (.BoolOp .And [a] pos) (tE X.K Z (evalA C [ea])) := pe_one ha
theorem s_or1 {a : Expr} {ea : E} {pos : Pos} (ha : PE X a (tE X.K Z (evalE C ea))) : PE X (.BoolOp .Or [a] pos) (tE X.K Z (evalO C [ea])) := pe_one ha
theorem s_and2 {a b : Expr} {rest : List Expr} {ea eb : E} {er : List E} {pos : Pos} (ha : PE X a (tE X.K Z (evalE C ea))) (hb : PE X (.BoolOp .And (b :: rest) pos) (tE X.K Z (evalA C (eb :: er)))) :
    PE X (.BoolOp .And (a :: b :: rest) pos) (tE X.K Z (evalA C (ea :: eb :: er))) := by
  refine PE.imp (pe_and ha hb) ?_
  rintro σ H Q ⟨m, ρ, st, ar, as, h⟩
  rw [evalA] at h
  refine ⟨m, ρ, st, ar, as, (Ok.bind h).mono fun x st1 m1 H1 le1 as1 h1 v rv => ?_⟩
  split at h1
  · rename_i k
    cases (show v = .bl k from rv)
    refine ⟨k, rfl, ?_⟩
    cases k with
    | true => exact ⟨m1, ρ, st1, ar.le le1, as1, h1⟩
    | false => exact Ok.here h1 as1 (.bl false) rfl
  · exact h1.elim
theorem s_or2 {a b : Expr} {rest : List Expr} {ea eb : E} {er : List E} {pos : Pos} (ha : PE X a (tE X.K Z (evalE C ea))) (hb : PE X (.BoolOp .Or (b :: rest) pos) (tE X.K Z (evalO C (eb :: er)))) :
    PE X (.BoolOp .Or (a :: b :: rest) pos) (tE X.K Z (evalO C (ea :: eb :: er))) := by
  refine PE.imp (pe_or ha hb) ?_
  rintro σ H Q ⟨m, ρ, st, ar, as, h⟩
  rw [evalO] at h
  refine ⟨m, ρ, st, ar, as, (Ok.bind h).mono fun x st1 m1 H1 le1 as1 h1 v rv => ?_⟩
  split at h1
  · rename_i k
    cases (show v = .bl k from rv)
    refine ⟨k, rfl, ?_⟩
    cases k with
    | false => exact ⟨m1, ρ, st1, ar.le le1, as1, h1⟩
    | true => exact Ok.here h1 as1 (.bl true) rfl
  · exact h1.elim
theorem s_and1T {a : Expr} {ea : E} {pos : Pos} (ha : PT X a (tT X.K Z (runT (evalE C ea)))) : PW X (.BoolOp .And [a] pos) (tT X.K Z (runT (evalA C [ea]))) := pw_and1 ha
theorem s_or1T {a : Expr} {ea : E} {pos : Pos} (ha : PT X a (tT X.K Z (runT (evalE C ea)))) : PW X (.BoolOp .Or [a] pos) (tT X.K Z (runT (evalO C [ea]))) := pw_or1 ha
theorem s_and2T {a b : Expr} {rest : List Expr} {ea eb : E} {er : List E} {pos : Pos} (ha : PT X a (tT X.K Z (runT (evalE C ea)))) (hb : PW X (.BoolOp .And (b :: rest) pos) (tT X.K Z (runT (evalA C (eb :: er))))) :
    PW X (.BoolOp .And (a :: b :: rest) pos) (tT X.K Z (runT (evalA C (ea :: eb :: er)))) := by
  refine PW.imp (pw_and ha hb) ?_
  rintro σ H Q ⟨m, ρ, st, ar, as, h⟩
  refine ⟨m, ρ, st, ar, as, ?_⟩
  unfold runT at h ⊢
  rw [evalA] at h
  cases hr : evalE C ea ρ st with
  | ex x s => rw [hr] at h; exact h
  | no => rw [hr] at h; exact h
  | ok p s1 =>
    rw [hr] at h
    simp only [bind_ok] at h ⊢
    split at h
    · rename_i k
      refine fun m1 H1 le1 as1 => ?_
      cases k with
      | true => exact ⟨m1, ρ, s1, ar.le le1, as1, Ok.le h le1⟩
      | false => exact h m1 H1 le1 as1
    · exact h.elim
theorem s_or2T {a b : Expr} {rest : List Expr} {ea eb : E} {er : List E} {pos : Pos} (ha : PT X a (tT X.K Z (runT (evalE C ea)))) (hb : PW X (.BoolOp .Or (b :: rest) pos) (tT X.K Z (runT (evalO C (eb :: er))))) :
    PW X (.BoolOp .Or (a :: b :: rest) pos) (tT X.K Z (runT (evalO C (ea :: eb :: er)))) := by
  refine PW.imp (pw_or ha hb) ?_
  rintro σ H Q ⟨m, ρ, st, ar, as, h⟩
  refine ⟨m, ρ, st, ar, as, ?_⟩
  unfold runT at h ⊢
  rw [evalO] at h
  cases hr : evalE C ea ρ st with
  | ex x s => rw [hr] at h; exact h
  | no => rw [hr] at h; exact h
  | ok p s1 =>
    rw [hr] at h
    simp only [bind_ok] at h ⊢
    split at h
    · rename_i k
      refine fun m1 H1 le1 as1 => ?_
      cases k with
      | false => exact ⟨m1, ρ, s1, ar.le le1, as1, Ok.le h le1⟩
      | true => exact h m1 H1 le1 as1
    · exact h.elim
theorem pt_ifExp {c a b : Expr} {tc ta tb : TT} {pos : Pos} (hc : PT X c tc) (ha : PT X a ta) (hb : PT X b tb) : PT X (.IfExp c a b pos) (fun σ H Q => tc σ H fun k H1 => if k = true then ta σ H1 Q else tb σ H1 Q) := by
  intro pins s σ H Q I h
  refine isTrue_IfExp (thn (hc pins s σ H _ I h) fun d s1 ⟨H1, I1, q1⟩ => ?_)
  cases d with
  | true => exact ha pins s1 σ H1 Q I1 q1
  | false => exact hb pins s1 σ H1 Q I1 q1
theorem s_ite {c a b : Expr} {ec ea eb : E} {pos : Pos} (hc : PT X c (tT X.K Z (runT (evalE C ec)))) (ha : PE X a (tE X.K Z (evalE C ea))) (hb : PE X b (tE X.K Z (evalE C eb))) : PE X (.IfExp c a b pos) (tE X.K Z (evalE C (.ite ec ea eb))) := by
  refine PE.imp (pe_ifExp hc ha hb) ?_
  rintro σ H Q ⟨m, ρ, st, ar, as, h⟩
  refine ⟨m, ρ, st, ar, as, ?_⟩
  unfold evalE at h
  unfold runT
  cases hr : evalE C ec ρ st with
  | ex x s => rw [hr] at h; exact h
  | no => rw [hr] at h; exact h
  | ok p s1 =>
    rw [hr] at h
    simp only [bind_ok] at h ⊢
    cases ht : truP s1 p with
    | none => rw [ht] at h; exact h
    | some k =>
      rw [ht] at h
      refine fun m1 H1 le1 as1 => ?_
      cases k with
      | true => exact ⟨m1, ρ, s1, ar.le le1, as1, Ok.le (show Ok X.K Z (evalE C ea ρ s1) m H _ from h) le1⟩
      | false => exact ⟨m1, ρ, s1, ar.le le1, as1, Ok.le (show Ok X.K Z (evalE C eb ρ s1) m H _ from h) le1⟩
theorem s_iteT {c a b : Expr} {ec ea eb : E} {pos : Pos} (hc : PT X c (tT X.K Z (runT (evalE C ec)))) (ha : PT X a (tT X.K Z (runT (evalE C ea)))) (hb : PT X b (tT X.K Z (runT (evalE C eb)))) : PT X (.IfExp c a b pos) (tT X.K Z (runT (evalE C (.ite ec ea eb)))) := by
  refine PT.imp (pt_ifExp hc ha hb) ?_
  rintro σ H Q ⟨m, ρ, st, ar, as, h⟩
  refine ⟨m, ρ, st, ar, as, ?_⟩
  unfold runT evalE at h
  show Ok X.K Z ((evalE C ec ρ st).bind fun x st1 => R.of (truP st1 x) st1) m H _
  cases hr : evalE C ec ρ st with
  | ex x s => rw [hr] at h; exact h
  | no => rw [hr] at h; exact h
  | ok p s1 =>
    rw [hr] at h
    simp only [bind_ok] at h ⊢
    cases ht : truP s1 p with
    | none => rw [ht] at h; exact h
    | some k =>
      rw [ht] at h
      refine fun m1 H1 le1 as1 => ?_
      cases k with
      | true => exact ⟨m1, ρ, s1, ar.le le1, as1, Ok.le (show Ok X.K Z (runT (evalE C ea) ρ s1) m H _ from h) le1⟩
      | false => exact ⟨m1, ρ, s1, ar.le le1, as1, Ok.le (show Ok X.K Z (runT (evalE C eb) ρ s1) m H _ from h) le1⟩
end
end Y

namespace Y
open PySem L2 PySem.Spec PyProof.Rows
section
variable {X : Cx} {g : G} {C : Nat → List P → Sto → R P} {Z : List Addr} {e : Expr} {es : List Expr}
theorem evalEs_len : ∀ {es : List E} {r : Rho} {st st1 : Sto} {ps : List P}, evalEs C es r st = .ok ps st1 → ps.length = es.length
  | [], r, st, st1, ps, h => by unfold evalEs at h; cases h; rfl
  | e :: es, r, st, st1, ps, h => by
    unfold evalEs at h
    obtain ⟨x, s1, _, h⟩ := rbind h
    obtain ⟨xs, s2, h2, h⟩ := rbind h
    cases h
    rw [List.length_cons, List.length_cons, evalEs_len h2]
theorem s_nil : PA X [] (tA X.K Z (evalEs C [])) := by
  refine PA.imp pa_nil ?_
  rintro σ H Q ⟨m, ρ, st, ar, as, h⟩
  unfold evalEs at h
  exact Ok.here h as [] rfl
theorem s_cons {x : Expr} {xs : List Expr} {a : E} {as' : List E} (ha : PE X x (tE X.K Z (evalE C a))) (hr : PA X xs (tA X.K Z (evalEs C as'))) (hs : notStar x = true) : PA X (x :: xs) (tA X.K Z (evalEs C (a :: as'))) := by
  refine PA.imp (pa_cons ha hr (star_of hs)) ?_
  rintro σ H Q ⟨m, ρ, st, ar, as, h⟩
  unfold evalEs at h
  refine ⟨m, ρ, st, ar, as, (Ok.bind h).mono fun p st1 m1 H1 le1 as1 h1 v rv => ?_⟩
  refine ⟨m1, ρ, st1, ar.le le1, as1, (Ok.bind h1).mono fun ps st2 m2 H2 le2 as2 h2 vs rvs => ?_⟩
  exact Ok.here h2 as2 (v :: vs) ⟨v, vs, rfl, rv.le le2, rvs⟩
theorem okEs_cons {a : E} {as' : List E} {xs : List Expr} (h : okEs g (a :: as') xs = true) : ∃ x ys, xs = x :: ys ∧ okE g a x = true ∧ notStar x = true ∧ okEs g as' ys = true := by
  rw [okEs] at h
  dsimp only at h
  split at h
  · rename_i x ys
    simp only [Bool.and_eq_true] at h
    exact ⟨x, ys, rfl, h.1.1, h.1.2, h.2⟩
  · cases h
theorem okEs_nil {xs : List Expr} (h : okEs g [] xs = true) : xs = [] := by
  rw [okEs] at h
  dsimp only at h
  simpa using h
theorem okEs_stars : ∀ {as' : List E} {xs : List Expr}, okEs g as' xs = true → ∀ x ∈ xs, notStar x = true
  | [], xs, h => by rw [okEs_nil h]; intro x hx; cases hx
  | a :: as', xs, h => by
    obtain ⟨x, ys, rfl, _, h2, h3⟩ := okEs_cons h
    intro y hy
    rcases List.mem_cons.mp hy with z | z
    · rw [z]; exact h2
    · exact okEs_stars h3 y z
theorem okEs_length : ∀ {as' : List E} {xs : List Expr}, okEs g as' xs = true → xs.length = as'.length
  | [], xs, h => by rw [okEs_nil h]; rfl
  | a :: as', xs, h => by
    obtain ⟨x, ys, rfl, _, _, h3⟩ := okEs_cons h
    rw [List.length_cons, List.length_cons, okEs_length h3]
theorem nostars {env : PySem.Env} {pos : Pos} : ∀ {xs : List Expr}, (∀ x ∈ xs, notStar x = true) → (backTo pos (starEach xs env)).any (·.1) = false
  | [], _ => rfl
  | x :: xs, h => by
    rw [star_of (h x List.mem_cons_self)]
    show (false || (backTo pos (starEach xs env)).any (·.1)) = false
    rw [nostars fun y hy => h y (List.mem_cons_of_mem _ hy)]
    rfl
theorem s_tup {xs : List Expr} {as' : List E} {k : Nat} {pos : Pos} (h : PA X xs (tA X.K Z (evalEs C as'))) : PE X (.Tuple xs k pos) (tE X.K Z (evalE C (.tup as'))) := by
  refine PE.imp (pe_tup h) ?_
  rintro σ H Q ⟨m, ρ, st, ar, as, h⟩
  unfold evalE at h
  refine ⟨m, ρ, st, ar, as, (Ok.bind h).mono fun ps st1 m1 H1 le1 as1 h1 vs rvs => ?_⟩
  split at h1
  · rename_i hc
    obtain ⟨xs, e, h2, _⟩ := Ok.of (Ok.bind h1) as1
    exact ⟨by rw [rvs.length, ← line_eq]; exact hc, fun p hp => new_tup (α := Unit) as1 (rvs.dvals e) hp h2⟩
  · exact h1.elim
theorem Le.grow {K : PySem.W.Frag} {m m' : List Addr} {H H' : Hp} {a : Addr} (le : Le K m H m' H') (ha : H a = none) : Le K m H (m' ++ [a]) H' where
  pre := by
    obtain ⟨t, e⟩ := le.pre
    exact ⟨t ++ [a], by rw [e, List.append_assoc]⟩
  tup := le.tup
  keep := le.keep
  new := fun b hb => by
    rcases List.mem_append.mp hb with z | z
    · exact le.new b z
    · have : b = a := by simpa using z
      rw [this]; exact .inr ha
  trk := le.trk
  frz := le.frz
theorem lst_red {l : L} {mu : Bool} {σ : L2.St} {H : Hp} {Q : VK} (h : tE X.K Z (evalE C (.lst mu l)) σ H Q) : tL X.K Z (evalL C l) σ H Q := by
  obtain ⟨m, ρ, st, ar, as, h⟩ := h
  unfold evalE at h
  refine ⟨m, ρ, st, ar, as, ?_⟩
  cases hr : evalL C l ρ st with
  | ex x s => rw [hr] at h; exact h
  | no => rw [hr] at h; exact h
  | ok ps st1 =>
    rw [hr] at h
    simp only [bind_ok] at h
    intro m' H' a vs le ha hm hH as' rs
    have hz : a ∉ Z := (as.fresh ha).2
    cases mu with
    | true =>
      refine h (m' ++ [a]) H' (le.grow ha) (as'.adopt hz hH rs) (.ref a) ⟨a, ?_, rfl⟩
      rw [List.getElem?_append_right (by rw [as'.len]; exact Nat.le_refl _), as'.len]
      simp
    | false =>
      have as2 := as'.subZ (Z := Z) fun b hb => List.mem_cons_of_mem _ hb
      obtain ⟨xs, e, h2, _⟩ := Ok.of (Ok.bind (Ok.le (show Ok X.K Z ((R.of (dvals ps) st1).bind fun xs st2 => R.ok (P.d (.pl xs)) st2) m H _ from h) le)) as2
      exact Ok.here h2 as2 (.ref a) ⟨a, vs, rfl, .inl hH, hm, hz, ((rs.subZ fun b hb => List.mem_cons_of_mem _ hb).dvals e)⟩
theorem s_lst {l : L} {mu : Bool} (h : PE X e (tL X.K Z (evalL C l))) : PE X e (tE X.K Z (evalE C (.lst mu l))) := PE.imp h fun σ H Q q => lst_red q
theorem Le.untrk {K : PySem.W.Frag} {m m' : List Addr} {H H' : Hp} {a : Addr} (le : Le K m H m' H') (ha : H' a = none) : H a = none := by
  cases q : H a with
  | none => rfl
  | some o => exact absurd ha (le.trk a (by rw [q]; exact fun z => nomatch z))
theorem lay_list {K : PySem.W.Frag} {m m1 : List Addr} {H H1 : Hp} {st1 : Sto} {ps : List P} {vs : List V} {a : Addr} {Q : VK} (le1 : Le K m H m1 H1) (as1 : AbsSt K H1 m1 Z st1) (rvs : RelPs K H1 m1 Z ps vs) (ha : H1 a = none) (h : LQ K Z (R.ok ps st1) m H Q) : Q (.ref a) (upd H1 a (.lst vs)) :=
  h m1 (upd H1 a (.lst vs)) a vs (le1.trans (Le.same (same_new ha _))) (le1.untrk ha) (as1.fresh ha).1 upd_same (as1.laid ha _) ((rvs.addZ ha).le (Le.same (same_new ha _)))
theorem s_disp {xs : List Expr} {as' : List E} {pos : Pos} (h : PA X xs (tA X.K Z (evalEs C as'))) : PE X (.List xs pos) (tL X.K Z (evalL C (.disp as'))) := by
  refine PE.imp (pe_lst h) ?_
  rintro σ H Q ⟨m, ρ, st, ar, as, h⟩
  refine ⟨m, ρ, st, ar, as, ?_⟩
  unfold evalL at h
  cases hr : evalEs C as' ρ st with
  | ex x s => rw [hr] at h; exact h
  | no => rw [hr] at h; exact h
  | ok ps st1 =>
    rw [hr] at h
    simp only [bind_ok] at h
    split at h
    · rename_i hc
      intro m1 H1 le1 as1 vs rvs
      exact ⟨by rw [rvs.length, ← line_eq]; exact hc, fun a ha => lay_list le1 as1 rvs ha h⟩
    · exact h.elim
theorem s_list (T : Good X g C) {x : Expr} {a : E} {p pos : Pos} (hg : g.gl "list" = true) (ha : PE X x (tE X.K Z (evalE C a))) (hs : notStar x = true) : PE X (.Call (.Name "list" p) [x] [] pos) (tL X.K Z (evalL C (.list a))) := by
  refine PE.imp (pe_callTy call_list_of (T.glob hg) (T.bl _ (by decide +kernel)) boot_list (s_cons ha s_nil hs) (by decide +kernel) (by decide +kernel) (star_of hs) rfl) ?_
  rintro σ H Q ⟨m, ρ, st, ar, as, h⟩
  refine ⟨m, ρ, st, ar, as, ?_⟩
  unfold evalL at h
  show Ok X.K Z (evalEs C [a] ρ st) m H _
  unfold evalEs evalEs
  cases hr : evalE C a ρ st with
  | ex x s => rw [hr] at h; exact h
  | no => rw [hr] at h; exact h
  | ok y st1 =>
    rw [hr] at h
    simp only [bind_ok] at h ⊢
    intro m1 H1 le1 as1 vs rvs
    obtain ⟨v, vs', rfl, rv, e⟩ := (show ∃ v vs', vs = v :: vs' ∧ RelP X.K H1 m1 Z y v ∧ vs' = [] from rvs)
    subst e
    cases hi : sitems st1 y with
    | none => rw [hi] at h; exact (show False from h).elim
    | some ps =>
      rw [hi] at h
      obtain ⟨b, us, rfl, hq, rs⟩ := sitems_at as1 hi rv
      exact ⟨b, us, rfl, sq_of hq, fun l hl => lay_list le1 as1 rs hl h⟩
theorem s_call (T : Good X g C) {f : Nat} {x : Str} {xs : List Expr} {as' : List E} {p pos : Pos} (hf : g.fns[f]? = some (x, as'.length)) (hg : g.gl x = true) (hp : plainName x = true) (hs : ∀ x ∈ xs, notStar x = true) (hl : xs.length = as'.length) (h : PA X xs (tA X.K Z (evalEs C as'))) :
    PE X (.Call (.Name x p) xs [] pos) (tE X.K Z (evalE C (.call f as'))) := by
  obtain ⟨k, fa, fd, ps, F, hr, hm, hk, hb⟩ := (T.fn f x as'.length hf).ex
  have red : ∀ σ H Q, tE X.K Z (evalE C (.call f as')) σ H Q → tCall (spP X.K (C f) as'.length) [] E0 (tA X.K Z (evalEs C as')) σ H Q := by
    rintro σ H Q ⟨m, ρ, st, ar, as, h⟩
    unfold evalE at h
    refine ⟨m, ρ, st, ar, as, (Ok.bind h).mono' fun qs st1 m1 H1 hq le1 as1 h1 vs rvs => ?_⟩
    show spP X.K (C f) as'.length (vs ++ []) H1 Q E0
    rw [List.append_nil]
    exact ⟨m1, Z, qs, st1, by rw [rvs.length, evalEs_len hq], rvs, as1, h1⟩
  cases xs with
  | nil =>
    have e : as' = [] := by
      cases as' with
      | nil => rfl
      | cons a b => simp at hl
    subst e
    refine PE.imp (pe_call0 F hr (T.glob hg) hm hk hb .nil pass0 (pn hp).1) fun σ H Q h => ?_
    obtain ⟨m, ρ, st, ar, as, h1⟩ := red σ H Q h
    unfold evalEs at h1
    exact Ok.here h1 as [] rfl
  | cons y ys =>
    exact PE.imp (pe_call F hr (T.glob hg) hm hk hb .nil pass0 h (pn hp).1 (star_of (hs y List.mem_cons_self)) (nostars fun z hz => hs z (List.mem_cons_of_mem _ hz))) red
theorem isinst_tup {pins : List (Addr × Obj)} {σ : L2.St} {H : Hp} {s : Shared} {A : Around} {E : Value → Shared → Prop} {Q : Value → Shared → Prop} {c : Value} {b : Bool} {a : Addr} {xs : List V} (I : Inv X pins σ H s) (q : SqT X.K H a xs)
    (e : PySem.W.kitOne X.K (.type "tuple") c = some b) (h : ∀ tk, Q (.bool b) { s with toks := tk }) : wpAny (model X.prog X.w) A (call (.builtin "isinstance") [.ref a, c]) Q E s := by
  obtain ⟨_, _, p, _⟩ := I.tuple q
  obtain ⟨o, h1, h2, _⟩ := p
  exact PySem.W.kia_one PySem.W.kitx_tuple I.kIn ⟨o, h1, h2⟩ e (fun z => nomatch z) h
theorem call_isi : CallR X (.builtin "isinstance") (fun xs H Q => ∃ x T, xs = [x, .ty T] ∧ T ∈ tyNames ∧ ((∃ t, L2.tyN H x = some t ∧ Q (.bl (L2.tyIs t T)) H) ∨ (∃ a ys, x = .ref a ∧ SqT X.K H a ys ∧ Q (.bl (L2.tyIs "tuple" T)) H) ∨ (∃ a ys, x = .ref a ∧ Rd H a (.lst ys) ∧ Q (.bl (L2.tyIs "list" T)) H))) := by
  intro pins s σ H xs us Q I r h
  obtain ⟨x, T, rfl, hT, h⟩ := h
  obtain ⟨u, w', rfl, rx, ry⟩ := vals2 r
  cases (show w' = Value.type T from ry)
  have hT' : T = "int" ∨ T = "bool" ∨ T = "tuple" ∨ T = "str" ∨ T = "list" := by simpa [tyNames] using hT
  rcases h with ⟨t, ht, q⟩ | ⟨a, ys, rfl, hq, q⟩ | ⟨a, ys, rfl, hq, q⟩
  · exact isinst_ok I rx (tyOf_of ht) (kit_all X.K (tyN_in ht) hT') fun tk => ⟨.bl (L2.tyIs t T), H, I.tok _, rfl, q⟩
  · cases rx
    exact isinst_tup I hq (kit_all X.K (by simp) hT') fun tk => ⟨.bl (L2.tyIs "tuple" T), H, I.tok _, rfl, q⟩
  · rcases hq with hq | ⟨o, hq⟩
    · exact isinst_ok I rx (TyOf.lst hq) (kit_all X.K (by simp) hT') fun tk => ⟨.bl (L2.tyIs "list" T), H, I.tok _, rfl, q⟩
    · exact isinst_ok I rx (TyOf.frz hq) (kit_all X.K (by simp) hT') fun tk => ⟨.bl (L2.tyIs "list" T), H, I.tok _, rfl, q⟩
theorem boot_ty {T : String} (h : T ∈ tyNames) : bootBuiltins (Str.ofString T) = some (.type T) ∧ Str.ofString T ∈ bltNames ∧ Str.ofString T ≠ "__name__" ∧ (Str.ofString T == ("__debug__" : Str)) = false := by
  have h' : T = "int" ∨ T = "bool" ∨ T = "tuple" ∨ T = "str" ∨ T = "list" := by simpa [tyNames] using h
  rcases h' with rfl | rfl | rfl | rfl | rfl
  · exact ⟨boot_int, by decide +kernel, by decide +kernel, by decide +kernel⟩
  · exact ⟨boot_bool, by decide +kernel, by decide +kernel, by decide +kernel⟩
  · exact ⟨boot_tuple, by decide +kernel, by decide +kernel, by decide +kernel⟩
  · exact ⟨boot_str, by decide +kernel, by decide +kernel, by decide +kernel⟩
  · exact ⟨boot_list, by decide +kernel, by decide +kernel, by decide +kernel⟩
theorem s_isi (T : Good X g C) {x : Expr} {a : E} {t : String} {p q pos : Pos} (hg : g.gl "isinstance" = true) (ht : t ∈ tyNames) (hg2 : g.gl (Str.ofString t) = true) (ha : PE X x (tE X.K Z (evalE C a))) (hs : notStar x = true) :
    PE X (.Call (.Name "isinstance" p) [x, .Name (Str.ofString t) q] [] pos) (tE X.K Z (evalE C (.isi a t))) := by
  obtain ⟨b1, b2, b3, b4⟩ := boot_ty ht
  refine PE.imp (pe_callB call_isi (T.glob hg) (T.bl _ (by decide +kernel)) boot_isinstance (pa_cons ha (pa_cons (pe_bltn (v := .ty t) (T.glob hg2) (T.bl _ b2) b1 rfl b3 b4) pa_nil) (star_of hs)) (by decide +kernel) (by decide +kernel) (star_of hs) rfl) ?_
  rintro σ H Q ⟨m, ρ, st, ar, as, h⟩
  unfold evalE at h
  refine ⟨m, ρ, st, ar, as, (Ok.bind h).mono fun y st1 m1 H1 le1 as1 h1 v rv => ?_⟩
  obtain ⟨k, e, h2, _⟩ := Ok.of (Ok.bind h1) as1
  have q := Ok.here h2 as1 (.bl (tyIs k t)) rfl
  have eqt : Y.tyIs k t = L2.tyIs k t := rfl
  refine ⟨v, t, rfl, ht, ?_⟩
  cases y with
  | d x =>
    cases x with
    | non => cases (show v = .non from rv); cases e; exact .inl ⟨_, rfl, q⟩
    | bl b => cases (show v = .bl b from rv); cases e; exact .inl ⟨_, rfl, q⟩
    | int b => cases (show v = .int b from rv); cases e; exact .inl ⟨_, rfl, q⟩
    | str b => cases (show v = .str b from rv); cases e; exact .inl ⟨_, rfl, q⟩
    | tup xs => obtain ⟨b, us, rfl, hq, _⟩ := rv; cases e; exact .inr (.inl ⟨b, us, rfl, SqT.of hq, q⟩)
    | pl xs => obtain ⟨b, us, rfl, hq, _⟩ := rv; cases e; exact .inr (.inr ⟨b, us, rfl, hq, q⟩)
  | obj n =>
    have e' : (match st1[n]? with | some (.lst _) => some "list" | _ => none) = some k := e
    split at e'
    · rename_i xs hx
      cases e'
      obtain ⟨b, us, rfl, hq, _⟩ := litems_at as1 (show litems st1 (.obj n) = some xs by show (match st1[n]? with | some (.lst xs) => some xs | _ => none) = some xs; rw [hx]) rv
      exact .inr (.inr ⟨b, us, rfl, hq, q⟩)
    · cases e'
  | scr n => cases e
end
end Y

namespace Y
open PySem L2 PySem.Spec PyProof.Rows
section
variable {X : Cx} {g : G} {C : Nat → List P → Sto → R P} {Z : List Addr} {e : Expr} {es : List Expr}
theorem s_neg {a : Expr} {ea : E} {pos : Pos} (ha : PE X a (tE X.K Z (evalE C ea))) : PE X (.UnaryOp .USub a pos) (tE X.K Z (evalE C (.neg ea))) := by
  refine PE.imp (pe_un un_neg ha) ?_
  rintro σ H Q ⟨m, ρ, st, ar, as, h⟩
  unfold evalE at h
  refine ⟨m, ρ, st, ar, as, (Ok.bind h).mono fun x st1 m1 H1 le1 as1 h1 v rv => ?_⟩
  split at h1
  · rename_i i
    cases (show v = .int i from rv)
    exact ⟨i, rfl, Ok.here h1 as1 (.int (-i)) rfl⟩
  · exact h1.elim
theorem plain_ix {y : Expr} (h : isSlice y = false) : PlainIx y := by
  intro o i
  cases y <;> first
    | rfl
    | exact absurd (show true = false from h) Bool.false_ne_true.symm
def rIxD : R2 := fun x y H Q => ∃ a v, x = .ref a ∧ DGet H a y (some v) ∧ Q v H
theorem ix_dic (hu : X.A.units + 100 < cLine) : IxR X rIxD := by
  intro value slice pins s σ H x y v u Q I rx ry h hs
  obtain ⟨a, w', rfl, g, q⟩ := h
  cases rx
  obtain ⟨ob, h1, h2⟩ := dict_noDict I g a rfl
  refine subscriptTail_dic (dict_typeIs I g) ?_ hs
  exact d_getItem (by omega) I g ry fun w2 s3 I3 rw' => ⟨w', H, I3, rw', q⟩
theorem s_ix (hu : X.A.units + 100 < cLine) {a b : Expr} {ea eb : E} {pos : Pos} (ha : PE X a (tE X.K Z (evalE C ea))) (hb : PE X b (tE X.K Z (evalE C eb))) (hs : isSlice b = false) : PE X (.Subscript a b pos) (tE X.K Z (evalE C (.ix ea eb))) := by
  refine PE.imp (pe_ix ((ix_list.or ix_tup).or (ix_dic hu)) ha hb (plain_ix hs)) fun σ H Q h => s_two (f := fun a b => getItem a b) (fun x y v u m H st Q as rx ry h => ?_) h
  obtain ⟨p, e, q, _⟩ := Ok.of h as
  unfold ixP at e
  split at e
  · rename_i o ho
    obtain ⟨res, e1, e2⟩ := obind e
    cases (show res = some p from e2)
    obtain ⟨n, a, rfl, hs, hm, rfl, ao, _⟩ := dic_at as ho rx
    obtain ⟨ov, hg, h1, h2⟩ := dget_at ao ry e1
    obtain ⟨w', rfl, rw'⟩ := h2 p rfl
    exact .inr ⟨a, w', rfl, hg, q w' rw'⟩
  left
  unfold ixS at e
  split at e
  · rename_i i
    cases (show u = .int i from ry)
    obtain ⟨ps, e1, e2⟩ := obind e
    obtain ⟨a, us, rfl, hq, rs⟩ := sitems_at as e1 rx
    obtain ⟨j, e3, e4⟩ := obind (show (Y.ixN ps.length i).bind (fun j => ps[j]?) = some p from e2)
    obtain ⟨w', e5, rw'⟩ := rs.get e4
    have e6 : L2.atI us i = some w' := by
      show (L2.ixN us.length i).bind (fun j => us[j]?) = some w'
      rw [rs.length]
      have : L2.ixN ps.length i = some j := e3
      rw [this]
      exact e5
    rcases hq with hq | hq
    · exact .inl ⟨a, us, i, w', rfl, rfl, hq, e6, q w' rw'⟩
    · exact .inr ⟨a, us, i, w', rfl, rfl, SqT.of hq, e6, q w' rw'⟩
  · cases e
def tO (K : PySem.W.Frag) (Z : List Addr) (d : Rho → Sto → R (Option P)) : TO := fun σ H Q => ∃ m r st, AbsR K H m Z r σ ∧ AbsSt K H m Z st ∧ Ok K Z (d r st) m H (fun o _ _ H' => ∃ l, partI o = some l ∧ Q l H')
theorem PO.imp {x : Option Expr} {t t' : TO} (h : PO X x t) (i : ∀ σ H Q, t' σ H Q → t σ H Q) : PO X x t' := fun pins s σ H Q I q => h pins s σ H Q I (i σ H Q q)
theorem s_pnone : PO X none (tO X.K Z (evalM C none)) := by
  refine PO.imp po_none ?_
  rintro σ H Q ⟨m, ρ, st, ar, as, h⟩
  unfold evalM at h
  obtain ⟨l, e, q⟩ := Ok.here h as
  cases e
  exact q
theorem s_psome {x : Expr} {a : E} (ha : PE X x (tE X.K Z (evalE C a))) : PO X (some x) (tO X.K Z (evalM C (some a))) := by
  refine PO.imp (po_some ha) ?_
  rintro σ H Q ⟨m, ρ, st, ar, as, h⟩
  unfold evalM at h
  refine ⟨m, ρ, st, ar, as, (Ok.bind h).mono fun p st1 m1 H1 le1 as1 h1 v rv => ?_⟩
  obtain ⟨l, e, q⟩ := Ok.here h1 as1
  cases p with
  | obj n => cases e
  | scr n => cases e
  | d y =>
    cases y with
    | int i =>
      cases e
      cases (show v = .int i from rv)
      exact ⟨i, rfl, q⟩
    | _ => cases e
theorem RelDs.cut {K : PySem.W.Frag} {H : Hp} {m Z : List Addr} {xs : List D} {us : List V} (h : RelDs K H m Z xs us) (lo hi : Option Int) : RelDs K H m Z (cutL xs lo hi) (cutV us lo hi) := by
  have r := h.map
  have hl := h.length
  unfold cutL cutV
  rw [hl]
  have e : ∀ (n d : Nat) (o : Option Int), Y.sIx n d o = HT.sIx n d o := fun n d o => by cases o <;> rfl
  rw [e, e]
  have q := (r.drop (HT.sIx xs.length 0 lo)).take (HT.sIx xs.length xs.length hi - HT.sIx xs.length 0 lo)
  rw [← List.map_drop, ← List.map_take] at q
  refine RelPs.dvals q ?_
  generalize ((xs.drop (HT.sIx xs.length 0 lo)).take (HT.sIx xs.length xs.length hi - HT.sIx xs.length 0 lo)) = ys
  induction ys with
  | nil => rfl
  | cons y ys ih => show ((dvals (ys.map P.d)).map fun xs => y :: xs) = _; rw [ih]; rfl
theorem RelPs.cut {K : PySem.W.Frag} {H : Hp} {m Z : List Addr} {xs : List P} {us : List V} (r : RelPs K H m Z xs us) (lo hi : Option Int) : RelPs K H m Z (cutL xs lo hi) (cutV us lo hi) := by
  have hl := r.length
  unfold cutL cutV
  rw [hl]
  have e : ∀ (n d : Nat) (o : Option Int), Y.sIx n d o = HT.sIx n d o := fun n d o => by cases o <;> rfl
  rw [e, e]
  exact (r.drop (HT.sIx xs.length 0 lo)).take (HT.sIx xs.length xs.length hi - HT.sIx xs.length 0 lo)
theorem s_slice {x : Expr} {lo hi : Option Expr} {a : E} {l h : Option E} {p2 pos : Pos} (ha : PE X x (tE X.K Z (evalE C a))) (hl : PO X lo (tO X.K Z (evalM C l))) (hh : PO X hi (tO X.K Z (evalM C h))) :
    PE X (.Subscript x (.Slice lo hi none p2) pos) (tE X.K Z (evalE C (.slice a l h))) := by
  refine PE.imp (pe_slice (sl_tupA.or sl_list) ha hl hh) ?_
  rintro σ H Q ⟨m, ρ, st, ar, as, h0⟩
  unfold evalE at h0
  refine ⟨m, ρ, st, ar, as, (Ok.bind h0).mono fun y st1 m1 H1 le1 as1 h1 v rv => ?_⟩
  refine ⟨m1, ρ, st1, ar.le le1, as1, (Ok.bind h1).mono fun ol st2 m2 H2 le2 as2 h2 => ?_⟩
  cases hr : evalM C h ρ st2 with
  | ex x s => rw [hr] at h2; exact (show False from h2).elim
  | no => rw [hr] at h2; exact (show False from h2).elim
  | ok oh st3 =>
    rw [hr] at h2
    simp only [bind_ok] at h2
    cases hs : sliceP y ol oh st3 with
    | none => rw [hs] at h2; exact (show False from h2).elim
    | some q =>
      have hs0 := hs
      unfold sliceP at hs
      obtain ⟨il, e1, hs⟩ := obind hs
      obtain ⟨ih, e2, hs⟩ := obind hs
      refine ⟨il, e1, m2, ρ, st2, (ar.le le1).le le2, as2, ?_⟩
      rw [hr]
      intro m3 H3 le3 as3
      refine ⟨ih, e2, ?_⟩
      rw [hs0] at h2
      have rv3 := (rv.le le2).le le3
      have fin : ∀ xs, litems st3 y = some xs → (dvals (cutL xs il ih)).map (fun ys => P.d (.pl ys)) = some q → (rSlA v il ih H3 Q ∨ rSlL X.K v il ih H3 Q) := fun xs hx hz => by
        obtain ⟨ys, hy, rfl⟩ := omap hz
        obtain ⟨b, us, rfl, hq, rs⟩ := litems_at as3 hx rv3
        refine .inr ⟨b, us, rfl, .inl hq, fun p hp => ?_⟩
        exact new_pl as3 ((rs.cut il ih).dvals hy) hp (Ok.le h2 le3)
      split at hs
      · rename_i xs
        cases hs
        obtain ⟨b, us, rfl, hq, rs⟩ := rv3
        refine .inl ⟨b, us, rfl, hq, fun r H' sm hr => ?_⟩
        have le : Le X.K m3 H3 m3 H' := Le.same sm
        exact h2 m3 H' (le3.trans le) (as3.same sm) (.ref r) ⟨r, _, rfl, hr, (rs.cut il ih).le le⟩
      · obtain ⟨xs, e3, hs⟩ := obind hs
        exact fin xs e3 hs
theorem s_rev {x : Expr} {a : E} {k : Nat} {p1 p2 p3 pos : Pos} (ha : PE X x (tE X.K Z (evalE C a))) : PE X (.Subscript x (.Slice none none (some (.UnaryOp .USub (.Constant (.int 1) k p1) p2)) p3) pos) (tE X.K Z (evalE C (.rev a))) := by
  refine PE.imp (pe_revT ha (pe_un un_neg pe_int)) ?_
  rintro σ H Q ⟨m, ρ, st, ar, as, h0⟩
  unfold evalE at h0
  refine ⟨m, ρ, st, ar, as, (Ok.bind h0).mono fun y st1 m1 H1 le1 as1 h1 v rv => ?_⟩
  split at h1
  · rename_i xs
    obtain ⟨b, us, rfl, hq, rs⟩ := rv
    exact ⟨1, rfl, b, us, rfl, rfl, hq, fun p hp => new_tup (α := Unit) as1 rs.reverse hp h1⟩
  · exact h1.elim
theorem rel1 {K : PySem.W.Frag} {H : Hp} {m Z : List Addr} {p : P} {vs : List V} (h : RelPs K H m Z [p] vs) : ∃ v, vs = [v] ∧ RelP K H m Z p v := by
  obtain ⟨v, vs', rfl, rv, e⟩ := (show ∃ v vs', vs = v :: vs' ∧ RelP K H m Z p v ∧ vs' = [] from h)
  subst e
  exact ⟨v, rfl, rv⟩
theorem rel2 {K : PySem.W.Frag} {H : Hp} {m Z : List Addr} {p q : P} {vs : List V} (h : RelPs K H m Z [p, q] vs) : ∃ v u, vs = [v, u] ∧ RelP K H m Z p v ∧ RelP K H m Z q u := by
  obtain ⟨v, vs', rfl, rv, h'⟩ := (show ∃ v vs', vs = v :: vs' ∧ RelP K H m Z p v ∧ RelPs K H m Z [q] vs' from h)
  obtain ⟨u, rfl, ru⟩ := rel1 h'
  exact ⟨v, u, rfl, rv, ru⟩
def rBf (K : PySem.W.Frag) : Bf → List V → Hp → VK → Prop
  | .any => fun xs H Q => ∃ (p : Addr) (bs : List Bool), xs = [.ref p] ∧ SqL K H p (bs.map V.bl) ∧ Q (.bl (bs.any id)) H
  | .len => fun xs H Q => (∃ p n, xs = [.ref p] ∧ DLen H p n ∧ Q (.int n) H) ∨ (∃ p ys, xs = [.ref p] ∧ (SqL K H p ys ∨ SqT K H p ys) ∧ Q (.int ys.length) H) ∨ (∃ z, xs = [.str z] ∧ z.length ≤ sizeLine ∧ Q (.int z.length) H)
  | .min2 => fun xs H Q => ∃ i j, xs = [.int i, .int j] ∧ Q (.int (if j < i then j else i)) H
  | .max2 => fun xs H Q => ∃ i j, xs = [.int i, .int j] ∧ Q (.int (if j > i then j else i)) H
  | .all => fun xs H Q => ∃ (p : Addr) (bs : List Bool), xs = [.ref p] ∧ SqL K H p (bs.map V.bl) ∧ Q (.bl (bs.all id)) H
  | .str => fun xs H Q => ∃ i, xs = [.int i] ∧ i.natAbs.log2 < 1920 ∧ Q (.str (toString i)) H
  | .tuple => fun xs H Q => ∃ p ys, xs = [.ref p] ∧ ((SqL K H p ys ∧ ∀ l, H l = none → Q (.ref l) (upd H l (.tup ys))) ∨ (SqT K H p ys ∧ Q (.ref p) H))
  | _ => fun _ _ _ => False
def bfVal : Bf → Value
  | .len => .builtin "len"
  | .min2 => .builtin "min"
  | .max2 => .builtin "max"
  | .all => .builtin "all"
  | .any => .builtin "any"
  | .sum => .builtin "sum"
  | .str => .type "str"
  | .tuple => .type "tuple"
theorem callR_or {f : Value} {r r' : List V → Hp → VK → Prop} (h : CallR X f r) (h' : CallR X f r') : CallR X f (fun xs H Q => r xs H Q ∨ r' xs H Q) := by
  intro pins s σ H xs us Q I rv q
  rcases q with q | q
  · exact h pins s σ H xs us Q I rv q
  · exact h' pins s σ H xs us Q I rv q
theorem call_bf (hc : X.calm = true) : ∀ f : Bf, CallR X (bfVal f) (rBf X.K f)
  | .len => callR_or call_len_dic (callR_or call_len_seq call_len_str)
  | .min2 => call_min2 hc
  | .max2 => call_max2 hc
  | .all => call_allB hc
  | .any => call_anyB hc
  | .sum => fun _ _ _ _ _ _ _ _ _ h => h.elim
  | .str => call_str_int
  | .tuple => call_tuple_of
theorem bools_of {K : PySem.W.Frag} {H : Hp} {m Z : List Addr} : ∀ {ps : List P} {bs : List Bool} {us : List V}, RelPs K H m Z ps us → boolsOf ps = some bs → us = bs.map V.bl
  | [], bs, us, h, e => by cases e; exact h
  | p :: ps, bs, us, h, e => by
    obtain ⟨v, vs, rfl, r, rs⟩ := (show ∃ v vs, us = v :: vs ∧ RelP K H m Z p v ∧ RelPs K H m Z ps vs from h)
    unfold boolsOf at e
    split at e
    · rename_i e0; cases e0
    · rename_i b r' e0
      cases e0
      obtain ⟨cs, e1, rfl⟩ := omap e
      cases (show v = .bl b from r)
      rw [bools_of rs e1]
      rfl
    · cases e
theorem bf_of {K : PySem.W.Frag} {f : Bf} {ps : List P} {vs : List V} {m : List Addr} {H : Hp} {st : Sto} {Q : VK} (as : AbsSt K H m Z st) (rx : RelPs K H m Z ps vs)
    (h : Ok K Z (R.of (bfP f ps st) st) m H (fun p _ m' H' => ∀ v, RelP K H' m' Z p v → Q v H')) : rBf K f vs H Q := by
  obtain ⟨p, e, q, qq⟩ := Ok.of h as
  unfold bfP at e
  split at e
  · rename_i p0
    obtain ⟨v, rfl, rv⟩ := rel1 rx
    split at e
    · rename_i x
      cases (show v = .str x from rv)
      split at e
      · rename_i hc
        cases e
        exact .inr (.inr ⟨x, rfl, by rw [← line_eq]; exact hc, q _ rfl⟩)
      · cases e
    · split at e
      · rename_i o ho
        cases e
        obtain ⟨n, a, rfl, hs, hm, rfl, ao, hd⟩ := dic_at as ho rv
        refine .inl ⟨a, lenO o, rfl, ?_, q _ rfl⟩
        cases o with
        | lst xs => cases hd
        | dK kvs =>
          obtain ⟨us, hu, rs⟩ := ao
          exact .inl ⟨us, .inl hu, rs.length⟩
        | dT kvs =>
          obtain ⟨us, hu, rs⟩ := ao
          exact .inr ⟨us, .inl hu, rs.length⟩
      · obtain ⟨xs, e1, rfl⟩ := omap e
        obtain ⟨a, us, rfl, hq, rs⟩ := sitems_at as e1 rv
        refine .inr (.inl ⟨a, us, rfl, sq_of hq, ?_⟩)
        rw [rs.length]
        exact q _ rfl
  · rename_i i j
    obtain ⟨v, u, rfl, rv, ru⟩ := rel2 rx
    cases (show v = .int i from rv)
    cases (show u = .int j from ru)
    cases e
    refine ⟨i, j, rfl, ?_⟩
    have : (if j < i then j else i) = min i j := by split <;> omega
    rw [this]
    exact q _ rfl
  · rename_i i j
    obtain ⟨v, u, rfl, rv, ru⟩ := rel2 rx
    cases (show v = .int i from rv)
    cases (show u = .int j from ru)
    cases e
    refine ⟨i, j, rfl, ?_⟩
    have : (if j > i then j else i) = max i j := by split <;> omega
    rw [this]
    exact q _ rfl
  · obtain ⟨v, rfl, rv⟩ := rel1 rx
    obtain ⟨xs, e1, e⟩ := obind e
    obtain ⟨bs, e2, rfl⟩ := omap e
    obtain ⟨a, us, rfl, hq, rs⟩ := litems_at as e1 rv
    have := bools_of rs e2
    subst this
    exact ⟨a, bs, rfl, .inl hq, q _ rfl⟩
  · obtain ⟨v, rfl, rv⟩ := rel1 rx
    obtain ⟨xs, e1, e⟩ := obind e
    obtain ⟨bs, e2, rfl⟩ := omap e
    obtain ⟨a, us, rfl, hq, rs⟩ := litems_at as e1 rv
    have := bools_of rs e2
    subst this
    exact ⟨a, bs, rfl, .inl hq, q _ rfl⟩
  · rename_i i
    obtain ⟨v, rfl, rv⟩ := rel1 rx
    cases (show v = .int i from rv)
    split at e
    · rename_i hc
      cases e
      exact ⟨i, rfl, hc, q _ rfl⟩
    · cases e
  · obtain ⟨v, rfl, rv⟩ := rel1 rx
    obtain ⟨xs, e1, e⟩ := obind e
    obtain ⟨ys, e2, rfl⟩ := omap e
    obtain ⟨a, us, rfl, hq, rs⟩ := sitems_at as e1 rv
    have rr := rs.dvals e2
    rcases hq with hq | hq
    · exact ⟨a, us, rfl, .inl ⟨hq, fun l hl => new_tup (α := Unit) as rr hl qq⟩⟩
    · exact ⟨a, us, rfl, .inr ⟨SqT.of hq, q (.ref a) ⟨a, us, rfl, hq, rr⟩⟩⟩
  · cases e
theorem s_bf (T : Good X g C) {f : Bf} {x : Expr} {xs : List Expr} {as' : List E} {p pos : Pos} (hg : g.gl (bfName f) = true) (hs : ∀ y ∈ x :: xs, notStar y = true) (h : PA X (x :: xs) (tA X.K Z (evalEs C as'))) :
    PE X (.Call (.Name (bfName f) p) (x :: xs) [] pos) (tE X.K Z (evalE C (.bf f as'))) := by
  have red : ∀ σ H Q, tE X.K Z (evalE C (.bf f as')) σ H Q → tCB (rBf X.K f) (tA X.K Z (evalEs C as')) σ H Q := by
    rintro σ H Q ⟨m, ρ, st, ar, as, h⟩
    unfold evalE at h
    exact ⟨m, ρ, st, ar, as, (Ok.bind h).mono fun qs st1 m1 H1 le1 as1 h1 vs rvs => bf_of as1 rvs h1⟩
  have s1 := star_of (env := X.env) (es := xs) (hs x List.mem_cons_self)
  have s2 : (backTo pos (starEach xs X.env)).any (·.1) = false := nostars fun z hz => hs z (List.mem_cons_of_mem _ hz)
  have hc := call_bf (X := X) T.calm f
  cases f with
  | len => exact PE.imp (pe_callB (id := "len") hc (T.glob hg) (T.bl _ (by decide +kernel)) PySem.boot_len h (by decide +kernel) (by decide +kernel) s1 s2) red
  | min2 => exact PE.imp (pe_callB (id := "min") hc (T.glob hg) (T.bl _ (by decide +kernel)) boot_min h (by decide +kernel) (by decide +kernel) s1 s2) red
  | max2 => exact PE.imp (pe_callB (id := "max") hc (T.glob hg) (T.bl _ (by decide +kernel)) boot_max h (by decide +kernel) (by decide +kernel) s1 s2) red
  | all => exact PE.imp (pe_callB (id := "all") hc (T.glob hg) (T.bl _ (by decide +kernel)) boot_all h (by decide +kernel) (by decide +kernel) s1 s2) red
  | any => exact PE.imp (pe_callB (id := "any") hc (T.glob hg) (T.bl _ (by decide +kernel)) boot_any h (by decide +kernel) (by decide +kernel) s1 s2) red
  | sum => exact PE.imp (pe_callB (id := "sum") hc (T.glob hg) (T.bl _ (by decide +kernel)) boot_sum h (by decide +kernel) (by decide +kernel) s1 s2) red
  | str => exact PE.imp (pe_callTy (T := "str") hc (T.glob hg) (T.bl _ (by decide +kernel)) boot_str h (by decide +kernel) (by decide +kernel) s1 s2) red
  | tuple => exact PE.imp (pe_callTy (T := "tuple") hc (T.glob hg) (T.bl _ (by decide +kernel)) boot_tuple h (by decide +kernel) (by decide +kernel) s1 s2) red
theorem lkS_eq : ∀ (t : List (Str × Int)) (k : Str), Y.lkS t k = L2.lkS t k
  | [], _ => rfl
  | (y, i) :: r, k => by
    show (if k = y then some i else Y.lkS r k) = (if k = y then some i else L2.lkS r k)
    rw [lkS_eq r k]
theorem s_tget (T : Good X g C) {t : List (Str × Int)} {d : Str} {x : Expr} {a : E} {dp ap cp : Pos} (hl : (ap.endLine == cp.line) = true) (hg : g.gl d = true) (hp : plainName d = true) (ht : g.tabs.lookup d = some t) (ha : PE X x (tE X.K Z (evalE C a))) (hs : notStar x = true) :
    PE X (.Call (.Attribute (.Name d dp) "get" ap) [x] [] cp) (tE X.K Z (evalE C (.tget t a))) := by
  obtain ⟨ad, hm, tb⟩ := T.tb d t ht
  have s1 : starEach [x] X.env = [(false, eval x X.env)] := star_of hs
  refine PE.imp (pe_tabget tb (pe_glob (v := .ref ad) (T.glob hg) hm rfl (pn hp).1) ha ⟨rfl, by rw [s1]; rfl, hl, by rw [s1]; rfl⟩) ?_
  rintro σ H Q ⟨m, ρ, st, ar, as, h0⟩
  unfold evalE at h0
  refine ⟨rfl, m, ρ, st, ar, as, (Ok.bind h0).mono fun y st1 m1 H1 le1 as1 h1 v rv => ?_⟩
  split at h1
  · rename_i k
    cases (show v = .str k from rv)
    refine ⟨k, rfl, ?_⟩
    rw [← lkS_eq]
    cases hk : Y.lkS t k with
    | none => rw [hk] at h1; exact Ok.here h1 as1 .non rfl
    | some i => rw [hk] at h1; exact Ok.here h1 as1 (.int i) rfl
  · exact h1.elim
theorem s_dnew {t : Bool} {pos : Pos} : PE X (.Dict [] [] pos) (tE X.K Z (evalE C (.dnew t))) := by
  have red : ∀ (ho : HO) (ob : O), (∀ H m Z a, H a = some ho → AbsO X.K H m Z a ob) → ∀ (σ : L2.St) (H : Hp) (Q : VK) m ρ st, AbsR X.K H m Z ρ σ → AbsSt X.K H m Z st →
      Ok X.K Z (R.ok (P.obj st.length) (st ++ [ob])) m H (fun p _ m' H' => ∀ v, RelP X.K H' m' Z p v → Q v H') → ∀ p, H p = none → Q (.ref p) (upd H p ho) := by
    intro ho ob hob σ H Q m ρ st ar as h p hp
    have hz : p ∉ Z := (as.fresh hp).2
    refine h (m ++ [p]) (upd H p ho) ((Le.same (same_new hp _)).grow hp) ((as.laid hp ho).adoptO hz (hob _ _ _ _ upd_same)) (.ref p) ⟨p, ?_, rfl⟩
    rw [List.getElem?_append_right (by rw [as.len]; exact Nat.le_refl _), as.len]
    simp
  cases t with
  | false =>
    refine PE.imp pe_dnewK ?_
    rintro σ H Q ⟨m, ρ, st, ar, as, h⟩
    unfold evalE at h
    exact red (.dK []) (.dK []) (fun H m Z a e => ⟨[], e, rfl⟩) σ H Q m ρ st ar as h
  | true =>
    refine PE.imp pe_dnewT ?_
    rintro σ H Q ⟨m, ρ, st, ar, as, h⟩
    unfold evalE at h
    exact red (.dT []) (.dT []) (fun H m Z a e => ⟨[], e, rfl⟩) σ H Q m ρ st ar as h
theorem noCall {o : Expr} {n : Str} {env : PySem.Env} {w : Sem Value} (h : isCall o = false) : attributeBase o n env w = w := by
  cases o <;> first
    | rfl
    | exact absurd (show true = false from h) Bool.false_ne_true.symm
theorem isD_of {K : PySem.W.Frag} {H : Hp} {m : List Addr} {a : Addr} {o : O} (ao : AbsO K H m Z a o) (hd : isDic o = true) : IsD H a := by
  cases o with
  | lst xs => cases hd
  | dK kvs => obtain ⟨us, hu, _⟩ := ao; exact .inl ⟨us, .inl hu⟩
  | dT kvs => obtain ⟨us, hu, _⟩ := ao; exact .inr ⟨us, .inl hu⟩
theorem get_of {K : PySem.W.Frag} {H : Hp} {m : List Addr} {st : Sto} {x k z p : P} {a : Addr} {y d : V} (as : AbsSt K H m Z st) (rx : RelP K H m Z x (.ref a)) (rk : RelP K H m Z k y) (rz : RelP K H m Z z d) (h : getP x k z st = some p) : ∃ ov, DGet H a y ov ∧ RelP K H m Z p (ov.getD d) := by
  unfold getP at h
  obtain ⟨o, ho, h⟩ := obind h
  obtain ⟨res, e1, rfl⟩ := omap h
  obtain ⟨n, b, rfl, hs, hm, e, ao, hd⟩ := dic_at as ho rx
  cases e
  obtain ⟨ov, hg, h1, h2⟩ := dget_at ao rk e1
  refine ⟨ov, hg, ?_⟩
  cases res with
  | some p => obtain ⟨v, rfl, rv⟩ := h2 p rfl; exact rv
  | none =>
    cases ov with
    | none => exact rz
    | some v => cases h1
theorem s_dget (hu : X.A.units + 100 < cLine) {o x : Expr} {a b : E} {ap cp : Pos} (hl : (ap.endLine == cp.line) = true) (hc : isCall o = false) (ho : PE X o (tE X.K Z (evalE C a))) (hx : PE X x (tE X.K Z (evalE C b))) (hs : notStar x = true) :
    PE X (.Call (.Attribute o "get" ap) [x] [] cp) (tE X.K Z (evalE C (.dget a b))) := by
  have s1 : starEach [x] X.env = [(false, eval x X.env)] := star_of hs
  refine PE.imp (pe_dget1 (by omega) ho hx ⟨noCall hc, by rw [s1]; rfl, hl, by rw [s1]; rfl⟩) ?_
  rintro σ H Q ⟨m, ρ, st, ar, as, h0⟩
  unfold evalE at h0
  refine ⟨m, ρ, st, ar, as, (Ok.bind h0).mono fun y st1 m1 H1 le1 as1 h1 v rv => ?_⟩
  obtain ⟨o', e, h2, _⟩ := Ok.of (Ok.bind h1) as1
  obtain ⟨n, c, rfl, hst, hm, rfl, ao, hd⟩ := dic_at as1 e rv
  refine ⟨c, rfl, isD_of ao hd, m1, ρ, st1, ar.le le1, as1, (Ok.bind h2).mono fun k st2 m2 H2 le2 as2 h3 u ru => ?_⟩
  obtain ⟨p, e2, q, _⟩ := Ok.of h3 as2
  obtain ⟨ov, hg, rp⟩ := get_of (z := .d .non) (d := .non) as2 (rv.le le2) ru rfl e2
  exact ⟨ov, hg, q _ rp⟩
theorem s_dget2 (hu : X.A.units + 100 < cLine) {o x y : Expr} {a b c : E} {ap cp : Pos} (hl : (ap.endLine == cp.line) = true) (hc : isCall o = false) (ho : PE X o (tE X.K Z (evalE C a))) (hx : PE X x (tE X.K Z (evalE C b))) (hs : notStar x = true) (hy : PE X y (tE X.K Z (evalE C c))) (hs2 : notStar y = true) :
    PE X (.Call (.Attribute o "get" ap) [x, y] [] cp) (tE X.K Z (evalE C (.dget2 a b c))) := by
  have s1 : starEach [x, y] X.env = [(false, eval x X.env), (false, eval y X.env)] := (star_of hs).trans (by rw [star_of hs2]; rfl)
  refine PE.imp (pe_dget2 (by omega) ho hx hy ⟨noCall hc, by rw [s1]; rfl, hl, by rw [s1]; rfl⟩) ?_
  rintro σ H Q ⟨m, ρ, st, ar, as, h0⟩
  unfold evalE at h0
  refine ⟨m, ρ, st, ar, as, (Ok.bind h0).mono fun y st1 m1 H1 le1 as1 h1 v rv => ?_⟩
  obtain ⟨o', e, h2, _⟩ := Ok.of (Ok.bind h1) as1
  obtain ⟨n, c, rfl, hst, hm, rfl, ao, hd⟩ := dic_at as1 e rv
  refine ⟨c, rfl, isD_of ao hd, m1, ρ, st1, ar.le le1, as1, (Ok.bind h2).mono fun k st2 m2 H2 le2 as2 h3 u ru => ?_⟩
  refine ⟨m2, ρ, st2, (ar.le le1).le le2, as2, (Ok.bind h3).mono fun z st3 m3 H3 le3 as3 h4 w' rw' => ?_⟩
  obtain ⟨p, e2, q, _⟩ := Ok.of h4 as3
  obtain ⟨ov, hg, rp⟩ := get_of as3 ((rv.le le2).le le3) (ru.le le3) rw' e2
  exact ⟨ov, hg, q _ rp⟩
def WalksU (K : PySem.W.Frag) (J : It) (us : List V) (m : List Addr) (H : Hp) : Prop :=
  ∀ m2 H2, Le K m H m2 H2 → ∀ i : Nat, (i < us.length → J.go i H2 ∧ ∀ x H3, J.yld i H2 x H3 → H3 = H2 ∧ us[i]? = some x) ∧ (us.length ≤ i → J.stop i H2)
def Walks (K : PySem.W.Frag) (Z : List Addr) (J : It) (ps : List P) (m : List Addr) (H : Hp) : Prop :=
  ∀ m2 H2 Z2, Le K m H m2 H2 → (∀ a ∈ Z2, a ∈ Z ∨ H a = none) → ∀ i : Nat, (∀ p, ps[i]? = some p → J.go i H2 ∧ ∀ x H3, J.yld i H2 x H3 → Same H2 H3 ∧ RelP K H3 m2 Z2 p x) ∧ (i = ps.length → J.stop i H2)
def tW (K : PySem.W.Frag) (Z : List Addr) (d : Rho → Sto → R (List P)) : TI := fun σ H S => ∃ m r st, AbsR K H m Z r σ ∧ AbsSt K H m Z st ∧ Ok K Z (d r st) m H (fun ps _ m' H' => ∀ J, Walks K Z J ps m' H' → S J H')
mutual
theorem RelD.growZ {K : PySem.W.Frag} {H : Hp} {m Z Z2 : List Addr} (hz : ∀ a ∈ Z2, a ∈ Z ∨ H a = none) : ∀ {x : D} {v : V}, RelD K H m Z x v → RelD K H m Z2 x v
  | .non, _, h => h
  | .bl _, _, h => h
  | .int _, _, h => h
  | .str _, _, h => h
  | .tup xs, v, h => by
    obtain ⟨a, us, e, q, r⟩ := (show ∃ a us, v = .ref a ∧ H a = some (.tup us) ∧ RelDs K H m Z xs us from h)
    exact ⟨a, us, e, q, RelDs.growZ hz r⟩
  | .pl xs, v, h => by
    obtain ⟨a, us, e, q, hm, hn, r⟩ := (show ∃ a us, v = .ref a ∧ Rd H a (.lst us) ∧ a ∉ m ∧ a ∉ Z ∧ RelDs K H m Z xs us from h)
    refine ⟨a, us, e, q, hm, fun z => ?_, RelDs.growZ hz r⟩
    rcases hz a z with y | y
    · exact hn y
    · exact rd_ne q y
theorem RelDs.growZ {K : PySem.W.Frag} {H : Hp} {m Z Z2 : List Addr} (hz : ∀ a ∈ Z2, a ∈ Z ∨ H a = none) : ∀ {xs : List D} {us : List V}, RelDs K H m Z xs us → RelDs K H m Z2 xs us
  | [], _, h => h
  | x :: xs, us, h => by
    obtain ⟨v, vs, e, r, rs⟩ := (show ∃ v vs, us = v :: vs ∧ RelD K H m Z x v ∧ RelDs K H m Z xs vs from h)
    exact ⟨v, vs, e, RelD.growZ hz r, RelDs.growZ hz rs⟩
end
theorem RelP.growZ {K : PySem.W.Frag} {H : Hp} {m Z Z2 : List Addr} (hz : ∀ a ∈ Z2, a ∈ Z ∨ H a = none) : ∀ {x : P} {v : V}, RelP K H m Z x v → RelP K H m Z2 x v
  | .d _, _, h => RelD.growZ hz h
  | .obj _, _, h => h
  | .scr _, _, h => h
theorem WalksU.walks {K : PySem.W.Frag} {Z : List Addr} {J : It} {ps : List P} {us : List V} {m : List Addr} {H : Hp} (w : WalksU K J us m H) (r : RelPs K H m Z ps us) : Walks K Z J ps m H := by
  intro m2 H2 Z2 le hz i
  obtain ⟨w1, w2⟩ := w m2 H2 le i
  refine ⟨fun p hp => ?_, fun h => w2 (by rw [r.length]; exact Nat.le_of_eq h.symm)⟩
  obtain ⟨v, hv, rv⟩ := r.get hp
  obtain ⟨go, yl⟩ := w1 (List.getElem?_eq_some_iff.mp hv).1
  refine ⟨go, fun x H3 hy => ?_⟩
  obtain ⟨rfl, hx⟩ := yl x H3 hy
  rw [hv] at hx
  cases hx
  exact ⟨fun _ _ e => e, (rv.growZ hz).le le⟩
theorem PI.imp {tg iter : Expr} {t t' : TI} (h : PI X tg iter t) (i : ∀ σ H Q, t' σ H Q → t σ H Q) : PI X tg iter t' := fun pins s σ H Q I q => h pins s σ H Q I (i σ H Q q)
theorem walks_t {K : PySem.W.Frag} {a : Addr} {us : List V} {m : List Addr} {H : Hp} (h : H a = some (.tup us)) : WalksU K (Itt K a) us m H := fun m2 H2 le i => by
  have h2 : SqT K H2 a us := SqT.of (le.tup _ _ h)
  refine ⟨fun hi => ⟨⟨us, us[i], h2, by simp [hi]⟩, fun x H3 ⟨e, y⟩ => ⟨e, y us h2⟩⟩, fun hi => ⟨us, h2, hi⟩⟩
theorem walks_l {K : PySem.W.Frag} {a : Addr} {us : List V} {m : List Addr} {H : Hp} (h : Rd H a (.lst us)) (hm : a ∉ m) : WalksU K (Itl K a) us m H := fun m2 H2 le i => by
  have h2 : SqL K H2 a us := .inl (le.rd h hm)
  refine ⟨fun hi => ⟨⟨us, us[i], h2, by simp [hi]⟩, fun x H3 ⟨e, y⟩ => ⟨e, y us h2⟩⟩, fun hi => ⟨us, h2, hi⟩⟩
theorem walks_r {K : PySem.W.Frag} {lo hi : Int} {m : List Addr} {H : Hp} : WalksU K (Itr lo (hi - lo).toNat) ((List.range (hi - lo).toNat).map fun k => V.int (lo + (k : Nat))) m H := fun m2 H2 le i => by
  refine ⟨fun h => ⟨by show i < (hi - lo).toNat; rw [List.length_map, List.length_range] at h; exact h, fun x H3 ⟨e, y⟩ => ⟨e, ?_⟩⟩, fun h => by show (hi - lo).toNat ≤ i; rw [List.length_map, List.length_range] at h; exact h⟩
  have h' : i < (hi - lo).toNat := by rw [List.length_map, List.length_range] at h; exact h
  rw [List.getElem?_map, List.getElem?_range h', y]
  rfl
theorem rel_rng {K : PySem.W.Frag} {H : Hp} {m Z : List Addr} (lo : Int) : ∀ l : List Nat, RelPs K H m Z (l.map fun k => P.d (.int (lo + (k : Nat)))) (l.map fun k => V.int (lo + (k : Nat)))
  | [] => rfl
  | k :: l => ⟨_, _, rfl, rfl, rel_rng lo l⟩
theorem s_wex {tg x : Expr} {a : E} (ha : PE X x (tE X.K Z (evalE C a))) : PI X tg x (tW X.K Z (evalW C (.ex a))) := by
  intro pins s σ H S I h
  obtain ⟨m, ρ, st, ar, as, h0⟩ := h
  unfold evalW at h0
  cases hr : evalE C a ρ st with
  | ex x s => rw [hr] at h0; exact (show False from h0).elim
  | no => rw [hr] at h0; exact (show False from h0).elim
  | ok y st1 =>
    rw [hr] at h0
    simp only [bind_ok] at h0
    unfold ditems at h0
    split at h0
    · rename_i xs
      refine pi_tup ha pins s σ H S I ⟨m, ρ, st, ar, as, ?_⟩
      rw [hr]
      intro m1 H1 le1 as1 v rv
      obtain ⟨b, us, rfl, hq, rs⟩ := rv
      exact ⟨b, rfl, ⟨us, SqT.of hq⟩, h0 m1 H1 le1 as1 _ ((walks_t hq).walks rs.map)⟩
    · rename_i xs
      refine pi_list ha pins s σ H S I ⟨m, ρ, st, ar, as, ?_⟩
      rw [hr]
      intro m1 H1 le1 as1 v rv
      obtain ⟨b, us, rfl, hq, hm, _, rs⟩ := rv
      exact ⟨b, rfl, ⟨us, .inl hq⟩, h0 m1 H1 le1 as1 _ ((walks_l hq hm).walks rs.map)⟩
    · exact (show False from h0).elim
theorem s_wrng (T : Good X g C) {tg : Expr} {xs : List Expr} {as' : List E} {p pos : Pos} (hg : g.gl "range" = true) (hok : okEs g as' xs = true) (h : PA X xs (tA X.K Z (evalEs C as'))) : PI X tg (.Call (.Name "range" p) xs [] pos) (tW X.K Z (evalW C (.rng as'))) := by
  intro pins s σ H S I h1
  obtain ⟨m, ρ, st, ar, as, h0⟩ := h1
  unfold evalW at h0
  cases hr : evalEs C as' ρ st with
  | ex x s => rw [hr] at h0; exact (show False from h0).elim
  | no => rw [hr] at h0; exact (show False from h0).elim
  | ok ps st1 =>
    rw [hr] at h0
    simp only [bind_ok] at h0
    have hl := okEs_length hok
    have hl2 := evalEs_len hr
    have hst := okEs_stars hok
    unfold rngP at h0
    split at h0
    · rename_i j
      match xs, hl, hst, h with
      | [x], _, hst, h =>
        split at h0
        · rename_i hc
          refine pi_range1 (T.glob hg) (T.bl _ (by decide +kernel)) h (star_of (hst x List.mem_cons_self)) pins s σ H S I ⟨m, ρ, st, ar, as, ?_⟩
          rw [hr]
          intro m1 H1 le1 as1 vs rvs
          obtain ⟨v, rfl, rv⟩ := rel1 rvs
          cases (show v = .int j from rv)
          have q := h0 m1 H1 le1 as1 (Itr 0 (j - 0).toNat) ((walks_r (lo := 0) (hi := j)).walks (rel_rng 0 _))
          rw [Int.sub_zero] at q
          exact ⟨j, rfl, hc.1, hc.2, q⟩
        · exact (show False from h0).elim
      | [], hl, _, _ => simp at hl; rw [← hl] at hl2; simp at hl2
      | _ :: _ :: _, hl, _, _ => rw [← hl2] at hl; simp at hl
    · rename_i i j
      match xs, hl, hst, h with
      | [x, y], _, hst, h =>
        split at h0
        · rename_i hc
          have sy : starEach [y] X.env = [(false, eval y X.env)] := star_of (hst y (by simp))
          refine pi_range2 (T.glob hg) (T.bl _ (by decide +kernel)) h (by rw [star_of (hst x List.mem_cons_self), sy]) sy pins s σ H S I ⟨m, ρ, st, ar, as, ?_⟩
          rw [hr]
          intro m1 H1 le1 as1 vs rvs
          obtain ⟨v, u, rfl, rv, ru⟩ := rel2 rvs
          cases (show v = .int i from rv)
          cases (show u = .int j from ru)
          exact ⟨i, j, rfl, hc, h0 m1 H1 le1 as1 (Itr i (j - i).toNat) ((walks_r (lo := i) (hi := j)).walks (rel_rng i _))⟩
        · exact (show False from h0).elim
      | [], hl, _, _ => rw [← hl2] at hl; simp at hl
      | [_], hl, _, _ => rw [← hl2] at hl; simp at hl
      | _ :: _ :: _ :: _, hl, _, _ => rw [← hl2] at hl; simp at hl
    · exact (show False from h0).elim
theorem enum_get : ∀ {xs : List D} {k i : Nat} {p : P}, (enumL k xs)[i]? = some p → ∃ x, xs[i]? = some x ∧ p = .d (.tup [.int (k + i : Nat), x])
  | [], k, i, p, h => by simp [enumL] at h
  | x :: xs, k, i, p, h => by
    cases i with
    | zero =>
      simp [enumL] at h
      exact ⟨x, rfl, by rw [← h]; simp⟩
    | succ i =>
      obtain ⟨y, e1, e2⟩ := enum_get (xs := xs) (k := k + 1) (i := i) (by simpa [enumL] using h)
      exact ⟨y, by simpa using e1, by rw [e2]; congr 4; omega⟩
theorem enum_len : ∀ {xs : List D} {k : Nat}, (enumL k xs).length = xs.length
  | [], _ => rfl
  | x :: xs, k => by simp [enumL, enum_len (xs := xs) (k := k + 1)]
theorem walks_e {K : PySem.W.Frag} {H : Hp} {m : List Addr} {a : Addr} {xs : List D} {us : List V} (ha : H a = some (.tup us)) (r : RelDs K H m Z xs us) : Walks K Z (Ite K a) (enumL 0 xs) m H := by
  intro m2 H2 Z2 le hz i
  have ha2 := le.tup _ _ ha
  refine ⟨fun p hp => ?_, fun h => ⟨us, SqT.of ha2, by rw [enum_len] at h; rw [r.length]; exact Nat.le_of_eq h.symm⟩⟩
  obtain ⟨x, hx, rfl⟩ := enum_get hp
  obtain ⟨v, hv, rv⟩ := r.map.get (i := i) (p := .d x) (by rw [List.getElem?_map, hx]; rfl)
  refine ⟨⟨us, v, SqT.of ha2, hv⟩, ?_⟩
  rintro y H3 ⟨T, v', hT, rfl, rfl, hy⟩
  have e := hy us (SqT.of ha2)
  rw [hv] at e
  cases e
  have sm : Same H2 (upd H2 T (.tup [.int (i : Nat), v])) := same_new hT _
  refine ⟨sm, T, [.int (i : Nat), v], rfl, upd_same, _, _, rfl, ?_, v, [], rfl, ((RelD.growZ hz rv).le le).le (Le.same sm), rfl⟩
  show V.int (i : Nat) = V.int ((0 + i : Nat) : Int)
  rw [Nat.zero_add]
theorem s_wenum (T : Good X g C) {elts : List Expr} {kk : Nat} {p3 p pos : Pos} {x : Expr} {a : E} (hg : g.gl "enumerate" = true) (ha : PE X x (tE X.K Z (evalE C a))) (hs : notStar x = true) :
    PI X (.Tuple elts kk p3) (.Call (.Name "enumerate" p) [x] [] pos) (tW X.K Z (evalW C (.enum a))) := by
  refine PI.imp (pi_enumT (T.glob hg) (T.bl _ (by decide +kernel)) (s_cons ha s_nil hs) (star_of hs)) ?_
  rintro σ H S ⟨m, ρ, st, ar, as, h0⟩
  unfold evalW at h0
  refine ⟨m, ρ, st, ar, as, ?_⟩
  show Ok X.K Z (evalEs C [a] ρ st) m H _
  unfold evalEs evalEs
  cases hr : evalE C a ρ st with
  | ex x s => rw [hr] at h0; exact (show False from h0).elim
  | no => rw [hr] at h0; exact (show False from h0).elim
  | ok y st1 =>
    rw [hr] at h0
    simp only [bind_ok] at h0 ⊢
    intro m1 H1 le1 as1 vs rvs
    obtain ⟨v, rfl, rv⟩ := rel1 rvs
    split at h0
    · rename_i xs
      obtain ⟨b, us, rfl, hq, rs⟩ := rv
      exact ⟨b, rfl, ⟨us, SqT.of hq⟩, h0 m1 H1 le1 as1 _ (walks_e hq rs)⟩
    · exact (show False from h0).elim
theorem s_lrng (T : Good X g C) {xs : List Expr} {as' : List E} {p pos p2 pos2 : Pos} (hg : g.gl "range" = true) (hg2 : g.gl "list" = true) (hok : okEs g as' xs = true) (h : PA X xs (tA X.K Z (evalEs C as'))) :
    PE X (.Call (.Name "list" p2) [.Call (.Name "range" p) xs [] pos] [] pos2) (tL X.K Z (evalL C (.rng as'))) := by
  have hst := okEs_stars hok
  have hl := okEs_length hok
  cases xs with
  | nil =>
    rintro pins s σ H Q I ⟨m, ρ, st, ar, as, h0⟩
    cases as' with
    | nil => unfold evalL evalEs at h0; exact (show False from h0).elim
    | cons a b => simp at hl
  | cons x xs =>
    have s1 := star_of (env := X.env) (es := xs) (hst x List.mem_cons_self)
    have s2 : (backTo pos (starEach xs X.env)).any (·.1) = false := nostars fun z hz => hst z (List.mem_cons_of_mem _ hz)
    refine PE.imp (pe_callTy (call_list_rng T.calm) (T.glob hg2) (T.bl _ (by decide +kernel)) boot_list (pa_cons (pe_callTy call_rangeR (T.glob hg) (T.bl _ (by decide +kernel)) boot_range h (by decide +kernel) (by decide +kernel) s1 s2) pa_nil) (by decide +kernel) (by decide +kernel) rfl rfl) ?_
    rintro σ H Q ⟨m, ρ, st, ar, as, h0⟩
    refine ⟨m, ρ, st, ar, as, ?_⟩
    unfold evalL at h0
    cases hr : evalEs C as' ρ st with
    | ex x s => rw [hr] at h0; exact (show False from h0).elim
    | no => rw [hr] at h0; exact (show False from h0).elim
    | ok ps st1 =>
      rw [hr] at h0
      simp only [bind_ok] at h0
      intro m1 H1 le1 as1 vs rvs
      have fin : ∀ lo hi : Int, (-rngI ≤ lo ∧ lo < rngI ∧ -rngI ≤ hi ∧ hi < rngI) → LQ X.K Z (R.bind (R.of (some (rngL lo hi)) st1) fun qs st2 => if qs.length ≤ lineN then R.ok qs st2 else R.no) m H Q → ∀ q, H1 q = none →
          ∃ p lo' hi', [V.ref q] = [.ref p] ∧ upd H1 q (.rng lo hi) p = some (.rng lo' hi') ∧ (-(2 ^ 62) ≤ lo' ∧ lo' < 2 ^ 62 ∧ -(2 ^ 62) ≤ hi' ∧ hi' < 2 ^ 62) ∧ (hi' - lo').toNat ≤ sizeLine ∧ ∀ l, upd H1 q (.rng lo hi) l = none → Q (.ref l) (upd (upd H1 q (.rng lo hi)) l (.lst (rngV lo' (hi' - lo').toNat))) := by
        intro lo hi hb hQ q hq
        simp only [of_some, bind_ok] at hQ
        split at hQ
        · rename_i hc
          refine ⟨q, lo, hi, rfl, upd_same, hb, ?_, fun l hl => ?_⟩
          · unfold rngL at hc
            rw [List.length_map, List.length_range] at hc
            rw [← line_eq]; exact hc
          · have le2 : Le X.K m1 H1 m1 (upd H1 q (.rng lo hi)) := Le.same (same_new hq _)
            exact lay_list (le1.trans le2) (as1.same (same_new hq _)) (rel_rng lo _) hl hQ
        · exact hQ.elim
      cases hp : rngP ps with
      | none => rw [hp] at h0; exact (show False from h0).elim
      | some qs =>
        rw [hp] at h0
        unfold rngP at hp
        split at hp
        · rename_i j
          split at hp
          · rename_i hc
            cases hp
            obtain ⟨v, rfl, rv⟩ := rel1 rvs
            cases (show v = .int j from rv)
            exact ⟨0, j, .inr ⟨rfl, rfl⟩, fin 0 j ⟨by unfold rngI; omega, by unfold rngI; omega, hc.1, hc.2⟩ h0⟩
          · cases hp
        · rename_i i j
          split at hp
          · rename_i hc
            cases hp
            obtain ⟨v, u, rfl, rv, ru⟩ := rel2 rvs
            cases (show v = .int i from rv)
            cases (show u = .int j from ru)
            exact ⟨i, j, .inl rfl, fin i j hc h0⟩
          · cases hp
        · cases hp
theorem RelPs.of_get {K : PySem.W.Frag} {H : Hp} {m : List Addr} : ∀ {ps : List P} {ts : List V}, ts.length = ps.length → (∀ (j : Nat) p t, ps[j]? = some p → ts[j]? = some t → RelP K H m Z p t) → RelPs K H m Z ps ts
  | [], ts, hl, _ => by cases ts with | nil => rfl | cons t ts => simp at hl
  | p :: ps, ts, hl, h => by
    cases ts with
    | nil => simp at hl
    | cons t ts => exact ⟨t, ts, rfl, h 0 p t rfl rfl, RelPs.of_get (by simpa using hl) fun j p' t' e e' => h (j + 1) p' t' (by simpa using e) (by simpa using e')⟩
theorem RelDs.get {K : PySem.W.Frag} {H : Hp} {m : List Addr} {xs : List D} {us : List V} {j : Nat} {x : D} {u : V} (h : RelDs K H m Z xs us) (e : xs[j]? = some x) (e' : us[j]? = some u) : RelD K H m Z x u := by
  obtain ⟨v, ev, rv⟩ := h.map.get (i := j) (p := .d x) (by rw [List.getElem?_map, e]; rfl)
  rw [e'] at ev
  cases ev
  exact rv
theorem s_lzip (T : Good X g C) {x1 x2 : Expr} {a b : E} {p pos p2 pos2 : Pos} (hg : g.gl "zip" = true) (hg2 : g.gl "list" = true) (ha : PE X x1 (tE X.K Z (evalE C a))) (h1 : notStar x1 = true) (hb : PE X x2 (tE X.K Z (evalE C b))) (h2 : notStar x2 = true) :
    PE X (.Call (.Name "list" p2) [.Call (.Name "zip" p) [x1, x2] [] pos] [] pos2) (tL X.K Z (evalL C (.zip a b))) := by
  refine PE.imp (pe_list_zip T.calm (T.glob hg2) (T.bl _ (by decide +kernel)) (T.glob hg) (T.bl _ (by decide +kernel)) (s_cons ha (s_cons hb s_nil h2) h1) (star_of h1) (nostars fun z hz => ?_)) ?_
  · have : z = x2 := by simpa using hz
    rw [this]; exact h2
  rintro σ H Q ⟨m, ρ, st, ar, as, h0⟩
  refine ⟨m, ρ, st, ar, as, ?_⟩
  unfold evalL at h0
  unfold evalEs evalEs evalEs
  cases hr : evalE C a ρ st with
  | ex x s => rw [hr] at h0; exact (show False from h0).elim
  | no => rw [hr] at h0; exact (show False from h0).elim
  | ok x st1 =>
    rw [hr] at h0
    simp only [bind_ok] at h0 ⊢
    cases hr2 : evalE C b ρ st1 with
    | ex x s => rw [hr2] at h0; exact (show False from h0).elim
    | no => rw [hr2] at h0; exact (show False from h0).elim
    | ok y st2 =>
      rw [hr2] at h0
      simp only [bind_ok] at h0 ⊢
      intro m1 H1 le1 as1 vs rvs
      obtain ⟨v, u, rfl, rv, ru⟩ := rel2 rvs
      unfold zipP at h0
      split at h0
      · rename_i xs ys
        obtain ⟨va, us, rfl, hva, rx⟩ := rv
        obtain ⟨vb, ws, rfl, hvb, ry⟩ := ru
        refine ⟨va, vb, us, ws, rfl, SqT.of hva, SqT.of hvb, fun l H' ts sm hl hl' hp => ?_⟩
        simp only [of_some, bind_ok] at h0
        have le2 : Le X.K m1 H1 m1 H' := Le.same sm
        refine h0 m1 H' l ts (le1.trans le2) (le1.untrk hl) (as1.fresh hl).1 hl' (as1.laidS hl sm (by rw [hl']; exact fun z => nomatch z)) (RelPs.of_get ?_ fun j p t e e' => ?_)
        · rw [hp.1, List.length_map, List.length_map, List.length_zip, rx.length, ry.length]
        · obtain ⟨Tt, u, w', rfl, e1, e2, e3⟩ := hp.2 j t e'
          rw [List.getElem?_map, List.getElem?_map] at e
          cases hz : (xs.zip ys)[j]? with
          | none => rw [hz] at e; cases e
          | some q =>
            rw [hz] at e
            have e9 : P.d (D.tup [q.1, q.2]) = p := by simpa using e
            subst e9
            obtain ⟨q1, q2⟩ := List.getElem?_zip_eq_some.mp hz
            have r1 := (RelD.addZ hl (rx.get q1 e2)).le le2
            have r2 := (RelD.addZ hl (ry.get q2 e3)).le le2
            exact ⟨Tt, [u, w'], rfl, e1, u, [w'], rfl, r1, w', [], rfl, r2, rfl⟩
      · exact (show False from h0).elim
theorem ints_of {K : PySem.W.Frag} {H : Hp} {m Z : List Addr} : ∀ {ps : List P} {bs : List Int} {us : List V}, RelPs K H m Z ps us → intsOf ps = some bs → us = bs.map V.int
  | [], bs, us, h, e => by cases e; exact h
  | p :: ps, bs, us, h, e => by
    obtain ⟨v, vs, rfl, r, rs⟩ := (show ∃ v vs, us = v :: vs ∧ RelP K H m Z p v ∧ RelPs K H m Z ps vs from h)
    unfold intsOf at e
    split at e
    · rename_i e0; cases e0
    · rename_i b r' e0
      cases e0
      obtain ⟨cs, e1, rfl⟩ := omap e
      cases (show v = .int b from r)
      rw [ints_of rs e1]
      rfl
    · cases e
theorem s_index {o x : Expr} {a b : E} {ap cp : Pos} (hl : (ap.endLine == cp.line) = true) (hc : isCall o = false) (ho : PE X o (tE X.K Z (evalE C a))) (hx : PE X x (tE X.K Z (evalE C b))) (hs : notStar x = true) :
    PE X (.Call (.Attribute o "index" ap) [x] [] cp) (tE X.K Z (evalE C (.index a b))) := by
  have s1 : starEach [x] X.env = [(false, eval x X.env)] := star_of hs
  refine PE.imp (pe_bm PySem.F.plainAttrs_list PySem.F.slot_list_index PySem.F.type_list_index mt_index ho (s_cons hx s_nil hs) (noCall hc) (by rw [s1]; rfl) hl s1 rfl) ?_
  rintro σ H Q ⟨m, r, st, ar, as, h⟩
  unfold evalE at h
  refine ⟨m, r, st, ar, as, (Ok.bind h).mono fun y st1 m1 H1 le1 as1 h1 v rv => ?_⟩
  obtain ⟨its, e1, h2, hdrop⟩ := Ok.of (Ok.bind h1) as1
  clear hdrop
  obtain ⟨l, us, rfl, hq, rs⟩ := litems_at as1 e1 rv
  refine ⟨.inl ⟨rfl, us, .inl hq⟩, m1, r, st1, ar.le le1, as1, ?_⟩
  show Ok X.K Z (evalEs C [b] r st1) m1 H1 _
  unfold evalEs evalEs
  cases hr : evalE C b r st1 with
  | ex x s => rw [hr] at h2; exact (show False from h2).elim
  | no => rw [hr] at h2; exact (show False from h2).elim
  | ok w st2 =>
    rw [hr] at h2
    simp only [bind_ok] at h2 ⊢
    intro m2 H2 le2 as2 vs rvs
    obtain ⟨u, rfl, ru⟩ := rel1 rvs
    obtain ⟨p, e2, h3, hdrop⟩ := Ok.of (Ok.le h2 le2) as2
    clear hdrop
    unfold indexP at e2
    split at e2
    · rename_i k
      cases (show u = .int k from ru)
      obtain ⟨xs, e3, e4⟩ := obind e2
      obtain ⟨ns, e5, e6⟩ := obind e4
      split at e6
      · rename_i hk
        cases e6
        obtain ⟨l', us', e, hq', rs'⟩ := litems_at as2 e3 (rv.le le2)
        cases e
        have := ints_of rs' e5
        subst this
        exact ⟨l, ns, k, rfl, rfl, .inl hq', hk, h3 _ rfl⟩
      · cases e6
    · cases e2
theorem walks_z {K : PySem.W.Frag} {H : Hp} {m : List Addr} {a b : Addr} {xs ys : List D} {us ws : List V} (ha : H a = some (.tup us)) (hb : H b = some (.tup ws)) (r : RelDs K H m Z xs us) (r' : RelDs K H m Z ys ws) :
    Walks K Z (Itz K a b) (((xs.zip ys).map fun p => D.tup [p.1, p.2]).map .d) m H := by
  intro m2 H2 Z2 le hz i
  have ha2 := le.tup _ _ ha
  have hb2 := le.tup _ _ hb
  refine ⟨fun p hp => ?_, fun h => ⟨us, ws, SqT.of ha2, SqT.of hb2, ?_⟩⟩
  · rw [List.getElem?_map, List.getElem?_map] at hp
    cases hq : (xs.zip ys)[i]? with
    | none => rw [hq] at hp; cases hp
    | some q =>
      rw [hq] at hp
      have e9 : P.d (D.tup [q.1, q.2]) = p := by simpa using hp
      subst e9
      obtain ⟨q1, q2⟩ := List.getElem?_zip_eq_some.mp hq
      obtain ⟨v, hv, rv⟩ := r.map.get (i := i) (p := .d q.1) (by rw [List.getElem?_map, q1]; rfl)
      obtain ⟨u, hu, ru⟩ := r'.map.get (i := i) (p := .d q.2) (by rw [List.getElem?_map, q2]; rfl)
      refine ⟨⟨us, ws, v, u, SqT.of ha2, SqT.of hb2, hv, hu⟩, ?_⟩
      rintro y H3 ⟨T, v', u', hT, rfl, rfl, hy, hy'⟩
      have e := hy us (SqT.of ha2)
      rw [hv] at e
      cases e
      have e := hy' ws (SqT.of hb2)
      rw [hu] at e
      cases e
      have sm : Same H2 (upd H2 T (.tup [v, u])) := same_new hT _
      exact ⟨sm, T, [v, u], rfl, upd_same, v, [u], rfl, ((RelD.growZ hz rv).le le).le (Le.same sm), u, [], rfl, ((RelD.growZ hz ru).le le).le (Le.same sm), rfl⟩
  · rw [List.length_map, List.length_map, List.length_zip, ← r.length, ← r'.length] at h
    omega
theorem s_wzip (T : Good X g C) {elts : List Expr} {kk : Nat} {p3 p pos : Pos} {x1 x2 : Expr} {a b : E} (hg : g.gl "zip" = true) (ha : PE X x1 (tE X.K Z (evalE C a))) (h1 : notStar x1 = true) (hb : PE X x2 (tE X.K Z (evalE C b))) (h2 : notStar x2 = true) :
    PI X (.Tuple elts kk p3) (.Call (.Name "zip" p) [x1, x2] [] pos) (tW X.K Z (evalW C (.zip a b))) := by
  refine PI.imp (pi_zipT (T.glob hg) (T.bl _ (by decide +kernel)) (s_cons ha (s_cons hb s_nil h2) h1) (star_of h1) (nostars fun z hz => ?_)) ?_
  · have : z = x2 := by simpa using hz
    rw [this]; exact h2
  rintro σ H S ⟨m, ρ, st, ar, as, h0⟩
  unfold evalW at h0
  refine ⟨m, ρ, st, ar, as, ?_⟩
  unfold evalEs evalEs evalEs
  cases hr : evalE C a ρ st with
  | ex x s => rw [hr] at h0; exact (show False from h0).elim
  | no => rw [hr] at h0; exact (show False from h0).elim
  | ok x st1 =>
    rw [hr] at h0
    simp only [bind_ok] at h0 ⊢
    cases hr2 : evalE C b ρ st1 with
    | ex x s => rw [hr2] at h0; exact (show False from h0).elim
    | no => rw [hr2] at h0; exact (show False from h0).elim
    | ok y st2 =>
      rw [hr2] at h0
      simp only [bind_ok] at h0 ⊢
      intro m1 H1 le1 as1 vs rvs
      obtain ⟨v, u, rfl, rv, ru⟩ := rel2 rvs
      unfold zipP at h0
      split at h0
      · rename_i xs ys
        obtain ⟨va, us, rfl, hva, rx⟩ := rv
        obtain ⟨vb, ws, rfl, hvb, ry⟩ := ru
        exact ⟨va, vb, rfl, ⟨us, SqT.of hva⟩, ⟨ws, SqT.of hvb⟩, h0 m1 H1 le1 as1 _ (walks_z hva hvb rx ry)⟩
      · exact (show False from h0).elim
end
end Y

namespace Y
open PySem L2 PySem.Spec PyProof.Rows
section
variable {K : PySem.W.Frag} {H H' : Hp} {m Z : List Addr}
mutual
theorem RelD.congr (ht : ∀ a us, H a = some (.tup us) → H' a = some (.tup us)) (hl : ∀ a us, a ∉ m → a ∉ Z → Rd H a (.lst us) → Rd H' a (.lst us)) : ∀ {x : D} {v : V}, RelD K H m Z x v → RelD K H' m Z x v
  | .non, _, h => h
  | .bl _, _, h => h
  | .int _, _, h => h
  | .str _, _, h => h
  | .tup xs, v, h => by
    obtain ⟨a, us, e, q, r⟩ := (show ∃ a us, v = .ref a ∧ H a = some (.tup us) ∧ RelDs K H m Z xs us from h)
    exact ⟨a, us, e, ht _ _ q, RelDs.congr ht hl r⟩
  | .pl xs, v, h => by
    obtain ⟨a, us, e, q, hm, hz, r⟩ := (show ∃ a us, v = .ref a ∧ Rd H a (.lst us) ∧ a ∉ m ∧ a ∉ Z ∧ RelDs K H m Z xs us from h)
    exact ⟨a, us, e, hl _ _ hm hz q, hm, hz, RelDs.congr ht hl r⟩
theorem RelDs.congr (ht : ∀ a us, H a = some (.tup us) → H' a = some (.tup us)) (hl : ∀ a us, a ∉ m → a ∉ Z → Rd H a (.lst us) → Rd H' a (.lst us)) : ∀ {xs : List D} {us : List V}, RelDs K H m Z xs us → RelDs K H' m Z xs us
  | [], _, h => h
  | x :: xs, us, h => by
    obtain ⟨v, vs, e, r, rs⟩ := (show ∃ v vs, us = v :: vs ∧ RelD K H m Z x v ∧ RelDs K H m Z xs vs from h)
    exact ⟨v, vs, e, RelD.congr ht hl r, RelDs.congr ht hl rs⟩
end
theorem RelP.congr (ht : ∀ a us, H a = some (.tup us) → H' a = some (.tup us)) (hl : ∀ a us, a ∉ m → a ∉ Z → Rd H a (.lst us) → Rd H' a (.lst us)) (hf : ∀ a o u, H a = some (.frz o u) → H' a = some (.frz o u)) : ∀ {x : P} {v : V}, RelP K H m Z x v → RelP K H' m Z x v
  | .d _, _, h => RelD.congr ht hl h
  | .obj _, _, h => h
  | .scr ns, v, h => by
    obtain ⟨a, e, r⟩ := (show ∃ a, v = .ref a ∧ FrzL K H a (ns.map V.int) from h)
    refine ⟨a, e, ?_⟩
    rcases r with ⟨o, r⟩ | r
    · exact .inl ⟨o, hf _ _ _ r⟩
    · exact .inr r
theorem RelPs.congr (ht : ∀ a us, H a = some (.tup us) → H' a = some (.tup us)) (hl : ∀ a us, a ∉ m → a ∉ Z → Rd H a (.lst us) → Rd H' a (.lst us)) (hf : ∀ a o u, H a = some (.frz o u) → H' a = some (.frz o u)) : ∀ {xs : List P} {us : List V}, RelPs K H m Z xs us → RelPs K H' m Z xs us
  | [], _, h => h
  | x :: xs, us, h => by
    obtain ⟨v, vs, e, r, rs⟩ := (show ∃ v vs, us = v :: vs ∧ RelP K H m Z x v ∧ RelPs K H m Z xs vs from h)
    exact ⟨v, vs, e, r.congr ht hl hf, RelPs.congr ht hl hf rs⟩
theorem upd_sqT {a : Addr} {ys : List V} {o : HO} (ha : H a = some (.lst ys)) : ∀ b us, H b = some (.tup us) → upd H a o b = some (.tup us) := fun b us h => by
  have hb : b ≠ a := fun z => by rw [z, ha] at h; cases h
  rw [upd_ne hb]
  exact h
theorem upd_frz {a : Addr} {ys : List V} {o : HO} (ha : H a = some (.lst ys)) : ∀ b o' u, H b = some (.frz o' u) → upd H a o b = some (.frz o' u) := fun b o' u h => by
  have hb : b ≠ a := fun z => by rw [z, ha] at h; cases h
  rw [upd_ne hb]
  exact h
theorem upd_rd {a b : Addr} {us : List V} {o : HO} (hb : b ≠ a) (h : Rd H b (.lst us)) : Rd (upd H a o) b (.lst us) := by
  rcases h with h | ⟨o', h⟩
  · exact .inl (by rw [upd_ne hb]; exact h)
  · exact .inr ⟨o', by rw [upd_ne hb]; exact h⟩
theorem AbsSt.updZ {st : Sto} {a : Addr} {ys zs : List V} (A : AbsSt K H m (a :: Z) st) (ha : H a = some (.lst ys)) : AbsSt K (upd H a (.lst zs)) m (a :: Z) st := by
  refine ⟨A.len, A.nd, fun n o h => ?_, fun b hb => ?_, A.zm⟩
  · obtain ⟨c, q, r⟩ := A.at_ n o h
    have hc : c ≠ a := fun z => A.zm a List.mem_cons_self (by rw [← z]; exact List.mem_of_getElem? q)
    exact ⟨c, q, r.mono (fun u hu => by rw [upd_ne hc]; exact hu) fun p v z => z.congr (upd_sqT ha) (fun b us _ hz h => upd_rd (fun z => hz (by rw [z]; exact List.mem_cons_self)) h) (upd_frz ha)⟩
  · by_cases hba : b = a
    · rw [hba, upd_same]; exact fun z => nomatch z
    · rw [upd_ne hba]; exact A.zt b hb
theorem Le.updN {H1 : Hp} {m1 : List Addr} {a : Addr} {ys zs : List V} (le : Le K m1 H1 m H) (h1 : H1 a = none) (ha : H a = some (.lst ys)) : Le K m1 H1 m (upd H a (.lst zs)) where
  pre := le.pre
  tup := fun b xs h => upd_sqT ha b xs (le.tup b xs h)
  keep := fun b u h hb => by
    rw [upd_ne (ne_of_none h h1)]
    exact le.keep b u h hb
  new := le.new
  trk := fun b h => by
    by_cases hba : b = a
    · rw [hba, upd_same]; exact fun z => nomatch z
    · rw [upd_ne hba]; exact le.trk b h
  frz := fun b o u h => upd_frz ha b o u (le.frz b o u h)
end
section
variable {X : Cx} {g : G} {C : Nat → List P → Sto → R P} {Z : List Addr} {e : Expr} {es : List Expr}
theorem PTs.imp {ifs : List Expr} {t t' : TT} (h : PTs X ifs t) (i : ∀ σ H Q, t' σ H Q → t σ H Q) : PTs X ifs t' := fun pins s σ H Q I q => h pins s σ H Q I (i σ H Q q)
def tTx (K : PySem.W.Frag) (d : Rho → Sto → R Bool) : TT := fun σ H Q => ∃ Z, tT K Z d σ H Q
def tEx (K : PySem.W.Frag) (d : Rho → Sto → R P) : TE := fun σ H Q => ∃ Z, tE K Z d σ H Q
theorem s_ctests0 : PTs X [] (tTx X.K (evalC C none)) := by
  refine PTs.imp pts_nil ?_
  rintro σ H Q ⟨Z, m, ρ, st, ar, as, h⟩
  unfold evalC at h
  exact Ok.here h as
theorem s_ctests1 {c : Expr} {ec : E} (h : ∀ Z, PT X c (tT X.K Z (runT (evalE C ec)))) : PTs X [c] (tTx X.K (evalC C (some ec))) := by
  refine pts_one fun pins s σ H Q I q => ?_
  obtain ⟨Z, q⟩ := q
  refine h Z pins s σ H Q I ?_
  obtain ⟨m, ρ, st, ar, as, h⟩ := q
  unfold evalC at h
  exact ⟨m, ρ, st, ar, as, h⟩
theorem s_cx {x : Expr} {d : Rho → Sto → R P} (h : ∀ Z, PE X x (tE X.K Z d)) : PE X x (tEx X.K d) := fun pins s σ H Q I ⟨Z, q⟩ => h Z pins s σ H Q I q
theorem block_abs {K : PySem.W.Frag} {H H2 : Hp} {m m2 : List Addr} {r : Rho} {σ : L2.St} {js : List Nat} {acc : Addr} {p : P} {v : V} (ar : AbsR K H m Z r σ) (hacc : H acc = none) (le : Le K m H m2 H2) (rp : RelP K H2 m2 (acc :: Z) p v) :
    AbsR K H2 m2 (acc :: Z) (some p :: blockR js r) (some v :: js.map fun j => (σ[j]?).join) := by
  refine ⟨by unfold blockR; simp, fun i q h => ?_⟩
  cases i with
  | zero =>
    simp at h
    subst h
    exact ⟨v, by simp, rp⟩
  | succ i =>
    have h' : (blockR js r)[i]? = some (some q) := by simpa using h
    unfold blockR at h'
    rw [List.getElem?_map] at h'
    cases ej : js[i]? with
    | none => rw [ej] at h'; cases h'
    | some j =>
      rw [ej] at h'
      have h2 : (r[j]?).join = some q := by simpa using h'
      have h3 : r[j]? = some (some q) := by
        cases e : r[j]? with
        | none => rw [e] at h2; cases h2
        | some o => rw [e] at h2; simp at h2; rw [h2]
      obtain ⟨w', e1, r1⟩ := ar.at_ j q h3
      refine ⟨w', ?_, (r1.addZ hacc).le le⟩
      show (some v :: js.map fun j => (σ[j]?).join)[i + 1]? = some (some w')
      rw [List.getElem?_cons_succ, List.getElem?_map, ej]
      simp [e1]
theorem comp_run {w : W} {js : List Nat} {c : Option E} {ee : E} {σ : L2.St} {H : Hp} {Q : VK} (h : tL X.K Z (evalL C (.comp w 1 js c ee)) σ H Q) :
    tComp (tW X.K Z (evalW C w)) (gName 0) (tTx X.K (evalC C c)) (tEx X.K (evalE C ee)) 1 js σ H Q := by
  obtain ⟨m0, r, st0, ar, as0, h⟩ := h
  unfold evalL at h
  refine ⟨m0, r, st0, ar, as0, ?_⟩
  cases hw : evalW C w r st0 with
  | ex x s => rw [hw] at h; exact (show False from h).elim
  | no => rw [hw] at h; exact (show False from h).elim
  | ok ps st1 =>
    rw [hw] at h
    simp only [bind_ok] at h
    split at h
    · rename_i hlen
      obtain ⟨_, hlen⟩ := hlen
      intro m1 H1 le1 as1 J wk acc hacc
      let G' : P → Rho := fun p => some p :: blockR js r
      let K' := X.K
      let fr : L2.St := js.map fun j => (σ[j]?).join
      let CK : Nat → List P → Sto → Prop := fun i qs st => match compL G' (evalC C c) (fun r' st' => evalE C ee r' st') (ps.drop i) st with
        | .ok rest st' => LQ X.K Z (.ok (qs ++ rest) st') m0 H Q
        | _ => False
      have ck0 : CK 0 [] st1 := by
        show (match compL G' (evalC C c) (fun r' st' => evalE C ee r' st') (ps.drop 0) st1 with | .ok rest st' => LQ X.K Z (.ok ([] ++ rest) st') m0 H Q | _ => False)
        rw [List.drop_zero]
        cases hc : compL G' (evalC C c) (fun r' st' => evalE C ee r' st') ps st1 with
        | ok rest st' =>
          have h' : LQ X.K Z (compL G' (evalC C c) (fun r' st' => evalE C ee r' st') ps st1) m0 H Q := h
          rw [hc] at h'
          exact h'
        | ex x s =>
          have h' : LQ X.K Z (compL G' (evalC C c) (fun r' st' => evalE C ee r' st') ps st1) m0 H Q := h
          rw [hc] at h'
          exact h'
        | no =>
          have h' : LQ X.K Z (compL G' (evalC C c) (fun r' st' => evalE C ee r' st') ps st1) m0 H Q := h
          rw [hc] at h'
          exact h'
      refine ⟨fun i k τ H' => k = ps.length - i ∧ i ≤ ps.length ∧ (∃ u, τ = u :: fr) ∧ ∃ m st qs ys, Le X.K m1 H1 m H' ∧ AbsSt X.K H' m (acc :: Z) st ∧ H' acc = some (.lst ys) ∧ RelPs X.K H' m (acc :: Z) qs ys ∧ qs.length ≤ i ∧ CK i qs st, ⟨ps.length, by simp, Nat.zero_le _, ⟨none, rfl⟩, ?_⟩, ?_⟩
      · exact ⟨m1, st1, [], [], Le.same (same_new hacc _), as1.laid hacc _, upd_same, rfl, Nat.le_refl _, ck0⟩
      · rintro i k τ H' ⟨rfl, hi, ⟨u, rfl⟩, m, st, qs, ys, le, as, hys, rq, hql, ck⟩
        obtain ⟨w1, w2⟩ := wk m H' (acc :: Z) le (fun a ha => (List.mem_cons.mp ha).elim (fun z => .inr (by rw [z]; exact hacc)) .inl) i
        by_cases hlt : i < ps.length
        · have hip : i < ps.length := hlt
          obtain ⟨go, yl⟩ := w1 ps[i] (List.getElem?_eq_getElem hip)
          refine .inr ⟨go, fun x H2 hy => ?_⟩
          obtain ⟨sm, rx⟩ := yl x H2 hy
          have les : Le X.K m H' m H2 := Le.same sm
          replace le := le.trans les
          replace as := as.same sm
          replace hys := sm _ _ hys
          replace rq := rq.le les
          have hdrop : ps.drop i = ps[i] :: ps.drop (i + 1) := List.drop_eq_getElem_cons hip
          have ck' : (match compL G' (evalC C c) (fun r' st' => evalE C ee r' st') (ps[i] :: ps.drop (i + 1)) st with | .ok rest st' => LQ X.K Z (.ok (qs ++ rest) st') m0 H Q | _ => False) := by
            rw [← hdrop]; exact ck
          rw [compL] at ck'
          have arB := block_abs (js := js) (ar.le le1) hacc le rx
          refine ⟨acc :: Z, m, G' ps[i], st, arB, as, ?_⟩
          cases hc : evalC C c (G' ps[i]) st with
          | ex x s => rw [hc] at ck'; exact ck'.elim
          | no => rw [hc] at ck'; exact ck'.elim
          | ok b st2 =>
            rw [hc] at ck'
            simp only [bind_ok] at ck'
            intro m2 H2 le2 as2
            have hacc2 : H2 acc = some (.lst ys) := le2.keep acc _ hys (as.zm acc List.mem_cons_self)
            cases b with
            | false =>
              refine ⟨ps.length - (i + 1), by omega, rfl, hlt, ⟨some x, rfl⟩, m2, st2, qs, ys, le.trans le2, as2, hacc2, rq.le le2, by omega, ?_⟩
              exact ck'
            | true =>
              refine ⟨acc :: Z, m2, G' ps[i], st2, arB.le le2, as2, ?_⟩
              have ck2 : (match (evalE C ee (G' ps[i]) st2).bind fun y st3 => (compL G' (evalC C c) (fun r' st' => evalE C ee r' st') (ps.drop (i + 1)) st3).bind fun ys st4 => R.ok (y :: ys) st4 with | .ok rest st' => LQ X.K Z (.ok (qs ++ rest) st') m0 H Q | _ => False) := ck'
              cases he : evalE C ee (G' ps[i]) st2 with
              | ex x s => rw [he] at ck2; exact ck2.elim
              | no => rw [he] at ck2; exact ck2.elim
              | ok y st3 =>
                rw [he] at ck2
                simp only [bind_ok] at ck2
                intro m3 H3 le3 as3 v rv
                have hacc3 : H3 acc = some (.lst ys) := le3.keep acc _ hacc2 (as2.zm acc List.mem_cons_self)
                have hyl : ys.length = qs.length := rq.length
                have rq3 : RelPs X.K (upd H3 acc (.lst (ys ++ [v]))) m3 (acc :: Z) (qs ++ [y]) (ys ++ [v]) := by
                  have q1 : RelPs X.K H3 m3 (acc :: Z) (qs ++ [y]) (ys ++ [v]) := ((rq.le le2).le le3).append ⟨v, [], rfl, rv, rfl⟩
                  exact q1.congr (upd_sqT hacc3) (fun b us _ hz h => upd_rd (fun z => hz (by rw [z]; exact List.mem_cons_self)) h) (upd_frz hacc3)
                refine ⟨ys, hacc3, by rw [← line_eq]; omega, ps.length - (i + 1), by omega, rfl, hlt, ⟨some x, rfl⟩, m3, st3, qs ++ [y], ys ++ [v], ?_, as3.updZ hacc3, upd_same, rq3, by rw [List.length_append]; simp; omega, ?_⟩
                · exact Le.updN ((le.trans le2).trans le3) hacc hacc3
                · show (match compL G' (evalC C c) (fun r' st' => evalE C ee r' st') (ps.drop (i + 1)) st3 with | .ok rest st' => LQ X.K Z (.ok ((qs ++ [y]) ++ rest) st') m0 H Q | _ => False)
                  cases hr : compL G' (evalC C c) (fun r' st' => evalE C ee r' st') (ps.drop (i + 1)) st3 with
                  | ex x s => rw [hr] at ck2; exact ck2
                  | no => rw [hr] at ck2; exact ck2
                  | ok rest st4 =>
                    rw [hr] at ck2
                    show LQ X.K Z (R.ok ((qs ++ [y]) ++ rest) st4) m0 H Q
                    rw [List.append_assoc]
                    exact ck2
        · have e : i = ps.length := by omega
          subst e
          refine .inl ⟨w2 rfl, ?_⟩
          have ck' : (match compL G' (evalC C c) (fun r' st' => evalE C ee r' st') (ps.drop ps.length) st with | .ok rest st' => LQ X.K Z (.ok (qs ++ rest) st') m0 H Q | _ => False) := ck
          rw [List.drop_length, compL] at ck'
          have ck2 : LQ X.K Z (R.ok (qs ++ []) st) m0 H Q := ck'
          rw [List.append_nil] at ck2
          exact ck2 m H' acc ys (le1.trans le) (le1.untrk hacc) (as.zm acc List.mem_cons_self) hys as rq
    · exact (show False from h).elim
theorem atO_of {K : PySem.W.Frag} {H : Hp} {m : List Addr} {st : Sto} {n : Nat} {a : Addr} {i : Nat} {o : Option P} {Z : List Addr} (as : AbsSt K H m Z st) (ha : m[n]? = some a) (h : atO n st i = some o) : ∃ us, H a = some (.lst us) ∧ (o = none → us.length ≤ i) ∧ ∀ p, o = some p → ∃ v, us[i]? = some v ∧ RelP K H m Z p v := by
  unfold atO at h
  split at h
  · rename_i xs hs
    cases h
    obtain ⟨a', e, us, hu, rs⟩ := as.at_ n _ hs
    rw [ha] at e
    cases e
    refine ⟨us, hu, fun z => ?_, fun p z => rs.get z⟩
    rw [rs.length]
    exact List.getElem?_eq_none_iff.mp z
  · cases h
theorem comp_runO {e : E} {js : List Nat} {c : Option E} {ee : E} {σ : L2.St} {H : Hp} {Q : VK} (h : tL X.K Z (evalL C (.compO e js c ee)) σ H Q) :
    tComp (iList X.K (tE X.K Z (evalE C e))) (gName 0) (tTx X.K (evalC C c)) (tEx X.K (evalE C ee)) 1 js σ H Q := by
  obtain ⟨m0, r, st0, ar, as0, h⟩ := h
  unfold evalL at h
  refine ⟨m0, r, st0, ar, as0, ?_⟩
  cases hw : evalE C e r st0 with
  | ex x s => rw [hw] at h; exact (show False from h).elim
  | no => rw [hw] at h; exact (show False from h).elim
  | ok x0 st1 =>
    rw [hw] at h
    simp only [bind_ok] at h
    split at h
    · rename_i n
      intro m1 H1 le1 as1 v rv
      obtain ⟨a, ha, rfl⟩ := rv
      let G' : P → Rho := fun p => some p :: blockR js r
      let fr : L2.St := js.map fun j => (σ[j]?).join
      let CK : Nat → Nat → List P → Sto → Prop := fun k i qs st => match compO n G' (evalC C c) (fun r' st' => evalE C ee r' st') k i st with
        | .ok rest st' => LQ X.K Z (.ok (qs ++ rest) st') m0 H Q
        | _ => False
      have ck0 : CK lineN 0 [] st1 := by
        show (match compO n G' (evalC C c) (fun r' st' => evalE C ee r' st') lineN 0 st1 with | .ok rest st' => LQ X.K Z (.ok ([] ++ rest) st') m0 H Q | _ => False)
        have h' : LQ X.K Z (compO n G' (evalC C c) (fun r' st' => evalE C ee r' st') lineN 0 st1) m0 H Q := h
        cases hc : compO n G' (evalC C c) (fun r' st' => evalE C ee r' st') lineN 0 st1 with
        | ok rest st' => rw [hc] at h'; exact h'
        | ex x s => rw [hc] at h'; exact h'
        | no => rw [hc] at h'; exact h'
      have isL : ∃ us, H1 a = some (.lst us) := by
        have ck := ck0
        have ck' : (match compO n G' (evalC C c) (fun r' st' => evalE C ee r' st') (16777215 + 1) 0 st1 with | .ok rest st' => LQ X.K Z (.ok ([] ++ rest) st') m0 H Q | _ => False) := ck
        rw [compO] at ck'
        cases ho : atO n st1 0 with
        | none => rw [ho] at ck'; exact ck'.elim
        | some o => obtain ⟨us, hu, _⟩ := atO_of as1 ha ho; exact ⟨us, hu⟩
      obtain ⟨us1, hu1⟩ := isL
      refine ⟨a, rfl, ⟨us1, .inl (.inl hu1)⟩, fun acc hacc => ?_⟩
      refine ⟨fun i k τ H' => k + i = lineN ∧ (∃ u, τ = u :: fr) ∧ ∃ m st qs ys, Le X.K m1 H1 m H' ∧ AbsSt X.K H' m (acc :: Z) st ∧ H' acc = some (.lst ys) ∧ RelPs X.K H' m (acc :: Z) qs ys ∧ qs.length ≤ i ∧ CK k i qs st, ⟨lineN, rfl, ⟨none, rfl⟩, ?_⟩, ?_⟩
      · exact ⟨m1, st1, [], [], Le.same (same_new hacc _), as1.laid hacc _, upd_same, rfl, Nat.le_refl _, ck0⟩
      · rintro i k τ H' ⟨hk, ⟨u, rfl⟩, m, st, qs, ys, le, as, hys, rq, hql, ck⟩
        have ham : m[n]? = some a := by
          obtain ⟨t, et⟩ := le.pre
          rw [et, List.getElem?_append_left (List.getElem?_eq_some_iff.mp ha).1]
          exact ha
        cases k with
        | zero => exact (show False from ck).elim
        | succ k =>
          have ck' : (match compO n G' (evalC C c) (fun r' st' => evalE C ee r' st') (k + 1) i st with | .ok rest st' => LQ X.K Z (.ok (qs ++ rest) st') m0 H Q | _ => False) := ck
          rw [compO] at ck'
          cases ho : atO n st i with
          | none => rw [ho] at ck'; exact ck'.elim
          | some o =>
            rw [ho] at ck'
            obtain ⟨us, hu, q0, q1⟩ := atO_of as ham ho
            cases o with
            | none =>
              have ck2 : LQ X.K Z (R.ok (qs ++ []) st) m0 H Q := ck'
              rw [List.append_nil] at ck2
              exact .inl ⟨⟨us, .inl (.inl hu), q0 rfl⟩, ck2 m H' acc ys (le1.trans le) (le1.untrk hacc) (as.zm acc List.mem_cons_self) hys as rq⟩
            | some p =>
              obtain ⟨vx, hvx, rx⟩ := q1 p rfl
              refine .inr ⟨⟨us, vx, .inl (.inl hu), hvx⟩, fun x H2 hy => ?_⟩
              obtain ⟨rfl, hx⟩ := hy
              have hx' := hx us (.inl (.inl hu))
              rw [hvx] at hx'
              cases hx'
              simp only at ck'
              have arB := block_abs (js := js) (ar.le le1) hacc le rx
              refine ⟨acc :: Z, m, G' p, st, arB, as, ?_⟩
              cases hc : evalC C c (G' p) st with
              | ex x s => rw [hc] at ck'; exact ck'.elim
              | no => rw [hc] at ck'; exact ck'.elim
              | ok b st2 =>
                rw [hc] at ck'
                simp only [bind_ok] at ck'
                intro m2 H2 le2 as2
                have hacc2 : H2 acc = some (.lst ys) := le2.keep acc _ hys (as.zm acc List.mem_cons_self)
                cases b with
                | false => exact ⟨k, Nat.lt_succ_self k, by omega, ⟨some vx, rfl⟩, m2, st2, qs, ys, le.trans le2, as2, hacc2, rq.le le2, by omega, ck'⟩
                | true =>
                  refine ⟨acc :: Z, m2, G' p, st2, arB.le le2, as2, ?_⟩
                  have ck2 : (match (evalE C ee (G' p) st2).bind fun y st3 => (compO n G' (evalC C c) (fun r' st' => evalE C ee r' st') k (i + 1) st3).bind fun ys st4 => R.ok (y :: ys) st4 with | .ok rest st' => LQ X.K Z (.ok (qs ++ rest) st') m0 H Q | _ => False) := ck'
                  cases he : evalE C ee (G' p) st2 with
                  | ex x s => rw [he] at ck2; exact ck2.elim
                  | no => rw [he] at ck2; exact ck2.elim
                  | ok y st3 =>
                    rw [he] at ck2
                    simp only [bind_ok] at ck2
                    intro m3 H3 le3 as3 v rv
                    have hacc3 : H3 acc = some (.lst ys) := le3.keep acc _ hacc2 (as2.zm acc List.mem_cons_self)
                    have hyl : ys.length = qs.length := rq.length
                    have rq3 : RelPs X.K (upd H3 acc (.lst (ys ++ [v]))) m3 (acc :: Z) (qs ++ [y]) (ys ++ [v]) := by
                      have q1 : RelPs X.K H3 m3 (acc :: Z) (qs ++ [y]) (ys ++ [v]) := ((rq.le le2).le le3).append ⟨v, [], rfl, rv, rfl⟩
                      exact q1.congr (upd_sqT hacc3) (fun b us _ hz h => upd_rd (fun z => hz (by rw [z]; exact List.mem_cons_self)) h) (upd_frz hacc3)
                    refine ⟨ys, hacc3, by rw [← line_eq]; omega, k, Nat.lt_succ_self k, by omega, ⟨some vx, rfl⟩, m3, st3, qs ++ [y], ys ++ [v], ?_, as3.updZ hacc3, upd_same, rq3, by rw [List.length_append]; simp; omega, ?_⟩
                    · exact Le.updN ((le.trans le2).trans le3) hacc hacc3
                    · show (match compO n G' (evalC C c) (fun r' st' => evalE C ee r' st') k (i + 1) st3 with | .ok rest st' => LQ X.K Z (.ok ((qs ++ [y]) ++ rest) st') m0 H Q | _ => False)
                      cases hr : compO n G' (evalC C c) (fun r' st' => evalE C ee r' st') k (i + 1) st3 with
                      | ex x s => rw [hr] at ck2; exact ck2
                      | no => rw [hr] at ck2; exact ck2
                      | ok rest st4 =>
                        rw [hr] at ck2
                        show LQ X.K Z (R.ok ((qs ++ [y]) ++ rest) st4) m0 H Q
                        rw [List.append_assoc]
                        exact ck2
    · exact (show False from h).elim
theorem lookup_relabel_glob {env : PySem.Env} : ∀ {names : List (Str × NameKind)} {x : Str}, names.lookup x = some .globalImplicit →
    (names.map fun (n, k) => if (k == NameKind.free && env.scope.kind == .function && env.kindOf n == some .cell) then (n, NameKind.cell) else (n, k)).lookup x = some .globalImplicit
  | [], _, h => by simp at h
  | (n, k) :: r, x, h => by
    have ih := @lookup_relabel_glob env r x
    show List.lookup x ((if (k == NameKind.free && env.scope.kind == .function && env.kindOf n == some .cell) = true then (n, NameKind.cell) else (n, k)) :: _) = _
    cases hx : x == n with
    | true =>
      simp only [List.lookup_cons, hx] at h
      cases h
      rw [if_neg (by simp)]
      simp [List.lookup_cons, hx]
    | false =>
      simp only [List.lookup_cons, hx] at h
      by_cases hc : (k == NameKind.free && env.scope.kind == .function && env.kindOf n == some .cell) = true
      · rw [if_pos hc]; simp only [List.lookup_cons, hx]; exact ih h
      · rw [if_neg hc]; simp only [List.lookup_cons, hx]; exact ih h
theorem Good.bscope (T : Good X g C) {N : List Str} {js : List Nat} {sc : Scope} (h : bOkG g N js sc = true) : BScope X N 1 js sc := by
  unfold bOkG at h
  simp only [Bool.and_eq_true, decide_eq_true_eq, List.all_eq_true, Bool.or_eq_true] at h
  obtain ⟨⟨⟨h1, h2⟩, h3⟩, h4⟩ := h
  refine ⟨h1, h2, fun x hx => (h3 x hx).1.1, fun x hx hl => (h3 x hx).1.2.resolve_left fun z => z hl, fun x hx hf => T.cel _ ((h3 x hx).2.resolve_left fun z => z hf), fun i y j e1 e2 => ?_⟩
  have hi : i ∈ List.range js.length := List.mem_range.mpr (List.getElem?_eq_some_iff.mp e2).1
  have q := h4 i hi
  rw [e1, e2] at q
  rw [T.N]
  simpa using q
theorem CallOk.inner {c : List P → Sto → R P} {x : Str} {n : Nat} (h : CallOk X c x n) {pins : List (Addr × Obj)} {N : List Str} {sc : Scope} {fp : List Addr} {Cc : Addr} {s : Shared} {H : Hp} : CallOk (cxB X pins N sc fp Cc s H) c x n := ⟨h.ex⟩
theorem Good.inner (T : Good X g C) {pins : List (Addr × Obj)} {N : List Str} {js : List Nat} {sc : Scope} {fp : List Addr} {Cc : Addr} {s : Shared} {H : Hp} (hnc : ∀ x ∈ sc.names, x.2 ≠ .cell) : Good (cxB X pins N sc fp Cc s H) (g.inner N sc) C where
  N := rfl
  loc := fun x h => lookup_relabel_local h
  cel := fun x h => by
    rcases h with h | h
    · exact absurd rfl (hnc _ (PySem.mem_of_lookup h))
    · exact relabel_free h
  gl := fun x h => lookup_relabel_glob h
  calm := T.calm
  hu := T.hu
  bl := T.bl
  fn := fun k x n h => (T.fn k x n h).inner
  cs := T.cs
  tb := T.tb
end
end Y

namespace Y
open PySem L2 PySem.Spec PyProof.Rows
section
variable (C : Nat → List P → Sto → R P)
def SE (e' : E) : Prop := ∀ (X : Cx) (g : G) (e : Expr) (Z : List Addr), Good X g C → okE g e' e = true → PE X e (tE X.K Z (evalE C e')) ∧ PT X e (tT X.K Z (runT (evalE C e')))
def SEs (es : List E) : Prop := (∀ (X : Cx) (g : G) (xs : List Expr) (Z : List Addr), Good X g C → okEs g es xs = true → PA X xs (tA X.K Z (evalEs C es))) ∧
  (∀ (X : Cx) (g : G) (xs : List Expr) (Z : List Addr) (pos : Pos), Good X g C → okEs g es xs = true → PE X (.BoolOp .And xs pos) (tE X.K Z (evalA C es)) ∧ PW X (.BoolOp .And xs pos) (tT X.K Z (runT (evalA C es)))) ∧
  (∀ (X : Cx) (g : G) (xs : List Expr) (Z : List Addr) (pos : Pos), Good X g C → okEs g es xs = true → PE X (.BoolOp .Or xs pos) (tE X.K Z (evalO C es)) ∧ PW X (.BoolOp .Or xs pos) (tT X.K Z (runT (evalO C es))))
def SM (o : Option E) : Prop := (∀ (X : Cx) (g : G) (x : Option Expr) (Z : List Addr), Good X g C → okM g o x = true → PO X x (tO X.K Z (evalM C o))) ∧
  (∀ (X : Cx) (g : G) (ifs : List Expr), Good X g C → okC g o ifs = true → PTs X ifs (tTx X.K (evalC C o)))
def SL (l : L) : Prop := ∀ (X : Cx) (g : G) (e : Expr) (Z : List Addr), Good X g C → okL g l e = true → PE X e (tL X.K Z (evalL C l))
def SW (w : W) : Prop := ∀ (X : Cx) (g : G) (e tg : Expr) (Z : List Addr), Good X g C → okW g w e = true → (isEnum w = true → ∃ es k p, tg = .Tuple es k p) → PI X tg e (tW X.K Z (evalW C w))
variable {C}
theorem absurd_no {X : Cx} {e : Expr} {Z : List Addr} {d : Rho → Sto → R P} (h : ∀ r st, d r st = .no) : PE X e (tE X.K Z d) ∧ PT X e (tT X.K Z (runT d)) := by
  constructor
  · rintro pins s σ H Q I ⟨m, r, st, _, _, q⟩
    rw [h] at q
    exact (show False from q).elim
  · rintro pins s σ H Q I ⟨m, r, st, _, _, q⟩
    unfold runT at q
    rw [h] at q
    exact (show False from q).elim
theorem pw_no {X : Cx} {e : Expr} {Z : List Addr} {d : Rho → Sto → R P} (h : ∀ r st, d r st = .no) : PW X e (tT X.K Z (runT d)) := by
  rintro wh pins s σ H Q I ⟨m, r, st, _, _, q⟩
  unfold runT at q
  rw [h] at q
  exact (show False from q).elim
theorem both {X : Cx} {e : Expr} {Z : List Addr} {d : Rho → Sto → R P} (h : PE X e (tE X.K Z d)) (he : ∀ whole, isTrue e X.env whole = (do let v ← whole; standAt e.pos; holding [v] (truthy v))) : PE X e (tE X.K Z d) ∧ PT X e (tT X.K Z (runT d)) := ⟨h, s_truth h he⟩
mutual
theorem soundE : ∀ e' : E, SE C e'
  | .var i => fun X g e Z T h => by
    rw [okE] at h
    dsimp only at h
    split at h
    · simp only [Bool.and_eq_true, decide_eq_true_eq] at h
      exact both (s_var T h.1.1 h.1.2 h.2) fun _ => rfl
    · cases h
  | .cst d => fun X g e Z T h => by
    rw [okE] at h
    dsimp only at h
    split at h
    · split at h
      · have := of_decide_eq_true h
        subst this
        exact both (s_cst pe_int fun _ _ => rfl) fun _ => rfl
      · have := of_decide_eq_true h
        subst this
        exact both (s_cst pe_bl fun _ _ => rfl) fun _ => rfl
      · have := of_decide_eq_true h
        subst this
        exact both (s_cst pe_non fun _ _ => rfl) fun _ => rfl
      · have := of_decide_eq_true h
        subst this
        exact both (s_cst pe_str fun _ _ => rfl) fun _ => rfl
      · cases h
    · split at h
      · simp only [Bool.and_eq_true, decide_eq_true_eq] at h
        obtain ⟨t, ht⟩ := T.cs _ _ h.1.2
        exact both (s_cst (pe_glob (v := .int _) (T.glob h.1.1) ht ⟨t, rfl⟩ (pn h.2).1) fun _ _ => rfl) fun _ => rfl
      · cases h
    · cases h
  | .op o a b => fun X g e Z T h => by
    rw [okE] at h
    dsimp only at h
    split at h
    · simp only [Bool.and_eq_true, decide_eq_true_eq] at h
      obtain ⟨⟨rfl, h1⟩, h2⟩ := h
      exact both (s_op (soundE a X g _ Z T h1).1 (soundE b X g _ Z T h2).1) fun _ => rfl
    · cases h
  | .neg a => fun X g e Z T h => by
    rw [okE] at h
    dsimp only at h
    split at h
    · simp only [Bool.and_eq_true, decide_eq_true_eq] at h
      obtain ⟨rfl, h⟩ := h
      exact both (s_neg (soundE a X g _ Z T h).1) fun _ => rfl
    · cases h
  | .not a => fun X g e Z T h => by
    rw [okE] at h
    dsimp only at h
    split at h
    · simp only [Bool.and_eq_true, decide_eq_true_eq] at h
      obtain ⟨rfl, h⟩ := h
      exact ⟨s_not (soundE a X g _ Z T h).1, s_notT (soundE a X g _ Z T h).2⟩
    · cases h
  | .cmp o a b => fun X g e Z T h => by
    rw [okE] at h
    dsimp only at h
    split at h
    · split at h
      · split at h
        · simp only [Bool.and_eq_true, decide_eq_true_eq, Bool.not_eq_true', List.isEmpty_iff] at h
          obtain ⟨⟨⟨⟨⟨rfl, rfl⟩, rfl⟩, h1⟩, h2⟩, h3⟩ := h
          exact ⟨s_cmp T (soundE a X g _ Z T h1).1 (soundE b X g _ Z T h2).1 h3, s_cmpT T (soundE a X g _ Z T h1).1 (soundE b X g _ Z T h2).1 h3⟩
        · cases h
      · cases h
    · cases h
  | .chain o o' a b c => fun X g e Z T h => by
    rw [okE] at h
    dsimp only at h
    split at h
    · split at h
      · split at h
        · split at h
          · split at h
            · simp only [Bool.and_eq_true, decide_eq_true_eq, Bool.not_eq_true', List.isEmpty_iff] at h
              obtain ⟨⟨⟨⟨⟨⟨⟨⟨rfl, rfl⟩, rfl⟩, rfl⟩, h1⟩, h2⟩, h3⟩, h4⟩, h5⟩ := h
              exact ⟨s_chain T (soundE a X g _ Z T h1).1 (soundE b X g _ Z T h2).1 (soundE c X g _ Z T h3).1 h4 h5, s_chainT T (soundE a X g _ Z T h1).1 (soundE b X g _ Z T h2).1 (soundE c X g _ Z T h3).1 h4 h5⟩
            · cases h
          · cases h
        · cases h
      · cases h
    · cases h
  | .and es => fun X g e Z T h => by
    rw [okE] at h
    dsimp only at h
    split at h
    · rename_i op xs pos
      simp only [Bool.and_eq_true, decide_eq_true_eq] at h
      obtain ⟨rfl, h⟩ := h
      obtain ⟨h1, h2⟩ := (soundEs es).2.1 X g xs Z pos T h
      have e1 : evalE C (.and es) = evalA C es := by funext r st; rw [evalE]
      rw [e1]
      exact ⟨h1, h2.pt⟩
    · cases h
  | .or es => fun X g e Z T h => by
    rw [okE] at h
    dsimp only at h
    split at h
    · rename_i op xs pos
      simp only [Bool.and_eq_true, decide_eq_true_eq] at h
      obtain ⟨rfl, h⟩ := h
      obtain ⟨h1, h2⟩ := (soundEs es).2.2 X g xs Z pos T h
      have e1 : evalE C (.or es) = evalO C es := by funext r st; rw [evalE]
      rw [e1]
      exact ⟨h1, h2.pt⟩
    · cases h
  | .ite c a b => fun X g e Z T h => by
    rw [okE] at h
    dsimp only at h
    split at h
    · simp only [Bool.and_eq_true] at h
      have h1 := soundE c X g _ Z T h.1.1
      have h2 := soundE a X g _ Z T h.1.2
      have h3 := soundE b X g _ Z T h.2
      exact ⟨s_ite h1.2 h2.1 h3.1, s_iteT h1.2 h2.2 h3.2⟩
    · cases h
  | .tup es => fun X g e Z T h => by
    rw [okE] at h
    dsimp only at h
    split at h
    · exact both (s_tup ((soundEs es).1 X g _ Z T h)) fun _ => rfl
    · cases h
  | .lst mu l => fun X g e Z T h => by
    rw [okE] at h
    dsimp only at h
    have h1 := s_lst (mu := mu) (soundL l X g e Z T h)
    refine both h1 fun whole => ?_
    cases l with
    | disp es =>
      rw [okL] at h
      dsimp only at h
      split at h
      · rfl
      · cases h
    | comp w ts js c e =>
      rw [okL] at h
      dsimp only at h
      split at h
      · rfl
      · cases h
    | list e =>
      rw [okL] at h
      dsimp only at h
      split at h
      · rfl
      · cases h
    | rng es =>
      rw [okL] at h
      dsimp only at h
      split at h
      · rfl
      · cases h
    | zip a b =>
      rw [okL] at h
      dsimp only at h
      split at h
      · rfl
      · cases h
    | compO e js c ee =>
      rw [okL] at h
      dsimp only at h
      split at h
      · rfl
      · cases h
  | .call f es => fun X g e Z T h => by
    rw [okE] at h
    dsimp only at h
    split at h
    · split at h
      · simp only [Bool.and_eq_true, decide_eq_true_eq, List.isEmpty_iff] at h
        obtain ⟨⟨⟨⟨rfl, h1⟩, h2⟩, h3⟩, h4⟩ := h
        exact both (s_call T h1 h2 h3 (okEs_stars h4) (okEs_length h4) ((soundEs es).1 X g _ Z T h4)) fun _ => rfl
      · cases h
    · cases h
  | .isi a t => fun X g e Z T h => by
    rw [okE] at h
    dsimp only at h
    split at h
    · split at h
      · split at h
        · split at h
          · split at h
            · simp only [Bool.and_eq_true, decide_eq_true_eq, List.isEmpty_iff] at h
              obtain ⟨⟨⟨⟨⟨⟨⟨⟨rfl, rfl⟩, rfl⟩, h1⟩, rfl⟩, h2⟩, h3⟩, h4⟩, h5⟩ := h
              exact both (s_isi T h1 h3 h2 (soundE a X g _ Z T h4).1 h5) fun _ => rfl
            · cases h
          · cases h
        · cases h
      · cases h
    · cases h
  | .bf f es => fun X g e Z T h => by
    rw [okE] at h
    dsimp only at h
    split at h
    · rename_i f0 xs kws pos
      split at h
      · simp only [Bool.and_eq_true, decide_eq_true_eq, Bool.not_eq_true', List.isEmpty_iff] at h
        obtain ⟨⟨⟨⟨rfl, rfl⟩, h1⟩, h2⟩, h3⟩ := h
        cases xs with
        | nil => cases h3
        | cons x xs => exact both (s_bf T h1 (okEs_stars h2) ((soundEs es).1 X g _ Z T h2)) fun _ => rfl
      · cases h
    · cases h
  | .ix a b => fun X g e Z T h => by
    rw [okE] at h
    dsimp only at h
    split at h
    · simp only [Bool.and_eq_true, Bool.not_eq_true'] at h
      exact both (s_ix T.hu (soundE a X g _ Z T h.1.1).1 (soundE b X g _ Z T h.1.2).1 h.2) fun _ => rfl
    · cases h
  | .slice a lo hi => fun X g e Z T h => by
    rw [okE] at h
    dsimp only at h
    split at h
    · split at h
      · simp only [Bool.and_eq_true, Option.isNone_iff_eq_none] at h
        obtain ⟨⟨⟨rfl, h1⟩, h2⟩, h3⟩ := h
        exact both (s_slice (soundE a X g _ Z T h1).1 ((soundM lo).1 X g _ Z T h2) ((soundM hi).1 X g _ Z T h3)) fun _ => rfl
      · cases h
    · cases h
  | .rev a => fun X g e Z T h => by
    rw [okE] at h
    dsimp only at h
    split at h
    · split at h
      · split at h
        · simp only [Bool.and_eq_true, Option.isNone_iff_eq_none] at h
          obtain ⟨⟨⟨rfl, rfl⟩, h1⟩, h2⟩ := h
          obtain ⟨k, p1, p2, rfl⟩ := isM1_of h1
          exact both (s_rev (soundE a X g _ Z T h2).1) fun _ => rfl
        · cases h
      · cases h
    · cases h
  | .join a b => fun X g e Z T h => by
    rw [okE] at h
    cases h
  | .tget t a => fun X g e Z T h => by
    rw [okE] at h
    dsimp only at h
    split at h
    · split at h
      · split at h
        · split at h
          · simp only [Bool.and_eq_true, decide_eq_true_eq, List.isEmpty_iff] at h
            obtain ⟨⟨⟨⟨⟨⟨⟨⟨rfl, rfl⟩, h0⟩, rfl⟩, h1⟩, h2⟩, h3⟩, h4⟩, h5⟩ := h
            exact both (s_tget T h0 h1 h2 h3 (soundE a X g _ Z T h4).1 h5) fun _ => rfl
          · cases h
        · cases h
      · cases h
    · cases h
  | .dnew t => fun X g e Z T h => by
    rw [okE] at h
    dsimp only at h
    split at h
    · simp only [Bool.and_eq_true, List.isEmpty_iff] at h
      obtain ⟨rfl, rfl⟩ := h
      exact both s_dnew fun _ => rfl
    · cases h
  | .dget a b => fun X g e Z T h => by
    rw [okE] at h
    dsimp only at h
    split at h
    · split at h
      · split at h
        · simp only [Bool.and_eq_true, decide_eq_true_eq, List.isEmpty_iff, Bool.not_eq_true'] at h
          obtain ⟨⟨⟨⟨⟨⟨⟨rfl, rfl⟩, h0⟩, rfl⟩, h1⟩, h2⟩, h3⟩, h4⟩ := h
          exact both (s_dget T.hu h0 h1 (soundE a X g _ Z T h2).1 (soundE b X g _ Z T h3).1 h4) fun _ => rfl
        · cases h
      · cases h
    · cases h
  | .dget2 a b c => fun X g e Z T h => by
    rw [okE] at h
    dsimp only at h
    split at h
    · split at h
      · split at h
        · split at h
          · simp only [Bool.and_eq_true, decide_eq_true_eq, List.isEmpty_iff, Bool.not_eq_true'] at h
            obtain ⟨⟨⟨⟨⟨⟨⟨⟨⟨rfl, rfl⟩, h0⟩, rfl⟩, h1⟩, h2⟩, h3⟩, h4⟩, h5⟩, h6⟩ := h
            exact both (s_dget2 T.hu h0 h1 (soundE a X g _ Z T h2).1 (soundE b X g _ Z T h3).1 h4 (soundE c X g _ Z T h5).1 h6) fun _ => rfl
          · cases h
        · cases h
      · cases h
    · cases h
  | .index a b => fun X g e Z T h => by
    rw [okE] at h
    dsimp only at h
    split at h
    · split at h
      · split at h
        · simp only [Bool.and_eq_true, decide_eq_true_eq, List.isEmpty_iff, Bool.not_eq_true'] at h
          obtain ⟨⟨⟨⟨⟨⟨⟨rfl, rfl⟩, h0⟩, rfl⟩, h1⟩, h2⟩, h3⟩, h4⟩ := h
          exact both (s_index h0 h1 (soundE a X g _ Z T h2).1 (soundE b X g _ Z T h3).1 h4) fun _ => rfl
        · cases h
      · cases h
    · cases h
theorem soundEs : ∀ es : List E, SEs C es
  | [] => ⟨fun X g xs Z T h => by rw [okEs_nil h]; exact s_nil, fun X g xs Z pos T h => by
      exact ⟨(absurd_no fun r st => by rw [evalA]).1, pw_no fun r st => by rw [evalA]⟩, fun X g xs Z pos T h => ⟨(absurd_no fun r st => by rw [evalO]).1, pw_no fun r st => by rw [evalO]⟩⟩
  | a :: as' => by
    have ih := soundEs as'
    have ia := soundE a
    refine ⟨fun X g xs Z T h => ?_, fun X g xs Z pos T h => ?_, fun X g xs Z pos T h => ?_⟩
    · obtain ⟨x, ys, rfl, h1, h2, h3⟩ := okEs_cons h
      exact s_cons (ia X g x Z T h1).1 (ih.1 X g ys Z T h3) h2
    · obtain ⟨x, ys, rfl, h1, h2, h3⟩ := okEs_cons h
      cases as' with
      | nil =>
        rw [okEs_nil h3]
        exact ⟨s_and1 (ia X g x Z T h1).1, s_and1T (ia X g x Z T h1).2⟩
      | cons b bs =>
        obtain ⟨y, zs, rfl, _, _, _⟩ := okEs_cons h3
        obtain ⟨i1, i2⟩ := ih.2.1 X g (y :: zs) Z pos T h3
        exact ⟨s_and2 (ia X g x Z T h1).1 i1, s_and2T (ia X g x Z T h1).2 i2⟩
    · obtain ⟨x, ys, rfl, h1, h2, h3⟩ := okEs_cons h
      cases as' with
      | nil =>
        rw [okEs_nil h3]
        exact ⟨s_or1 (ia X g x Z T h1).1, s_or1T (ia X g x Z T h1).2⟩
      | cons b bs =>
        obtain ⟨y, zs, rfl, _, _, _⟩ := okEs_cons h3
        obtain ⟨i1, i2⟩ := ih.2.2 X g (y :: zs) Z pos T h3
        exact ⟨s_or2 (ia X g x Z T h1).1 i1, s_or2T (ia X g x Z T h1).2 i2⟩
theorem soundM : ∀ o : Option E, SM C o
  | none => ⟨fun X g x Z T h => by
      rw [okM] at h
      have : x = none := by simpa using h
      rw [this]
      exact s_pnone, fun X g ifs T h => by
      rw [okC] at h
      have : ifs = [] := by simpa using h
      rw [this]
      exact s_ctests0⟩
  | some a => by
    have ia := soundE a
    refine ⟨fun X g x Z T h => ?_, fun X g ifs T h => ?_⟩
    · rw [okM] at h
      dsimp only at h
      split at h
      · exact s_psome (ia X g _ Z T h).1
      · cases h
    · rw [okC] at h
      dsimp only at h
      split at h
      · simp only [Bool.and_eq_true, List.isEmpty_iff] at h
        obtain ⟨rfl, h⟩ := h
        exact s_ctests1 fun Z => (ia X g _ Z T h).2
      · cases h
theorem soundL : ∀ l : L, SL C l
  | .disp es => fun X g e Z T h => by
    rw [okL] at h
    dsimp only at h
    split at h
    · exact s_disp ((soundEs es).1 X g _ Z T h)
    · cases h
  | .comp w ts js c ee => fun X g e Z T h => by
    rw [okL] at h
    dsimp only at h
    split at h
    · rename_i elt gens sc pos'
      split at h
      · rename_i ge r
        split at h
        rename_i tg iter ifs a
        split at h
        · rename_i x pos
          simp only [Bool.and_eq_true, decide_eq_true_eq, Bool.not_eq_true', List.isEmpty_iff] at h
          obtain ⟨⟨⟨⟨⟨⟨⟨⟨⟨⟨rfl, rfl⟩, rfl⟩, h1⟩, hen⟩, h2⟩, h3⟩, h4⟩, h5⟩, h6⟩, h7⟩ := h
          have B := T.bscope h2
          have T' : ∀ pins fp Cc s H, Good (cxB X pins (compN g x js) sc fp Cc s H) (g.inner (compN g x js) sc) C := fun pins fp Cc s H => T.inner (js := js) B.nocell
          refine PE.imp (pe_comp T.calm B (soundW w X g iter (.Name x pos) Z T h1 (fun z => by rw [hen] at z; cases z)) (fun pins fp Cc s H => pg_name (i := 0) h4 rfl (.inl ((T' pins fp Cc s H).loc x h3)) (.inr ((T' pins fp Cc s H).loc x h3)))
            (fun pins fp Cc s H => (soundM c).2 _ _ _ (T' pins fp Cc s H) h5) (fun pins fp Cc s H => s_cx fun Z => (soundE ee _ _ _ Z (T' pins fp Cc s H) h6).1) (fun y => ?_)) fun σ H Q q => comp_run q
          cases iter <;> first
            | rfl
            | exact absurd (show true = false from h7) Bool.false_ne_true.symm
        · cases h
      · cases h
    · cases h
  | .list a => fun X g e Z T h => by
    rw [okL] at h
    dsimp only at h
    split at h
    · split at h
      · split at h
        · simp only [Bool.and_eq_true, decide_eq_true_eq, List.isEmpty_iff] at h
          obtain ⟨⟨⟨⟨⟨rfl, rfl⟩, rfl⟩, h1⟩, h2⟩, h3⟩ := h
          exact s_list T h1 (soundE a X g _ Z T h2).1 h3
        · cases h
      · cases h
    · cases h
  | .rng es => fun X g e Z T h => by
    rw [okL] at h
    dsimp only at h
    split at h
    · split at h
      · split at h
        · split at h
          · split at h
            · simp only [Bool.and_eq_true, decide_eq_true_eq, List.isEmpty_iff] at h
              obtain ⟨⟨⟨⟨⟨⟨⟨rfl, rfl⟩, rfl⟩, rfl⟩, h1⟩, rfl⟩, h2⟩, h3⟩ := h
              exact s_lrng T h2 h1 h3 ((soundEs es).1 X g _ Z T h3)
            · cases h
          · cases h
        · cases h
      · cases h
    · cases h
  | .zip a b => fun X g e Z T h => by
    rw [okL] at h
    dsimp only at h
    split at h
    · split at h
      · split at h
        · split at h
          · split at h
            · split at h
              · split at h
                · simp only [Bool.and_eq_true, decide_eq_true_eq, List.isEmpty_iff] at h
                  obtain ⟨⟨⟨⟨⟨⟨⟨⟨⟨⟨⟨rfl, rfl⟩, rfl⟩, rfl⟩, rfl⟩, h1⟩, rfl⟩, h2⟩, h3⟩, h4⟩, h5⟩, h6⟩ := h
                  exact s_lzip T h2 h1 (soundE a X g _ Z T h3).1 h4 (soundE b X g _ Z T h5).1 h6
                · cases h
              · cases h
            · cases h
          · cases h
        · cases h
      · cases h
    · cases h
  | .compO a js c ee => fun X g e Z T h => by
    rw [okL] at h
    dsimp only at h
    split at h
    · rename_i elt gens sc pos'
      split at h
      · rename_i ge r
        split at h
        rename_i tg iter ifs a
        split at h
        · rename_i x pos
          simp only [Bool.and_eq_true, decide_eq_true_eq, Bool.not_eq_true', List.isEmpty_iff] at h
          obtain ⟨⟨⟨⟨⟨⟨⟨⟨rfl, rfl⟩, h1⟩, h2⟩, h3⟩, h4⟩, h5⟩, h6⟩, h7⟩ := h
          have B := T.bscope h2
          have T' : ∀ pins fp Cc s H, Good (cxB X pins (compN g x js) sc fp Cc s H) (g.inner (compN g x js) sc) C := fun pins fp Cc s H => T.inner (js := js) B.nocell
          refine PE.imp (pe_comp T.calm B (pi_list (soundE a X g iter Z T h1).1) (fun pins fp Cc s H => pg_name (i := 0) h4 rfl (.inl ((T' pins fp Cc s H).loc x h3)) (.inr ((T' pins fp Cc s H).loc x h3)))
            (fun pins fp Cc s H => (soundM c).2 _ _ _ (T' pins fp Cc s H) h5) (fun pins fp Cc s H => s_cx fun Z => (soundE ee _ _ _ Z (T' pins fp Cc s H) h6).1) (fun y => ?_)) fun σ H Q q => comp_runO q
          cases iter <;> first
            | rfl
            | exact absurd (show true = false from h7) Bool.false_ne_true.symm
        · cases h
      · cases h
    · cases h
theorem soundW : ∀ w : W, SW C w
  | .ex a => fun X g e tg Z T h _ => by
    rw [okW] at h
    dsimp only at h
    rw [Bool.and_eq_true] at h
    exact s_wex (soundE a X g e Z T h.1).1
  | .rng es => fun X g e tg Z T h _ => by
    rw [okW] at h
    dsimp only at h
    split at h
    · split at h
      · simp only [Bool.and_eq_true, decide_eq_true_eq, List.isEmpty_iff] at h
        obtain ⟨⟨⟨rfl, rfl⟩, h1⟩, h2⟩ := h
        exact s_wrng T h1 h2 ((soundEs es).1 X g _ Z T h2)
      · cases h
    · cases h
  | .enum a => fun X g e tg Z T h ht => by
    obtain ⟨es, k, p, rfl⟩ := ht rfl
    rw [okW] at h
    dsimp only at h
    split at h
    · split at h
      · split at h
        · simp only [Bool.and_eq_true, decide_eq_true_eq, List.isEmpty_iff] at h
          obtain ⟨⟨⟨⟨⟨rfl, rfl⟩, rfl⟩, h1⟩, h2⟩, h3⟩ := h
          exact s_wenum T h1 (soundE a X g _ Z T h2).1 h3
        · cases h
      · cases h
    · cases h
  | .zip a b => fun X g e tg Z T h ht => by
    obtain ⟨es, k, p, rfl⟩ := ht rfl
    rw [okW] at h
    dsimp only at h
    split at h
    · split at h
      · split at h
        · split at h
          · simp only [Bool.and_eq_true, decide_eq_true_eq, List.isEmpty_iff] at h
            obtain ⟨⟨⟨⟨⟨⟨⟨rfl, rfl⟩, rfl⟩, h1⟩, h2⟩, h3⟩, h4⟩, h5⟩ := h
            exact s_wzip T h1 (soundE a X g _ Z T h2).1 h3 (soundE b X g _ Z T h4).1 h5
          · cases h
        · cases h
      · cases h
    · cases h
end
end
end Y

namespace Y
open PySem L2 PySem.Spec PyProof.Rows
def locB (g : G) (x : Str) : Bool := decide (g.names.lookup x = some .local) || decide (g.names.lookup x = some .cell)
def okT (g : G) (t : Tg) (e : Expr) : Bool := match t with
  | .nm i => match e with
    | .Name x _ => decide (g.N[i]? = some x) && locB g x
    | _ => false
  | .tup _ => false
  | .two i j => match e with
    | .Tuple es _ _ => match es with
      | a :: r => match a with
        | .Name x _ => match r with
          | b :: r' => match b with
            | .Name y _ => r'.isEmpty && decide (g.N[i]? = some x) && locB g x && decide (g.N[j]? = some y) && locB g y
            | _ => false
          | [] => false
        | _ => false
      | [] => false
    | _ => false
def isTwo : Tg → Bool
  | .two _ _ => true
  | _ => false
def isComp' : Expr → Bool
  | .SetComp _ _ _ _ => true
  | .DictComp _ _ _ _ _ => true
  | _ => false
mutual
def okS (g : G) : S → Stmt → Bool
  | .ret e => fun s => match s with
    | .Return v _ => match v with
      | some x => okE g e x
      | none => false
    | _ => false
  | .retN => fun s => match s with
    | .Return v _ => v.isNone
    | _ => false
  | .set i e => fun s => match s with
    | .Assign ts v _ => match ts with
      | t :: r => match t with
        | .Name x _ => r.isEmpty && decide (g.N[i]? = some x) && locB g x && okE g e v && !isComp' v
        | _ => false
      | [] => false
    | _ => false
  | .ifs c a b => fun s => match s with
    | .If x ys zs _ => okE g c x && okSs g a ys && okSs g b zs
    | _ => false
  | .for_ t w b => fun s => match s with
    | .For tg iter body orelse _ => orelse.isEmpty && okT g t tg && okW g w iter && okSs g b body && !isSetD iter && (!isEnum w || isTwo t)
    | _ => false
  | .forO t e b => fun s => match s with
    | .For tg iter body orelse _ => orelse.isEmpty && okT g t tg && okE g e iter && okSs g b body && !isSetD iter && !isTwo t
    | _ => false
  | .while_ c b => fun s => match s with
    | .While x body orelse _ => orelse.isEmpty && okE g c x && okSs g b body
    | _ => false
  | .expr e => fun s => match s with
    | .Expr x _ => okE g e x && !isComp x
    | _ => false
  | .app a e => fun s => match s with
    | .Expr c _ => match c with
      | .Call f0 xs kws cp => match f0 with
        | .Attribute o n ap => match xs with
          | x :: r => r.isEmpty && kws.isEmpty && (ap.endLine == cp.line) && decide (n = "append") && !isCall o && okE g a o && okE g e x && notStar x
          | [] => false
        | _ => false
      | _ => false
    | _ => false
  | .put a i e => fun s => match s with
    | .Assign ts v _ => match ts with
      | t :: r => match t with
        | .Subscript o k _ => r.isEmpty && okE g a o && okE g i k && okE g e v && !isComp v
        | _ => false
      | [] => false
    | _ => false
  | .pass => fun s => match s with
    | .Pass _ => true
    | .Expr x _ => match x with
      | .Constant k _ _ => match k with
        | .str _ => true
        | _ => false
      | _ => false
    | _ => false
  | .brk => fun s => match s with
    | .Break _ => true
    | _ => false
  | .cont => fun s => match s with
    | .Continue _ => true
    | _ => false
def okSs (g : G) : List S → List Stmt → Bool
  | [] => fun l => l.isEmpty
  | s :: ss => fun l => match l with
    | x :: xs => okS g s x && okSs g ss xs
    | [] => false
end
structure GoodS (X : Cx) (g : G) (C : Nat → List P → Sto → R P) : Prop extends Good X g C where
  cell : ∀ x, g.names.lookup x = some .cell → X.env.scope.names.lookup x = some .cell
  nd : g.N.Nodup
  fnA : ∀ x, X.fn x = true
  own : PassesOwn (model X.prog X.w) X.A X.env X.xe
def tS (K : PySem.W.Frag) (Z : List Addr) (d : Rho → Sto → R Fl) : TS := fun D σ H => ∃ m r st, AbsR K H m Z r σ ∧ AbsSt K H m Z st ∧ Ok K Z (d r st) m H (FlQ K Z D)
section
variable {X : Cx} {g : G} {C : Nat → List P → Sto → R P} {Z : List Addr}
theorem PS.imp {st : Stmt} {t t' : TS} (h : PS X st t) (i : ∀ D σ H, t' D σ H → t D σ H) : PS X st t' := fun pins s σ H D I q => h pins s σ H D I (i D σ H q)
theorem PSs.imp {st : List Stmt} {t t' : TS} (h : PSs X st t) (i : ∀ D σ H, t' D σ H → t D σ H) : PSs X st t' := fun pins s σ H D I q => h pins s σ H D I (i D σ H q)
theorem GoodS.locV (T : GoodS X g C) {x : Str} (h : locB g x = true) : Loc X.env.scope x := by
  unfold locB at h
  simp only [Bool.or_eq_true, decide_eq_true_eq] at h
  rcases h with h | h
  · exact .inl (T.loc x h)
  · exact .inr (T.cell x h)
theorem AbsR.set {K : PySem.W.Frag} {H : Hp} {m : List Addr} {r : Rho} {σ : L2.St} {i : Nat} {p : P} {v : V} (A : AbsR K H m Z r σ) (rv : RelP K H m Z p v) : AbsR K H m Z (r.set i (some p)) (σ.set i (some v)) := by
  refine ⟨by rw [List.length_set, List.length_set]; exact A.len, fun j q h => ?_⟩
  by_cases hj : i = j
  · subst hj
    have hi : i < r.length := by
      have := (List.getElem?_eq_some_iff.mp h).1
      rwa [List.length_set] at this
    rw [List.getElem?_set_self hi] at h
    cases h
    exact ⟨v, by rw [List.getElem?_set_self (by rw [← A.len]; exact hi)], rv⟩
  · rw [List.getElem?_set_ne hj] at h
    obtain ⟨w', e, r'⟩ := A.at_ j q h
    exact ⟨w', by rw [List.getElem?_set_ne hj]; exact e, r'⟩
theorem s_ret {x : Expr} {e : E} {pos : Pos} (h : PE X x (tE X.K Z (evalE C e))) : PS X (.Return (some x) pos) (tS X.K Z (execS C (.ret e))) := by
  refine PS.imp (ps_ret h) ?_
  rintro D σ H ⟨m, r, st, ar, as, h⟩
  unfold execS at h
  exact ⟨m, r, st, ar, as, (Ok.bind h).mono fun p st1 m1 H1 le1 as1 h1 => Ok.here h1 as1⟩
theorem s_retN {pos : Pos} : PS X (.Return none pos) (tS X.K Z (execS C .retN)) := by
  refine PS.imp ps_retN ?_
  rintro D σ H ⟨m, r, st, ar, as, h⟩
  unfold execS at h
  exact Ok.here h as .non rfl
theorem notComp {x : Expr} {t : Option Expr} {line : Nat} {env : PySem.Env} (h : isComp x = false) : swapsWith x t line env = pure false := by
  cases x <;> first
    | rfl
    | exact absurd (show true = false from h) Bool.false_ne_true.symm
theorem s_set (T : GoodS X g C) {x : Str} {v : Expr} {e : E} {i : Nat} {p pos : Pos} (hi : g.N[i]? = some x) (hl : locB g x = true) (hc : isComp v = false) (h : PE X v (tE X.K Z (evalE C e))) : PS X (.Assign [.Name x p] v pos) (tS X.K Z (execS C (.set i e))) := by
  refine PS.imp (ps_set (i := i) (by rw [T.N]; exact T.nd) (by rw [T.N]; exact hi) (T.locV hl) h (notComp hc) (.inl (T.fnA x))) ?_
  rintro D σ H ⟨m, r, st, ar, as, h⟩
  unfold execS at h
  refine ⟨m, r, st, ar, as, (Ok.bind h).mono fun q st1 m1 H1 le1 as1 h1 v rv => ?_⟩
  exact Ok.here h1 as1 (σ.set i (some v)) ((ar.le le1).set rv)
theorem okE_comp {e : E} {elt : Expr} {gens : List Comprehension} {sc : Scope} {pos : Pos} (h : okE g e (.ListComp elt gens sc pos) = true) : (∃ mu w ts js c ee, e = .lst mu (.comp w ts js c ee)) ∨ ∃ mu a js c ee, e = .lst mu (.compO a js c ee) := by
  cases e with
  | lst mu l =>
    cases l with
    | comp w ts js c ee => exact .inl ⟨mu, w, ts, js, c, ee, rfl⟩
    | compO a js c ee => exact .inr ⟨mu, a, js, c, ee, rfl⟩
    | _ => rw [okE] at h; dsimp only at h; rw [okL] at h; dsimp only at h; cases h
  | _ => rw [okE] at h; dsimp only at h; cases h
theorem swap_is {x : Str} {p : Pos} {elt : Expr} {gens : List Comprehension} {sc : Scope} {pos : Pos} {line : Nat} {env : PySem.Env} (hk : env.scope.kind = .function) :
    swapsWith (.ListComp elt gens sc pos) (some (.Name x p)) line env = pure (decide (env.scope.names.lookup x = some .local) && (p.line == pos.line) && !(sc.names.any fun q => q.1 == x && (q.2 == .local || q.2 == .cell))) := by
  unfold swapsWith
  dsimp only
  have h1 : env.blockKind = .function := by unfold PySem.Env.blockKind; rw [hk]; rfl
  have h2 : (env.kindOf x == some .local) = decide (env.scope.names.lookup x = some .local) := by
    unfold PySem.Env.kindOf
    by_cases h : env.scope.names.lookup x = some .local
    · rw [h]; rfl
    · rw [decide_eq_false h]; exact beq_eq_false_iff_ne.mpr h
  rw [h1, h2]
  rfl
theorem set_red {i : Nat} {e : E} {D : Ends} {σ : L2.St} {H : Hp} (h : tS X.K Z (execS C (.set i e)) D σ H) : tE X.K Z (evalE C e) σ H fun v H1 => D.nx (σ.set i (some v)) H1 := by
  obtain ⟨m, r, st, ar, as, h⟩ := h
  unfold execS at h
  refine ⟨m, r, st, ar, as, (Ok.bind h).mono fun q st1 m1 H1 le1 as1 h1 v rv => ?_⟩
  exact Ok.here h1 as1 (σ.set i (some v)) ((ar.le le1).set rv)
theorem s_setAny (T : GoodS X g C) {x : Str} {v : Expr} {e : E} {i : Nat} {p pos : Pos} (hi : g.N[i]? = some x) (hl : locB g x = true) (hc : isComp' v = false) (h : okE g e v = true) : PS X (.Assign [.Name x p] v pos) (tS X.K Z (execS C (.set i e))) := by
  have he := (soundE e X g v Z T.toGood h).1
  by_cases hcc : isComp v = false
  · exact s_set T hi hl hcc he
  · cases v with
    | ListComp elt gens sc vpos =>
      intro pins s σ H D I q
      have sw := swap_is (x := x) (p := p) (elt := elt) (gens := gens) (sc := sc) (pos := vpos) (line := pos.line) I.ok.kind
      cases hb : (decide (X.env.scope.names.lookup x = some .local) && (p.line == vpos.line) && !(sc.names.any fun q => q.1 == x && (q.2 == .local || q.2 == .cell))) with
      | false =>
        rw [hb] at sw
        exact PS.imp (ps_set (i := i) (by rw [T.N]; exact T.nd) (by rw [T.N]; exact hi) (T.locV hl) he sw (.inl (T.fnA x))) (fun D σ H q => set_red q) pins s σ H D I q
      | true =>
        have sw' : X.Ok → swapsWith (.ListComp elt gens sc vpos) (some (.Name x p)) pos.line X.env = pure true := fun ok => by
          rw [swap_is ok.kind, hb]
        rcases okE_comp h with ⟨mu, w, ts, js, c, ee, rfl⟩ | ⟨mu, a, js, c, ee, rfl⟩
        · have q1 := lst_red (set_red q)
          rw [okE] at h
          dsimp only at h
          rw [okL] at h
          dsimp only at h
          split at h
          · rename_i ge r
            split at h
            rename_i tg iter ifs a
            split at h
            · rename_i y py
              simp only [Bool.and_eq_true, decide_eq_true_eq, Bool.not_eq_true', List.isEmpty_iff] at h
              obtain ⟨⟨⟨⟨⟨⟨⟨⟨⟨⟨rfl, rfl⟩, rfl⟩, h1⟩, hen⟩, h2⟩, h3⟩, h4⟩, h5⟩, h6⟩, h7⟩ := h
              have B := T.toGood.bscope h2
              have T' : ∀ pins fp Cc s H, Good (cxB X pins (compN g y js) sc fp Cc s H) (g.inner (compN g y js) sc) C := fun pins fp Cc s H => T.toGood.inner (js := js) B.nocell
              refine ps_setComp T.calm B (soundW w X g iter (.Name y py) Z T.toGood h1 (fun z => by rw [hen] at z; cases z)) (fun pins fp Cc s H => pg_name (i := 0) h4 rfl (.inl ((T' pins fp Cc s H).loc y h3)) (.inr ((T' pins fp Cc s H).loc y h3)))
                (fun pins fp Cc s H => (soundM c).2 _ _ _ (T' pins fp Cc s H) h5) (fun pins fp Cc s H => s_cx fun Z => (soundE ee _ _ _ Z (T' pins fp Cc s H) h6).1) (fun y => ?_) sw' (pg_name (i := i) (by rw [T.N]; exact T.nd) (by rw [T.N]; exact hi) (T.locV hl) (.inl (T.fnA x))) pins s σ H D I (comp_run q1)
              cases iter <;> first
                | rfl
                | exact absurd (show true = false from h7) Bool.false_ne_true.symm
            · cases h
          · cases h
        · have q1 := lst_red (set_red q)
          rw [okE] at h
          dsimp only at h
          rw [okL] at h
          dsimp only at h
          split at h
          · rename_i ge r
            split at h
            rename_i tg iter ifs a9
            split at h
            · rename_i y py
              simp only [Bool.and_eq_true, decide_eq_true_eq, Bool.not_eq_true', List.isEmpty_iff] at h
              obtain ⟨⟨⟨⟨⟨⟨⟨⟨rfl, rfl⟩, h1⟩, h2⟩, h3⟩, h4⟩, h5⟩, h6⟩, h7⟩ := h
              have B := T.toGood.bscope h2
              have T' : ∀ pins fp Cc s H, Good (cxB X pins (compN g y js) sc fp Cc s H) (g.inner (compN g y js) sc) C := fun pins fp Cc s H => T.toGood.inner (js := js) B.nocell
              refine ps_setComp T.calm B (pi_list (soundE a X g iter Z T.toGood h1).1) (fun pins fp Cc s H => pg_name (i := 0) h4 rfl (.inl ((T' pins fp Cc s H).loc y h3)) (.inr ((T' pins fp Cc s H).loc y h3)))
                (fun pins fp Cc s H => (soundM c).2 _ _ _ (T' pins fp Cc s H) h5) (fun pins fp Cc s H => s_cx fun Z => (soundE ee _ _ _ Z (T' pins fp Cc s H) h6).1) (fun y => ?_) sw' (pg_name (i := i) (by rw [T.N]; exact T.nd) (by rw [T.N]; exact hi) (T.locV hl) (.inl (T.fnA x))) pins s σ H D I (comp_runO q1)
              cases iter <;> first
                | rfl
                | exact absurd (show true = false from h7) Bool.false_ne_true.symm
            · cases h
          · cases h
    | SetComp _ _ _ _ => cases hc
    | DictComp _ _ _ _ _ => cases hc
    | _ => exact absurd rfl hcc
theorem s_expr {x : Expr} {e : E} {pos : Pos} (hc : isComp x = false) (h : PE X x (tE X.K Z (evalE C e))) : PS X (.Expr x pos) (tS X.K Z (execS C (.expr e))) := by
  refine PS.imp (ps_expr h (notComp hc)) ?_
  rintro D σ H ⟨m, r, st, ar, as, h⟩
  unfold execS at h
  refine ⟨m, r, st, ar, as, (Ok.bind h).mono fun q st1 m1 H1 le1 as1 h1 v rv => ?_⟩
  exact Ok.here h1 as1 σ (ar.le le1)
theorem RelPs.setAt {K : PySem.W.Frag} {H : Hp} {m : List Addr} {p : P} {v : V} (r : RelP K H m Z p v) : ∀ {xs : List P} {us : List V} (j : Nat), RelPs K H m Z xs us → RelPs K H m Z (xs.set j p) (us.set j v)
  | [], us, j, h => by cases (show us = [] from h); exact rfl
  | x :: xs, us, j, h => by
    obtain ⟨u, us', rfl, r1, rs⟩ := (show ∃ v vs, us = v :: vs ∧ RelP K H m Z x v ∧ RelPs K H m Z xs vs from h)
    cases j with
    | zero => exact ⟨v, us', rfl, r, rs⟩
    | succ j => exact ⟨u, us'.set j v, rfl, r1, RelPs.setAt r j rs⟩
theorem s_app {o x : Expr} {a e : E} {ap cp pos : Pos} (hl : (ap.endLine == cp.line) = true) (hc : isCall o = false) (ho : PE X o (tE X.K Z (evalE C a))) (hx : PE X x (tE X.K Z (evalE C e))) (hs : notStar x = true) :
    PS X (.Expr (.Call (.Attribute o "append" ap) [x] [] cp) pos) (tS X.K Z (execS C (.app a e))) := by
  have s1 : starEach [x] X.env = [(false, eval x X.env)] := star_of hs
  refine PS.imp (ps_expr (pe_bm PySem.F.plainAttrs_list PySem.F.slot_list_append PySem.F.type_list_append mt_append ho (s_cons hx s_nil hs) (noCall hc) (by rw [s1]; rfl) hl s1 rfl) rfl) ?_
  rintro D σ H ⟨m, r, st, ar, as, h⟩
  unfold execS at h
  refine ⟨m, r, st, ar, as, (Ok.bind h).mono fun y st1 m1 H1 le1 as1 h1 v rv => ?_⟩
  obtain ⟨its, e1, h2, hdrop⟩ := Ok.of (Ok.bind h1) as1
  clear hdrop
  obtain ⟨l, us, rfl, hq, rs⟩ := litems_at as1 e1 rv
  refine ⟨.inl ⟨rfl, us, .inl hq⟩, m1, r, st1, ar.le le1, as1, ?_⟩
  show Ok X.K Z (evalEs C [e] r st1) m1 H1 _
  unfold evalEs evalEs
  cases hr : evalE C e r st1 with
  | ex x s => rw [hr] at h2; exact (show False from h2).elim
  | no => rw [hr] at h2; exact (show False from h2).elim
  | ok w st2 =>
    rw [hr] at h2
    simp only [bind_ok] at h2 ⊢
    intro m2 H2 le2 as2 vs rvs
    obtain ⟨u, rfl, ru⟩ := rel1 rvs
    obtain ⟨st3, e2, h3, hdrop⟩ := Ok.of (Ok.bind (Ok.le h2 le2)) as2
    clear hdrop
    unfold appP at e2
    split at e2
    · rename_i n
      split at e2
      · rename_i xs hxs
        split at e2
        · rename_i hlt
          cases e2
          obtain ⟨b, hb, eb⟩ := rv.le le2
          cases eb
          obtain ⟨b', hb', zs, hz, rz⟩ := as2.at_ n _ hxs
          rw [hb] at hb'
          cases hb'
          obtain ⟨le3, as3⟩ := as2.write (ho := .lst (zs ++ [u])) (o' := .lst (xs ++ [w])) hxs hb fun H' e f => ⟨_, e, (rz.mono f).append ⟨u, [], rfl, f _ _ ru, rfl⟩⟩
          refine ⟨l, zs, u, rfl, rfl, hz, by rw [rz.length, ← line_eq]; exact hlt, ?_⟩
          exact h3 m2 _ le3 as3 σ (((ar.le le1).le le2).le le3)
        · cases e2
      · cases e2
    · cases e2
def rSetD : TSet := fun o i v H Q => ∃ a H4, o = .ref a ∧ DPut H a i v H4 ∧ Q H4
theorem set_dic (hu : X.A.units + 100 < cLine) : PSet X rSetD := by
  intro pins s σ H o i v ov iv u Q I ro ri rv h
  obtain ⟨a, H4, rfl, g, q⟩ := h
  cases ro
  exact d_setItem (by omega) I g ri rv fun s4 I4 => ⟨H4, I4, q⟩
theorem pset_or {t t' : TSet} (h : PSet X t) (h' : PSet X t') : PSet X (fun o i v H Q => t o i v H Q ∨ t' o i v H Q) := by
  intro pins s σ H o i v ov iv u Q I ro ri rv q
  rcases q with q | q
  · exact h pins s σ H o i v ov iv u Q I ro ri rv q
  · exact h' pins s σ H o i v ov iv u Q I ro ri rv q
theorem ps_put {t : TSet} {o i value : Expr} {td ty tv : TE} {pos pos' : Pos} (hp : PSet X t) (ho : PE X o td) (hi : PE X i ty) (hv : PE X value tv) (hs : swapsWith value (some (.Subscript o i pos')) pos.line X.env = pure false) :
    PS X (.Assign [.Subscript o i pos'] value pos) (fun D σ H => tv σ H fun v H1 => td σ H1 fun x H2 => ty σ H2 fun y H3 => t x y v H3 fun H4 => D.nx σ H4) := by
  intro pins s σ H D I h
  refine wpAny_Assign_Subscript (thn (hv pins s σ H _ I h) fun r s1 ⟨v, H1, I1, rv, q1⟩ => thn (ho pins s1 σ H1 _ I1 q1) fun u s2 ⟨x, H2, I2, rx, q2⟩ => thn (hi pins s2 σ H2 _ I2 q2) fun iv s3 ⟨y, H3, I3, ry, q3⟩ => ?_) hs
  exact thn (hp pins s3 σ H3 x y v u iv r _ I3 rx ry rv q3) fun _ s4 ⟨H4, I4, q4⟩ => ⟨σ, H4, I4, q4⟩
theorem s_put (T : Good X g C) {o k v : Expr} {a i e : E} {pos pos' : Pos} (hc : isComp v = false) (ho : PE X o (tE X.K Z (evalE C a))) (hk : PE X k (tE X.K Z (evalE C i))) (hv : PE X v (tE X.K Z (evalE C e))) :
    PS X (.Assign [.Subscript o k pos'] v pos) (tS X.K Z (execS C (.put a i e))) := by
  refine PS.imp (ps_put (pset_or set_list (set_dic T.hu)) ho hk hv (notComp hc)) ?_
  rintro D σ H ⟨m, r, st, ar, as, h⟩
  unfold execS at h
  refine ⟨m, r, st, ar, as, (Ok.bind h).mono fun w st1 m1 H1 le1 as1 h1 vw rw' => ?_⟩
  refine ⟨m1, r, st1, ar.le le1, as1, (Ok.bind h1).mono fun x st2 m2 H2 le2 as2 h2 vx rx => ?_⟩
  refine ⟨m2, r, st2, (ar.le le1).le le2, as2, (Ok.bind h2).mono fun y st3 m3 H3 le3 as3 h3 vy ry => ?_⟩
  obtain ⟨st4, e2, h4, hdrop⟩ := Ok.of (Ok.bind h3) as3
  clear hdrop
  have rw3 := (rw'.le le2).le le3
  have ar3 := ((ar.le le1).le le2).le le3
  unfold setP at e2
  split at e2
  · rename_i n
    obtain ⟨ob, hob, e5⟩ := obind e2
    clear e2
    obtain ⟨ob', e3, rfl⟩ := omap e5
    clear e5
    obtain ⟨b, hb, eb⟩ := rx.le le3
    cases eb
    obtain ⟨b', hb', ao⟩ := as3.at_ n _ hob
    rw [hb] at hb'
    cases hb'
    cases ob with
    | lst xs =>
      obtain ⟨zs, hz, rz⟩ := ao
      unfold putO at e3
      dsimp only at e3
      split at e3
      · rename_i j
        obtain ⟨q, hq, rfl⟩ := omap e3
        cases (show vy = .int j from ry)
        obtain ⟨le4, as4⟩ := as3.write (ho := .lst (zs.set q vw)) (o' := .lst (xs.set q w)) hob hb fun H' e f => ⟨_, e, (rz.mono f).setAt (f _ _ rw3) q⟩
        refine .inl ⟨b, zs, j, q, rfl, rfl, hz, by rw [rz.length]; exact hq, ?_⟩
        exact h4 m3 _ le4 as4 σ (ar3.le le4)
      · cases e3
    | dK kvs =>
      obtain ⟨us, hu, rs⟩ := ao
      have e4 : (if kvs.length < lineN then (keyOf y).map fun k => O.dK (putP kvs k w) else none) = some ob' := e3
      split at e4
      · rename_i hlt
        obtain ⟨kk, hkk, rfl⟩ := omap e4
        rw [ry.key hkk]
        obtain ⟨le4, as4⟩ := as3.write (ho := .dK (putK us kk vw)) (o' := .dK (putP kvs kk w)) hob hb fun H' e f => ⟨_, e, (rs.mono f).put (f _ _ rw3)⟩
        refine .inr ⟨b, _, rfl, DPut.k hu (by rw [rs.length, ← line_eq]; exact hlt), ?_⟩
        exact h4 m3 _ le4 as4 σ (ar3.le le4)
      · cases e4
    | dT kvs =>
      obtain ⟨us, hu, rs⟩ := ao
      have e4 : (if kvs.length < lineN then (keyT y).map fun k => O.dT (putP kvs k w) else none) = some ob' := e3
      split at e4
      · rename_i hlt
        obtain ⟨kk, hkk, rfl⟩ := omap e4
        obtain ⟨bk, rfl, hbk⟩ := ry.keyT hkk
        obtain ⟨le4, as4⟩ := as3.write (ho := .dT (putK us kk vw)) (o' := .dT (putP kvs kk w)) hob hb fun H' e f => ⟨_, e, (rs.mono f).put (f _ _ rw3)⟩
        refine .inr ⟨b, _, rfl, DPut.t hu hbk (by rw [rs.length, ← line_eq]; exact hlt), ?_⟩
        exact h4 m3 _ le4 as4 σ (ar3.le le4)
      · cases e4
  · cases e2
theorem s_snil : PSs X [] (tS X.K Z (execSs C [])) := by
  refine PSs.imp pss_nil ?_
  rintro D σ H ⟨m, r, st, ar, as, h⟩
  unfold execSs at h
  exact Ok.here h as σ ar
theorem s_scons {x : Stmt} {xs : List Stmt} {s : S} {ss : List S} (h1 : PS X x (tS X.K Z (execS C s))) (h2 : PSs X xs (tS X.K Z (execSs C ss))) : PSs X (x :: xs) (tS X.K Z (execSs C (s :: ss))) := by
  refine PSs.imp (pss_cons h1 h2) ?_
  rintro D σ H ⟨m, r, st, ar, as, h⟩
  unfold execSs at h
  refine ⟨m, r, st, ar, as, (Ok.bind h).mono fun f st1 m1 H1 le1 as1 h1 => ?_⟩
  cases f with
  | nx r1 => exact fun σ' ar' => ⟨m1, r1, st1, ar', as1, h1⟩
  | bk r1 => exact Ok.here h1 as1
  | ct r1 => exact Ok.here h1 as1
  | rt v => exact Ok.here h1 as1
theorem s_if {c : Expr} {a b : List Stmt} {ec : E} {ea eb : List S} {pos : Pos} (hc : PT X c (tT X.K Z (runT (evalE C ec)))) (ha : PSs X a (tS X.K Z (execSs C ea))) (hb : PSs X b (tS X.K Z (execSs C eb))) : PS X (.If c a b pos) (tS X.K Z (execS C (.ifs ec ea eb))) := by
  refine PS.imp (ps_if hc ha hb) ?_
  rintro D σ H ⟨m, r, st, ar, as, h⟩
  unfold execS at h
  refine ⟨m, r, st, ar, as, (Ok.bind h).mono fun k st1 m1 H1 le1 as1 h1 => ?_⟩
  cases k with
  | true => exact ⟨m1, r, st1, ar.le le1, as1, h1⟩
  | false => exact ⟨m1, r, st1, ar.le le1, as1, h1⟩
theorem turnQ {K : PySem.W.Frag} {D : Ends} {N : L2.St → Hp → Prop} {f : Fl} {st : Sto} {m : List Addr} {H : Hp} {k : Rho → Sto → R Fl} (as : AbsSt K H m Z st)
    (h : Ok K Z (match f with | .nx r2 => k r2 st | .ct r2 => k r2 st | .bk r2 => R.ok (.nx r2) st | .rt v => R.ok (.rt v) st) m H (FlQ K Z D))
    (hN : ∀ r σ, AbsR K H m Z r σ → Ok K Z (k r st) m H (FlQ K Z D) → N σ H) : FlQ K Z { D with nx := N, ct := N, bk := D.nx } f st m H := by
  cases f with
  | nx r2 => exact fun σ ar => hN r2 σ ar h
  | ct r2 => exact fun σ ar => hN r2 σ ar h
  | bk r2 => exact Ok.here h as
  | rt v => exact Ok.here h as
theorem s_while (T : GoodS X g C) {c : Expr} {body : List Stmt} {ec : E} {eb : List S} {pos : Pos} (hc : PT X c (tT X.K Z (runT (evalE C ec)))) (hb : PSs X body (tS X.K Z (execSs C eb))) : PS X (.While c body [] pos) (tS X.K Z (execS C (.while_ ec eb))) := by
  refine PS.imp (ps_while T.own hc hb) ?_
  rintro D σ H ⟨m, r, st, ar, as, h⟩
  unfold execS at h
  refine ⟨fun n σ H => ∃ m r st, AbsR X.K H m Z r σ ∧ AbsSt X.K H m Z st ∧ Ok X.K Z (whileL (runT (evalE C ec)) (execSs C eb) n r st) m H (FlQ X.K Z D), ⟨mostW, m, r, st, ar, as, h⟩, ?_⟩
  rintro n σ H ⟨m, r, st, ar, as, h⟩
  cases n with
  | zero => exact (show False from h).elim
  | succ n =>
    rw [whileL] at h
    refine ⟨m, r, st, ar, as, (Ok.bind h).mono fun k st1 m1 H1 le1 as1 h1 => ?_⟩
    cases k with
    | false => exact Ok.here h1 as1 σ (ar.le le1)
    | true =>
      refine ⟨fun σ' H' => ∃ m r st, AbsR X.K H' m Z r σ' ∧ AbsSt X.K H' m Z st ∧ Ok X.K Z (whileL (runT (evalE C ec)) (execSs C eb) n r st) m H' (FlQ X.K Z D), fun σ' H' q => ⟨n, Nat.lt_succ_self n, q⟩, ?_⟩
      refine ⟨m1, r, st1, ar.le le1, as1, (Ok.bind (show Ok X.K Z ((execSs C eb r st1).bind _) m1 H1 _ from h1)).mono fun f st2 m2 H2 le2 as2 h2 => ?_⟩
      exact turnQ (k := fun r2 st2 => whileL (runT (evalE C ec)) (execSs C eb) n r2 st2) as2 h2 fun r2 σ2 ar2 q => ⟨m2, r2, st2, ar2, as2, q⟩
theorem s_forT (T : GoodS X g C) {tg iter : Expr} {body : List Stmt} {t : Tg} {w : W} {eb : List S} {pos : Pos} {gt : TG} (hs : isSetD iter = false) (hw : PI X tg iter (tW X.K Z (evalW C w))) (hg : PG X tg gt)
    (hrel : ∀ (p : P) (v : V) (m : List Addr) (H : Hp) (r r1 : Rho) (σ : L2.St) (Q : L2.St → Hp → Prop), RelP X.K H m Z p v → AbsR X.K H m Z r σ → tgR t p r = some r1 → (∀ σ', AbsR X.K H m Z r1 σ' → Q σ' H) → gt v σ H Q) (hb : PSs X body (tS X.K Z (execSs C eb))) :
    PS X (.For tg iter body [] pos) (tS X.K Z (execS C (.for_ t w eb))) := by
  refine PS.imp (ps_for T.own T.calm hw hg hb (fun y => ?_)) ?_
  · cases iter <;> first
      | rfl
      | exact absurd (show true = false from hs) Bool.false_ne_true.symm
  rintro D σ H ⟨m, r, st, ar, as, h⟩
  unfold execS at h
  refine ⟨m, r, st, ar, as, (Ok.bind h).mono fun ps st1 m1 H1 le1 as1 h1 J wk => ?_⟩
  refine ⟨fun i k σ H => k = ps.length - i ∧ i ≤ ps.length ∧ ∃ m r st, Le X.K m1 H1 m H ∧ AbsR X.K H m Z r σ ∧ AbsSt X.K H m Z st ∧ Ok X.K Z (forL (tgR t) (execSs C eb) (ps.drop i) r st) m H (FlQ X.K Z D), ⟨ps.length, by simp, Nat.zero_le _, m1, r, st1, Le.refl, ar.le le1, as1, by rw [List.drop_zero]; exact h1⟩, ?_⟩
  rintro j k σ H ⟨rfl, hj, m, r, st, le, ar, as, h⟩
  obtain ⟨w1, w2⟩ := wk m H Z le (fun a ha => .inl ha) j
  by_cases hlt : j < ps.length
  · have hip : j < ps.length := hlt
    obtain ⟨go, yl⟩ := w1 ps[j] (List.getElem?_eq_getElem hip)
    have hdrop : ps.drop j = ps[j] :: ps.drop (j + 1) := List.drop_eq_getElem_cons hip
    rw [hdrop, forL] at h
    refine .inr ⟨go, fun σ' H' => ∃ m r st, Le X.K m1 H1 m H' ∧ AbsR X.K H' m Z r σ' ∧ AbsSt X.K H' m Z st ∧ Ok X.K Z (forL (tgR t) (execSs C eb) (ps.drop (j + 1)) r st) m H' (FlQ X.K Z D), fun σ' H' q => ⟨ps.length - (j + 1), by omega, rfl, hlt, q⟩, fun y H' hy => ?_⟩
    obtain ⟨sm, ry'⟩ := yl y H' hy
    have les : Le X.K m H m H' := Le.same sm
    replace le := le.trans les
    replace as := as.same sm
    replace ar := ar.le les
    cases hr : tgR t ps[j] r with
    | none => rw [hr] at h; exact (show False from h).elim
    | some r1 =>
      rw [hr, of_some, bind_ok] at h
      refine hrel _ _ m H' r r1 σ _ ry' ar hr fun σ' ar' => ⟨m, r1, st, ar', as, (Ok.bind (Ok.le h les)).mono fun f st2 m2 H2 le2 as2 h3 => ?_⟩
      exact turnQ (k := fun r2 st2 => forL (tgR t) (execSs C eb) (ps.drop (j + 1)) r2 st2) as2 h3 fun r2 σ2 ar2 q => ⟨m2, r2, st2, le.trans le2, ar2, as2, q⟩
  · have e : j = ps.length := by omega
    subst e
    rw [List.drop_length, forL] at h
    exact .inl ⟨w2 rfl, Ok.here h as σ ar⟩
theorem s_for (T : GoodS X g C) {x : Str} {i : Nat} {iter : Expr} {body : List Stmt} {w : W} {eb : List S} {p pos : Pos} (hi : g.N[i]? = some x) (hl : locB g x = true) (hs : isSetD iter = false) (hw : PI X (.Name x p) iter (tW X.K Z (evalW C w))) (hb : PSs X body (tS X.K Z (execSs C eb))) :
    PS X (.For (.Name x p) iter body [] pos) (tS X.K Z (execS C (.for_ (.nm i) w eb))) :=
  s_forT T hs hw (pg_name (i := i) (by rw [T.N]; exact T.nd) (by rw [T.N]; exact hi) (T.locV hl) (.inl (T.fnA x))) (fun p v m H r r1 σ Q rp ar e q => by
    cases e
    exact q _ (ar.set rp)) hb
theorem s_for2 (T : GoodS X g C) {x y : Str} {i j k : Nat} {iter : Expr} {body : List Stmt} {w : W} {eb : List S} {p p' p2 pos : Pos} (hi : g.N[i]? = some x) (hl : locB g x = true) (hi2 : g.N[j]? = some y) (hl2 : locB g y = true) (hs : isSetD iter = false)
    (hw : PI X (.Tuple [.Name x p, .Name y p'] k p2) iter (tW X.K Z (evalW C w))) (hb : PSs X body (tS X.K Z (execSs C eb))) :
    PS X (.For (.Tuple [.Name x p, .Name y p'] k p2) iter body [] pos) (tS X.K Z (execS C (.for_ (.two i j) w eb))) := by
  have nm : ∀ {z : Str} {a : Nat} {q : Pos}, g.N[a]? = some z → locB g z = true → PG X (.Name z q) (gName a) := fun {z a q} h1 h2 => pg_name (i := a) (by rw [T.N]; exact T.nd) (by rw [T.N]; exact h1) (T.locV h2) (.inl (T.fnA z))
  refine s_forT T hs hw (pg_tup (n := 2) T.calm (pgs_cons (nm hi hl) (pgs_cons (nm hi2 hl2) pgs_nil))) (fun q v m H r r1 σ Q rp ar e hq => ?_) hb
  unfold tgR at e
  dsimp only at e
  split at e
  · rename_i a b
    cases e
    obtain ⟨c, us, rfl, hc, v1, vs1, e1, rv1, v2, vs2, e2, rv2, e3⟩ := rp
    subst e3 e2 e1
    exact ⟨c, _, rfl, SqT.of hc, rfl, v1, [v2], rfl, v2, [], rfl, rfl, hq _ ((ar.set (p := .d a) (show RelP X.K H m Z (.d a) v1 from rv1)).set (p := .d b) (show RelP X.K H m Z (.d b) v2 from rv2))⟩
  · cases e
theorem s_forO (T : GoodS X g C) {x : Str} {i : Nat} {iter : Expr} {body : List Stmt} {e : E} {eb : List S} {p pos : Pos} (hi : g.N[i]? = some x) (hl : locB g x = true) (hs : isSetD iter = false) (hw : PE X iter (tE X.K Z (evalE C e))) (hb : PSs X body (tS X.K Z (execSs C eb))) :
    PS X (.For (.Name x p) iter body [] pos) (tS X.K Z (execS C (.forO (.nm i) e eb))) := by
  refine PS.imp (ps_for T.own T.calm (pi_list hw) (pg_name (i := i) (by rw [T.N]; exact T.nd) (by rw [T.N]; exact hi) (T.locV hl) (.inl (T.fnA x))) hb (fun y => ?_)) ?_
  · cases iter <;> first
      | rfl
      | exact absurd (show true = false from hs) Bool.false_ne_true.symm
  rintro D σ H ⟨m, r, st, ar, as, h⟩
  unfold execS at h
  refine ⟨m, r, st, ar, as, (Ok.bind h).mono fun x0 st1 m1 H1 le1 as1 h1 v rv => ?_⟩
  split at h1
  · rename_i n
    obtain ⟨a, ha, rfl⟩ := rv
    have isL : ∃ us, H1 a = some (.lst us) := by
      have h2 : Ok X.K Z (forO n (tgR (.nm i)) (execSs C eb) (999999 + 1) 0 r st1) m1 H1 (FlQ X.K Z D) := h1
      rw [forO] at h2
      cases ho : atO n st1 0 with
      | none => rw [ho] at h2; exact (show False from h2).elim
      | some o => obtain ⟨us, hu, _⟩ := atO_of as1 ha ho; exact ⟨us, hu⟩
    obtain ⟨us1, hu1⟩ := isL
    refine ⟨a, rfl, ⟨us1, .inl (.inl hu1)⟩, ?_⟩
    refine ⟨fun j k σ H => ∃ m r st, Le X.K m1 H1 m H ∧ AbsR X.K H m Z r σ ∧ AbsSt X.K H m Z st ∧ Ok X.K Z (forO n (tgR (.nm i)) (execSs C eb) k j r st) m H (FlQ X.K Z D), ⟨mostW, m1, r, st1, Le.refl, ar.le le1, as1, h1⟩, ?_⟩
    rintro j k σ H ⟨m, r, st, le, ar, as, h⟩
    have ham : m[n]? = some a := by
      obtain ⟨t, et⟩ := le.pre
      rw [et, List.getElem?_append_left (List.getElem?_eq_some_iff.mp ha).1]
      exact ha
    cases k with
    | zero => exact (show False from h).elim
    | succ k =>
      rw [forO] at h
      cases ho : atO n st j with
      | none => rw [ho] at h; exact (show False from h).elim
      | some o =>
        rw [ho] at h
        obtain ⟨us, hu, q0, q1⟩ := atO_of as ham ho
        cases o with
        | none => exact .inl ⟨⟨us, .inl (.inl hu), q0 rfl⟩, Ok.here (show Ok X.K Z (R.ok (Fl.nx r) st) m H (FlQ X.K Z D) from h) as σ ar⟩
        | some q =>
          obtain ⟨vx, hvx, rx⟩ := q1 q rfl
          refine .inr ⟨⟨us, vx, .inl (.inl hu), hvx⟩, fun σ' H' => ∃ m r st, Le X.K m1 H1 m H' ∧ AbsR X.K H' m Z r σ' ∧ AbsSt X.K H' m Z st ∧ Ok X.K Z (forO n (tgR (.nm i)) (execSs C eb) k (j + 1) r st) m H' (FlQ X.K Z D), fun σ' H' z => ⟨k, Nat.lt_succ_self k, z⟩, fun y H' hy => ?_⟩
          obtain ⟨rfl, hx⟩ := hy
          have hx' := hx us (.inl (.inl hu))
          rw [hvx] at hx'
          cases hx'
          have h2 : Ok X.K Z ((execSs C eb (r.set i (some q)) st).bind _) m H' (FlQ X.K Z D) := h
          refine ⟨m, r.set i (some q), st, ar.set rx, as, (Ok.bind h2).mono fun f st2 m2 H2 le2 as2 h3 => ?_⟩
          exact turnQ (k := fun r2 st2 => forO n (tgR (.nm i)) (execSs C eb) k (j + 1) r2 st2) as2 h3 fun r2 σ2 ar2 q => ⟨m2, r2, st2, le.trans le2, ar2, as2, q⟩
  · exact (show False from h1).elim
variable (C) in
def SSt (s : S) : Prop := ∀ (X : Cx) (g : G) (x : Stmt) (Z : List Addr), GoodS X g C → okS g s x = true → PS X x (tS X.K Z (execS C s))
variable (C) in
def SSts (s : List S) : Prop := ∀ (X : Cx) (g : G) (x : List Stmt) (Z : List Addr), GoodS X g C → okSs g s x = true → PSs X x (tS X.K Z (execSs C s))
mutual
theorem soundS : ∀ s : S, SSt C s
  | .ret e => fun X g x Z T h => by
    rw [okS] at h
    dsimp only at h
    split at h
    · split at h
      · exact s_ret (soundE e X g _ Z T.toGood h).1
      · cases h
    · cases h
  | .retN => fun X g x Z T h => by
    rw [okS] at h
    dsimp only at h
    split at h
    · rw [Option.isNone_iff_eq_none] at h
      subst h
      exact s_retN
    · cases h
  | .set i e => fun X g x Z T h => by
    rw [okS] at h
    dsimp only at h
    split at h
    · split at h
      · split at h
        · simp only [Bool.and_eq_true, decide_eq_true_eq, Bool.not_eq_true', List.isEmpty_iff] at h
          obtain ⟨⟨⟨⟨rfl, h1⟩, h2⟩, h3⟩, h4⟩ := h
          exact s_setAny T h1 h2 h4 h3
        · cases h
      · cases h
    · cases h
  | .ifs c a b => fun X g x Z T h => by
    rw [okS] at h
    dsimp only at h
    split at h
    · simp only [Bool.and_eq_true] at h
      exact s_if (soundE c X g _ Z T.toGood h.1.1).2 (soundSs a X g _ Z T h.1.2) (soundSs b X g _ Z T h.2)
    · cases h
  | .for_ t w b => fun X g x Z T h => by
    rw [okS] at h
    dsimp only at h
    split at h
    · simp only [Bool.and_eq_true, Bool.not_eq_true', List.isEmpty_iff] at h
      obtain ⟨⟨⟨⟨⟨rfl, h1⟩, h2⟩, h3⟩, h4⟩, h5⟩ := h
      cases t with
      | tup is => cases h1
      | nm i =>
        unfold okT at h1
        dsimp only at h1
        split at h1
        · simp only [Bool.and_eq_true, decide_eq_true_eq] at h1
          exact s_for T h1.1 h1.2 h4 (soundW w X g _ _ Z T.toGood h2 fun z => by rw [z] at h5; simp [isTwo] at h5) (soundSs b X g _ Z T h3)
        · cases h1
      | two i j =>
        unfold okT at h1
        dsimp only at h1
        split at h1
        · split at h1
          · split at h1
            · split at h1
              · split at h1
                · simp only [Bool.and_eq_true, decide_eq_true_eq, List.isEmpty_iff] at h1
                  obtain ⟨⟨⟨⟨rfl, h6⟩, h7⟩, h8⟩, h9⟩ := h1
                  exact s_for2 T h6 h7 h8 h9 h4 (soundW w X g _ _ Z T.toGood h2 fun _ => ⟨_, _, _, rfl⟩) (soundSs b X g _ Z T h3)
                · cases h1
              · cases h1
            · cases h1
          · cases h1
        · cases h1
    · cases h
  | .forO t e b => fun X g x Z T h => by
    rw [okS] at h
    dsimp only at h
    split at h
    · simp only [Bool.and_eq_true, Bool.not_eq_true', List.isEmpty_iff] at h
      obtain ⟨⟨⟨⟨⟨rfl, h1⟩, h2⟩, h3⟩, h4⟩, h5⟩ := h
      cases t with
      | tup is => cases h1
      | two i j => cases h5
      | nm i =>
        unfold okT at h1
        dsimp only at h1
        split at h1
        · simp only [Bool.and_eq_true, decide_eq_true_eq] at h1
          exact s_forO T h1.1 h1.2 h4 (soundE e X g _ Z T.toGood h2).1 (soundSs b X g _ Z T h3)
        · cases h1
    · cases h
  | .while_ c b => fun X g x Z T h => by
    rw [okS] at h
    dsimp only at h
    split at h
    · simp only [Bool.and_eq_true, List.isEmpty_iff] at h
      obtain ⟨⟨rfl, h1⟩, h2⟩ := h
      exact s_while T (soundE c X g _ Z T.toGood h1).2 (soundSs b X g _ Z T h2)
    · cases h
  | .expr e => fun X g x Z T h => by
    rw [okS] at h
    dsimp only at h
    split at h
    · simp only [Bool.and_eq_true, Bool.not_eq_true'] at h
      exact s_expr h.2 (soundE e X g _ Z T.toGood h.1).1
    · cases h
  | .app a e => fun X g x Z T h => by
    rw [okS] at h
    dsimp only at h
    split at h
    · split at h
      · split at h
        · split at h
          · simp only [Bool.and_eq_true, decide_eq_true_eq, Bool.not_eq_true', List.isEmpty_iff] at h
            obtain ⟨⟨⟨⟨⟨⟨⟨rfl, rfl⟩, h0⟩, rfl⟩, h1⟩, h2⟩, h3⟩, h4⟩ := h
            exact s_app h0 h1 (soundE a X g _ Z T.toGood h2).1 (soundE e X g _ Z T.toGood h3).1 h4
          · cases h
        · cases h
      · cases h
    · cases h
  | .put a i e => fun X g x Z T h => by
    rw [okS] at h
    dsimp only at h
    split at h
    · split at h
      · split at h
        · simp only [Bool.and_eq_true, Bool.not_eq_true', List.isEmpty_iff] at h
          obtain ⟨⟨⟨⟨rfl, h1⟩, h2⟩, h3⟩, h4⟩ := h
          exact s_put T.toGood h4 (soundE a X g _ Z T.toGood h1).1 (soundE i X g _ Z T.toGood h2).1 (soundE e X g _ Z T.toGood h3).1
        · cases h
      · cases h
    · cases h
  | .pass => fun X g x Z T h => by
    rw [okS] at h
    dsimp only at h
    have red : ∀ D σ H, tS X.K Z (execS C .pass) D σ H → tNext D σ H := by
      rintro D σ H ⟨m, r, st, ar, as, h⟩
      unfold execS at h
      exact Ok.here h as σ ar
    split at h
    · exact PS.imp ps_pass red
    · split at h
      · split at h
        · exact PS.imp ps_doc red
        · cases h
      · cases h
    · cases h
  | .brk => fun X g x Z T h => by
    rw [okS] at h
    dsimp only at h
    split at h
    · refine PS.imp ps_break ?_
      rintro D σ H ⟨m, r, st, ar, as, h⟩
      unfold execS at h
      exact Ok.here h as σ ar
    · cases h
  | .cont => fun X g x Z T h => by
    rw [okS] at h
    dsimp only at h
    split at h
    · refine PS.imp ps_continue ?_
      rintro D σ H ⟨m, r, st, ar, as, h⟩
      unfold execS at h
      exact Ok.here h as σ ar
    · cases h
theorem soundSs : ∀ s : List S, SSts C s
  | [] => fun X g x Z T h => by
    rw [okSs] at h
    have : x = [] := by simpa using h
    rw [this]
    exact s_snil
  | s :: ss => fun X g x Z T h => by
    rw [okSs] at h
    dsimp only at h
    split at h
    · simp only [Bool.and_eq_true] at h
      exact s_scons (soundS s X g _ Z T h.1) (soundSs ss X g _ Z T h.2)
    · cases h
end
end
end Y

namespace Y
open PySem L2 PySem.Spec PyProof.Rows
section
variable {K : PySem.W.Frag} {H H' : Hp} {m m1 m2 Z Z1 Z2 : List Addr}
mutual
theorem RelD.weak (hw : ∀ a, a ∉ m1 → a ∉ Z1 → a ∉ m2 ∧ a ∉ Z2) : ∀ {x : D} {v : V}, RelD K H m1 Z1 x v → RelD K H m2 Z2 x v
  | .non, _, h => h
  | .bl _, _, h => h
  | .int _, _, h => h
  | .str _, _, h => h
  | .tup xs, v, h => by
    obtain ⟨a, us, e, q, r⟩ := (show ∃ a us, v = .ref a ∧ H a = some (.tup us) ∧ RelDs K H m1 Z1 xs us from h)
    exact ⟨a, us, e, q, RelDs.weak hw r⟩
  | .pl xs, v, h => by
    obtain ⟨a, us, e, q, hm, hz, r⟩ := (show ∃ a us, v = .ref a ∧ Rd H a (.lst us) ∧ a ∉ m1 ∧ a ∉ Z1 ∧ RelDs K H m1 Z1 xs us from h)
    exact ⟨a, us, e, q, (hw a hm hz).1, (hw a hm hz).2, RelDs.weak hw r⟩
theorem RelDs.weak (hw : ∀ a, a ∉ m1 → a ∉ Z1 → a ∉ m2 ∧ a ∉ Z2) : ∀ {xs : List D} {us : List V}, RelDs K H m1 Z1 xs us → RelDs K H m2 Z2 xs us
  | [], _, h => h
  | x :: xs, us, h => by
    obtain ⟨v, vs, e, r, rs⟩ := (show ∃ v vs, us = v :: vs ∧ RelD K H m1 Z1 x v ∧ RelDs K H m1 Z1 xs vs from h)
    exact ⟨v, vs, e, RelD.weak hw r, RelDs.weak hw rs⟩
end
mutual
theorem RelD.noPl : ∀ {x : D} {v : V}, Y.noPl x = true → RelD K H m1 Z1 x v → RelD K H m2 Z2 x v
  | .non, _, _, h => h
  | .bl _, _, _, h => h
  | .int _, _, _, h => h
  | .str _, _, _, h => h
  | .tup xs, v, n, h => by
    obtain ⟨a, us, e, q, r⟩ := (show ∃ a us, v = .ref a ∧ H a = some (.tup us) ∧ RelDs K H m1 Z1 xs us from h)
    exact ⟨a, us, e, q, RelDs.noPl (by simpa [Y.noPl] using n) r⟩
  | .pl xs, v, n, h => by simp [Y.noPl] at n
theorem RelDs.noPl : ∀ {xs : List D} {us : List V}, noPls xs = true → RelDs K H m1 Z1 xs us → RelDs K H m2 Z2 xs us
  | [], _, _, h => h
  | x :: xs, us, n, h => by
    obtain ⟨v, vs, e, r, rs⟩ := (show ∃ v vs, us = v :: vs ∧ RelD K H m1 Z1 x v ∧ RelDs K H m1 Z1 xs vs from h)
    simp only [noPls, Bool.and_eq_true] at n
    exact ⟨v, vs, e, RelD.noPl n.1 r, RelDs.noPl n.2 rs⟩
end
theorem arg1 {st : Sto} {p q : P} {v : V} (as : AbsSt K H m Z st) (r : RelP K H m Z p v) (e : argP st p = some q) : RelP K H [] [] q v ∧ (isObj p = false → RelP K H [] (Z ++ m) q v) := by
  cases p with
  | scr ns =>
    cases e
    exact ⟨r, fun _ => r⟩
  | d x =>
    cases e
    refine ⟨RelD.bare r, fun _ => RelD.weak (m1 := m) (Z1 := Z) (fun a h1 h2 => ⟨by simp, fun z => ?_⟩) r⟩
    rcases List.mem_append.mp z with z | z
    · exact h2 z
    · exact h1 z
  | obj n =>
    obtain ⟨x, e1, rfl⟩ := omap (show (froz st (.obj n)).map P.d = some q from e)
    exact ⟨froz_rel as e1 r, fun z => nomatch z⟩
theorem args_rel {st : Sto} (as : AbsSt K H m Z st) : ∀ {ps qs : List P} {vs : List V}, RelPs K H m Z ps vs → argPs st ps = some qs → RelPs K H [] [] qs vs ∧ (ps.any isObj = false → RelPs K H [] (Z ++ m) qs vs)
  | [], qs, vs, r, e => by cases e; exact ⟨r, fun _ => r⟩
  | p :: ps, qs, vs, r, e => by
    obtain ⟨v, w', rfl, r1, r2⟩ := (show ∃ v vs', vs = v :: vs' ∧ RelP K H m Z p v ∧ RelPs K H m Z ps vs' from r)
    obtain ⟨q, e1, e⟩ := obind (show ((argP st p).bind fun x => (argPs st ps).map fun xs => x :: xs) = some qs from e)
    obtain ⟨q2, e2, rfl⟩ := omap e
    obtain ⟨i1, i2⟩ := arg1 as r1 e1
    obtain ⟨j1, j2⟩ := args_rel as r2 e2
    refine ⟨⟨v, w', rfl, i1, j1⟩, fun h => ?_⟩
    rw [List.any_cons, Bool.or_eq_false_iff] at h
    exact ⟨v, w', rfl, i2 h.1, j2 h.2⟩
theorem start_abs {N : List Str} {qs : List P} {vs : List V} (r : RelPs K H m Z qs vs) : AbsR K H m Z (startR N.length qs) (L2.start N vs) := by
  have hl := r.length
  refine ⟨by unfold startR L2.start; simp [hl], fun i p h => ?_⟩
  unfold startR at h
  unfold L2.start
  by_cases hi : i < qs.length
  · rw [List.getElem?_append_left (by simpa using hi), List.getElem?_map] at h
    cases e : qs[i]? with
    | none => rw [e] at h; cases h
    | some q =>
      rw [e] at h
      have h' : q = p := by simpa using h
      subst h'
      obtain ⟨v, e1, r1⟩ := r.get e
      exact ⟨v, by rw [List.getElem?_append_left (by rw [List.length_map, hl]; exact hi), List.getElem?_map, e1]; rfl, r1⟩
  · rw [List.getElem?_append_right (by simpa using hi), List.getElem?_replicate] at h
    split at h <;> cases h
theorem absSt_nil (hz : ∀ a ∈ Z, H a ≠ none) : AbsSt K H [] Z [] := ⟨rfl, by simp, fun n o h => by simp at h, hz, fun a _ => by simp⟩
theorem Le.outer {m' : List Addr} (le : Le K [] H m' H') : Le K m H m H' := ⟨⟨[], by simp⟩, le.tup, fun a u h _ => le.keep a u h (by simp), fun a h => .inl h, le.trk, le.frz⟩
theorem AbsSt.outer {m' : List Addr} {st : Sto} (as : AbsSt K H m Z st) (le : Le K [] H m' H') : AbsSt K H' m Z st := by
  refine ⟨as.len, as.nd, fun n o h => ?_, fun a h => le.trk a (as.zt a h), as.zm⟩
  obtain ⟨a, q, r⟩ := as.at_ n o h
  exact ⟨a, q, r.mono (fun u hu => le.keep a _ hu (by simp)) fun p v z => z.le le.outer⟩
end
structure Info where
  name : Str
  st : Stmt
  N : List Str
  ps : List Str
  F : Fn
def gOf (is : List Info) (cs : List (Str × Int)) (ts : List (Str × List (Str × Int))) (i : Info) : G := { N := i.N, names := (defScope i.st).names, fns := is.map fun j => (j.name, j.F.np), consts := cs, tabs := ts }
def okF (is : List Info) (cs : List (Str × Int)) (ts : List (Str × List (Str × Int))) (i : Info) : Bool := okSs (gOf is cs ts i) i.F.body (defBody i.st) && decide (i.F.np = i.ps.length) && decide (i.F.nn = i.N.length)
structure Tab (K : PySem.W.Frag) (mg : Str → Option Value) (is : List Info) (cs : List (Str × Int)) (ts : List (Str × List (Str × Int))) (a : Nat → Addr) (fd : Nat → FuncData) : Prop where
  fn : ∀ (k : Nat) (i : Info), is[k]? = some i → Fun K i.name i.name i.st (a k) (fd k) ∧ mg i.name = some (.ref (a k)) ∧ Binds K (fd k) i.ps [] ∧ FnScope i.N i.ps (defScope i.st) ∧ okF is cs ts i = true
  bl : ∀ x ∈ bltNames, mg x = none
  cs : ∀ x i, cs.lookup x = some i → ∃ t, mg x = some (.int i t)
  tb : ∀ x t, ts.lookup x = some t → ∃ a, mg x = some (.ref a) ∧ TabK K a t
section
variable {P : Program} {w : World} {K : PySem.W.Frag} {mg : Str → Option Value} {base : Heap} {is : List Info} {cs : List (Str × Int)} {ts : List (Str × List (Str × Int))} {a : Nat → Addr} {fd : Nat → FuncData}
theorem fn_all (T : Tab K mg is cs ts a fd) : ∀ (n k : Nat) (i : Info), is[k]? = some i → FnOk P w K mg base CX0 n (a k) (fd k) i.ps (spP K (callC (is.map (·.F)) n k) i.F.np)
  | 0, k, i, hi => by
    have no : ∀ vs H Q E, ¬ spP K (callC (is.map (·.F)) 0 k) i.F.np vs H Q E := fun vs H Q E ⟨m, Z, qs, st, _, _, _, h⟩ => h
    exact ⟨fun vs H Q E h => absurd h (no vs H Q E), fun A outer s H args us vs Q E _ _ _ _ h => absurd h (no vs H Q E)⟩
  | n + 1, k, i, hi => by
    obtain ⟨F, hm, hb, sc, ok⟩ := T.fn k i hi
    unfold okF at ok
    simp only [Bool.and_eq_true, decide_eq_true_eq] at ok
    obtain ⟨⟨ok1, ok2⟩, ok3⟩ := ok
    refine F.ok sc (fun vs H Q E h => ?_) (fun cdv A outer s H vs Q E hr h => ?_)
    · obtain ⟨m, Z, qs, st, hl, _⟩ := h
      rw [hl, ok2]
    obtain ⟨m, Z, qs, st, hl, rq, as, hok⟩ := h
    have ek : (is.map (·.F))[k]? = some i.F := by rw [List.getElem?_map, hi]; rfl
    rw [callC, ek] at hok
    simp only at hok
    have G : GoodS (cxOf CX0 P w K mg base i.N i.name (defScope i.st) (a k) cdv A outer s H E).nox (gOf is cs ts i) (callC (is.map (·.F)) n) := by
      refine { N := rfl, loc := fun x h => h, cel := fun x h => h, gl := fun x h => h, calm := rfl, hu := ?_, bl := T.bl, fn := fun j x nn hj => ?_, cs := T.cs, tb := T.tb, cell := fun x h => h, nd := sc.nd, fnA := fun x => rfl, own := PassesOwn.never }
      · have := hr.un
        show (A.deeper _).units + 100 < cLine
        omega
      · have hj' : (is.map fun j => (j.name, j.F.np))[j]? = some (x, nn) := hj
        rw [List.getElem?_map] at hj'
        cases ej : is[j]? with
        | none => rw [ej] at hj'; cases hj'
        | some i2 =>
          rw [ej] at hj'
          have e2 : (i2.name, i2.F.np) = (x, nn) := by simpa using hj'
          cases e2
          obtain ⟨F2, hm2, hb2, _⟩ := T.fn j i2 ej
          exact ⟨⟨n, a j, fd j, i2.ps, fn_all T n j i2 ej, hr, hm2, F2.kp, hb2⟩⟩
    by_cases hsh : i.F.sh = true
    · rw [if_pos hsh] at hok
      by_cases hnp : qs.length = i.F.np
      · rw [if_pos hnp] at hok
        refine ⟨_, soundSs i.F.body _ _ _ Z G ok1, m, startR i.F.nn qs, st, by rw [ok3]; exact start_abs rq, as, ?_⟩
        show Ok K Z (execSs (callC (is.map (·.F)) n) i.F.body (startR i.F.nn qs) st) m H _
        cases hx : execSs (callC (is.map (·.F)) n) i.F.body (startR i.F.nn qs) st with
        | ex x s => rw [hx] at hok; exact (show False from hok).elim
        | no => rw [hx] at hok; exact (show False from hok).elim
        | ok f st' =>
          rw [hx] at hok
          cases f with
          | bk r => exact (show False from hok).elim
          | ct r => exact (show False from hok).elim
          | nx r => exact fun m' H' le as' σ _ => (show Ok K Z (R.ok (Y.P.d .non) st') m H _ from hok) m' H' le as' .non rfl
          | rt p => exact fun m' H' le as' v rv => (show Ok K Z (R.ok p st') m H _ from hok) m' H' le as' v rv
      · rw [if_neg hnp] at hok
        exact (show False from hok).elim
    rw [if_neg hsh] at hok
    cases ea : argPs st qs with
    | none => rw [ea] at hok; exact (show False from hok).elim
    | some q2 =>
      rw [ea] at hok
      simp only at hok
      cases er : runF (callC (is.map (·.F)) n) i.F q2 with
      | none => rw [er] at hok; exact (show False from hok).elim
      | some d =>
        rw [er] at hok
        simp only at hok
        obtain ⟨r1, r2⟩ := args_rel as rq ea
        obtain ⟨Z0, hz0, rs0, hw⟩ : ∃ Z0 : List Addr, (∀ b ∈ Z0, H b ≠ none) ∧ RelPs K H [] Z0 q2 vs ∧ ((qs.any isObj = false ∧ Z0 = Z ++ m) ∨ qs.any isObj = true) := by
          cases ho : qs.any isObj with
          | false =>
            refine ⟨Z ++ m, fun b hb => ?_, r2 ho, .inl ⟨rfl, rfl⟩⟩
            rcases List.mem_append.mp hb with z | z
            · exact as.zt b z
            · exact as.mtrk z
          | true => exact ⟨[], (fun b hb => by cases hb), r1, .inr rfl⟩
        refine ⟨_, soundSs i.F.body _ _ _ Z0 G ok1, [], startR i.F.nn q2, [], by rw [ok3]; exact start_abs rs0, absSt_nil hz0, ?_⟩
        unfold runF at er
        split at er
        · show Ok K Z0 (execSs (callC (is.map (·.F)) n) i.F.body (startR i.F.nn q2) []) [] H _
          cases hx : execSs (callC (is.map (·.F)) n) i.F.body (startR i.F.nn q2) [] with
          | ex x s => rw [hx] at er; cases er
          | no => rw [hx] at er; cases er
          | ok f st' =>
            rw [hx] at er
            intro m' H' le as'
            have fin : ∀ v, RelD K H' m Z d v → Q v H' := fun v rv => by
              unfold backP at hok
              split at hok
              · exact (show False from hok).elim
              · exact hok m H' le.outer (as.outer le) v rv
            have nopl : qs.any isObj = true → Y.noPl d = true := fun z => by
              unfold backP at hok
              split at hok
              · exact (show False from hok).elim
              · rename_i hc
                cases hp : Y.noPl d with
                | true => rfl
                | false => rw [z, hp] at hc; exact absurd rfl hc
            cases f with
            | bk r => cases er
            | ct r => cases er
            | nx r =>
              cases er
              exact fun σ _ => fin .non rfl
            | rt p =>
              have er' : froz st' p = some d := er
              intro v rv
              apply fin
              rcases hw with ⟨_, rfl⟩ | ho
              · have hsp : ∀ b, b ∉ m' → b ∉ Z ++ m → b ∉ m ∧ b ∉ Z := fun b _ h => ⟨fun z => h (List.mem_append_right _ z), fun z => h (List.mem_append_left _ z)⟩
                cases p with
                | scr ns => cases er'
                | d x => cases er'; exact RelD.weak hsp rv
                | obj j =>
                  obtain ⟨b, e, rfl⟩ := rv
                  have h' : (match st'[j]? with | some (.lst xs) => (dvals xs).map D.pl | _ => none) = some d := er'
                  split at h'
                  · rename_i xs hs
                    obtain ⟨b', e', o⟩ := as'.at_ j _ hs
                    rw [e] at e'
                    cases e'
                    obtain ⟨us, hu, rs⟩ := o
                    obtain ⟨ys, hd, rfl⟩ := omap h'
                    have hbn : H b = none := by
                      rcases le.new b (List.mem_of_getElem? e) with z | z
                      · cases z
                      · exact z
                    exact ⟨b, us, rfl, .inl hu, fun z => as.mtrk z hbn, fun z => as.zt b z hbn, RelDs.weak hsp (rs.dvals hd)⟩
                  · cases h'
              · have np := nopl ho
                cases p with
                | scr ns => cases er'
                | d x => cases er'; exact RelD.noPl np rv
                | obj j =>
                  have h' : (match st'[j]? with | some (.lst xs) => (dvals xs).map D.pl | _ => none) = some d := er'
                  split at h'
                  · obtain ⟨ys, hd, rfl⟩ := omap h'
                    simp [Y.noPl] at np
                  · cases h'
        · cases er
theorem sp_law {c : List Y.P → Sto → R Y.P} {ns : List Int} (hc : c [.scr ns] [] = .ok (.d (.bl true)) []) {H : Hp} {b : Addr} (ho : Only H) (hs : SqL K H b (ns.map V.int)) {E : XK} : spP K c 1 [.ref b] H (fun v _ => v = .bl true) E := by
  refine ⟨[], [], [.scr ns], [], rfl, ⟨_, _, rfl, ⟨b, rfl, ?_⟩, rfl⟩, absSt_nil (fun _ h => by cases h), ?_⟩
  · rcases hs with (h | h) | h
    · rcases ho b with z | ⟨o, xs, z⟩
      · rw [h] at z; cases z
      · rw [h] at z; cases z
    · exact .inl h
    · exact .inr h
  · rw [hc]
    exact fun m' H' le as v rv => rv
end
end Y

namespace Y
open PySem
variable {Fs : List Fn}
@[simp] theorem theDic_d (st : Sto) (x : D) : theDic st (.d x) = none := rfl
@[simp] theorem theDic_scr (st : Sto) (x : List Int) : theDic st (.scr x) = none := rfl
@[simp] theorem dvals_map {α : Type} (f : α → D) : ∀ xs : List α, dvals (xs.map fun x => P.d (f x)) = some (xs.map f)
  | [] => rfl
  | x :: xs => by simp [dvals, dval, dvals_map f xs]
@[simp] theorem dvals_map' : ∀ xs : List D, dvals (xs.map P.d) = some xs
  | [] => rfl
  | x :: xs => by simp [dvals, dval, dvals_map' xs]
@[simp] theorem bools_map {α : Type} (f : α → Bool) : ∀ xs : List α, boolsOf (xs.map fun x => P.d (.bl (f x))) = some (xs.map f)
  | [] => rfl
  | x :: xs => by simp [boolsOf, bools_map f xs]
theorem compL_ints {α : Type} {G : P → Rho} {c : Rho → Sto → R Bool} {e : Rho → Sto → R P} {st : Sto} {g : α → P} {f : α → D} : ∀ {xs : List α}, (∀ x ∈ xs, c (G (g x)) st = .ok true st) → (∀ x ∈ xs, e (G (g x)) st = .ok (.d (f x)) st) → compL G c e (xs.map g) st = .ok (xs.map fun x => .d (f x)) st
  | [], _, _ => rfl
  | x :: xs, h, k => by
    have ih := compL_ints (G := G) (c := c) (e := e) (st := st) (g := g) (f := f) (xs := xs) (fun y hy => h y (List.mem_cons_of_mem _ hy)) fun y hy => k y (List.mem_cons_of_mem _ hy)
    simp only [List.map_cons]
    rw [compL, h x List.mem_cons_self, bind_ok, if_pos rfl, k x List.mem_cons_self, bind_ok, ih, bind_ok]
theorem evalL_ints {C : Nat → List P → Sto → R P} {α : Type} {w : W} {js : List Nat} {e : E} {r : Rho} {st st1 : Sto} {xs : List α} {g : α → P} {f : α → D} (hw : evalW C w r st = .ok (xs.map g) st1) (hl : xs.length ≤ lineN)
    (he : ∀ x ∈ xs, evalE C e (some (g x) :: blockR js r) st1 = .ok (.d (f x)) st1) : evalL C (.comp w 1 js none e) r st = .ok (xs.map fun x => .d (f x)) st1 := by
  rw [evalL, hw, bind_ok, if_pos ⟨rfl, by simpa using hl⟩]
  exact compL_ints (fun x _ => by rw [evalC]) he
def plainP : P → Bool
  | .obj _ => false
  | _ => true
theorem args_plain {st : Sto} : ∀ {ps : List P}, ps.all plainP = true → argPs st ps = some ps ∧ ps.any isObj = false
  | [], _ => ⟨rfl, rfl⟩
  | p :: ps, h => by
    rw [List.all_cons, Bool.and_eq_true] at h
    obtain ⟨i1, i2⟩ := args_plain (st := st) h.2
    cases p with
    | obj n => cases h.1
    | d x => exact ⟨by simp [argPs, argP, froz, i1], by simp [isObj, i2]⟩
    | scr ns => exact ⟨by simp [argPs, argP, i1], by simp [isObj, i2]⟩
theorem call_of {n k : Nat} {F : Fn} {ps : List P} {st : Sto} {d : D} (hF : Fs[k]? = some F) (hp : ps.all plainP = true) (hr : runF (callC Fs n) F ps = some d) (hsh : F.sh = false := by rfl) : callC Fs (n + 1) k ps st = .ok (.d d) st := by
  obtain ⟨a1, a2⟩ := args_plain (st := st) hp
  rw [callC, hF]
  simp only [hsh, a1, hr, backP, a2, Bool.false_and, Bool.false_eq_true, if_false]
theorem run_of {C : Nat → List P → Sto → R P} {F : Fn} {ps : List P} {d : D} {st : Sto} {p : P} (hl : ps.length = F.np) (he : execSs C F.body (startR F.nn ps) [] = .ok (.rt p) st) (hf : froz st p = some d) : runF C F ps = some d := by
  unfold runF
  rw [if_pos hl, he]
  exact hf
section
variable {C : Nat → List P → Sto → R P} {r : Rho} {st : Sto}
@[simp] theorem ev_var (i : Nat) : evalE C (.var i) r st = R.of (r[i]?).join st := by rw [evalE] <;> rfl
@[simp] theorem ev_cst (x : D) : evalE C (.cst x) r st = .ok (.d x) st := by rw [evalE]
@[simp] theorem ev_op (o : Bop) (a b : E) : evalE C (.op o a b) r st = (evalE C a r st).bind fun x st1 => (evalE C b r st1).bind fun y st2 => R.of (opP o x y st2) st2 := by rw [evalE]
@[simp] theorem ev_neg (a : E) : evalE C (.neg a) r st = (evalE C a r st).bind fun x st1 => match x with | .d (.int i) => .ok (.d (.int (-i))) st1 | _ => .no := by rw [evalE] <;> rfl
@[simp] theorem ev_not (a : E) : evalE C (.not a) r st = (evalE C a r st).bind fun x st1 => (R.of (truP st1 x) st1).bind fun b st2 => .ok (.d (.bl (!b))) st2 := by rw [evalE]
@[simp] theorem ev_cmp (o : Cop) (a b : E) : evalE C (.cmp o a b) r st = (evalE C a r st).bind fun x st1 => (evalE C b r st1).bind fun y st2 => (R.of (cmpP o x y st2) st2).bind fun b st3 => .ok (.d (.bl b)) st3 := by rw [evalE]
@[simp] theorem ev_chain (o o' : Cop) (a b c : E) : evalE C (.chain o o' a b c) r st = (evalE C a r st).bind fun x st1 => (evalE C b r st1).bind fun y st2 => (R.of (cmpP o x y st2) st2).bind fun k st3 =>
    if k then (evalE C c r st3).bind fun z st4 => (R.of (cmpP o' y z st4) st4).bind fun b st5 => .ok (.d (.bl b)) st5 else .ok (.d (.bl false)) st3 := by rw [evalE]
@[simp] theorem ev_and (es : List E) : evalE C (.and es) r st = evalA C es r st := by rw [evalE]
@[simp] theorem ev_or (es : List E) : evalE C (.or es) r st = evalO C es r st := by rw [evalE]
@[simp] theorem ev_ite (c a b : E) : evalE C (.ite c a b) r st = (evalE C c r st).bind fun x st1 => (R.of (truP st1 x) st1).bind fun k st2 => if k then evalE C a r st2 else evalE C b r st2 := by rw [evalE]
@[simp] theorem ev_tup (es : List E) : evalE C (.tup es) r st = (evalEs C es r st).bind fun ps st1 => if ps.length ≤ lineN then (R.of (dvals ps) st1).bind fun xs st2 => .ok (.d (.tup xs)) st2 else .no := by rw [evalE]
@[simp] theorem ev_lstF (l : L) : evalE C (.lst false l) r st = (evalL C l r st).bind fun ps st1 => (R.of (dvals ps) st1).bind fun xs st2 => .ok (.d (.pl xs)) st2 := by rw [evalE]; simp
@[simp] theorem ev_lstT (l : L) : evalE C (.lst true l) r st = (evalL C l r st).bind fun ps st1 => .ok (.obj st1.length) (st1 ++ [.lst ps]) := by rw [evalE]; simp
@[simp] theorem ev_call (f : Nat) (es : List E) : evalE C (.call f es) r st = (evalEs C es r st).bind fun ps st1 => C f ps st1 := by rw [evalE]
@[simp] theorem ev_isi (a : E) (T : String) : evalE C (.isi a T) r st = (evalE C a r st).bind fun x st1 => (R.of (tyD x st1) st1).bind fun t st2 => .ok (.d (.bl (tyIs t T))) st2 := by rw [evalE]
@[simp] theorem ev_bf (f : Bf) (es : List E) : evalE C (.bf f es) r st = (evalEs C es r st).bind fun ps st1 => R.of (bfP f ps st1) st1 := by rw [evalE]
@[simp] theorem ev_ix (a b : E) : evalE C (.ix a b) r st = (evalE C a r st).bind fun x st1 => (evalE C b r st1).bind fun y st2 => R.of (ixP x y st2) st2 := by rw [evalE]
@[simp] theorem ev_slice (a : E) (lo hi : Option E) : evalE C (.slice a lo hi) r st = (evalE C a r st).bind fun x st1 => (evalM C lo r st1).bind fun l st2 => (evalM C hi r st2).bind fun h st3 => R.of (sliceP x l h st3) st3 := by rw [evalE]
@[simp] theorem ev_rev (a : E) : evalE C (.rev a) r st = (evalE C a r st).bind fun x st1 => match x with | .d (.tup xs) => .ok (.d (.tup xs.reverse)) st1 | _ => .no := by rw [evalE] <;> rfl
@[simp] theorem ev_tget (t : List (Str × Int)) (a : E) : evalE C (.tget t a) r st = (evalE C a r st).bind fun x st1 => match x with | .d (.str k) => .ok (.d (match lkS t k with | some i => .int i | none => .non)) st1 | _ => .no := by rw [evalE] <;> rfl
@[simp] theorem ev_dnew (t : Bool) : evalE C (.dnew t) r st = .ok (.obj st.length) (st ++ [if t then .dT [] else .dK []]) := by rw [evalE]
@[simp] theorem ev_dget (a b : E) : evalE C (.dget a b) r st = (evalE C a r st).bind fun x st1 => (R.of (theDic st1 x) st1).bind fun _ st1 => (evalE C b r st1).bind fun y st2 => R.of (getP x y (.d .non) st2) st2 := by rw [evalE]
@[simp] theorem ev_dget2 (a b c : E) : evalE C (.dget2 a b c) r st = (evalE C a r st).bind fun x st1 => (R.of (theDic st1 x) st1).bind fun _ st1 => (evalE C b r st1).bind fun y st2 => (evalE C c r st2).bind fun z st3 => R.of (getP x y z st3) st3 := by rw [evalE]
@[simp] theorem ev_index (a b : E) : evalE C (.index a b) r st = (evalE C a r st).bind fun x st1 => (R.of (litems st1 x) st1).bind fun _ st1 => (evalE C b r st1).bind fun y st2 => R.of (indexP x y st2) st2 := by rw [evalE]
@[simp] theorem evL_rng (es : List E) : evalL C (.rng es) r st = (evalEs C es r st).bind fun ps st1 => (R.of (rngP ps) st1).bind fun qs st2 => if qs.length ≤ lineN then .ok qs st2 else .no := by rw [evalL]
@[simp] theorem evL_zip (a b : E) : evalL C (.zip a b) r st = (evalE C a r st).bind fun x st1 => (evalE C b r st1).bind fun y st2 => (R.of (zipP x y) st2).bind fun zs st3 => .ok (zs.map .d) st3 := by rw [evalL]
@[simp] theorem evL_compO (e : E) (js : List Nat) (c : Option E) (ee : E) : evalL C (.compO e js c ee) r st = (evalE C e r st).bind fun x st1 => match x with | .obj n => compO n (fun p => some p :: blockR js r) (evalC C c) (fun r' st' => evalE C ee r' st') lineN 0 st1 | _ => .no := by rw [evalL] <;> rfl
@[simp] theorem evM_none : evalM C none r st = .ok none st := by rw [evalM]
@[simp] theorem evM_some (e : E) : evalM C (some e) r st = (evalE C e r st).bind fun x st1 => .ok (some x) st1 := by rw [evalM]
@[simp] theorem evs_nil : evalEs C [] r st = .ok [] st := by rw [evalEs]
@[simp] theorem evs_cons (e : E) (es : List E) : evalEs C (e :: es) r st = (evalE C e r st).bind fun x st1 => (evalEs C es r st1).bind fun xs st2 => .ok (x :: xs) st2 := by rw [evalEs]
@[simp] theorem evA_one (e : E) : evalA C [e] r st = evalE C e r st := by rw [evalA]
@[simp] theorem evA_two (e e' : E) (es : List E) : evalA C (e :: e' :: es) r st = (evalE C e r st).bind fun x st1 => match x with | .d (.bl b) => if b then evalA C (e' :: es) r st1 else .ok (.d (.bl false)) st1 | _ => .no := by rw [evalA] <;> rfl
@[simp] theorem evO_one (e : E) : evalO C [e] r st = evalE C e r st := by rw [evalO]
@[simp] theorem evO_two (e e' : E) (es : List E) : evalO C (e :: e' :: es) r st = (evalE C e r st).bind fun x st1 => match x with | .d (.bl b) => if b then .ok (.d (.bl true)) st1 else evalO C (e' :: es) r st1 | _ => .no := by rw [evalO] <;> rfl
@[simp] theorem evL_disp (es : List E) : evalL C (.disp es) r st = (evalEs C es r st).bind fun ps st1 => if ps.length ≤ lineN then .ok ps st1 else .no := by rw [evalL]
@[simp] theorem evL_list (e : E) : evalL C (.list e) r st = (evalE C e r st).bind fun x st1 => R.of (sitems st1 x) st1 := by rw [evalL]
@[simp] theorem evW_ex (e : E) : evalW C (.ex e) r st = (evalE C e r st).bind fun x st1 => R.of (ditems x) st1 := by rw [evalW]
@[simp] theorem evW_rng (es : List E) : evalW C (.rng es) r st = (evalEs C es r st).bind fun ps st1 => R.of (rngP ps) st1 := by rw [evalW]
@[simp] theorem evW_enum (e : E) : evalW C (.enum e) r st = (evalE C e r st).bind fun x st1 => match x with | .d (.tup xs) => .ok (enumL 0 xs) st1 | _ => .no := by rw [evalW] <;> rfl
@[simp] theorem evW_zip (a b : E) : evalW C (.zip a b) r st = (evalE C a r st).bind fun x st1 => (evalE C b r st1).bind fun y st2 => (R.of (zipP x y) st2).bind fun zs st3 => .ok (zs.map .d) st3 := by rw [evalW]
@[simp] theorem op_ii (o : Bop) (i j : Int) : opP o (.d (.int i)) (.d (.int j)) st = (opI o i j).map fun k => .d (.int k) := by cases o <;> rfl
@[simp] theorem op_tt (xs ys : List D) : opP .add (.d (.tup xs)) (.d (.tup ys)) st = if xs.length + ys.length ≤ lineN then some (.d (.tup (xs ++ ys))) else none := rfl
@[simp] theorem op_ss (x y : Str) : opP .add (.d (.str x)) (.d (.str y)) st = if x.length + y.length ≤ lineN then some (.d (.str (x ++ y))) else none := rfl
@[simp] theorem op_t2 (xs : List D) : opP .mul (.d (.tup xs)) (.d (.int 2)) st = if 0 < xs.length ∧ xs.length ≤ 100000 then some (.d (.tup (xs ++ xs))) else none := by simp [opP]
@[simp] theorem op_t1 (xs : List D) : opP .mul (.d (.tup xs)) (.d (.int 1)) st = some (.d (.tup xs)) := by simp [opP]
@[simp] theorem op_t3 (xs : List D) : opP .mul (.d (.tup xs)) (.d (.int 3)) st = if 0 < xs.length ∧ xs.length ≤ 100000 then some (.d (.tup (xs ++ xs ++ xs))) else none := by simp [opP]
@[simp] theorem op_ll (xs ys : List D) : opP .add (.d (.pl xs)) (.d (.pl ys)) st = if xs.length + ys.length ≤ lineN then some (.d (.pl (xs ++ ys))) else none := by
  have e : dvals (xs.map P.d ++ ys.map P.d) = some (xs ++ ys) := by rw [← List.map_append, dvals_map']
  simp [opP, litems, e]
@[simp] theorem opI_add (i j : Int) : opI .add i j = some (i + j) := rfl
@[simp] theorem opI_sub (i j : Int) : opI .sub i j = some (i - j) := rfl
theorem opI_mul {i j : Int} (h : (-bigI < i ∧ i < bigI) ∨ (-bigI < j ∧ j < bigI)) : opI .mul i j = some (i * j) := by unfold opI; simp only [if_pos h]
theorem opI_mod {i j : Int} (h : 0 < j) : opI .mod i j = some (i % j) := by unfold opI; simp only [if_pos h]
theorem opI_fdiv {i j : Int} (h : 0 < j ∧ j < 1073741824) : opI .fdiv i j = some (i / j) := by unfold opI; simp only [if_pos h]
@[simp] theorem tru_bl (b : Bool) : truP st (.d (.bl b)) = some b := rfl
@[simp] theorem ty_non : tyD (.d .non) st = some "NoneType" := rfl
@[simp] theorem ty_bl (b : Bool) : tyD (.d (.bl b)) st = some "bool" := rfl
@[simp] theorem ty_int (b : Int) : tyD (.d (.int b)) st = some "int" := rfl
@[simp] theorem ty_str (b : Str) : tyD (.d (.str b)) st = some "str" := rfl
@[simp] theorem ty_tup (b : List D) : tyD (.d (.tup b)) st = some "tuple" := rfl
@[simp] theorem ty_pl (b : List D) : tyD (.d (.pl b)) st = some "list" := rfl
@[simp] theorem cmp_lt (i j : Int) : cmpP .lt (.d (.int i)) (.d (.int j)) st = some (decide (i < j)) := rfl
@[simp] theorem cmp_le (i j : Int) : cmpP .le (.d (.int i)) (.d (.int j)) st = some (decide (i ≤ j)) := rfl
@[simp] theorem cmp_gt (i j : Int) : cmpP .gt (.d (.int i)) (.d (.int j)) st = some (decide (j < i)) := rfl
@[simp] theorem cmp_ge (i j : Int) : cmpP .ge (.d (.int i)) (.d (.int j)) st = some (decide (j ≤ i)) := rfl
@[simp] theorem cmp_eq (x y : D) : cmpP .eq (.d x) (.d y) st = eqO x y := rfl
@[simp] theorem cmp_ne (x y : D) : cmpP .ne (.d x) (.d y) st = (eqO x y).map not := rfl
@[simp] theorem cmp_isN (x : D) : cmpP .isN (.d x) (.d .non) st = some (isNon (.d x)) := rfl
@[simp] theorem cmp_notN (x : D) : cmpP .notN (.d x) (.d .non) st = some (!isNon (.d x)) := rfl
@[simp] theorem eqO_str (x y : Str) : eqO (.str x) (.str y) = some (x == y) := by simp [eqO, depD, eqD]
@[simp] theorem eqO_int (x y : Int) : eqO (.int x) (.int y) = some (x == y) := by simp [eqO, depD, eqD]
@[simp] theorem eqO_bl (x y : Bool) : eqO (.bl x) (.bl y) = some (x == y) := by simp [eqO, depD, eqD]
@[simp] theorem eqO_ni (y : Int) : eqO .non (.int y) = some false := by simp [eqO, depD, eqD]
@[simp] theorem eqO_t0 (xs : List D) : eqO (.tup xs) (.tup []) = some xs.isEmpty := by
  have h : min (depD (.tup xs)) (depD (.tup [])) ≤ 100 := Nat.le_trans (Nat.min_le_right _ _) (by simp [depD, depDs])
  unfold eqO
  rw [if_pos h]
  cases xs <;> simp [eqD, eqDs]
@[simp] theorem eqO_l0 (xs : List D) : eqO (.pl xs) (.pl []) = some xs.isEmpty := by
  have h : min (depD (.pl xs)) (depD (.pl [])) ≤ 100 := Nat.le_trans (Nat.min_le_right _ _) (by simp [depD, depDs])
  unfold eqO
  rw [if_pos h]
  cases xs <;> simp [eqD, eqDs]
@[simp] theorem bf_lenT (xs : List D) : bfP .len [.d (.tup xs)] st = some (.d (.int xs.length)) := by simp [bfP, sitems]
@[simp] theorem bf_lenL (xs : List D) : bfP .len [.d (.pl xs)] st = some (.d (.int xs.length)) := by simp [bfP, sitems, litems]
@[simp] theorem bf_lenS (ns : List Int) : bfP .len [.scr ns] st = some (.d (.int ns.length)) := by simp [bfP, sitems]
@[simp] theorem bf_min (i j : Int) : bfP .min2 [.d (.int i), .d (.int j)] st = some (.d (.int (min i j))) := rfl
@[simp] theorem bf_max (i j : Int) : bfP .max2 [.d (.int i), .d (.int j)] st = some (.d (.int (max i j))) := rfl
@[simp] theorem bf_allL (xs : List D) : bfP .all [.d (.pl xs)] st = (boolsOf (xs.map .d)).map fun bs => .d (.bl (bs.all id)) := rfl
@[simp] theorem bf_tupL (xs : List D) : bfP .tuple [.d (.pl xs)] st = some (.d (.tup xs)) := by simp [bfP, sitems, litems]
@[simp] theorem bf_tupT (xs : List D) : bfP .tuple [.d (.tup xs)] st = some (.d (.tup xs)) := by simp [bfP, sitems]
@[simp] theorem ix_t (xs : List D) (i : Int) : ixP (.d (.tup xs)) (.d (.int i)) st = (atI xs i).map .d := by
  simp only [ixP, theDic_d, theDic_scr, ixS, sitems, Option.bind_some, atI, List.length_map]
  cases ixN xs.length i <;> simp
@[simp] theorem ix_l (xs : List D) (i : Int) : ixP (.d (.pl xs)) (.d (.int i)) st = (atI xs i).map .d := by
  simp only [ixP, theDic_d, theDic_scr, ixS, sitems, litems, Option.bind_some, atI, List.length_map]
  cases ixN xs.length i <;> simp
@[simp] theorem ix_s (ns : List Int) (i : Int) : ixP (.scr ns) (.d (.int i)) st = (atI ns i).map fun k => .d (.int k) := by
  simp only [ixP, theDic_d, theDic_scr, ixS, sitems, Option.bind_some, atI, List.length_map]
  cases ixN ns.length i <;> simp
@[simp] theorem dit_t (xs : List D) : ditems (.d (.tup xs)) = some (xs.map .d) := rfl
@[simp] theorem dit_l (xs : List D) : ditems (.d (.pl xs)) = some (xs.map .d) := rfl
@[simp] theorem sit_t (xs : List D) : sitems st (.d (.tup xs)) = some (xs.map .d) := rfl
@[simp] theorem sit_l (xs : List D) : sitems st (.d (.pl xs)) = some (xs.map .d) := rfl
@[simp] theorem sl_t (xs : List D) (lo hi : Option P) : sliceP (.d (.tup xs)) lo hi st = (partI lo).bind fun l => (partI hi).map fun h => .d (.tup (cutL xs l h)) := by
  unfold sliceP
  cases partI lo <;> simp
  cases partI hi <;> simp
@[simp] theorem part_none : partI none = some none := rfl
@[simp] theorem part_int (i : Int) : partI (some (.d (.int i))) = some (some i) := rfl
@[simp] theorem dv_cons (x : D) (ps : List P) : dvals (.d x :: ps) = (dvals ps).map fun xs => x :: xs := rfl
@[simp] theorem dv_nil : dvals [] = some [] := rfl
theorem atI_nat {α : Type} {xs : List α} {k : Nat} {a : α} (h : xs[k]? = some a) : atI xs (k : Int) = some a := by
  have hk := (List.getElem?_eq_some_iff.mp h).1
  unfold atI ixN
  rw [if_pos (by omega), if_pos (by omega)]
  simpa using h
@[simp] theorem atI0 {α : Type} (a : α) (xs : List α) : atI (a :: xs) 0 = some a := atI_nat (k := 0) rfl
@[simp] theorem atI1 {α : Type} (a b : α) (xs : List α) : atI (a :: b :: xs) 1 = some b := atI_nat (k := 1) rfl
theorem step_nx {s : S} {rest : List S} {r1 : Rho} {st1 : Sto} {res : R Fl} (h : execS C s r st = .ok (.nx r1) st1) (k : execSs C rest r1 st1 = res) : execSs C (s :: rest) r st = res := by rw [execSs, h, bind_ok]; exact k
theorem step_rt {s : S} {rest : List S} {v : P} {st1 : Sto} (h : execS C s r st = .ok (.rt v) st1) : execSs C (s :: rest) r st = .ok (.rt v) st1 := by rw [execSs, h, bind_ok]
theorem step_nil : execSs C [] r st = .ok (.nx r) st := by rw [execSs]
theorem x_ret {e : E} {v : P} {st1 : Sto} (h : evalE C e r st = .ok v st1) : execS C (.ret e) r st = .ok (.rt v) st1 := by rw [execS, h, bind_ok]
theorem x_set {i : Nat} {e : E} {v : P} {st1 : Sto} (h : evalE C e r st = .ok v st1) : execS C (.set i e) r st = .ok (.nx (r.set i (some v))) st1 := by rw [execS, h, bind_ok]
theorem x_ift {c : E} {a b : List S} {st1 : Sto} {res : R Fl} (hc : evalE C c r st = .ok (.d (.bl true)) st1) (h : execSs C a r st1 = res) : execS C (.ifs c a b) r st = res := by rw [execS, runT, hc]; simpa using h
theorem x_iff {c : E} {a b : List S} {st1 : Sto} {res : R Fl} (hc : evalE C c r st = .ok (.d (.bl false)) st1) (h : execSs C b r st1 = res) : execS C (.ifs c a b) r st = res := by rw [execS, runT, hc]; simpa using h
theorem x_for {t : Tg} {w : W} {b : List S} {ps : List P} {st1 : Sto} {res : R Fl} (hw : evalW C w r st = .ok ps st1) (h : forL (tgR t) (execSs C b) ps r st1 = res) : execS C (.for_ t w b) r st = res := by rw [execS, hw, bind_ok]; exact h
theorem x_app {a e : E} {x v : P} {its : List P} {st1 st2 st3 : Sto} (ha : evalE C a r st = .ok x st1) (hl : litems st1 x = some its) (he : evalE C e r st1 = .ok v st2) (hp : appP x v st2 = some st3) : execS C (.app a e) r st = .ok (.nx r) st3 := by
  rw [execS, ha, bind_ok, hl, of_some, bind_ok, he, bind_ok, hp, of_some, bind_ok]
end
end Y

namespace Y
open PySem
def cell (ns : List Int) (k : Nat) : Int := ns.getD k 0
def mix1 (ns : List Int) (k : Nat) : Int := (cell ns k + 7919 * k + 1) * 48271 % 2147483647
def mixed (ns : List Int) (k : Nat) : Int := (mix1 ns k * mix1 ns k + 7 * mix1 ns k + k) % 2147483629
theorem mod_range (i : Int) {j : Int} (h : 0 < j) : 0 ≤ i % j ∧ i % j < j := ⟨Int.emod_nonneg _ (by omega), Int.emod_lt_of_pos _ h⟩
def drw1 (x : Int) (k : Nat) : Int := (x + 104729 * k + 17) * 69621 % 2147483647
def drawn (x : Int) (k : Nat) : Int := (drw1 x k * drw1 x k + 3 * drw1 x k + k) % 2147483629
theorem drawn_range (x : Int) (k : Nat) : 0 ≤ drawn x k ∧ drawn x k < 2147483629 := ⟨Int.emod_nonneg _ (by decide), Int.emod_lt_of_pos _ (by decide)⟩
abbrev Mch := List (Nat × List Nat)
def nD (n : Nat) : D := .int (n : Int)
def wD (u : List Nat) : D := .tup (u.map nD)
def stD (s : Nat × List Nat) : D := .tup [nD s.1, wD s.2]
def mD (m : Mch) : D := .tup (m.map stD)
structure OkM (w : Nat) (m : Mch) : Prop where
  ne : 0 < m.length
  good : ∀ s ∈ m, s.1 ≤ 1
  len : ∀ s ∈ m, s.2.length = w
  lt : ∀ s ∈ m, ∀ t ∈ s.2, t < m.length
def row (m : Mch) (s : Nat) : Nat × List Nat := m.getD s (0, [])
def stp (m : Mch) (s a : Nat) : Nat := (row m s).2.getD a 0
def gd (m : Mch) (s : Nat) : Nat := (row m s).1
def walk (m : Mch) (s : Nat) (u : List Nat) : Nat := u.foldl (stp m) s
def hasM (m : Mch) (u : List Nat) : Bool := gd m (walk m 0 u) == 1
theorem row_mem {m : Mch} {s : Nat} (h : s < m.length) : row m s ∈ m := by
  unfold row
  rw [List.getD_eq_getElem?_getD, List.getElem?_eq_getElem h]
  exact List.getElem_mem h
theorem row_at {m : Mch} {s : Nat} (h : s < m.length) : m[s]? = some (row m s) := by
  unfold row
  rw [List.getD_eq_getElem?_getD, List.getElem?_eq_getElem h]
  rfl
theorem OkM.stp {w : Nat} {m : Mch} (k : OkM w m) {s a : Nat} (hs : s < m.length) (ha : a < w) : stp m s a < m.length := by
  have hr := row_mem hs
  have hl := k.len _ hr
  unfold Y.stp
  rw [List.getD_eq_getElem?_getD, List.getElem?_eq_getElem (by omega)]
  exact k.lt _ hr _ (List.getElem_mem _)
theorem OkM.walk {w : Nat} {m : Mch} (k : OkM w m) : ∀ {u : List Nat} {s : Nat}, s < m.length → (∀ a ∈ u, a < w) → walk m s u < m.length
  | [], s, hs, _ => hs
  | a :: u, s, hs, hu => OkM.walk (u := u) k (k.stp hs (hu a List.mem_cons_self)) fun b hb => hu b (List.mem_cons_of_mem _ hb)
theorem walk_app (m : Mch) (s : Nat) (u v : List Nat) : walk m s (u ++ v) = walk m (walk m s u) v := List.foldl_append ..
theorem at_m {m : Mch} {s : Nat} (h : s < m.length) : atI (m.map stD) (s : Int) = some (stD (row m s)) := atI_nat (by rw [List.getElem?_map, row_at h]; rfl)
theorem at_s {w : Nat} {m : Mch} (k : OkM w m) {s a : Nat} (h : s < m.length) (ha : a < w) : atI ((row m s).2.map nD) (a : Int) = some (nD (stp m s a)) := by
  have hl := k.len _ (row_mem h)
  refine atI_nat ?_
  rw [List.getElem?_map, List.getElem?_eq_getElem (by omega)]
  unfold stp
  rw [List.getD_eq_getElem?_getD, List.getElem?_eq_getElem (by omega)]
  rfl
theorem ev_step {C : Nat → List P → Sto → R P} {r : Rho} {st : Sto} {w : Nat} {m : Mch} (k : OkM w m) {em es ea : E} {s a : Nat} (h : s < m.length) (ha : a < w)
    (e1 : evalE C em r st = .ok (.d (mD m)) st) (e2 : evalE C es r st = .ok (.d (.int (s : Int))) st) (e3 : evalE C ea r st = .ok (.d (.int (a : Int))) st) :
    evalE C (.ix (.ix (.ix em es) (.cst (.int 1))) ea) r st = .ok (.d (.int (stp m s a : Nat))) st := by
  simp [e1, e2, e3, mD, at_m h, stD, wD, at_s k h ha, nD]
theorem ev_good {C : Nat → List P → Sto → R P} {r : Rho} {st : Sto} {m : Mch} {em es : E} {s : Nat} (h : s < m.length)
    (e1 : evalE C em r st = .ok (.d (mD m)) st) (e2 : evalE C es r st = .ok (.d (.int (s : Int))) st) :
    evalE C (.ix (.ix em es) (.cst (.int 0))) r st = .ok (.d (.int (gd m s : Nat))) st := by
  simp [e1, e2, mD, at_m h, stD, nD, gd]
theorem walk_loop {C : Nat → List P → Sto → R P} {st : Sto} {r : Rho} {iM iS iL w : Nat} {m : Mch} (k : OkM w m) (hM : r[iM]? = some (some (.d (mD m)))) (h1 : iM ≠ iS) (h2 : iM ≠ iL) (h3 : iS ≠ iL) (hS : iS < r.length) (hL : iL < r.length) :
    ∀ (u : List Nat) (s : Nat) (x : Option P), s < m.length → (∀ a ∈ u, a < w) →
    ∃ y, forL (tgR (.nm iL)) (execSs C [.set iS (.ix (.ix (.ix (.var iM) (.var iS)) (.cst (.int 1))) (.var iL))]) ((u.map nD).map P.d) ((r.set iS (some (.d (.int (s : Int))))).set iL x) st
      = .ok (.nx ((r.set iS (some (.d (.int (walk m s u : Nat))))).set iL y)) st
  | [], s, x, _, _ => ⟨x, rfl⟩
  | a :: u, s, x, hs, hu => by
    have ha := hu a List.mem_cons_self
    obtain ⟨y, ih⟩ := walk_loop (C := C) (st := st) k hM h1 h2 h3 hS hL u (stp m s a) (some (.d (.int (a : Int)))) (k.stp hs ha) fun b hb => hu b (List.mem_cons_of_mem _ hb)
    refine ⟨y, ?_⟩
    rw [List.map_cons, List.map_cons, forL, tgR, of_some, bind_ok, List.set_set]
    have e : execSs C [.set iS (.ix (.ix (.ix (.var iM) (.var iS)) (.cst (.int 1))) (.var iL))] ((r.set iS (some (.d (.int (s : Int))))).set iL (some (.d (nD a)))) st
        = .ok (.nx ((r.set iS (some (.d (.int (stp m s a : Nat))))).set iL (some (.d (.int (a : Int)))))) st := by
      refine step_nx (x_set (st1 := st) (ev_step k hs ha ?_ ?_ ?_)) ?_
      · rw [ev_var, List.getElem?_set_ne (fun z => h2 z.symm), List.getElem?_set_ne (fun z => h1 z.symm), hM]; rfl
      · rw [ev_var, List.getElem?_set_ne (fun z => h3 z.symm), List.getElem?_set_self hS]; rfl
      · rw [ev_var, List.getElem?_set_self (by simpa using hL)]; rfl
      · rw [step_nil, List.set_comm _ _ (fun z => h3 z.symm), List.set_set]; rfl
    rw [e, bind_ok]
    exact ih
def drM (x : Int) (w c : Nat) : Mch := (List.range c).map fun k => ((drawn x (7 * k + 5) % 3 % 2).toNat, (List.range w).map fun l => (drawn x (7 * k + l) % (c : Int)).toNat)
theorem drM_ok (x : Int) (w : Nat) {c : Nat} (hc : 0 < c) : OkM w (drM x w c) := by
  refine ⟨by simp [drM]; exact hc, fun s hs => ?_, fun s hs => ?_, fun s hs t ht => ?_⟩ <;>
    (simp only [drM, List.mem_map, List.mem_range] at hs; obtain ⟨k, hk, rfl⟩ := hs)
  · have := mod_range (drawn x (7 * k + 5) % 3) (show (0 : Int) < 2 by decide); dsimp only; omega
  · simp
  · simp only [List.mem_map, List.mem_range] at ht
    obtain ⟨l, hl, rfl⟩ := ht
    have := mod_range (drawn x (7 * k + l)) (show (0 : Int) < (c : Int) by omega)
    simp only [drM, List.length_map, List.length_range]; omega
theorem drM_len (x : Int) (w c : Nat) : (drM x w c).length = c := by simp [drM]
theorem rng1 {j : Nat} (h : j < 1000000) : rngP [.d (.int (j : Int))] = some ((List.range j).map fun k => .d (.int (k : Int))) := by
  have c1 : -rngI ≤ (j : Int) ∧ (j : Int) < rngI := by unfold rngI; omega
  unfold rngP
  simp only [if_pos c1, rngL]
  congr 1
  simp
theorem evW_rng1 {C : Nat → List P → Sto → R P} {r : Rho} {st : Sto} {e : E} {j : Nat} (h : evalE C e r st = .ok (.d (.int (j : Int))) st) (hj : j < 1000000) : evalW C (.rng [e]) r st = .ok ((List.range j).map fun k : Nat => .d (.int (k : Int))) st := by
  rw [evW_rng, evs_cons, h, bind_ok, evs_nil, bind_ok, bind_ok, rng1 hj, of_some]
theorem beq1 (n : Nat) : ((n : Int) == 1) = (n == 1) := by rw [Bool.eq_iff_iff]; simp; omega
end Y

/-! the text of the program and the law, def by def -/
namespace K10
open PySem L2 Y
def B_behind_1 : List S := [.set 1 (.ix (.ix (.ix (.var 0) (.var 1)) (.cst (.int (1)))) (.var 3))]
def F_behind : Fn := { np := 3, nn := 4, body := [.for_ (.nm 3) (.ex (.var 2)) B_behind_1,
    .ret (.var 1)] }
def F_has : Fn := { np := 2, nn := 2, body := [.ret (.cmp .eq (.ix (.ix (.var 0) (.call 0 [(.var 0), (.cst (.int (0))), (.var 1)])) (.cst (.int (0)))) (.cst (.int (1))))] }
def F__law_cell_at : Fn := { np := 2, nn := 2, body := [.ifs (.cmp .lt (.var 1) (.bf .len [(.var 0)])) [.ret (.ix (.var 0) (.var 1))] [],
    .ret (.cst (.int (0)))] }
def F__law_mixed : Fn := { np := 2, nn := 3, body := [.set 2 (.op .mod (.op .mul (.op .add (.op .add (.call 2 [(.var 0), (.var 1)]) (.op .mul (.cst (.int (7919))) (.var 1))) (.cst (.int (1)))) (.cst (.int (48271)))) (.cst (.int (2147483647)))),
    .ret (.op .mod (.op .add (.op .add (.op .mul (.var 2) (.var 2)) (.op .mul (.cst (.int (7))) (.var 2))) (.var 1)) (.cst (.int (2147483629))))] }
def F__law_drawn : Fn := { np := 2, nn := 3, body := [.set 2 (.op .mod (.op .mul (.op .add (.op .add (.var 0) (.op .mul (.cst (.int (104729))) (.var 1))) (.cst (.int (17)))) (.cst (.int (69621)))) (.cst (.int (2147483647)))),
    .ret (.op .mod (.op .add (.op .add (.op .mul (.var 2) (.var 2)) (.op .mul (.cst (.int (3))) (.var 2))) (.var 1)) (.cst (.int (2147483629))))] }
def B__law_machine_1 : List S := [.set 6 (.bf .tuple [(.lst false (.comp (.rng [(.var 1)]) 1 [3, 0, 5] none (.op .mod (.call 4 [(.var 2), (.op .add (.op .mul (.cst (.int (7))) (.var 3)) (.var 0))]) (.var 1))))]),
    .app (.var 4) (.tup [(.op .mod (.op .mod (.call 4 [(.var 0), (.op .add (.op .mul (.cst (.int (7))) (.var 5)) (.cst (.int (5))))]) (.cst (.int (3)))) (.cst (.int (2)))), (.var 6)])]
def F__law_machine : Fn := { np := 3, nn := 7, body := [.set 3 (.op .add (.cst (.int (1))) (.op .mod (.var 0) (.var 2))),
    .set 4 (.lst true (.disp [])),
    .for_ (.nm 5) (.rng [(.var 3)]) B__law_machine_1,
    .ret (.bf .tuple [(.var 4)])] }
def B__law_has_1 : List S := [.set 2 (.ix (.ix (.ix (.var 0) (.var 2)) (.cst (.int (1)))) (.var 3))]
def F__law_has : Fn := { np := 2, nn := 4, body := [.set 2 (.cst (.int (0))),
    .for_ (.nm 3) (.ex (.var 1)) B__law_has_1,
    .ret (.cmp .eq (.ix (.ix (.var 0) (.var 2)) (.cst (.int (0)))) (.cst (.int (1))))] }
def B_law_1 : List S := [.set 7 (.ix (.ix (.ix (.var 2) (.var 7)) (.cst (.int (1)))) (.var 8))]
def B_law_2 : List S := [.set 4 (.call 4 [(.call 3 [(.var 0), (.cst (.int (2)))]), (.var 3)]),
    .set 5 (.bf .tuple [(.lst false (.comp (.rng [(.op .fdiv (.op .mul (.op .mod (.var 4) (.cst (.int (61)))) (.op .mod (.var 3) (.cst (.int (3))))) (.cst (.int (2))))]) 1 [1, 4] none (.op .mod (.call 4 [(.var 2), (.var 0)]) (.var 1))))]),
    .set 6 (.op .mod (.op .fdiv (.var 4) (.cst (.int (61)))) (.bf .len [(.var 2)])),
    .set 7 (.var 6),
    .for_ (.nm 8) (.ex (.var 5)) B_law_1,
    .set 9 (.op .mod (.op .fdiv (.var 4) (.cst (.int (7)))) (.op .add (.bf .len [(.var 5)]) (.cst (.int (1))))),
    .set 10 (.call 0 [(.var 2), (.var 6), (.var 5)]),
    .ifs (.or [(.isi (.var 10) "bool"), (.cmp .ne (.var 10) (.var 7)), (.cmp .ne (.call 0 [(.var 2), (.var 6), (.tup [])]) (.var 6))]) [.ret (.cst (.bl false))] [],
    .ifs (.cmp .ne (.call 0 [(.var 2), (.call 0 [(.var 2), (.var 6), (.slice (.var 5) none (some (.var 9)))]), (.slice (.var 5) (some (.var 9)) none)]) (.var 7)) [.ret (.cst (.bl false))] [],
    .set 11 (.call 1 [(.var 2), (.var 5)]),
    .ifs (.or [(.not (.isi (.var 11) "bool")), (.cmp .ne (.var 11) (.call 6 [(.var 2), (.var 5)]))]) [.ret (.cst (.bl false))] []]
def F_law : Fn := { np := 1, nn := 12, body := [.set 1 (.op .add (.cst (.int (1))) (.op .mod (.call 3 [(.var 0), (.cst (.int (0)))]) (.cst (.int (3))))),
    .set 2 (.call 5 [(.call 3 [(.var 0), (.cst (.int (1)))]), (.var 1), (.cst (.int (6)))]),
    .for_ (.nm 3) (.rng [(.cst (.int (20)))]) B_law_2,
    .ret (.cst (.bl true))] }
def Fs : List Fn := [F_behind, F_has, F__law_cell_at, F__law_mixed, F__law_drawn, F__law_machine, F__law_has, F_law]
theorem at_behind : Fs[0]? = some F_behind := rfl
theorem at_has : Fs[1]? = some F_has := rfl
theorem at__law_cell_at : Fs[2]? = some F__law_cell_at := rfl
theorem at__law_mixed : Fs[3]? = some F__law_mixed := rfl
theorem at__law_drawn : Fs[4]? = some F__law_drawn := rfl
theorem at__law_machine : Fs[5]? = some F__law_machine := rfl
theorem at__law_has : Fs[6]? = some F__law_has := rfl
theorem at_law : Fs[7]? = some F_law := rfl
end K10

namespace K10
open PySem Y
/-! ### what the law draws -/
theorem cell_spec (n : Nat) (ns : List Int) (k : Nat) (st : Sto) : callC Fs (n + 1) 2 [.scr ns, .d (.int k)] st = .ok (.d (.int (cell ns k))) st := by
  refine call_of at__law_cell_at rfl (run_of (p := .d (.int (cell ns k))) (st := []) rfl ?_ rfl)
  by_cases h : k < ns.length
  · have h1 : (k : Int) < (ns.length : Int) := by omega
    have h2 : atI ns (k : Int) = some (cell ns k) := atI_nat (by unfold cell; rw [List.getD_eq_getElem?_getD, List.getElem?_eq_getElem h]; rfl)
    exact step_rt (x_ift (st1 := []) (by simp [startR, F__law_cell_at, h]) (step_rt (x_ret (by simp [startR, F__law_cell_at, h2]))))
  · have h1 : cell ns k = 0 := by unfold cell; rw [List.getD_eq_getElem?_getD, List.getElem?_eq_none (by omega)]; rfl
    rw [h1]
    exact step_nx (x_iff (st1 := []) (by simp [startR, F__law_cell_at]; omega) step_nil) (step_rt (x_ret (by simp)))
theorem mixed_spec (n : Nat) (ns : List Int) (k : Nat) (st : Sto) : callC Fs (n + 2) 3 [.scr ns, .d (.int k)] st = .ok (.d (.int (mixed ns k))) st := by
  refine call_of at__law_mixed rfl (run_of (p := .d (.int (mixed ns k))) (st := []) rfl ?_ rfl)
  obtain ⟨m1, m2⟩ := mod_range ((cell ns k + 7919 * k + 1) * 48271) (show (0 : Int) < 2147483647 by decide)
  have c1 : ∀ z : Int, opI .mul 7919 z = some (7919 * z) := fun z => opI_mul (.inl (by decide))
  have c2 : ∀ z : Int, opI .mul z 48271 = some (z * 48271) := fun z => opI_mul (.inr (by decide))
  have c3 : ∀ z : Int, opI .mul 7 z = some (7 * z) := fun z => opI_mul (.inl (by decide))
  refine step_nx (x_set (v := .d (.int (mix1 ns k))) (st1 := []) (by simp [startR, F__law_mixed, cell_spec, c1, c2, opI_mod, mix1])) ?_
  have b : -bigI < mix1 ns k ∧ mix1 ns k < bigI := by unfold bigI mix1; omega
  exact step_rt (x_ret (by simp [startR, F__law_mixed, opI_mul, c3, opI_mod, b, mixed]))
theorem drawn_spec (n : Nat) (x : Int) (k : Nat) (st : Sto) : callC Fs (n + 1) 4 [.d (.int x), .d (.int k)] st = .ok (.d (.int (drawn x k))) st := by
  refine call_of at__law_drawn rfl (run_of (p := .d (.int (drawn x k))) (st := []) rfl ?_ rfl)
  obtain ⟨m1, m2⟩ := mod_range ((x + 104729 * k + 17) * 69621) (show (0 : Int) < 2147483647 by decide)
  have c1 : ∀ z : Int, opI .mul 104729 z = some (104729 * z) := fun z => opI_mul (.inl (by decide))
  have c2 : ∀ z : Int, opI .mul z 69621 = some (z * 69621) := fun z => opI_mul (.inr (by decide))
  have c3 : ∀ z : Int, opI .mul 3 z = some (3 * z) := fun z => opI_mul (.inl (by decide))
  refine step_nx (x_set (v := .d (.int (drw1 x k))) (st1 := []) (by simp [startR, F__law_drawn, c1, c2, opI_mod, drw1])) ?_
  have b : -bigI < drw1 x k ∧ drw1 x k < bigI := by unfold bigI drw1; omega
  exact step_rt (x_ret (by simp [startR, F__law_drawn, opI_mul, c3, opI_mod, b, drawn]))
theorem drawn_spec' (n : Nat) (x : Int) {z : Int} (k : Nat) (hz : z = (k : Int)) (st : Sto) : callC Fs (n + 1) 4 [.d (.int x), .d (.int z)] st = .ok (.d (.int (drawn x k))) st := by
  rw [hz]; exact drawn_spec n x k st
theorem mixed_spec' (n : Nat) (ns : List Int) {z : Int} (k : Nat) (hz : z = (k : Int)) (st : Sto) : callC Fs (n + 2) 3 [.scr ns, .d (.int z)] st = .ok (.d (.int (mixed ns k))) st := by
  rw [hz]; exact mixed_spec n ns k st
end K10

namespace K10
open PySem Y
theorem mach_steps (n : Nat) (x : Int) (w c : Nat) (hw : w ≤ 3) (hc : 0 < c) (k : Nat) {r : Rho} {st : Sto} (h1 : getV r 1 = some (.d (.int (w : Int)))) (hb : blockR [3, 0, 5] r = [some (.d (.int (c : Int))), some (.d (.int x)), some (.d (.int (k : Int)))]) :
    evalL (callC Fs (n + 1)) (.comp (.rng [(.var 1)]) 1 [3, 0, 5] none (.op .mod (.call 4 [(.var 2), (.op .add (.op .mul (.cst (.int (7))) (.var 3)) (.var 0))]) (.var 1))) r st
      = .ok ((List.range w).map fun l => .d (nD (drawn x (7 * k + l) % (c : Int)).toNat)) st := by
  have c1 : ∀ z : Int, opI .mul 7 z = some (7 * z) := fun z => opI_mul (.inl (by decide))
  have c2 : ∀ z : Int, opI .mod z (c : Int) = some (z % (c : Int)) := fun z => opI_mod (by omega)
  refine evalL_ints (g := fun k : Nat => P.d (.int (k : Int))) (f := fun l => nD (drawn x (7 * k + l) % (c : Int)).toNat) ?_ (by rw [List.length_range]; unfold lineN; omega) fun l hl => ?_
  · have h1' : (r[1]?).join = some (.d (.int (w : Int))) := h1
    exact evW_rng1 (by rw [ev_var, h1', of_some]) (by omega)
  · rw [hb]
    have := mod_range (drawn x (7 * k + l)) (show (0 : Int) < (c : Int) by omega)
    have e := drawn_spec' n x (z := 7 * (k : Int) + (l : Int)) (7 * k + l) (by simp) st
    have e2 : ((drawn x (7 * k + l) % (c : Int)).toNat : Int) = drawn x (7 * k + l) % (c : Int) := Int.toNat_of_nonneg this.1
    simp only [ev_op, ev_call, evs_cons, evs_nil, ev_var, ev_cst, List.getElem?_cons_zero, List.getElem?_cons_succ, Option.join_some, of_some, bind_ok, op_ii, c1, opI_add, Option.map_some, e, c2, nD, e2]
theorem mach_loop (n : Nat) (x : Int) (w c : Nat) (hw : w ≤ 3) (hc : 0 < c) (a : Option P) : ∀ (ks : List Nat) (ys : List D) (u v : Option P), ys.length + ks.length ≤ 1000 →
    ∃ u' v', forL (tgR (.nm 5)) (execSs (callC Fs (n + 1)) B__law_machine_1) (ks.map fun k : Nat => .d (.int (k : Int))) [some (.d (.int x)), some (.d (.int (w : Int))), a, some (.d (.int (c : Int))), some (.obj 0), u, v] [.lst (ys.map .d)]
      = .ok (.nx [some (.d (.int x)), some (.d (.int (w : Int))), a, some (.d (.int (c : Int))), some (.obj 0), u', v'])
        [.lst ((ys ++ ks.map fun k => stD ((drawn x (7 * k + 5) % 3 % 2).toNat, (List.range w).map fun l => (drawn x (7 * k + l) % (c : Int)).toNat)).map .d)]
  | [], ys, u, v, _ => ⟨u, v, by simp [forL]⟩
  | k :: ks, ys, u, v, hl => by
    obtain ⟨u', v', ih⟩ := mach_loop n x w c hw hc a ks (ys ++ [stD ((drawn x (7 * k + 5) % 3 % 2).toNat, (List.range w).map fun l => (drawn x (7 * k + l) % (c : Int)).toNat)]) (some (.d (.int (k : Int)))) (some (.d (wD ((List.range w).map fun l => (drawn x (7 * k + l) % (c : Int)).toNat)))) (by simp at hl ⊢; omega)
    refine ⟨u', v', ?_⟩
    have c1 : ∀ z : Int, opI .mul 7 z = some (7 * z) := fun z => opI_mul (.inl (by decide))
    have c2 : ∀ z : Int, opI .mod z 3 = some (z % 3) := fun z => opI_mod (by omega)
    have c3 : ∀ z : Int, opI .mod z 2 = some (z % 2) := fun z => opI_mod (by omega)
    have e5 := fun st => drawn_spec' n x (z := 7 * (k : Int) + 5) (7 * k + 5) (by simp) st
    have r5 := mod_range (drawn x (7 * k + 5) % 3) (show (0 : Int) < 2 by decide)
    have es : evalL (callC Fs (n + 1)) (.comp (.rng [(.var 1)]) 1 [3, 0, 5] none (.op .mod (.call 4 [(.var 2), (.op .add (.op .mul (.cst (.int (7))) (.var 3)) (.var 0))]) (.var 1))) [some (.d (.int x)), some (.d (.int (w : Int))), a, some (.d (.int (c : Int))), some (.obj 0), some (.d (.int (k : Int))), v] [.lst (ys.map .d)]
        = .ok ((List.range w).map fun l => .d (nD (drawn x (7 * k + l) % (c : Int)).toNat)) [.lst (ys.map .d)] := mach_steps n x w c hw hc k rfl rfl
    have hll : ys.length < lineN := by unfold lineN; simp at hl; omega
    rw [List.map_cons, forL, tgR, of_some, bind_ok]
    have e : execSs (callC Fs (n + 1)) B__law_machine_1 [some (.d (.int x)), some (.d (.int (w : Int))), a, some (.d (.int (c : Int))), some (.obj 0), some (.d (.int (k : Int))), v] [.lst (ys.map .d)]
        = .ok (.nx [some (.d (.int x)), some (.d (.int (w : Int))), a, some (.d (.int (c : Int))), some (.obj 0), some (.d (.int (k : Int))), some (.d (wD ((List.range w).map fun l => (drawn x (7 * k + l) % (c : Int)).toNat)))])
          [.lst ((ys ++ [stD ((drawn x (7 * k + 5) % 3 % 2).toNat, (List.range w).map fun l => (drawn x (7 * k + l) % (c : Int)).toNat)]).map .d)] := by
      refine step_nx (x_set (v := .d (wD ((List.range w).map fun l => (drawn x (7 * k + l) % (c : Int)).toNat))) (st1 := [.lst (ys.map .d)]) ?_) ?_
      · rw [ev_bf, evs_cons, ev_lstF, es]
        simp [wD, Function.comp_def]
      · refine step_nx (x_app (x := .obj 0) (v := .d (stD ((drawn x (7 * k + 5) % 3 % 2).toNat, (List.range w).map fun l => (drawn x (7 * k + l) % (c : Int)).toNat))) (its := ys.map .d) (st1 := [.lst (ys.map .d)]) (st2 := [.lst (ys.map .d)]) ?_ rfl ?_ ?_) step_nil
        · simp
        · simp [c1, c2, c3, e5, stD, nD, Int.toNat_of_nonneg r5.1, lineN]
        · simp [appP, hll]
    rw [show ([some (.d (.int x)), some (.d (.int (w : Int))), a, some (.d (.int (c : Int))), some (.obj 0), u, v] : Rho).set 5 (some (.d (.int (k : Int)))) = [some (.d (.int x)), some (.d (.int (w : Int))), a, some (.d (.int (c : Int))), some (.obj 0), some (.d (.int (k : Int))), v] from rfl, e, bind_ok]
    dsimp only
    rw [ih]
    simp
theorem mach_spec (n : Nat) (x : Int) (w : Nat) (most : Int) (c : Nat) (hw : w ≤ 3) (hm : 0 < most) (hc : 1 + x % most = (c : Int)) (hc1 : c ≤ 900) (st : Sto) :
    callC Fs (n + 2) 5 [.d (.int x), .d (.int (w : Int)), .d (.int most)] st = .ok (.d (mD (drM x w c))) st := by
  have hx := mod_range x hm
  have c1 : ∀ z : Int, opI .mod z most = some (z % most) := fun z => opI_mod hm
  obtain ⟨u', v', e⟩ := mach_loop n x w c hw (by omega) (some (.d (.int most))) (List.range c) [] none none (by simp; omega)
  refine call_of at__law_machine rfl (run_of (p := .d (mD (drM x w c))) (st := [.lst (([] ++ (List.range c).map fun k => stD ((drawn x (7 * k + 5) % 3 % 2).toNat, (List.range w).map fun l => (drawn x (7 * k + l) % (c : Int)).toNat)).map .d)]) rfl ?_ rfl)
  refine step_nx (x_set (v := .d (.int (c : Int))) (st1 := []) (by simp [startR, F__law_machine, c1, hc])) ?_
  refine step_nx (x_set (v := .obj 0) (st1 := [.lst []]) (by simp [startR, F__law_machine, lineN])) ?_
  refine step_nx (x_for (ps := (List.range c).map fun k : Nat => .d (.int (k : Int))) (st1 := [.lst []]) (evW_rng1 (by simp [startR, F__law_machine]) (by omega)) e) ?_
  refine step_rt (x_ret ?_)
  simp [bfP, sitems, litems, mD, drM, Function.comp_def]
end K10

namespace K10
open PySem Y
theorem lhas_spec (n : Nat) {w : Nat} {m : Mch} (k : OkM w m) (u : List Nat) (hu : ∀ a ∈ u, a < w) (st : Sto) : callC Fs (n + 1) 6 [.d (mD m), .d (wD u)] st = .ok (.d (.bl (hasM m u))) st := by
  refine call_of at__law_has rfl (run_of (p := .d (.bl (hasM m u))) (st := []) rfl ?_ rfl)
  obtain ⟨y, e⟩ := walk_loop (C := callC Fs n) (st := []) (r := [some (.d (mD m)), some (.d (wD u)), none, none]) (iM := 0) (iS := 2) (iL := 3) k rfl (by decide) (by decide) (by decide) (by simp) (by simp) u 0 none k.ne hu
  refine step_nx (x_set (v := .d (.int 0)) (st1 := []) (by simp)) ?_
  refine step_nx (x_for (ps := (u.map nD).map .d) (st1 := []) (by simp [startR, F__law_has, wD]) e) ?_
  refine step_rt (x_ret ?_)
  rw [ev_cmp, ev_good (m := m) (s := walk m 0 u) (k.walk k.ne hu) (by simp) (by simp)]
  simp [hasM, beq1]
end K10

namespace K10
open PySem Y
theorem behind_spec (n : Nat) {w : Nat} {m : Mch} (k : OkM w m) {s : Nat} (hs : s < m.length) (u : List Nat) (hu : ∀ a ∈ u, a < w) (st : Sto) : callC Fs (n + 1) 0 [.d (mD m), .d (.int (s : Int)), .d (wD u)] st = .ok (.d (.int (walk m s u : Nat))) st := by
  refine call_of at_behind rfl (run_of (p := .d (.int (walk m s u : Nat))) (st := []) rfl ?_ rfl)
  obtain ⟨y, e⟩ := walk_loop (C := callC Fs n) (st := []) (r := [some (.d (mD m)), none, some (.d (wD u)), none]) (iM := 0) (iS := 1) (iL := 3) k rfl (by decide) (by decide) (by decide) (by simp) (by simp) u s none hs hu
  refine step_nx (x_for (ps := (u.map nD).map .d) (st1 := []) (by simp [startR, F_behind, wD]) e) ?_
  exact step_rt (x_ret (by simp))
theorem has_spec (n : Nat) {w : Nat} {m : Mch} (k : OkM w m) (u : List Nat) (hu : ∀ a ∈ u, a < w) (st : Sto) : callC Fs (n + 2) 1 [.d (mD m), .d (wD u)] st = .ok (.d (.bl (hasM m u))) st := by
  refine call_of at_has rfl (run_of (p := .d (.bl (hasM m u))) (st := []) rfl ?_ rfl)
  refine step_rt (x_ret ?_)
  have e := fun st => behind_spec n k k.ne u hu st
  rw [ev_cmp, ev_good (m := m) (s := walk m 0 u) (k.walk k.ne hu) (by simp [startR]) (by simpa [startR] using e [])]
  simp [hasM, beq1]
end K10

namespace K10
open PySem Y
def wrd (x : Int) (w c : Nat) : List Nat := (List.range c).map fun l => (drawn x l % (w : Int)).toNat
theorem wrd_lt (x : Int) {w c : Nat} (hw : 0 < w) : ∀ a ∈ wrd x w c, a < w := by
  intro a ha
  simp only [wrd, List.mem_map, List.mem_range] at ha
  obtain ⟨l, _, rfl⟩ := ha
  have := mod_range (drawn x l) (show (0 : Int) < (w : Int) by omega)
  omega
theorem wrd_comp (n : Nat) (x : Int) (w c : Nat) (hw : 0 < w) (hc : c ≤ 1000) {e : E} {r : Rho} {st : Sto} (he : evalE (callC Fs (n + 1)) e r st = .ok (.d (.int (c : Int))) st) (hb : blockR [1, 4] r = [some (.d (.int (w : Int))), some (.d (.int x))]) :
    evalL (callC Fs (n + 1)) (.comp (.rng [e]) 1 [1, 4] none (.op .mod (.call 4 [(.var 2), (.var 0)]) (.var 1))) r st = .ok ((wrd x w c).map fun a => .d (nD a)) st := by
  have c2 : ∀ z : Int, opI .mod z (w : Int) = some (z % (w : Int)) := fun z => opI_mod (by omega)
  have h := evalL_ints (C := callC Fs (n + 1)) (w := .rng [e]) (js := [1, 4]) (e := .op .mod (.call 4 [(.var 2), (.var 0)]) (.var 1)) (r := r) (st := st) (st1 := st) (xs := List.range c) (g := fun k : Nat => P.d (.int (k : Int))) (f := fun l => nD (drawn x l % (w : Int)).toNat) (evW_rng1 he (by omega)) (by rw [List.length_range]; unfold lineN; omega) (fun l hl => by
    rw [hb]
    have := mod_range (drawn x l) (show (0 : Int) < (w : Int) by omega)
    have e := drawn_spec n x l st
    have e2 : ((drawn x l % (w : Int)).toNat : Int) = drawn x l % (w : Int) := Int.toNat_of_nonneg this.1
    simp only [ev_op, ev_call, evs_cons, evs_nil, ev_var, ev_cst, List.getElem?_cons_zero, List.getElem?_cons_succ, Option.join_some, of_some, bind_ok, op_ii, Option.map_some, e, c2, nD, e2])
  rw [h]
  simp [wrd]
theorem fl_nat {a : Int} (h : 0 ≤ a) : ∃ n : Nat, a = (n : Int) := ⟨a.toNat, by omega⟩
theorem turn (ns : List Int) {w : Nat} {m : Mch} (k : OkM w m) (hw : 0 < w) (hm : m.length ≤ 1000) (j : Nat) (a4 a5 a6 a7 a8 a9 a10 a11 : Option P) :
    ∃ b4 b5 b6 b7 b8 b9 b10 b11, execSs (callC Fs 10) B_law_2 [some (.scr ns), some (.d (.int (w : Int))), some (.d (mD m)), some (.d (.int (j : Int))), a4, a5, a6, a7, a8, a9, a10, a11] []
      = .ok (.nx [some (.scr ns), some (.d (.int (w : Int))), some (.d (mD m)), some (.d (.int (j : Int))), b4, b5, b6, b7, b8, b9, b10, b11]) [] := by
  obtain ⟨x, hx⟩ : ∃ x, x = drawn (mixed ns 2) j := ⟨_, rfl⟩
  have xr := drawn_range (mixed ns 2) j
  rw [← hx] at xr
  have e0 : ∀ st, callC Fs 10 3 [.scr ns, .d (.int 2)] st = .ok (.d (.int (mixed ns 2))) st := fun st => mixed_spec 8 ns 2 st
  have e1 : ∀ st, callC Fs 10 4 [.d (.int (mixed ns 2)), .d (.int (j : Int))] st = .ok (.d (.int x)) st := fun st => by rw [hx]; exact drawn_spec 9 (mixed ns 2) j st
  have m61 := mod_range x (show (0 : Int) < 61 by decide)
  have m3 := mod_range (j : Int) (show (0 : Int) < 3 by decide)
  have hp : 0 ≤ x % 61 * ((j : Int) % 3) := Int.mul_nonneg m61.1 m3.1
  have hp2 : x % 61 * ((j : Int) % 3) ≤ 60 * 2 := Int.mul_le_mul (by omega) (by omega) m3.1 (by omega)
  obtain ⟨c, hc⟩ : ∃ c : Nat, x % 61 * ((j : Int) % 3) / 2 = (c : Int) := fl_nat (by omega)
  have hc1 : c ≤ 1000 := by omega
  obtain ⟨u, hu⟩ : ∃ u, u = wrd x w c := ⟨_, rfl⟩
  have ul := wrd_lt x (c := c) hw
  rw [← hu] at ul
  have uc : u.length = c := by rw [hu]; simp [wrd]
  have mp := k.ne
  have ms := mod_range (x / 61) (show (0 : Int) < (m.length : Int) by omega)
  obtain ⟨s, hs⟩ : ∃ s : Nat, x / 61 % (m.length : Int) = (s : Int) := fl_nat ms.1
  have sl : s < m.length := by omega
  have mq := mod_range (x / 7) (show (0 : Int) < (u.length : Int) + 1 by omega)
  obtain ⟨q, hq⟩ : ∃ q : Nat, x / 7 % ((u.length : Int) + 1) = (q : Int) := fl_nat mq.1
  have ql : q ≤ u.length := by omega
  obtain ⟨y, ew⟩ := walk_loop (C := callC Fs 10) (st := []) (r := [some (.scr ns), some (.d (.int (w : Int))), some (.d (mD m)), some (.d (.int (j : Int))), some (.d (.int x)), some (.d (wD u)), some (.d (.int (s : Int))), none, a8, a9, a10, a11]) (iM := 2) (iS := 7) (iL := 8) k rfl (by decide) (by decide) (by decide) (by simp) (by simp) u s a8 sl ul
  have t1 : (u.map nD).length = u.length := by simp
  have cut1 : cutL (u.map nD) none (some (q : Int)) = (u.take q).map nD := by
    unfold cutL sIx
    simp [show ¬ ((q : Int) < 0) by omega, Nat.min_eq_left ql, List.map_take]
  have cut2 : cutL (u.map nD) (some (q : Int)) none = (u.drop q).map nD := by
    unfold cutL sIx
    simp [show ¬ ((q : Int) < 0) by omega, Nat.min_eq_left ql, List.map_drop]
    rw [List.take_of_length_le (by simp)]
  have b1 := fun st => behind_spec 9 k sl u ul st
  have b0 := fun st => behind_spec 9 k sl [] (by simp) st
  have bt := fun st => behind_spec 9 k sl (u.take q) (fun a ha => ul a (List.mem_of_mem_take ha)) st
  have bd := fun st => behind_spec 9 k (s := walk m s (u.take q)) (k.walk sl (fun a ha => ul a (List.mem_of_mem_take ha))) (u.drop q) (fun a ha => ul a (List.mem_of_mem_drop ha)) st
  have wj : walk m (walk m s (u.take q)) (u.drop q) = walk m s u := by rw [← walk_app, List.take_append_drop]
  rw [wj] at bd
  have hh := fun st => has_spec 8 k u ul st
  have lh := fun st => lhas_spec 9 k u ul st
  have d61 : ∀ z : Int, opI .fdiv z 61 = some (z / 61) := fun z => opI_fdiv (by decide)
  have d7 : ∀ z : Int, opI .fdiv z 7 = some (z / 7) := fun z => opI_fdiv (by decide)
  have d2 : ∀ z : Int, opI .fdiv z 2 = some (z / 2) := fun z => opI_fdiv (by decide)
  have q61 : ∀ z : Int, opI .mod z 61 = some (z % 61) := fun z => opI_mod (by decide)
  have q3 : ∀ z : Int, opI .mod z 3 = some (z % 3) := fun z => opI_mod (by decide)
  have ql1 : ∀ z : Int, opI .mod z (m.length : Int) = some (z % (m.length : Int)) := fun z => opI_mod (by omega)
  have ql2 : ∀ z : Int, opI .mod z ((u.length : Int) + 1) = some (z % ((u.length : Int) + 1)) := fun z => opI_mod (by omega)
  have mm : opI .mul (x % 61) ((j : Int) % 3) = some (x % 61 * ((j : Int) % 3)) := opI_mul (.inl (by unfold bigI; omega))
  refine ⟨some (.d (.int x)), some (.d (wD u)), some (.d (.int (s : Int))), some (.d (.int (walk m s u : Nat))), y, some (.d (.int (q : Int))), some (.d (.int (walk m s u : Nat))), some (.d (.bl (hasM m u))), ?_⟩
  refine step_nx (x_set (v := .d (.int x)) (st1 := []) (by simp [e0, e1])) ?_
  refine step_nx (x_set (v := .d (wD u)) (st1 := []) ?_) ?_
  · rw [ev_bf, evs_cons, ev_lstF, wrd_comp 9 x w c hw hc1 (by simp [q61, q3, mm, d2, hc]) rfl, ← hu]
    simp [wD, Function.comp_def]
  refine step_nx (x_set (v := .d (.int (s : Int))) (st1 := []) (by simp [mD, d61, ql1, hs])) ?_
  refine step_nx (x_set (v := .d (.int (s : Int))) (st1 := []) (by simp)) ?_
  refine step_nx (x_for (ps := (u.map nD).map .d) (st1 := []) (by simp [wD]) ew) ?_
  refine step_nx (x_set (v := .d (.int (q : Int))) (st1 := []) (by simp [wD, d7, ql2, hq])) ?_
  refine step_nx (x_set (v := .d (.int (walk m s u : Nat))) (st1 := []) (by simp [b1])) ?_
  refine step_nx (x_iff (st1 := []) ?_ step_nil) ?_
  · have b0' : ∀ st, callC Fs 10 0 [P.d (mD m), P.d (D.int (s : Int)), P.d (D.tup [])] st = .ok (.d (.int (s : Int))) st := b0
    simp [tyIs, b0', lineN]
  refine step_nx (x_iff (st1 := []) ?_ step_nil) ?_
  · have e1 : ∀ st, sliceP (.d (wD u)) none (some (.d (.int (q : Int)))) st = some (.d (wD (u.take q))) := fun st => by rw [wD, sl_t]; simp [cut1, wD]
    have e2 : ∀ st, sliceP (.d (wD u)) (some (.d (.int (q : Int)))) none st = some (.d (wD (u.drop q))) := fun st => by rw [wD, sl_t]; simp [cut2, wD]
    simp [e1, e2, bt, bd]
  refine step_nx (x_set (v := .d (.bl (hasM m u))) (st1 := []) (by simp [hh])) ?_
  refine step_nx (x_iff (st1 := []) ?_ step_nil) step_nil
  simp [tyIs, lh]
theorem turns (ns : List Int) {w : Nat} {m : Mch} (k : OkM w m) (hw : 0 < w) (hm : m.length ≤ 1000) : ∀ (js : List Nat) (a3 a4 a5 a6 a7 a8 a9 a10 a11 : Option P),
    ∃ r, forL (tgR (.nm 3)) (execSs (callC Fs 10) B_law_2) (js.map fun k : Nat => .d (.int (k : Int))) [some (.scr ns), some (.d (.int (w : Int))), some (.d (mD m)), a3, a4, a5, a6, a7, a8, a9, a10, a11] [] = .ok (.nx r) []
  | [], _, _, _, _, _, _, _, _, _ => ⟨_, rfl⟩
  | j :: js, a3, a4, a5, a6, a7, a8, a9, a10, a11 => by
    obtain ⟨b4, b5, b6, b7, b8, b9, b10, b11, e⟩ := turn ns k hw hm j a4 a5 a6 a7 a8 a9 a10 a11
    obtain ⟨r, ih⟩ := turns ns k hw hm js (some (.d (.int (j : Int)))) b4 b5 b6 b7 b8 b9 b10 b11
    refine ⟨r, ?_⟩
    rw [List.map_cons, forL, tgR, of_some, bind_ok]
    simp only [List.set]
    rw [e, bind_ok]
    exact ih
theorem law_true (ns : List Int) (hl : ns.length ≤ 63) : callC Fs 11 7 [.scr ns] [] = .ok (.d (.bl true)) [] := by
  have m3 := mod_range (mixed ns 0) (show (0 : Int) < 3 by decide)
  have m6 := mod_range (mixed ns 1) (show (0 : Int) < 6 by decide)
  obtain ⟨w, hw⟩ : ∃ w : Nat, 1 + mixed ns 0 % 3 = (w : Int) := fl_nat (by omega)
  obtain ⟨c, hc⟩ : ∃ c : Nat, 1 + mixed ns 1 % 6 = (c : Int) := fl_nat (by omega)
  have e0 : ∀ st, callC Fs 10 3 [.scr ns, .d (.int 0)] st = .ok (.d (.int (mixed ns 0))) st := fun st => mixed_spec 8 ns 0 st
  have e1 : ∀ st, callC Fs 10 3 [.scr ns, .d (.int 1)] st = .ok (.d (.int (mixed ns 1))) st := fun st => mixed_spec 8 ns 1 st
  have q3 : ∀ z : Int, opI .mod z 3 = some (z % 3) := fun z => opI_mod (by decide)
  have em := fun st => mach_spec 8 (mixed ns 1) w 6 c (by omega) (by decide) hc (by omega) st
  obtain ⟨r, er⟩ := turns ns (drM_ok (mixed ns 1) w (c := c) (by omega)) (by omega) (by rw [drM_len]; omega) (List.range 20) none none none none none none none none none
  refine call_of at_law rfl (run_of (p := .d (.bl true)) (st := []) rfl ?_ rfl)
  refine step_nx (x_set (v := .d (.int (w : Int))) (st1 := []) (by simp [startR, F_law, e0, q3, hw])) ?_
  refine step_nx (x_set (v := .d (mD (drM (mixed ns 1) w c))) (st1 := []) (by simp [startR, F_law, e1, em])) ?_
  refine step_nx (x_for (ps := (List.range 20).map fun k : Nat => .d (.int (k : Int))) (st1 := []) (evW_rng1 (j := 20) (by simp) (by omega)) er) ?_
  exact step_rt (x_ret (by simp))
end K10

namespace K10
open PySem L2 Y
def top (i : Nat) : Stmt := PySem.Challenge.pw_wordyard_k10_reading_words.main.body.getD i (.Pass ⟨0, 0, 0, 0⟩)
abbrev s_behind : Stmt := top 1
def i_behind : Info := { name := "behind", st := s_behind, N := ["machine", "state", "word", "letter"], ps := ["machine", "state", "word"], F := F_behind }
abbrev s_has : Stmt := top 2
def i_has : Info := { name := "has", st := s_has, N := ["machine", "word"], ps := ["machine", "word"], F := F_has }
abbrev s__law_cell_at : Stmt := top 4
def i__law_cell_at : Info := { name := "_law_cell_at", st := s__law_cell_at, N := ["_law_script", "_law_k"], ps := ["_law_script", "_law_k"], F := F__law_cell_at }
abbrev s__law_mixed : Stmt := top 5
def i__law_mixed : Info := { name := "_law_mixed", st := s__law_mixed, N := ["_law_script", "_law_k", "_law_drawn_here"], ps := ["_law_script", "_law_k"], F := F__law_mixed }
abbrev s__law_drawn : Stmt := top 6
def i__law_drawn : Info := { name := "_law_drawn", st := s__law_drawn, N := ["_law_number", "_law_k", "_law_drawn_here"], ps := ["_law_number", "_law_k"], F := F__law_drawn }
abbrev s__law_machine : Stmt := top 7
def i__law_machine : Info := { name := "_law_machine", st := s__law_machine, N := ["_law_number", "_law_wide", "_law_most", "_law_count", "_law_states", "_law_k", "_law_steps"], ps := ["_law_number", "_law_wide", "_law_most"], F := F__law_machine }
abbrev s__law_has : Stmt := top 8
def i__law_has : Info := { name := "_law_has", st := s__law_has, N := ["_law_machine_here", "_law_word", "_law_at", "_law_letter"], ps := ["_law_machine_here", "_law_word"], F := F__law_has }
abbrev s_law : Stmt := top 9
def i_law : Info := { name := "law", st := s_law, N := ["_law_script", "_law_wide", "_law_machine_here", "_law_k", "_law_number", "_law_word", "_law_start", "_law_at", "_law_letter", "_law_cut_at", "_law_found", "_law_said"], ps := ["_law_script"], F := F_law }
def is : List Info := [i_behind, i_has, i__law_cell_at, i__law_mixed, i__law_drawn, i__law_machine, i__law_has, i_law]
def cs : List (Str × Int) := []
def ts : List (Str × List (Str × Int)) := []
theorem is_Fs : is.map (·.F) = Fs := rfl
theorem sc_behind : FnScope i_behind.N i_behind.ps (defScope i_behind.st) := ⟨rfl, rfl, rfl, by decide +kernel, rfl, by decide +kernel, by decide +kernel⟩
theorem ok_behind : okF is cs ts i_behind = true := by decide +kernel
theorem sc_has : FnScope i_has.N i_has.ps (defScope i_has.st) := ⟨rfl, rfl, rfl, by decide +kernel, rfl, by decide +kernel, by decide +kernel⟩
theorem ok_has : okF is cs ts i_has = true := by decide +kernel
theorem sc__law_cell_at : FnScope i__law_cell_at.N i__law_cell_at.ps (defScope i__law_cell_at.st) := ⟨rfl, rfl, rfl, by decide +kernel, rfl, by decide +kernel, by decide +kernel⟩
theorem ok__law_cell_at : okF is cs ts i__law_cell_at = true := by decide +kernel
theorem sc__law_mixed : FnScope i__law_mixed.N i__law_mixed.ps (defScope i__law_mixed.st) := ⟨rfl, rfl, rfl, by decide +kernel, rfl, by decide +kernel, by decide +kernel⟩
theorem ok__law_mixed : okF is cs ts i__law_mixed = true := by decide +kernel
theorem sc__law_drawn : FnScope i__law_drawn.N i__law_drawn.ps (defScope i__law_drawn.st) := ⟨rfl, rfl, rfl, by decide +kernel, rfl, by decide +kernel, by decide +kernel⟩
theorem ok__law_drawn : okF is cs ts i__law_drawn = true := by decide +kernel
theorem sc__law_machine : FnScope i__law_machine.N i__law_machine.ps (defScope i__law_machine.st) := ⟨rfl, rfl, rfl, by decide +kernel, rfl, by decide +kernel, by decide +kernel⟩
theorem ok__law_machine : okF is cs ts i__law_machine = true := by decide +kernel
theorem sc__law_has : FnScope i__law_has.N i__law_has.ps (defScope i__law_has.st) := ⟨rfl, rfl, rfl, by decide +kernel, rfl, by decide +kernel, by decide +kernel⟩
theorem ok__law_has : okF is cs ts i__law_has = true := by decide +kernel
theorem sc_law : FnScope i_law.N i_law.ps (defScope i_law.st) := ⟨rfl, rfl, rfl, by decide +kernel, rfl, by decide +kernel, by decide +kernel⟩
theorem ok_law : okF is cs ts i_law = true := by decide +kernel
set_option maxHeartbeats 0 in
theorem all_mk {l : PySem.W.OpenLaw} {w : World} {K : PySem.W.Frag} {h : Heap} {mg : Str → Option Value} {fa f0 f1 f2 f3 f4 f5 f6 f7 : Addr} (X : K.In h) (G : h.Ns mainGlobals mg) (hfa : mg "law" = some (.ref fa))
    {od0 an0 od1 an1 od2 an2 od3 an3 od4 an4 od5 an5 od6 an6 od7 an7 : Option Addr} {sl0 sl1 sl2 sl3 sl4 sl5 sl6 sl7 : Array (Option Value)} {oc0 kV0 dc0 pm0 cd0 ct0 oc1 kV1 dc1 pm1 cd1 ct1 oc2 kV2 dc2 pm2 cd2 ct2 oc3 kV3 dc3 pm3 cd3 ct3 oc4 kV4 dc4 pm4 cd4 ct4 oc5 kV5 dc5 pm5 cd5 ct5 oc6 kV6 dc6 pm6 cd6 ct6 oc7 kV7 dc7 pm7 cd7 ct7 : Value}
    (a0 : PySem.W.nsIn K mainGlobals "behind" = some (some (.ref f0))) (l0 : K.lookup f0 = some ⟨oc0, od0, .func (PySem.W.fnOf "behind" "behind" (defArgs s_behind) (defBody s_behind) (defScope s_behind) .none kV0 dc0 pm0 an0 cd0 ct0), sl0⟩) (c0 : PySem.W.codeIn K cd0 "behind" = true) (k0 : PySem.W.keepIn K (.ref f0) = true)
    (a1 : PySem.W.nsIn K mainGlobals "has" = some (some (.ref f1))) (l1 : K.lookup f1 = some ⟨oc1, od1, .func (PySem.W.fnOf "has" "has" (defArgs s_has) (defBody s_has) (defScope s_has) .none kV1 dc1 pm1 an1 cd1 ct1), sl1⟩) (c1 : PySem.W.codeIn K cd1 "has" = true) (k1 : PySem.W.keepIn K (.ref f1) = true)
    (a2 : PySem.W.nsIn K mainGlobals "_law_cell_at" = some (some (.ref f2))) (l2 : K.lookup f2 = some ⟨oc2, od2, .func (PySem.W.fnOf "_law_cell_at" "_law_cell_at" (defArgs s__law_cell_at) (defBody s__law_cell_at) (defScope s__law_cell_at) .none kV2 dc2 pm2 an2 cd2 ct2), sl2⟩) (c2 : PySem.W.codeIn K cd2 "_law_cell_at" = true) (k2 : PySem.W.keepIn K (.ref f2) = true)
    (a3 : PySem.W.nsIn K mainGlobals "_law_mixed" = some (some (.ref f3))) (l3 : K.lookup f3 = some ⟨oc3, od3, .func (PySem.W.fnOf "_law_mixed" "_law_mixed" (defArgs s__law_mixed) (defBody s__law_mixed) (defScope s__law_mixed) .none kV3 dc3 pm3 an3 cd3 ct3), sl3⟩) (c3 : PySem.W.codeIn K cd3 "_law_mixed" = true) (k3 : PySem.W.keepIn K (.ref f3) = true)
    (a4 : PySem.W.nsIn K mainGlobals "_law_drawn" = some (some (.ref f4))) (l4 : K.lookup f4 = some ⟨oc4, od4, .func (PySem.W.fnOf "_law_drawn" "_law_drawn" (defArgs s__law_drawn) (defBody s__law_drawn) (defScope s__law_drawn) .none kV4 dc4 pm4 an4 cd4 ct4), sl4⟩) (c4 : PySem.W.codeIn K cd4 "_law_drawn" = true) (k4 : PySem.W.keepIn K (.ref f4) = true)
    (a5 : PySem.W.nsIn K mainGlobals "_law_machine" = some (some (.ref f5))) (l5 : K.lookup f5 = some ⟨oc5, od5, .func (PySem.W.fnOf "_law_machine" "_law_machine" (defArgs s__law_machine) (defBody s__law_machine) (defScope s__law_machine) .none kV5 dc5 pm5 an5 cd5 ct5), sl5⟩) (c5 : PySem.W.codeIn K cd5 "_law_machine" = true) (k5 : PySem.W.keepIn K (.ref f5) = true)
    (a6 : PySem.W.nsIn K mainGlobals "_law_has" = some (some (.ref f6))) (l6 : K.lookup f6 = some ⟨oc6, od6, .func (PySem.W.fnOf "_law_has" "_law_has" (defArgs s__law_has) (defBody s__law_has) (defScope s__law_has) .none kV6 dc6 pm6 an6 cd6 ct6), sl6⟩) (c6 : PySem.W.codeIn K cd6 "_law_has" = true) (k6 : PySem.W.keepIn K (.ref f6) = true)
    (a7 : PySem.W.nsIn K mainGlobals "law" = some (some (.ref f7))) (l7 : K.lookup f7 = some ⟨oc7, od7, .func (PySem.W.fnOf "law" "law" (defArgs s_law) (defBody s_law) (defScope s_law) .none kV7 dc7 pm7 an7 cd7 ct7), sl7⟩) (c7 : PySem.W.codeIn K cd7 "law" = true) (k7 : PySem.W.keepIn K (.ref f7) = true)
    (z_len : PySem.W.nsIn K mainGlobals "len" = some none)
    (z_min : PySem.W.nsIn K mainGlobals "min" = some none)
    (z_max : PySem.W.nsIn K mainGlobals "max" = some none)
    (z_all : PySem.W.nsIn K mainGlobals "all" = some none)
    (z_any : PySem.W.nsIn K mainGlobals "any" = some none)
    (z_sum : PySem.W.nsIn K mainGlobals "sum" = some none)
    (z_str : PySem.W.nsIn K mainGlobals "str" = some none)
    (z_tuple : PySem.W.nsIn K mainGlobals "tuple" = some none)
    (z_list : PySem.W.nsIn K mainGlobals "list" = some none)
    (z_int : PySem.W.nsIn K mainGlobals "int" = some none)
    (z_bool : PySem.W.nsIn K mainGlobals "bool" = some none)
    (z_isinstance : PySem.W.nsIn K mainGlobals "isinstance" = some none)
    (z_range : PySem.W.nsIn K mainGlobals "range" = some none)
    (z_zip : PySem.W.nsIn K mainGlobals "zip" = some none)
    (z_enumerate : PySem.W.nsIn K mainGlobals "enumerate" = some none)
    (z_sorted : PySem.W.nsIn K mainGlobals "sorted" = some none)
    : ∃ fd : FuncData, (∀ (s : Shared) (v : Value), BindsTo s fd ⟨[v], []⟩ [("_law_script", v)]) ∧ ∀ base : Heap, K.In base → base.Ns mainGlobals mg → FnOk l.prog w K mg base CX0 11 fa fd ["_law_script"] (spP K (callC Fs 11 7) 1) := by
  have e := hfa.symm.trans (PySem.W.mg_of X G a7)
  cases e
  have F0 := fun_mk (st := s_behind) l0 c0 k0
  have b0 := F0.binds (ps := ["machine", "state", "word"]) fun _ _ _ _ _ _ us hl => match us, hl with | [_, _, _], _ => rfl
  have F1 := fun_mk (st := s_has) l1 c1 k1
  have b1 := F1.binds (ps := ["machine", "word"]) fun _ _ _ _ _ _ us hl => match us, hl with | [_, _], _ => rfl
  have F2 := fun_mk (st := s__law_cell_at) l2 c2 k2
  have b2 := F2.binds (ps := ["_law_script", "_law_k"]) fun _ _ _ _ _ _ us hl => match us, hl with | [_, _], _ => rfl
  have F3 := fun_mk (st := s__law_mixed) l3 c3 k3
  have b3 := F3.binds (ps := ["_law_script", "_law_k"]) fun _ _ _ _ _ _ us hl => match us, hl with | [_, _], _ => rfl
  have F4 := fun_mk (st := s__law_drawn) l4 c4 k4
  have b4 := F4.binds (ps := ["_law_number", "_law_k"]) fun _ _ _ _ _ _ us hl => match us, hl with | [_, _], _ => rfl
  have F5 := fun_mk (st := s__law_machine) l5 c5 k5
  have b5 := F5.binds (ps := ["_law_number", "_law_wide", "_law_most"]) fun _ _ _ _ _ _ us hl => match us, hl with | [_, _, _], _ => rfl
  have F6 := fun_mk (st := s__law_has) l6 c6 k6
  have b6 := F6.binds (ps := ["_law_machine_here", "_law_word"]) fun _ _ _ _ _ _ us hl => match us, hl with | [_, _], _ => rfl
  have F7 := fun_mk (st := s_law) l7 c7 k7
  have b7 := F7.binds (ps := ["_law_script"]) fun _ _ _ _ _ _ us hl => match us, hl with | [_], _ => rfl
  have T : Tab K mg is cs ts (fun k => match k with | 0 => f0 | 1 => f1 | 2 => f2 | 3 => f3 | 4 => f4 | 5 => f5 | 6 => f6 | 7 => fa | _ => 0) (fun k => match k with | 0 => PySem.W.fnOf "behind" "behind" (defArgs s_behind) (defBody s_behind) (defScope s_behind) .none kV0 dc0 pm0 an0 cd0 ct0 | 1 => PySem.W.fnOf "has" "has" (defArgs s_has) (defBody s_has) (defScope s_has) .none kV1 dc1 pm1 an1 cd1 ct1 | 2 => PySem.W.fnOf "_law_cell_at" "_law_cell_at" (defArgs s__law_cell_at) (defBody s__law_cell_at) (defScope s__law_cell_at) .none kV2 dc2 pm2 an2 cd2 ct2 | 3 => PySem.W.fnOf "_law_mixed" "_law_mixed" (defArgs s__law_mixed) (defBody s__law_mixed) (defScope s__law_mixed) .none kV3 dc3 pm3 an3 cd3 ct3 | 4 => PySem.W.fnOf "_law_drawn" "_law_drawn" (defArgs s__law_drawn) (defBody s__law_drawn) (defScope s__law_drawn) .none kV4 dc4 pm4 an4 cd4 ct4 | 5 => PySem.W.fnOf "_law_machine" "_law_machine" (defArgs s__law_machine) (defBody s__law_machine) (defScope s__law_machine) .none kV5 dc5 pm5 an5 cd5 ct5 | 6 => PySem.W.fnOf "_law_has" "_law_has" (defArgs s__law_has) (defBody s__law_has) (defScope s__law_has) .none kV6 dc6 pm6 an6 cd6 ct6 | 7 => PySem.W.fnOf "law" "law" (defArgs s_law) (defBody s_law) (defScope s_law) .none kV7 dc7 pm7 an7 cd7 ct7 | _ => PySem.W.fnOf "law" "law" (defArgs s_law) (defBody s_law) (defScope s_law) .none kV7 dc7 pm7 an7 cd7 ct7) := by
    refine ⟨fun k i hk => ?_, fun x hx => ?_, fun x i hx => ?_, fun x t hx => ?_⟩
    · match k, hk with
      | 0, hk => cases hk; exact ⟨F0, PySem.W.mg_of X G a0, b0, sc_behind, ok_behind⟩
      | 1, hk => cases hk; exact ⟨F1, PySem.W.mg_of X G a1, b1, sc_has, ok_has⟩
      | 2, hk => cases hk; exact ⟨F2, PySem.W.mg_of X G a2, b2, sc__law_cell_at, ok__law_cell_at⟩
      | 3, hk => cases hk; exact ⟨F3, PySem.W.mg_of X G a3, b3, sc__law_mixed, ok__law_mixed⟩
      | 4, hk => cases hk; exact ⟨F4, PySem.W.mg_of X G a4, b4, sc__law_drawn, ok__law_drawn⟩
      | 5, hk => cases hk; exact ⟨F5, PySem.W.mg_of X G a5, b5, sc__law_machine, ok__law_machine⟩
      | 6, hk => cases hk; exact ⟨F6, PySem.W.mg_of X G a6, b6, sc__law_has, ok__law_has⟩
      | 7, hk => cases hk; exact ⟨F7, PySem.W.mg_of X G a7, b7, sc_law, ok_law⟩
      | k + 8, hk => exact absurd hk (by simp [is])
    · simp only [bltNames, List.mem_cons, List.not_mem_nil, or_false] at hx
      rcases hx with rfl | rfl | rfl | rfl | rfl | rfl | rfl | rfl | rfl | rfl | rfl | rfl | rfl | rfl | rfl | rfl
      · exact PySem.W.mg_none_of X G z_len
      · exact PySem.W.mg_none_of X G z_min
      · exact PySem.W.mg_none_of X G z_max
      · exact PySem.W.mg_none_of X G z_all
      · exact PySem.W.mg_none_of X G z_any
      · exact PySem.W.mg_none_of X G z_sum
      · exact PySem.W.mg_none_of X G z_str
      · exact PySem.W.mg_none_of X G z_tuple
      · exact PySem.W.mg_none_of X G z_list
      · exact PySem.W.mg_none_of X G z_int
      · exact PySem.W.mg_none_of X G z_bool
      · exact PySem.W.mg_none_of X G z_isinstance
      · exact PySem.W.mg_none_of X G z_range
      · exact PySem.W.mg_none_of X G z_zip
      · exact PySem.W.mg_none_of X G z_enumerate
      · exact PySem.W.mg_none_of X G z_sorted
    · exact absurd hx (by simp [cs, ts])
    · exact absurd hx (by simp [cs, ts])
  refine ⟨PySem.W.fnOf "law" "law" (defArgs s_law) (defBody s_law) (defScope s_law) .none kV7 dc7 pm7 an7 cd7 ct7, fun s v => .of_eq rfl, fun base _ _ => ?_⟩
  exact fn_all (P := l.prog) (w := w) (base := base) T 11 7 i_law rfl
theorem walk {l : PySem.W.OpenLaw} {q : Program} {loose : List Str} {XP : (Str → Option Value) → Heap → Prop} {YP : World → Heap → Prop} {d : DefRec} {K : Params → PySem.W.Frag} (hn : l.most = some 63) (hdf : d.params.defaults = [])
    (hY : ∀ (w : World) (h : Heap), YP w h → (K w.params).In h)
    (F : ∀ (w : World) (mg : Str → Option Value) (fa : Addr) (h : Heap), (K w.params).In h → h.Ns mainGlobals mg → mg d.name = some (.ref fa) →
      ∃ fd : FuncData, (∀ (s : Shared) (u : Value), BindsTo s fd ⟨[u], []⟩ [("_law_script", u)]) ∧ ∀ base : Heap, (K w.params).In base → base.Ns mainGlobals mg → FnOk l.prog w (K w.params) mg base CX0 11 fa fd ["_law_script"] (spP (K w.params) (callC Fs 11 7) 1)) :
    PySem.W.WalkO q loose XP YP l.row.toRowW d [] (fun f vs => PySem.call f vs) :=
  L2.walk_of (n := 63) (k := 11) (x := "_law_script") (CX := fun _ => CX0) (sp := fun w => spP (K w.params) (callC Fs 11 7) 1) hn (by decide) hdf ⟨rfl, by decide, by decide⟩ hY F (fun _ _ a ns hl ho hS => sp_law (law_true ns hl) ho hS) fun _ _ _ _ _ z => z
end K10
open PySem PySem.W PyProof.Rows
set_option maxRecDepth 100000 in
set_option maxHeartbeats 0 in
theorem PySem.Challenge.cw_wordyard_k10_reading_words_holds : PySem.Challenge.rw_wordyard_k10_reading_words.Holds := by
  w_on; o_law; k_head; (case hw => w_witness2)
  k_fill
  refine K10.walk (l := PySem.Challenge.rw_wordyard_k10_reading_words) rfl rfl (fun w h Y => PySem.W.kIn_of Y) ?F
  case F =>
    intro w mg fa h KX G hmg
    refine' K10.all_mk KX G hmg ?a0 ?l0 ?c0 ?k0 ?a1 ?l1 ?c1 ?k1 ?a2 ?l2 ?c2 ?k2 ?a3 ?l3 ?c3 ?k3 ?a4 ?l4 ?c4 ?k4 ?a5 ?l5 ?c5 ?k5 ?a6 ?l6 ?c6 ?k6 ?a7 ?l7 ?c7 ?k7 ?z_len ?z_min ?z_max ?z_all ?z_any ?z_sum ?z_str ?z_tuple ?z_list ?z_int ?z_bool ?z_isinstance ?z_range ?z_zip ?z_enumerate ?z_sorted
    (case a0 => k_is)
    (case l0 => k_is)
    (case c0 => k_is)
    (case k0 => k_is)
    (case a1 => k_is)
    (case l1 => k_is)
    (case c1 => k_is)
    (case k1 => k_is)
    (case a2 => k_is)
    (case l2 => k_is)
    (case c2 => k_is)
    (case k2 => k_is)
    (case a3 => k_is)
    (case l3 => k_is)
    (case c3 => k_is)
    (case k3 => k_is)
    (case a4 => k_is)
    (case l4 => k_is)
    (case c4 => k_is)
    (case k4 => k_is)
    (case a5 => k_is)
    (case l5 => k_is)
    (case c5 => k_is)
    (case k5 => k_is)
    (case a6 => k_is)
    (case l6 => k_is)
    (case c6 => k_is)
    (case k6 => k_is)
    (case a7 => k_is)
    (case l7 => k_is)
    (case c7 => k_is)
    (case k7 => k_is)
    (case z_len => k_is)
    (case z_min => k_is)
    (case z_max => k_is)
    (case z_all => k_is)
    (case z_any => k_is)
    (case z_sum => k_is)
    (case z_str => k_is)
    (case z_tuple => k_is)
    (case z_list => k_is)
    (case z_int => k_is)
    (case z_bool => k_is)
    (case z_isinstance => k_is)
    (case z_range => k_is)
    (case z_zip => k_is)
    (case z_enumerate => k_is)
    (case z_sorted => k_is)
