import PyProof.Rows.All
import Wide.All
import OpenK.AllK
import Wide.FinOn
import Lean
import PyProof.EqAt
import PyProof.EqKinds
import PyProof.TupleCall
import PyProof.NeKinds
import PySem.Challenge.RW_wordyard_k11_whole_least
set_option Elab.async false
set_option linter.all false
set_option maxRecDepth 100000
set_option maxHeartbeats 4000000
open PySem renaming wpAny_bind->U7,wpAny_pure->Vn,mainGlobals->Vu,Shared->Vv,sizeLine->VD,starEach->VM,mem_of_lookup->V2,Program->Wf,wpAny_callSpecial?_slot->Wh,wpAny_field->Wz,wpAny_newObj_type->WB,compareOp->WC,wpAny_Call_Name_kw->WD,wpAny_call_entry->WL,Around->WN,sizeLine_eq->WR,wpAny_loadPart'->WV,wpAny_mono->WX,wpAny_truthy_bool->W5,sysModules->W6,FuncData->Xg,wpAny_setField_rec->Xh,wpAny_seqItems->Xl,rawInt->Xm,backTo->Xn,wpAny_pyIter_tuple->XB,IsPair->XD,wpAny_passesOwn->XH,binaryOp->XN,NameKind->XO,wpAny_holding->XT,attributeBase->XU,codeAmong->XZ,keywordEach->X6,Arguments->Ye,wpAny_newFunctionEnv->Yl,call_meets->Ym,swapsWith->Yo,bootBuiltins->Yp,wpAny_binaryOp_repeat_ref->Ys,tupleKind_room_in1->Yz,sliceBounds->YD,wpAny_pyIter_enum->YJ,wpAny_rule->Y1,typeIs_int->Y2,qualnameIn->Y3,Spec->Y7,getItem->Zb,codeAny->Zc,Builtin->Zd,wpAny_updateSeq_pair->Ze,backToKw->Zf,wpAny_updateSeq->Zj,letOwnedTupleGo->Zk,codeAny_mono->Zo,call_meetsIn->Zp,TriplesOk->Zs,closureFor->Zt,wpAny_letGo->Zx,foldedSetIterable->Zy,wpAny_onRaise->ZH,wpAny_attempt->ZJ,pyNext->ZL,annotationsOf->ZM,wpAny_isInstance->ZQ,noFill_tuple_add->ZR,getMethod->ZS,wpAny_typeOf->Z4,valueAt->Z5,builtinsNs->Z7,assignEach->Z8,Keyword->Z9,IsPart->aaa,BindsTo->aab,wpAny_specialOf->aac,wpAny_execs_nil->aad,subscripted->aaj,isSubtype_stop->aak,tupleKind->aao,standAt->aap,holding->aaq,callerA->aar,seq_tuple_add->aav,behindInMarks->aaw,Paired->aaA,seqIndex_neg->aaB,concat_meets->aaC,callWith->aaD,Within->aaE,updateSeq->aaL,isTrue->aaM,cellOf->aaN,seqIndex_of->aaO,wpAny_call->aaT,wpAny_Name->aaU,typeLookup->aaV,bindArgs->aaW,assign->aaX,call->aaY
open List renaming range->U8,mem_cons_of_mem->Vb,getElem?_eq_getElem->Vc,getD_eq_getElem?_getD->Vd,getElem?_set_ne->Ve,getElem?_append_left->Vf,length_map->Vg,mem_cons_self->Vh,getElem?_map->Vi,getElem?_cons_succ->Vk,getElem?_cons_zero->Vl,map_cons->Vo,size_toArray->Vp,isEmpty_iff->Vr,length_cons->Vt,length_append->Vy,getElem?_append_right->Vz,getElem?_set_self->VB,mem_of_getElem?->VC,lookup_cons->VG,getElem?_eq_none->VH,mem_append_right->VN,length_range->VQ,filter_cons_of_pos->VR,map_append->VU,filter_cons_of_neg->V0,append_assoc->V1,replicate->V4,nodup_append->V5,drop_eq_getElem_cons->V8,take_of_length_le->V9,getElem_mem->Wa,append_nil->Wb,mem_singleton->Wc,mem_range->Wi,idxOf_lt_length_of_mem->Wm,range_succ->Wn,mem_filter->Wo,length_take->Wp,take_add_one->Wq,mem_append_left->Wr,find?_cons->Wy,getElem?_range->WA,nodup_cons->WI,length_set->WJ,length_nil->WK,not_mem_nil->WM,flatMap_append->WQ,cons_append->W0,any_eq_true->W1,all_eq_true->W2,mem_cons->W4,mem_map->W8,map_nil->W9,length_pos_of_mem->Xa,lookup->Xc,nodup_range->Xj,map_map->Xk,nil_append->Xq,mem_append->Xr,foldl_cons->Xs,filter_eq_nil_iff->Xv,any_cons->Xz,all_cons->XA,length_filter_le->XE,set->XQ,foldl_append->XR,length_erase_of_mem->XX,filterMap_cons->XY,getElem?_replicate->X4,drop_zero->X5,zip_cons_cons->X9,filter_append->Ya,of_mem_zip->Yc,forIn_cons->Yd,take_append_drop->Yg,set_append_right->Yh,flatMap_cons->Yk,mem_erase_of_ne->Yn,mem_map_of_mem->Yu,map->Yx,getElem_idxOf->YC,forIn_nil->YS,drop_eq_nil_of_le->YT,length_replicate->YZ,mem_flatMap->Y9,getElem?_of_mem->Zh,length_zip->Zl,map_congr_left->Zn,foldl->Zv,find?_eq_none->Zw,length->ZC,ext_getElem?->ZD,any_eq_false->ZE,zipIdx_cons->ZV,length_drop->ZW,getElem_zip->ZX,drop_length->ZY,idxOf_cons->aai,map_take->aax,map_drop->aay,set_set->aaF,map_set->aaG,zipIdx->aaS
open Bool renaming and_eq_true->U9,not_eq_true'->VL,false_eq_true->VY,false_ne_true->V7,or_eq_true->XJ,eq_iff_iff->XM,eq_false_or_eq_true->Yy,false_and->YW,true_and->aaz
open PySem.Heap renaming get?_push_of_some->Va,get?_push_size->Vq,lt_size->Vs,get?_update_other->Wv,size_push->WG,get?_update_self->Xf,SameBut->XS,size_update->Za,IsTuple->aaI
open Nat renaming le_refl->Vj,lt_of_lt_of_le->VI,zero_add->VO,ne_of_lt->VP,le_trans->V3,ne_of_gt->Wu,zero_le->WE,lt_succ_self->WZ,lt_irrefl->W3,le_succ->Xb,not_lt_zero->XI,le_add_right->X3,le_of_lt->Yr,succ_mul->YR,min_le_right->Y8,mul_le_mul_right->Zg,lt_trans->Zq,le_of_eq->Zr,reduceAdd->ZO
open PySem.W renaming Frag->Vm,nsIn->VA,mg_none_of->VX,findIn->VZ,mg_of->V6,kia_one->Wx,emptyDict->WS,CodeHd->Xo,instObj->Xp,tabIn->Xy,keepIn->XC,tabObj->X2,isFn->X8,plainGet->Yq,callWith_K->YB,noTabs->YK,hasDictIn->YL,fnOf->YM,methodCall_KW->YX,plainGet_of->Zm,lookIn->Zu,plainOver->Zz,methodObj->ZA,takerIn->aae,makesIn->aaf,OpenLaw->aag,kla_fn->aal,kitOne->aam,codeIn->aan,fnX->aaR
open Option renaming join_some->Vw,map_some->VE,bind_some->VS,isNone_iff_eq_none->WO,isSome_map->Yj,getD_some->ZT,getD_none->ZU
open PySem.NameKind renaming free->Vx,cell->WT
open Classical renaming byContradiction->VF
open PySem.Value renaming ref->VJ,none->Xi,type->X7,bool->YA,str->Y5,int->Y6,float->aaP
open Option.some renaming inj->VT,injEq->Yi
open PySem.Builtin.SmallTypes renaming nextOf->VW,ownedTupleIsFree->WU
open PySem.Str renaming ofString->We
open Ne renaming symm->Wg
open Function renaming comp_def->Wj
open PySem.Builtin.Tuple renaming tupleExact->Wk,tupleTooMany->WH
open PyProof.Rows renaming callWith_type1->Wl,slot_tuple_getitem->Xd,kindOf->Y4,AllBare->ZG,subscriptTail->ZK,envOfC->Z6,IntsAre->aaH
open False renaming elim->Ww
open ForInStep renaming yield->WW
open True renaming intro->WY
open PySem.F renaming slot_tuple_iterator_next->W7,slot_int_rmul->Xe,slot_enumerate_next->Xu,plain_extend_loop->XF,slot_zip_next->Yf,args_tuple_mul_2->Yv,args_tuple_add_2->Yw,plainAttrs_list->YE,plainAttrs_dict->YF,entry_tuple_mul->YG,entry_tuple_add->YH,args_int_rmul_2->YI,slot_tuple_mul->YN,slot_tuple_add->YO,entry_int_rmul->YQ,fills_int_mul->YY
open Array renaming length_toList->Xt,getElem?_toList->Y0
open PySem.Calls renaming callWith_builtin->Xw,spliced_cons->Yb,spliced_nil->YV,evalArgs_plain->Zi
open PySem.Builtin.List renaming listExtendWith->Xx
open PySem.Builtin.Slice renaming slicePlaces->XG,sliceAdjust->Yt
open PySem.Obj renaming mapSeq->XW
open Int renaming toNat_natCast->YU,toNat->ZZ
open PySem.Paired renaming length->ZN
open PySem.AutoSeq1 renaming idx_int->Z3
open PySem.PassesOwn renaming never->aah
open Sum renaming inr->aas,inl->aat
open PyProof.Rows.IsTup renaming new->aau
open PySem.Code renaming isFrame->aaJ
open PySem.Around renaming under->aaK
open PySem.Shared renaming heap->aaQ
open Prod renaming ext->aaZ
namespace L2
open PySem PySem.Spec PyProof.Rows
abbrev Key:=Sum Int Str
def uR:Key->Value->Bool
 |.inl k,v=>Value.isInt k v|.inr x,v=>Value.isStrOf x v
def RL(w:World):Key->Int
 |.inl k=>hashInt k|.inr x=>hashStr w x
theorem bO:∀{k} {v},uR k v=true->(∃i t,k=aat i/\v=Y6 i t)\/(∃x t,k=aas x/\v=Y5 x t)
 |.inl i,v,h=>by obtain⟨t,e⟩:=Value.isInt_shape (k:=i) (v:=v) h;exact .inl ⟨i,t,rfl,e⟩|.inr x,v,h=>by obtain⟨t,e⟩:=Value.isStrOf_shape (x:=x) (v:=v) h;exact .inr ⟨x,t,rfl,e⟩
theorem B4 i t:uR (.inl i) (.int i t)=true:=by simp[uR,Value.isInt]
theorem B5 x t:uR (.inr x) (.str x t)=true:=by simp[uR,Value.isStrOf]
theorem JZ a b:decide ((aat a:Key)=aat b)=(a==b):=by
 by_cases e:a=b;·subst e;simp
 ·have h:¬(aat a:Key)=aat b:=λq=>e (aat.inj q);rw[decide_eq_false h];exact(beq_eq_false_iff_ne.mpr e).symm
theorem J1 a b:decide ((aas a:Key)=aas b)=decide (a=b):=by
 by_cases e:a=b;·subst e;simp
 ·have h:¬(aas a:Key)=aas b:=λq=>e (aas.inj q);rw[decide_eq_false h,decide_eq_false e]
theorem J2 a b:decide ((aat a:Key)=aas b)=false:=decide_eq_false (λq=>nomatch q)
theorem J3 a b:decide ((aas a:Key)=aat b)=false:=decide_eq_false (λq=>nomatch q)
def bc(prog:Wf)(w:World):PySem.KeyKind prog w Key where
 is:=uR
 hash:=RL w
 inj:=λv a b ha hb=>by
  rcases bO ha with ⟨i,t,rfl,rfl⟩|⟨x,t,rfl,rfl⟩
  ·rcases bO hb with ⟨j,u,rfl,e⟩|⟨y,u,rfl,e⟩
   ·injection e with e1 _;rw[e1]
   ·exact nomatch e
  ·rcases bO hb with ⟨j,u,rfl,e⟩|⟨y,u,rfl,e⟩
   ·exact nomatch e
   ·injection e with e1 _;rw[e1]
 byValue:=λk v h=>by rcases bO h with ⟨i,t,rfl,rfl⟩|⟨x,t,rfl,rfl⟩<;>rfl
 pyHash:=λhv h=>by
  rcases bO hv with ⟨i,t,rfl,rfl⟩|⟨x,t,rfl,rfl⟩
  ·exact wpAny_pyHash_int h
  ·exact wpAny_pyHash_str h
 eqBool:=λhu hv h=>by
  rcases bO hu with ⟨i,t,rfl,rfl⟩|⟨x,t,rfl,rfl⟩
  ·rcases bO hv with ⟨j,u,rfl,rfl⟩|⟨y,u,rfl,rfl⟩
   ·rw[JZ] at h;exact wpAny_eqBool_int h
   ·rw[J2] at h;exact SeqAt.EqAt.int_str i t y u _ _ _ _ h
  ·rcases bO hv with ⟨j,u,rfl,rfl⟩|⟨y,u,rfl,rfl⟩
   ·rw[J3] at h;exact SeqAt.EqAt.str_int x t j u _ _ _ _ h
   ·rw[J1] at h;exact wpAny_eqBool_str h
 «strs»:=λk x t v h=>by
  rcases bO h with ⟨i,u,rfl,e⟩|⟨y,u,rfl,e⟩
  ·exact nomatch e
  ·injection e with e1 _;subst e1;cases v<;>rfl
theorem xt prog w i t:(bc prog w).is (.inl i) (.int i t)=true:=B4 i t
theorem xu prog w x t:(bc prog w).is (.inr x) (.str x t)=true:=B5 x t
inductive V where
 |bq|bl (b:Bool)|int (i:Int)|str (x:Str)|M8 (b:Array UInt8)|J4 (b:UInt64)|ref (a:Addr)|ty (n:String)
 deriving DecidableEq
def RelV:V->Value->Prop
 |.bq,u=>u=Xi|.bl b,u=>u=YA b|.int i,u=>∃t,u=Y6 i t|.str x,u=>∃t,u=Y5 x t|.M8 b,u=>∃t,u=Value.bytes b t|.J4 b,u=>∃t,u=aaP b t|.ref a,u=>u=VJ a|.ty n,u=>u=X7 n
abbrev aP:List V->List Value->Prop:=aaA RelV
theorem aP.length(r:aP xs us):xs.length=us.length:=ZN r
theorem aP.get:∀{xs} {us} {i:Nat} {x},aP xs us->xs[i]?=some x->∃u,us[i]?=some u/\RelV x u
 |_,_,_,_,.nil,e=>by simp at e|_,_,0,_,.cons r _,e=>by simp at e;subst e;exact⟨_,rfl,r⟩|_,_,i+1,x,.cons _ t,e=>by obtain⟨u,h1,h2⟩:=aP.get (i:=i) (x:=x) t (by simpa using e);exact⟨u,by simpa using h1,h2⟩
theorem aP.set(r:RelV x u):∀{xs} {us} (i),aP xs us->aP (xs.set i x) (us.set i u)
 |_,_,_,.nil=>.nil|_,_,0,.cons _ t=>.cons r t|_,_,i+1,.cons q t=>.cons q (aP.set r i t)
theorem aP.append:∀{xs ys} {us ws},aP xs us->aP ys ws->aP (xs++ys) (us++ws)
 |_,_,_,_,.nil,s=>s|_,_,_,_,.cons r t,s=>.cons r (aP.append t s)
theorem aP.take:∀{xs} {us} (n),aP xs us->aP (xs.take n) (us.take n)
 |_,_,0,_=>.nil|_,_,_+1,.nil=>.nil|_,_,n+1,.cons r t=>.cons r (aP.take n t)
theorem aP.drop:∀{xs} {us} (n),aP xs us->aP (xs.drop n) (us.drop n)
 |_,_,0,r=>r|_,_,_+1,.nil=>.nil|_,_,n+1,.cons _ t=>aP.drop n t
def kh:Option V->Option Value->Prop
 |some v,some u=>RelV v u|none,none=>True|_,_=>False
def KV{κ:Type}:List (κ×V)->List (κ×Value)->Prop:=aaA λ(p:κ×V) (q:κ×Value)=>p.1=q.1/\RelV p.2 q.2
def kV:Key->V
 |.inl i=>.int i|.inr x=>.str x
inductive HO where
 |lst (xs:List V)
 |tup (xs:List V)
 |dK (kvs:List (Key×V))|dT (kvs:List (List Key×V))
 |set (S:Int->Bool) (n:Nat)
 |ins (C dx:Addr) (fs:List (Str×V))
 |own (x:Addr)
 |xd (fs:List (Str×V))
 |met (f x:Addr)
 |gG (lo hi:Int)
 |dt (o:Obj) (u:HO)
 |fH (ps:Array Value)
 |ext (φ:Heap->Prop)
abbrev Hp:=Addr->Option HO
def upd(H:Hp)(a:Addr)(o:HO):Hp:=λb=>if b=a then some o else H b
theorem aC:upd H a o a=some o:=by unfold upd;rw[if_pos rfl]
theorem aw(h:b≠a):upd H a o b=H b:=by unfold upd;rw[if_neg h]
theorem Gy:upd (upd H a o) a u=upd H a u:=by funext b;unfold upd;split<;>rfl
theorem Nt{H:Hp}(h:H a=some o)(h':H b=some u)(d:o≠u):a≠b:=by intro e;subst e;rw[h] at h';exact d (VT h')
theorem aK{H:Hp}(h:H a=some o)(h':H b=none):a≠b:=by intro e;subst e;rw[h] at h';cases h'
section
variable(P:Wf)(w:World)
def bz(H:Hp)(h:Heap)(a:Addr):HO->Prop
 |.lst xs=>xs.length<=VD/\∃(its:List Value) (n:Nat),aP xs its/\h.get? a=some {cls:=.type "list",data:=.seq its.toArray n}|.tup xs=>xs.length<=VD/\∃its:List Value,aP xs its/\IsTup h a its.toArray|.dK kvs=>kvs.length<=VD/\(a==W6)=false/\∃vs,KV kvs vs/\h.DictOf (bc P w) a vs
 |.dT kvs=>kvs.length<=VD/\(a==W6)=false/\∃xs:List (List Key×Addr×Value),
   aaA (λ(p:List Key×V) (q:List Key×Addr×Value)=>p.1=q.1/\H q.2.1=some (.tup (p.1.map kV))/\RelV p.2 q.2.2) kvs xs/\
   ∃o es ep,h.get? a=some o/\o.ExactDict/\o.data=.dict es ep/\es.toList=xs.map (entryOfKey (aao (bc P w)))/\(xs.map (·.1)).Nodup
 |.set S n=>h.SetOf (intKind P w) a S n
 |.ins C dx fs=>H dx=some (.own a)/\fs.length<=1000/\dx≠a/\h.get? a=some (Xp C dx)/\
   ∃mA,h.Ns1 dx mA/\(∀f,kh (fs.lookup f) (mA f))/\aaE mA (fs.map (·.1))
 |.own _=>∃o,h.get? a=some o|.xd fs=>∃mA,h.Ns1 a mA/\∀f,kh (fs.lookup f) (mA f)|.gG lo hi=>∃t u v,h.get? a=some {cls:=.type "range",data:=.fields #[.int lo t,.int hi u,.int 1 v]}|.dt o u=>h.get? a=some o/\bz H h a u|.fH ps=>h.get? a=some {cls:=.none,data:=.fields ps}|.met f x=>h.get? a=some (ZA (.ref f) (.ref x))|.ext φ=>φ h/\(∃o,h.get? a=some o)/\∀h1 h2:Heap,φ h1->(∀o,h1.get? a=some o->h2.get? a=some o)->φ h2
def ki(H:Hp)(h:Heap):Prop:=∀a o,H a=some o->bz P w H h a o
end
section
variable{P:Wf}{w:World}{H H':Hp}{h h':Heap}{a:Addr}{o:HO}
theorem bz.lt(x:bz P w H h a o):a < h.objs.size:=by cases o with|lst xs=>obtain⟨_,_,_,_,e⟩:=x;exact Vs e|tup xs=>obtain⟨_,_,_,p⟩:=x;exact p.lt|dK kvs=>obtain⟨_,_,_,_,o,_,_,e,_⟩:=x;exact Vs e|dT kvs=>obtain⟨_,_,_,_,o,_,_,e,_⟩:=x;exact Vs e|set S n=>obtain⟨o,_,_,_,e,_⟩:=x;exact Vs e|ins C dx fs=>obtain⟨_,_,_,e,_⟩:=x;exact Vs e|own y=>obtain⟨_,e⟩:=x;exact Vs e|xd fs=>obtain⟨_,⟨_,_,_,e,_⟩,_⟩:=x;exact Vs e|gG lo hi=>obtain⟨_,_,_,e⟩:=x;exact Vs e|dt ob u=>obtain⟨e,_⟩:=x;exact Vs e|fH ps=>exact Vs (show h.get? a=some _ from x)|met f y=>exact Vs (show h.get? a=some _ from x)|ext φ=>obtain⟨_,⟨_,e⟩,_⟩:=x;exact Vs e
theorem aaA.J5:∀{Dx} {Dy},aaA F Dx Dy->(∀a b,F a b->G a b)->aaA G Dx Dy
 |_,_,.nil,_=>.nil|_,_,.cons r t,f=>.cons (f _ _ r) (aaA.J5 t f)
theorem bz.mY(x:bz P w H h a o)(k:∀b u,(b=a\/H b=some (.own a))->h.get? b=some u->h'.get? b=some u)
  (ho:∀b,H b=some (.own a)->H' b=some (.own a)) (ht:∀b xs,H b=some (.tup xs)->H' b=some (.tup xs)):bz P w H' h' a o:=by
 induction o with
 |lst xs=>obtain⟨z,its,n,r,e⟩:=x;exact⟨z,its,n,r,k _ _ (.inl rfl) e⟩|tup xs=>obtain⟨z,its,r,ob,e,c⟩:=x;exact⟨z,its,r,ob,k _ _ (.inl rfl) e,c⟩|dK kvs=>obtain⟨z,y,vs,r,ob,es,ep,e,c⟩:=x;exact⟨z,y,vs,r,ob,es,ep,k _ _ (.inl rfl) e,c⟩|dT kvs=>obtain⟨z,y,xs,r,ob,es,ep,e,c⟩:=x;exact⟨z,y,xs,aaA.J5 r λp q z=>⟨z.1,ht _ _ z.2.1,z.2.2⟩,ob,es,ep,k _ _ (.inl rfl) e,c⟩
 |set S n=>obtain⟨ob,es,ep,t,e,c⟩:=x;exact⟨ob,es,ep,t,k _ _ (.inl rfl) e,c⟩|ins C dx fs=>obtain⟨d,z,ne,e,mA,⟨od,es,ep,e2,c⟩,r⟩:=x;exact⟨ho _ d,z,ne,k _ _ (.inl rfl) e,mA,⟨od,es,ep,k _ _ (.inr d) e2,c⟩,r⟩
 |own y=>obtain⟨ob,e⟩:=x;exact⟨ob,k _ _ (.inl rfl) e⟩|xd fs=>obtain⟨mA,⟨od,es,ep,e,c⟩,r⟩:=x;exact⟨mA,⟨od,es,ep,k _ _ (.inl rfl) e,c⟩,r⟩|gG lo hi=>obtain⟨t,u,v,e⟩:=x;exact⟨t,u,v,k _ _ (.inl rfl) e⟩|dt ob u ih=>obtain⟨e,q⟩:=x;exact⟨k _ _ (.inl rfl) e,ih q⟩|fH ps=>have e:h.get? a=some {cls:=.none,data:=.fields ps}:=x;show h'.get? a=some {cls:=.none,data:=.fields ps};exact k a _ (.inl rfl) e
 |met f y=>have e:h.get? a=some (ZA (.ref f) (.ref y)):=x;show h'.get? a=some (ZA (.ref f) (.ref y));exact k a _ (.inl rfl) e|ext φ=>obtain⟨p,⟨o,e⟩,st⟩:=x;exact⟨st _ _ p λo q=>k _ _ (.inl rfl) q,⟨o,k _ _ (.inl rfl) e⟩,st⟩
theorem ki.lt(x:ki P w H h)(e:H a=some o):a < h.objs.size:=(x a o e).lt
theorem ki.fresh(x:ki P w H h)(e:h.objs.size<=a):H a=none:=by cases q:H a with|none=>rfl|some u=>exact absurd (VI (x.lt q) e) (W3 _)
theorem ki.kept(x:ki P w H h)(k:∀b u,h.get? b=some u->h'.get? b=some u):ki P w H h':=λa o e=>(x a o e).mY (λb u _ q=>k b u q) (λ_ q=>q) λ_ _ q=>q
theorem ki.laid(x:ki P w H h)(k:∀b u,h.get? b=some u->h'.get? b=some u)(hp:h.objs.size<=a)(new:bz P w (upd H a o) h' a o):ki P w (upd H a o) h':=λb u e=>by
 have hn:=x.fresh hp;by_cases hb:b=a;·subst hb;rw[aC] at e;cases e;exact new
 ·rw[aw hb] at e;exact(x b u e).mY (λc v _ q=>k c v q) (λc q=>by rw[aw (aK q hn)];exact q) λc xs q=>by rw[aw (aK q hn)];exact q
end
def Rd(H:Hp)(a:Addr)(u:HO):Prop:=H a=some u\/∃o,H a=some (.dt o u)
theorem Rd.ok(r:Rd H a u)(x:ki P w H h):bz P w H h a u:=by
 rcases r with r|⟨o,r⟩;·exact x a u r
 ·obtain⟨_,q⟩:=x a _ r;exact q
def Nu:Option HO->Prop
 |some (.lst _)=>True|some (.dK _)=>True|some (.dT _)=>True|some (.set _ _)=>True|some (.ins _ _ _)=>True|some (.ext _)=>True|_=>False
section
variable{P:Wf}{w:World}{H:Hp}{h h':Heap}{x e:Addr}{o':HO}
theorem ki.write(ok:ki P w H h)(mu:Nu (H x))(he:e=x\/H e=some (.own x))(k:∀b u,b≠e->h.get? b=some u->h'.get? b=some u)(M9:∃u,h'.get? e=some u)
  (new:bz P w (upd H x o') h' x o'):ki P w (upd H x o') h':=λb u q=>by
 have Nv:∀c y,H c=some (.own y)->c≠x:=λc y r z=>by subst z;rw[r] at mu;exact mu
 have RM:∀c xs,H c=some (.tup xs)->c≠x:=λc xs r z=>by subst z;rw[r] at mu;exact mu
 by_cases hb:b=x;·subst hb;rw[aC] at q;cases q;exact new
 ·rw[aw hb] at q;by_cases J6:b=e
  ·have q':H b=some (.own x):=by
    rcases he with z|z;·exact absurd (J6.trans z) hb
    ·rw[J6];exact z
   rw[q] at q';cases q';obtain⟨v,hv⟩:=M9;exact⟨v,by rw[J6];exact hv⟩
  ·refine(ok b u q).mY (λc v hc r=>k c v ?_ r) (λc r=>by rw[aw (Nv c b r)];exact r) λc xs r=>by rw[aw (RM c xs r)];exact r
   rcases hc with rfl|hc;·exact J6
   ·rintro rfl;rcases he with z|z;·exact Nv c b hc z
    ·rw[hc] at z;cases z;exact hb rfl
end
structure Un(fs ex:List Addr)(H H':Hp)(h h':Heap):Prop where
 keep:∀b o,h.get? b=some o->H b=none->b∉fs->b∉ex->h'.get? b=some o
 slot:∀b o,h.get? b=some o->H b=none->b∈fs->b∉ex->∃sl,h'.get? b=some {o with slots:=sl}
 free:∀b o,h.get? b=some o->H b=none->b∉ex->H' b=none
 there:∀b o,h.get? b=some o->b∉ex->∃o',h'.get? b=some o'
 rE:∀b xs,H b=some (.tup xs)->H' b=some (.tup xs)
 oo:∀b o u,H b=some (.dt o u)->H' b=some (.dt o u)
 qb:∀b ps,H b=some (.fH ps)->∃more,H' b=some (.fH (ps++more))
section
variable{fs fs' ex ex':List Addr}{H H1 H2:Hp}{h h1 h2 h':Heap}{a x e:Addr}{o:HO}
theorem Un.any(u:Un fs ex H H1 h h1)(q:h.get? b=some ob)(n:H b=none)(hx:b∉ex):∃sl,h1.get? b=some {ob with slots:=sl}:=by
 by_cases hb:b∈fs;·exact u.slot b ob q n hb hx
 ·exact⟨ob.slots,u.keep b ob q n hb hx⟩
theorem Un.kept(k:∀b u,h.get? b=some u->h'.get? b=some u):Un fs ex H H h h':=
 ⟨λb ob q _ _ _=>k b ob q,λb ob q _ _ _=>⟨ob.slots,k b ob q⟩,λ_ _ _ n _=>n,λb ob q _=>⟨ob,k b ob q⟩,λ_ _ q=>q,λ_ _ _ q=>q,λ_ ps q=>⟨#[],by rw[q];simp⟩⟩
theorem Un.refl:Un fs ex H H h h:=Un.kept λ_ _ q=>q
theorem Un.laid(k:∀b u,h.get? b=some u->h'.get? b=some u)(hp:h.objs.size<=a)(hn:H a=none):Un fs ex H (upd H a o) h h' where
 keep:=λb u q _ _ _=>k b u q
 slot:=λb u q _ _ _=>⟨u.slots,k b u q⟩
 free:=λb u q n _=>by rw[aw (VP (VI (Vs q) hp))];exact n
 there:=λb u q _=>⟨u,k b u q⟩
 rE:=λb xs q=>by rw[aw (aK q hn)];exact q
 oo:=λb u xs q=>by rw[aw (aK q hn)];exact q
 qb:=λb ps q=>⟨#[],by rw[aw (aK q hn),q];simp⟩
theorem Un.write(mu:Nu (H x))(he:e=x\/H e=some (.own x))(k:∀b u,b≠e->h.get? b=some u->h'.get? b=some u)(M9:∃u,h'.get? e=some u):Un fs ex H (upd H x o) h h':=by
 have hx:∀b,H b=none->b≠x:=λb n z=>by subst z;rw[n] at mu;exact mu
 have hb:∀b,H b=none->b≠e:=λb n z=>by
  subst z;rcases he with r|r;·exact hx b n r
  ·rw[n] at r;cases r
 have hm:∀b u,H b=some u->¬Nu (some u)->b≠x:=λb u q nm z=>by subst z;rw[q] at mu;exact nm mu
 refine⟨λb u q n _ _=>k b u (hb b n) q,λb u q n _ _=>⟨u.slots,k b u (hb b n) q⟩,λb u q n _=>by rw[aw (hx b n)];exact n,λb u q _=>?_,
  λb xs q=>by rw[aw (hm b _ q λz=>z)];exact q,λb u xs q=>by rw[aw (hm b _ q λz=>z)];exact q,λb ps q=>⟨#[],by rw[aw (hm b _ q λz=>z),q];simp⟩⟩
 by_cases J6:b=e;·subst J6;exact M9
 ·exact⟨u,k b u J6 q⟩
end
def qc(h:Heap)(H:Hp):List Addr:=(U8 h.objs.size).filter λa=>(H a).isSome
def qd(h:Heap)(H:Hp):Heap:=PySem.W.hideAll h (qc h H)
theorem uS h H:(qd h H).objs.size=h.objs.size:=PySem.W.hideAll_size _ _
theorem xw(e:h.get? b=some o)(n:H b=none):(qd h H).get? b=some o:=
 PySem.W.hideAll_get _ e λhm=>by have q:(H b).isSome=true:=(Wo.mp hm).2;rw[n] at q;simp at q
theorem A3(e:(qd h H).get? b=some o):h.get? b=some o/\H b=none:=by have e':h.get? b=some o:=PySem.W.of_hideAll (qc h H) e;refine⟨e',?_⟩;cases q:H b with|none=>rfl|some x=>have hm:b∈qc h H:=Wo.mpr ⟨Wi.mpr (Vs e'),by simp[q]⟩;have z:(qd h H).get? b=none:=PySem.W.hideAll_none (qc h H) hm;rw[z] at e;cases e
structure Mod(K:Vm)(mg:Str->Option Value)(base:Heap):Prop where
 J7:K.In base
 glob:base.Ns Vu mg
 blt:∃mb,base.Ns Z7 mb/\∀x:Str,x≠"__name__"->mb x=Yp x
 nolimit:base.NoLimit
structure Cx where
 prog:Wf
 w:World
 K:Vm
 mg:Str->Option Value
 base:Heap
 A:WN
 N:List Str
 g7:Vv
 xx:Hp
 env:Env
 outer:List Env
 stack:List Env
 ex:List Addr
 fn:Str->Bool
 calm:Bool
 pn:List (Addr×Obj)
 xe:Value->Vv->Prop
def jC(l:List Env):List Addr:=l.filterMap (·.frame)
abbrev Cx.fs(X:Cx):List Addr:=jC X.outer
def Nw(sc:Scope)(x:Str):Prop:=sc.names.lookup x=some .local\/sc.names.lookup x=some .cell\/sc.names.lookup x=some .free
def Loc(sc:Scope)(x:Str):Prop:=sc.names.lookup x=some .local\/sc.names.lookup x=some .cell
def Look(env:Env)(h:Heap)(m:Str->Option Value)(x:Str)(u:Value):Prop:=
 (env.kindOf x=some .local/\m x=some u)\/((env.kindOf x=some .cell\/env.kindOf x=some .free)/\∃c,env.cells.lookup x=some c/\h.IsCell c (some u))
structure Cx.Ok(X:Cx):Prop where
 mod:Mod X.K X.mg X.base
 kind:X.env.scope.kind=.function
 glob:X.env.globals=Vu
 blt:X.env.builtins=Z7
 above:X.g7.heap.objs.size<=X.env.locals
 inj:∀x y c,X.env.cells.lookup x=some c->X.env.cells.lookup y=some c->x=y
 has:∀x,(X.env.kindOf x=some .cell\/X.env.kindOf x=some .free)->∃c,X.env.cells.lookup x=some c
 J8:∀x c,X.fn x=true->X.env.cells.lookup x=some c->X.g7.heap.objs.size<=c
 hd:X.calm=true->X.A.handled=none
 frames:X.A.frames=some X.stack
 Nx:X.stack=X.outer\/(X.stack=X.env::X.outer/\X.env.frame=some X.env.locals)
 RN:∀b∈X.ex,b≠X.env.locals/\∀x c,X.env.cells.lookup x=some c->c≠b
 bs:∀b o,X.base.get? b=some o->X.g7.heap.get? b=some o/\X.xx b=none
 Dq:X.base.objs.size<=X.g7.heap.objs.size
 B6:∀b o,X.base.get? b=some o->b∉X.ex
 Dz:∀b∈X.ex,b∉X.fs
 ma:X.g7.heap.FunFrames X.base X.outer
 Gz:∀b∈X.fs,X.xx b=none
structure Inv(X:Cx)(pins:List (Addr×Obj))(σ:List (Option V))(H:Hp)(s:Vv):Prop where
 ok:X.Ok
 os:s.os=X.g7.os
 bare:ZG s.gens
 base:Un X.fs X.ex X.xx H X.g7.heap s.heap
 loc:∃m,s.heap.Ns X.env.locals m/\∀(i:Nat) (x:Str) (v:V),X.N[i]?=some x->σ[i]?=some (some v)->Nw X.env.scope x->∃u,RelV v u/\Look X.env s.heap m x u
 cell:∀x c,X.env.cells.lookup x=some c->∃v,s.heap.IsCell c v
 free:H X.env.locals=none
 jX:∀x c,X.env.cells.lookup x=some c->H c=none
 pin:∀p∈X.pn++pins,s.heap.get? p.1=some p.2/\H p.1=none/\p.1≠X.env.locals/\p.1∉X.fs/\∀v,p.2.data≠.cell v
 aH:ki X.prog X.w H s.heap
 len:σ.length=X.N.length
section
variable{X:Cx}{pins:List (Addr×Obj)}{σ:List (Option V)}{H H':Hp}{s:Vv}{h':Heap}
theorem Cx.Ok.GA(ok:X.Ok)(e:X.base.get? b=some o):b∉X.fs:=λhb=>by have:=(ok.ma.mem hb).1;rw[e] at this;cases this
theorem Inv.bs(I:Inv X pins σ H s):∀b o,X.base.get? b=some o->s.heap.get? b=some o/\H b=none:=λb o e=>⟨I.base.keep b o (I.ok.bs b o e).1 (I.ok.bs b o e).2 (I.ok.GA e) (I.ok.B6 b o e),I.base.free b o (I.ok.bs b o e).1 (I.ok.bs b o e).2 (I.ok.B6 b o e)⟩
theorem Inv.bk(I:Inv X pins σ H s):∀b o,X.base.get? b=some o->s.heap.get? b=some o:=λb o e=>(I.bs b o e).1
theorem Inv.mod(I:Inv X pins σ H s):Mod X.K X.mg X.base:=I.ok.mod
theorem Inv.mZ(I:Inv X pins σ H s):X.K.In s.heap:=I.ok.mod.J7.keeps I.bk
theorem Inv.lt(I:Inv X pins σ H s):X.env.locals < s.heap.objs.size:=let ⟨_,hn,_⟩:=I.loc;hn.lt
theorem Inv.sz(I:Inv X pins σ H s):X.g7.heap.objs.size<=s.heap.objs.size:=V3 I.ok.above (Yr I.lt)
theorem Inv.RO(I:Inv X pins σ H s)(h:s.heap.objs.size<=a):a∉X.fs:=λhb=>by obtain⟨_,o,ho,_⟩:=I.ok.ma.mem hb;exact absurd (VI (Vs ho) (V3 I.sz h)) (W3 _)
theorem Inv.Ji(I:Inv X pins σ H s):∀x c,X.env.cells.lookup x=some c->c≠X.env.locals:=λx c e z=>by obtain⟨v,o,ho,hd⟩:=I.cell x c e;obtain⟨m,⟨o',es,ep,oq,A4,_⟩,_⟩:=I.loc;rw[z,oq] at ho;cases ho;rw[A4] at hd;cases hd
theorem Inv.ma(I:Inv X pins σ H s):s.heap.FunFrames X.base X.outer:=by
 have all:∀(l:List Env),(∀b∈jC l,b∈X.fs)->X.g7.heap.FunFrames X.base l->s.heap.FunFrames X.base l:=by intro l;induction l with|nil=>intro _ _;trivial|cons env r ih=>intro hs hl;obtain⟨hk,⟨L,o,hf,hn,ho,hd⟩,hr⟩:=hl;have hL:L∈X.fs:=hs L (by unfold jC;rw[XY,hf];exact Vh);obtain⟨sl,e⟩:=I.base.slot L o ho (I.ok.Gz L hL) hL λz=>I.ok.Dz L z hL;exact⟨hk,⟨L,_,hf,hn,e,hd⟩,ih (λb hb=>hs b (by unfold jC;rw[XY,hf];exact Vb _ hb)) hr⟩
 exact all X.outer (λ_ hb=>hb) I.ok.ma
theorem Inv.stack(I:Inv X pins σ H s):s.heap.FunFrames X.base X.stack:=by
 rcases I.ok.Nx with e|⟨e,hf⟩;·rw[e];exact I.ma
 ·rw[e];obtain⟨m,hn,_⟩:=I.loc;refine .cons (by rw[I.ok.kind];decide) hf hn ?_ I.ma;exact Heap.get?_none_of_le (V3 I.ok.Dq I.ok.above)
theorem Inv.ot(I:Inv X pins σ H s):∀b∈jC X.stack,b∈X.env.locals::X.fs:=λb hb=>by
 rcases I.ok.Nx with e|⟨e,hf⟩;·rw[e] at hb;exact Vb _ hb
 ·rw[e] at hb;unfold jC at hb;rw[XY,hf] at hb;exact hb
theorem Inv.m5(I:Inv X pins σ H s):∀b∈jC X.stack,H b=none:=λb hb=>by
 rcases W4.mp (I.ot b hb) with e|hb;·rw[e];exact I.free
 ·obtain⟨_,o,ho,_⟩:=I.ok.ma.mem hb;exact I.base.free b o ho (I.ok.Gz b hb) λz=>I.ok.Dz b z hb
theorem Inv.step{ch:List Addr}(I:Inv X pins σ H s)(Gf:∀b∈ch,(b∈X.ex\/X.g7.heap.objs.size<=b)/\b≠X.env.locals/\(∀x c,X.env.cells.lookup x=some c->c≠b)/\∀p∈X.pn++pins,p.1≠b)(keep:∀b o,b≠X.env.locals->b∉X.fs->b∉ch->s.heap.get? b=some o->H b=none->h'.get? b=some o)(slot:∀b o,b≠X.env.locals->b∈X.fs->b∉ch->s.heap.get? b=some o->H b=none->∃sl,h'.get? b=some {o with slots:=sl})(free:∀b o,b∉ch->s.heap.get? b=some o->H b=none->H' b=none)(there:∀b o,b∉ch->s.heap.get? b=some o->∃o',h'.get? b=some o')(rE:∀b xs,H b=some (.tup xs)->H' b=some (.tup xs))(oo:∀b o u,H b=some (.dt o u)->H' b=some (.dt o u))(qb:∀b ps,H b=some (.fH ps)->∃more,H' b=some (.fH (ps++more)))(ns:∀m,s.heap.Ns X.env.locals m->h'.Ns X.env.locals m)(aH:ki X.prog X.w H' h')(hg:ZG g'):
  Inv X pins σ H' {s with heap:=h',gens:=g',drawn:=d',toks:=t'}:=by
 have neL:∀b o,X.g7.heap.get? b=some o->b≠X.env.locals:=λb o e=>VP (VI (Vs e) I.ok.above);have QM:∀b o,X.g7.heap.get? b=some o->b∉X.ex->b∉ch:=λb o e hx hb=>by
  rcases(Gf b hb).1 with z|z;·exact hx z
  ·exact absurd (VI (Vs e) z) (W3 _)
 have cellK:∀x c,X.env.cells.lookup x=some c->∀v,s.heap.IsCell c v->h'.IsCell c v:=λx c e v ⟨o,ho,hd⟩=>by
  have Ny:c∉ch:=λz=>(Gf c z).2.2.1 x c e rfl;by_cases hc:c∈X.fs;·obtain⟨sl,q⟩:=slot c o (I.Ji x c e) hc Ny ho (I.jX x c e);exact⟨_,q,hd⟩
  ·exact⟨o,keep c o (I.Ji x c e) hc Ny ho (I.jX x c e),hd⟩
 refine⟨I.ok,I.os,hg,⟨λb o e n hb hx=>?_,λb o e n hb hx=>?_,λb o e n hx=>?_,λb o e hx=>?_,λb xs e=>rE b xs (I.base.rE b xs e),λb o xs e=>oo b o xs (I.base.oo b o xs e),λb ps e=>?_⟩,?_,λx c e=>?_,?_,λx c e=>?_,λp hp=>?_,aH,I.len⟩;·exact keep b o (neL b o e) hb (QM b o e hx) (I.base.keep b o e n hb hx) (I.base.free b o e n hx)
 ·obtain⟨sl,e1⟩:=I.base.slot b o e n hb hx;obtain⟨sl',e2⟩:=slot b _ (neL b o e) hb (QM b o e hx) e1 (I.base.free b o e n hx);exact⟨sl',e2⟩
 ·obtain⟨o',e1⟩:=I.base.there b o e hx;exact free b o' (QM b o e hx) e1 (I.base.free b o e n hx)
 ·obtain⟨o',e1⟩:=I.base.there b o e hx;exact there b o' (QM b o e hx) e1
 ·obtain⟨m1,e1⟩:=I.base.qb b ps e;obtain⟨m2,e2⟩:=qb b _ e1;exact⟨m1++m2,by rw[e2,Array.append_assoc]⟩
 ·obtain⟨m,hn,hl⟩:=I.loc;refine⟨m,ns m hn,λi x v e1 e2 e3=>?_⟩;obtain⟨u,r,l⟩:=hl i x v e1 e2 e3;refine⟨u,r,?_⟩;rcases l with l|⟨k,c,e,z⟩;·exact .inl l
  ·exact .inr ⟨k,c,e,cellK x c e _ z⟩
 ·obtain⟨v,z⟩:=I.cell x c e;exact⟨v,cellK x c e v z⟩
 ·obtain⟨m,⟨o,_,_,ho,_⟩,_⟩:=I.loc;exact free _ o (λz=>(Gf _ z).2.1 rfl) ho I.free
 ·obtain⟨v,o,ho,hd⟩:=I.cell x c e;exact free c o (λz=>(Gf c z).2.2.1 x c e rfl) ho (I.jX x c e)
 ·obtain⟨e,n,ne,nf,d⟩:=I.pin p hp;have Ny:p.1∉ch:=λz=>(Gf p.1 z).2.2.2 p hp rfl;exact⟨keep p.1 p.2 ne nf Ny e n,free p.1 p.2 Ny e n,ne,nf,d⟩
theorem Inv.un(I:Inv X pins σ H s)(u:Un X.fs [] H H' s.heap h')(aH:ki X.prog X.w H' h'):Inv X pins σ H' {s with heap:=h',toks:=t'}:=by obtain⟨m,⟨o,es,ep,ho,r⟩,_⟩:=id I.loc;obtain⟨sl,hL⟩:=u.any ho I.free (by simp);exact I.step (g':=s.gens) (d':=s.drawn) (ch:=[]) (λ_ z=>nomatch z) (λb o _ hb _ e n=>u.keep b o e n hb (by simp)) (λb o _ hb _ e n=>u.slot b o e n hb (by simp)) (λb o _ e n=>u.free b o e n (by simp)) (λb o _ e=>u.there b o e (by simp)) u.rE u.oo u.qb (λm' hm=>by obtain⟨o',QN,QO,oq,r'⟩:=hm;rw[ho] at oq;cases oq;exact⟨_,QN,QO,hL,r'⟩) aH I.bare
theorem Inv.call(I:Inv X pins σ H s)(u:Un (jC X.stack) ch H H' s.heap h')(aH:ki X.prog X.w H' h')(hg:ZG g')(Gf:∀b∈ch,(b∈X.ex\/X.g7.heap.objs.size<=b)/\b≠X.env.locals/\(∀x c,X.env.cells.lookup x=some c->c≠b)/\∀p∈X.pn++pins,p.1≠b):
  Inv X pins σ H' {s with heap:=h',gens:=g',drawn:=d',toks:=t'}:=by
 obtain⟨m,⟨o,es,ep,ho,r⟩,_⟩:=id I.loc;obtain⟨sl,hL⟩:=u.any ho I.free λz=>(Gf _ z).2.1 rfl;exact I.step (ch:=ch) Gf (λb o hL hb hc e n=>u.keep b o e n (λz=>(W4.mp (I.ot b z)).elim hL hb) hc) (λb o _ _ hc e n=>u.any e n hc) (λb o hc e n=>u.free b o e n hc) (λb o hc e=>u.there b o e hc) u.rE u.oo u.qb (λm' hm=>by obtain⟨o',QN,QO,oq,r'⟩:=hm;rw[ho] at oq;cases oq;exact⟨_,QN,QO,hL,r'⟩) aH hg
theorem Inv.turned(I:Inv X pins σ H s)(k:∀b o,b≠it->s.heap.get? b=some o->h'.get? b=some o)(hn:H it=none)(hL:it≠X.env.locals)(h1:it∈X.ex\/X.g7.heap.objs.size<=it)(h2:∀x c,X.env.cells.lookup x=some c->c≠it)(h3:∀p∈X.pn++pins,p.1≠it):Inv X pins σ H {s with heap:=h',toks:=t'}:=by
 have DA:∀b u,H b=some u->b≠it:=λb u e z=>by rw[z,hn] at e;cases e
 refine I.step (g':=s.gens) (d':=s.drawn) (ch:=[it]) (λb hb=>?_) (λb o _ _ hc e _=>k b o (λz=>hc (by simp[z])) e) (λb o _ _ hc e _=>⟨o.slots,k b o (λz=>hc (by simp[z])) e⟩) (λ_ _ _ _ n=>n)
  (λb o hc e=>⟨o,k b o (λz=>hc (by simp[z])) e⟩) (λ_ _ e=>e) (λ_ _ _ e=>e) (λb ps e=>⟨#[],by rw[e];simp⟩) (λm hm=>?_) (λb u e=>?_) I.bare
 ·have e:b=it:=by simpa using hb
  subst e;exact⟨h1,hL,h2,h3⟩
 ·obtain⟨o,es,ep,ho,r⟩:=hm;exact⟨o,es,ep,k _ o (Wg hL) ho,r⟩
 ·refine(I.aH b u e).mY (λc v hc q=>k c v ?_ q) (λ_ q=>q) λ_ _ q=>q;rcases hc with z|z;·rw[z];exact DA b u e
  ·exact DA c _ z
theorem Inv.tok(I:Inv X pins σ H s)t:Inv X pins σ H {s with toks:=t}:=I.un (h':=s.heap) (t':=t) Un.refl I.aH
theorem Inv.kept(I:Inv X pins σ H s)(k:∀b u,s.heap.get? b=some u->h'.get? b=some u):Inv X pins σ H {s with heap:=h',toks:=t'}:=I.un (Un.kept k) (I.aH.kept k)
theorem Inv.laid(I:Inv X pins σ H s)(k:∀b u,s.heap.get? b=some u->h'.get? b=some u)(hp:s.heap.objs.size<=a)(new:bz X.prog X.w (upd H a o) h' a o):
  Inv X pins σ (upd H a o) {s with heap:=h',toks:=t'}:=I.un (Un.laid k hp (I.aH.fresh hp)) (I.aH.laid k hp new)
theorem Inv.write(I:Inv X pins σ H s)(mu:Nu (H x))(he:e=x\/H e=some (.own x))(k:∀b u,b≠e->s.heap.get? b=some u->h'.get? b=some u)(M9:∃u,h'.get? e=some u)(new:bz X.prog X.w (upd H x o) h' x o):Inv X pins σ (upd H x o) {s with heap:=h',toks:=t'}:=I.un (Un.write mu he k M9) (I.aH.write mu he k M9 new)
theorem Inv.A5(I:Inv X pins σ H s)(h:∀p∈Nz,s.heap.get? p.1=some p.2/\H p.1=none/\p.1≠X.env.locals/\p.1∉X.fs/\∀v,p.2.data≠.cell v):Inv X Nz σ H s:=
 ⟨I.ok,I.os,I.bare,I.base,I.loc,I.cell,I.free,I.jX,λp hp=>(Xr.mp hp).elim (λz=>I.pin p (Wr _ z)) (h p),I.aH,I.len⟩
theorem kj{N:List Str}(hN:N.Nodup){i j:Nat}(a:N[i]?=some x)(b:N[j]?=some x):i=j:=by obtain⟨h1,e1⟩:=List.getElem?_eq_some_iff.mp a;obtain⟨h2,e2⟩:=List.getElem?_eq_some_iff.mp b;exact(List.getElem_inj hN).mp (e1.trans e2.symm)
theorem B7(I:Inv X pins σ H s)(hN:X.N.Nodup)(hi:X.N[i]?=some x)(hx:Loc X.env.scope x)(r:RelV v u)(h:∀s',Inv X pins (σ.set i (some v)) H s'->(∃a,XS a s.heap s'.heap/\(a=X.env.locals\/X.env.cells.lookup x=some a))->Q () s')(hf:X.fn x=true\/X.env.scope.names.lookup x=some .local:=by first|exact .inl rfl|exact .inr rfl|assumption):wpAny M A (storeName X.env x u) Q E s:=by
 obtain⟨m,hn,hl⟩:=id I.loc;have RP:(X.env.scope.kind==.class||(X.env.scope.kind==.module&&X.env.locals !=X.env.globals))=false:=by rw[I.ok.kind];rfl
 have NA:i < σ.length:=by rw[I.len];exact(List.getElem?_eq_some_iff.mp hi).1
 have Ji:=I.Ji;have tracked:∀{a:Addr} {h':Heap},(∃o,s.heap.get? a=some o/\H a=none)->XS a s.heap h'->ki X.prog X.w H h':=λ{a h'} ha hs b ob e=>by
  obtain⟨_,_,xy⟩:=ha;refine(I.aH b ob e).mY (λc w' hc q=>(hs.2 c ?_).trans q) (λ_ q=>q) λ_ _ q=>q;rintro rfl;rcases hc with rfl|hc;·rw[xy] at e;cases e
  ·rw[xy] at hc;cases hc
 rcases hx with hk|hk
 ·refine wpAny_storeName_local hk hn (λh' DB hs=>?_) RP;obtain⟨oL,_,_,hoL,_⟩:=id hn;refine h _ ⟨I.ok,I.os,I.bare,⟨λb o e n hb hx=>?_,λb o e n hb hx=>?_,I.base.free,λb o e hx=>?_,I.base.rE,I.base.oo,I.base.qb⟩,⟨_,DB,λj y v' e1 e2 e3=>?_⟩,λy c e=>?_,I.free,I.jX,λp hp=>?_,tracked ⟨oL,hoL,I.free⟩ hs,by simpa using I.len⟩ ⟨_,hs,.inl rfl⟩;·exact(hs.2 b (VP (VI (Vs e) I.ok.above))).trans (I.base.keep b o e n hb hx)
  ·obtain⟨sl,e1⟩:=I.base.slot b o e n hb hx;exact⟨sl,(hs.2 b (VP (VI (Vs e) I.ok.above))).trans e1⟩
  ·obtain⟨o',e1⟩:=I.base.there b o e hx;exact⟨o',(hs.2 b (VP (VI (Vs e) I.ok.above))).trans e1⟩
  ·by_cases hj:j=i;·subst hj;rw[hi] at e1;cases e1;rw[VB NA] at e2;cases e2;exact⟨u,r,.inl ⟨hk,by simp⟩⟩
   ·rw[Ve (Wg hj)] at e2;obtain⟨u',r',q⟩:=hl j y v' e1 e2 e3;refine⟨u',r',?_⟩;rcases q with ⟨k,e⟩|⟨k,c,e,z⟩
    ·refine .inl ⟨k,?_⟩;have:y≠x:=λe=>hj (kj hN e1 (e▸hi));simp[this,e]
    ·exact .inr ⟨k,c,e,z.sameBut hs (Ji y c e)⟩
  ·obtain⟨w',z⟩:=I.cell y c e;exact⟨w',z.sameBut hs (Ji y c e)⟩
  ·obtain⟨e,n,ne,nf,d⟩:=I.pin p hp;exact⟨(hs.2 p.1 ne).trans e,n,ne,nf,d⟩
 ·have Dr:X.fn x=true:=by
   rcases hf with z|z;·exact z
   ·rw[z] at hk;cases hk
  obtain⟨c,hc⟩:=I.ok.has x (.inl hk);obtain⟨w',z⟩:=I.cell x c hc;refine wpAny_storeName_cell I.ok.kind hk hc z (λh' A6 hs=>?_);obtain⟨oc,J9,RQ⟩:=id z;refine h {s with heap:=h'} ⟨I.ok,I.os,I.bare,⟨λb o e n hb hx=>?_,λb o e n hb hx=>?_,I.base.free,λb o e hx=>?_,I.base.rE,I.base.oo,I.base.qb⟩,⟨m,hn.sameBut hs (Wg (Ji x c hc)),λj y v' e1 e2 e3=>?_⟩,λy c' e=>?_,I.free,I.jX,λp hp=>?_,tracked ⟨oc,J9,I.jX x c hc⟩ hs,by simpa using I.len⟩ ⟨c,hs,.inr hc⟩;·exact(hs.2 b (VP (VI (Vs e) (I.ok.J8 x c Dr hc)))).trans (I.base.keep b o e n hb hx)
  ·obtain⟨sl,e1⟩:=I.base.slot b o e n hb hx;exact⟨sl,(hs.2 b (VP (VI (Vs e) (I.ok.J8 x c Dr hc)))).trans e1⟩
  ·obtain⟨o',e1⟩:=I.base.there b o e hx;exact⟨o',(hs.2 b (VP (VI (Vs e) (I.ok.J8 x c Dr hc)))).trans e1⟩
  ·by_cases hj:j=i;·subst hj;rw[hi] at e1;cases e1;rw[VB NA] at e2;cases e2;exact⟨u,r,.inr ⟨.inl hk,c,hc,A6⟩⟩
   ·rw[Ve (Wg hj)] at e2;obtain⟨u',r',q⟩:=hl j y v' e1 e2 e3;refine⟨u',r',?_⟩;rcases q with q|⟨k,c',e,z'⟩;·exact .inl q
    ·refine .inr ⟨k,c',e,z'.sameBut hs ?_⟩;rintro rfl;exact hj (kj hN e1 (I.ok.inj _ _ _ e hc▸hi))
  ·by_cases Ds:c'=c;·subst Ds;exact⟨_,A6⟩
   ·obtain⟨w2,z2⟩:=I.cell y c' e;exact⟨w2,z2.sameBut hs Ds⟩
  ·obtain⟨e,n,ne,nf,d⟩:=I.pin p hp;refine⟨(hs.2 p.1 ?_).trans e,n,ne,nf,d⟩;intro q;rw[q,J9] at e;have q':oc=p.2:=VT e;exact d w' (by rw[<-q'];exact RQ)
theorem m6(I:Inv X pins σ H s)(hN:X.N.Nodup)(hi:X.N[i]?=some x)(hx:Loc X.env.scope x)(r:RelV v u)(h:∀s',Inv X pins (σ.set i (some v)) H s'->Q () s')(hf:X.fn x=true\/X.env.scope.names.lookup x=some .local:=by first|exact .inl rfl|exact .inr rfl|assumption):wpAny M A (storeName X.env x u) Q E s:=
 B7 I hN hi hx r (λs' I' _=>h s' I') hf
theorem Inv.DC(I:Inv X pins σ H s)(ho:s'.os=s.os)(u:Un (jC X.stack) ch H H' s.heap s'.heap)(aH:ki X.prog X.w H' s'.heap)(hg:ZG s'.gens)(Gf:∀b∈ch,(b∈X.ex\/X.g7.heap.objs.size<=b)/\b≠X.env.locals/\(∀x c,X.env.cells.lookup x=some c->c≠b)/\∀p∈X.pn++pins,p.1≠b):Inv X pins σ H' s':=by obtain⟨h',g',d',t',o'⟩:=s';have e:o'=s.os:=ho;subst e;exact I.call (g':=g') (t':=t') (d':=d') u aH hg Gf
end
abbrev XK:=Value->Option Addr->Hp->Prop
abbrev St:=List (Option V)
abbrev VK:=V->Hp->Prop
abbrev TE:=St->Hp->VK->Prop
abbrev TT:=St->Hp->(Bool->Hp->Prop)->Prop
abbrev TA:=St->Hp->(List V->Hp->Prop)->Prop
structure Ends where
 nx:St->Hp->Prop
 rt:VK
 bk:St->Hp->Prop:=λ_ _=>False
 ct:St->Hp->Prop:=λ_ _=>False
abbrev TS:=Ends->St->Hp->Prop
def EP(X:Cx)(pins:List (Addr×Obj))(σ:St)(Q:VK)(u:Value)(s':Vv):Prop:=∃v H',Inv X pins σ H' s'/\RelV v u/\Q v H'
def TP(X:Cx)(pins:List (Addr×Obj))(σ:St)(Q:Bool->Hp->Prop)(b:Bool)(s':Vv):Prop:=∃H',Inv X pins σ H' s'/\Q b H'
def AP(X:Cx)(pins:List (Addr×Obj))(σ:St)(Q:List V->Hp->Prop)(us:List Value)(s':Vv):Prop:=∃vs H',Inv X pins σ H' s'/\aP vs us/\Q vs H'
def SP(X:Cx)(pins:List (Addr×Obj))(D:Ends)(f:Flow)(s':Vv):Prop:=
 match f with|.next=>∃cH H',Inv X pins cH H' s'/\D.nx cH H'|.brk=>∃cH H',Inv X pins cH H' s'/\D.bk cH H'|.cont=>∃cH H',Inv X pins cH H' s'/\D.ct cH H'|.ret u=>∃v cH H',Inv X pins cH H' s'/\RelV v u/\D.rt v H'
def PE(X:Cx)(e:Expr)(t:TE):Prop:=
 ∀(pins:List (Addr×Obj)) (s:Vv) (σ:St) (H:Hp) (Q:VK),Inv X pins σ H s->t σ H Q->wpAny (model X.prog X.w) X.A (eval e X.env) (EP X pins σ Q) X.xe s
def PT(X:Cx)(e:Expr)(t:TT):Prop:=
 ∀(pins:List (Addr×Obj)) (s:Vv) (σ:St) (H:Hp) (Q:Bool->Hp->Prop),Inv X pins σ H s->t σ H Q->wpAny (model X.prog X.w) X.A (aaM e X.env (eval e X.env)) (TP X pins σ Q) X.xe s
def PW(X:Cx)(e:Expr)(t:TT):Prop:=
 ∀(whole:Sem Value) (pins:List (Addr×Obj)) (s:Vv) (σ:St) (H:Hp) (Q:Bool->Hp->Prop),Inv X pins σ H s->t σ H Q->wpAny (model X.prog X.w) X.A (aaM e X.env whole) (TP X pins σ Q) X.xe s
theorem PW.pt(h:PW X e t):PT X e t:=h _
def PA(X:Cx)(es:List Expr)(t:TA):Prop:=
 ∀(pos:Pos) (pins:List (Addr×Obj)) (s:Vv) (σ:St) (H:Hp) (Q:List V->Hp->Prop),Inv X pins σ H s->t σ H Q->wpAny (model X.prog X.w) X.A (spliced (Xn pos (VM es X.env))) (AP X pins σ Q) X.xe s
def PS(X:Cx)(st:Stmt)(t:TS):Prop:=
 ∀(pins:List (Addr×Obj)) (s:Vv) (σ:St) (H:Hp) (D:Ends),Inv X pins σ H s->t D σ H->wpAny (model X.prog X.w) X.A (exec st X.env) (SP X pins D) X.xe s
def me(X:Cx)(st:List Stmt)(t:TS):Prop:=
 ∀(pins:List (Addr×Obj)) (s:Vv) (σ:St) (H:Hp) (D:Ends),Inv X pins σ H s->t D σ H->wpAny (model X.prog X.w) X.A (execs st X.env) (SP X pins D) X.xe s
theorem bI(h:wpAny M A t Q E s)(hQ:∀a s,Q a s->Q' a s):wpAny M A t Q' E s:=WX h hQ λ_ _ x=>x
section
variable{X:Cx}
theorem bin(ha:PE X a ta)(hb:PE X b tb){R:V->V->Hp->Prop}(I:Inv X pins σ H s)(h:ta σ H λx H1=>tb σ H1 λy H2=>R x y H2){α:Type}{Q:α->Vv->Prop}{f:Value->Value->Sem α}(hf:∀v u s2 x y H2,Inv X pins σ H2 s2->RelV x v->RelV y u->R x y H2->wpAny (model X.prog X.w) X.A (f v u) Q X.xe s2):
  wpAny (model X.prog X.w) X.A (eval a X.env) (λv br=>wpAny (model X.prog X.w) X.A (eval b X.env) (λu ud=>wpAny (model X.prog X.w) X.A (f v u) Q X.xe ud) X.xe br) X.xe s:=by
 refine bI (ha pins s σ H _ I h) λv s1 ⟨x,H1,I1,r1,q1⟩=>?_;refine bI (hb pins s1 σ H1 _ I1 q1) λu s2 ⟨y,H2,I2,r2,q2⟩=>?_;exact hf v u s2 x y H2 I2 r1 r2 q2
def RR(i:Nat):TE:=λσ H Q=>∃v,σ[i]?=some (some v)/\Q v H
def tC(v:V):TE:=λ_ H Q=>Q v H
theorem zS(hN:X.N[i]?=some x)(hv:Nw X.env.scope x)(hd:(x==("__debug__":Str))=false:=by decide)(pI:(x==("__classdict__":Str))=false:=by decide):PE X (.Name x pos) (RR i):=by
 intro pins s σ H Q I h;obtain⟨v,e,h⟩:=h;obtain⟨m,hn,hl⟩:=I.loc;obtain⟨u,r,l⟩:=hl i x v hN e hv;have fin:EP X pins σ Q u s:=⟨v,H,I,r,h⟩;rcases l with ⟨hk,hm⟩|⟨hk,c,hc,m7⟩
 ·exact aaU (wpAny_loadName_local I.ok.kind hk hn hm fin) hd
 ·rcases hk with hk|hk;·exact aaU (wpAny_loadName_cell I.ok.kind hk hc m7 fin) hd
  ·exact aaU (wpAny_loadName_free I.ok.kind hk hc m7 fin pI) hd
theorem DD{i j pos}:PE X (.Constant (.int i) j pos) (tC (.int i)):=λ_ _ _ H _ I h=>wpAny_Constant_int ⟨.int i,H,I.tok _,⟨_,rfl⟩,h⟩
theorem Jj{b j pos}:PE X (.Constant (.bool b) j pos) (tC (.bl b)):=λ_ _ _ H _ I h=>Constant_bool ⟨.bl b,H,I,rfl,h⟩
theorem DE{j pos}:PE X (.Constant .none j pos) (tC .bq):=λ_ _ _ H _ I h=>Constant_none ⟨.bq,H,I,rfl,h⟩
theorem DF{x j pos}:PE X (.Constant (.str x) j pos) (tC (.str x)):=λ_ _ _ H _ I h=>Calls.Constant_str ⟨.str x,H,I.tok _,⟨_,rfl⟩,h⟩
def Gl(X:Cx)(x:Str):Prop:=X.env.kindOf x=some .globalImplicit
theorem m8(I:Inv X pins σ H s)(hg:Gl X x)(hm:X.mg x=some u)(h:Q u s)(hd:(x==("__debug__":Str))=false:=by decide):wpAny (model X.prog X.w) X.A (eval (.Name x pos) X.env) Q E s:=
 Calls.Name_function_global I.ok.kind hg (Calls.loadGlobal_global (by rw[I.ok.glob];exact I.mod.glob.keeps I.bk) hm h) hd
theorem jD(I:Inv X pins σ H s)(hg:Gl X x)(hm:X.mg x=none)(hv:Yp x=some u)(h:Q u s)(hn:x≠"__name__":=by decide)(hd:(x==("__debug__":Str))=false:=by decide):wpAny (model X.prog X.w) X.A (eval (.Name x pos) X.env) Q E s:=by obtain⟨mb,h1,h2⟩:=I.mod.blt;exact Calls.Name_function_global I.ok.kind hg (Calls.loadGlobal_builtin (by rw[I.ok.glob];exact I.mod.glob.keeps I.bk) hm (by rw[I.ok.blt];exact h1.keeps I.bk) ((h2 x hn).trans hv) h) hd
theorem GB(hg:Gl X x)(hm:X.mg x=some u)(r:RelV v u)(hd:(x==("__debug__":Str))=false:=by decide):PE X (.Name x pos) (tC v):=
 λ_ _ _ H _ I h=>m8 I hg hm ⟨v,H,I,r,h⟩ hd
theorem GC(hg:Gl X x)(hm:X.mg x=none)(hv:Yp x=some u)(r:RelV v u)(hn:x≠"__name__":=by decide)(hd:(x==("__debug__":Str))=false:=by decide):PE X (.Name x pos) (tC v):=
 λ_ _ _ H _ I h=>jD I hg hm hv ⟨v,H,I,r,h⟩ hn hd
variable{a b:Expr}{ta tb:TE}{pos:Pos}
variable{tA QP:TT}{rest:List Expr}
def RS(t u:TT):TT:=λσ H Q=>t σ H λc H1=>if c=true then u σ H1 Q else Q false H1
def tOr(t u:TT):TT:=λσ H Q=>t σ H λc H1=>if c=true then Q true H1 else u σ H1 Q
def RT(t:TT):TT:=λσ H Q=>t σ H λc H1=>Q (!c) H1
theorem pw_and1(ha:PT X a tA):PW X (.BoolOp .And [a] pos) tA:=by intro wh pins s σ H Q I h;refine isTrue_and (bI (ha pins s σ H Q I h) λc s1 e=>?_);cases c with|true=>exact isTrue_and_nil e|false=>exact e
theorem pw_or1(ha:PT X a tA):PW X (.BoolOp .Or [a] pos) tA:=by intro wh pins s σ H Q I h;refine isTrue_or (bI (ha pins s σ H Q I h) λc s1 e=>?_);cases c with|false=>exact isTrue_or_nil e|true=>exact e
theorem pw_and(ha:PT X a tA)(hb:PW X (.BoolOp .And (b::rest) pos) QP):PW X (.BoolOp .And (a::b::rest) pos) (RS tA QP):=by intro wh pins s σ H Q I h;refine isTrue_and (bI (ha pins s σ H _ I h) λc s1 ⟨H1,I1,q1⟩=>?_);cases c with|true=>exact hb wh pins s1 σ H1 Q I1 q1|false=>exact⟨H1,I1,q1⟩
theorem pw_or(ha:PT X a tA)(hb:PW X (.BoolOp .Or (b::rest) pos) QP):PW X (.BoolOp .Or (a::b::rest) pos) (tOr tA QP):=by intro wh pins s σ H Q I h;refine isTrue_or (bI (ha pins s σ H _ I h) λc s1 ⟨H1,I1,q1⟩=>?_);cases c with|true=>exact⟨H1,I1,q1⟩|false=>exact hb wh pins s1 σ H1 Q I1 q1
theorem Ka(ha:PT X a tA):PT X (.UnaryOp .Not a pos) (RT tA):=by intro pins s σ H Q I h;exact isTrue_not (ha pins s σ H (λc H1=>Q (!c) H1) I h)
def NB(ta tb:TE):TE:=λσ H Q=>ta σ H λx H1=>∃c,x=.bl c/\if c=true then tb σ H1 Q else Q (.bl false) H1
def RU(ta tb:TE):TE:=λσ H Q=>ta σ H λx H1=>∃c,x=.bl c/\if c=true then Q (.bl true) H1 else tb σ H1 Q
theorem DG{op}(h:PE X a t):PE X (.BoolOp op [a] pos) t:=λpins s σ H Q I hw=>BoolOp_one (h pins s σ H Q I hw)
theorem Kb(ha:PE X a ta)(hb:PE X (.BoolOp .And (b::rest) pos) tb):PE X (.BoolOp .And (a::b::rest) pos) (NB ta tb):=by intro pins s σ H Q I h;refine BoolOp_and (bI (ha pins s σ H _ I h) λv s1 ⟨x,H1,I1,r1,q1⟩=>?_);obtain⟨c,rfl,q1⟩:=q1;cases r1;refine W5 ?_;cases c with|true=>exact hb pins s1 σ H1 Q I1 q1|false=>exact⟨.bl false,H1,I1,rfl,q1⟩
theorem NC(ha:PE X a ta)(hb:PE X (.BoolOp .Or (b::rest) pos) tb):PE X (.BoolOp .Or (a::b::rest) pos) (RU ta tb):=by intro pins s σ H Q I h;refine BoolOp_or (bI (ha pins s σ H _ I h) λv s1 ⟨x,H1,I1,r1,q1⟩=>?_);obtain⟨c,rfl,q1⟩:=q1;cases r1;refine W5 ?_;cases c with|false=>exact hb pins s1 σ H1 Q I1 q1|true=>exact⟨.bl true,H1,I1,rfl,q1⟩
end
def lG(K:Vm)(H:Hp)(a:Addr)(xs:List V):Prop:=
 Rd H a (.lst xs)\/
  ∃(o:Obj) (its:Array Value) (n:Nat),K.lookup a=some o/\o.cls=.type "list"/\o.dict=none/\o.data=.seq its n/\its.size<=VD/\aP xs its.toList
def fI(K:Vm)(H:Hp)(a:Addr)(xs:List V):Prop:=
 Rd H a (.tup xs)\/
  ∃(o:Obj) (its:Array Value) (n:Nat),K.lookup a=some o/\o.cls=.type "tuple"/\o.data=.seq its n/\its.size<=VD/\aP xs its.toList
def RV:Value->Option V
 |.none=>some .bq|.bool b=>some (.bl b)|.int i _=>some (.int i)|.str x _=>some (.str x)|.bytes b _=>some (.M8 b)|.float b _=>some (.J4 b)|.ref a=>some (.ref a)|.type n=>some (.ty n)|_=>none
theorem RelV.abs(r:RelV x u):RV u=some x:=by cases x with|bq=>cases r;rfl|bl _=>cases r;rfl|int _=>obtain⟨t,rfl⟩:=r;rfl|str _=>obtain⟨t,rfl⟩:=r;rfl|M8 _=>obtain⟨t,rfl⟩:=r;rfl|J4 _=>obtain⟨t,rfl⟩:=r;rfl|ref _=>cases r;rfl|ty _=>cases r;rfl
theorem RelV.inj(r:RelV x u)(q:RelV y u):x=y:=VT (r.abs.symm.trans q.abs)
theorem aP.inj:∀{xs ys} {us},aP xs us->aP ys us->xs=ys
 |_,_,_,.nil,.nil=>rfl|_,_,_,.cons r t,.cons r' t'=>by rw[r.inj r',aP.inj t t']
section
variable{X:Cx}{pins:List (Addr×Obj)}{σ:St}{H:Hp}{s:Vv}{a:Addr}{xs ys:List V}
theorem fI.of{K:Vm}(h:H a=some (.tup xs)):fI K H a xs:=.inl (.inl h)
theorem Inv.list(I:Inv X pins σ H s)(h:lG X.K H a xs):∃its,aP xs its/\PlainL s.heap a its.toArray/\xs.length<=VD:=by
 rcases h with h|⟨o,its,n,hk,hc,hd,hs,hz,r⟩;·obtain⟨z,its,n,r,e⟩:=h.ok I.aH;exact⟨its,r,⟨_,n,e,rfl,rfl,rfl⟩,z⟩
 ·refine⟨its.toList,r,⟨o,n,I.mZ a o hk,hc,hd,by simpa using hs⟩,?_⟩;have e:=r.length;simp only[Xt] at e;omega
theorem Inv.tuple(I:Inv X pins σ H s)(h:fI X.K H a xs):∃its,aP xs its/\IsTup s.heap a its.toArray/\xs.length<=VD:=by
 rcases h with h|⟨o,its,n,hk,hc,hs,hz,r⟩;·obtain⟨z,its,r,p⟩:=h.ok I.aH;exact⟨its,r,p,z⟩
 ·refine⟨its.toList,r,⟨o,I.mZ a o hk,hc,n,by simpa using hs⟩,?_⟩;have e:=r.length;simp only[Xt] at e;omega
theorem Inv.xA(I:Inv X pins σ H s)(h:lG X.K H a xs)(h':lG X.K H a ys):xs=ys:=by
 obtain⟨its,r,⟨o,n,e,_,_,d⟩,_⟩:=I.list h;obtain⟨its',r',⟨o',n',e',_,_,d'⟩,_⟩:=I.list h';rw[e] at e';cases e';rw[d] at d';injection d' with d1 _;have:its=its':=by simpa using congrArg Array.toList d1
 subst this;exact r.inj r'
theorem Inv.uT(I:Inv X pins σ H s)(h:fI X.K H a xs)(h':fI X.K H a ys):xs=ys:=by
 obtain⟨its,r,⟨o,e,_,n,d⟩,_⟩:=I.tuple h;obtain⟨its',r',⟨o',e',_,n',d'⟩,_⟩:=I.tuple h';rw[e] at e';cases e';rw[d] at d';injection d' with d1 _;have:its=its':=by simpa using congrArg Array.toList d1
 subst this;exact r.inj r'
end
abbrev Cx.rF(X:Cx)(E:Value->Vv->Prop):Cx:={X with xe:=E}
abbrev Cx.Dt(X:Cx):Cx:=X.rF λ_ _=>False
theorem Cx.Ok.rF{X:Cx}(ok:X.Ok)E:(X.rF E).Ok:=
 ⟨ok.mod,ok.kind,ok.glob,ok.blt,ok.above,ok.inj,ok.has,ok.J8,ok.hd,ok.frames,ok.Nx,ok.RN,ok.bs,ok.Dq,ok.B6,ok.Dz,ok.ma,ok.Gz⟩
theorem Cx.Ok.jE{X:Cx}(ok:(X.rF E).Ok):X.Ok:=
 ⟨ok.mod,ok.kind,ok.glob,ok.blt,ok.above,ok.inj,ok.has,ok.J8,ok.hd,ok.frames,ok.Nx,ok.RN,ok.bs,ok.Dq,ok.B6,ok.Dz,ok.ma,ok.Gz⟩
section
variable{X:Cx}{pins:List (Addr×Obj)}{σ:St}{H:Hp}{s:Vv}{E:Value->Vv->Prop}
theorem Inv.rF(I:Inv X pins σ H s)E:Inv (X.rF E) pins σ H s:=⟨I.ok.rF E,I.os,I.bare,I.base,I.loc,I.cell,I.free,I.jX,I.pin,I.aH,I.len⟩
theorem Inv.jE(I:Inv (X.rF E) pins σ H s):Inv X pins σ H s:=⟨I.ok.jE,I.os,I.bare,I.base,I.loc,I.cell,I.free,I.jX,I.pin,I.aH,I.len⟩
theorem SP.jE(h:SP (X.rF E) pins D f s'):SP X pins D f s':=by cases f with|next=>obtain⟨cH,H',I,q⟩:=h;exact⟨cH,H',I.jE,q⟩|brk=>obtain⟨cH,H',I,q⟩:=h;exact⟨cH,H',I.jE,q⟩|cont=>obtain⟨cH,H',I,q⟩:=h;exact⟨cH,H',I.jE,q⟩|ret u=>obtain⟨v,cH,H',I,r,q⟩:=h;exact⟨v,cH,H',I.jE,r,q⟩
theorem PE.Dt(h:PE X.Dt e t):PE X e t:=λpins s σ H Q I hw=>WX (h pins s σ H Q (I.rF _) hw) (λ_ _ ⟨v,H',I',r,q⟩=>⟨v,H',I'.jE,r,q⟩) λ_ _ z=>Ww z
theorem me.Dt{st:List Stmt}(h:me X.Dt st t):me X st t:=λpins s σ H D I hw=>WX (h pins s σ H D (I.rF _) hw) (λ_ _ q=>q.jE) λ_ _ z=>Ww z
end
section
variable{X:Cx}{st:Stmt}{rest:List Stmt}{t u:TS}{e:Expr}{te:TE}{pos:Pos}
def ND:TS:=λD σ H=>D.nx σ H
def RW(t u:TS):TS:=λD σ H=>t {D with nx:=u D} σ H
theorem GD:me X [] ND:=λ_ _ σ H _ I h=>aad ⟨σ,H,I,h⟩
theorem DH(h1:PS X st t)(h2:me X rest u):me X (st::rest) (RW t u):=by intro pins s σ H D I h;refine wpAny_execs_cons (bI (h1 pins s σ H {D with nx:=u D} I h) λf s1 q=>?_);cases f with|next=>obtain⟨cH,H',I',q⟩:=q;exact h2 pins s1 cH H' D I' q|ret v=>exact q|brk=>exact q|cont=>exact q
theorem Inv.quiet(I:Inv X pins σ H s):interactive X.env=false:=by simp[interactive,I.ok.kind]
def NG(te:TE):TS:=λD σ H=>te σ H λ_ H1=>D.nx σ H1
theorem A7(he:PE X e te)(hs:Yo e none pos.line X.env=pure false:=by rfl):PS X (.Expr e pos) (NG te):=by intro pins s σ H D I h;exact wpAny_Expr_any (bI (he pins s σ H _ I h) λv s1 ⟨x,H1,I1,r1,q1⟩=>⟨σ,H1,I1,q1⟩) I.quiet hs
def RX(te:TE):TS:=λD σ H=>te σ H D.rt
theorem Kc(he:PE X e te):PS X (.Return (some e) pos) (RX te):=by intro pins s σ H D I h;exact wpAny_Return_some (bI (he pins s σ H _ I h) λv s1 ⟨x,H1,I1,r1,q1⟩=>⟨x,σ,H1,I1,r1,q1⟩)
def NH:TS:=λD _ H=>D.rt .bq H
theorem GF:PS X (.Return none pos) NH:=λ_ _ σ H _ I h=>wpAny_Return_none ⟨.bq,σ,H,I,rfl,h⟩
def RY(c:TT)(t u:TS):TS:=λD σ H=>c σ H λb H1=>if b=true then t D σ H1 else u D σ H1
theorem NI(hc:PT X c tc)(ha:me X a t)(hb:me X b u):PS X (.If c a b pos) (RY tc t u):=by intro pins s σ H D I h;refine wpAny_If (bI (hc pins s σ H _ I h) λd s1 ⟨H1,I1,q1⟩=>?_);cases d with|true=>exact ha pins s1 σ H1 D I1 q1|false=>exact hb pins s1 σ H1 D I1 q1
end
abbrev TG:=V->St->Hp->(St->Hp->Prop)->Prop
abbrev NJ:=List V->St->Hp->(St->Hp->Prop)->Prop
def PG(X:Cx)(target:Expr)(t:TG):Prop:=
 ∀(pins:List (Addr×Obj)) (s:Vv) (σ:St) (H:Hp) (v:V) (u:Value) (Q:St->Hp->Prop),Inv X pins σ H s->RelV v u->t v σ H Q->
  wpAny (model X.prog X.w) X.A (aaX target X.env u) (λ_ s'=>∃cH H',Inv X pins cH H' s'/\Q cH H') X.xe s
def QQ(X:Cx)(ts:List Expr)(t:NJ):Prop:=
 ∀(pins:List (Addr×Obj)) (s:Vv) (σ:St) (H:Hp) (vs:List V) (us:List Value) (Q:St->Hp->Prop),Inv X pins σ H s->aP vs us->t vs σ H Q->
  wpAny (model X.prog X.w) X.A (assignInOrder ((Z8 ts X.env).map (·.2)) us) (λ_ s'=>∃cH H',Inv X pins cH H' s'/\Q cH H') X.xe s
abbrev NK:=V->V->V->Hp->(Hp->Prop)->Prop
def B8(X:Cx)(t:NK):Prop:=
 ∀(pins:List (Addr×Obj)) (s:Vv) (σ:St) (H:Hp) (o i v:V) (ov iv u:Value) (Q:Hp->Prop),Inv X pins σ H s->RelV o ov->RelV i iv->RelV v u->t o i v H Q->
  wpAny (model X.prog X.w) X.A (setItem ov iv u) (λ_ s'=>∃H',Inv X pins σ H' s'/\Q H') X.xe s
section
variable{X:Cx}{pos:Pos}
def rG(i:Nat):TG:=λv σ H Q=>Q (σ.set i (some v)) H
theorem fb(hN:X.N.Nodup)(hi:X.N[i]?=some x)(hx:Loc X.env.scope x)(hf:X.fn x=true\/X.env.scope.names.lookup x=some .local:=by first|exact .inl rfl|exact .inr rfl|assumption):PG X (.Name x pos) (rG i):=by intro pins s σ H v u Q I r h;exact wpAny_assign_Name (m6 I hN hi hx r (λs' I'=>⟨_,H,I',h⟩) hf)
def RZ:NJ:=λvs σ H Q=>vs=[]/\Q σ H
def NL(t:TG)(u:NJ):NJ:=λvs σ H Q=>∃v r,vs=v::r/\t v σ H λcH H'=>u r cH H' Q
theorem vQ:QQ X [] RZ:=by intro pins s σ H vs us Q I r h;obtain⟨e,h⟩:=h;subst e;cases r;exact assignInOrder_nil ⟨σ,H,I,h⟩
theorem jf(h1:PG X e t)(h2:QQ X es u)(hs:(Z8 (e::es) X.env).map (·.2)=aaX e X.env::(Z8 es X.env).map (·.2):=by rfl):QQ X (e::es) (NL t u):=by intro pins s σ H vs us Q I r h;obtain⟨v,vr,e1,h⟩:=h;subst e1;cases r with|cons r rr=>rw[hs];refine assignInOrder_cons (bI (h1 pins s σ H _ _ _ I r h) λ_ s1 ⟨Na,H1,I1,q1⟩=>?_);exact h2 pins s1 Na H1 _ _ Q I1 rr q1
def R0(K:Vm)(n:Nat)(t:NJ):TG:=λv σ H Q=>∃a xs,v=.ref a/\fI K H a xs/\xs.length=n/\t xs σ H Q
theorem zT(hc:X.calm=true)(h:QQ X es t)(hn:(Z8 es X.env).length=n:=by rfl)(pJ:(Z8 es X.env).findIdx? (·.1)=none:=by rfl):PG X (.Tuple es k pos) (R0 X.K n t):=by intro pins s σ H v u Q I r hw;obtain⟨a,xs,e1,hq,hl,hw⟩:=hw;subst e1;cases r;obtain⟨its,rv,ht,hz⟩:=I.tuple hq;refine assign_Tuple_tuple (I.ok.hd hc) ht (by simp[hn,<-hl,rv.length]) pJ λh' hx=>?_;have I1:Inv X pins σ H {s with heap:=h'}:=I.kept (t':=s.toks) λb o e=>hx b o (VP (Vs e)) e;exact h pins _ σ H xs _ Q I1 (by simpa using rv) hw
def R1(te:TE)(g:TG):TS:=λD σ H=>te σ H λx H1=>g x σ H1 D.nx
theorem DI(hN:X.N.Nodup)(hi:X.N[i]?=some x)(hx:Loc X.env.scope x)(he:PE X e te)(hs:Yo e (some (.Name x pos')) pos.line X.env=pure false:=by rfl)(hf:X.fn x=true\/X.env.scope.names.lookup x=some .local:=by first|exact .inl rfl|exact .inr rfl|assumption):
  PS X (.Assign [.Name x pos'] e pos) (R1 te (rG i)):=by
 intro pins s σ H D I h;refine wpAny_Assign_Name (bI (he pins s σ H _ I h) λv s1 ⟨y,H1,I1,r1,q1⟩=>?_) hs;exact m6 I1 hN hi hx r1 (λs2 I2=>⟨_,H1,I2,q1⟩) hf
end
section
variable{X:Cx}{pos:Pos}
def Kd(c:TT)(tb:TS):TS:=λD σ H=>∃W:Nat->St->Hp->Prop,(∃m,W m σ H)/\∀m σ H,W m σ H->
 c σ H λb H1=>if b=true then ∃N:St->Hp->Prop,(∀cH H',N cH H'->∃m',m' < m/\W m' cH H')/\tb {D with nx:=N,ct:=N,bk:=D.nx} σ H1 else D.nx σ H1
theorem DJ(hp:PassesOwn (model X.prog X.w) X.A X.env X.xe)(hc:PT X c tc)(hb:me X body tb):PS X (.While c body [] pos) (Kd tc tb):=by
 intro pins s σ H D I h;obtain⟨W,⟨m0,w0⟩,turn⟩:=h;refine wpAny_While (codeAny_whileLoop (λn s'=>∃cH H',Inv X pins cH H' s'/\W n cH H') ?_ m0 ⟨σ,H,I,w0⟩);rintro n s1 ⟨Na,H1,I1,w1⟩;refine XH hp (bI (hc pins s1 Na H1 _ I1 (turn n Na H1 w1)) λb s2 ⟨H2,I2,q2⟩=>?_);cases b with
 |true=>obtain⟨N,hN,q2⟩:=q2;rw[if_pos rfl];refine XH hp (bI (hb pins s2 Na H2 _ I2 q2) λf s3 q3=>?_);cases f with|next=>obtain⟨DK,H3,I3,n3⟩:=q3;obtain⟨m',hm,w3⟩:=hN DK H3 n3;exact⟨m',hm,DK,H3,I3,w3⟩|cont=>obtain⟨DK,H3,I3,n3⟩:=q3;obtain⟨m',hm,w3⟩:=hN DK H3 n3;exact⟨m',hm,DK,H3,I3,w3⟩|brk=>exact q3|ret v=>exact q3
 |false=>rw[if_neg V7];exact aad ⟨Na,H2,I2,q2⟩
end
structure It where
 go:Nat->Hp->Prop
 NM:Nat->Hp->V->Hp->Prop
 stop:Nat->Hp->Prop
def mf(X:Cx)(pins:List (Addr×Obj))(H:Hp)(b:Addr):Prop:=
 H b=none/\b≠X.env.locals/\b∉X.fs/\(b∈X.ex\/X.g7.heap.objs.size<=b)/\(∀x c,X.env.cells.lookup x=some c->c≠b)/\∀p∈X.pn++pins,p.1≠b
theorem Inv.vR(I:Inv X pins σ H s)(hb:s.heap.objs.size<=b)(hn:H' b=none):mf X pins H' b:=by
 refine⟨hn,Wu (VI I.lt hb),I.RO hb,.inr (V3 I.sz hb),λx c e z=>?_,λp hp z=>?_⟩;·obtain⟨v,q⟩:=I.cell x c e;exact absurd (VI q.lt (by rw[z];exact hb)) (W3 _)
 ·exact absurd (VI (Vs (I.pin p hp).1) (by rw[z];exact hb)) (W3 _)
structure Turn(P:Wf)(w:World)(K:Vm)(tg:Expr)(J:It)(fp:List Addr)(it:Addr)(tn:Nat->Heap->Prop):Prop where
 mem:it∈fp
 obj:∀i h,tn i h->∀b∈fp,∃o,h.get? b=some o/\∀v,o.data≠.cell v
 keep:∀i h h',tn i h->(∀b∈fp,∀o,h.get? b=some o->h'.get? b=some o)->tn i h'
 item:∀(X:Cx),X.prog=P->X.w=w->X.K=K->X.calm=true->∀(i:Nat) (pins:List (Addr×Obj)) (s:Vv) (σ:St) (H:Hp) (E:Value->Vv->Prop),Inv X pins σ H s->(∀b∈fp,mf X pins H b)->tn i s.heap->J.go i H->
  wpAny (model P w) X.A (ZL (.ref it)) (λr s1=>∃u,r=some u/\
   wpAny (model P w) X.A (Zk tg (.ref it) u) (λ_ s2=>∃x H',Inv X pins σ H' s2/\RelV x u/\J.NM i H x H'/\tn (i+1) s2.heap/\∀b∈fp,H' b=none) E s1) E s
 done:∀(X:Cx),X.prog=P->X.w=w->X.K=K->X.calm=true->∀(i:Nat) (pins:List (Addr×Obj)) (s:Vv) (σ:St) (H:Hp) (E:Value->Vv->Prop),Inv X pins σ H s->(∀b∈fp,mf X pins H b)->tn i s.heap->J.stop i H->
  wpAny (model P w) X.A (ZL (.ref it)) (λr s1=>r=none/\Inv X pins σ H s1) E s
 self:∀(A:WN) (i:Nat) (s:Vv) (Q:Value->Vv->Prop) (E:Value->Vv->Prop),tn i s.heap->Q (.ref it) s->wpAny (model P w) A (pyIter (.ref it)) Q E s
abbrev TI:=St->Hp->(It->Hp->Prop)->Prop
def PIE(X:Cx)(pins:List (Addr×Obj))(σ:St)(tg:Expr)(R:It->Hp->Prop)(QR:Value)(s2:Vv):Prop:=
 ∃(it:Addr) (fp:List Addr) (tn:Nat->Heap->Prop) (J:It) (H':Hp),QR=.ref it/\Inv X pins σ H' s2/\Turn X.prog X.w X.K tg J fp it tn/\tn 0 s2.heap/\(∀b∈fp,mf X pins H' b)/\R J H'
def PI(X:Cx)(tg iter:Expr)(wi:TI):Prop:=
 ∀(pins:List (Addr×Obj)) (s:Vv) (σ:St) (H:Hp) (R:It->Hp->Prop),Inv X pins σ H s->wi σ H R->
  wpAny (model X.prog X.w) X.A (eval iter X.env) (λv s1=>wpAny (model X.prog X.w) X.A (pyIter v) (PIE X pins σ tg R) X.xe s1) X.xe s
theorem DL(ho:s.heap.get? it=some o)(hc:o.cls=.type n)(hd:o.data=.fields vs)(hn:["enumerate","zip","dict_itemiterator","dict_reverseitemiterator","odict_iterator","itertools.zip_longest","itertools.pairwise"].contains n=false)(hQ:Q () s):wpAny M A (Zk tg (.ref it) u) Q E s:=by
 unfold Zk;cases tg<;>first
  |exact Vn hQ
  |(cases u<;>first
    |exact Vn hQ
    |(refine U7 (wpAny_load ho ?_)
      rw[hc,hd];show wpAny M A (if(["enumerate","zip","dict_itemiterator","dict_reverseitemiterator","odict_iterator","itertools.zip_longest","itertools.pairwise"].contains n&&vs[0]?==some (Xm _))=true then _ else _) Q E s;rw[if_neg (by intro h;rw[hn,YW] at h;cases h)];exact Vn hQ))
def R3(K:Vm)(a:Addr):It:=
 ⟨λi H=>∃xs x,lG K H a xs/\xs[i]?=some x,λi H x H'=>H'=H/\∀xs,lG K H a xs->xs[i]?=some x,λi H=>∃xs,lG K H a xs/\xs.length<=i⟩
def R4(K:Vm)(a:Addr):It:=
 ⟨λi H=>∃xs x,fI K H a xs/\xs[i]?=some x,λi H x H'=>H'=H/\∀xs,fI K H a xs->xs[i]?=some x,λi H=>∃xs,fI K H a xs/\xs.length<=i⟩
def Ke(lo:Int)(n:Nat):It:=⟨λi _=>i < n,λi H x H'=>H'=H/\x=.int (lo+i),λi _=>n<=i⟩
theorem B9{P:Wf}{w:World}{K:Vm}{tg:Expr}(a it:Addr):Turn P w K tg (R3 K a) [it] it (λi h=>h.IsListIter it a i) where
 mem:=by simp
 obj:=λi h st b hb=>by
  have e:b=it:=by simpa using hb
  subst e;obtain⟨o,e,c,d⟩:=st;exact⟨o,e,λv z=>by rw[d] at z;cases z⟩
 keep:=λi h h' st k=>st.at λo e=>k it (by simp) o e
 item:=by intro X hP hw hK hc i pins s σ H E I hf st hg;subst hP hw hK;obtain⟨xs,x,hq,hx⟩:=hg;obtain⟨its,rv,p,hz⟩:=I.list hq;obtain⟨u,hu,ru⟩:=rv.get hx;obtain⟨f0,f1,f2,f3,f4,f5⟩:=hf it (by simp);refine wpAny_pyNext_list_item st p.isList (x:=u) (by simpa using hu) λh' aJ sb=>?_;have I1:Inv X pins σ H {s with heap:=h'}:=I.turned (t':=s.toks) (λb o hb e=>(sb.2 b hb).trans e) f0 f1 f3 f4 f5;obtain⟨o,e,c,d⟩:=id aJ;exact⟨u,rfl,DL (s:={s with heap:=h'}) e c d (by decide) ⟨x,H,I1,ru,⟨rfl,λys hy=>by rw[I.xA hy hq];exact hx⟩,aJ,λb hb=>(hf b hb).1⟩⟩
 done:=by intro X hP hw hK hc i pins s σ H E I hf st hg;subst hP hw hK;obtain⟨xs,hq,hx⟩:=hg;obtain⟨its,rv,p,hz⟩:=I.list hq;obtain⟨f0,f1,f2,f3,f4,f5⟩:=hf it (by simp);have hl:=rv.length;exact wpAny_pyNext_list_end (I.ok.hd hc) st p.isList (by simp;omega) λh' eb=>⟨rfl,I.turned (t':=s.toks) (λb o hb e=>eb b o hb e) f0 f1 f3 f4 f5⟩
 self:=λ_ _ _ _ _ st h=>wpAny_pyIter_listiter st h
theorem zU{P:Wf}{w:World}{K:Vm}{tg:Expr}(a it:Addr):Turn P w K tg (R4 K a) [it] it (λi h=>h.IsTupleIter it a i) where
 mem:=by simp
 obj:=λi h st b hb=>by
  have e:b=it:=by simpa using hb
  subst e;obtain⟨o,e,c,d⟩:=st;exact⟨o,e,λv z=>by rw[d] at z;cases z⟩
 keep:=λi h h' st k=>st.at λo e=>k it (by simp) o e
 item:=by intro X hP hw hK hc i pins s σ H E I hf st hg;subst hP hw hK;obtain⟨xs,x,hq,hx⟩:=hg;obtain⟨its,rv,p,hz⟩:=I.tuple hq;obtain⟨u,hu,ru⟩:=rv.get hx;obtain⟨f0,f1,f2,f3,f4,f5⟩:=hf it (by simp);refine wpAny_pyNext_tuple_item st (show s.heap.IsTuple a its.toArray from p) (x:=u) (by simpa using hu) λh' aJ sb=>?_;have I1:Inv X pins σ H {s with heap:=h'}:=I.turned (t':=s.toks) (λb o hb e=>(sb.2 b hb).trans e) f0 f1 f3 f4 f5;obtain⟨o,e,c,d⟩:=id aJ;exact⟨u,rfl,DL (s:={s with heap:=h'}) e c d (by decide) ⟨x,H,I1,ru,⟨rfl,λys hy=>by rw[I.uT hy hq];exact hx⟩,aJ,λb hb=>(hf b hb).1⟩⟩
 done:=by intro X hP hw hK hc i pins s σ H E I hf st hg;subst hP hw hK;obtain⟨xs,hq,hx⟩:=hg;obtain⟨its,rv,p,hz⟩:=I.tuple hq;obtain⟨f0,f1,f2,f3,f4,f5⟩:=hf it (by simp);have hl:=rv.length;exact wpAny_pyNext_tuple_end (I.ok.hd hc) st (show s.heap.IsTuple a its.toArray from p) (by simp;omega) λh' eb=>⟨rfl,I.turned (t':=s.toks) (λb o hb e=>eb b o hb e) f0 f1 f3 f4 f5⟩
 self:=λ_ _ _ _ _ st h=>wpAny_pyIter_tupleiter st h
theorem zV{P:Wf}{w:World}{K:Vm}{tg:Expr}(it:Addr)(lo:Int)(n:Nat):Turn P w K tg (Ke lo n) [it] it (λi h=>IsRangeIter h it (lo+(i:Nat)*1) ((n:Int) - (i:Nat)) 1) where
 mem:=by simp
 obj:=λi h st b hb=>by
  have e:b=it:=by simpa using hb
  subst e;exact⟨_,st,λv z=>by have z':Data.fields _=Data.cell v:=z;cases z'⟩
 keep:=λi h h' st k=>k it (by simp) _ st
 item:=by intro X hP hw hK hc i pins s σ H E I hf st hg;subst hP hw hK;obtain⟨f0,f1,f2,f3,f4,f5⟩:=hf it (by simp);have W:=Walks.range (prog:=X.prog) (w:=X.w) (I.ok.hd hc) it lo 1 n;refine W.item i s _ _ hg st λv h' tk hv aJ kk=>?_;obtain⟨t,rfl⟩:=hv;have I1:Inv X pins σ H {s with heap:=h',toks:=tk}:=I.turned (λb o hb e=>kk b o (by simpa using hb) e) f0 f1 f3 f4 f5;refine⟨_,rfl,DL (s:={s with heap:=h',toks:=tk}) (n:="range_iterator") aJ rfl rfl (by decide) ⟨.int (lo+i),H,I1,⟨t,?_⟩,⟨rfl,rfl⟩,aJ,λb hb=>(hf b hb).1⟩⟩;rw[Int.mul_one]
 done:=by intro X hP hw hK hc i pins s σ H E I hf st hg;subst hP hw hK;obtain⟨f0,f1,f2,f3,f4,f5⟩:=hf it (by simp);exact wpAny_pyNext_range_end (I.ok.hd hc) st (by have:n<=i:=hg;omega) λh' eb=>⟨rfl,I.turned (t':=s.toks) (λb o hb e=>eb b o hb e) f0 f1 f3 f4 f5⟩
 self:=λ_ _ _ _ _ st h=>wpAny_pyIter_rangeiter st h
section
variable{X:Cx}{tg:Expr}
def Jk(K:Vm)(tl:TE):TI:=λσ H R=>tl σ H λx H1=>∃a,x=.ref a/\(∃xs,lG K H1 a xs)/\R (R3 K a) H1
def R5(K:Vm)(tl:TE):TI:=λσ H R=>tl σ H λx H1=>∃a,x=.ref a/\(∃xs,fI K H1 a xs)/\R (R4 K a) H1
theorem qP(hl:PE X l tl):PI X tg l (Jk X.K tl):=by
 intro pins s σ H R I h;refine bI (hl pins s σ H _ I h) λv s1 ⟨x,H1,I1,r1,q1⟩=>?_;obtain⟨a,e,⟨xs,hq⟩,q⟩:=q1;subst e;cases r1;obtain⟨its,rv,p,hz⟩:=I1.list hq;refine wpAny_pyIter_list p.isList ?_;refine⟨s1.heap.objs.size,[s1.heap.objs.size],_,_,H1,rfl,I1.kept (t':=s1.toks) λb o e=>Va _ e,B9 a _,⟨_,Vq _ rfl,rfl,rfl⟩,λb hb=>?_,q⟩;have e:b=s1.heap.objs.size:=by simpa using hb
 subst e;exact I1.vR (Vj _) (I1.aH.fresh (Vj _))
theorem Kf(hl:PE X l tl):PI X tg l (R5 X.K tl):=by
 intro pins s σ H R I h;refine bI (hl pins s σ H _ I h) λv s1 ⟨x,H1,I1,r1,q1⟩=>?_;obtain⟨a,e,⟨xs,hq⟩,q⟩:=q1;subst e;cases r1;obtain⟨its,rv,p,hz⟩:=I1.tuple hq;refine XB (show s1.heap.IsTuple a its.toArray from p) ?_;refine⟨s1.heap.objs.size,[s1.heap.objs.size],_,_,H1,rfl,I1.kept (t':=s1.toks) λb o e=>Va _ e,zU a _,⟨_,Vq _ rfl,rfl,rfl⟩,λb hb=>?_,q⟩;have e:b=s1.heap.objs.size:=by simpa using hb
 subst e;exact I1.vR (Vj _) (I1.aH.fresh (Vj _))
theorem xB{lo hi:Int}(I:Inv X pins σ H s)(h1: -(2 ^ 62)<=lo)(h2:lo < 2 ^ 62)(h3: -(2 ^ 62)<=hi)(h4:hi < 2 ^ 62)(q:R (Ke lo (hi - lo).toNat) H):wpAny (model X.prog X.w) X.A (pyIter (.ref s.heap.objs.size)) (PIE X pins σ tg R) E {s with heap:=s.heap.push {cls:=.type "range",data:=.fields #[.int lo t,.int hi u,.int 1 v]},toks:=tk}:=by
 refine wpAny_pyIter_range (IsRange.new ..) (small_one h1 h2 h3 h4) ?_;have I1:Inv X pins σ H {s with heap:=s.heap.push {cls:=.type "range",data:=.fields #[.int lo t,.int hi u,.int 1 v]},toks:=tk}:=I.kept λb o e=>Va _ e;refine⟨(s.heap.push {cls:=.type "range",data:=.fields #[.int lo t,.int hi u,.int 1 v]}).objs.size,[(s.heap.push {cls:=.type "range",data:=.fields #[.int lo t,.int hi u,.int 1 v]}).objs.size],_,_,H,rfl,
  I1.kept (t':=tk) λb o e=>Va _ e,zV _ lo (hi - lo).toNat,?_,λb hb=>?_,q⟩
 ·have e1:lo+((0:Nat):Int)*1=lo:=by simp
  have e2:(((hi - lo).toNat:Nat):Int) - ((0:Nat):Int)=Zd.Range.rangeSize lo hi 1:=by rw[rangeSize_one];split<;>omega
  show IsRangeIter _ _ (lo+((0:Nat):Int)*1) ((((hi - lo).toNat:Nat):Int) - ((0:Nat):Int)) 1;rw[e1,e2];exact Vq _ rfl
 ·have e:b=(s.heap.push {cls:=.type "range",data:=.fields #[.int lo t,.int hi u,.int 1 v]}).objs.size:=by simpa using hb
  subst e;exact I1.vR (Vj _) (I1.aH.fresh (Vj _))
def NN(ta:TA):TI:=λσ H R=>ta σ H λvs H1=>∃j:Int,vs=[.int j]/\ -(2 ^ 62)<=j/\j < 2 ^ 62/\R (Ke 0 j.toNat) H1
def NO(ta:TA):TI:=λσ H R=>ta σ H λvs H1=>∃i j:Int,vs=[.int i,.int j]/\(-(2 ^ 62)<=i/\i < 2 ^ 62/\ -(2 ^ 62)<=j/\j < 2 ^ 62)/\R (Ke i (j - i).toNat) H1
theorem Ca(hg:Gl X "range")(hm:X.mg "range"=none)(ha:PA X [a] ta)(hs:VM [a] X.env=[(false,eval a X.env)]:=by rfl):PI X tg (.Call (.Name "range" p) [a] [] pos) (NN ta):=by intro pins s σ H R I h;refine Call_ (jD I hg hm boot_range (Wl (bI (ha pos pins s σ H _ I h) λus s1 ⟨vs,H1,I1,r1,q1⟩=>?_) hs rfl));obtain⟨j,e,q1,q2,q⟩:=q1;subst e;cases r1 with|cons r rr=>cases rr;obtain⟨t,rfl⟩:=r;exact call_range_1 (xB I1 (by omega) (by omega) q1 q2 (by simpa using q))
theorem Cb(hg:Gl X "range")(hm:X.mg "range"=none)(ha:PA X [a,b] ta)(hs:VM [a,b] X.env=[(false,eval a X.env),(false,eval b X.env)]:=by rfl)(rH:VM [b] X.env=[(false,eval b X.env)]:=by rfl):
  PI X tg (.Call (.Name "range" p) [a,b] [] pos) (NO ta):=by
 intro pins s σ H R I h;refine Call_ (jD I hg hm boot_range (Wl (bI (ha pos pins s σ H _ I h) λus s1 ⟨vs,H1,I1,r1,q1⟩=>?_) (by rw[hs,rH]) (by rw[rH];rfl)));obtain⟨i,j,e,⟨q1,q2,q3,q4⟩,q⟩:=q1;subst e;cases r1 with|cons r rr=>cases rr with|cons r' rr=>cases rr;obtain⟨t,rfl⟩:=r;obtain⟨t',rfl⟩:=r';exact call_range_2 (xB I1 q1 q2 q3 q4 q)
def R6(wi:TI)(g:TG)(tb:TS):TS:=λD σ H=>wi σ H λJ H1=>∃W:Nat->Nat->St->Hp->Prop,(∃m,W 0 m σ H1)/\∀i m σ H,W i m σ H->
 (J.stop i H/\D.nx σ H)\/(J.go i H/\∃N:St->Hp->Prop,(∀cH H',N cH H'->∃m',m' < m/\W (i+1) m' cH H')/\∀x H',J.NM i H x H'->g x σ H' λNb H2=>tb {D with nx:=N,ct:=N,bk:=D.nx} Nb H2)
def ou(fp:List Addr)(h:Heap):List (Addr×Obj):=fp.filterMap λb=>(h.get? b).map λo=>(b,o)
theorem eX(hb:b∈fp)(e:h.get? b=some o):(b,o)∈ou fp h:=List.mem_filterMap.mpr ⟨b,hb,by rw[e];rfl⟩
theorem Cd(hp:p∈ou fp h):p.1∈fp/\h.get? p.1=some p.2:=by obtain⟨b,hb,e⟩:=List.mem_filterMap.mp hp;cases q:h.get? b with|none=>rw[q] at e;cases e|some o=>rw[q] at e;have e':(b,o)=p:=VT e;subst e';exact⟨hb,q⟩
theorem Inv.pinned(I:Inv X pins σ H s)(hf:∀b∈fp,mf X pins H b)(ho:∀b∈fp,∃o,s.heap.get? b=some o/\∀v,o.data≠.cell v):Inv X (pins++ou fp s.heap) σ H s:=
 I.A5 λp hp=>(Xr.mp hp).elim (λz=>I.pin p (VN _ z)) λz=>by obtain⟨hb,e⟩:=Cd z;obtain⟨f0,f1,f2,_⟩:=hf p.1 hb;obtain⟨o,e',d⟩:=ho p.1 hb;rw[e] at e';cases e';exact⟨e,f0,f1,f2,d⟩
theorem Inv.jg(I:Inv X (pins++pl) σ H s):Inv X pins σ H s:=I.A5 λp hp=>I.pin p (VN _ (Wr _ hp))
theorem vS(hp:PassesOwn (model X.prog X.w) X.A X.env X.xe)(hc:X.calm=true)(hi:PI X tg iter wi)(hg:PG X tg g)(hb:me X body tb)(hs:∀x,Zy iter X.env x=pure x:=by intro _;rfl):PS X (.For tg iter body [] pos) (R6 wi g tb):=by
 intro pins s σ H D I h;refine wpAny_For (bI (hi pins s σ H _ I h) λv s1 h1=>bI h1 λQR s2 h2=>?_) hs;obtain⟨it,fp,tn,J,H2,e,I2,T,st2,f2,W,⟨m0,w0⟩,turn⟩:=h2;subst e;have rJ:∀{H':Hp},(∀b∈fp,H' b=none)->∀b∈fp,mf X pins H' b:=λhn b hb=>⟨hn b hb,(f2 b hb).2⟩;refine codeAny_forLoop_any (λn s'=>∃i cH H',Inv X pins cH H' s'/\tn i s'.heap/\(∀b∈fp,H' b=none)/\W i n cH H') ?_ m0 ⟨0,σ,H2,I2,st2,λb hb=>(f2 b hb).1,w0⟩;rintro n s3 ⟨i,DK,H3,I3,st3,fr3,w3⟩;rcases turn i n DK H3 w3 with ⟨stop,qn⟩|⟨go,N,hN,step⟩
 ·refine XH hp (bI (T.done X rfl rfl rfl hc i pins s3 DK H3 X.xe I3 (rJ fr3) st3 stop) λr s4 ⟨hr,I4⟩=>?_);subst hr;exact aad ⟨DK,H3,I4,qn⟩
 ·refine XH hp (bI (T.item X rfl rfl rfl hc i pins s3 DK H3 X.xe I3 (rJ fr3) st3 go) λr s4 ⟨u,hr,h4⟩=>?_);subst hr;refine XH hp (bI h4 λ_ s5 ⟨x,H5,I5,r5,y5,Ce,Kg⟩=>?_);have I5':=I5.pinned (rJ Kg) (T.obj _ _ Ce);refine XH hp (bI (hg _ s5 DK H5 x u _ I5' r5 (step x H5 y5)) λ_ s6 ⟨σ6,H6,I6,q6⟩=>?_);refine XH hp (bI (hb _ s6 σ6 H6 _ I6 q6) λf s7 q7=>?_);have again:∀{DM:St} {H7:Hp},Inv X (pins++ou fp s5.heap) DM H7 s7->N DM H7->∃m,m < n/\∃i cH H',Inv X pins cH H' s7/\tn i s7.heap/\(∀b∈fp,H' b=none)/\W i m cH H':=λ{DM H7} I7 n7=>by obtain⟨m',hm,w7⟩:=hN DM H7 n7;refine⟨m',hm,i+1,DM,H7,I7.jg,T.keep _ _ _ Ce λb hb o e=>(I7.pin (b,o) (VN _ (VN _ (eX hb e)))).1,λb hb=>?_,w7⟩;obtain⟨o,e,d⟩:=T.obj _ _ Ce b hb;exact(I7.pin (b,o) (VN _ (VN _ (eX hb e)))).2.1
  cases f with|next=>obtain⟨DM,H7,I7,n7⟩:=q7;exact again I7 n7|cont=>obtain⟨DM,H7,I7,n7⟩:=q7;exact again I7 n7|brk=>obtain⟨DM,H7,I7,q7⟩:=q7;exact⟨DM,H7,I7.jg,q7⟩|ret v=>obtain⟨x7,DM,H7,I7,r7,q7⟩:=q7;exact⟨x7,DM,H7,I7.jg,r7,q7⟩
end
abbrev R2:=V->V->Hp->VK->Prop
def kf(X:Cx)(f:Value->Value->Sem Value)(r:R2):Prop:=
 ∀(pins:List (Addr×Obj)) (s:Vv) (σ:St) (H:Hp) (x y:V) (v u:Value) (Q:VK),Inv X pins σ H s->RelV x v->RelV y u->r x y H Q->
  wpAny (model X.prog X.w) X.A (f v u) (EP X pins σ Q) X.xe s
def ie(X:Cx)(f:Value)(r:List V->Hp->VK->Prop):Prop:=
 ∀(pins:List (Addr×Obj)) (s:Vv) (σ:St) (H:Hp) (xs:List V) (us:List Value) (Q:VK),Inv X pins σ H s->aP xs us->r xs H Q->
  wpAny (model X.prog X.w) X.A (call f us) (EP X pins σ Q) X.xe s
def R7(X:Cx)(r:V->Hp->(Bool->Hp->Prop)->Prop):Prop:=
 ∀(pins:List (Addr×Obj)) (s:Vv) (σ:St) (H:Hp) (x:V) (v:Value) (Q:Bool->Hp->Prop),Inv X pins σ H s->RelV x v->r x H Q->
  wpAny (model X.prog X.w) X.A (truthy v) (TP X pins σ Q) X.xe s
def NP(r:R2)(ta tb:TE):TE:=λσ H Q=>ta σ H λx H1=>tb σ H1 λy H2=>r x y H2 Q
def rI(C:Int->Int->Prop)(g:Int->Int->V):R2:=λx y H Q=>∃i j,x=.int i/\y=.int j/\C i j/\Q (g i j) H
def A8(g:Int->Int->V):R2:=λx y H Q=>∃i j,x=.int i/\y=.int j/\Q (g i j) H
section
variable{X:Cx}{a b c:Expr}{ta tb tc:TE}{pos:Pos}
theorem Kh(ha:PE X a ta)(hb:PE X b tb){R:V->V->Hp->Prop}(I:Inv X pins σ H s)(h:ta σ H λx H1=>tb σ H1 λy H2=>R x y H2){f:Value->Value->Sem Value}(hf:∀v u s2 x y H2,Inv X pins σ H2 s2->RelV x v->RelV y u->R x y H2->wpAny (model X.prog X.w) X.A (f v u) Q X.xe s2):
  wpAny (model X.prog X.w) X.A (eval a X.env) (λv br=>wpAny (model X.prog X.w) X.A (eval b X.env) (λu ud=>wpAny (model X.prog X.w) X.A (f v u) Q X.xe ud) X.xe br) X.xe s:=by
 refine bI (ha pins s σ H _ I h) λv s1 ⟨x,H1,I1,r1,q1⟩=>?_;refine bI (hb pins s1 σ H1 _ I1 q1) λu s2 ⟨y,H2,I2,r2,q2⟩=>?_;exact hf v u s2 x y H2 I2 r1 r2 q2
theorem NQ(ho:kf X (XN op) r)(ha:PE X a ta)(hb:PE X b tb):PE X (.BinOp a op b pos) (NP r ta tb):=by intro pins s σ H Q I h;exact wpAny_BinOp (Kh ha hb I h λv u s2 x y H2 I2 rx ry q=>ho pins s2 σ H2 x y v u Q I2 rx ry q)
theorem lh{g:Int->Int->Int}(rule:∀(i j:Int) (t u:Tok) (s:Vv) (Q:Value->Vv->Prop) (E:Value->Vv->Prop),C i j->Q (.int (g i j) s.toks) {s with toks:=s.toks+1}->wpAny (model X.prog X.w) X.A (f (.int i t) (.int j u)) Q E s):
  kf X f (rI C λi j=>.int (g i j)):=by
 intro pins s σ H x y v u Q I rx ry h;obtain⟨i,j,rfl,rfl,hc,q⟩:=h;obtain⟨t,rfl⟩:=rx;obtain⟨t',rfl⟩:=ry;exact rule i j t t' s _ _ hc ⟨.int (g i j),H,I.tok _,⟨_,rfl⟩,q⟩
theorem NR{g:Int->Int->Int}(rule:∀(i j:Int) (t u:Tok) (s:Vv) (Q:Value->Vv->Prop) (E:Value->Vv->Prop),Q (.int (g i j) s.toks) {s with toks:=s.toks+1}->wpAny (model X.prog X.w) X.A (f (.int i t) (.int j u)) Q E s):
  kf X f (A8 λi j=>.int (g i j)):=by
 intro pins s σ H x y v u Q I rx ry h;obtain⟨i,j,rfl,rfl,q⟩:=h;obtain⟨t,rfl⟩:=rx;obtain⟨t',rfl⟩:=ry;exact rule i j t t' s _ _ ⟨.int (g i j),H,I.tok _,⟨_,rfl⟩,q⟩
theorem GG{g:Int->Int->Bool}(rule:∀(i j:Int) (t u:Tok) (s:Vv) (Q:Value->Vv->Prop) (E:Value->Vv->Prop),Q (.bool (g i j)) s->wpAny (model X.prog X.w) X.A (f (.int i t) (.int j u)) Q E s):
  kf X f (A8 λi j=>.bl (g i j)):=by
 intro pins s σ H x y v u Q I rx ry h;obtain⟨i,j,rfl,rfl,q⟩:=h;obtain⟨t,rfl⟩:=rx;obtain⟨t',rfl⟩:=ry;exact rule i j t t' s _ _ ⟨.bl (g i j),H,I,rfl,q⟩
def GH(i j:Int):Prop:=(-(2 ^ 64) < i/\i < 2 ^ 64)\/(-(2 ^ 64) < j/\j < 2 ^ 64)
theorem GH.ok(h:GH i j):IntMulOk i j:=by
 rcases h with ⟨h1,h2⟩|⟨h1,h2⟩
 ·exact .of_left (intBits_le_64 h1 h2)
 ·exact .of_right (intBits_le_64 h1 h2)
theorem Ki:kf X (XN .Add) (A8 λi j=>.int (i+j)):=NR λ_ _ _ _ _ _ _ q=>add_int q
theorem Kj:kf X (XN .Sub) (A8 λi j=>.int (i - j)):=NR λ_ _ _ _ _ _ _ q=>sub_int q
theorem Kk:kf X (XN .Mult) (rI GH λi j=>.int (i*j)):=lh λ_ _ _ _ _ _ _ hc q=>mul_int q hc.ok
theorem Kl:kf X (XN .Mod) (rI (λ_ j=>0 < j) λi j=>.int (i % j)):=lh λi j _ _ _ _ _ hc q=>by have h1:(0:Int) < j:=hc;exact mod_int' (by omega) (by rw[Int.fmod_eq_emod_of_nonneg i (by omega)];exact q)
end
section
variable{X:Cx}{a b c:Expr}{ta tb tc:TE}{pos:Pos}
theorem NS:kf X (WC .Lt) (A8 λi j=>.bl (decide (i < j))):=GG λ_ _ _ _ _ _ _ q=>lt_int q
theorem NT:kf X (WC .LtE) (A8 λi j=>.bl (decide (i<=j))):=GG λ_ _ _ _ _ _ _ q=>le_int q
theorem NU:kf X (WC .Gt) (A8 λi j=>.bl (decide (j < i))):=GG λ_ _ _ _ _ _ _ q=>gt_int q
theorem NV:kf X (WC .GtE) (A8 λi j=>.bl (decide (j<=i))):=GG λ_ _ _ _ _ _ _ q=>ge_int q
theorem kf.or(h:kf X f r)(h':kf X f r'):kf X f (λx y H Q=>r x y H Q\/r' x y H Q):=by
 intro pins s σ H x y v u Q I rx ry q;rcases q with q|q;·exact h pins s σ H x y v u Q I rx ry q
 ·exact h' pins s σ H x y v u Q I rx ry q
theorem GI(ho:kf X (WC op) r)(ha:PE X a ta)(hb:PE X b tb)(hm:aaw op b=false):PE X (.Compare a [op] [b] pos) (NP r ta tb):=by intro pins s σ H Q I h;exact wpAny_Compare1 (Kh ha hb I h λv u s2 x y H2 I2 rx ry q=>ho pins s2 σ H2 x y v u Q I2 rx ry q) hm
def Jl(t:TE):TT:=λσ H Q=>t σ H λx H'=>∃k,x=.bl k/\Q k H'
theorem GJ(ho:kf X (WC op) r)(ha:PE X a ta)(hb:PE X b tb)(hm:aaw op b=false):PT X (.Compare a [op] [b] pos) (Jl (NP r ta tb)):=by intro pins s σ H Q I h;refine wpAny_isTrue_Compare1 (bI (ha pins s σ H _ I h) λv s1 ⟨x,H1,I1,r1,q1⟩=>bI (hb pins s1 σ H1 _ I1 q1) λu s2 ⟨y,H2,I2,r2,q2⟩=>bI (ho pins s2 σ H2 x y v u _ I2 r1 r2 q2) λc s3 ⟨z,H3,I3,r3,k,e,q3⟩=>?_) hm;subst e;cases r3;exact W5 ⟨H3,I3,q3⟩
def zW(r r':R2)(ta tb tc:TE):TE:=λσ H Q=>ta σ H λx H1=>tb σ H1 λy H2=>r x y H2 λz H3=>∃k,z=.bl k/\
 (if k=true then tc σ H3 λw' H4=>r' y w' H4 Q else Q (.bl false) H3)
theorem DN(ho:kf X (WC op) r)(oq:kf X (WC NW) r')(ha:PE X a ta)(hb:PE X b tb)(hc:PE X c tc)(hm:lastMarks [op,NW] [b,c]=false:=by with_unfolding_all rfl):PE X (.Compare a [op,NW] [b,c] pos) (zW r r' ta tb tc):=by intro pins s σ H Q I h;refine Compare_chain (bI (ha pins s σ H _ I h) λv s1 ⟨x,H1,I1,r1,q1⟩=>chain_link (bI (hb pins s1 σ H1 _ I1 q1) λu s2 ⟨y,H2,I2,r2,q2⟩=>bI (ho pins s2 σ H2 x y v u _ I2 r1 r2 q2) λd s3 ⟨z,H3,I3,r3,k,e,q3⟩=>?_)) hm;subst e;cases r3;refine W5 ?_;cases k with|false=>exact ite_ff ⟨.bl false,H3,I3,rfl,q3⟩|true=>exact ite_tt (chain_last (bI (hc pins s3 σ H3 _ I3 q3) λw' s4 ⟨z',H4,I4,r4,q4⟩=>oq pins s4 σ H4 y z' u w' Q I4 r2 r4 q4))
theorem DO(ho:kf X (WC op) r)(oq:kf X (WC NW) r')(ha:PE X a ta)(hb:PE X b tb)(hc:PE X c tc)(hm:lastMarks [op,NW] [b,c]=false:=by with_unfolding_all rfl):PT X (.Compare a [op,NW] [b,c] pos) (Jl (zW r r' ta tb tc)):=by intro pins s σ H Q I h;refine isTrue_chain (bI (ha pins s σ H _ I h) λv s1 ⟨x,H1,I1,r1,q1⟩=>test_link (bI (hb pins s1 σ H1 _ I1 q1) λu s2 ⟨y,H2,I2,r2,q2⟩=>bI (ho pins s2 σ H2 x y v u _ I2 r1 r2 q2) λd s3 ⟨z,H3,I3,r3,k,e,q3⟩=>?_)) hm;subst e;cases r3;refine W5 ?_;cases k with|false=>obtain⟨k',e',q'⟩:=q3;cases e';exact ite_ff ⟨H3,I3,q'⟩|true=>refine ite_tt (test_last (bI (hc pins s3 σ H3 _ I3 q3) λw' s4 ⟨z',H4,I4,r4,q4⟩=>bI (oq pins s4 σ H4 y z' u w' _ I4 r2 r4 q4) λd' s5 ⟨z2,H5,I5,r5,k2,e2,q5⟩=>?_));subst e2;cases r5;exact W5 ⟨H5,I5,q5⟩
def Cf(K:Vm)(x:V)(H:Hp)(k:Bool):Prop:=
 match x with|.bq=>k=false|.bl b=>k=b|.int i=>k=(i !=0)|.str y=>y.length<=VD/\k=((y.length:Int)!=0)|.M8 y=>y.size<=VD/\k=((y.size:Int)!=0)|.ref p=>(∃xs,lG K H p xs/\k=!xs.isEmpty)\/(∃xs,fI K H p xs/\k=!xs.isEmpty)\/∃kvs,H p=some (.dK kvs)/\k=!kvs.isEmpty|_=>False
theorem zX(r:KV kvs vs):(!vs.isEmpty)=!kvs.isEmpty:=by cases r<;>rfl
theorem rK(r:aP xs its):(!its.toArray.isEmpty)=!xs.isEmpty:=by cases r<;>simp
theorem ow:(VD:Nat) < 2 ^ 63:=by rw[WR];decide
theorem DP:R7 X (λx H Q=>∃k,Cf X.K x H k/\Q k H):=by
 intro pins s σ H x v Q I rx h;obtain⟨k,e,q⟩:=h;have hl:=ow;have hs:VD=16777216:=WR;cases x with
 |bq=>cases rx;have e':k=false:=e;subst e';exact truthy_none ⟨H,I,q⟩|bl b=>cases rx;have e':k=b:=e;subst e';exact W5 ⟨H,I,q⟩|int i=>obtain⟨t,rfl⟩:=rx;have e':k=(i !=0):=e;subst e';exact PySem.P.truthy_int ⟨H,I,q⟩|str y=>obtain⟨t,rfl⟩:=rx;obtain⟨hy,e'⟩:y.length<=VD/\k=((y.length:Int)!=0):=e;subst e';exact PySem.P.truthy_str (by omega) ⟨H,I.tok _,q⟩|M8 y=>obtain⟨t,rfl⟩:=rx;obtain⟨hy,e'⟩:y.size<=VD/\k=((y.size:Int)!=0):=e;subst e';exact PySem.W.truthy_bytes (by omega) ⟨H,I.tok _,q⟩|ref p=>
  cases rx;have e':(∃xs,lG X.K H p xs/\k=!xs.isEmpty)\/(∃xs,fI X.K H p xs/\k=!xs.isEmpty)\/∃kvs,H p=some (.dK kvs)/\k=!kvs.isEmpty:=e;rcases e' with ⟨xs,hx,e'⟩|⟨xs,hx,e'⟩|⟨kvs,hx,e'⟩
  ·subst e';obtain⟨its,r,pl,hz⟩:=I.list hx;have hlen:=r.length;exact wpAny_truthy_list pl.isList (by simp only[Vp];omega) ⟨H,I.tok _,by rw[rK r];exact q⟩
  ·subst e';obtain⟨its,r,pl,hz⟩:=I.tuple hx;have hlen:=r.length;exact truthy_tuple pl (by simp only[Vp];omega) ⟨H,I.tok _,by rw[rK r];exact q⟩
  ·subst e';obtain⟨hz,hS,vs,r,m⟩:kvs.length<=VD/\(p==W6)=false/\∃vs,KV kvs vs/\s.heap.DictOf (bc X.prog X.w) p vs:=I.aH p _ hx;have hlen:kvs.length=vs.length:=ZN r;exact wpAny_truthy_dict hS m (by omega) ⟨H,I.tok _,by rw[zX r];exact q⟩
 |_=>exact(show False from e).elim
theorem DQ(ha:PE X a ta)(he:∀whole,aaM a X.env whole=(do let v<-whole;aap a.pos;aaq [v] (truthy v))):
  PT X a (λσ H Q=>ta σ H λx H'=>∃k,Cf X.K x H' k/\Q k H'):=by
 intro pins s σ H Q I h;exact isTrue_plain (bI (ha pins s σ H _ I h) λv s1 ⟨x,H1,I1,r1,q1⟩=>DP pins s1 σ H1 x v Q I1 r1 q1) (he _)
theorem zY:kf X (XN .Add) (λx y H Q=>∃i j,x=.str i/\y=.str j/\i.length+j.length<=VD/\Q (.str (i++j)) H):=by intro pins s σ H x y v u Q I rx ry h;obtain⟨i,j,rfl,rfl,hz,q⟩:=h;obtain⟨t,rfl⟩:=rx;obtain⟨t',rfl⟩:=ry;exact add_str (λt' tk=>⟨.str (i++j),H,I.tok _,⟨_,rfl⟩,q⟩) hz
theorem vals1(r:aP [x] us):∃u,us=[u]/\RelV x u:=by cases r with|cons r1 r2=>cases r2;exact⟨_,rfl,r1⟩
theorem vals2(r:aP [x,y] us):∃u w',us=[u,w']/\RelV x u/\RelV y w':=by cases r with|cons r1 r2=>cases r2 with|cons r3 r4=>cases r4;exact⟨_,_,rfl,r1,r3⟩
end
structure zZ(h:Heap)(x dx C:Addr)(mA:Str->Option Value):Prop where
 obj:h.get? x=some (Xp C dx)
 ns:h.Ns1 dx mA
 ne:dx≠x
theorem Cg{h:Heap}(n:h.Ns1 dx mA):∃od,h.get? dx=some od/\∀name,Zu name od=some (mA name):=by
 obtain⟨o,es,ep,ho,hd,hk,_,hm⟩:=n;refine⟨o,ho,λname=>?_⟩;have e:=hm name;unfold nsFind findBy at e;rw[<-Array.find?_toList] at e;unfold Zu;rw[hd];dsimp only;split;·rename_i y q;rw[q] at e;exact congrArg some e
 ·rename_i q;rw[q] at e;have a:es.toList.any (·.refKey)=false:=by rw[ZE];intro y hy;obtain⟨z,t,R8⟩:=hk y (Array.mem_toList_iff.mp hy);simp[DictEntry.refKey,R8]
  have a':¬es.toList.any (·.refKey)=true:=by rw[a];exact V7
  rw[if_neg a'];exact congrArg some e
theorem zZ.look(I:zZ h x dx C mA):∃od,PySem.W.InstAt h x (Xp C dx) C (some od)/\∀name,Zu name od=some (mA name):=
 let ⟨od,ho,hl⟩:=Cg I.ns
 ⟨od,⟨I.obj,rfl,rfl,ho⟩,hl⟩
section
variable{prog:Wf}{w:World}{A:WN}{E:Value->Vv->Prop}{s:Vv}{K:Vm}{x dx C f:Addr}{mA:Str->Option Value}{name:Str}{v:Value}
theorem get_map(X:K.In s.heap)(I:zZ s.heap x dx C mA)(hg:Yq K C name=true)(hh:YL K C=true)(ha:VZ K (.ref C) name=some none)(hv:mA name=some v)(QS:PySem.W.handedIn v=true)(h:Q v {s with toks:=s.toks+1}):
  wpAny (model prog w) A (getAttr (.ref x) name expr) Q E s:=by
 obtain⟨od,J,hl⟩:=I.look;exact PySem.W.get_value X J (Zm hg).1 (PySem.W.findObj_own hh ha rfl (by rw[hl,hv])) QS h
theorem DR(X:K.In s.heap)(I:zZ s.heap x dx C mA)(hg:Yq K C name=true)(hf:VZ K (.ref C) name=some (some (.ref f)))(ht:X8 K (.ref f)=true)(hv:mA name=none)(h:Q (.ref f,[.ref x]) s):
  wpAny (model prog w) A (ZS (.ref x) name pl) Q E s:=by
 obtain⟨od,J,hl⟩:=I.look;exact PySem.W.method_fn X J (Zm hg).1 (Zm hg).2 hf (beq_iff_eq.mp ht) (by show(Zu name od).map (·.isSome)=some false;rw[hl,hv];rfl) h
theorem GK(X:K.In s.heap)(I:zZ s.heap x dx C mA)(hs:VZ K (.ref C) "__setattr__"=some (some (.builtin "object.__setattr__")))(hp:Zz K C=true)(ht:aae K C name=some none)(hh:YL K C=true)(hw:aaE mA ns)(hsz:ns.length<=VD)(h:∀h',zZ h' x dx C (λy=>if y=name then some v else mA y)->XS dx s.heap h'->Q () {s with heap:=h',toks:=s.toks+2}):
  wpAny (model prog w) A (setAttr (.ref x) name v) Q E s:=by
 obtain⟨od,J,hl⟩:=I.look;refine PySem.W.set_plain X J hs (PySem.W.osa_open (s:={s with toks:=s.toks+1}) (r:=none) X J hp ht λb=>?_);obtain⟨cd,hc,A4⟩:=PySem.W.any_some hh;have hx:s.heap.get? x=some ⟨.ref C,some dx,.plain,#[]⟩:=I.obj;refine U7 (Vn (U7 (U7 (wpAny_loadPart hx (U7 (PySem.W.Looks.here (s:={s with toks:=s.toks+1}) (PySem.W.looks_clsIn X hc) ?_))))));rw[A4];refine Vn (a:=some dx) (U7 (Vn (U7 ?_)));refine wpAny_nsSet1 (s:={s with toks:=s.toks+1}) I.ns λh' QT rH=>?_;obtain⟨oD,esD,epD,hoD,hdD,hcD⟩:=QT.count (aaE.cons name v hw);refine U7 (wpAny_lookBehind hoD (by rw[hdD];exact pastItsLine_dict (V3 hcD (by rw[Vt];omega))) ?_);exact Vn (h _ ⟨(rH.2 _ (Wg I.ne)).trans I.obj,QT,I.ne⟩ rH)
theorem DS(X:K.In s.heap)(hm:aaf K C=true)(hi:VZ K (.ref C) "__init__"=some (some (.ref f)))(hf:PySem.W.typeIn K (.ref f)=some (.type "function"))(h:Zc (model prog w) (A.under (.builtin "type.__call__" ⟨.ref C::vs,kw⟩)) (.call (.ref f) ⟨.ref (s.heap.objs.size+1)::vs,kw⟩) (PySem.W.InitBack (s.heap.objs.size+1) R)
   {s with heap:=(s.heap.push WS).push (Xp C s.heap.objs.size)}):
  Zc (model prog w) A (.call (.ref C) ⟨vs,kw⟩) R s:=by
 obtain⟨hh,g,d,t,os⟩:=s;exact PySem.W.make_core (PySem.W.makes_of X hm) (PySem.W.looks_findIn X hi) (λself=>PySem.W.bind_fn X self hf) (.inl rfl) h
end
def jF(f:Str)(v:V):List (Str×V)->List (Str×V)
 |[]=>[(f,v)]|(g,x)::r=>if g=f then(g,v)::r else(g,x)::jF f v r
theorem pK f g v:∀fs:List (Str×V),(jF f v fs).lookup g=if g=f then some v else fs.lookup g
 |[]=>by
  show Xc g [(f,v)]=_;by_cases h:g=f;·have hb:(g==f)=true:=beq_iff_eq.mpr h;simp only[Xc,hb,if_pos h]
  ·have hb:(g==f)=false:=beq_eq_false_iff_ne.mpr h;simp only[Xc,hb,if_neg h]
 |(k,x)::r=>by
  have ih:=pK f g v r;rw[show jF f v ((k,x)::r)=(if k=f then(k,v)::r else(k,x)::jF f v r) from rfl];by_cases hk:k=f
  ·rw[if_pos hk];by_cases h:g=k;·have hb:(g==k)=true:=beq_iff_eq.mpr h;simp only[Xc,hb,if_pos (h.trans hk)]
   ·have hb:(g==k)=false:=beq_eq_false_iff_ne.mpr h;simp only[Xc,hb,if_neg (λe:g=f=>h (e.trans hk.symm))]
  ·rw[if_neg hk];by_cases h:g=k;·have hb:(g==k)=true:=beq_iff_eq.mpr h;simp only[Xc,hb,if_neg (λe:g=f=>hk (h.symm.trans e))]
   ·have hb:(g==k)=false:=beq_eq_false_iff_ne.mpr h;simp only[Xc,hb];exact ih
theorem ox f v:∀fs:List (Str×V),f∈(jF f v fs).map (·.1)/\∀g,g∈fs.map (·.1)->g∈(jF f v fs).map (·.1)
 |[]=>⟨by simp[jF],λg h=>by simp at h⟩|(k,x)::r=>by
  obtain⟨i1,i2⟩:=ox f v r;rw[show jF f v ((k,x)::r)=(if k=f then(k,v)::r else(k,x)::jF f v r) from rfl];by_cases hk:k=f;·rw[if_pos hk];subst hk;exact⟨by simp,λg h=>by simpa using h⟩
  ·rw[if_neg hk];refine⟨?_,λg h=>?_⟩;·rw[Vo];exact Vb _ i1
   ·rw[Vo] at h ⊢;rcases W4.mp h with e|e;·exact W4.mpr (.inl e)
    ·exact Vb _ (i2 g e)
theorem pL f v:∀fs:List (Str×V),(jF f v fs).length<=fs.length+1
 |[]=>by simp[jF]|(k,x)::r=>by
  have ih:=pL f v r;rw[show jF f v ((k,x)::r)=(if k=f then(k,v)::r else(k,x)::jF f v r) from rfl];by_cases hk:k=f;·rw[if_pos hk,Vt,Vt];omega
  ·rw[if_neg hk,Vt,Vt];omega
theorem kh.some_of(r:kh (some v) o):∃u,o=some u/\RelV v u:=by cases o with|none=>exact(show False from r).elim|some u=>exact⟨u,rfl,r⟩
theorem kh.none_of(r:kh none o):o=none:=by cases o with|none=>rfl|some u=>exact(show False from r).elim
theorem Ci(r:RelV v u):PySem.W.handedIn u=true:=by cases v with|bq=>cases (show u=Xi from r);rfl|bl b=>cases (show u=YA b from r);rfl|int i=>obtain⟨t,e⟩:=(show ∃t,u=Y6 i t from r);cases e;rfl|str x=>obtain⟨t,e⟩:=(show ∃t,u=Y5 x t from r);cases e;rfl|M8 b=>obtain⟨t,e⟩:=(show ∃t,u=Value.bytes b t from r);cases e;rfl|J4 b=>obtain⟨t,e⟩:=(show ∃t,u=aaP b t from r);cases e;rfl|ref a=>cases (show u=VJ a from r);rfl|ty n=>cases (show u=X7 n from r);rfl
section
variable{P:Wf}{w:World}{H H':Hp}{h h':Heap}{a C dx:Addr}{fs fs':List (Str×V)}
theorem qQ(aH:ki P w H h)(e:H a=some (.ins C dx fs)):∃mA,zZ h a dx C mA/\(∀f,kh (fs.lookup f) (mA f))/\aaE mA (fs.map (·.1))/\fs.length<=1000/\H dx=some (.own a):=by obtain⟨d,z,ne,ob,mA,n,r,q⟩:=(show bz P w H h a (.ins C dx fs) from aH a _ e);exact⟨mA,⟨ob,n,ne⟩,r,q,z,d⟩
end
structure zM(K:Vm)(C:Addr):Prop where
 pg:Yq K C Str.empty=true
 hd:YL K C=true
 po:Zz K C=true
 sa:VZ K (.ref C) "__setattr__"=some (some (.builtin "object.__setattr__"))
theorem zM.get{K:Vm}(c:zM K C)f:Yq K C f=true:=c.pg
def jG(K:Vm)(C:Addr)(f:Str):Prop:=VZ K (.ref C) f=some none
theorem jG.NX{K:Vm}(n:jG K C f):aae K C f=some none:=by unfold aae;rw[show VZ K (.ref C) f=some none from n];rfl
structure z8(K:Vm)(C:Addr)(m:Str)(f:Addr):Prop where
 at_:VZ K (.ref C) m=some (some (.ref f))
 fn:X8 K (.ref f)=true
 kp:XC K (.ref f)=true
section
variable{X:Cx}{pins:List (Addr×Obj)}{σ:St}{H:Hp}{s:Vv}{a C dx:Addr}{fs:List (Str×V)}{f:Str}{v:V}{A:WN}{E:Value->Vv->Prop}
theorem z9(I:Inv X pins σ H s)(e:H a=some (.ins C dx fs))(c:zM X.K C)(n:jG X.K C f)(l:fs.lookup f=some v)(h:∀u s',Inv X pins σ H s'->RelV v u->Q u s'):wpAny (model X.prog X.w) A (getAttr (.ref a) f b) Q E s:=by obtain⟨mA,O,r,_,_,_⟩:=qQ I.aH e;obtain⟨u,hu,ru⟩:=kh.some_of (v:=v) (o:=mA f) (by rw[<-l];exact r f);exact get_map I.mZ O (c.get f) c.hd n hu (Ci ru) (h u _ (I.tok _) ru)
theorem mh(I:Inv X pins σ H s)(e:H a=some (.ins C dx fs))(c:zM X.K C)(k:z8 X.K C m g)(l:fs.lookup m=none)(h:Q (.ref g,[.ref a]) s):wpAny (model X.prog X.w) A (ZS (.ref a) m pl) Q E s:=by obtain⟨mA,O,r,_,_,_⟩:=qQ I.aH e;have hn:mA m=none:=kh.none_of (by rw[<-l];exact r m);exact DR I.mZ O (c.get m) k.at_ k.fn hn h
theorem Aa(I:Inv X pins σ H s)(e:H a=some (.ins C dx fs))(c:zM X.K C)(n:jG X.K C f)(hl:fs.length < 1000)(ry:RelV y u)(h:∀s',Inv X pins σ (upd H a (.ins C dx (jF f y fs))) s'->Q () s'):wpAny (model X.prog X.w) A (setAttr (.ref a) f u) Q E s:=by
 obtain⟨mA,O,r,wi,_,ho⟩:=qQ I.aH e;have hz:(fs.map (·.1)).length<=VD:=by rw[Vg,WR];omega
 refine GK I.mZ O c.sa c.po n.NX c.hd wi hz λh' O' sb=>h _ ?_;have hd:∃o,h'.get? dx=some o:=let ⟨o,_,_,e',_⟩:=O'.ns;⟨o,e'⟩
 refine I.write (x:=a) (e:=dx) (by rw[e];exact WY) (.inr ho) (λb q hb z=>(sb.2 b hb).trans z) hd ?_;refine⟨by rw[aw O.ne];exact ho,?_,O.ne,O'.obj,_,O'.ns,λg=>?_,λg hg=>?_⟩;·have:=pL f y fs;omega
 ·show kh ((jF f y fs).lookup g) (if g=f then some u else mA g);rw[pK];by_cases q:g=f;·rw[if_pos q,if_pos q];exact ry
  ·rw[if_neg q,if_neg q];exact r g
 ·by_cases q:g=f;·rw[q];exact(ox f y fs).1
  ·refine(ox f y fs).2 g (wi g λz=>hg ?_);show(if g=f then some u else mA g)=none;rw[if_neg q];exact z
theorem Inv.made(I:Inv X pins σ H s):Inv X pins σ (upd (upd H s.heap.objs.size (.own (s.heap.objs.size+1))) (s.heap.objs.size+1) (.ins C s.heap.objs.size []))
  {s with heap:=(s.heap.push WS).push (Xp C s.heap.objs.size)}:=by
 have e1:(s.heap.push WS).get? s.heap.objs.size=some WS:=Vq s.heap rfl;have e2:((s.heap.push WS).push (Xp C s.heap.objs.size)).get? (s.heap.objs.size+1)=some (Xp C s.heap.objs.size):=by have:=Vq (s.heap.push WS) (o:=Xp C s.heap.objs.size) rfl;rwa [WG] at this
 have e3:(s.heap.push WS).Ns s.heap.objs.size (λ_=>none):=⟨WS,#[],_,e1,rfl,(λe he=>absurd he (by simp)),λ_=>rfl⟩;have I1:=I.laid (a:=s.heap.objs.size) (o:=.own (s.heap.objs.size+1)) (h':=s.heap.push WS) (t':=s.toks) (λb u q=>Va _ q) (Vj _) ⟨_,e1⟩;refine I1.laid (a:=s.heap.objs.size+1) (o:=.ins C s.heap.objs.size []) (t':=s.toks) (λb u q=>Va _ q) (Zr (WG _ _)) ?_;have ne:s.heap.objs.size≠s.heap.objs.size+1:=VP (WZ _);refine⟨by rw[aw ne,aC],WE _,ne,e2,λ_=>none,(Heap.Ns1.of_empty e3).at λo q=>Va _ q,λ_=>WY,λy hy=>absurd rfl hy⟩
theorem GL(hb:XU e f env (eval e env)=eval e env)(h:wpAny (model prog w) A (eval e env) (λo br=>wpAny (model prog w) A (getAttr o f true) Q E br) E s):wpAny (model prog w) A (eval (.Attribute e f pos) env) Q E s:=
 Attribute_any_ h (by rw[arm_eval_Attribute,hb])
end
def R9(K:Vm)(ta:TE)(f:Str):TE:=λσ H Q=>ta σ H λx H1=>∃a C dx fs v,x=.ref a/\H1 a=some (.ins C dx fs)/\zM K C/\jG K C f/\fs.lookup f=some v/\Q v H1
def Sa(K:Vm)(ta tv:TE)(f:Str):TS:=λD σ H=>tv σ H λy H1=>ta σ H1 λx H2=>∃a C dx fs,x=.ref a/\H2 a=some (.ins C dx fs)/\zM K C/\jG K C f/\fs.length < 1000/\
 D.nx σ (upd H2 a (.ins C dx (jF f y fs)))
section
variable{X:Cx}{o e value:Expr}{f:Str}{pos pos' Sb:Pos}{ta tv:TE}
theorem Km(he:PE X e ta)(hb:XU e f X.env (eval e X.env)=eval e X.env):PE X (.Attribute e f pos) (R9 X.K ta f):=by intro pins s σ H Q I h;refine GL hb (bI (he pins s σ H _ I h) λu s1 ⟨x,H1,I1,rx,a,C,dx,fs,v,ex,ea,c,n,l,q⟩=>?_);subst ex;obtain rfl:u=VJ a:=rx;exact z9 I1 ea c n l λu' s2 I2 ru=>⟨v,H1,I2,ru,q⟩
theorem Kn(ha:PE X o ta)(hv:PE X value tv)(hs:Yo value (some (.Attribute o f pos')) pos.line X.env=pure false):PS X (.Assign [.Attribute o f pos'] value pos) (Sa X.K ta tv f):=by intro pins s σ H D I h;refine plainObj_wpAny_Assign_Attribute (bI (hv pins s σ H _ I h) λu s1 ⟨y,H1,I1,ry,q⟩=>bI (ha pins s1 σ H1 _ I1 q) λov s2 ⟨x,H2,I2,rx,a,C,dx,fs,ex,ea,c,n,l,q2⟩=>?_) hs;subst ex;obtain rfl:ov=VJ a:=rx;exact Aa I2 ea c n l ry λs3 I3=>⟨σ,_,I3,q2⟩
theorem Jm(he:PE X e te)(I:Inv X pins σ H s)(h:te σ H λx H1=>∃a C dx fs g,x=.ref a/\H1 a=some (.ins C dx fs)/\zM X.K C/\z8 X.K C m g/\fs.lookup m=none/\
   ∀s1,Inv X pins σ H1 s1->wpAny (model X.prog X.w) X.A (aaD pos (.ref g) [.ref a] (Xn pos (VM args X.env)) (Zf pos (X6 [] X.env))) Q X.xe s1)(ht:eval (.Call (.Attribute e m apos) args [] pos) X.env=(do
   let ov<-eval e X.env
   aap apos.atName
   let (f,first)<-aaq [ov] (ZS ov m pl)
   aaD pos f first (Xn pos (VM args X.env)) (Zf pos (X6 [] X.env)))):
  wpAny (model X.prog X.w) X.A (eval (.Call (.Attribute e m apos) args [] pos) X.env) Q X.xe s:=by
 refine YX (pl:=pl) (bI (he pins s σ H _ I h) λu s1 ⟨x,H1,I1,rx,a,C,dx,fs,g,ex,ea,c,k,l,q⟩=>?_) ht;subst ex;obtain rfl:u=VJ a:=rx;exact mh I1 ea c k l (q s1 I1)
end
section
variable{X:Cx}{pins:List (Addr×Obj)}{σ:St}{H:Hp}{s:Vv}{A:WN}{E:Value->Vv->Prop}{Q:Value->Vv->Prop}{c:Value}{b:Bool}
inductive mi (K:Vm) (H:Hp):V->Value->Prop where
 |bq:mi K H .bq (.type "NoneType")
 |bl (x:Bool):mi K H (.bl x) (.type "bool")
 |int (i:Int):mi K H (.int i) (.type "int")
 |str (x:Str):mi K H (.str x) (.type "str")
 |J4 (x:UInt64):mi K H (.J4 x) (.type "float")
 |lst {a:Addr} {xs:List V} (e:H a=some (.lst xs)):mi K H (.ref a) (.type "list")
 |dt {a:Addr} {o:Obj} {xs:List V} (e:H a=some (.dt o (.lst xs))):mi K H (.ref a) (.type "list")
 |tup {a:Addr} {xs:List V} (e:H a=some (.tup xs)):mi K H (.ref a) (.type "tuple")
 |dK {a:Addr} {kvs:List (Key×V)} (e:H a=some (.dK kvs)):mi K H (.ref a) (.type "dict")
 |dT {a:Addr} {kvs:List (List Key×V)} (e:H a=some (.dT kvs)):mi K H (.ref a) (.type "dict")
 |ins {a C dx:Addr} {fs:List (Str×V)} (e:H a=some (.ins C dx fs)) (cl:zM K C) (ha:VZ K (.ref C) "__class__"=some (some (.builtin "object.__class__")))
   (hn:PySem.W.specialIn K (.builtin "object.__class__") "__get__"=some (some (.builtin "getset_descriptor.__get__"))) (htk:PySem.W.takesIn K (.builtin "object.__class__")=some true)
   (hm:PySem.W.mroIn K C (.type "object")=some true):mi K H (.ref a) (.ref C)
theorem oy(I:Inv X pins σ H s)(rx:RelV x u)(ty:mi X.K H x t)(e:aam X.K t c=some b)(h:∀tk,Q (.bool b) {s with toks:=tk}):
  wpAny (model X.prog X.w) A (call (.builtin "isinstance") [u,c]) Q E s:=by
 cases ty with
 |bq=>cases (show u=Xi from rx);exact Wx PySem.W.kitx_none I.mZ WY e (λz=>nomatch z) h|bl y=>cases (show u=YA y from rx);exact Wx PySem.W.kitx_bool I.mZ WY e (λz=>nomatch z) h|int i=>obtain⟨t,q⟩:=(show ∃t,u=Y6 i t from rx);cases q;exact Wx PySem.W.kitx_int I.mZ WY e (λz=>nomatch z) h|str y=>obtain⟨t,q⟩:=(show ∃t,u=Y5 y t from rx);cases q;exact Wx PySem.W.kitx_str I.mZ WY e (λz=>nomatch z) h|J4 y=>obtain⟨t,q⟩:=(show ∃t,u=aaP y t from rx);cases q;exact Wx PySem.W.kitx_float I.mZ WY e (λz=>nomatch z) h|@lst a xs ea=>cases (show u=VJ a from rx);obtain⟨_,_,n,_,h1⟩:=(show bz X.prog X.w H s.heap a (.lst xs) from I.aH a _ ea);exact Wx PySem.W.kitx_list I.mZ ⟨_,h1,rfl⟩ e (λz=>nomatch z) h
 |@dt a ob xs ea=>cases (show u=VJ a from rx);obtain⟨_,_,_,n,_,h1⟩:=(show bz X.prog X.w H s.heap a (.dt ob (.lst xs)) from I.aH a _ ea);exact Wx PySem.W.kitx_list I.mZ ⟨_,h1,rfl⟩ e (λz=>nomatch z) h|@tup a xs ea=>cases (show u=VJ a from rx);obtain⟨_,_,_,p⟩:=(show bz X.prog X.w H s.heap a (.tup xs) from I.aH a _ ea);obtain⟨o,h1,h2,_⟩:=p;exact Wx PySem.W.kitx_tuple I.mZ ⟨o,h1,h2⟩ e (λz=>nomatch z) h|@dK a kvs ea=>cases (show u=VJ a from rx);obtain⟨_,_,vs,_,p⟩:=(show bz X.prog X.w H s.heap a (.dK kvs) from I.aH a _ ea);obtain⟨o,es,ep,h1,h2,_⟩:=p;exact Wx PySem.W.kitx_dict I.mZ ⟨o,h1,h2.1⟩ e (λz=>nomatch z) h|@dT a kvs ea=>cases (show u=VJ a from rx);obtain⟨_,_,xs,_,o,es,ep,h1,h2,_⟩:=(show bz X.prog X.w H s.heap a (.dT kvs) from I.aH a _ ea);exact Wx PySem.W.kitx_dict I.mZ ⟨o,h1,h2.1⟩ e (λz=>nomatch z) h|@ins a C dx fs ea cl ha hn htk hm=>cases (show u=VJ a from rx);obtain⟨mA,O,_⟩:=qQ I.aH ea;obtain⟨od,J,_⟩:=O.look;exact Wx (PySem.W.kitx_own (cl.get _) cl.hd ha hn htk hm) I.mZ J e (λz=>nomatch z) h
end
structure cO(k:Nat)(A:WN):Prop where
 hd:A.handled=none
 dp:A.depth+3*k+5 < recursionLimit
 un:A.units+16*k+200 < cLine
theorem cO.mono(r:cO k A)(h:j<=k):cO j A:=⟨r.hd,by have:=r.dp;omega,by have:=r.un;omega⟩
theorem cO.deeper(r:cO (k+1) A)env:cO k (A.deeper env):=
 ⟨r.hd,by have:=r.dp;show A.depth+1+3*k+5 < _;omega,by have:=r.un;show A.units+3+16*k+200 < _;omega⟩
theorem Ab{A:WN}:(A.under (.builtin "type.__call__" ⟨.ref C::us,kw⟩)).depth=A.depth+1:=by first|rfl|simp[aaK,Code.weight,Code.isCreation,Code.isGuard,Code.isCaller,Code.frames,aaJ,guardIds]
theorem Ac{A:WN}:(A.under (.builtin "type.__call__" ⟨.ref C::us,kw⟩)).units=A.units+1:=by first|rfl|simp[aaK,Code.cUnits,Code.frames,aaJ]
theorem cO.make(r:cO (k+1) A)C us kw:cO k (A.under (.builtin "type.__call__" ⟨.ref C::us,kw⟩)):=
 ⟨r.hd,by have:=r.dp;rw[Ab];omega,by have:=r.un;rw[Ac];omega⟩
theorem cO.depth(r:cO k A):A.depth < recursionLimit:=by have:=r.dp;omega
def Ko:TA:=λ_ H Q=>Q [] H
def NY(ta:TE)(tr:TA):TA:=λσ H Q=>ta σ H λx H1=>tr σ H1 λxs H2=>Q (x::xs) H2
section
variable{X:Cx}{e:Expr}{es:List Expr}{te:TE}{t:TA}{pos:Pos}
theorem Ad:PA X [] Ko:=λ_ _ _ _ H Q I h=>YV ⟨[],H,I,.nil,h⟩
theorem qR(ha:PE X e te)(hr:PA X es t)(hs:VM (e::es) X.env=(false,eval e X.env)::VM es X.env:=by rfl):PA X (e::es) (NY te t):=by intro pos pins s σ H Q I h;rw[hs];show wpAny _ _ (spliced ((false,eval e X.env)::Xn pos (VM es X.env))) _ _ s;refine Yb (bI (ha pins s σ H _ I h) λu s1 ⟨x,H1,I1,r1,q1⟩=>?_);exact bI (hr pos pins s1 σ H1 _ I1 q1) λus s2 ⟨xs,H2,I2,r2,q2⟩=>⟨x::xs,H2,I2,.cons r1 r2,q2⟩
def Sd(t:TA):TE:=λσ H Q=>t σ H λxs H1=>xs.length<=VD/\∀p,H1 p=none->Q (.ref p) (upd H1 p (.tup xs))
def Se(t:TA):TE:=λσ H Q=>t σ H λxs H1=>xs.length<=VD/\∀p,H1 p=none->Q (.ref p) (upd H1 p (.lst xs))
theorem Kp{x1}(h:PA X es t):PE X (.Tuple es x1 pos) (Sd t):=by intro pins s σ H Q I hq;refine wpAny_Tuple_spliced (bI (h pos pins s σ H _ I hq) λus s1 ⟨xs,H1,I1,r,z,q⟩=>⟨by rw[<-r.length];exact z,?_⟩);have hf:H1 s1.heap.objs.size=none:=I1.aH.fresh (Vj _);refine⟨.ref s1.heap.objs.size,upd H1 s1.heap.objs.size (.tup xs),I1.laid (t':=s1.toks) (λb u e=>Va _ e) (Vj _) ?_,rfl,q _ hf⟩;exact⟨z,us,r,⟨_,Vq _ rfl,rfl,_,rfl⟩⟩
theorem Kq(h:PA X es t):PE X (.List es pos) (Se t):=by intro pins s σ H Q I hq;refine wpAny_List_spliced (bI (h pos pins s σ H _ I hq) λus s1 ⟨xs,H1,I1,r,z,q⟩=>⟨by rw[<-r.length];exact z,?_⟩);have hf:H1 s1.heap.objs.size=none:=I1.aH.fresh (Vj _);refine⟨.ref s1.heap.objs.size,upd H1 s1.heap.objs.size (.lst xs),I1.laid (t':=s1.toks) (λb u e=>Va _ e) (Vj _) ?_,rfl,q _ hf⟩;exact⟨z,us,0,r,Vq _ rfl⟩
end
abbrev Sp:=List V->Hp->VK->XK->Prop
abbrev Gg:=List Env->Hp->Vv->XK->Value->Vv->Prop
structure vT(P:Wf)(w:World)(K:Vm)(mg:Str->Option Value)(base:Heap)(A:WN)(outer:List Env)(s:Vv)(H:Hp):Prop where
 frames:A.frames=some outer
 mod:Mod K mg base
 bs:∀b o,base.get? b=some o->s.heap.get? b=some o/\H b=none
 Dq:base.objs.size<=s.heap.objs.size
 ma:s.heap.FunFrames base outer
 Gz:∀b∈jC outer,H b=none
 aH:ki P w H s.heap
 bare:ZG s.gens
def CE(outer:List Env)(P:Wf)(w:World)(H:Hp)(s:Vv)(Q:VK)(u:Value)(s':Vv):Prop:=
 ∃v H',s'.os=s.os/\ZG s'.gens/\Un (jC outer) [] H H' s.heap s'.heap/\ki P w H' s'.heap/\RelV v u/\Q v H'
def CR(CX:Gg)(outer:List Env)(P:Wf)(w:World)(H:Hp)(s:Vv)(Q:VK)(E:XK)(r:Result)(s':Vv):Prop:=
 match r with|.ok (.ret u)=>CE outer P w H s Q u s'|.ok _=>False|.error e=>CX outer H s E e s'
structure gJ(P:Wf)(w:World)(K:Vm)(mg:Str->Option Value)(base:Heap)(CX:Gg)(k:Nat)(f:Addr)(fd:Xg)(ps:List Str)(sp:Sp):Prop where
 len:∀vs H Q E,sp vs H Q E->vs.length=ps.length
 run:∀(A:WN) (outer:List Env) (s:Vv) (H:Hp) (args:Args) (us:List Value) (vs:List V) (Q:VK) (E:XK),cO k A->vT P w K mg base A outer s H->aab s fd args (ps.zip us)->aP vs us->sp vs H Q E->
  Zc (model P w) A (.call (.ref f) args) (CR CX outer P w H s Q E) s
theorem vT.make{K:Vm}(e:vT P w K mg base A outer s H)C us kw:
  vT P w K mg base (A.under (.builtin "type.__call__" ⟨.ref C::us,kw⟩)) outer s H:=⟨by first|exact e.frames|(simpa[aaK,Code.envs,aaJ,pushEnvs] using e.frames),e.mod,e.bs,e.Dq,e.ma,e.Gz,e.aH,e.bare⟩
section
variable{X:Cx}{pins:List (Addr×Obj)}{σ:St}{H:Hp}{s s':Vv}
theorem Inv.NZ(I:Inv X pins σ H s):vT X.prog X.w X.K X.mg X.base X.A X.stack s H:=
 ⟨I.ok.frames,I.ok.mod,I.bs,V3 I.ok.Dq I.sz,I.stack,I.m5,I.aH,I.bare⟩
theorem Inv.after(I:Inv X pins σ H s)(h:CE X.stack X.prog X.w H s Q u s'):EP X pins σ Q u s':=by obtain⟨v,H',os,bare,un,aH,r,q⟩:=h;obtain⟨hh,g,d,t,os'⟩:=s';obtain rfl:os'=s.os:=os;exact⟨v,H',I.call (h':=hh) (g':=g) (d':=d) (t':=t) (ch:=[]) un aH bare (λb z=>absurd z (by simp)),r,q⟩
end
def DT(sp:Sp)(dvs:List V)(E:XK)(t:TA):TE:=λσ H Q=>t σ H λvs H1=>sp (vs++dvs) H1 Q E
def A9(C:Addr)(m:Str)(sp:Sp)(dvs:List V)(E:XK)(ta:TE)(t:TA):TE:=λσ H Q=>ta σ H λx H1=>∃a dx fs,x=.ref a/\H1 a=some (.ins C dx fs)/\fs.lookup m=none/\
 t σ H1 λvs H2=>sp (x::(vs++dvs)) H2 Q E
def N1(C:Addr)(sp:Sp)(dvs:List V)(E:XK)(t:TA):TE:=λσ H Q=>t σ H λvs H1=>∀x dx,H1 x=none->H1 dx=none->dx≠x->
 sp (.ref x::(vs++dvs)) (upd (upd H1 dx (.own x)) x (.ins C dx [])) (λv H2=>v=.bq/\Q (.ref x) H2) E
def Binds(K:Vm)(fd:Xg)(ps:List Str)(ds:List Value):Prop:=
 ∀(s:Vv) (us:List Value),K.In s.heap->(us++ds).length=ps.length->aab s fd ⟨us,[]⟩ (ps.zip (us++ds))
theorem Binds.all{K:Vm}(h:∀us:List Value,us.length=ps.length->aaW fd ⟨us,[]⟩=pure (ps.zip us)):Binds K fd ps []:=λs us _ hl=>by rw[Wb] at hl ⊢;exact .of_eq (h us hl)
def kl(CX:Gg)(X:Cx)(E:XK):Prop:=∀(pins:List (Addr×Obj)) (σ:St) (H:Hp) (s:Vv) (e:Value) (s':Vv),Inv X pins σ H s->CX X.stack H s E e s'->X.xe e s'
section
variable{X:Cx}{CX:Gg}{k:Nat}{f C:Addr}{fd:Xg}{ps:List Str}{sp:Sp}{dvs:List V}{ds:List Value}{E:XK}{x m:Str}{p pos apos:Pos}{e o:Expr}{es:List Expr}{ta:TE}{t:TA}
theorem rL(F:gJ X.prog X.w X.K X.mg X.base CX k f fd ps sp)(hr:cO k X.A)(hb:Binds X.K fd ps ds)(hd:aP dvs ds)(hx:kl CX X E)(I:Inv X pins σ H s)(r:aP vs us)(h:sp (vs++dvs) H Q E):wpAny (model X.prog X.w) X.A (call (.ref f) us) (EP X pins σ Q) X.xe s:=by
 have r2:aP (vs++dvs) (us++ds):=r.append hd;have hl:(us++ds).length=ps.length:=by rw[<-r2.length];exact F.len _ _ _ _ h
 refine aaT (Zo (F.run X.A X.stack s H ⟨us,[]⟩ (us++ds) (vs++dvs) Q E hr I.NZ (hb s us I.mZ hl) r2 h) λr s' hq=>?_);cases r with|error e=>exact hx pins σ H s e s' I hq|ok fl=>cases fl with|ret u=>exact I.after hq|next=>exact Ww hq|brk=>exact Ww hq|cont=>exact Ww hq
theorem GN(F:gJ X.prog X.w X.K X.mg X.base CX k f fd ps sp)(hr:cO k X.A)(hg:Gl X x)(hm:X.mg x=some (.ref f))(hk:XC X.K (.ref f)=true)(hb:Binds X.K fd ps ds)(hd:aP dvs ds)(hx:kl CX X E)
  (ha:PA X (e::es) t) (GO:(x==("__debug__":Str))=false:=by decide) (he:VM (e::es) X.env=(false,eval e X.env)::VM es X.env:=by rfl) (xh:(Xn pos (VM es X.env)).any (·.1)=false:=by rfl):
  PE X (.Call (.Name x p) (e::es) [] pos) (DT sp dvs E t):=by
 intro pins s σ H Q I h;refine WD (m8 I hg hm ?_ GO);refine YB (h₀:=X.base) I.ok.mod.J7 hk (bI (ha pos pins s σ H _ I h) λus s1 ⟨vs,H1,I1,r,q⟩=>⟨I1.mZ,?_⟩) he xh;exact rL F hr hb hd hx I1 r q
theorem DU(F:gJ X.prog X.w X.K X.mg X.base CX k f fd ps sp)(hr:cO k X.A)(hg:Gl X x)(hm:X.mg x=some (.ref f))(hk:XC X.K (.ref f)=true)(hb:Binds X.K fd ps ds)(hd:aP dvs ds)(hx:kl CX X E)
  (GO:(x==("__debug__":Str))=false:=by decide):PE X (.Call (.Name x p) [] [] pos) (DT sp dvs E Ko):=by
 intro pins s σ H Q I h;refine WD (m8 I hg hm ?_ GO);exact PySem.W.callWith_K0 I.mZ hk (rL (us:=[]) F hr hb hd hx I .nil h)
theorem GP(he:PE X o ta)(c:zM X.K C)(hm:z8 X.K C m f)(F:gJ X.prog X.w X.K X.mg X.base CX k f fd ps sp)(hr:cO k X.A)(hb:Binds X.K fd ps ds)(hd:aP dvs ds)(hx:kl CX X E)(ha:PA X (e::es) t)(pJ:VM (e::es) X.env=(false,eval e X.env)::VM es X.env:=by rfl)(xh:(Xn pos (VM es X.env)).any (·.1)=false:=by rfl)(ht:eval (.Call (.Attribute o m apos) (e::es) [] pos) X.env=(do
   let ov<-eval o X.env
   aap apos.atName
   let (f,first)<-aaq [ov] (ZS ov m pl)
   aaD pos f first (Xn pos (VM (e::es) X.env)) (Zf pos (X6 [] X.env))):=by rfl):
  PE X (.Call (.Attribute o m apos) (e::es) [] pos) (A9 C m sp dvs E ta t):=by
 intro pins s σ H Q I h;refine YX (pl:=pl) (bI (he pins s σ H _ I h) λu s1 ⟨x,H1,I1,rx,a,dx,fs,ex,ea,l,q⟩=>?_) ht;subst ex;obtain rfl:u=VJ a:=rx;refine mh I1 ea c hm l ?_;refine YB (first:=[.ref a]) (h₀:=X.base) I.ok.mod.J7 hm.kp (bI (ha pos pins s1 σ H1 _ I1 q) λus s2 ⟨vs,H2,I2,r,q2⟩=>⟨I2.mZ,?_⟩) pJ xh;exact rL (us:=.ref a::us) (vs:=.ref a::vs) F hr hb hd hx I2 (.cons rfl r) q2
theorem DV(he:PE X o ta)(c:zM X.K C)(hm:z8 X.K C m f)(F:gJ X.prog X.w X.K X.mg X.base CX k f fd ps sp)(hr:cO k X.A)(hb:Binds X.K fd ps ds)(hd:aP dvs ds)(hx:kl CX X E)(ht:eval (.Call (.Attribute o m apos) [] [] pos) X.env=(do
   let ov<-eval o X.env
   aap apos.atName
   let (f,first)<-aaq [ov] (ZS ov m pl)
   aaD pos f first (Xn pos (VM [] X.env)) (Zf pos (X6 [] X.env))):=by rfl):
  PE X (.Call (.Attribute o m apos) [] [] pos) (A9 C m sp dvs E ta Ko):=by
 intro pins s σ H Q I h;refine YX (pl:=pl) (bI (he pins s σ H _ I h) λu s1 ⟨x,H1,I1,rx,a,dx,fs,ex,ea,l,q⟩=>?_) ht;subst ex;obtain rfl:u=VJ a:=rx;refine mh I1 ea c hm l ?_;exact PySem.W.callWith_K0 (first:=[.ref a]) I1.mZ hm.kp (rL (us:=[.ref a]) (vs:=[.ref a]) F hr hb hd hx I1 (.cons rfl .nil) q)
structure Mk(K:Vm)(C f:Addr):Prop where
 makes:aaf K C=true
 init:VZ K (.ref C) "__init__"=some (some (.ref f))
 fn:X8 K (.ref f)=true
 kp:XC K (.ref C)=true
theorem DW(M:Mk X.K C f)(F:gJ X.prog X.w X.K X.mg X.base CX k f fd ps sp)(hr:cO (k+1) X.A)(hb:Binds X.K fd ps ds)(hd:aP dvs ds)(hx:kl CX X E)(I:Inv X pins σ H s)(r:aP vs us)(h:∀x dx,H x=none->H dx=none->dx≠x->sp (.ref x::(vs++dvs)) (upd (upd H dx (.own x)) x (.ins C dx [])) (λv H2=>v=.bq/\Q (.ref x) H2) E):
  wpAny (model X.prog X.w) X.A (call (.ref C) us) (EP X pins σ Q) X.xe s:=by
 have hq:=h (s.heap.objs.size+1) s.heap.objs.size (I.aH.fresh (Xb _)) (I.aH.fresh (Vj _)) (VP (WZ _));have I2:=Inv.made (C:=C) I;have r2:aP (V.ref (s.heap.objs.size+1)::(vs++dvs)) (VJ (s.heap.objs.size+1)::(us++ds)):=.cons rfl (r.append hd);have hl:(VJ (s.heap.objs.size+1)::us++ds).length=ps.length:=by have e:=r2.length;rw[F.len _ _ _ _ hq] at e;exact e.symm
 refine aaT (DS (f:=f) I.mZ M.makes M.init (beq_iff_eq.mp M.fn) (Zo (F.run _ X.stack _ _ ⟨VJ (s.heap.objs.size+1)::us,[]⟩ (VJ (s.heap.objs.size+1)::(us++ds)) _ _ E (hr.make C us [])
  (I2.NZ.make C us []) (hb _ (VJ (s.heap.objs.size+1)::us) I2.mZ hl) r2 hq) λr s' vU=>?_))
 cases r with|error e=>exact hx pins σ _ _ e s' I2 vU|ok fl=>cases fl with|ret u=>obtain⟨v,H',I3,rv,ev,q3⟩:=I2.after vU;subst ev;exact⟨rv,⟨V.ref (s.heap.objs.size+1),H',I3,rfl,q3⟩⟩|next=>exact Ww vU|brk=>exact Ww vU|cont=>exact Ww vU
theorem GQ(M:Mk X.K C f)(F:gJ X.prog X.w X.K X.mg X.base CX k f fd ps sp)(hr:cO (k+1) X.A)(hg:Gl X x)(hm:X.mg x=some (.ref C))(hb:Binds X.K fd ps ds)(hd:aP dvs ds)(hx:kl CX X E)
  (ha:PA X (e::es) t) (GO:(x==("__debug__":Str))=false:=by decide) (he:VM (e::es) X.env=(false,eval e X.env)::VM es X.env:=by rfl) (xh:(Xn pos (VM es X.env)).any (·.1)=false:=by rfl):
  PE X (.Call (.Name x p) (e::es) [] pos) (N1 C sp dvs E t):=by
 intro pins s σ H Q I h;refine WD (m8 I hg hm ?_ GO);refine YB (h₀:=X.base) I.ok.mod.J7 M.kp (bI (ha pos pins s σ H _ I h) λus s1 ⟨vs,H1,I1,r,q⟩=>⟨I1.mZ,?_⟩) he xh;exact DW M F hr hb hd hx I1 r q
end
section
variable{X:Cx}{CX:Gg}{k:Nat}{f C:Addr}{fd:Xg}{ps ks:List Str}{sp:Sp}{E:XK}{x m:Str}{p pos apos kpos:Pos}{e o:Expr}{es:List Expr}{iI:List Z9}{te ta:TE}{t tk:TA}{nm:Option Str}
variable{g:List Value->List Value->List Value}{gV:List V->List V->List V}
end
structure be(N P:List Str)(sc:Scope):Prop where
 kind:sc.kind=.function
 co:sc.isCoroutine=false
 gen:sc.isGenerator=false
 nd:N.Nodup
 pre:N.take P.length=P
 par:∀x∈P,sc.names.lookup x=some .local\/sc.names.lookup x=some .cell
 Kr:∀y∈sc.names,y.2≠.free
theorem uU{Y4:Str->Option XO}:∀{binds} {m},(∀v,(x,v)∉binds)->bindL Y4 binds m x=m x
 |[],_,_=>rfl|(n,v)::r,m,h=>by
  unfold bindL;rw[uU λw hw=>h w (Vb _ hw)];split
  ·have:x≠n:=by rintro rfl;exact h v Vh
   simp[this]
  ·rfl
theorem uV{Y4:Str->Option XO}:∀{binds} {m},(∀v,(x,v)∉binds)->bindC Y4 binds m x=m x
 |[],_,_=>rfl|(n,v)::r,m,h=>by
  unfold bindC;rw[uV λw hw=>h w (Vb _ hw)];split;·rfl
  ·have:x≠n:=by rintro rfl;exact h v Vh
   simp[this]
theorem uW{Y4:Str->Option XO}:∀{P:List Str} {vs} {i:Nat} {m},P.Nodup->P[i]?=some x->vs[i]?=some v->Y4 x=some .local->
  bindL Y4 (P.zip vs) m x=some v
 |[],_,_,_,_,h,_,_=>by simp at h|_::_,[],_,_,_,_,h,_=>by simp at h|p::P,w::vs,0,m,nd,h1,h2,hk=>by simp at h1 h2;subst h1;subst h2;show bindL Y4 ((p,w)::P.zip vs) m p=_;unfold bindL;rw[uU λv hv=>(WI.mp nd).1 (Yc hv).1,if_pos hk];simp
 |p::P,w::vs,i+1,m,nd,h1,h2,hk=>by show bindL Y4 ((p,w)::P.zip vs) m x=_;unfold bindL;exact uW (i:=i) (WI.mp nd).2 (by simpa using h1) (by simpa using h2) hk
theorem uX{Y4:Str->Option XO}:∀{P:List Str} {vs} {i:Nat} {m},P.Nodup->P[i]?=some x->vs[i]?=some v->Y4 x≠some .local->
  bindC Y4 (P.zip vs) m x=some v
 |[],_,_,_,_,h,_,_=>by simp at h|_::_,[],_,_,_,_,h,_=>by simp at h|p::P,w::vs,0,m,nd,h1,h2,hk=>by simp at h1 h2;subst h1;subst h2;show bindC Y4 ((p,w)::P.zip vs) m p=_;unfold bindC;rw[uV λv hv=>(WI.mp nd).1 (Yc hv).1,if_neg hk];simp
 |p::P,w::vs,i+1,m,nd,h1,h2,hk=>by show bindC Y4 ((p,w)::P.zip vs) m x=_;unfold bindC;exact uX (i:=i) (WI.mp nd).2 (by simpa using h1) (by simpa using h2) hk
def start(N:List Str)(vs:List V):St:=vs.map some++V4 (N.length - vs.length) none
def vV(CX:Gg)(P:Wf)(w:World)(K:Vm)(mg:Str->Option Value)(base:Heap)(N:List Str)(qual:Str)(scope:Scope)(f:Addr)(cd:Value)(A:WN)(outer:List Env)(s:Vv)(H:Hp)(E:XK):Cx where
 prog:=P
 w:=w
 K:=K
 mg:=mg
 base:=base
 A:=A.deeper (Z6 qual scope s.heap.objs.size f cd)
 N:=N
 g7:=s
 xx:=H
 env:=Z6 qual scope s.heap.objs.size f cd
 outer:=outer
 stack:=Z6 qual scope s.heap.objs.size f cd::outer
 ex:=[]
 calm:=true
 fn:=λ_=>true
 pn:=[]
 xe:=λe s'=>wpAny (model P w) (A.deeper (Z6 qual scope s.heap.objs.size f cd)) (leaving (Z6 qual scope s.heap.objs.size f cd) e) (λ_ Ks=>CX outer H s E e Ks) (λe' Ks=>CX outer H s E e' Ks) s'
theorem rM{sc:Scope}(h:sc.names.lookup x=some .cell):∃c,(cellsFrom n sc.names []).lookup x=some c:=by have q:=PySem.W.cellsFrom_some sc.names n [] (.inl h);exact Option.isSome_iff_exists.mp q
theorem Cj{K:Vm}(S:be N ps scope)(hd:A.handled=none)(e0:vT P w K mg base A outer s H)(hl:vs.length=ps.length)(r:aP vs us)(x:InCallC s s.heap.objs.size (bindL (Z6 qual scope s.heap.objs.size f cd).kindOf (ps.zip us) λ_=>none) (cellsFrom (s.heap.objs.size+1) scope.names []) (bindC (Z6 qual scope s.heap.objs.size f cd).kindOf (ps.zip us) λ_=>none) s1):
  Inv (vV CX P w K mg base N qual scope f cd A outer s H E) [] (start N vs) H s1:=by
 have xh:ps.length<=N.length:=by have:=congrArg ZC S.pre;rw[Wp] at this;omega
 obtain⟨h1,tk,rfl,hk⟩:=x.done;have Gh:∀b:Addr,b∉(vV CX P w K mg base N qual scope f cd A outer s H E).ex:=λb z=>absurd (show b∈([]:List Addr) from z) (by simp);refine⟨⟨e0.mod,S.kind,rfl,rfl,Vj _,λy z c h1 h2=>?_,λy hy=>?_,λy c _ h=>?_,λ_=>hd,WN.frames_deeper e0.frames,.inr ⟨rfl,rfl⟩,λb z=>absurd z (Gh b),e0.bs,e0.Dq,λb _ _=>Gh b,λb z=>absurd z (Gh b),e0.ma,e0.Gz⟩,
  rfl,e0.bare,Un.kept hk,⟨_,x.toInCall.ns,λi y v h1 h2 h3=>?_⟩,λy c h=>⟨_,x.cell y c h⟩,e0.aH.fresh (Vj _),λy c h=>?_,λp hp=>absurd (show p∈([]:List (Addr×Obj)) from hp) (by simp),e0.aH.kept hk,?_⟩
 ·exact name_of_addr x.apart (V2 h1) (V2 h2)
 ·have hy:scope.names.lookup y=some .cell\/scope.names.lookup y=some .free:=hy;rcases hy with hy|hy;·exact rM hy
  ·exact absurd rfl (S.Kr _ (V2 hy))
 ·exact Yr (x.above y c (V2 h))
 ·have hi:i < vs.length:=by
   unfold start at h2;by_cases hi:i < vs.length;·exact hi
   ·rw[Vz (by simpa using hi)] at h2;rw[X4] at h2;split at h2<;>cases h2
  have ha:vs[i]?=some v:=by unfold start at h2;rw[Vf (by simpa using hi),Vi] at h2;cases e:vs[i]? with|none=>rw[e] at h2;cases h2|some a=>rw[e] at h2;cases h2;rfl
  obtain⟨u,hu,rv⟩:=r.get ha;have hp:ps[i]?=some y:=by rw[<-S.pre,List.getElem?_take_of_lt (by omega)];exact h1
  have QU:ps.Nodup:=by rw[<-S.pre];exact S.nd.sublist (List.take_sublist _ _)
  refine⟨u,rv,?_⟩;rcases S.par y (VC hp) with k|k;·exact .inl ⟨k,uW QU hp hu k⟩
  ·obtain⟨c,e⟩:=rM (n:=s.heap.objs.size+1) k;refine .inr ⟨.inl k,c,e,?_⟩;have q:=x.cell y c e;rw[uX QU hp hu (by show scope.names.lookup y≠_;rw[k];decide)] at q;exact q
 ·exact e0.aH.fresh (Yr (x.above y c (V2 h)))
 ·unfold start;show _=N.length;rw[Vy,Vg,YZ];omega
theorem N2{K:Vm}{dV kV doc pm kg ct oc:Value}(lk:K.lookup f=some ⟨oc,od,.func (YM name qual params body scope dV kV doc pm an kg ct),GR⟩)(pI:aan K kg qual=true)(S:be N ps scope)(len:∀vs H Q E,sp vs H Q E->vs.length=ps.length)(rN:∀(A:WN) (outer:List Env) (s:Vv) (H:Hp) (vs:List V) (Q:VK) (E:XK),cO k (A.deeper (Z6 qual scope s.heap.objs.size f kg))->sp vs H Q E->
   ∃t,me (vV CX P w K mg base N qual scope f kg A outer s H E) body t/\t {nx:=λ_ H'=>Q .bq H',rt:=Q} (start N vs) H):
  gJ P w K mg base CX (k+1) f (YM name qual params body scope dV kV doc pm an kg ct) ps sp:=by
 refine⟨len,λA outer s H args us vs Q E hr e0 hb r vW=>?_⟩;have hl:=len _ _ _ _ vW;have KX:K.In s.heap:=e0.mod.J7.keeps λb o e=>(e0.bs b o e).1;have lim:s.heap.NoLimit:=e0.mod.nolimit.keeps λb o e=>(e0.bs b o e).1;have DX:∀y∈ps.zip us,scope.names.lookup y.1=some .local\/(scope.names.lookup y.1=some .cell/\((cellsFrom (s.heap.objs.size+1) scope.names []).lookup y.1).isSome=true):=λ⟨n,v⟩ hy=>by
  rcases S.par n (Yc hy).1 with q|q;·exact .inl q
  ·exact .inr ⟨q,PySem.W.cellsFrom_some _ _ _ (.inl q)⟩
 refine codeAny_call_function hr.depth (KX _ _ lk) rfl S.co S.gen rfl (PySem.W.codeRec_of KX pI) (hb _ _ _ _ ?_);refine wpAny_newFunctionEnv_cells S.kind DX λenv he s1 x=>?_;subst he;refine⟨lim.keeps x.toInCall.keep,codeAny_func ?_⟩;obtain⟨t,ht,hq⟩:=rN A outer s H vs Q E (hr.deeper _) vW;have I:Inv (vV CX P w K mg base N qual scope f kg A outer s H E) [] (start N vs) H s1:=Cj S hr.hd e0 hl r x;refine WX (ht [] s1 (start N vs) H _ I hq) (λfl s' hs=>?_) λe s' hs=>hs;have fin:∀{cH:St} {H':Hp} {v:V} {u:Value},Inv (vV CX P w K mg base N qual scope f kg A outer s H E) [] cH H' s'->RelV v u->Q v H'->CE outer P w H s Q u s':=
  λ{cH H' v u} J rv q=>⟨v,H',J.os,J.bare,J.base,J.aH,rv,q⟩
 cases fl with|ret u=>obtain⟨v,cH,H',J,rv,q⟩:=hs;exact fin J rv q|next=>obtain⟨cH,H',J,q⟩:=hs;exact fin (v:=V.bq) (u:=Xi) J rfl q|brk=>obtain⟨_,_,_,q⟩:=hs;exact Ww q|cont=>obtain⟨_,_,_,q⟩:=hs;exact Ww q
section
variable{X:Cx}{x:Str}{p pos:Pos}{e:Expr}{es:List Expr}{t:TA}{id T:String}{r:List V->Hp->VK->Prop}
def Sf(r:List V->Hp->VK->Prop)(t:TA):TE:=λσ H Q=>t σ H λvs H1=>r vs H1 Q
theorem rO(hc:ie X (.builtin id) r)(hg:Gl X x)(hm:X.mg x=none)(hv:Yp x=some (.builtin id))(ha:PA X (e::es) t)(hn:x≠"__name__":=by decide)(GO:(x==("__debug__":Str))=false:=by decide)
  (he:VM (e::es) X.env=(false,eval e X.env)::VM es X.env:=by rfl) (xh:(Xn pos (VM es X.env)).any (·.1)=false:=by rfl):PE X (.Call (.Name x p) (e::es) [] pos) (Sf r t):=by
 intro pins s σ H Q I h;refine WD (jD I hg hm hv ?_ hn GO);exact PyProof.Rows.callWith_builtin1 (bI (ha pos pins s σ H _ I h) λus s1 ⟨vs,H1,I1,r1,q1⟩=>hc pins s1 σ H1 vs us Q I1 r1 q1) he xh
theorem lj(hc:ie X (.type T) r)(hg:Gl X x)(hm:X.mg x=none)(hv:Yp x=some (.type T))(ha:PA X (e::es) t)(hn:x≠"__name__":=by decide)(GO:(x==("__debug__":Str))=false:=by decide)
  (he:VM (e::es) X.env=(false,eval e X.env)::VM es X.env:=by rfl) (xh:(Xn pos (VM es X.env)).any (·.1)=false:=by rfl):PE X (.Call (.Name x p) (e::es) [] pos) (Sf r t):=by
 intro pins s σ H Q I h;refine WD (jD I hg hm hv ?_ hn GO);exact Wl (bI (ha pos pins s σ H _ I h) λus s1 ⟨vs,H1,I1,r1,q1⟩=>hc pins s1 σ H1 vs us Q I1 r1 q1) he xh
end
end L2
namespace HT
open PySem PyProof.Rows
section
open PySem.SeqAt
open PySem.AutoSeq1 (wpAny_loadPart')
open PySem.MeetsSeq PySem.MeetsSeq2 PySem.MeetsSeq3
end
section
variable{prog:Wf}{w:World}{A:WN}{E:Value->Vv->Prop}{s:Vv}
theorem GU(ht:IsTup s.heap t vs.toArray)(hb:IsTup s.heap b ws.toArray)(hv:vs≠[])(h1:ws=[]->Q (.ref t) s)(h2:ws≠[]->Q (.ref s.heap.objs.size) {s with heap:=s.heap.push {cls:=.type "tuple",data:=.seq (vs++ws).toArray}})(hsz:vs.length+ws.length<=VD):wpAny (model prog w) A (XN .Add (.ref t) (.ref b)) Q E s:=by
 obtain⟨⟨cls,dd,data,sl⟩,ho,hc,n,hd⟩:=id ht;obtain⟨⟨Sg,QV,data2,QW⟩,Gi,Kt,n2,hd2⟩:=id hb;simp only at hc hd Kt hd2;subst hc hd Kt hd2;have e:vs.toArray++ws.toArray=(vs++ws).toArray:=by simp
 by_cases hw:ws=[]
 ·exact aaC ⟨_,ho,rfl⟩ ⟨_,Gi,rfl⟩ ZR aav YO YH (Yw _ _)
   (tuple_addW1 t b vs.toArray ws.toArray n n2 dd QV sl QW (by simpa using hv) (by simp[hw])) ⟨ho,Gi,h1 hw⟩
 ·refine aaC ⟨_,ho,rfl⟩ ⟨_,Gi,rfl⟩ ZR aav YO YH (Yw _ _)
   (tuple_addW2 t b vs.toArray ws.toArray n n2 dd QV sl QW (by simpa using hv) (by simpa using hw) (by rw[Vp,Vp];exact hsz)) ⟨ho,Gi,?_⟩
  rw[e];exact h2 hw
def cI(n d:Nat):Option Int->Nat
 |none=>d|some v=>if v < 0 then(v+(n:Int)).toNat else min v.toNat n
theorem Ku n d(hd:d<=n)o:cI n d o<=n:=by
 cases o with
 |none=>exact hd|some v=>
  show(if v < 0 then(v+(n:Int)).toNat else min v.toNat n)<=n;by_cases hv:v < 0;·rw[if_pos hv];omega
  ·rw[if_neg hv];exact Y8 _ _
theorem Ba v(n d:Nat):(if v < 0 then max (v+(n:Int)) 0 else min v (n:Int))=((cI n d (some v):Nat):Int):=by
 show(if v < 0 then max (v+(n:Int)) 0 else min v (n:Int))=(((if v < 0 then(v+(n:Int)).toNat else min v.toNat n):Nat):Int);by_cases hv:v < 0;·simp only[if_pos hv];omega
 ·simp only[if_neg hv];omega
theorem Ae lo hi(n:Nat):Yt lo hi 1 (n:Int)=(((cI n 0 lo:Nat):Int),((cI n n hi:Nat):Int)):=by
 have h1:¬((1:Int) < 0):=by omega
 unfold Yt;simp only[h1,if_false];refine aaZ ?_ ?_;·cases lo with|none=>rfl|some v=>exact Ba v n 0
 ·cases hi with|none=>rfl|some v=>exact Ba v n n
theorem Af(i j:Nat):XG (i:Int) (j) 1=j - i:=by
 unfold XG;have h1:(1:Int) > 0:=by omega
 simp only[h1,if_true,Int.ediv_one];split<;>omega
theorem rP(p:aaa v o)(h:Q o s):wpAny (model prog w) A (Zd.Slice.slicePartIndex v) Q E s:=by cases p with|none=>exact slicePart_none h|int i t=>exact slicePart_int h
theorem jh{vl vu:Value}{lo hi:Option Int}{n:Nat}{Q:Int×Int×Nat->Vv->Prop}(hs:s.heap.IsSliceOf sl vl vu .none)(pl:aaa vl lo)(pu:aaa vu hi)(h:Q (((cI n 0 lo:Nat):Int),1,cI n n hi - cI n 0 lo) s):wpAny (model prog w) A (Zd.Slice.sliceApplied (.ref sl) (pure (n:Int))) Q E s:=by obtain⟨os,Kv,QX,N3⟩:=id hs;unfold Zd.Slice.sliceApplied Zd.Slice.sliceFields;refine U7 (U7 (Wz Kv N3 (x:=vl) rfl (U7 (Wz Kv N3 (x:=vu) rfl (U7 (Wz Kv N3 (x:=.none) rfl (Vn ?_)))))));refine U7 (slicePart_none ?_);show wpAny _ _ (if((1:Int)==0)=true then _ else _) _ _ s;rw[if_neg (by decide)];refine U7 (rP pl (U7 (rP pu (U7 (Vn ?_)))));show wpAny _ _ (match Yt lo hi 1 (n:Int) with|(lo,hi)=>pure (lo,(1:Int),XG lo hi 1)) _ _ s;rw[Ae lo hi n];show wpAny _ _ (pure (((cI n 0 lo:Nat):Int),(1:Int),XG ((cI n 0 lo:Nat):Int) ((cI n n hi:Nat):Int) 1)) _ _ s;rw[Af];exact Vn h
theorem DY(xs:Array Value)(i k:Nat):((U8 k).filterMap λ(m:Nat)=>xs[((i:Int)+(m:Int)*1).toNat]?).toArray=((xs.toList.drop i).take k).toArray:=by
 have e:(λ(m:Nat)=>xs[((i:Int)+(m:Int)*1).toNat]?)=λm=>xs[i+m]?:=by
  funext m;have:((i:Int)+(m:Int)*1).toNat=i+m:=by omega
  rw[this]
 rw[e];have:=pick_run xs i k;rw[List.filterMap_map] at this;have e2:((λx=>xs[x]?)∘λx=>i+x)=λm=>xs[i+m]?:=rfl;rw[e2] at this;rw[this]
theorem m9{lo hi:Option Int}(ht:IsTup s.heap t items)(hs:s.heap.IsSliceOf sl vl vu .none)(pl:aaa vl lo)(pu:aaa vu hi)(hw:¬(cI items.size 0 lo=0/\cI items.size items.size hi=items.size))(h:Q (.ref s.heap.objs.size) {s with heap:=s.heap.push {cls:=.type "tuple",data:=.seq ((items.toList.drop (cI items.size 0 lo)).take (cI items.size items.size hi - cI items.size 0 lo)).toArray}})(hsz:items.size<=VD):wpAny (model prog w) A (Zb (.ref t) (.ref sl)) Q E s:=by
 have Bb:sizeOk (.seq ((items.toList.drop (cI items.size 0 lo)).take (cI items.size items.size hi - cI items.size 0 lo)).toArray):=by show((items.toList.drop (cI items.size 0 lo)).take (cI items.size items.size hi - cI items.size 0 lo)).toArray.size<=VD;rw[Vp,Wp,ZW,Xt];omega
 have hj:cI items.size items.size hi<=items.size:=Ku _ _ (Vj _) hi;obtain⟨os,Kv,QX,N3⟩:=id hs;have Sh:s.TypeIs (.ref sl) "slice":=⟨os,Kv,QX⟩;unfold Zb;try with_reducible refine XT ?_
 first|refine U7 (Vn ?_)|skip
 refine U7 (wpAny_sequenceKey ht.typeIs (by decide) ?_);refine U7 (Wh (name:=We "__getitem__") ht.typeIs Xd
  (WL Xd ht.typeIs entry_tuple_getitem ?_ (args_tuple_getitem _ _)))
 show wpAny _ _ (Zd.Tuple.tupleItemsOf (.ref t) >>=_) _ _ s;refine U7 (tupleItemsOf_ ht ?_);refine U7 (Z4 Sh ?_);rw[if_pos (by decide)];refine U7 (jh hs pl pu ?_);have hno:¬((((cI items.size 0 lo:Nat):Int)==0&&(1:Int)==1&&(cI items.size items.size hi - cI items.size 0 lo)==items.size)=true):=by intro q;rw[U9,U9] at q;have q1:((cI items.size 0 lo:Nat):Int)=0:=eq_of_beq q.1.1;have q2:cI items.size items.size hi - cI items.size 0 lo=items.size:=eq_of_beq q.2;exact hw ⟨by omega,by omega⟩
 show wpAny _ _ (if(((cI items.size 0 lo:Nat):Int)==0&&(1:Int)==1&&(cI items.size items.size hi - cI items.size 0 lo)==items.size)=true then _ else _) _ _ s;rw[if_neg hno,DY];first
  |exact U7 (m:=Wk _) (WB (Vn ⟨_,rfl,Vn h⟩) Bb)
  |exact U7 (m:=Wk _) (WB (U7 (Vn (Vn ⟨_,rfl,Vn h⟩))) Bb)
  |exact U7 (U7 (m:=Wk _) (WB (Vn (Vn ⟨_,rfl,Vn h⟩)) Bb))
  |exact U7 (U7 (m:=Wk _) (WB (Vn ⟨_,rfl,Vn h⟩) Bb))
end
end HT
namespace L2
open PySem PySem.Spec PyProof.Rows
abbrev TO:=St->Hp->(Option Int->Hp->Prop)->Prop
def PO(X:Cx)(e:Option Expr)(t:TO):Prop:=
 ∀(pins:List (Addr×Obj)) (s:Vv) (σ:St) (H:Hp) (Q:Option Int->Hp->Prop),Inv X pins σ H s->t σ H Q->
  wpAny (model X.prog X.w) X.A (evalPart e X.env) (λu s'=>∃o H',Inv X pins σ H' s'/\aaa u o/\Q o H') X.xe s
def GV:TO:=λ_ H Q=>Q none H
def N4(t:TE):TO:=λσ H Q=>t σ H λx H1=>∃i,x=.int i/\Q (some i) H1
section
variable{X:Cx}{e:Expr}{te:TE}{lo hi:Option Expr}{tl th:TO}{pos p2:Pos}
theorem GW:PO X none GV:=by intro pins s σ H Q I h;rw[evalPart_none];exact Vn ⟨none,H,I,.none,h⟩
theorem GX(h:PE X e te):PO X (some e) (N4 te):=by intro pins s σ H Q I hw;rw[evalPart_some];refine bI (h pins s σ H _ I hw) λu s1 ⟨x,H1,I1,r1,q1⟩=>?_;obtain⟨i,rfl,q⟩:=q1;obtain⟨t,rfl⟩:=r1;exact⟨some i,H1,I1,.int i t,q⟩
def Jn(X:Cx)(r:V->Option Int->Option Int->Hp->VK->Prop):Prop:=
 ∀(pins:List (Addr×Obj)) (s:Vv) (σ:St) (H:Hp) (x:V) (v vl vu:Value) (lo hi:Option Int) (sl:Addr) (Q:VK),Inv X pins σ H s->RelV x v->s.heap.IsSliceOf sl vl vu .none->aaa vl lo->aaa vu hi->r x lo hi H Q->
  ∃T id,aaV (.type T) "__getitem__"=pure (some (.builtin id))/\s.TypeIs v T/\wpAny (model X.prog X.w) X.A (Zb v (.ref sl)) (EP X pins σ Q) X.xe s
theorem Jn.or(h:Jn X r)(h':Jn X r'):Jn X (λx lo hi H Q=>r x lo hi H Q\/r' x lo hi H Q):=by
 intro pins s σ H x v vl vu lo hi sl Q I rx hs pl pu q;rcases q with q|q;·exact h pins s σ H x v vl vu lo hi sl Q I rx hs pl pu q
 ·exact h' pins s σ H x v vl vu lo hi sl Q I rx hs pl pu q
def tSl(r:V->Option Int->Option Int->Hp->VK->Prop)(te:TE)(tl th:TO):TE:=λσ H Q=>te σ H λx H1=>tl σ H1 λl H2=>th σ H2 λu H3=>r x l u H3 Q
theorem DZ(hr:Jn X r)(he:PE X e te)(hl:PO X lo tl)(hu:PO X hi th):PE X (.Subscript e (.Slice lo hi none p2) pos) (tSl r te tl th):=by intro pins s σ H Q I h;refine Subscript_ (bI (he pins s σ H _ I h) λv s1 ⟨x,H1,I1,r1,q1⟩=>?_);refine wpAny_Slice (bI (hl pins s1 σ H1 _ I1 q1) λvl s2 ⟨l,H2,I2,pl,q2⟩=>bI (hu pins s2 σ H2 _ I2 q2) λvu s3 ⟨u,H3,I3,pu,q3⟩=>?_);rw[evalPart_none];refine Vn ?_;have I4:Inv X pins σ H3 {s3 with heap:=s3.heap.push {cls:=.type "slice",data:=.fields #[vl,vu,.none]}}:=I3.kept (t':=s3.toks) λb ob q=>Va _ q;obtain⟨T,id,hT,ht,hg⟩:=hr pins {s3 with heap:=s3.heap.push {cls:=.type "slice",data:=.fields #[vl,vu,.none]}} σ H3 x v vl vu l u s3.heap.objs.size Q I4 r1 (Heap.IsSliceOf.new ..) pl pu q3;show wpAny (model X.prog X.w) X.A (ZK e (.Slice lo hi none p2) v (.ref s3.heap.objs.size)) (EP X pins σ Q) X.xe {s3 with heap:=s3.heap.push {cls:=.type "slice",data:=.fields #[vl,vu,.none]}};exact tail_any (ops:=[.ref s3.heap.objs.size,v]) ht hT hg (by with_unfolding_all rfl)
def oz(xs:List V)(lo hi:Option Int):List V:=(xs.drop (HT.cI xs.length 0 lo)).take (HT.cI xs.length xs.length hi - HT.cI xs.length 0 lo)
theorem pM xs lo hi:(oz xs lo hi).length<=xs.length:=by unfold oz;rw[Wp,ZW];omega
def Si(K:Vm):V->Option Int->Option Int->Hp->VK->Prop:=λx lo hi H Q=>∃a xs,x=.ref a/\fI K H a xs/\
 ¬(HT.cI xs.length 0 lo=0/\HT.cI xs.length xs.length hi=xs.length)/\∀p,H p=none->Q (.ref p) (upd H p (.tup (oz xs lo hi)))
theorem Kw:Jn X (Si X.K):=by
 intro pins s σ H x v vl vu lo hi sl Q I rx hs pl pu h;obtain⟨a,xs,rfl,hx,hw,q⟩:=h;cases rx;obtain⟨its,r,ht,hz⟩:=I.tuple hx;have hlen:its.toArray.size=xs.length:=by rw[Vp];exact r.length.symm
 refine⟨"tuple",_,Xd.lookup,ht.typeIs,?_⟩;refine HT.m9 ht hs pl pu (by rw[hlen];exact hw) ?_ (by rw[hlen];exact hz);rw[hlen];refine⟨.ref s.heap.objs.size,_,I.laid (t':=s.toks) (o:=.tup (oz xs lo hi)) (λb ob q=>Va _ q) (Vj _) ?_,rfl,q _ (I.aH.fresh (Vj _))⟩;exact⟨V3 (pM xs lo hi) hz,_,(r.drop (HT.cI xs.length 0 lo)).take (HT.cI xs.length xs.length hi - HT.cI xs.length 0 lo),aau _ _⟩
def N5(K:Vm):R2:=λx y H Q=>∃a b xs ys,x=.ref a/\y=.ref b/\fI K H a xs/\fI K H b ys/\xs≠[]/\xs.length+ys.length<=VD/\
 (ys=[]->Q (.ref a) H)/\(ys≠[]->∀p,H p=none->Q (.ref p) (upd H p (.tup (xs++ys))))
theorem aP.nc(r:aP xs us):us=[]↔xs=[]:=by cases r with|nil=>simp|cons _ _=>simp
theorem GY:kf X (XN .Add) (N5 X.K):=by intro pins s σ H x y v u Q I rx ry h;obtain⟨a,b,xs,ys,rfl,rfl,ha,hb,hx,hz,q1,q2⟩:=h;cases rx;cases ry;obtain⟨its,r1,p1,_⟩:=I.tuple ha;obtain⟨D3,r2,p2,_⟩:=I.tuple hb;refine HT.GU p1 p2 (λz=>hx (r1.nc.mp z)) (λz=>⟨.ref a,H,I,rfl,q1 (r2.nc.mp z)⟩) (λz=>?_) (by rw[<-r1.length,<-r2.length];exact hz);refine⟨.ref s.heap.objs.size,_,I.laid (t':=s.toks) (o:=.tup (xs++ys)) (λb ob q=>Va _ q) (Vj _) ?_,rfl,q2 (λw=>z (r2.nc.mpr w)) _ (I.aH.fresh (Vj _))⟩;exact⟨by rw[Vy];exact hz,_,r1.append r2,aau _ _⟩
end
def xC(n:Nat)(i:Int):Option Nat:=if 0<=i then(if i < n then some i.toNat else none) else if -(n:Int)<=i then some (i+n).toNat else none
def om{α:Type}(xs:List α)(i:Int):Option α:=(xC xs.length i).bind λj=>xs[j]?
theorem Bc(h:xC n i=some j):seqIndex? i n=some j/\j < n/\ -(n:Int)<=i/\i < n:=by
 unfold xC at h;by_cases h0:0<=i
 ·rw[if_pos h0] at h;by_cases h1:i < n;·rw[if_pos h1] at h;have e:i.toNat=j:=VT h;exact⟨by rw[aaO h0 h1,e],by omega,by omega,h1⟩
  ·rw[if_neg h1] at h;cases h
 ·rw[if_neg h0] at h;by_cases h1: -(n:Int)<=i;·rw[if_pos h1] at h;have e:(i+n).toNat=j:=VT h;exact⟨by rw[aaB (by omega) h1,e],by omega,h1,by omega⟩
  ·rw[if_neg h1] at h;cases h
theorem Bd(h:om xs i=some v):∃j,seqIndex? i xs.length=some j/\xs[j]?=some v/\j < xs.length/\ -(xs.length:Int)<=i/\i < xs.length:=by unfold om at h;cases e:xC xs.length i with|none=>rw[e] at h;cases h|some j=>rw[e] at h;obtain⟨h1,h2,h3,h4⟩:=Bc e;exact⟨j,h1,h,h2,h3,h4⟩
def Be(b:Expr):Prop:=∀o i,aaj b false o i=operate [o,i] (Zb o i)
def Jo(X:Cx)(r:R2):Prop:=
 ∀(value slice:Expr) (pins:List (Addr×Obj)) (s:Vv) (σ:St) (H:Hp) (x y:V) (v u:Value) (Q:VK),Inv X pins σ H s->RelV x v->RelV y u->r x y H Q->
  aaj slice false v u=operate [v,u] (Zb v u)->wpAny (model X.prog X.w) X.A (ZK value slice v u) (EP X pins σ Q) X.xe s
def MtR(X:Cx)(id:String)(r:V->List V->Hp->VK->Prop):Prop:=
 ∀(pins:List (Addr×Obj)) (s:Vv) (σ:St) (H:Hp) (x:V) (xs:List V) (v:Value) (us:List Value) (Q:VK),Inv X pins σ H s->RelV x v->aP xs us->r x xs H Q->
  wpAny (model X.prog X.w) X.A (call (.builtin id) (v::us)) (EP X pins σ Q) X.xe s
section
variable{X:Cx}{a b:Expr}{ta tb:TE}{pos:Pos}
theorem Jo.or(h:Jo X r)(h':Jo X r'):Jo X (λx y H Q=>r x y H Q\/r' x y H Q):=by
 intro value slice pins s σ H x y v u Q I rx ry q hs;rcases q with q|q;·exact h value slice pins s σ H x y v u Q I rx ry q hs
 ·exact h' value slice pins s σ H x y v u Q I rx ry q hs
theorem N6(hr:Jo X r)(ha:PE X a ta)(hb:PE X b tb)(hs:Be b):PE X (.Subscript a b pos) (NP r ta tb):=by intro pins s σ H Q I h;exact Subscript_ (Kh ha hb I h λv u s2 x y H2 I2 rx ry q=>hr a b pins s2 σ H2 x y v u Q I2 rx ry q (hs _ _))
def Sj(K:Vm):R2:=λx y H Q=>∃p xs i v,x=.ref p/\y=.int i/\lG K H p xs/\om xs i=some v/\Q v H
def Sk(K:Vm):R2:=λx y H Q=>∃p xs i v,x=.ref p/\y=.int i/\fI K H p xs/\om xs i=some v/\Q v H
theorem GZ:Jo X (Sj X.K):=by
 intro value slice pins s σ H x y v u Q I rx ry h hs;obtain⟨p,xs,i,z,rfl,rfl,hq,he,q⟩:=h;cases rx;obtain⟨t,rfl⟩:=ry;obtain⟨its,r,pl,hz⟩:=I.list hq;obtain⟨j,h1,h2,h3,h4,h5⟩:=Bd he;obtain⟨w,ew,mj⟩:=r.get h2;have hl:=r.length;have hn:=ow;have fin:EP X pins σ Q w s:=⟨z,H,I,mj,q⟩;by_cases h0:0<=i
 ·have hj:i.toNat=j:=by rw[aaO h0 h5] at h1;exact VT h1
  exact item_listR pl.isList h0 (by omega) (by rw[hj];simpa using ew) fin hs
 ·have hj:(i+(its.toArray.size:Int)).toNat=j:=by rw[aaB (by omega) h4] at h1;rw[Vp,<-hl];exact VT h1
  exact subscriptTail_builtinR (x:=w) pl.isList.typeIs slot_list_getitem.lookup
   (wpAny_getItem_list_neg (Q:=λr s'=>r=w/\EP X pins σ Q r s') pl.isList (by omega) (by rw[Vp]<;>omega) (by omega) (by rw[hj];simpa using ew) ⟨rfl,fin⟩) hs
theorem Kx:Jo X (Sk X.K):=by
 intro value slice pins s σ H x y v u Q I rx ry h hs;obtain⟨p,xs,i,z,rfl,rfl,hq,he,q⟩:=h;cases rx;obtain⟨t,rfl⟩:=ry;obtain⟨its,r,pl,hz⟩:=I.tuple hq;obtain⟨j,h1,h2,h3,h4,h5⟩:=Bd he;obtain⟨w,ew,mj⟩:=r.get h2;have hl:=r.length;have hn:=ow;have fin:EP X pins σ Q w s:=⟨z,H,I,mj,q⟩;exact subscriptTail_builtinR (x:=w) pl.typeIs slot_tuple_getitem.lookup
  (getItem_tuple (j:=j) (Q:=λr s'=>r=w/\EP X pins σ Q r s') pl (by omega) (by omega) (by rw[Vp,<-hl];exact h1) (by simpa using ew) ⟨rfl,fin⟩) hs
theorem Ag(its:List Value)n j u:XW (·.setIfInBounds j u) {cls:=.type "list",data:=.seq its.toArray n}={cls:=.type "list",data:=.seq (its.set j u).toArray n}:=by simp[XW]
theorem Inv.lst(I:Inv X pins σ H s)(h:H p=some (.lst xs)):
  ∃(its:List Value) (n:Nat),aP xs its/\s.heap.get? p=some {cls:=.type "list",data:=.seq its.toArray n}/\xs.length<=VD:=by
 obtain⟨z,its,n,r,e⟩:=I.aH p _ h;exact⟨its,n,r,e,z⟩
theorem Inv.Ky{its its':List Value}(I:Inv X pins σ H s)(h:H p=some (.lst xs))(ho:s.heap.get? p=some {cls:=.type "list",data:=.seq its.toArray n})(hf:f {cls:=.type "list",data:=.seq its.toArray n}={cls:=.type "list",data:=.seq its'.toArray n'})(r:aP ys its')(hz:ys.length<=VD)t:
  Inv X pins σ (upd H p (.lst ys)) {s with heap:=s.heap.update p f,toks:=t}:=by
 have e:(s.heap.update p f).get? p=some {cls:=.type "list",data:=.seq its'.toArray n'}:=by rw[Xf f ho (by rw[hf]<;>rfl),hf]
 refine I.write (x:=p) (e:=p) (by rw[h];trivial) (.inl rfl) (λb u hb q=>(Wv _ _ (Wg hb)).trans q) ⟨_,e⟩ ?_;exact⟨hz,its',n',r,e⟩
def N7:V->V->V->Hp->(Hp->Prop)->Prop:=λo i v H Q=>∃p xs k j,o=.ref p/\i=.int k/\H p=some (.lst xs)/\xC xs.length k=some j/\Q (upd H p (.lst (xs.set j v)))
theorem set_list:B8 X N7:=by
 intro pins s σ H o i v ov iv u Q I ro ri rv h;obtain⟨p,xs,k,j,rfl,rfl,hp,hj,q⟩:=h;cases ro;obtain⟨t,rfl⟩:=ri;obtain⟨its,n,r,ho,hz⟩:=I.lst hp;obtain⟨h1,h2,h3,h4⟩:=Bc hj;have hl:=r.length;have hn:=ow;have I':Inv X pins σ (upd H p (.lst (xs.set j v))) {s with heap:=s.heap.update p (XW (·.setIfInBounds j u))}:=
  I.Ky hp ho (Ag its n j u) (r.set rv j) (by rw[WJ];exact hz) s.toks
 by_cases h0:0<=k
 ·have hk:k.toNat=j:=by rw[aaO h0 h4] at h1;exact VT h1
  exact PySem.W.ki_setAt ho h0 (by omega) (by rw[Vp,<-hl];exact h4) (by rw[hk];exact⟨_,I',q⟩)
 ·have hk:(k+(its.toArray.size:Int)).toNat=j:=by rw[aaB (by omega) h3] at h1;rw[Vp,<-hl];exact VT h1
  exact PySem.W.ki_setBack ho (by omega) (by rw[Vp,<-hl];exact h3) (by omega) (by rw[hk];exact⟨_,I',q⟩)
theorem vX lo hi n:(YD lo hi none n).1=((HT.cI n 0 lo:Nat):Int)/\(YD lo hi none n).2.1=((HT.cI n n hi:Nat):Int)/\(YD lo hi none n).2.2=1:=by
 refine⟨?_,?_,rfl⟩
 ·cases lo with
  |none=>simp[YD,HT.cI]|some i=>
   simp only[YD,HT.cI,ZU,show(1:Int) > 0 by decide,if_true];by_cases h:i < 0;·simp only[h,if_true]<;>omega
   ·simp only[h,if_false]<;>omega
 ·cases hi with
  |none=>simp[YD,HT.cI]|some i=>
   simp only[YD,HT.cI,ZU,show(1:Int) > 0 by decide,if_true];by_cases h:i < 0;·simp only[h,if_true]<;>omega
   ·simp only[h,if_false]<;>omega
theorem ue(its:List Value)lo hi:slicePick its.toArray lo hi none=((its.drop (HT.cI its.length 0 lo)).take (HT.cI its.length its.length hi - HT.cI its.length 0 lo)).toArray:=by obtain⟨h1,h2,h3⟩:=vX lo hi its.toArray.size;unfold slicePick;rw[h1,h2,h3];simp only[sliceRange_one,pick_run,Vp]<;>rfl
def N8(K:Vm):V->Option Int->Option Int->Hp->VK->Prop:=λx lo hi H Q=>∃a xs,x=.ref a/\lG K H a xs/\∀p,H p=none->Q (.ref p) (upd H p (.lst (oz xs lo hi)))
theorem G0:Jn X (N8 X.K):=by intro pins s σ H x v vl vu lo hi sl Q I rx hs pl pu h;obtain⟨a,xs,rfl,hx,q⟩:=h;cases rx;obtain⟨its,r,ht,hz⟩:=I.list hx;have hlen:=r.length;refine⟨"list",_,slot_list_getitem.lookup,ht.isList.typeIs,?_⟩;refine wpAny_getItem_list_slice ht.isList hs pl pu .none (by simp) ?_ (by rw[Vp]<;>omega);rw[ue,<-hlen];refine⟨.ref s.heap.objs.size,_,I.laid (t':=s.toks) (o:=.lst (oz xs lo hi)) (λb ob q=>Va _ q) (Vj _) ?_,rfl,q _ (I.aH.fresh (Vj _))⟩;exact⟨V3 (pM xs lo hi) hz,_,0,(r.drop (HT.cI xs.length 0 lo)).take (HT.cI xs.length xs.length hi - HT.cI xs.length 0 lo),Vq _ rfl⟩
def lR:V->Bool
 |.bq=>true|.bl _=>true|.int _=>true|.str _=>true|_=>false
def G1:V->V->Bool
 |.bq,.bq=>true|.bl a,.bl b=>a==b|.bl a,.int b=>(if a then 1 else 0)==b|.int a,.bl b=>a==(if b then 1 else 0)|.int a,.int b=>a==b|.str a,.str b=>a==b|_,_=>false
theorem Kz(ry:RelV y u)(rx:RelV x v)(fy:lR y=true)(fx:lR x=true):SeqAt.EqAt A s u v (G1 y x):=by
 cases y with
 |bq=>cases ry;cases x with|bq=>cases rx;exact SeqAt.EqAt.same _|bl b=>cases rx;exact SeqAt.EqAt.none_bool b|int b=>obtain⟨t,rfl⟩:=rx;exact SeqAt.EqAt.none_int b t|str b=>obtain⟨t,rfl⟩:=rx;exact SeqAt.EqAt.none_str b t|_=>exact absurd (show false=true from fx) V7
 |bl a=>cases ry;cases x with|bq=>cases rx;exact SeqAt.EqAt.bool_none a|bl b=>cases rx;exact SeqAt.EqAt.bool_bool a b|int b=>obtain⟨t,rfl⟩:=rx;exact SeqAt.EqAt.bool_int a b t|str b=>obtain⟨t,rfl⟩:=rx;exact SeqAt.EqAt.bool_str a b t|_=>exact absurd (show false=true from fx) V7
 |int a=>obtain⟨t',rfl⟩:=ry;cases x with|bq=>cases rx;exact SeqAt.EqAt.int_none a t'|bl b=>cases rx;exact SeqAt.EqAt.int_bool a t' b|int b=>obtain⟨t,rfl⟩:=rx;exact SeqAt.EqAt.int_int a t' b t|str b=>obtain⟨t,rfl⟩:=rx;exact SeqAt.EqAt.int_str a t' b t|_=>exact absurd (show false=true from fx) V7
 |str a=>obtain⟨t',rfl⟩:=ry;cases x with|bq=>cases rx;exact SeqAt.EqAt.str_none a t'|bl b=>cases rx;exact SeqAt.EqAt.str_bool a t' b|int b=>obtain⟨t,rfl⟩:=rx;exact SeqAt.EqAt.str_int a t' b t|str b=>obtain⟨t,rfl⟩:=rx;exact SeqAt.EqAt.str_str a t' b t|_=>exact absurd (show false=true from fx) V7
 |_=>exact absurd (show false=true from fy) V7
def Ah(x:V)(u:Value):Bool:=match u with|.none=>G1 .bq x|.bool b=>G1 (.bl b) x|.int i _=>G1 (.int i) x|.str z _=>G1 (.str z) x|_=>false
theorem D4(r:RelV y u)(f:lR y=true):Ah x u=G1 y x:=by cases y with|bq=>cases r;rfl|bl b=>cases r;rfl|int i=>obtain⟨t,rfl⟩:=r;rfl|str z=>obtain⟨t,rfl⟩:=r;rfl|_=>exact absurd (show false=true from f) V7
theorem ng:∀{xs} {us},aP xs us->xs.all lR=true->us.any (Ah x)=xs.any λy=>G1 y x
 |_,_,.nil,_=>rfl|y::xs,u::us,.cons r t,f=>by rw[XA,U9] at f;rw[Xz,Xz,D4 r f.1,ng t f.2]
theorem kn(rx:RelV x v)(fx:lR x=true):∀{xs} {us},aP xs us->xs.all lR=true->∀u∈us,SeqAt.EqAt A s u v (Ah x u)
 |_,_,.nil,_=>λu hu=>by cases hu|y::xs,u::us,.cons r t,f=>λu' hu=>by
  rw[XA,U9] at f;rcases W4.mp hu with rfl|hu;·rw[D4 r f.1];exact Kz r rx f.1 fx
  ·exact kn rx fx t f.2 u' hu
def QY(x:V)(xs:List V):Bool:=xs.any λy=>G1 y x
def N9(K:Vm)(neg:Bool):R2:=λx y H Q=>∃p xs,y=.ref p/\(lG K H p xs\/fI K H p xs)/\lR x=true/\xs.all lR=true/\Q (.bl (if neg then !QY x xs else QY x xs)) H
theorem Ck:kf X (WC .In) (N9 X.K false):=by
 intro pins s σ H x y v u Q I rx ry h;obtain⟨p,xs,rfl,hq,fx,fs,q⟩:=h;cases ry;rcases hq with hq|hq;·obtain⟨its,r,pl,hz⟩:=I.list hq;refine SeqAt.in_listAt (Ah x) pl.isList (λw hw=>kn rx fx r fs w (by simpa using hw)) ⟨.bl _,H,I,rfl,?_⟩;rw[show its.toArray.any (Ah x)=its.any (Ah x) by simp,ng r fs];exact q
 ·obtain⟨its,r,pl,hz⟩:=I.tuple hq;refine SeqAt.in_tupleAt (Ah x) pl (λw hw=>kn rx fx r fs w (by simpa using hw)) ⟨.bl _,H,I,rfl,?_⟩;rw[show its.toArray.any (Ah x)=its.any (Ah x) by simp,ng r fs];exact q
theorem vY:kf X (WC .NotIn) (N9 X.K true):=by
 intro pins s σ H x y v u Q I rx ry h;obtain⟨p,xs,rfl,hq,fx,fs,q⟩:=h;cases ry;rcases hq with hq|hq;·obtain⟨its,r,pl,hz⟩:=I.list hq;refine SeqAt.notIn_listAt (Ah x) pl.isList (λw hw=>kn rx fx r fs w (by simpa using hw)) ⟨.bl _,H,I,rfl,?_⟩;rw[show its.toArray.any (Ah x)=its.any (Ah x) by simp,ng r fs];exact q
 ·obtain⟨its,r,pl,hz⟩:=I.tuple hq;refine SeqAt.notIn_tupleAt (Ah x) pl (λw hw=>kn rx fx r fs w (by simpa using hw)) ⟨.bl _,H,I,rfl,?_⟩;rw[show its.toArray.any (Ah x)=its.any (Ah x) by simp,ng r fs];exact q
theorem vZ:ie X (.builtin "len") (λxs H Q=>∃p ys,xs=[.ref p]/\(lG X.K H p ys\/fI X.K H p ys)/\Q (.int ys.length) H):=by
 intro pins s σ H xs us Q I r h;obtain⟨p,ys,rfl,hq,q⟩:=h;obtain⟨u,rfl,rx⟩:=vals1 r;cases rx;have hn:=ow;rcases hq with hq|hq;·obtain⟨its,r',pl,hz⟩:=I.list hq;have hlen:=r'.length;exact Calls.call_len_list pl.isList (by simp only[Vp]<;>omega) ⟨.int ys.length,H,I.tok _,⟨s.toks+1,by rw[Vp,hlen]⟩,q⟩
 ·obtain⟨its,r',pl,hz⟩:=I.tuple hq;have hlen:=r'.length;exact len_tuple pl (by simp only[Vp]<;>omega) ⟨.int ys.length,H,I.tok _,⟨s.toks+1,by rw[Vp,hlen]⟩,q⟩
theorem v5:ie X (.builtin "len") (λxs H Q=>∃z,xs=[.str z]/\z.length<=VD/\Q (.int z.length) H):=by intro pins s σ H xs us Q I r h;obtain⟨z,rfl,hz,q⟩:=h;obtain⟨u,rfl,t,rfl⟩:=vals1 r;have hn:=ow;exact len_str (by omega) ⟨.int z.length,H,I.tok _,⟨_,rfl⟩,q⟩
theorem uf:ie X (.type "tuple") (λxs H Q=>∃p ys,xs=[.ref p]/\((lG X.K H p ys/\∀l,H l=none->Q (.ref l) (upd H l (.tup ys)))\/(fI X.K H p ys/\Q (.ref p) H))):=by
 intro pins s σ H xs us Q I r h;obtain⟨p,ys,rfl,h⟩:=h;obtain⟨u,rfl,rx⟩:=vals1 r;cases rx;rcases h with ⟨hq,q⟩|⟨hq,q⟩
 ·obtain⟨its,r',pl,hz⟩:=I.list hq;have hlen:=r'.length;refine call_tuple_list pl.isList (λh' kp=>?_) (by simp only[Vp]<;>omega);have I1:Inv X pins σ H {s with heap:=h'}:=I.kept (t':=s.toks) kp;have I2:Inv X pins σ (upd H h'.objs.size (.tup ys)) {s with heap:=h'.push {cls:=.type "tuple",data:=.seq its.toArray}}:=
   I1.laid (t':=s.toks) (λb o e=>Va _ e) (Vj _) (show bz X.prog X.w _ _ _ (.tup ys) from⟨hz,its,r',aau _ _⟩)
  exact⟨.ref h'.objs.size,_,I2,rfl,q _ (I1.aH.fresh (Vj _))⟩
 ·obtain⟨its,r',pl,hz⟩:=I.tuple hq;exact call_tuple_same pl ⟨.ref p,H,I,rfl,q⟩
def Sl(K:Vm)(T:String)(x:V)(H:Hp):Prop:=match x with
 |.str _=>T="str"|.int _=>T="int"
 |.ref p=>(T="list"/\∃xs,lG K H p xs)\/(T="tuple"/\∃o,K.lookup p=some o/\o.cls=.type "tuple"/\o.dict=none)\/
   (T="dict"/\((∃kvs,H p=some (.dK kvs))\/∃kvs,H p=some (.dT kvs)))\/(T="set"/\∃S n,H p=some (.set S n))
 |_=>False
theorem D5(I:Inv X pins σ H s)(r:RelV x v)(ty:Sl X.K T x H):
  s.TypeIs v T/\∀a,v=.ref a->∃ob,s.heap.get? a=some ob/\ob.dict=none:=by
 cases x with
 |str z=>obtain⟨t,rfl⟩:=r;cases (show T="str" from ty);exact⟨typeIs_str s z t,λ_ e=>nomatch e⟩|int i=>obtain⟨t,rfl⟩:=r;cases (show T="int" from ty);exact⟨Y2 s i t,λ_ e=>nomatch e⟩|ref p=>
  cases r;rcases ty with ⟨rfl,xs,hq⟩|⟨rfl,o,hk,hc,hd⟩|⟨rfl,hk⟩|⟨rfl,S,n,hk⟩
  ·obtain⟨its,_,pl,_⟩:=I.list hq;refine⟨pl.isList.typeIs,λa e=>?_⟩;cases e;obtain⟨o,n,e,c,hd,_⟩:=pl;exact⟨o,e,hd⟩
  ·refine⟨⟨o,I.mZ p o hk,hc⟩,λa e=>?_⟩;cases e;exact⟨o,I.mZ _ o hk,hd⟩
  ·have z:∃o,s.heap.get? p=some o/\o.ExactDict:=by
    rcases hk with ⟨kvs,hk⟩|⟨kvs,hk⟩
    ·obtain⟨_,_,_,_,o,_,_,e,ex,_⟩:=I.aH p _ hk;exact⟨o,e,ex⟩
    ·obtain⟨_,_,_,_,o,_,_,e,ex,_⟩:=I.aH p _ hk;exact⟨o,e,ex⟩
   obtain⟨o,e,ex⟩:=z;refine⟨⟨o,e,ex.1⟩,λa e2=>?_⟩;cases e2;exact⟨o,e,ex.2.1⟩
  ·obtain⟨o,_,_,_,e,ex,_⟩:=I.aH p _ hk;refine⟨⟨o,e,ex.1⟩,λa e2=>?_⟩;cases e2;exact⟨o,e,ex.2.1⟩
 |_=>exact Ww ty
def Sm(K:Vm)(T:String)(r:V->List V->Hp->VK->Prop)(to:TE):TE:=λσ H Q=>to σ H λx H1=>Sl K T x H1/\r x [] H1 Q
def tBM(K:Vm)(T:String)(r:V->List V->Hp->VK->Prop)(to:TE)(t:TA):TE:=λσ H Q=>to σ H λx H1=>Sl K T x H1/\t σ H1 λxs H2=>r x xs H2 Q
variable{o e:Expr}{es:List Expr}{to:TE}{t:TA}{name:Str}{apos fS:Pos}{T id:String}{r:V->List V->Hp->VK->Prop}
theorem KA(pa:PlainAttrs T)(slot:Slot T name id)(Sn:typeOf (.builtin id)=pure (.type "method_descriptor"))(hm:MtR X id r)(ho:PE X o to)
  (xD:XU o name X.env (eval o X.env)=eval o X.env:=by rfl) (lS:(apos.endLine==fS.line)=true:=by rfl):PE X (.Call (.Attribute o name apos) [] [] fS) (Sm X.K T r to):=by
 intro pins s σ H Q I h;refine wpAny_Call_method0_late xD lS (bI (ho pins s σ H _ I h) λv s1 ⟨x,H1,I1,r1,ty,q1⟩=>?_);obtain⟨h1,h2⟩:=D5 I1 r1 ty;exact⟨T,id,pa,slot,Sn,h1,h2,Xw rfl (PySem.evalArgs_none (hm pins s1 σ H1 x [] v [] Q I1 r1 .nil q1))⟩
theorem Jp(pa:PlainAttrs T)(slot:Slot T name id)(Sn:typeOf (.builtin id)=pure (.type "method_descriptor"))(hm:MtR X id r)(ho:PE X o to)(ha:PA X (e::es) t)
  (xD:XU o name X.env (eval o X.env)=eval o X.env:=by rfl)
  (So:((Xn fS (VM (e::es) X.env)).all (λx=>!x.1)&&(Zf fS (X6 [] X.env)).all (λx=>x.1.isSome)
   &&decide ((e::es).length+([]:List Z9).length+(if([]:List Z9).isEmpty then 0 else 1) < 30))=true:=by rfl)
  (lS:(apos.endLine==fS.line)=true:=by rfl) (hs:VM (e::es) X.env=(false,eval e X.env)::VM es X.env:=by rfl) (KC:(Xn fS (VM es X.env)).any (·.1)=false:=by rfl):
  PE X (.Call (.Attribute o name apos) (e::es) [] fS) (tBM X.K T r to t):=by
 intro pins s σ H Q I h;refine wpAny_Call_method_late xD So lS rfl (bI (ho pins s σ H _ I h) λv s1 ⟨x,H1,I1,r1,ty,q1⟩=>?_);obtain⟨h1,h2⟩:=D5 I1 r1 ty;refine⟨T,id,pa,slot,Sn,h1,h2,?_⟩;have hA:=ha fS pins s1 σ H1 _ I1 q1;rw[hs] at hA ⊢;refine Xw (by show(false||(Xn fS (VM es X.env)).any (·.1))=false;rw[KC]<;>rfl) (Zi ?_);exact bI hA λus s2 ⟨vs,H2,I2,r2,q2⟩=>hm pins s2 σ H2 x vs v us Q I2 r1 r2 q2
end
def Sq(X:Cx)(id:String)(r:V->List V->Hp->VK->Prop):Prop:=
 ∀(pins:List (Addr×Obj)) (s:Vv) (σ:St) (H:Hp) (x:V) (xs:List V) (v:Value) (us:List Value) (Q:VK),Inv X pins σ H s->RelV x v->aP xs us->r x xs H Q->
  wpAny (model X.prog X.w) X.A (call (.builtin id) (v::us)) (EP X pins σ Q) X.xe s
theorem aP.one:∀{x} {us},aP [x] us->∃u,us=[u]/\RelV x u
 |_,_,.cons r .nil=>⟨_,rfl,r⟩
theorem aP.zero:∀{us},aP [] us->us=[]
 |_,.nil=>rfl
theorem aP.dropLast(h:aP xs us):aP xs.dropLast us.dropLast:=by induction h with|nil=>exact .nil|cons r t ih=>cases t with|nil=>exact .nil|cons q t'=>exact .cons r ih
theorem Ai{α:Type}(l:List α):l.eraseIdx (l.length - 1)=l.dropLast:=by
 induction l with
 |nil=>rfl|cons a r ih=>
  cases r with
  |nil=>rfl|cons b r=>
   have e:(a::b::r).length - 1=((b::r).length - 1)+1:=by have h1:(a::b::r).length=r.length+2:=rfl;have h2:(b::r).length=r.length+1:=rfl;omega
   rw[e,List.eraseIdx_cons_succ,ih];all_goals rfl
section
variable{X:Cx}{pins:List (Addr×Obj)}{σ:St}{H:Hp}{s:Vv}{l b:Addr}{xs ys zs:List V}
theorem Inv.Oa{its its':List Value}(I:Inv X pins σ H s)(hH:H l=some (.lst xs))(e:s.heap.get? l=some {cls:=.type "list",data:=.seq its.toArray n})(hf:f its.toArray=its'.toArray)(hv:aP ys its')(hz:ys.length<=VD):
  Inv X pins σ (upd H l (.lst ys)) {s with heap:=s.heap.update l (XW f),toks:=t'}:=by
 have q:=PySem.IsL.update e f;rw[hf] at q;refine I.write (x:=l) (e:=l) (by rw[hH];exact trivial) (.inl rfl) (λb' u hb hu=>(Wv s.heap (XW f) (Wg hb)).trans hu) ⟨_,q⟩ ?_;exact⟨hz,its',_,hv,q⟩
theorem Inv.Sr(I:Inv X pins σ H s)(hv:aP ys its)(hz:ys.length<=VD):
  Inv X pins σ (upd H s.heap.objs.size (.lst ys)) {s with heap:=s.heap.push {cls:=.type "list",data:=.seq its.toArray},toks:=t'}:=
 I.laid (λ_ _ q=>Va _ q) (Vj _) ⟨hz,its,0,hv,Vq _ rfl⟩
theorem Inv.fresh(I:Inv X pins σ H s):H s.heap.objs.size=none:=I.aH.fresh (Vj _)
theorem Inv.Ob(I:Inv X pins σ H s)(hH:H l=some (.lst xs)):xs.length<=VD/\∃(its:List Value) (n:Nat),aP xs its/\xs.length=its.length/\s.heap.get? l=some {cls:=.type "list",data:=.seq its.toArray n}:=by obtain⟨z,its,n,r,e⟩:=I.aH l _ hH;exact⟨z,its,n,r,r.length,e⟩
end
section
variable{X:Cx}
def G3:V->List V->Hp->VK->Prop:=λx vs H Q=>∃l xs y,x=.ref l/\vs=[y]/\H l=some (.lst xs)/\xs.length < VD/\Q .bq (upd H l (.lst (xs++[y])))
theorem oA:Sq X "list.append" G3:=by intro pins s σ H x vs v us Q I rx rv h;obtain⟨l,xs,y,rfl,rfl,hH,hz,q⟩:=h;cases rx;obtain⟨u,rfl,ru⟩:=rv.one;obtain⟨z,its,n,r,hl,e⟩:=I.Ob hH;refine Ym F.slot_list_append ⟨_,e,rfl⟩ F.entry_list_append (F.args_list_append_2 _ _) (PySem.list_append l its.toArray n u (by rw[Vp];omega)) ⟨e,?_⟩;refine⟨.bq,_,I.Oa (its':=its++[u]) hH e (by simp) (r.append (.cons ru .nil)) ?_,rfl,q⟩;rw[Vy,List.length_singleton];omega
def Ss:V->List V->Hp->VK->Prop:=λx vs H Q=>∃l xs y,x=.ref l/\vs=[]/\H l=some (.lst xs)/\xs[xs.length - 1]?=some y/\Q y (upd H l (.lst xs.dropLast))
theorem KD:Sq X "list.pop" Ss:=by
 intro pins s σ H x vs v us Q I rx rv h;obtain⟨l,xs,y,rfl,rfl,hH,hy,q⟩:=h;cases rx;have hus:=rv.zero;subst hus;obtain⟨z,its,n,r,hl,e⟩:=I.Ob hH;obtain⟨u,hu,ru⟩:=r.get hy;have hy':its.toArray[its.toArray.size - 1]?=some u:=by show its.toArray[its.length - 1]?=some u;rw[<-Y0,<-hl];exact hu
 refine Ym F.slot_list_pop ⟨_,e,rfl⟩ F.entry_list_pop (F.args_list_pop_1 _) (MeetsSeq.list_pop_last l its.toArray n u hy' (by rw[Vp];omega)) ⟨e,?_⟩;refine⟨y,_,I.Oa (its':=its.dropLast) hH e ?_ r.dropLast ?_,ru,q⟩;·show its.toArray.eraseIdxIfInBounds (its.toArray.size - 1)=its.dropLast.toArray;rw[Vp,List.eraseIdxIfInBounds_toArray,Ai]
 ·rw[List.length_dropLast];omega
end
section
variable{prog:Wf}{w:World}{A:WN}{E:Value->Vv->Prop}{s:Vv}
end
section
variable{X:Cx}
end
section
variable{κ:Type}[DecidableEq κ]
def fJ(kvs:List (κ×V))(k:κ):Option V:=(kvs.find? λkv=>decide (kv.1=k)).map (·.2)
def putK(kvs:List (κ×V))(k:κ)(v:V):List (κ×V):=
 if(kvs.any λkv=>decide (kv.1=k))=true then kvs.map (λkv=>if kv.1=k then(kv.1,v) else kv) else kvs++[(k,v)]
def nh(kvs:List (κ×V))(k:κ):List (κ×V):=kvs.filter λkv=>decide (kv.1≠k)
theorem ni{r:List (κ×V)}{k:κ}(e:p.1=k):fJ (p::r) k=some p.2:=by simp[fJ,Wy,e]
theorem nj{r:List (κ×V)}{k:κ}(e:¬p.1=k):fJ (p::r) k=fJ r k:=by simp[fJ,Wy,e]
theorem rQ(k:κ):∀kvs:List (κ×V),(kvs.any λkv=>decide (kv.1=k))=(fJ kvs k).isSome
 |[]=>rfl|p::r=>by
  rw[Xz];by_cases e:p.1=k;·simp only[ni e,decide_eq_true e,Bool.true_or,Option.isSome_some]
  ·rw[nj e,decide_eq_false e,Bool.false_or];exact rQ k r
theorem iN kvs(k:κ)v:(putK kvs k v).length<=kvs.length+1:=by
 unfold putK;split;·rw[Vg];omega
 ·rw[Vy,Vt,WK];omega
theorem kh.ic(r:kh o u):o.isSome=u.isSome:=by
 cases o with
 |none=>cases u with|none=>rfl|some _=>exact(show False from r).elim
 |some _=>cases u with|none=>exact(show False from r).elim|some _=>rfl
theorem KV.val(r:KV kvs vs)(k:κ):kh (fJ kvs k) (Z5 vs k):=by
 unfold KV at r;induction r with
 |nil=>exact WY|@cons p q ps qs h t ih=>
  obtain⟨h1,h2⟩:=h;by_cases e:p.1=k
  ·have e':q.1=k:=h1.symm.trans e;have b:Z5 (q::qs) k=some q.2:=by simp[Z5,Wy,e']
   rw[ni e,b];exact h2
  ·have e':¬q.1=k:=λz=>e (h1.trans z);have b:Z5 (q::qs) k=Z5 qs k:=by simp[Z5,Wy,e']
   rw[nj e,b];exact ih
theorem KV.any(r:KV kvs vs)(k:κ):(kvs.any λkv=>decide (kv.1=k))=vs.any λkv=>decide (kv.1=k):=by unfold KV at r;induction r with|nil=>rfl|cons h t ih=>rw[Xz,Xz,ih,h.1]
theorem KV.Cm(r:KV kvs vs)(k:κ)(ry:RelV y u):
  KV (kvs.map λkv=>if kv.1=k then(kv.1,y) else kv) (vs.map λkv=>if kv.1=k then(kv.1,u) else kv):=by
 unfold KV at r ⊢;induction r with
 |nil=>exact .nil|@cons p q ps qs h t ih=>
  rw[Vo,Vo];refine .cons ?_ ih;obtain⟨h1,h2⟩:=h;by_cases e:p.1=k;·rw[if_pos e,if_pos (h1.symm.trans e)];exact⟨h1,ry⟩
  ·rw[if_neg e,if_neg (λz=>e (h1.trans z))];exact⟨h1,h2⟩
theorem KV.put(r:KV kvs vs)(k:κ)(ry:RelV y u):KV (putK kvs k y) (stored vs k u):=by
 unfold putK stored;rw[r.any k];by_cases e:(vs.any λkv=>decide (kv.1=k))=true;·rw[if_pos e,if_pos e];exact r.Cm k ry
 ·rw[if_neg e,if_neg e];exact aaA.snoc r ⟨rfl,ry⟩
theorem KV.drop(r:KV kvs vs)(k:κ):KV (nh kvs k) (without vs k):=by
 unfold KV at r ⊢;unfold nh without;induction r with
 |nil=>exact .nil|@cons p q ps qs h t ih=>
  obtain⟨h1,h2⟩:=h;rw[List.filter_cons,List.filter_cons];by_cases e:p.1=k
  ·have a:¬decide (p.1≠k)=true:=by simp[e]
   have b:¬decide (q.1≠k)=true:=by simp[h1.symm.trans e]
   rw[if_neg a,if_neg b];exact ih
  ·have e':¬q.1=k:=λz=>e (h1.trans z);have a:decide (p.1≠k)=true:=by simp[e]
   have b:decide (q.1≠k)=true:=by simp[e']
   rw[if_pos a,if_pos b];exact .cons ⟨h1,h2⟩ ih
theorem KV.length{vs:List (κ×Value)}(r:KV kvs vs):kvs.length=vs.length:=ZN r
theorem xE kvs(k:κ):(nh kvs k).length<=kvs.length:=XE _ _
end
theorem nk(r:RelV (kV k) u):(bc P w).is k u=true:=by cases k with|inl i=>obtain⟨t,e⟩:=(show ∃t,u=Y6 i t from r);subst e;exact xt P w i t|inr x=>obtain⟨t,e⟩:=(show ∃t,u=Y5 x t from r);subst e;exact xu P w x t
theorem uY:∀{ks} {us},aP (ks.map kV) us->ItemsAre (bc P w) ks us
 |[],_,r=>by rw[W9] at r;cases r;exact .nil|k::ks,_,r=>by rw[Vo] at r;cases r with|cons h t=>exact .cons (nk h) (uY t)
abbrev KT(H:Hp):List (List Key×V)->List (List Key×Addr×Value)->Prop:=aaA λp q=>p.1=q.1/\H q.2.1=some (.tup (p.1.map kV))/\RelV p.2 q.2.2
theorem KT.val(r:KT H kvs xs)k:kh (fJ kvs k) ((atKey xs k).map (·.2)):=by
 induction r with
 |nil=>exact WY|@cons p q ps qs h t ih=>
  obtain⟨h1,_,h2⟩:=h;by_cases e:p.1=k
  ·have e':q.1=k:=h1.symm.trans e;have b:atKey (q::qs) k=some q.2:=by simp[atKey,Wy,e']
   rw[ni e,b];exact h2
  ·have e':¬q.1=k:=λz=>e (h1.trans z);have b:atKey (q::qs) k=atKey qs k:=by simp[atKey,Wy,e']
   rw[nj e,b];exact ih
theorem KT.Cm(r:KT H kvs xs)k(ry:RelV y u):
  KT H (kvs.map λkv=>if kv.1=k then(kv.1,y) else kv) (xs.map (putAt k u)):=by
 induction r with
 |nil=>exact .nil|@cons p q ps qs h t ih=>
  rw[Vo,Vo];refine .cons ?_ ih;obtain⟨h1,h2,h3⟩:=h;unfold putAt;by_cases e:p.1=k;·rw[if_pos e,if_pos (h1.symm.trans e)];exact⟨h1,h2,ry⟩
  ·rw[if_neg e,if_neg (λz=>e (h1.trans z))];exact⟨h1,h2,h3⟩
theorem KT.put(r:KT H kvs xs)k(hb:H b=some (.tup (k.map kV)))(ry:RelV y u):
  KT H (putK kvs k y) (storedH xs k b u):=by
 have e:(kvs.any λkv=>decide (kv.1=k))=(atKey xs k).isSome:=by rw[rQ,(r.val k).ic,Yj]
 unfold putK storedH;rw[e];by_cases q:(atKey xs k).isSome=true;·rw[if_pos q,if_pos q];exact r.Cm k ry
 ·rw[if_neg q,if_neg q];exact aaA.snoc r ⟨rfl,hb,ry⟩
theorem KT.keeps(r:KT H kvs xs)(ht:∀b ys,H b=some (.tup ys)->H' b=some (.tup ys)):KT H' kvs xs:=
 aaA.J5 r λ_ _ z=>⟨z.1,ht _ _ z.2.1,z.2.2⟩
section
variable{P:Wf}{w:World}{H:Hp}{h:Heap}{a:Addr}
theorem Jq(ok:ki P w H h)(e:Rd H a u):bz P w H h a u:=e.ok ok
theorem pN(ok:ki P w H h)(e:Rd H a (.dK kvs)):kvs.length<=VD/\(a==W6)=false/\∃vs,KV kvs vs/\h.DictOf (bc P w) a vs:=
 show bz P w H h a (.dK kvs) from Jq ok e
theorem uZ(ok:ki P w H h)(e:H a=some (.dK kvs)):kvs.length<=VD/\(a==W6)=false/\∃vs,KV kvs vs/\h.DictOf (bc P w) a vs:=pN ok (.inl e)
theorem rR(ok:ki P w H h)(e:H a=some (.tup (ks.map kV))):(aao (bc P w)).is h ks a:=by obtain⟨_,its,r,o,h1,h2,n,h3⟩:=(show bz P w H h a (.tup (ks.map kV)) from ok a _ e);exact⟨o,its.toArray,n,h1,h2,h3,by simpa using uY r⟩
theorem pO(ok:ki P w H h)(e:Rd H a (.dT kvs)):kvs.length<=VD/\(a==W6)=false/\
  ∃xs,KT H kvs xs/\h.DictOfH (aao (bc P w)) a xs:=by
 obtain⟨z,y,xs,r,o,es,ep,h1,h2,h3,h4,h5⟩:=(show bz P w H h a (.dT kvs) from Jq ok e);refine⟨z,y,xs,r,o,es,ep,h1,h2,h3,h4,λx hx=>?_,h5⟩;have all:∀{l:List (List Key×V)} {m:List (List Key×Addr×Value)},KT H l m->∀x∈m,(aao (bc P w)).is h x.1 x.2.1:=by
  intro l m q;induction q with
  |nil=>intro x hx;exact nomatch hx|@cons p q ps qs hq t ih=>
   intro x hx;rcases W4.mp hx with e|hx;·subst e;exact rR ok (by rw[<-hq.1];exact hq.2.1)
   ·exact ih x hx
 exact all r x hx
theorem Oc(ok:ki P w H h)(e:H a=some (.dT kvs)):kvs.length<=VD/\(a==W6)=false/\
  ∃xs,KT H kvs xs/\h.DictOfH (aao (bc P w)) a xs:=pO ok (.inl e)
end
def nq(H:Hp)(a:Addr)(y:V)(r:Option V):Prop:=
 (∃kvs k,Rd H a (.dK kvs)/\y=kV k/\r=fJ kvs k)\/∃kvs k b,Rd H a (.dT kvs)/\y=.ref b/\H b=some (.tup (k.map kV))/\r=fJ kvs k
def xF(H:Hp)(a:Addr)(y v:V)(H':Hp):Prop:=
 (∃kvs k,H a=some (.dK kvs)/\y=kV k/\kvs.length < VD/\H'=upd H a (.dK (putK kvs k v)))\/
 ∃kvs k b,H a=some (.dT kvs)/\y=.ref b/\H b=some (.tup (k.map kV))/\kvs.length < VD/\H'=upd H a (.dT (putK kvs k v))
theorem nq.k{k:Key}(e:H a=some (.dK kvs)):nq H a (kV k) (fJ kvs k):=.inl ⟨kvs,k,.inl e,rfl,rfl⟩
theorem nq.t{k:List Key}(e:H a=some (.dT kvs))(eb:H b=some (.tup (k.map kV))):nq H a (.ref b) (fJ kvs k):=.inr ⟨kvs,k,b,.inl e,rfl,eb,rfl⟩
theorem xF.k{k:Key}(e:H a=some (.dK kvs))(hl:kvs.length < VD):xF H a (kV k) v (upd H a (.dK (putK kvs k v))):=.inl ⟨kvs,k,e,rfl,hl,rfl⟩
theorem xF.t{k:List Key}(e:H a=some (.dT kvs))(eb:H b=some (.tup (k.map kV)))(hl:kvs.length < VD):
  xF H a (.ref b) v (upd H a (.dT (putK kvs k v))):=.inr ⟨kvs,k,b,e,rfl,eb,hl,rfl⟩
section
variable{X:Cx}{pins:List (Addr×Obj)}{σ:St}{H:Hp}{s:Vv}{a:Addr}{y v:V}{u r:Value}{o:Option V}{A:WN}{E:Value->Vv->Prop}
theorem Inv.Su(I:Inv X pins σ H s):W6 < s.heap.objs.size:=by have h:Vu < s.heap.objs.size:=(I.mod.glob.keeps I.bk).lt;exact Zq (by decide) h
theorem Cn(hu:A.units+1 < cLine)(I:Inv X pins σ H s)(g:nq H a y (some v))(ry:RelV y u)(h:∀w' s',Inv X pins σ H s'->RelV v w'->Q w' s'):
  wpAny (model X.prog X.w) A (Zb (.ref a) u) Q E s:=by
 rcases g with ⟨kvs,k,e,ey,l⟩|⟨kvs,k,b,e,ey,eb,l⟩
 ·subst ey;obtain⟨z,hd,vs,rel,dd⟩:=pN I.aH e;obtain⟨w',hw,mj⟩:=kh.some_of (v:=v) (o:=Z5 vs k) (by rw[l];exact rel.val k);exact wpAny_getItem_of (nk ry) dd.mapOf hw (h w' _ (I.tok _) mj)
 ·subst ey;cases (show u=VJ b from ry);obtain⟨z,hd,xs,rel,dd⟩:=pO I.aH e;obtain⟨w',hw,mj⟩:=kh.some_of (v:=v) (o:=(atKey xs k).map (·.2)) (by rw[l];exact rel.val k);obtain⟨p,hp,hp2⟩:=Option.map_eq_some_iff.mp hw;refine wpAny_getItem_heap (Yz hu) (rR I.aH eb) dd hp ?_;rw[hp2];exact h w' _ (I.tok _) mj
theorem Sv(hu:A.units+1 < cLine)(I:Inv X pins σ H s)(g:nq H a y o)(ry:RelV y u)(h:∀s',Inv X pins σ H s'->Q (.bool o.isSome) s'):
  wpAny (model X.prog X.w) A (WC .In u (.ref a)) Q E s:=by
 rcases g with ⟨kvs,k,e,ey,l⟩|⟨kvs,k,b,e,ey,eb,l⟩
 ·subst ey;obtain⟨z,hd,vs,rel,dd⟩:=pN I.aH e;refine wpAny_in_of (nk ry) hd dd.mapOf ?_;rw[<-(rel.val k).ic,<-l];exact h _ (I.tok _)
 ·subst ey;cases (show u=VJ b from ry);obtain⟨z,hd,xs,rel,dd⟩:=pO I.aH e;refine wpAny_in_heap (Yz hu) (rR I.aH eb) hd dd ?_;have q:=(rel.val k).ic;rw[Yj] at q;rw[<-q,<-l];exact h _ (I.tok _)
theorem G4(hu:A.units+1 < cLine)(I:Inv X pins σ H s)(g:nq H a y o)(ry:RelV y u)(h:∀s',Inv X pins σ H s'->Q (.bool (!o.isSome)) s'):
  wpAny (model X.prog X.w) A (WC .NotIn u (.ref a)) Q E s:=by
 rcases g with ⟨kvs,k,e,ey,l⟩|⟨kvs,k,b,e,ey,eb,l⟩
 ·subst ey;obtain⟨z,hd,vs,rel,dd⟩:=pN I.aH e;refine wpAny_notIn_of (nk ry) hd dd.mapOf ?_;rw[<-(rel.val k).ic,<-l];exact h _ (I.tok _)
 ·subst ey;cases (show u=VJ b from ry);obtain⟨z,hd,xs,rel,dd⟩:=pO I.aH e;refine wpAny_notIn_heap (Yz hu) (rR I.aH eb) hd dd ?_;have q:=(rel.val k).ic;rw[Yj] at q;rw[<-q,<-l];exact h _ (I.tok _)
theorem lp(I:Inv X pins σ H s)(mu:Nu (H a))(hs:XS a s.heap h')(he:∃q,h'.get? a=some q)(new:bz X.prog X.w (upd H a ob) h' a ob):
  Inv X pins σ (upd H a ob) {s with heap:=h',toks:=t'}:=
 I.write (x:=a) (e:=a) mu (.inl rfl) (λb q hb z=>(hs.2 b hb).trans z) he new
theorem rS(z:kvs.length<=VD)(hd:(a==W6)=false)(rel:KV kvs vs)(dd:h'.DictOf (bc P w) a vs):
  bz P w H' h' a (.dK kvs):=⟨z,hd,vs,rel,dd⟩
theorem Co(hu:A.units+1 < cLine)(I:Inv X pins σ H s)(g:xF H a y v H')(ry:RelV y u)(rv:RelV v r)(h:∀s',Inv X pins σ H' s'->Q () s'):
  wpAny (model X.prog X.w) A (setItem (.ref a) u r) Q E s:=by
 rcases g with ⟨kvs,k,e,ey,l,eH⟩|⟨kvs,k,b,e,ey,eb,l,eH⟩
 ·subst ey eH;obtain⟨z,hd,vs,rel,dd⟩:=uZ I.aH e;have hz:vs.length<=VD:=by rw[<-rel.length];exact z
  have hl:(putK kvs k v).length<=VD:=by have:=iN kvs k v;omega
  refine wpAny_setItem_pairs (hsz:=hz) (nk ry) dd λh' zN hs=>h _ ?_;have he:∃q,h'.get? a=some q:=let ⟨q,_,_,hq,_⟩:=zN;⟨q,hq⟩
  exact lp I (by rw[e];exact WY) hs he (rS hl hd (rel.put k rv) zN)
 ·subst ey eH;cases (show u=VJ b from ry);obtain⟨z,hd,xs,rel,dd⟩:=Oc I.aH e;have hz:xs.length<=VD:=by rw[<-ZN rel];exact z
  have hl:(putK kvs k v).length<=VD:=by have:=iN kvs k v;omega
  refine wpAny_setItem_heap (hsz:=hz) (Yz hu) (rR I.aH eb) dd λh' zN hs=>h _ ?_;obtain⟨q,es,ep,hq,h2,h3,h4,_,h5⟩:=zN;refine lp I (by rw[e];exact WY) hs ⟨q,hq⟩ ⟨hl,hd,_,(rel.put k eb rv).keeps λc ys ec=>?_,q,es,ep,hq,h2,h3,h4,h5⟩;rw[aw (Nt ec e (λz=>nomatch z))];exact ec
end
section
variable{X:Cx}{pins:List (Addr×Obj)}{σ:St}{H:Hp}{s:Vv}{a:Addr}{kvs:List (Key×V)}{k:Key}{u:Value}{A:WN}{E:Value->Vv->Prop}
theorem Nc(I:Inv X pins σ H s)(e:H a=some (.dK kvs))(ry:RelV (kV k) u)(l:(fJ kvs k).isSome=true)(h:∀s',Inv X pins σ (upd H a (.dK (nh kvs k))) s'->Q () s'):
  wpAny (model X.prog X.w) A (delItem (.ref a) u) Q E s:=by
 obtain⟨z,hd,vs,rel,dd⟩:=uZ I.aH e;refine wpAny_delItem_slot dd.typeIs (by decide) PySem.F.slot_dict_delitem
  (Zp PySem.F.slot_dict_delitem dd.typeIs PySem.F.entry_dict_delitem (PySem.F.args_dict_delitem_2 _ _) (meets_dict_delitem_pairs (bc X.prog X.w) a (nk ry)) ⟨vs,dd,by rw[<-rel.length];exact z,by rw[<-(rel.val k).ic];exact l,λh' zN hs=>h _ ?_⟩)
 have he:∃q,h'.get? a=some q:=let ⟨q,_,_,hq,_⟩:=zN;⟨q,hq⟩
 exact lp I (by rw[e];exact WY) hs he (rS (V3 (xE kvs k) z) hd (rel.drop k) zN)
theorem Od(I:Inv X pins σ H s)(e:H a=some (.dK kvs))(ry:RelV (kV k) u)(l:fJ kvs k=some v)(hm:more=[]\/∃x,more=[x])(h:∀w' s',Inv X pins σ (upd H a (.dK (nh kvs k))) s'->RelV v w'->Q w' s'):wpAny (model X.prog X.w) A (call (.builtin "dict.pop") (.ref a::u::more)) Q E s:=by
 obtain⟨z,hd,vs,rel,dd⟩:=uZ I.aH e;obtain⟨w',hw,mj⟩:=kh.some_of (v:=v) (o:=Z5 vs k) (by rw[<-l];exact rel.val k);have hp:(keyPart u).isSome=true:=by cases k with|inl i=>obtain⟨t,q⟩:=(show ∃t,u=Y6 i t from ry);subst q;rfl|inr x=>obtain⟨t,q⟩:=(show ∃t,u=Y5 x t from ry);subst q;rfl
 have ha:argsOk "dict.pop" ⟨.ref a::u::more,[]⟩:=by
  rcases hm with q|⟨x,q⟩;·subst q;exact PySem.F.args_dict_pop_2 _ _
  ·subst q;exact PySem.F.args_dict_pop_3 _ _ _
 refine Zp PySem.F.slot_dict_pop dd.typeIs PySem.F.entry_dict_pop ha (meets_dict_pop_there (bc X.prog X.w) a (nk ry) more hm hp)
  ⟨vs,w',dd,by rw[<-rel.length];exact z,hw,λh' zN hs=>h w' _ ?_ mj⟩
 have he:∃q,h'.get? a=some q:=let ⟨q,_,_,hq,_⟩:=zN;⟨q,hq⟩
 exact lp I (by rw[e];exact WY) hs he (rS (V3 (xE kvs k) z) hd (rel.drop k) zN)
theorem Oe(I:Inv X pins σ H s)(e:Rd H a (.dK kvs))(h:∀t s',Inv X pins σ H s'->Q (.int kvs.length t) s'):wpAny (model X.prog X.w) A (call (.builtin "len") [.ref a]) Q E s:=by obtain⟨z,hd,vs,rel,dd⟩:=pN I.aH e;refine call_len_dict hd dd (by rw[<-rel.length];rw[WR] at z;omega) ?_;rw[<-rel.length];exact h _ _ (I.tok _)
end
theorem xG(I:Inv X pins σ H s)(g:nq H a y o):s.TypeIs (.ref a) "dict":=by
 rcases g with ⟨kvs,k,e,_,_⟩|⟨kvs,k,b,e,_,_,_⟩
 ·obtain⟨_,_,vs,_,dd⟩:=pN I.aH e;exact dd.typeIs
 ·obtain⟨_,_,xs,_,dd⟩:=pO I.aH e;exact dd.typeIs
theorem xH(I:Inv X pins σ H s)(g:nq H a y o):
  ∀b,VJ a=.ref b->∃ob,s.heap.get? b=some ob/\ob.dict=none:=λb q=>by
 cases q;rcases g with ⟨kvs,k,e,_,_⟩|⟨kvs,k,b,e,_,_,_⟩
 ·obtain⟨_,_,vs,_,ob,_,_,h1,h2,_⟩:=pN I.aH e;exact⟨ob,h1,h2.2.1⟩
 ·obtain⟨_,_,xs,_,ob,_,_,h1,h2,_⟩:=pO I.aH e;exact⟨ob,h1,h2.2.1⟩
section
variable{X:Cx}{o i e value:Expr}{pos pos' Sb:Pos}{td ty tv:TE}
end
theorem xI(h:Heap)(hb:W6 < h.objs.size):bz P w H (h.push {cls:=.type "dict",data:=.dict #[]}) h.objs.size (.dK []):=
 ⟨WE _,beq_eq_false_iff_ne.mpr (Wg (VP hb)),[],.nil,Heap.DictOf.new h⟩
theorem D6(h:Heap)(hb:W6 < h.objs.size):bz P w H (h.push {cls:=.type "dict",data:=.dict #[]}) h.objs.size (.dT []):=
 ⟨WE _,beq_eq_false_iff_ne.mpr (Wg (VP hb)),[],.nil,_,#[],0,Vq _ rfl,⟨rfl,rfl,rfl⟩,rfl,rfl,List.nodup_nil⟩
def KE:TE:=λ_ H Q=>∀p,H p=none->Q (.ref p) (upd H p (.dK []))
def KG:TE:=λ_ H Q=>∀p,H p=none->Q (.ref p) (upd H p (.dT []))
section
variable{X:Cx}{pos:Pos}
theorem D7:PE X (.Dict [] [] pos) KE:=λpins s σ H Q I h=>wpAny_Dict_empty ⟨.ref s.heap.objs.size,_,I.laid (a:=s.heap.objs.size) (o:=.dK []) (t':=s.toks) (λ_ _ q=>Va _ q) (Vj _) (xI s.heap I.Su),rfl,h _ (I.aH.fresh (Vj _))⟩
theorem D8:PE X (.Dict [] [] pos) KG:=λpins s σ H Q I h=>wpAny_Dict_empty ⟨.ref s.heap.objs.size,_,I.laid (a:=s.heap.objs.size) (o:=.dT []) (t':=s.toks) (λ_ _ q=>Va _ q) (Vj _) (D6 s.heap I.Su),rfl,h _ (I.aH.fresh (Vj _))⟩
end
def Aj:List (TE×TE)->St->Hp->(List (V×V)->Hp->Prop)->Prop
 |[],_,H,Q=>Q [] H|(tk,tv)::r,σ,H,Q=>tk σ H λx H1=>tv σ H1 λy H2=>Aj r σ H2 λps H3=>Q ((x,y)::ps) H3
abbrev VV:List (V×V)->List (Value×Value)->Prop:=aaA λp q=>RelV p.1 q.1/\RelV p.2 q.2
def QZ(X:Cx)(pos:Pos)(keys:List (Option Expr))(values:List Expr)(KH:List (TE×TE)):Prop:=
 ∀(pins:List (Addr×Obj)) (s:Vv) (σ:St) (H:Hp) (Q:List (V×V)->Hp->Prop),Inv X pins σ H s->Aj KH σ H Q->
  wpAny (model X.prog X.w) X.A (evalPairs (pairTrees keys values X.env pos)) (λvs s'=>∃ps H',Inv X pins σ H' s'/\VV ps vs/\Q ps H') X.xe s
theorem G5:QZ X pos [] [] []:=λpins s σ H Q I h=>pairTrees_nil_walk ⟨[],H,I,.nil,h⟩
theorem D9(hk:PE X k tk)(hv:PE X v tv)(hr:QZ X pos ks vs KH):
  QZ X pos (some k::ks) (v::vs) ((tk,tv)::KH):=λpins s σ H Q I h=>
 pairTrees_cons_walk (bI (hk pins s σ H _ I h) λu s1 ⟨x,H1,I1,rx,q1⟩=>bI (hv pins s1 σ H1 _ I1 q1) λw2 s2 ⟨y,H2,I2,ry,q2⟩=>bI (hr pins s2 σ H2 _ I2 q2) λws s3 ⟨ps,H3,I3,rel,q3⟩=>⟨(x,y)::ps,H3,I3,.cons ⟨rx,ry⟩ rel,q3⟩)
def oB(kvs more:List (Key×V)):List (Key×V):=more.foldl (λacc kv=>putK acc kv.1 kv.2) kvs
theorem KV.merge:∀{more} {rs} {kvs} {vs},KV more rs->KV kvs vs->KV (oB kvs more) (merged vs rs):=by
 intro more rs kvs vs r;unfold KV at r;induction r generalizing kvs vs with
 |nil=>intro q;exact q|@cons p q ps qs h t ih=>
  intro r0;have e:KV (putK kvs p.1 p.2) (stored vs q.1 q.2):=by have:=r0.put p.1 h.2;rw[<-h.1];exact this
  exact ih e
theorem lT:∀(more kvs),(oB kvs more).length<=kvs.length+more.length
 |[],kvs=>by show kvs.length<=kvs.length+0;omega|p::r,kvs=>by have h1:=lT r (putK kvs p.1 p.2);have h2:=iN kvs p.1 p.2;show(oB (putK kvs p.1 p.2) r).length<=_;rw[Vt];omega
theorem rT:∀{kvs} {ws},VV (kvs.map λkv=>(kV kv.1,kv.2)) ws->∃rs,Carries (bc P w) ws rs/\KV kvs rs
 |[],_,r=>by rw[W9] at r;cases r;exact⟨[],WY,.nil⟩|p::kvs,_,r=>by rw[Vo] at r;cases r with|@cons a b as bs h t=>obtain⟨rs,c,q⟩:=rT (P:=P) (w:=w) t;obtain⟨b1,b2⟩:=b;exact⟨(p.1,b2)::rs,⟨nk h.1,rfl,c⟩,.cons ⟨rfl,h.2⟩ q⟩
def Of(KH:List (TE×TE)):TE:=λσ H Q=>∀p,H p=none->Aj KH σ (upd H p (.dK [])) λps H2=>H2 p=some (.dK [])/\∃kvs:List (Key×V),ps=kvs.map (λkv=>(kV kv.1,kv.2))/\kvs.length<=15/\Q (.ref p) (upd H2 p (.dK (oB [] kvs)))
theorem G6(h:QZ X pos keys values KH)(Ea:keys.all (·.isSome)=true)(hl:keys.length=values.length)(h0:keys≠[])(h15:keys.length<=15):PE X (.Dict keys values pos) (Of KH):=by
 intro pins s σ H Q I q;have hn:=I.aH.fresh (Vj s.heap.objs.size);have I1:=I.laid (a:=s.heap.objs.size) (o:=.dK []) (h':=s.heap.push {cls:=.type "dict",data:=.dict #[]}) (t':=s.toks) (λ_ _ q=>Va _ q) (Vj _) (xI s.heap I.Su);refine wpAny_Dict_walk (knd:=bc X.prog X.w) Ea hl h0 h15 (bI (h pins _ σ _ _ I1 (q _ hn)) λws s2 ⟨ps,H2,I2,rel,e,kvs,ep,lk,q2⟩=>?_);subst ep;obtain⟨rs,c,rk⟩:=rT (P:=X.prog) (w:=X.w) rel;obtain⟨z,hd,vs0,r0,dd⟩:=uZ I2.aH e;cases r0;refine⟨rs,c,dd,λh' zN hs=>⟨.ref s.heap.objs.size,_,?_,rfl,q2⟩⟩;have hz:(oB [] kvs).length<=VD:=by have h1:=lT kvs [];rw[WK] at h1;rw[WR];omega
 have he:∃q,h'.get? s.heap.objs.size=some q:=let ⟨q,_,_,hq,_⟩:=zN;⟨q,hq⟩
 exact lp I2 (by rw[e];exact WY) hs he (rS hz hd (rk.merge .nil) zN)
structure M1(X:Cx)(o:Expr)(m:Str)(apos:Pos)(e:Expr)(fS:Pos):Prop where
 base:XU o m X.env (eval o X.env)=eval o X.env
 Sw:((Xn fS (VM [e] X.env)).all (λx=>!x.1)&&(Zf fS (X6 [] X.env)).all (λx=>x.1.isSome)
  &&decide (([e]:List Expr).length+([]:List Z9).length+(if([]:List Z9).isEmpty then 0 else 1) < 30))=true
 line:(apos.endLine==fS.line)=true
 trees:Xn fS (VM [e] X.env)=[(false,eval e X.env)]
structure M2(X:Cx)(o:Expr)(m:Str)(apos:Pos)(e f:Expr)(fS:Pos):Prop where
 base:XU o m X.env (eval o X.env)=eval o X.env
 Sw:((Xn fS (VM [e,f] X.env)).all (λx=>!x.1)&&(Zf fS (X6 [] X.env)).all (λx=>x.1.isSome)
  &&decide (([e,f]:List Expr).length+([]:List Z9).length+(if([]:List Z9).isEmpty then 0 else 1) < 30))=true
 line:(apos.endLine==fS.line)=true
 trees:Xn fS (VM [e,f] X.env)=[(false,eval e X.env),(false,eval f X.env)]
def Q0(H:Hp)(a:Addr):Prop:=(∃kvs,Rd H a (.dK kvs))\/∃kvs,Rd H a (.dT kvs)
theorem Ak(I:Inv X pins σ H s)(d:Q0 H a):
  s.TypeIs (.ref a) "dict"/\(∀b,VJ a=.ref b->∃ob,s.heap.get? b=some ob/\ob.dict=none)/\(a==W6)=false:=by
 rcases d with ⟨kvs,e⟩|⟨kvs,e⟩
 ·obtain⟨_,hd,vs,_,dd⟩:=pN I.aH e;refine⟨dd.typeIs,λb q=>?_,hd⟩;cases q;obtain⟨ob,_,_,h1,h2,_⟩:=dd;exact⟨ob,h1,h2.2.1⟩
 ·obtain⟨_,hd,xs,_,dd⟩:=pO I.aH e;refine⟨dd.typeIs,λb q=>?_,hd⟩;cases q;obtain⟨ob,_,_,h1,h2,_⟩:=dd;exact⟨ob,h1,h2.2.1⟩
section
variable{X:Cx}{pins:List (Addr×Obj)}{σ:St}{H:Hp}{s:Vv}{a:Addr}{y d:V}{u r:Value}{o:Option V}{A:WN}{E:Value->Vv->Prop}
end
def KJ(td ty:TE):TE:=λσ H Q=>td σ H λx H1=>∃a,x=.ref a/\Q0 H1 a/\ty σ H1 λy H2=>∃kvs k v,H2 a=some (.dK kvs)/\y=kV k/\fJ kvs k=some v/\Q v (upd H2 a (.dK (nh kvs k)))
section
variable{X:Cx}{o e f:Expr}{apos fS:Pos}{td ty tx:TE}
theorem Eb(ho:PE X o td)(he:PE X e ty)(m:M1 X o "pop" apos e fS):PE X (.Call (.Attribute o "pop" apos) [e] [] fS) (KJ td ty):=by intro pins s σ H Q I h;refine wpAny_Call_method m.base m.Sw m.line YF PySem.F.slot_dict_pop PySem.F.type_dict_pop (bI (ho pins s σ H _ I h) λu s1 ⟨x,H1,I1,rx,a,ex,d,q1⟩=>?_);subst ex;obtain rfl:u=VJ a:=rx;obtain⟨t1,t2,_⟩:=Ak I1 d;refine⟨t1,t2,?_⟩;rw[m.trees];refine Xw rfl (Zi (Yb (bI (he pins s1 σ H1 _ I1 q1) λiv s2 ⟨y,H2,I2,ry,kvs,k,v,ea,ey,l,q2⟩=>YV ?_)));subst ey;exact Od I2 ea ry l (.inl rfl) λw' s3 I3 mj=>⟨v,_,I3,mj,q2⟩
end
section
variable{X:Cx}{pins:List (Addr×Obj)}{σ:St}{H:Hp}{s:Vv}{a:Addr}{kvs:List (Key×V)}{A:WN}{E:Value->Vv->Prop}
end
section
variable{X:Cx}{pins:List (Addr×Obj)}{σ:St}{H:Hp}{s:Vv}{a:Addr}{y:V}{u:Value}{A:WN}{E:Value->Vv->Prop}
end
end L2
namespace Att
open PySem PySem.W PySem.Calls PyProof.Rows
theorem qf:∀(ns) (vs),WellAll P h vs (ns.map WData.int)->aaH vs ns:=by intro ns;induction ns with|nil=>intro vs w;rw[W9] at w;cases w;exact .nil|cons n ns ih=>intro vs w;rw[Vo] at w;cases w with|cons a b=>cases a;exact .cons _ _ (ih _ b)
theorem Cp{l:OpenLaw}(hn:l.most=some n)(G7:l.row.toRowW.claim.pre args=true)(Q1:WellAll P h vals args):
  ∃a vs ns,vals=[VJ a]/\args=[WData.list (ns.map WData.int)]/\h.get? a=some {cls:=.type "list",data:=.seq vs.toArray}/\aaH vs ns/\ns.length<=n:=by
 have Bg:WShape.hasAll [] args [.list .int]=true:=(pre_splitW G7).1;have hc:l.pre.holds [] {args:=args}=true:=(pre_splitW G7).2;obtain⟨d,r,rfl,h1,h2⟩:=hasAllW_cons Bg;obtain rfl:=hasAllW_nil h2;obtain⟨xs,rfl,h3⟩:=hasW_list h1;obtain⟨ns,rfl⟩:=items_int h3;have hlen:ns.length<=n:=by
  unfold OpenLaw.pre at hc;have h4:(WTm.not (.lt (.lit (.int (n:Int))) (.len (.arg 0)))).holds [] {args:=[.list (ns.map .int)]}=true:=by have h4:=(holds_andW hc).1;rw[hn] at h4;exact h4
  have h5:=condW_of h4 (w_not (w_lt w_lit (w_len_list (w_arg rfl))));rw[Vg] at h5;refine Nat.le_of_not_lt λq=>?_;have q':(n:Int) < ((ns.length:Nat):Int):=by omega
  first
   |(rw[decide_eq_true q'] at h5;exact absurd h5 (by decide))
   |(simp at h5;omega)
 cases Q1 with|cons w1 w2=>cases w2;cases w1 with|list ho Ea=>exact⟨_,_,ns,rfl,rfl,ho,qf ns _ Ea,hlen⟩
theorem Cq(l:OpenLaw)args:l.row.toRowW.claim.post args (.bool true) args=true:=
 postW_of (r:=l.row.toRowW) (X:=(true==true))
  (show WShape.has [] (.bool true) .bool=true by first|rfl|decide|simp[WShape.has,WShape.arms,WShape.armsAll])
  (show(WTm.eq .res (.lit (.bool true))).value [] {args:=args,res:=some (.bool true),after:=args}=some (.bool (true==true)) from w_eq_bool (w_res rfl) w_lit) rfl
theorem xJ{l:OpenLaw}(hn:l.most=some n)(Og:d.params.defaults=[])(call:∀(w:World) (g7 br:Vv) (mg mb:Str->Option Value) (fa:Addr) (o:Obj) (pm cd doc:Value) (a:Addr) (vs:List Value) (ns:List Int),
   Ground q loose [] XP w g7 mg mb br.heap->YP w br.heap->
   br.heap.get? fa=some o->o.data=.func (docDef d.name d.params d.body d.scope pm cd doc)->br.heap.CodeRec cd d.name->mg d.name=some (.ref fa)->
   br.heap.get? a=some {cls:=.type "list",data:=.seq vs.toArray}->aaH vs ns->ns.length<=n->br.gens=#[]->
   Zc (model l.prog w) aar (.call (.ref fa) ⟨[.ref a],[]⟩) (λr s'=>r=.ok (.ret (.bool true))/\OldK br.heap s'.heap/\s'.os=br.os/\ZG s'.gens) br):
  WalkO q loose XP YP l.row.toRowW d [] (λf vs=>aaY f vs):=by
 intro w g7 br mg mb G Y fa o pm cd doc dV kV ho hd pI hD Oh hg args vals as G7 hlay hrd Q1 hlo;obtain rfl:dV=.none:=Dflts.none hD Og;obtain rfl:kV=.none:=Dflts.noKw hD;obtain⟨a,vs,ns,rfl,rfl,Cr,hints,hlen⟩:=Cp hn G7 Q1;refine enter_call (Zo (call w g7 br mg mb fa o pm cd doc a vs ns G Y ho (fd_plain hd) pI Oh Cr hints hlen hg) λr s' hq=>?_);obtain⟨rfl,h2,h3,h4⟩:=hq;exact⟨.inl ⟨.bool true,.bool true,[],rfl,λ_=>rfl,.bool true,Cq l _,λ_=>⟨List.Pairwise.nil,λ_ hm=>(nomatch hm)⟩⟩,h2,h3,h4⟩
section
variable{prog:Wf}{w:World}{A:WN}{E:Value->Vv->Prop}{s:Vv}{K:Frag}
end
end Att
namespace L2
open PySem PySem.Spec PyProof.Rows
theorem u0:∀{vs} {ns},aaH vs ns->aP (ns.map V.int) vs
 |_,_,.nil=>.nil|_,_,.cons n t h=>.cons ⟨t,rfl⟩ (u0 h)
def qS(s:Stmt):Ye:=match s with|.FunctionDef _ a _ _ _ _ _ _ _ _=>a|_=>{posonlyargs:=[],args:=[],vararg:=none,kwonlyargs:=[],kw_defaults:=[],kwarg:=none,defaults:=[]}
def lq(s:Stmt):List Stmt:=match s with|.FunctionDef _ _ b _ _ _ _ _ _ _=>b|_=>[]
def ax(s:Stmt):Scope:=match s with|.FunctionDef _ _ _ _ _ _ sc _ _ _=>sc|_=>{kind:=.function,names:=[],isGenerator:=false,isCoroutine:=false}
abbrev tX:Gg:=λ_ _ _ _ _ _=>False
abbrev E0:XK:=λ_ _ _=>False
theorem xK:kl tX X E0:=λ_ _ _ _ _ _ _ h=>h.elim
structure oE(K:Vm)(x qual:Str)(st:Stmt)(f:Addr)(fd:Xg):Prop where
 ex:∃(oc:Value) (od:Option Addr) (kV doc pm:Value) (an:Option Addr) (kg ct:Value) (GR:Array (Option Value)),
  fd=YM x qual (qS st) (lq st) (ax st) .none kV doc pm an kg ct/\K.lookup f=some ⟨oc,od,.func fd,GR⟩/\aan K kg qual=true
 kp:XC K (.ref f)=true
section
variable{P:Wf}{w:World}{K:Vm}{mg:Str->Option Value}{base:Heap}
theorem oE.binds{st:Stmt}(F:oE K x qual st f fd)(h:∀(kV doc pm:Value) (an:Option Addr) (kg ct:Value) (us:List Value),us.length=ps.length->aaW (YM x qual (qS st) (lq st) (ax st) .none kV doc pm an kg ct) ⟨us,[]⟩=pure (ps.zip us)):Binds K fd ps []:=by obtain⟨oc,od,kV,doc,pm,an,kg,ct,GR,rfl,lk,pI⟩:=F.ex;exact .all (h kV doc pm an kg ct)
theorem KL{st:Stmt}{kV doc pm kg ct:Value}(l:K.lookup f=some ⟨oc,od,.func (YM x qual (qS st) (lq st) (ax st) .none kV doc pm an kg ct),GR⟩)(c:aan K kg qual=true)(k:XC K (.ref f)=true):oE K x qual st f (YM x qual (qS st) (lq st) (ax st) .none kV doc pm an kg ct):=⟨⟨oc,od,kV,doc,pm,an,kg,ct,GR,rfl,l,c⟩,k⟩
end
section
variable{X:Cx}
end
def ji(H H':Hp):Prop:=∀b o,H b=some o->H' b=some o
theorem ji.refl H:ji H H:=λ_ _ h=>h
section
variable{κ:Type}[DecidableEq κ]
end
def dJ(env:Env):List (Str×XO)->List (Str×Addr)->List (Str×Addr)
 |[],cs=>cs|(n,k)::r,cs=>dJ env r (if(k==Vx)=true then(n,(env.cells.lookup n).getD 0)::cs else cs)
theorem rU(h:∀x∈sc.names,x.2=.free->∃c,env.cells.lookup x.1=some c):Zt sc env=pure (dJ env sc.names []):=by
 have go:∀(l:List (Str×XO)) (cs:List (Str×Addr)),(∀x∈l,x.2=.free->∃c,env.cells.lookup x.1=some c)->
   (forIn l cs (λ(x:Str×XO) (r:List (Str×Addr))=>if(x.2==Vx)=true then do let a<-aaN env x.1;pure (WW ((x.1,a)::r)) else pure (WW r)):Sem (List (Str×Addr)))=pure (dJ env l cs):=by
  intro l;induction l with
  |nil=>intro cs _;rfl|cons x r ih=>
   intro cs hx;obtain⟨n,k⟩:=x;have hr:∀y∈r,y.2=.free->∃c,env.cells.lookup y.1=some c:=λy hy=>hx y (Vb _ hy);rw[Yd];by_cases hk:(k==Vx)=true
   ·obtain⟨c,hc⟩:=hx (n,k) Vh (by simpa using hk);have e:aaN env n=pure c:=by unfold aaN;simp only at hc;rw[hc]
    simp only[hk,if_true,e];show _=pure (dJ env r (if(k==Vx)=true then(n,(env.cells.lookup n).getD 0)::cs else cs));rw[if_pos hk];simp only at hc;rw[hc];exact ih _ hr
   ·simp only[hk];show _=pure (dJ env r (if(k==Vx)=true then(n,(env.cells.lookup n).getD 0)::cs else cs));rw[if_neg hk];exact ih _ hr
 have q:=go sc.names [] h;unfold Zt;show((forIn sc.names [] (λ(x:Str×XO) (r:List (Str×Addr))=>if(x.2==Vx)=true then do let a<-aaN env x.1;pure (WW ((x.1,a)::r)) else pure (WW r)):Sem (List (Str×Addr))) >>=λcs=>pure cs)=_;rw[q];rfl
theorem kq:∀{l} {cs},((x,Vx)∈l\/∃c,cs.lookup x=some c)->∃c,(dJ env l cs).lookup x=some c
 |[],cs,h=>by
  rcases h with h|h;·exact nomatch h
  ·exact h
 |(n,k)::r,cs,h=>by
  show ∃c,(dJ env r (if(k==Vx)=true then(n,(env.cells.lookup n).getD 0)::cs else cs)).lookup x=some c;refine kq ?_;rcases h with h|⟨c,h⟩
  ·rcases W4.mp h with e|e;·injection e with e1 e2;subst e1 e2;right;rw[if_pos (by rfl)];exact⟨_,by rw[VG];simp;rfl⟩
   ·exact .inl e
  ·right;by_cases hk:(k==Vx)=true
   ·rw[if_pos hk,VG];split;·exact⟨_,rfl⟩
    ·exact⟨c,h⟩
   ·rw[if_neg hk];exact⟨c,h⟩
theorem pP:∀{l} {cs},(∀y∈l,y.2=.free->∃d,env.cells.lookup y.1=some d)->
  (dJ env l cs).lookup x=some c->cs.lookup x=some c\/((x,Vx)∈l/\env.cells.lookup x=some c)
 |[],cs,_,h=>.inl h|(n,k)::r,cs,hx,h=>by
  have h':(dJ env r (if(k==Vx)=true then(n,(env.cells.lookup n).getD 0)::cs else cs)).lookup x=some c:=h;rcases pP (λy hy=>hx y (Vb _ hy)) h' with q|⟨q1,q2⟩
  ·by_cases hk:(k==Vx)=true
   ·rw[if_pos hk,VG] at q;split at q
    ·rename_i e;have e':x=n:=by simpa using e
     subst e';have Oi:k=.free:=by simpa using hk
     subst Oi;obtain⟨d,hd⟩:=hx (x,.free) Vh rfl;simp only at hd;rw[hd] at q;simp only[ZT] at q;exact .inr ⟨Vh,by rw[hd];exact q⟩
    ·exact .inl q
   ·rw[if_neg hk] at q;exact .inl q
  ·exact .inr ⟨Vb _ q1,q2⟩
section
variable{prog:Wf}{w:World}{A:WN}{R:Result->Vv->Prop}{s:Vv}
theorem u5(I:Nat->Vv->Prop)(turn:∀n s,I n s->wpAny (model prog w) A (ZL it) (λr br=>match r with
   |none=>R (.ok .next) br
   |some v=>wpAny (model prog w) A (Zk target it v) (λ_ Jr=>wpAny (model prog w) A (aaX target env v) (λ_ ud=>
     wpAny (model prog w) A (forIn ifs true λc r=>if r=true then do let ok<-aaM c env (eval c env);pure (WW ok) else pure (WW r)) (λok Cs=>
      if ok=true then wpAny (model prog w) A (eval elt env) (λx Oj=>wpAny (model prog w) A (call (.builtin "list.append") [acc,x]) (λ_ Ol=>∃m,m < n/\I m Ol) (λ_ _=>False) Oj) (λ_ _=>False) Cs
      else ∃m,m < n/\I m Cs) (λ_ _=>False) ud) (λ_ _=>False) Jr) (λ_ _=>False) br) (λ_ _=>False) s)n(h:I n s):
  Zc (model prog w) A (.compLoop (.ListComp elt [⟨target,iter,ifs,0⟩] scope pos) 0 it acc env) R s:=by
 refine codeAny_loop rfl I (λn s hI=>?_) n h;show wpAny _ A ((compTurn (.ListComp elt [⟨target,iter,ifs,0⟩] scope pos) 0 it acc env).onRaise (λx=>do noteFrame x env;theTreesLotGoes x)) _ _ s;refine wpAny_noted ?_;rw[compTurn_list];refine U7 (wpAny_standAt (U7 (WX (turn n s hI) (λr br du=>?_) λ_ _ h'=>h'.elim)));cases r with|none=>exact Vn du|some v=>refine U7 (WX du (λ_ Jr Om=>?_) λ_ _ h'=>h'.elim);refine U7 (WX Om (λ_ ud kr=>U7 (WX kr (λok Cs jb=>?_) λ_ _ h'=>h'.elim)) λ_ _ h'=>h'.elim);cases ok with|false=>exact Vn ⟨rfl,jb⟩|true=>exact U7 (U7 (WX jb (λx Oj Ct=>U7 (WX Ct (λ_ Ol lH=>Vn (Vn ⟨rfl,lH⟩)) λ_ _ h'=>h'.elim)) λ_ _ h'=>h'.elim))
end
theorem jH{env:Env}:∀{names:List (Str×XO)} {x},names.lookup x=some .free->
  (names.map λ(n,k)=>if(k==Vx&&env.scope.kind==.function&&env.kindOf n==some .cell) then(n,WT) else(n,k)).lookup x=some .cell\/
  (names.map λ(n,k)=>if(k==Vx&&env.scope.kind==.function&&env.kindOf n==some .cell) then(n,WT) else(n,k)).lookup x=some .free
 |[],_,h=>by simp at h|(n,k)::r,x,h=>by
  have ih:=@jH env r x;show Xc x ((if(k==Vx&&env.scope.kind==.function&&env.kindOf n==some .cell)=true then(n,WT) else(n,k))::_)=_\/Xc x ((if(k==Vx&&env.scope.kind==.function&&env.kindOf n==some .cell)=true then(n,WT) else(n,k))::_)=_;cases hx:x==n with
  |true=>
   simp only[VG,hx] at h;cases h;by_cases hc:(Vx==Vx&&env.scope.kind==.function&&env.kindOf n==some .cell)=true;·rw[if_pos hc];simp[VG,hx]
   ·rw[if_neg hc];simp[VG,hx]
  |false=>
   simp only[VG,hx] at h;by_cases hc:(k==Vx&&env.scope.kind==.function&&env.kindOf n==some .cell)=true;·rw[if_pos hc];simp only[VG,hx];exact ih h
   ·rw[if_neg hc];simp only[VG,hx];exact ih h
theorem pQ{env:Env}:∀{names:List (Str×XO)} {x} {q},q=.cell\/q=.free->
  (names.map λ(n,k)=>if(k==Vx&&env.scope.kind==.function&&env.kindOf n==some .cell) then(n,WT) else(n,k)).lookup x=some q->∃k,(x,k)∈names/\(k=.free\/k=.cell)
 |[],_,_,_,h=>by simp at h|(n,k)::r,x,q,hq,h=>by
  have h':Xc x ((if(k==Vx&&env.scope.kind==.function&&env.kindOf n==some .cell)=true then(n,WT) else(n,k))::(r.map λ(n,k)=>if(k==Vx&&env.scope.kind==.function&&env.kindOf n==some .cell) then(n,WT) else(n,k)))=some q:=h;cases hx:x==n with
  |true=>
   have e:x=n:=by simpa using hx
   by_cases hc:(k==Vx&&env.scope.kind==.function&&env.kindOf n==some .cell)=true
   ·have hk:k=.free:=by simp only[U9] at hc;simpa using hc.1.1
    exact⟨k,by rw[e];exact Vh,.inl hk⟩
   ·rw[if_neg hc] at h';simp only[VG,hx] at h';cases h';exact⟨k,by rw[e];exact Vh,hq.symm⟩
  |false=>
   have h2:Xc x (r.map λ(n,k)=>if(k==Vx&&env.scope.kind==.function&&env.kindOf n==some .cell) then(n,WT) else(n,k))=some q:=by
    by_cases hc:(k==Vx&&env.scope.kind==.function&&env.kindOf n==some .cell)=true;·rw[if_pos hc] at h';simpa only[VG,hx] using h'
    ·rw[if_neg hc] at h';simpa only[VG,hx] using h'
   obtain⟨k',m,z⟩:=pQ hq h2;exact⟨k',Vb _ m,z⟩
def mn(X:Cx)(pins:List (Addr×Obj))(N:List Str)(sc:Scope)(fp:List Addr)(C:Addr)(s:Vv)(H:Hp):Cx where
 prog:=X.prog
 w:=X.w
 K:=X.K
 mg:=X.mg
 base:=X.base
 A:=X.A
 N:=N
 g7:=s
 xx:=H
 env:=compEnvC sc (dJ X.env sc.names []) C X.env
 outer:=X.stack
 stack:=X.stack
 ex:=fp
 calm:=X.calm
 fn:=λ_=>false
 pn:=X.pn++pins
 xe:=λ_ _=>False
structure jI(X:Cx)(N:List Str)(ts:Nat)(js:List Nat)(sc:Scope):Prop where
 kind:sc.kind=.function
 len:N.length=ts+js.length
 fT:∀x∈sc.names,x.2≠.cell
 names:∀x∈sc.names,x.2=.local->sc.names.lookup x.1=some .local
 frees:∀x∈sc.names,x.2=.free->X.env.kindOf x.1=some .cell\/X.env.kindOf x.1=some .free
 slots:∀(i:Nat) (y:Str) (j:Nat),N[ts+i]?=some y->js[i]?=some j->X.N[j]?=some y/\sc.names.lookup y=some .free
def iO(ts:Nat)(js:List Nat)(σ:St):St:=V4 ts none++js.map λj=>(σ[j]?).join
section
variable{X:Cx}{pins:List (Addr×Obj)}{σ:St}{H:Hp}{s:Vv}{N:List Str}{ts:Nat}{js:List Nat}{sc:Scope}{fp:List Addr}
theorem jI.cl(B:jI X N ts js sc)(ok:X.Ok):∀x∈sc.names,x.2=.free->∃c,X.env.cells.lookup x.1=some c:=λx hx hk=>ok.has x.1 (B.frees x hx hk)
theorem jI.get(B:jI X N ts js sc)(ok:X.Ok)(h:(dJ X.env sc.names []).lookup x=some c):X.env.cells.lookup x=some c:=by
 rcases pP (B.cl ok) h with q|⟨_,q⟩;·cases q
 ·exact q
theorem Inv.Sx(I:Inv X pins σ H s)(f:mf X pins H b):b∉jC X.stack:=λz=>by
 rcases W4.mp (I.ot b z) with e|e;·exact f.2.1 e
 ·exact f.2.2.1 e
theorem Inv.okB(I:Inv X pins σ H s)(B:jI X N ts js sc)(hf:∀b∈fp,mf X pins H b)(ho:∀b∈fp,b < s.heap.objs.size):(mn X pins N sc fp s.heap.objs.size s H).Ok where
 mod:=I.ok.mod
 kind:=B.kind
 glob:=I.ok.glob
 blt:=I.ok.blt
 above:=Vj _
 inj:=λx y c h1 h2=>I.ok.inj x y c (B.get I.ok h1) (B.get I.ok h2)
 has:=λx hx=>by
  have xi:∃q,(q=WT\/q=.free)/\(sc.names.map λ(n,k)=>if(k==Vx&&X.env.scope.kind==.function&&X.env.kindOf n==some .cell) then(n,WT) else(n,k)).lookup x=some q:=by
   rcases hx with h|h;·exact⟨_,.inl rfl,h⟩
   ·exact⟨_,.inr rfl,h⟩
  obtain⟨q,hq,hl⟩:=xi;obtain⟨k,hm,hk⟩:=pQ hq hl;have Oi:k=.free:=hk.resolve_right (B.fT _ hm);subst Oi;exact kq (.inl hm)
 J8:=λx c h=>absurd (show false=true from h) V7
 hd:=I.ok.hd
 frames:=I.ok.frames
 Nx:=.inl rfl
 RN:=λb hb=>⟨VP (ho b hb),λx c h=>(hf b hb).2.2.2.2.1 x c (B.get I.ok h)⟩
 bs:=I.bs
 Dq:=V3 I.ok.Dq I.sz
 B6:=λb o e hb=>by
  rcases(hf b hb).2.2.2.1 with z|z;·exact I.ok.B6 b o e z
  ·exact absurd (VI (Vs e) (V3 I.ok.Dq z)) (W3 _)
 Dz:=λb hb=>I.Sx (hf b hb)
 ma:=I.stack
 Gz:=I.m5
theorem Inv.block(I:Inv X pins σ H s)(B:jI X N ts js sc)(hf:∀b∈fp,mf X pins H b)(ho:∀b∈fp,b < s.heap.objs.size)(hn:h'.Ns s.heap.objs.size m)(k:∀b o,s.heap.get? b=some o->h'.get? b=some o):Inv (mn X pins N sc fp s.heap.objs.size s H) [] (iO ts js σ) H {s with heap:=h',toks:=tk}:=by
 refine⟨I.okB B hf ho,rfl,I.bare,Un.kept k,⟨m,hn,λi y v h1 h2 h3=>?_⟩,λx c h=>?_,I.aH.fresh (Vj _),λx c h=>I.jX x c (B.get I.ok h),λp hp=>?_,I.aH.kept k,?_⟩
 ·have hi:ts<=i:=by
   by_cases hi:ts<=i;·exact hi
   ·unfold iO at h2;rw[Vf (by simpa using hi),X4] at h2;split at h2<;>cases h2
  obtain⟨d,rfl⟩:∃d,i=ts+d:=⟨i - ts,by omega⟩;have qT:(js.map λj=>(σ[j]?).join)[d]?=some (some v):=by unfold iO at h2;rw[Vz (by simp)] at h2;simpa using h2
  rw[Vi] at qT;cases ej:js[d]? with
  |none=>rw[ej] at qT;cases qT|some j=>
   rw[ej] at qT;have h4:(σ[j]?).join=some v:=by simpa using qT
   have h5:σ[j]?=some (some v):=by cases e:σ[j]? with|none=>rw[e] at h4;cases h4|some o=>rw[e] at h4;simp at h4;rw[h4]
   obtain⟨g1,g2⟩:=B.slots d y j h1 ej;have hm:(y,Vx)∈sc.names:=V2 g2;have hk:=B.frees _ hm rfl;obtain⟨m0,hn0,hl0⟩:=I.loc;have hv:Nw X.env.scope y:=by
    rcases hk with z|z;·exact .inr (.inl z)
    ·exact .inr (.inr z)
   obtain⟨u,ru,lk⟩:=hl0 j y v g1 h5 hv;refine⟨u,ru,.inr ⟨jH g2,?_⟩⟩;rcases lk with ⟨z,_⟩|⟨_,c,hc,m7⟩
   ·rcases hk with z'|z'<;>(rw[z] at z';cases z')
   ·obtain⟨c',A6⟩:=kq (env:=X.env) (l:=sc.names) (cs:=[]) (.inl hm);have e:=B.get I.ok A6;rw[hc] at e;cases e;obtain⟨o,oq,A4⟩:=m7;exact⟨c,A6,o,k _ _ oq,A4⟩
 ·obtain⟨v,o,oq,A4⟩:=I.cell x c (B.get I.ok h);exact⟨v,o,k _ _ oq,A4⟩
 ·have Cu:p∈X.pn++pins:=by simpa[mn] using hp
  obtain⟨e,n,ne,nf,d⟩:=I.pin p Cu;refine⟨k _ _ e,n,VP (Vs e),λz=>?_,d⟩;rcases W4.mp (I.ot p.1 z) with q|q;·exact ne q
  ·exact nf q
 ·show(iO ts js σ).length=N.length;unfold iO;rw[Vy,YZ,Vg,B.len]
end
def Ec(X:Cx)(ifs:List Expr)(t:TT):Prop:=
 ∀(pins:List (Addr×Obj)) (s:Vv) (σ:St) (H:Hp) (Q:Bool->Hp->Prop),Inv X pins σ H s->t σ H Q->
  wpAny (model X.prog X.w) X.A (forIn ifs true λc r=>if r=true then do let ok<-aaM c X.env (eval c X.env);pure (WW ok) else pure (WW r)) (TP X pins σ Q) X.xe s
def Sy:TT:=λ_ H Q=>Q true H
theorem G8:Ec X [] Sy:=λ_ _ _ H _ I h=>wpAny_tests_nil ⟨H,I,h⟩
theorem G9(h:PT X c t):Ec X [c] t:=λpins s σ H Q I q=>wpAny_tests_one (h pins s σ H Q I q)
def Bh(wi:TI)(g:TG)(tc:TT)(te:TE)(ts:Nat)(js:List Nat):TE:=λσ H Q=>wi σ H λJ H1=>∀acc,H1 acc=none->
 ∃W:Nat->Nat->St->Hp->Prop,(∃m,W 0 m (iO ts js σ) (upd H1 acc (.lst [])))/\∀i m τ H,W i m τ H->
  (J.stop i H/\Q (.ref acc) H)\/(J.go i H/\∀x H',J.NM i H x H'->g x τ H' λQ2 H2=>tc Q2 H2 λb H3=>
   if b=true then te Q2 H3 λy H4=>∃ys,H4 acc=some (.lst ys)/\ys.length < VD/\∃m',m' < m/\W (i+1) m' Q2 (upd H4 acc (.lst (ys++[y])))
   else ∃m',m' < m/\W (i+1) m' Q2 H3)
section
variable{X:Cx}{elt iter tg:Expr}{ifs:List Expr}{sc:Scope}{pos:Pos}{N:List Str}{ts:Nat}{js:List Nat}{wi:TI}{g:TG}{tc:TT}{te:TE}
theorem Inv.xM(I:Inv X pins σ H s)(hf:∀b∈fp,mf X pins H b)(J:Inv (mn X pins N sc fp s.heap.objs.size s H) [] τ H' s')(sb:XS s.heap.objs.size s'.heap h''):Inv X pins σ H' {s' with heap:=h''}:=by
 have hC:H' s.heap.objs.size=none:=J.free;have k:∀b o,b≠s.heap.objs.size->s'.heap.get? b=some o->h''.get? b=some o:=λb o hb e=>sb.extBut b o hb e;have ne:∀b o,s.heap.get? b=some o->b≠s.heap.objs.size:=λb o e=>VP (Vs e);have u:Un (jC X.stack) fp H H' s.heap h'':=
  ⟨λb o e n hb hx=>k b o (ne b o e) (J.base.keep b o e n hb hx),
   λb o e n hb hx=>by
   obtain⟨sl,q⟩:=J.base.slot b o e n hb hx;exact⟨sl,k b _ (ne b o e) q⟩,
   J.base.free,
   λb o e hx=>by
   obtain⟨o',q⟩:=J.base.there b o e hx;exact⟨o',k b _ (ne b o e) q⟩,
   J.base.rE,J.base.oo,J.base.qb⟩
 have aH:ki X.prog X.w H' h'':=λb ob e=>by
  refine(J.aH b ob e).mY (λc v hc q=>k c v ?_ q) (λ_ q=>q) λ_ _ q=>q;rintro rfl;rcases hc with z|z;·rw[z] at hC;rw[hC] at e;cases e
  ·rw[hC] at z;cases z
 exact I.DC (s':={s' with heap:=h''}) (ch:=fp) J.os u aH J.bare λb hb=>⟨(hf b hb).2.2.2.1,(hf b hb).2.1,(hf b hb).2.2.2.2.1,(hf b hb).2.2.2.2.2⟩
theorem Bi(hc:X.calm=true)(B:jI X N ts js sc)(hi:PI X tg iter wi)
  (hg:∀pins fp C s H,PG (mn X pins N sc fp C s H) tg g) (ht:∀pins fp C s H,Ec (mn X pins N sc fp C s H) ifs tc) (he:∀pins fp C s H,PE (mn X pins N sc fp C s H) elt te)
  (hs:∀x,Zy iter X.env x=pure x:=by intro _;rfl):PE X (.ListComp elt [⟨tg,iter,ifs,0⟩] sc pos) (Bh wi g tc te ts js):=by
 intro pins s σ H Q I h;rw[eval_ListComp];refine wpAny_comprehension_free (use:=none) rfl hs (rU (B.cl I.ok)) B.kind B.names (bI (hi pins s σ H _ I h) λv s1 h1=>bI h1 λQR s2 h2=>?_);obtain⟨it,fp,tn,J,H2,e,I2,T,st2,f2,qT⟩:=h2;subst e;have Cv:H2 s2.heap.objs.size=none:=I2.aH.fresh (Vj _);obtain⟨W,⟨m0,w0⟩,turn⟩:=qT s2.heap.objs.size Cv;refine WB (Yl B.fT (by intro y hy;simp at hy) (λdu Al Am=>?_) B.kind);obtain⟨s3,Ha⟩:∃s3:Vv,({s2 with heap:=s2.heap.push {cls:=.type "list",dict:=none,data:=.seq ([]:List Value).toArray}}:Vv)=s3:=⟨_,rfl⟩;have e3:s3.heap=s2.heap.push {cls:=.type "list",dict:=none,data:=.seq ([]:List Value).toArray}:=by rw[<-Ha]
 have An:du.Ns s3.heap.objs.size λx=>([]:List (Str×Value)).reverse.lookup x:=by rw[e3];exact Al
 have Ao:XS s3.heap.objs.size (s3.heap.push {cls:=.type (if(some X.env).isSome then "dict" else "frame"),data:=.dict #[]}) du:=by rw[e3];exact Am
 have I3:Inv X pins σ (upd H2 s2.heap.objs.size (.lst [])) s3:=by rw[<-Ha];exact I2.laid (t':=s2.toks) (λb u e=>Va _ e) (Vj _) ⟨WE _,[],0,.nil,Vq _ rfl⟩
 have Oo:∀b∈fp,b < s2.heap.objs.size:=λb hb=>by obtain⟨o,e,_⟩:=T.obj _ _ st2 b hb;exact Vs e
 have f3:∀b∈fp,mf X pins (upd H2 s2.heap.objs.size (.lst [])) b:=λb hb=>⟨by rw[aw (VP (Oo b hb))];exact(f2 b hb).1,(f2 b hb).2⟩;have Sz:s2.heap.objs.size < s3.heap.objs.size:=by rw[e3,WG];exact WZ _
 have Oq:∀b∈fp,b < s3.heap.objs.size:=λb hb=>Zq (Oo b hb) Sz;have k1:∀b o,s3.heap.get? b=some o->du.get? b=some o:=λb o e=>Ao.extBut b o (VP (Vs e)) (Va _ e);have IB:=I3.block (tk:=s3.toks+([]:List (Str×Value)).length) (N:=N) B f3 Oq An k1;have oF:tn 0 du:=T.keep _ _ _ st2 λb hb o e=>k1 b o (by rw[e3];exact Va _ e);have rJ:∀{H':Hp},(∀b∈fp,H' b=none)->∀b∈fp,mf (mn X pins N sc fp s3.heap.objs.size s3 (upd H2 s2.heap.objs.size (.lst []))) [] H' b:=λhn b hb=>⟨hn b hb,VP (Oq b hb),I3.Sx (f3 b hb),.inl hb,λx c h=>(f3 b hb).2.2.2.2.1 x c (B.get I3.ok h),λp hp=>(f3 b hb).2.2.2.2.2 p (by simpa[mn] using hp)⟩;have loop:Zc (model X.prog X.w) X.A (.compLoop (.ListComp elt [⟨tg,iter,ifs,0⟩] sc pos) 0 (.ref it) (.ref s2.heap.objs.size) (compEnvC sc (dJ X.env sc.names []) s3.heap.objs.size X.env))
   (compPost (model X.prog X.w) X.A X.xe none (EP X pins σ Q) (.ref s2.heap.objs.size) s3.heap.objs.size) {s3 with heap:=du,toks:=s3.toks+([]:List (Str×Value)).length}:=by
  refine u5 (λn s'=>∃i τ H',Inv (mn X pins N sc fp s3.heap.objs.size s3 (upd H2 s2.heap.objs.size (.lst []))) [] τ H' s'/\tn i s'.heap/\(∀b∈fp,H' b=none)/\W i n τ H') ?_ m0
   ⟨0,iO ts js σ,_,IB,oF,λb hb=>(f3 b hb).1,w0⟩
  rintro n s5 ⟨i,τ,H5,I5,Ce,Kg,w5⟩;rcases turn i n τ H5 w5 with ⟨stop,qn⟩|⟨go,step⟩
  ·refine bI (T.done (mn X pins N sc fp s3.heap.objs.size s3 (upd H2 s2.heap.objs.size (.lst []))) rfl rfl rfl hc i [] s5 τ H5 (λ_ _=>False) I5 (rJ Kg) Ce stop) λr s6 ⟨hr,I6⟩=>?_;subst hr;obtain⟨m,hn,_⟩:=I6.loc;exact⟨m,hn,λh' rV=>⟨.ref s2.heap.objs.size,H5,I3.xM f3 I6 rV,rfl,qn⟩⟩
  ·refine bI (T.item (mn X pins N sc fp s3.heap.objs.size s3 (upd H2 s2.heap.objs.size (.lst []))) rfl rfl rfl hc i [] s5 τ H5 (λ_ _=>False) I5 (rJ Kg) Ce go) λr s6 ⟨u,hr,h6⟩=>?_;subst hr;refine bI h6 λ_ s7 ⟨x,H7,I7,r7,y7,KN,SA⟩=>?_;have SD:=I7.pinned (rJ SA) (T.obj _ _ KN);refine bI (hg _ _ _ _ _ _ s7 τ H7 x u _ SD r7 (step x H7 y7)) λ_ s8 ⟨Hb,H8,I8,q8⟩=>?_;refine bI (ht _ _ _ _ _ _ s8 Hb H8 _ I8 q8) λok s9 ⟨H9,I9,q9⟩=>?_;have again:∀{s':Vv} {Hc:St} {H':Hp},Inv (mn X pins N sc fp s3.heap.objs.size s3 (upd H2 s2.heap.objs.size (.lst []))) ([]++ou fp s7.heap) Hc H' s'->(∃m',m' < n/\W (i+1) m' Hc H')->
     ∃m,m < n/\∃i τ H',Inv (mn X pins N sc fp s3.heap.objs.size s3 (upd H2 s2.heap.objs.size (.lst []))) [] τ H' s'/\tn i s'.heap/\(∀b∈fp,H' b=none)/\W i m τ H':=λ{s' Hc H'} I' ⟨m',hm,w'⟩=>by
    refine⟨m',hm,i+1,Hc,H',I'.jg,T.keep _ _ _ KN λb hb o e=>(I'.pin (b,o) (VN _ (VN _ (eX hb e)))).1,λb hb=>?_,w'⟩;obtain⟨o,e,d⟩:=T.obj _ _ KN b hb;exact(I'.pin (b,o) (VN _ (VN _ (eX hb e)))).2.1
   cases ok with|false=>exact again I9 q9|true=>refine bI (he _ _ _ _ _ _ s9 Hb H9 _ I9 q9) λxv Ot ⟨y,SF,SG,SH,ys,ha,hz,SI⟩=>?_;refine bI (oA _ Ot Hb SF (.ref s2.heap.objs.size) [y] (.ref s2.heap.objs.size) [xv] (λ_ H'=>∃m',m' < n/\W (i+1) m' Hb H') SG rfl (.cons SH .nil) ⟨_,ys,y,rfl,rfl,ha,hz,SI⟩) λ_ s11 ⟨_,H11,SJ,_,SK⟩=>?_;exact again SJ SK
 subst Ha;exact codeAny_compStart_list loop (T.self _ 0 _ _ _ oF loop)
end
end L2
namespace L2
open PySem
end L2
namespace L2
open PySem PySem.Spec PyProof.Rows PySem.SeqAt
open PySem.AutoSeq1 (wpAny_loadPart')
def fK(t T:String):Bool:=t==T||(t=="bool"&&T=="int")
def Ou(H:Hp):V->Option String
 |.bq=>some "NoneType"|.bl _=>some "bool"|.int _=>some "int"|.str _=>some "str"|.ref a=>match H a with|some (.lst _)=>some "list"|some (.tup _)=>some "tuple"|_=>none
 |_=>none
theorem KO(h:Ou H v=some t):t="NoneType"\/t="bool"\/t="int"\/t="str"\/t="list"\/t="tuple":=by
 cases v with
 |ref a=>
  unfold Ou at h;simp only at h;split at h<;>first
   |(cases h;simp)
   |cases h
 |_=>first
  |(cases h;simp)
  |cases h
theorem Hd{K:Vm}(h:Ou H v=some t):mi K H v (.type t):=by
 cases v with
 |bq=>cases h;exact .bq|bl b=>cases h;exact .bl b|int i=>cases h;exact .int i|str x=>cases h;exact .str x|ref a=>
  unfold Ou at h;simp only at h;split at h;·rename_i xs e;cases h;exact .lst e
  ·rename_i xs e;cases h;exact .tup e
  ·cases h
 |_=>cases h
theorem qU K(ht:t="NoneType"\/t="bool"\/t="int"\/t="str"\/t="list"\/t="tuple")(hT:T="int"\/T="bool"\/T="tuple"\/T="str"\/T="list"):
  aam K (.type t) (.type T)=some (fK t T):=by
 rcases ht with rfl|rfl|rfl|rfl|rfl|rfl<;>rcases hT with rfl|rfl|rfl|rfl|rfl<;>first
  |rfl
  |kernel_rfl
section
variable{X:Cx}
theorem ba(h:H p=none)o:ji H (upd H p o):=λb u q=>by rw[aw (aK q h)];exact q
def Js:R2:=λx y H Q=>∃a b xs ys,x=.ref a/\y=.ref b/\H a=some (.tup xs)/\H b=some (.tup ys)/\xs.length+ys.length<=VD/\∀r H',ji H H'->H' r=some (.tup (xs++ys))->Q (.ref r) H'
theorem He:kf X (XN .Add) Js:=by
 intro pins s σ H x y v u Q I rx ry h;obtain⟨a,b,xs,ys,rfl,rfl,ha,hb,hz,q⟩:=h;cases rx;cases ry;obtain⟨its,r1,p1,_⟩:=I.tuple (fI.of ha);obtain⟨D3,r2,p2,_⟩:=I.tuple (fI.of hb);by_cases hx:xs=[]
 ·subst hx;cases r1;obtain⟨⟨cls,dd,data,sl⟩,ho,hc,n,hd⟩:=id p1;obtain⟨⟨Sg,QV,data2,QW⟩,Gi,Kt,n2,hd2⟩:=id p2;simp only at hc hd Kt hd2;subst hc hd Kt hd2;exact aaC ⟨_,ho,rfl⟩ ⟨_,Gi,rfl⟩ ZR aav YO YH (Yw _ _)
   (tuple_addW0 a b ([]:List Value).toArray D3.toArray n n2 dd QV sl QW (by simp)) ⟨ho,Gi,⟨.ref b,H,I,rfl,q b H (ji.refl H) hb⟩⟩
 ·refine GY pins s σ H (.ref a) (.ref b) _ _ Q I rfl rfl ⟨a,b,xs,ys,rfl,rfl,fI.of ha,fI.of hb,hx,hz,λe=>?_,λe p hp=>?_⟩;·subst e;exact q a H (ji.refl H) (by rw[Wb];exact ha)
  ·exact q p _ (ba hp _) aC
theorem lI{lo hi:Option Int}(ht:IsTup s.heap t items)(hs:s.heap.IsSliceOf sl vl vu .none)(pl:aaa vl lo)(pu:aaa vu hi)(hw:HT.cI items.size 0 lo=0/\HT.cI items.size items.size hi=items.size)(h:Q (.ref t) s):wpAny (model prog w) A (Zb (.ref t) (.ref sl)) Q E s:=by
 obtain⟨os,Kv,QX,N3⟩:=id hs;have Sh:s.TypeIs (.ref sl) "slice":=⟨os,Kv,QX⟩;unfold Zb;try with_reducible refine XT ?_
 first|refine U7 (Vn ?_)|skip
 refine U7 (wpAny_sequenceKey ht.typeIs (by decide) ?_);refine U7 (Wh (name:=We "__getitem__") ht.typeIs Xd
  (WL Xd ht.typeIs entry_tuple_getitem ?_ (args_tuple_getitem _ _)))
 show wpAny _ _ (Zd.Tuple.tupleItemsOf (.ref t) >>=_) _ _ s;refine U7 (tupleItemsOf_ ht ?_);refine U7 (Z4 Sh ?_);rw[if_pos (by decide)];refine U7 (HT.jh hs pl pu ?_);have SN:(((HT.cI items.size 0 lo:Nat):Int)==0&&(1:Int)==1&&(HT.cI items.size items.size hi - HT.cI items.size 0 lo)==items.size)=true:=by rw[hw.1,hw.2];simp
 show wpAny _ _ (if(((HT.cI items.size 0 lo:Nat):Int)==0&&(1:Int)==1&&(HT.cI items.size items.size hi - HT.cI items.size 0 lo)==items.size)=true then _ else _) _ _ s;rw[if_pos SN];refine U7 ?_;unfold Zd.Tuple.tupleIsExact;refine U7 (Z4 ht.typeIs (Vn ?_));rw[if_pos (by decide)];first
  |exact U7 (Y1 (U7 (Vn (Vn ⟨_,rfl,Vn h⟩))))
  |exact U7 (Y1 (Vn ⟨_,rfl,Vn h⟩))
  |exact U7 (Y1 (Vn (Vn ⟨_,rfl,Vn h⟩)))
def Ov:V->Option Int->Option Int->Hp->VK->Prop:=λx lo hi H Q=>∃a xs,x=.ref a/\H a=some (.tup xs)/\∀r H',ji H H'->H' r=some (.tup (oz xs lo hi))->Q (.ref r) H'
theorem Hf:Jn X Ov:=by
 intro pins s σ H x v vl vu lo hi sl Q I rx hs pl pu h;obtain⟨a,xs,rfl,ha,q⟩:=h;cases rx;by_cases hw:HT.cI xs.length 0 lo=0/\HT.cI xs.length xs.length hi=xs.length
 ·obtain⟨its,r,ht,hz⟩:=I.tuple (fI.of ha);have hlen:its.toArray.size=xs.length:=by rw[Vp];exact r.length.symm
  refine⟨"tuple",_,Xd.lookup,ht.typeIs,?_⟩;refine lI ht hs pl pu (by rw[hlen];exact hw) ⟨.ref a,H,I,rfl,q a H (ji.refl H) ?_⟩;have e:oz xs lo hi=xs:=by unfold oz;rw[hw.1,hw.2];simp
  rw[e];exact ha
 ·exact Kw pins s σ H (.ref a) _ vl vu lo hi sl Q I rfl hs pl pu ⟨a,xs,rfl,fI.of ha,hw,λp hp=>q p _ (ba hp _) aC⟩
theorem fU:fillsNumberSlot (.type "tuple") "mul"=pure false:=
 PySem.fillsNumberSlot_seq (id:="tuple.__mul__") (r:=some (.builtin "tuple.__rmul__")) YN.lookup (by decide+kernel) PySem.F.slot_tuple_rmul.lookup (by decide+kernel)
theorem jJ:seqRepeat? (.type "tuple")=pure (some (.builtin "tuple.__mul__")):=by unfold seqRepeat?;rw[PySem.seqSlot_of (T:="tuple") (name:="__mul__") (id:="tuple.__mul__") YN.lookup (by decide+kernel),PySem.seqSlot_of (T:="tuple") (name:="__rmul__") (id:="tuple.__rmul__") PySem.F.slot_tuple_rmul.lookup (by decide+kernel)];rfl
theorem ig a t l items n d sl:
  Meets (Zd.«int.__rmul__» ⟨[.int a t,.ref l],[]⟩) (λ_ R s=>s.heap.get? l=some {cls:=.type "tuple",dict:=d,data:=.seq items n,slots:=sl}/\R (.ok (.ret Value.notImplemented)) s):=
 .of_wp λprog w A R s h=>by obtain⟨hp,g,d,tk,os⟩:=s;obtain⟨hl,h⟩:=h;wp_walk;exact⟨_,rfl,h⟩
theorem Ap l items n d sl u(fc:¬items.isEmpty=true)(hz:items.size*2<=1000000):
  Meets (Zd.«tuple.__mul__» ⟨[.ref l,.int 2 u],[]⟩) (λ_ R s=>s.heap.get? l=some {cls:=.type "tuple",dict:=d,data:=.seq items n,slots:=sl}/\
   R (.ok (.ret (VJ s.heap.objs.size))) {s with heap:=s.heap.push {cls:=X7 "tuple",data:=Data.seq (#[]++items++items)},toks:=s.toks}):=
 .of_wp λprog w A R s h=>by
  obtain⟨hp,g,dr,tk,os⟩:=s;obtain⟨hl,h⟩:=h;have f1:=Z3;have h1:¬((items.size:Int)*2 > (2 ^ 63 - 1) / 8):=by omega
  have h2:¬WH ((items.size:Int)*2)=true:=by unfold WH;simp[VD];omega
  have h3:(items.isEmpty||(2:Int)==1)=false:=by simpa using fc
  have h4:((2:Int)<=0||items.isEmpty)=false:=by simpa using fc
  wp_walk using WV hl
  rw[if_neg h1];show wpAny _ _ (if WH ((items.size:Int)*2)=true then _ else _) _ _ _;rw[if_neg h2];have hsz:sizeOk (.seq (Zv (λx1 x2=>x1++x2) #[] (V4 (ZZ 2) items))):=by show(Zv (λx1 x2=>x1++x2) #[] (V4 (ZZ 2) items)).size<=VD;show(#[]++items++items).size<=VD;simp[VD];omega
  show wpAny _ _ (Wk (Zv (λx1 x2=>x1++x2) #[] (V4 (ZZ 2) items)) >>=λv=>ret v) _ _ _;exact U7 (m:=Wk _) (WB (Vn ⟨_,rfl,h⟩) hsz)
def Jt:R2:=λx y H Q=>∃a xs,x=.ref a/\y=.int 2/\H a=some (.tup xs)/\xs≠[]/\xs.length<=100000/\∀p,H p=none->Q (.ref p) (upd H p (.tup (xs++xs)))
theorem Ed:kf X (XN .Mult) Jt:=by
 intro pins s σ H x y v u Q I rx ry h;obtain⟨a,xs,rfl,rfl,ha,fc,hz,q⟩:=h;cases rx;obtain⟨t,rfl⟩:=ry;obtain⟨its,r,ht,Ow⟩:=I.tuple (fI.of ha);have hl:=r.length;obtain⟨⟨cls,dd,data,sl⟩,ho,hc,n,hd⟩:=id ht;simp only at hc hd;subst hc hd;have v7:¬its.toArray.isEmpty=true:=by
  intro z;have:its=[]:=by simpa using z
  exact fc (r.nc.mp this)
 refine Ys (T:="tuple") (U:="int") (by decide) ⟨_,ho,rfl⟩ (λs'=>Y2 s' 2 t) fU YY Xe jJ PySem.F.slot_int_index.lookup
  (Ym Xe (Y2 s 2 t) YQ (YI _ _) (ig 2 t a its.toArray n dd sl)
   ⟨ho,rfl,⟨_,ho,rfl⟩,Ym YN ⟨_,ho,rfl⟩ YG (Yv _ _)
    (Ap a its.toArray n dd sl t v7 (by rw[Vp];omega)) ⟨ho,?_⟩⟩)
 refine⟨.ref s.heap.objs.size,_,I.laid (t':=s.toks) (o:=.tup (xs++xs)) (λb ob q=>Va _ q) (Vj _) ?_,rfl,q _ (I.aH.fresh (Vj _))⟩;refine⟨by rw[Vy,WR];omega,its++its,r.append r,?_⟩;have e:(#[]++its.toArray++its.toArray:Array Value)=(its++its).toArray:=by simp
 rw[e];exact aau _ _
def Ju:List DictEntry->Option (List (Str×Int))
 |[]=>some []|⟨_,.str x _,.int i _⟩::r=>(Ju r).map λD=>(x,i)::D|_=>none
def SO(o:Obj):Option (List (Str×Int)):=match o with|⟨.type t,none,.dict es _,sl⟩=>if t="dict"/\sl=#[] then Ju es.toList else none|_=>none
open PyProof.Rows.KTD in
structure Ox(K:Vm)(a:Addr)(D:List (Str×Int)):Prop where
 low:(a==W6)=false
 at_:∃o,K.lookup a=some o/\SO o=some D
end
end L2
namespace L2
open PySem PySem.Spec PyProof.Rows PySem.SeqAt
open PySem.AutoSeq1 (wpAny_loadPart')
section
variable{X:Cx}
theorem any_range(bs:List Bool):(U8 bs.length).any (λi=>bs.getD i true)=bs.any id:=by
 rw[XM];simp only[W1,Wi,id];constructor;·rintro⟨i,hi,h⟩;rw[Vd,Vc hi] at h;exact⟨bs[i],Wa hi,by simpa using h⟩
 ·rintro⟨b,hb,h⟩;obtain⟨i,hi,e⟩:=List.mem_iff_getElem.mp hb;refine⟨i,hi,?_⟩;rw[Vd,Vc hi];simpa[e] using h
theorem Cw(hc:X.calm=true):ie X (.builtin "any") (λxs H Q=>∃(p:Addr) (bs:List Bool),xs=[.ref p]/\lG X.K H p (bs.map V.bl)/\Q (.bl (bs.any id)) H):=by
 intro pins s σ H xs us Q I r h;obtain⟨p,bs,rfl,hq,q⟩:=h;obtain⟨u,rfl,rx⟩:=vals1 r;cases rx;obtain⟨its,rv,pl,hz⟩:=I.list hq;have hl:=rv.length;rw[Vg] at hl;have fM:p < s.heap.objs.size:=by obtain⟨o,n,e,_⟩:=pl;exact Vs e
 refine call_any_walk (wpAny_pyIter_list pl.isList ?_);refine⟨s.heap.objs.size,_,_,its.toArray.size,_,_,λi=>bs.getD i true,rfl,Walks.list (A:=X.A.in1) (show X.A.in1.handled=none from I.ok.hd hc) s.heap.objs.size p (VP fM) its.toArray,⟨⟨_,Vq _ rfl,rfl,rfl⟩,?_⟩,?_,?_⟩;·obtain⟨o,e,c⟩:=pl.isList;exact⟨o,Va _ e,c⟩
 ·intro i v s' Q' E' hP hQ;have hP':its[i]?=some v:=by simpa using hP
  have hi:i < its.length:=(List.getElem?_eq_some_iff.mp hP').1;have hb:(bs.map V.bl)[i]?=some (V.bl (bs.getD i true)):=by rw[Vi,Vc (by omega),Vd,Vc (by omega)];rfl
  obtain⟨u,hu,ru⟩:=rv.get hb;rw[hP'] at hu;cases hu;cases ru;exact W5 hQ
 ·intro h' tk hk;refine⟨.bl (bs.any id),H,I.kept (t':=tk) (λb o e=>hk b o (by simpa using VP (Vs e)) (Va _ e)),?_,q⟩;show YA _=YA _;rw[Vp,<-hl,any_range]
theorem qg(hd:(d==W6)=false)(ho:∀s:Vv,s.heap.get? d=some o->True):
  MeetsIn prog w (Zd.«dict.__len__» ⟨[.ref d],[]⟩) (λ_ R s=>(s.heap.get? d=some o/\o.ExactDict/\o.data=.dict es ep)/\R (.ok (.ret (.int es.size s.toks))) {s with toks:=s.toks+1}):=
 .of_wp λA R s ⟨⟨ho,hc,KP⟩,h⟩=>by show wpAny _ _ (dictSize d >>=_) _ _ s;unfold dictSize;refine U7 (U7 (wpAny_dictEntries ho KP (Vn ?_)));show wpAny _ _ (Zd.Dict.pendingCount d >>=_) _ _ s;refine U7 (wpAny_pendingCount_other hd ?_);refine wpAny_ret_mkInt ?_;rw[Nat.add_zero];exact h
theorem v8(hd:(d==W6)=false)(ho:s.heap.get? d=some o)(hc:o.ExactDict)(KP:o.data=.dict es ep)(hfit:(es.size:Int) < 2 ^ 63)(h:Q (.int es.size (s.toks+1)) {s with toks:=s.toks+1+1}):wpAny (model prog w) A (call (.builtin "len") [.ref d]) Q E s:=by
 have hT:s.TypeIs (.ref d) "dict":=⟨o,ho,hc.1⟩;refine Calls.call_function_entry kind_len plain_len entry_len (args_len1 _) ?_;unfold Zd.«len»;refine U7 (m:=oneArg "len" _) (Vn ?_);refine U7 (m:=callSpecial? (.ref d) (We "__len__")) (Wh (name:=We "__len__") hT F.slot_dict_len
  (Zp F.slot_dict_len hT F.entry_dict_len (F.args_dict_len_1 _) (qg (o:=o) (es:=es) (ep:=ep) hd λ_ _=>trivial) ⟨⟨ho,hc,KP⟩,?_⟩))
 show wpAny _ _ _ _ _ {s with toks:=s.toks+1};refine U7 (XT (Vn ?_));refine U7 (Zx ?_);show wpAny _ _ (if((es.size:Nat):Int) < 0 then _ else _) _ _ _;rw[if_neg (by omega)];show wpAny _ _ (if((es.size:Nat):Int)>=2 ^ 63 then _ else _) _ _ _;rw[if_neg (by omega)];exact U7 (wpAny_mkInt (Vn ⟨_,rfl,h⟩))
def Oy(H:Hp)(a:Addr)(n:Nat):Prop:=(∃kvs,Rd H a (.dK kvs)/\kvs.length=n)\/∃kvs,Rd H a (.dT kvs)/\kvs.length=n
theorem v9:ie X (.builtin "len") (λxs H Q=>∃p n,xs=[.ref p]/\Oy H p n/\Q (.int n) H):=by
 intro pins s σ H xs us Q I r h;obtain⟨p,n,rfl,hd,q⟩:=h;obtain⟨u,rfl,rx⟩:=vals1 r;cases rx;rcases hd with ⟨kvs,e,rfl⟩|⟨kvs,e,rfl⟩
 ·exact Oe I e λt s' I'=>⟨.int kvs.length,H,I',⟨t,rfl⟩,q⟩
 ·obtain⟨z,hd,xs,rel,o,es,ep,h1,h2,h3,h4,_⟩:=pO I.aH e;have hl:es.size=kvs.length:=by
   have:es.toList.length=xs.length:=by rw[h4,Vg]
   rw[<-Xt,this,<-rel.length]
  refine v8 hd h1 h2 h3 (by rw[WR] at z;omega) ?_;rw[hl];exact⟨.int kvs.length,H,I.tok _,⟨_,rfl⟩,q⟩
theorem nr(hT:ud.TypeIs o "dict")(kr:wpAny (model prog w) A (Zb o i) Q E ud)(hs:aaj slice false o i=operate [o,i] (Zb o i)):wpAny (model prog w) A (ZK value slice o i) Q E ud:=by
 unfold ZK;refine U7 ?_;rw[getitemInPython_of_ne hT.not_modules];refine U7 (aac hT PySem.F.slot_dict_getitem.lookup ?_);have fin:wpAny (model prog w) A (aaj slice false o i) (λr Cs=>wpAny (model prog w) A (letTemporaryGo value o r >>=λ_=>pure r) Q E Cs) E ud:=by rw[hs];exact wpAny_operating (WX kr (λr Cs jb=>U7 (wpAny_letTemporaryGo (Vn jb))) λ_ _ x=>x)
 first
  |exact Vn (U7 fin)
  |exact U7 (Vn (U7 fin))
  |exact U7 fin
theorem xN:ie X (.type "range") (λxs H Q=>∃lo hi,(xs=[.int lo,.int hi]\/(lo=0/\xs=[.int hi]))/\∀p,H p=none->Q (.ref p) (upd H p (.gG lo hi))):=by
 intro pins s σ H xs us Q I r h;obtain⟨lo,hi,hx,q⟩:=h;rcases hx with rfl|⟨rfl,rfl⟩;·obtain⟨u,w',rfl,rx,ry⟩:=vals2 r;obtain⟨t,rfl⟩:=rx;obtain⟨t',rfl⟩:=ry;refine call_range_2 ⟨.ref s.heap.objs.size,_,I.laid (a:=s.heap.objs.size) (o:=.gG lo hi) (λb o e=>Va _ e) (Vj _) ⟨_,_,_,Vq _ rfl⟩,rfl,q _ (I.aH.fresh (Vj _))⟩
 ·obtain⟨u,rfl,rx⟩:=vals1 r;obtain⟨t,rfl⟩:=rx;refine call_range_1 ⟨.ref s.heap.objs.size,_,I.laid (a:=s.heap.objs.size) (o:=.gG 0 hi) (λb o e=>Va _ e) (Vj _) ⟨_,_,_,Vq _ rfl⟩,rfl,q _ (I.aH.fresh (Vj _))⟩
def Aq(lo:Int)(n:Nat):List V:=(U8 n).map λk=>.int (lo+(k:Nat))
theorem Ee{lo:Int}:∀{acc} {n},acc.length=n->(∀(j:Nat) v,acc[j]?=some v->∃t,v=.int (lo+j*1) t)->aP (Aq lo n) acc:=by
 intro acc n hl h
 suffices ∀(k:Nat) (g8:List Value),g8.length+k=n->(∀(j:Nat) v,g8[j]?=some v->∃t,v=.int (lo+((k+j:Nat):Int)) t)->aP ((List.range' k g8.length).map λi=>V.int (lo+(i:Nat))) g8 by
  have q:=this 0 acc (by omega) λj v hj=>by obtain⟨t,e⟩:=h j v hj;exact⟨t,by rw[e];congr 1<;>simp⟩
  unfold Aq;rw[List.range_eq_range',<-hl];exact q
 intro k g8;induction g8 generalizing k with
 |nil=>intro _ _;exact .nil|cons x xs ih=>
  intro hn hx;rw[Vt,List.range'_succ,Vo];refine .cons ?_ ?_;·obtain⟨t,e⟩:=hx 0 x rfl;exact⟨t,by rw[e];simp⟩
  ·refine ih (k+1) (by rw[Vt] at hn;omega) λj v hj=>?_;obtain⟨t,e⟩:=hx (j+1) v (by simpa using hj);exact⟨t,by rw[e];congr 1;omega⟩
theorem ug(hc:X.calm=true):ie X (.type "list") (λxs H Q=>∃p lo hi,xs=[.ref p]/\H p=some (.gG lo hi)/\(-(2 ^ 62)<=lo/\lo < 2 ^ 62/\ -(2 ^ 62)<=hi/\hi < 2 ^ 62)/\(hi - lo).toNat<=VD/\
  ∀l,H l=none->Q (.ref l) (upd H l (.lst (Aq lo (hi - lo).toNat)))):=by
 intro pins s σ H xs us Q I r h;obtain⟨p,lo,hi,rfl,hp,⟨h1,h2,h3,h4⟩,hz,q⟩:=h;obtain⟨u,rfl,rx⟩:=vals1 r;cases rx;obtain⟨t,u,v,e⟩:=(show bz X.prog X.w H s.heap p (.gG lo hi) from I.aH p _ hp);refine call_list_range (n:=(hi - lo).toNat) (I.ok.hd hc) (show IsRange s.heap p lo hi 1 t u v from e) (small_one h1 h2 h3 h4) (by rw[rangeSize_one];split<;>omega) (by rw[WR] at hz;omega) λh' tk g8 c' hk hS u6=>?_;obtain⟨i1,i2⟩:=u6;have hv:aP (Aq lo (hi - lo).toNat) g8.toList:=Ee (by rw[Xt];exact i1) λj v hj=>i2 j v (by simpa using hj);have hlen:=hv.length;refine⟨.ref s.heap.objs.size,_,I.laid (a:=s.heap.objs.size) (o:=.lst (Aq lo (hi - lo).toNat)) (t':=tk) hk (Vj _) ⟨by unfold Aq;rw[Vg,VQ];exact hz,g8.toList,c',hv,by simpa using hS⟩,rfl,q _ (I.aH.fresh (Vj _))⟩
theorem Ar l items n d sl u(fc:¬items.isEmpty=true)(hz:items.size*3<=1000000):
  Meets (Zd.«tuple.__mul__» ⟨[.ref l,.int 3 u],[]⟩) (λ_ R s=>s.heap.get? l=some {cls:=.type "tuple",dict:=d,data:=.seq items n,slots:=sl}/\
   R (.ok (.ret (VJ s.heap.objs.size))) {s with heap:=s.heap.push {cls:=X7 "tuple",data:=Data.seq (#[]++items++items++items)},toks:=s.toks}):=
 .of_wp λprog w A R s h=>by
  obtain⟨hp,g,dr,tk,os⟩:=s;obtain⟨hl,h⟩:=h;have f1:=Z3;have h1:¬((items.size:Int)*3 > (2 ^ 63 - 1) / 8):=by omega
  have h2:¬WH ((items.size:Int)*3)=true:=by unfold WH;simp[VD];omega
  have h3:(items.isEmpty||(3:Int)==1)=false:=by simpa using fc
  have h4:((3:Int)<=0||items.isEmpty)=false:=by simpa using fc
  wp_walk using WV hl
  rw[if_neg h1];show wpAny _ _ (if WH ((items.size:Int)*3)=true then _ else _) _ _ _;rw[if_neg h2];have hsz:sizeOk (.seq (Zv (λx1 x2=>x1++x2) #[] (V4 (ZZ 3) items))):=by show(Zv (λx1 x2=>x1++x2) #[] (V4 (ZZ 3) items)).size<=VD;show(#[]++items++items++items).size<=VD;simp[VD];omega
  show wpAny _ _ (Wk (Zv (λx1 x2=>x1++x2) #[] (V4 (ZZ 3) items)) >>=λv=>ret v) _ _ _;exact U7 (m:=Wk _) (WB (Vn ⟨_,rfl,h⟩) hsz)
def Jv:R2:=λx y H Q=>∃a xs,x=.ref a/\y=.int 3/\H a=some (.tup xs)/\xs≠[]/\xs.length<=100000/\∀p,H p=none->Q (.ref p) (upd H p (.tup (xs++xs++xs)))
theorem Ef:kf X (XN .Mult) Jv:=by
 intro pins s σ H x y v u Q I rx ry h;obtain⟨a,xs,rfl,rfl,ha,fc,hz,q⟩:=h;cases rx;obtain⟨t,rfl⟩:=ry;obtain⟨its,r,ht,Ow⟩:=I.tuple (fI.of ha);have hl:=r.length;obtain⟨⟨cls,dd,data,sl⟩,ho,hc,n,hd⟩:=id ht;simp only at hc hd;subst hc hd;have v7:¬its.toArray.isEmpty=true:=by
  intro z;have:its=[]:=by simpa using z
  exact fc (r.nc.mp this)
 refine Ys (T:="tuple") (U:="int") (by decide) ⟨_,ho,rfl⟩ (λs'=>Y2 s' 3 t) fU YY Xe jJ PySem.F.slot_int_index.lookup
  (Ym Xe (Y2 s 3 t) YQ (YI _ _) (ig 3 t a its.toArray n dd sl)
   ⟨ho,rfl,⟨_,ho,rfl⟩,Ym YN ⟨_,ho,rfl⟩ YG (Yv _ _)
    (Ar a its.toArray n dd sl t v7 (by rw[Vp];omega)) ⟨ho,?_⟩⟩)
 refine⟨.ref s.heap.objs.size,_,I.laid (t':=s.toks) (o:=.tup (xs++xs++xs)) (λb ob q=>Va _ q) (Vj _) ?_,rfl,q _ (I.aH.fresh (Vj _))⟩;refine⟨by rw[Vy,Vy,WR];omega,its++its++its,(r.append r).append r,?_⟩;have e:(#[]++its.toArray++its.toArray++its.toArray:Array Value)=(its++its++its).toArray:=by simp
 rw[e];exact aau _ _
theorem As l items n d sl u:
  Meets (Zd.«tuple.__mul__» ⟨[.ref l,.int 1 u],[]⟩) (λ_ R s=>s.heap.get? l=some {cls:=.type "tuple",dict:=d,data:=.seq items n,slots:=sl}/\R (.ok (.ret (VJ l))) s):=
 .of_wp λprog w A R s h=>by
  obtain⟨hp,g,dr,tk,os⟩:=s;obtain⟨hl,h⟩:=h;have f1:=Z3;have h3:(items.isEmpty||(1:Int)==1)=true:=by simp
  wp_walk using WV hl
  all_goals exact⟨_,rfl,h⟩
def Jw:R2:=λx y H Q=>∃a xs,x=.ref a/\y=.int 1/\H a=some (.tup xs)/\Q (.ref a) H
theorem Eg:kf X (XN .Mult) Jw:=by
 intro pins s σ H x y v u Q I rx ry h;obtain⟨a,xs,rfl,rfl,ha,q⟩:=h;cases rx;obtain⟨t,rfl⟩:=ry;obtain⟨its,r,ht,Ow⟩:=I.tuple (fI.of ha);obtain⟨⟨cls,dd,data,sl⟩,ho,hc,n,hd⟩:=id ht;simp only at hc hd;subst hc hd;refine Ys (T:="tuple") (U:="int") (by decide) ⟨_,ho,rfl⟩ (λs'=>Y2 s' 1 t) fU YY Xe jJ PySem.F.slot_int_index.lookup
  (Ym Xe (Y2 s 1 t) YQ (YI _ _) (ig 1 t a its.toArray n dd sl)
   ⟨ho,rfl,⟨_,ho,rfl⟩,Ym YN ⟨_,ho,rfl⟩ YG (Yv _ _)
    (As a its.toArray n dd sl t) ⟨ho,?_⟩⟩)
 exact⟨.ref a,H,I,rfl,q⟩
def KQ(K:Vm):V->List V->Hp->VK->Prop:=λx vs H Q=>∃(l:Addr) (ns:List Int) (k:Int),x=.ref l/\vs=[.int k]/\lG K H l (ns.map V.int)/\k∈ns/\Q (.int (ns.idxOf k:Nat)) H
theorem xO:∀{ns} {us},aP (ns.map V.int) us->aaH us ns
 |[],us,h=>by rw[W9] at h;cases h;exact .nil|n::ns,us,h=>by rw[Vo] at h;cases h with|cons h t=>obtain⟨tk,rfl⟩:=h;exact .cons n tk (xO t)
theorem Eh:Sq X "list.index" (KQ X.K):=by
 intro pins s σ H x vs v us Q I rx rv h;obtain⟨l,ns,k,rfl,rfl,hH,hk,q⟩:=h;cases rx;obtain⟨u,rfl,ru⟩:=rv.one;obtain⟨t,rfl⟩:=ru;obtain⟨its,r,pl,hz⟩:=I.list hH;have hi:=xO r;obtain⟨⟨cls,dd,data,sl⟩,ho,hc,n,hd⟩:=id pl.isList;simp only at hc hd;subst hc hd;have hlen:=hi.length;have hj:ns.idxOf k < ns.length:=List.idxOf_lt_length_iff.mpr hk;rw[Vg,WR] at hz;refine Ym PySem.F.slot_list_index ⟨_,ho,rfl⟩ PySem.F.entry_list_index (PySem.F.args_list_index_2 _ _)
  (list_indexAt l its.toArray n dd sl (.int k t) (isInt k) (ns.idxOf k) (by simpa[hlen] using hj) (by omega) ?_ ?_) ⟨ho,λy hy=>(eq_isInt k t hi y (by simpa using hy)).at _ _,⟨.int (ns.idxOf k:Nat),H,I.tok _,⟨_,rfl⟩,q⟩⟩
 ·show isInt k its[ns.idxOf k]=true;rw[isInt_at k hi _ (by omega) hj];simpa using YC hj
 ·intro j SQ fM;show isInt k its[j]=false;rw[isInt_at k hi j (by simpa using SQ) (by omega)];exact ne_of_lt_idxOf fM _
end
end L2
namespace L2
open PySem PySem.Spec PyProof.Rows
section
variable{X:Cx}{elt iter tg:Expr}{ifs:List Expr}{sc:Scope}{pos:Pos}{N:List Str}{ts:Nat}{js:List Nat}{wi:TI}{g:TG}{tc:TT}{te:TE}
theorem rW(hc:X.calm=true)(B:jI X N ts js sc)(hi:PI X tg iter wi)(hg:∀pins fp C s H,PG (mn X pins N sc fp C s H) tg g)(ht:∀pins fp C s H,Ec (mn X pins N sc fp C s H) ifs tc)(he:∀pins fp C s H,PE (mn X pins N sc fp C s H) elt te)(hs:∀x,Zy iter X.env x=pure x)(hsw:X.Ok->Yo (.ListComp elt [⟨tg,iter,ifs,0⟩] sc pos) (some (.Name y py)) SR.line X.env=pure true)(hgt:PG X (.Name y py) gt):
  PS X (.Assign [.Name y py] (.ListComp elt [⟨tg,iter,ifs,0⟩] sc pos) SR) (λD σ H=>Bh wi g tc te ts js σ H λv H1=>gt v σ H1 D.nx):=by
 intro pins s σ H D I h;rw[exec_Assign_Name_used _ _ _ _ (hsw I.ok)];refine U7 (wpAny_standAt (U7 ?_));show wpAny _ X.A (do let _<-comprehension (.ListComp elt [⟨tg,iter,ifs,0⟩] sc pos) sc X.env _ (newList []) false (eval iter X.env) (some (aaX (.Name y py) X.env))) _ _ s;refine U7 (WX (wpAny_comprehension_free (use:=some (aaX (.Name y py) X.env)) (Q:=λ_ s'=>SP X pins D .next s') rfl hs (rU (B.cl I.ok)) B.kind B.names
  (bI (hi pins s σ H _ I h) λv s1 h1=>bI h1 λQR s2 h2=>?_)) (λ_ s' hq=>Vn (Vn hq)) λ_ _ e=>e)
 obtain⟨it,fp,tn,J,H2,e,I2,T,st2,f2,qT⟩:=h2;subst e;have Cv:H2 s2.heap.objs.size=none:=I2.aH.fresh (Vj _);obtain⟨W,⟨m0,w0⟩,turn⟩:=qT s2.heap.objs.size Cv;refine WB (Yl B.fT (by intro y hy;simp at hy) (λdu Al Am=>?_) B.kind);obtain⟨s3,Ha⟩:∃s3:Vv,({s2 with heap:=s2.heap.push {cls:=.type "list",dict:=none,data:=.seq ([]:List Value).toArray}}:Vv)=s3:=⟨_,rfl⟩;have e3:s3.heap=s2.heap.push {cls:=.type "list",dict:=none,data:=.seq ([]:List Value).toArray}:=by rw[<-Ha]
 have An:du.Ns s3.heap.objs.size λx=>([]:List (Str×Value)).reverse.lookup x:=by rw[e3];exact Al
 have Ao:XS s3.heap.objs.size (s3.heap.push {cls:=.type (if(some X.env).isSome then "dict" else "frame"),data:=.dict #[]}) du:=by rw[e3];exact Am
 have I3:Inv X pins σ (upd H2 s2.heap.objs.size (.lst [])) s3:=by rw[<-Ha];exact I2.laid (t':=s2.toks) (λb u e=>Va _ e) (Vj _) ⟨WE _,[],0,.nil,Vq _ rfl⟩
 have Oo:∀b∈fp,b < s2.heap.objs.size:=λb hb=>by obtain⟨o,e,_⟩:=T.obj _ _ st2 b hb;exact Vs e
 have f3:∀b∈fp,mf X pins (upd H2 s2.heap.objs.size (.lst [])) b:=λb hb=>⟨by rw[aw (VP (Oo b hb))];exact(f2 b hb).1,(f2 b hb).2⟩;have Sz:s2.heap.objs.size < s3.heap.objs.size:=by rw[e3,WG];exact WZ _
 have Oq:∀b∈fp,b < s3.heap.objs.size:=λb hb=>Zq (Oo b hb) Sz;have k1:∀b o,s3.heap.get? b=some o->du.get? b=some o:=λb o e=>Ao.extBut b o (VP (Vs e)) (Va _ e);have IB:=I3.block (tk:=s3.toks+([]:List (Str×Value)).length) (N:=N) B f3 Oq An k1;have oF:tn 0 du:=T.keep _ _ _ st2 λb hb o e=>k1 b o (by rw[e3];exact Va _ e);have rJ:∀{H':Hp},(∀b∈fp,H' b=none)->∀b∈fp,mf (mn X pins N sc fp s3.heap.objs.size s3 (upd H2 s2.heap.objs.size (.lst []))) [] H' b:=λhn b hb=>⟨hn b hb,VP (Oq b hb),I3.Sx (f3 b hb),.inl hb,λx c h=>(f3 b hb).2.2.2.2.1 x c (B.get I3.ok h),λp hp=>(f3 b hb).2.2.2.2.2 p (by simpa[mn] using hp)⟩;have loop:Zc (model X.prog X.w) X.A (.compLoop (.ListComp elt [⟨tg,iter,ifs,0⟩] sc pos) 0 (.ref it) (.ref s2.heap.objs.size) (compEnvC sc (dJ X.env sc.names []) s3.heap.objs.size X.env))
   (compPost (model X.prog X.w) X.A X.xe (some (aaX (.Name y py) X.env)) (λ_ s'=>SP X pins D .next s') (.ref s2.heap.objs.size) s3.heap.objs.size) {s3 with heap:=du,toks:=s3.toks+([]:List (Str×Value)).length}:=by
  refine u5 (λn s'=>∃i τ H',Inv (mn X pins N sc fp s3.heap.objs.size s3 (upd H2 s2.heap.objs.size (.lst []))) [] τ H' s'/\tn i s'.heap/\(∀b∈fp,H' b=none)/\W i n τ H') ?_ m0
   ⟨0,iO ts js σ,_,IB,oF,λb hb=>(f3 b hb).1,w0⟩
  rintro n s5 ⟨i,τ,H5,I5,Ce,Kg,w5⟩;rcases turn i n τ H5 w5 with ⟨stop,qn⟩|⟨go,step⟩
  ·refine bI (T.done (mn X pins N sc fp s3.heap.objs.size s3 (upd H2 s2.heap.objs.size (.lst []))) rfl rfl rfl hc i [] s5 τ H5 (λ_ _=>False) I5 (rJ Kg) Ce stop) λr s6 ⟨hr,I6⟩=>?_;subst hr;obtain⟨m,hn,_⟩:=I6.loc;have IO:Inv X pins σ H5 s6:=I3.xM (h'':=s6.heap) f3 I6 ⟨rfl,λ_ _=>rfl⟩;have fC:mf X pins H5 s3.heap.objs.size:=I3.vR (Vj _) I6.free;obtain⟨oC,esC,epC,eC,dC,rC⟩:=id hn;have IOp:=IO.pinned (fp:=[s3.heap.objs.size]) (λb hb=>by rw[Wc.mp hb];exact fC) λb hb=>by rw[Wc.mp hb];exact⟨oC,eC,λv z=>by rw[dC] at z;cases z⟩
   refine bI (hgt _ s6 σ H5 (.ref s2.heap.objs.size) (.ref s2.heap.objs.size) D.nx IOp rfl qn) λ_ s8 ⟨σ8,H8,I8,q8⟩=>?_;obtain⟨pC,fC8,_⟩:=I8.pin (s3.heap.objs.size,oC) (VN _ (VN _ (eX (by simp) eC)));refine⟨m,hn.at' λo e=>?_,λh' rV=>⟨σ8,H8,?_,q8⟩⟩;·rw[eC] at e;cases e;exact pC
   ·exact(I8.jg).turned (it:=s3.heap.objs.size) (t':=s8.toks) (λb o hb e=>rV.extBut b o hb e) fC8 fC.2.1 fC.2.2.2.1 fC.2.2.2.2.1 fC.2.2.2.2.2
  ·refine bI (T.item (mn X pins N sc fp s3.heap.objs.size s3 (upd H2 s2.heap.objs.size (.lst []))) rfl rfl rfl hc i [] s5 τ H5 (λ_ _=>False) I5 (rJ Kg) Ce go) λr s6 ⟨u,hr,h6⟩=>?_;subst hr;refine bI h6 λ_ s7 ⟨x,H7,I7,r7,y7,KN,SA⟩=>?_;have SD:=I7.pinned (rJ SA) (T.obj _ _ KN);refine bI (hg _ _ _ _ _ _ s7 τ H7 x u _ SD r7 (step x H7 y7)) λ_ s8 ⟨Hb,H8,I8,q8⟩=>?_;refine bI (ht _ _ _ _ _ _ s8 Hb H8 _ I8 q8) λok s9 ⟨H9,I9,q9⟩=>?_;have again:∀{s':Vv} {Hc:St} {H':Hp},Inv (mn X pins N sc fp s3.heap.objs.size s3 (upd H2 s2.heap.objs.size (.lst []))) ([]++ou fp s7.heap) Hc H' s'->(∃m',m' < n/\W (i+1) m' Hc H')->
     ∃m,m < n/\∃i τ H',Inv (mn X pins N sc fp s3.heap.objs.size s3 (upd H2 s2.heap.objs.size (.lst []))) [] τ H' s'/\tn i s'.heap/\(∀b∈fp,H' b=none)/\W i m τ H':=λ{s' Hc H'} I' ⟨m',hm,w'⟩=>by
    refine⟨m',hm,i+1,Hc,H',I'.jg,T.keep _ _ _ KN λb hb o e=>(I'.pin (b,o) (VN _ (VN _ (eX hb e)))).1,λb hb=>?_,w'⟩;obtain⟨o,e,d⟩:=T.obj _ _ KN b hb;exact(I'.pin (b,o) (VN _ (VN _ (eX hb e)))).2.1
   cases ok with|false=>exact again I9 q9|true=>refine bI (he _ _ _ _ _ _ s9 Hb H9 _ I9 q9) λxv Ot ⟨y,SF,SG,SH,ys,ha,hz,SI⟩=>?_;refine bI (oA _ Ot Hb SF (.ref s2.heap.objs.size) [y] (.ref s2.heap.objs.size) [xv] (λ_ H'=>∃m',m' < n/\W (i+1) m' Hb H') SG rfl (.cons SH .nil) ⟨_,ys,y,rfl,rfl,ha,hz,SI⟩) λ_ s11 ⟨_,H11,SJ,_,SK⟩=>?_;exact again SJ SK
 subst Ha;exact codeAny_compStart_list loop (T.self _ 0 _ _ _ oF loop)
end
section
variable{prog:Wf}{w:World}{A:WN}{E:Value->Vv->Prop}{s:Vv}
theorem nu{items}(hit:s.heap.IsTupleIter it t i)(ht:s.heap.IsTuple t items)(hx:items[i]?=some x)(hQ:∀h',h'.IsTupleIter it t (i+1)->XS it s.heap h'->Q x {s with heap:=h'}):
  wpAny (model prog w) A (VW (.ref it)) Q E s:=by
 obtain⟨o,ho,hc,hd⟩:=id hit;obtain⟨ol,SS,_,nl,Oz⟩:=ht;unfold VW;refine U7 (Wh (name:=We "__next__") hit.typeIs W7
  (WL W7 hit.typeIs PySem.F.entry_tuple_iterator_next ?_ (PySem.F.args_tuple_iterator_next_1 _)))
 show wpAny _ _ (field (.ref it) 0 >>=_) _ _ s;refine U7 (Wz ho hd (x:=.ref t) rfl ?_);show wpAny _ _ (if(VJ t==Xi)=true then _ else _) _ _ s;rw[if_neg (show ¬((VJ t==Xi)=true) from V7)];show wpAny _ _ (field (.ref it) 1 >>=_) _ _ s;refine U7 (Wz ho hd (x:=.int i 0) rfl ?_);show wpAny _ _ (seqItems? (.ref t) >>=_) _ _ s;refine U7 (Xl SS Oz ?_);simp only[YU,hx];refine U7 (wpAny_setField ho hd (by simp) (Vn ⟨x,rfl,Vn (hQ _ ?_ (XS.update ..))⟩));exact⟨_,Xf _ ho (Obj.isFreed_of_fields (Obj.data_mapFields hd _)),(Obj.cls_mapFields ..).trans hc,by rw[Obj.data_mapFields hd];simp[Xm]⟩
theorem jj{items}(hh:A.handled=none)(hit:s.heap.IsTupleIter it t i)(ht:s.heap.IsTuple t items)(hx:items[i]?=none)(hE:∀h' e,Heap.ExtBut it s.heap h'->(∃o,h'.get? e=some o/\o.cls=.type "StopIteration")->E (.ref e) {s with heap:=h'}):
  wpAny (model prog w) A (VW (.ref it)) Q E s:=by
 obtain⟨o,ho,hc,hd⟩:=id hit;obtain⟨ol,SS,_,nl,Oz⟩:=ht;unfold VW;refine U7 (Wh (name:=We "__next__") hit.typeIs W7
  (WL W7 hit.typeIs PySem.F.entry_tuple_iterator_next ?_ (PySem.F.args_tuple_iterator_next_1 _)))
 show wpAny _ _ (field (.ref it) 0 >>=_) _ _ s;refine U7 (Wz ho hd (x:=.ref t) rfl ?_);show wpAny _ _ (if(VJ t==Xi)=true then _ else _) _ _ s;rw[if_neg (show ¬((VJ t==Xi)=true) from V7)];show wpAny _ _ (field (.ref it) 1 >>=_) _ _ s;refine U7 (Wz ho hd (x:=.int i 0) rfl ?_);show wpAny _ _ (seqItems? (.ref t) >>=_) _ _ s;refine U7 (Xl SS Oz ?_);simp only[YU,hx];refine U7 (Y1 (U7 (wpAny_setField ho hd (by simp) ?_)));show wpAny _ _ (newExc (.type "StopIteration") [] >>=_) _ _ _;refine U7 ?_;simp only[newExc,newTuple];refine U7 (WB ?_ (by size_fits));refine U7 (m:=firstArgMember _ _) (wpAny_of_eq (a:=Xi) (by first|rfl|(simp only[firstArgMember];rfl)) ?_);refine WB ?_ (by size_fits);simp only[raiseNew];refine U7 (wpAny_handled ?_);first|rw[show A.in1.handled=none from hh]|rw[hh]
 refine U7 (Vn (wpAny_throw ?_));exact hE _ _ (((XS.update ..).extBut.push _).push _) ⟨_,Vq _ rfl,rfl⟩
end
theorem ku{prog:Wf}{w:World}{A:WN}(hh:A.handled=none)(it l:Addr)(fc:l≠it)(items:Array Value):
  Draws prog w A it [it,l] items.size (λi v=>items[i]?=some v) (λi h=>h.IsTupleIter it l i/\h.IsTuple l items) where
 live:=λ_ _ st=>let ⟨o,ho,_⟩:=st.1;⟨o,ho⟩
 frame:=λ_ _ _ st hk=>⟨st.1.at λo e=>hk it (by simp) o e,let ⟨o,ho,r⟩:=st.2;⟨o,hk l (by simp) o ho,r⟩⟩
 item:=λi s Q E hi st hQ=>by refine nu st.1 st.2 (x:=items[i]) (by simp[hi]) λh' SU rV=>?_;exact hQ _ h' s.toks (by simp[hi]) ⟨SU,st.2.extBut rV.extBut fc⟩ rV
 done:=λs Q E st hE=>jj hh st.1 st.2 (by simp) hE
abbrev xj(h:Heap)(z TI TO:Addr)(f0 f1:Value):Prop:=
 h.get? z=some {cls:=.type "zip",dict:=none,data:=.fields #[f0,f1,.bool false,.ref TI,.ref TO],slots:=#[]}
def ZF(f0 f1:Value):Prop:=(f0=.none\/∃(T:Int) (t:Tok),f0=.int T t)/\∃b,f1=.bool b
structure Hg(z TI TO i1 i2:Addr)(oG oH:List Addr):Prop where
 TIz:TI≠z
 TOz:TO≠z
 i1z:i1≠z
 i2z:i2≠z
 TITO:TI≠TO
 TIi1:TI≠i1
 TIi2:TI≠i2
 TOi1:TO≠i1
 TOi2:TO≠i2
 i12:i1≠i2
 z1:z∉oG
 z2:z∉oH
 T1:TO∉oG
 T2:TO∉oH
 x1:i2∉oG
 x2:i1∉oH
section
variable{prog:Wf}{w:World}{A:WN}{E:Value->Vv->Prop}{s:Vv}{z TI TO i1 i2:Addr}{oG oH:List Addr}{n1 n2:Nat}{P1 P2:Nat->Value->Prop}{uh ui:Nat->Heap->Prop}
theorem xP(h:Q (s.heap.get? a) s):wpAny M A (loadIfAlive a) Q E s:=λΓ p _=>by unfold loadIfAlive;rw[Sem.wp_loadIfAlive];exact Vn (M:=M) (A:=A) (E:=E) (Q:=Q) h Γ p (by assumption)
theorem Jx(hf:ZF f0 f1)(hz:xj s.heap z TI TO f0 f1)(h1:Q true s)(h2:∀h',xj h' z TI TO f0 (.bool true)->XS z s.heap h'->Q false {s with heap:=h'}):
  wpAny (model prog w) A (WU (.ref z)) Q E s:=by
 unfold WU;refine U7 (Wz hz rfl (x:=f0) rfl ?_);obtain⟨hf0,b,rfl⟩:=hf;rcases hf0 with rfl|⟨T,t,rfl⟩;·exact Vn h1
 ·dsimp only;refine U7 (xP ?_);cases s.heap.get? T.toNat with|none=>exact Vn h1|some o=>show wpAny _ _ (field (.ref z) 1 >>=_) _ _ _;refine U7 (Wz hz rfl (x:=.bool b) rfl ?_);cases b with|true=>exact Vn (h2 s.heap hz ⟨rfl,λ_ _=>rfl⟩)|false=>show wpAny _ _ (setField (.ref z) 1 (.bool true) >>=_) _ _ _;exact U7 (Xh hz (by simp) λdu jk dR=>Vn (h2 du jk dR))
theorem Ei(D1:Draws prog w A i1 oG n1 P1 uh)(D2:Draws prog w A i2 oH n2 P2 ui)(ap:Hg z TI TO i1 i2 oG oH){Q:Value->Vv->Prop}(hf:ZF f0 f1)(hz:xj s.heap z TI TO f0 f1)(KR:XD s.heap TI (.ref i1) (.ref i2))(Jy:XD s.heap TO a b)(uj:k < n1)(u7:k < n2)(h1:uh k s.heap)(h2:ui k s.heap)(hQ:∀h' tk T x y f0 f1 a b,ZF f0 f1->xj h' z TI TO f0 f1->XD h' TO a b->uh (k+1) h'->ui (k+1) h'->P1 k x->P2 k y->s.heap.objs.size<=T->XD h' T x y->
   (∀c o,c≠z->c≠TO->c≠i1->c≠i2->s.heap.get? c=some o->h'.get? c=some o)->Q (.ref T) {s with heap:=h',toks:=tk}):
  wpAny (model prog w) A (Zd.«zip.__next__» ⟨[.ref z],[]⟩) (λfin s'=>∃v,fin=.done (.ret v)/\Q v s') E s:=by
 show wpAny _ _ (field (.ref z) 2 >>=_) _ _ _;refine U7 (Wz hz rfl (x:=.bool false) rfl ?_);show wpAny _ _ (field (.ref z) 3 >>=_) _ _ _;refine U7 (Wz hz rfl (x:=.ref TI) rfl ?_);refine U7 (Xl KR rfl ?_);show wpAny _ _ (WU (.ref z) >>=_) _ _ _;refine U7 (Jx hf hz ?_ ?_)
 ·simp only[if_true];refine U7 (Y1 ?_);refine U7 (Wz hz rfl (x:=.ref TO) rfl ?_);refine U7 (Xh hz (by simp) λdu jk dR=>?_);replace jk:xj du z TI TO .ellipsis f1:=jk;refine U7 ?_;simp only[ZV,List.zipIdx_nil,Yd,YS];refine U7 (U7 (ZH ?_));show wpAny _ _ (VW (.ref i1) >>=_) _ _ _;refine U7 (D1.item k _ _ _ uj (D1.frame k _ du h1 λc hc o e=>dR.extBut _ _ (λx=>ap.z1 (x▸hc)) e) λx kr OA px xQ dS=>Vn ?_);have rX:XD kr TO a b:=dS.extBut _ _ ap.TOi1 (dR.extBut _ _ ap.TOz Jy);refine U7 (Xl rX rfl ?_);refine U7 (Ze rX λjb wa fN=>?_);replace wa:XD jb TO x b:=wa;refine U7 (Zx (Vn ?_));refine U7 (U7 (ZH ?_));show wpAny _ _ (VW (.ref i2) >>=_) _ _ _;have k3:∀c o,c≠z->c≠TO->c≠i1->s.heap.get? c=some o->jb.get? c=some o:=λc o c1 c2 c3 e=>fN.extBut _ _ c2 (dS.extBut _ _ c3 (dR.extBut _ _ c1 e));refine U7 (D2.item k _ _ _ u7 (D2.frame k _ jb h2 λc hc o e=>k3 c o (λx=>ap.z2 (x▸hc)) (λx=>ap.T2 (x▸hc)) (λx=>ap.x2 (x▸hc)) e) λy Ct tk4 py OB pR=>Vn ?_);have Ej:XD Ct TO x b:=pR.extBut _ _ ap.TOi2 wa;refine U7 (Xl Ej rfl ?_);refine U7 (Ze Ej λlH wb pT=>?_);replace wb:XD lH TO x y:=wb;refine U7 (Zx (Vn (Vn ?_)));refine U7 (Xl wb rfl ?_);refine U7 (wpAny_newTuple ?_);have hsz:lH.objs.size=s.heap.objs.size:=by rw[pT.1,pR.1,fN.1,dS.1,dR.1]
  have Jz:xj lH z TI TO .ellipsis f1:=pT.extBut _ _ ap.TOz.symm (pR.extBut _ _ ap.i2z.symm (fN.extBut _ _ ap.TOz.symm (dS.extBut _ _ ap.i1z.symm jk)));have OC:∀c o,c≠z->c≠TO->c≠i1->c≠i2->s.heap.get? c=some o->lH.get? c=some o:=λc o c1 c2 c3 c4 e=>pT.extBut _ _ c2 (pR.extBut _ _ c4 (k3 c o c1 c2 c3 e));have OD:z < lH.objs.size:=Vs Jz;show wpAny _ _ (Zd.SmallTypes.ownedTupleHandOut (.ref z) (.ref lH.objs.size) >>=_) _ _ _;refine U7 ?_;unfold Zd.SmallTypes.ownedTupleHandOut;have OE:xj (lH.push {cls:=.type "tuple",data:=.seq #[x,y]}) z TI TO .ellipsis f1:=Va _ Jz;refine U7 (Xh OE (by simp) λSV Ek JA=>?_);replace Ek:xj SV z TI TO (Xm lH.objs.size) f1:=Ek;refine Xh Ek (by simp) λCy El JB=>?_;replace El:xj Cy z TI TO (Xm lH.objs.size) (.bool false):=El;have up:∀c o,c≠z->lH.get? c=some o->Cy.get? c=some o:=λc o c1 e=>JB.extBut _ _ c1 (JA.extBut _ _ c1 (Va _ e));have OF:XD Cy lH.objs.size x y:=JB.extBut _ _ (Wu OD) (JA.extBut _ _ (Wu OD) (Vq _ rfl));refine Vn ⟨_,rfl,?_⟩;refine hQ Cy _ lH.objs.size x y _ _ x y ⟨.inr ⟨_,_,rfl⟩,false,rfl⟩ El (up _ _ ap.TOz wb) (D1.frame _ kr Cy xQ λc hc o e=>?_) (D2.frame _ Ct Cy OB λc hc o e=>?_) px py (by rw[hsz];exact Vj _) OF λc o c1 c2 c3 c4 e=>up c o c1 (OC c o c1 c2 c3 c4 e);·exact up c o (λx=>ap.z1 (x▸hc)) (pT.extBut _ _ (λx=>ap.T1 (x▸hc)) (pR.extBut _ _ (λx=>ap.x1 (x▸hc)) (fN.extBut _ _ (λx=>ap.T1 (x▸hc)) e)))
  ·exact up c o (λx=>ap.z2 (x▸hc)) (pT.extBut _ _ (λx=>ap.T2 (x▸hc)) e)
 ·intro du jk dR;simp only[VY,if_false,List.forIn_toArray,Yd,YS];refine U7 ?_;refine U7 ?_;refine U7 ?_;refine XT ?_;show wpAny _ _ (VW (.ref i1) >>=_) _ _ _;refine U7 (D1.item k _ _ _ uj (D1.frame k _ du h1 λc hc o e=>dR.extBut _ _ (λx=>ap.z1 (x▸hc)) e) λx kr OA px xQ dS=>Vn ?_);refine Vn ?_;refine U7 ?_;refine U7 ?_;refine XT ?_;show wpAny _ _ (VW (.ref i2) >>=_) _ _ _;refine U7 (D2.item k _ _ _ u7 (D2.frame k _ kr h2 λc hc o e=>dS.extBut _ _ (λx=>ap.x2 (x▸hc)) (dR.extBut _ _ (λx=>ap.z2 (x▸hc)) e)) λy jb tk3 py OG fN=>Vn ?_);refine Vn ?_;refine Vn ?_;show wpAny _ _ (newTuple [x,y] >>=_) _ _ _;refine U7 (wpAny_newTuple (items:=[x,y]) ?_);have hsz:jb.objs.size=s.heap.objs.size:=by rw[fN.1,dS.1,dR.1]
  have up:∀c o,jb.get? c=some o->(jb.push {cls:=.type "tuple",data:=.seq #[x,y]}).get? c=some o:=λc o e=>Va _ e;refine Vn ⟨_,rfl,?_⟩;refine hQ _ _ jb.objs.size x y f0 (.bool true) a b ⟨hf.1,true,rfl⟩ (up _ _ (fN.extBut _ _ ap.i2z.symm (dS.extBut _ _ ap.i1z.symm jk))) (up _ _ (fN.extBut _ _ ap.TOi2 (dS.extBut _ _ ap.TOi1 (dR.extBut _ _ ap.TOz Jy))))
   (D1.frame _ kr _ xQ λc hc o e=>up _ _ (fN.extBut _ _ (λx=>ap.x1 (x▸hc)) e)) (D2.frame _ jb _ OG λc hc o e=>up _ _ e) px py (by rw[hsz];exact Vj _) (Vq _ rfl) λc o c1 c2 c3 c4 e=>up _ _ (fN.extBut _ _ c4 (dS.extBut _ _ c3 (dR.extBut _ _ c1 e)))
theorem Em(D1:Draws prog w A i1 oG n1 P1 uh)(D2:Draws prog w A i2 oH n2 P2 ui)(ap:Hg z TI TO i1 i2 oG oH)(hf:ZF f0 f1)(hz:xj s.heap z TI TO f0 f1)(KR:XD s.heap TI (.ref i1) (.ref i2))(Jy:XD s.heap TO a b)(hk:k=n1\/(k < n1/\k=n2))(h1:uh k s.heap)(h2:ui k s.heap)(hE:∀h' tk e,(∀c o,c≠z->c≠TO->c≠i1->c≠i2->s.heap.get? c=some o->h'.get? c=some o)->(∃o,h'.get? e=some o/\o.cls=.type "StopIteration")->E (.ref e) {s with heap:=h',toks:=tk}):
  wpAny (model prog w) A (Zd.«zip.__next__» ⟨[.ref z],[]⟩) Q E s:=by
 show wpAny _ _ (field (.ref z) 2 >>=_) _ _ _;refine U7 (Wz hz rfl (x:=.bool false) rfl ?_);show wpAny _ _ (field (.ref z) 3 >>=_) _ _ _;refine U7 (Wz hz rfl (x:=.ref TI) rfl ?_);refine U7 (Xl KR rfl ?_);show wpAny _ _ (WU (.ref z) >>=_) _ _ _;refine U7 (Jx hf hz ?_ ?_)
 ·simp only[if_true];refine U7 (Y1 ?_);refine U7 (Wz hz rfl (x:=.ref TO) rfl ?_);refine U7 (Xh hz (by simp) λdu jk dR=>?_);replace jk:xj du z TI TO .ellipsis f1:=jk;refine U7 ?_;simp only[ZV,List.zipIdx_nil,Yd,YS];refine U7 (U7 (ZH ?_));show wpAny _ _ (VW (.ref i1) >>=_) _ _ _;have xR:=D1.frame k _ du h1 λc hc o e=>dR.extBut _ _ (λx=>ap.z1 (x▸hc)) e;rcases hk with rfl|⟨hk,rfl⟩
  ·refine U7 (D1.done _ _ _ xR λkr e dS he=>?_);obtain⟨oe,KS,OH⟩:=he;have JC:xj kr z TI TO .ellipsis f1:=dS _ _ ap.i1z.symm jk;have SX:e≠z:=λx=>by subst x;rw[JC] at KS;cases KS;simp at OH
   exact Xh JC (by simp) λjb _ fN=>hE jb s.toks e (λc o c1 _ c3 _ x=>fN.extBut _ _ c1 (dS _ _ c3 (dR.extBut _ _ c1 x))) ⟨oe,fN.extBut _ _ SX KS,OH⟩
  ·refine U7 (D1.item k _ _ _ hk xR λx kr OA px xQ dS=>Vn ?_);have rX:XD kr TO a b:=dS.extBut _ _ ap.TOi1 (dR.extBut _ _ ap.TOz Jy);refine U7 (Xl rX rfl ?_);refine U7 (Ze rX λjb wa fN=>?_);refine U7 (Zx (Vn ?_));refine U7 (U7 (ZH ?_));show wpAny _ _ (VW (.ref i2) >>=_) _ _ _;have k3:∀c o,c≠z->c≠TO->c≠i1->s.heap.get? c=some o->jb.get? c=some o:=λc o c1 c2 c3 e=>fN.extBut _ _ c2 (dS.extBut _ _ c3 (dR.extBut _ _ c1 e));refine U7 (D2.done _ _ _ (D2.frame k _ jb h2 λc hc o e=>k3 c o (λx=>ap.z2 (x▸hc)) (λx=>ap.T2 (x▸hc)) (λx=>ap.x2 (x▸hc)) e) λCt e pR he=>?_);obtain⟨oe,KS,OH⟩:=he;have JD:xj Ct z TI TO .ellipsis f1:=pR _ _ ap.i2z.symm (fN.extBut _ _ ap.TOz.symm (dS.extBut _ _ ap.i1z.symm jk));have SX:e≠z:=λx=>by subst x;rw[JD] at KS;cases KS;simp at OH
   exact Xh JD (by simp) λlH _ pT=>hE lH OA e (λc o c1 c2 c3 c4 x=>pT.extBut _ _ c1 (pR _ _ c4 (k3 c o c1 c2 c3 x))) ⟨oe,pT.extBut _ _ SX KS,OH⟩
 ·intro du jk dR;simp only[VY,if_false,List.forIn_toArray,Yd,YS];refine U7 ?_;refine U7 ?_;refine U7 ?_;refine XT ?_;show wpAny _ _ (VW (.ref i1) >>=_) _ _ _;have xR:=D1.frame k _ du h1 λc hc o e=>dR.extBut _ _ (λx=>ap.z1 (x▸hc)) e;rcases hk with rfl|⟨hk,rfl⟩;·exact U7 (D1.done _ _ _ xR λkr e dS he=>hE kr s.toks e (λc o c1 _ c3 _ x=>dS _ _ c3 (dR.extBut _ _ c1 x)) he)
  ·refine U7 (D1.item k _ _ _ hk xR λx kr OA px xQ dS=>Vn ?_);refine Vn ?_;refine U7 ?_;refine U7 ?_;refine XT ?_;show wpAny _ _ (VW (.ref i2) >>=_) _ _ _;exact U7 (D2.done _ _ _ (D2.frame k _ kr h2 λc hc o e=>dS.extBut _ _ (λx=>ap.x2 (x▸hc)) (dR.extBut _ _ (λx=>ap.z2 (x▸hc)) e)) λjb e fN he=>hE jb OA e (λc o c1 _ c3 c4 x=>fN _ _ c4 (dS.extBut _ _ c3 (dR.extBut _ _ c1 x))) he)
theorem qh(D1:Draws prog w A.in1 i1 oG n1 P1 uh)(D2:Draws prog w A.in1 i2 oH n2 P2 ui)(ap:Hg z TI TO i1 i2 oG oH)(hf:ZF f0 f1)(hz:xj s.heap z TI TO f0 f1)(KR:XD s.heap TI (.ref i1) (.ref i2))(Jy:XD s.heap TO a b)(uj:k < n1)(u7:k < n2)(h1:uh k s.heap)(h2:ui k s.heap)(hQ:∀h' tk T x y f0 f1 a b,ZF f0 f1->xj h' z TI TO f0 f1->XD h' TO a b->uh (k+1) h'->ui (k+1) h'->P1 k x->P2 k y->s.heap.objs.size<=T->XD h' T x y->
   (∀c o,c≠z->c≠TO->c≠i1->c≠i2->s.heap.get? c=some o->h'.get? c=some o)->Q (some (.ref T)) {s with heap:=h',toks:=tk}):wpAny (model prog w) A (ZL (.ref z)) Q E s:=by
 have hT:s.TypeIs (.ref z) "zip":=⟨_,hz,rfl⟩;unfold ZL;exact U7 (ZJ (Wh (name:=We "__next__") hT Yf
  (WL Yf hT PySem.F.entry_zip_next
   (Ei D1 D2 ap hf hz KR Jy uj u7 h1 h2 λh' tk T x y f0 f1 a b c1 c2 c3 c4 c5 c6 c7 c8 c9 c10=>Vn (hQ h' tk T x y f0 f1 a b c1 c2 c3 c4 c5 c6 c7 c8 c9 c10)) (PySem.F.args_zip_next_1 _))))
theorem qi(D1:Draws prog w A.in1 i1 oG n1 P1 uh)(D2:Draws prog w A.in1 i2 oH n2 P2 ui)(ap:Hg z TI TO i1 i2 oG oH)(hf:ZF f0 f1)(hz:xj s.heap z TI TO f0 f1)(KR:XD s.heap TI (.ref i1) (.ref i2))(Jy:XD s.heap TO a b)(hk:k=n1\/(k < n1/\k=n2))(h1:uh k s.heap)(h2:ui k s.heap)(hQ:∀h' tk,(∀c o,c≠z->c≠TO->c≠i1->c≠i2->s.heap.get? c=some o->h'.get? c=some o)->Q none {s with heap:=h',toks:=tk}):wpAny (model prog w) A (ZL (.ref z)) Q E s:=by
 have hT:s.TypeIs (.ref z) "zip":=⟨_,hz,rfl⟩;unfold ZL;refine U7 (ZJ (Wh (name:=We "__next__") hT Yf
  (WL Yf hT PySem.F.entry_zip_next (Em D1 D2 ap hf hz KR Jy hk h1 h2 λh' tk e Cz he=>?_) (PySem.F.args_zip_next_1 _))))
 obtain⟨o,ho,hc⟩:=he;refine U7 (ZQ (T:="StopIteration") (b:=true) ⟨o,ho,hc⟩ aak ?_);exact Vn (hQ _ _ Cz)
def ZI(z TI TO i1 i2:Addr)(uh ui:Nat->Heap->Prop)(k:Nat)(h:Heap):Prop:=∃f0 f1 a b,ZF f0 f1/\xj h z TI TO f0 f1/\XD h TI (.ref i1) (.ref i2)/\XD h TO a b/\uh k h/\ui k h
theorem ZI.frame(ap:Hg z TI TO i1 i2 oG oH)(D1:Draws prog w A i1 oG n1 P1 uh)(D2:Draws prog w A i2 oH n2 P2 ui)(x:ZI z TI TO i1 i2 uh ui k h)(hk:∀b,(b=z\/b=TI\/b=TO\/b∈oG\/b∈oH)->∀o,h.get? b=some o->h'.get? b=some o):ZI z TI TO i1 i2 uh ui k h':=by obtain⟨f0,f1,a,b,c1,c2,c3,c4,c5,c6⟩:=x;exact⟨f0,f1,a,b,c1,hk _ (.inl rfl) _ c2,hk _ (.inr (.inl rfl)) _ c3,hk _ (.inr (.inr (.inl rfl))) _ c4,D1.frame _ _ _ c5 λb hb=>hk b (.inr (.inr (.inr (.inl hb)))),D2.frame _ _ _ c6 λb hb=>hk b (.inr (.inr (.inr (.inr hb))))⟩
def ZP(B:Nat)(bad:List Addr)(P1 P2:Nat->Value->Prop)(acc:Array Value)(k:Nat)(h:Heap):Prop:=acc.size=k/\(∀j v,acc[j]?=some v->∃T x y,v=.ref T/\B<=T/\T∉bad/\XD h T x y/\P1 j x/\P2 j y)/\∀(i j:Nat) (v:Value),acc[i]?=some v->acc[j]?=some v->i=j
theorem ZP.frame(x:ZP B bad P1 P2 acc k h)(hk:∀b o,b∉bad->h.get? b=some o->h'.get? b=some o):ZP B bad P1 P2 acc k h':=by refine⟨x.1,λj v hj=>?_,x.2.2⟩;obtain⟨T,a,b,e,c1,c2,c3,c4,c5⟩:=x.2.1 j v hj;exact⟨T,a,b,e,c1,c2,hk _ _ c2 c3,c4,c5⟩
theorem ZP.push(x:ZP B bad P1 P2 acc k h)(c1:B<=T)(c2:T∉bad)(c3:XD h T a b)(c4:P1 k a)(c5:P2 k b)(c6:∀j:Nat,acc[j]?≠some (VJ T)):ZP B bad P1 P2 (acc.push (.ref T)) (k+1) h:=by
 refine⟨by rw[Array.size_push,x.1],λj v hj=>?_,λi j v hi hj=>?_⟩
 ·rw[Array.getElem?_push] at hj;split at hj;·rename_i e;rw[x.1] at e;cases hj;exact⟨T,a,b,rfl,c1,c2,c3,by rw[e];exact c4,by rw[e];exact c5⟩
  ·exact x.2.1 j v hj
 ·rw[Array.getElem?_push] at hi hj;split at hi
  ·split at hj;·omega
   ·cases hi;exact absurd hj (c6 j)
  ·split at hj;·cases hj;exact absurd hi (c6 i)
   ·exact x.2.2 i j v hi hj
theorem Au(ap:Hg z TI TO i1 i2 oG oH)(D1:Draws prog w A.in1.in1 i1 oG n1 P1 uh)(D2:Draws prog w A.in1.in1 i2 oH n2 P2 ui)(hn:n1<=VD)(wc:S≠z/\S≠TI/\S≠TO/\S∉oG/\S∉oH)(OI:i1∈oG)(CA:i2∈oH):
  ∀(m k) (s) (acc) (c),min n1 n2 - k=m->k<=n1->k<=n2->B<=s.heap.objs.size->ZI z TI TO i1 i2 uh ui k s.heap->s.heap.get? S=some {cls:=.type "list",dict:=none,data:=.seq acc c,slots:=#[]}->
  ZP B [z,TO,i1,i2,S] P1 P2 acc k s.heap->
  (∀h' tk g8 c',(∀b o,b∉[z,TO,i1,i2,S]->s.heap.get? b=some o->h'.get? b=some o)->h'.get? S=some {cls:=.type "list",dict:=none,data:=.seq g8 c',slots:=#[]}->ZP B [z,TO,i1,i2,S] P1 P2 g8 (min n1 n2) h'->
   R (.ok (.ret res)) {s with heap:=h',toks:=tk})->
  Zc (model prog w) A (.builtin "list.extend.loop" ⟨[.ref S,.ref z,res],[]⟩) R s:=by
 have OJ:S≠i1:=λe=>wc.2.2.2.1 (e▸OI);have OK:S≠i2:=λe=>wc.2.2.2.2 (e▸CA);intro m;induction m with
 |zero=>
  intro k s acc c hm uj u7 hB JE hS fL hR;refine codeAny_builtin PySem.F.entry_extend_loop ?_;rw[WN.under_plainId XF _];show wpAny _ A.in1 (ZL (.ref z) >>=_) _ _ s;obtain⟨f0,f1,a,b,c1,c2,c3,c4,c5,c6⟩:=JE;have SY:min n1 n2=k:=by omega
  refine U7 (qi D1 D2 ap c1 c2 c3 c4 (k:=k) (by omega) c5 c6 λh' tk hk=>Vn ?_);refine hR h' tk acc c (λb o hb e=>hk b o (λx=>hb (by simp[x])) (λx=>hb (by simp[x])) (λx=>hb (by simp[x])) (λx=>hb (by simp[x])) e) (hk _ _ wc.1 wc.2.2.1 OJ OK hS) ?_;rw[SY];exact fL.frame λb o hb e=>hk b o (λx=>hb (by simp[x])) (λx=>hb (by simp[x])) (λx=>hb (by simp[x])) (λx=>hb (by simp[x])) e
 |succ m ih=>
  intro k s acc c hm uj u7 hB JE hS fL hR;refine codeAny_builtin PySem.F.entry_extend_loop ?_;rw[WN.under_plainId XF _];show wpAny _ A.in1 (ZL (.ref z) >>=_) _ _ s;obtain⟨f0,f1,a,b,c1,c2,c3,c4,c5,c6⟩:=JE;refine U7 (qh D1 D2 ap c1 c2 c3 c4 (k:=k) (by omega) (by omega) c5 c6 λh' tk T x y g0 g1 a' b' d1 d2 d3 d4 d5 px py hT hp hk=>?_);have kk:∀b o,b∉[z,TO,i1,i2,S]->s.heap.get? b=some o->h'.get? b=some o:=λb o hb e=>hk b o (λx=>hb (by simp[x])) (λx=>hb (by simp[x])) (λx=>hb (by simp[x])) (λx=>hb (by simp[x])) e;have Nd:=hk _ _ wc.1 wc.2.2.1 OJ OK hS;have S0:=hk _ _ ap.TIz ap.TITO ap.TIi1 ap.TIi2 c3;have lt:∀{b o},s.heap.get? b=some o->T≠b:=λe=>Wu (VI (Vs e) hT);have OL:T∉[z,TO,i1,i2,S]:=by obtain⟨o1,e1⟩:=D1.live _ _ c5;obtain⟨o2,e2⟩:=D2.live _ _ c6;simp only[W4,WM,or_false,not_or];exact⟨lt c2,lt c4,lt e1,lt e2,lt hS⟩
  show wpAny _ A.in1 (aaL S (·.push (.ref T)) >>=_) _ _ _;refine U7 ?_;refine Zj Nd rfl (Vn ⟨plainId_quiet XF _,ih (k+1) _ (acc.push (.ref T)) _ (by omega) (by omega) (by omega) ?_ ?_ (Xf _ Nd rfl) ?_ λh'' tk' g8 c' S2 S3 OM=>?_⟩)
   (by rw[fL.1];omega) (by show(acc.push (VJ T)).size<=VD+1;rw[Array.size_push,fL.1];omega)
  ·show B<=(h'.update S _).objs.size;rw[Za];exact V3 hB (V3 hT (Yr (Vs hp)))
  ·refine ZI.frame ap D1 D2 ⟨g0,g1,a',b',d1,d2,S0,d3,d4,d5⟩ λb hb o e=>(Wv _ _ (λh:S=b=>?_)).trans e;subst h;rcases hb with h|h|h|h|h;·exact wc.1 h
   ·exact wc.2.1 h
   ·exact wc.2.2.1 h
   ·exact wc.2.2.2.1 h
   ·exact wc.2.2.2.2 h
  ·refine ZP.frame ((fL.frame kk).push (V3 hB hT) OL hp px py λj hj=>by obtain⟨T',_,_,e,_,_,c3',_⟩:=fL.2.1 j _ hj;cases e;exact lt c3' rfl) λb o hb e=>(Wv _ _ (λh:S=b=>hb (by simp[h]))).trans e
  ·refine hR h'' tk' g8 c' (λb o hb e=>S2 b o hb ((Wv _ _ (λh:S=b=>hb (by simp[h]))).trans (kk b o hb e))) S3 OM
theorem Av:aaV (.type "zip") "__len__"=pure none:=by rw[typeLookup_type,builtinLookup_eq_fast];kernel_rfl
theorem xS:aaV (.type "zip") "__length_hint__"=pure none:=by rw[typeLookup_type,builtinLookup_eq_fast];kernel_rfl
theorem rY(ap:Hg z TI TO i1 i2 oG oH)(D1:Draws prog w A.in1.in1 i1 oG n1 P1 uh)(D2:Draws prog w A.in1.in1 i2 oH n2 P2 ui)(hn:n1<=VD)(wc:S≠z/\S≠TI/\S≠TO/\S∉oG/\S∉oH)(OI:i1∈oG)(CA:i2∈oH)(hB:B<=s.heap.objs.size)(JE:ZI z TI TO i1 i2 uh ui 0 s.heap)(hS:s.heap.get? S=some {cls:=.type "list",data:=.seq #[] c₀})(hR:∀h' tk g8 c',(∀b o,b∉[z,TO,i1,i2,S]->s.heap.get? b=some o->h'.get? b=some o)->h'.get? S=some {cls:=.type "list",dict:=none,data:=.seq g8 c',slots:=#[]}->ZP B [z,TO,i1,i2,S] P1 P2 g8 (min n1 n2) h'->
   R (.ok (.ret res)) {s with heap:=h',toks:=tk}):
  wpAny (model prog w) A.in1 (Xx (.ref S) (.ref z) res)
   (λfin s'=>match fin with|.done f=>R (.ok f) s'|.again c'=>c'.quiet=true/\Zc (model prog w) A c' R s') (λe s'=>R (.error e) s') s:=by
 obtain⟨f0,f1,a,b,c1,c2,c3,c4,c5,c6⟩:=id JE;have hT:s.TypeIs (.ref z) "zip":=⟨_,c2,rfl⟩;unfold Xx;refine U7 (Z4 hT ?_);have h1:Zd.List.listSameRef (.ref S) (.ref z)=false:=by simp[Zd.List.listSameRef,wc.1]
 have h2:(X7 "zip"==X7 "list")=false:=by decide
 have h3:(X7 "zip"==X7 "tuple")=false:=by decide
 simp only[h1,h2,h3,Bool.or_false,VY,if_false];refine U7 (wpAny_pyIter_slot hT PySem.F.slot_zip_iter (WL PySem.F.slot_zip_iter hT PySem.F.entry_zip_iter ?_ (PySem.F.args_zip_iter_1 _)));show wpAny _ _ (ret (.ref z)) _ _ s;refine Vn ⟨_,rfl,"zip",_,hT,Yf.lookup,?_⟩;refine U7 (XT ?_);unfold Zd.List.listLengthHint;refine U7 (aac hT Av ?_);show wpAny _ A.in1 (specialOf (VJ z) (We "__length_hint__") >>=_) _ _ _;refine U7 (aac hT xS ?_);refine Vn ?_;show wpAny _ A.in1 (rule "list.extend.makes-room" >>=λ_=>Zd.List.listTouch (.ref S) >>=λ_=>again (.builtin "list.extend.loop" ⟨[.ref S,.ref z,res],[]⟩)) _ _ _;refine U7 (Y1 ?_);refine U7 ?_;show wpAny _ A.in1 (aaL S (·.push .none) >>=λ_=>aaL S (·.pop)) _ _ _;refine U7 (Zj hS rfl ?_);have Bj:=Xf (XW (·.push Xi)) hS rfl;refine Zj (hz:=by seq_fits) Bj rfl ?_;have ON:=Xf (XW (·.pop)) Bj rfl;have Hh:∀b o,b≠S->s.heap.get? b=some o->((s.heap.update S (XW (·.push Xi))).update S (XW (·.pop))).get? b=some o:=
  λb o hb e=>(Wv _ _ (Wg hb)).trans ((Wv _ _ (Wg hb)).trans e)
 refine Vn ⟨plainId_quiet XF _,Au ap D1 D2 (B:=B) hn wc OI CA _ 0 _ _ _ rfl (WE _) (WE _) ?_ (ZI.frame ap D1 D2 JE λb hb o e=>Hh b o (λh=>?_) e) ON ⟨rfl,(λj v hj=>by simp at hj),(λi j v hi _=>by simp at hi)⟩ λh' tk g8 c' hk Nd fL=>?_⟩;·show B<=((s.heap.update S _).update S _).objs.size;rw[Za,Za];exact hB
 ·subst h;rcases hb with h|h|h|h|h;·exact wc.1 h
  ·exact wc.2.1 h
  ·exact wc.2.2.1 h
  ·exact wc.2.2.2.1 h
  ·exact wc.2.2.2.2 h
 ·exact hR h' tk g8 c' (λb o hb e=>hk b o hb (Hh b o (λh=>hb (by simp[h])) e)) Nd fL
theorem uk(ap:Hg z TI TO i1 i2 oG oH)(D1:Draws prog w A.in1.in1.in1 i1 oG n1 P1 uh)(D2:Draws prog w A.in1.in1.in1 i2 oH n2 P2 ui)(hn:n1<=VD)(fM:z < s.heap.objs.size/\TI < s.heap.objs.size/\TO < s.heap.objs.size/\(∀b∈oG,b < s.heap.objs.size)/\∀b∈oH,b < s.heap.objs.size)(OI:i1∈oG)(CA:i2∈oH)(hB:B<=s.heap.objs.size)(JE:ZI z TI TO i1 i2 uh ui 0 s.heap)(hQ:∀h' tk g8 c',(∀b o,b∉[z,TO,i1,i2]->s.heap.get? b=some o->h'.get? b=some o)->h'.get? s.heap.objs.size=some {cls:=.type "list",dict:=none,data:=.seq g8 c',slots:=#[]}->ZP B [z,TO,i1,i2,s.heap.objs.size] P1 P2 g8 (min n1 n2) h'->
   Q (.ref s.heap.objs.size) {s with heap:=h',toks:=tk}):
  wpAny (model prog w) A (call (.type "list") [.ref z]) Q E s:=by
 refine callType_codes (Q₁:=λobj br=>obj=.ref s.heap.objs.size/\br={s with heap:=s.heap.push {cls:=.type "list",data:=.seq #[]}}) PySem.F.called_list (PySem.F.typeCall_list_1 _) PySem.F.entry_list_init
  (code_list_new _ ⟨rfl,rfl⟩) λobj br du=>?_
 obtain⟨rfl,rfl⟩:=du;have hS:(s.heap.push {cls:=.type "list",data:=.seq #[]}).get? s.heap.objs.size=some {cls:=.type "list",data:=.seq #[]}:=Vq _ rfl;refine⟨⟨_,hS,rfl⟩,PySem.F.args_list_init_2 _ _,?_⟩;show wpAny _ A.in1.in1 (do let old<-Zd.List.listItems (.ref s.heap.objs.size);Zd.List.listUpdate (.ref s.heap.objs.size) (λ_=>#[]);letGo old.toList.reverse;Xx (.ref s.heap.objs.size) (.ref z) .none) _ _ _;refine U7 ?_;unfold Zd.List.listItems;refine U7 (Xl hS rfl (Vn ?_));show wpAny _ _ (aaL s.heap.objs.size (λ_=>#[]) >>=λ_=>letGo (#[]:Array Value).toList.reverse >>=λ_=>Xx (.ref s.heap.objs.size) (.ref z) .none) _ _ _;refine U7 (Zj hS rfl ?_);have Bj:=Xf (XW (λ_=>(#[]:Array Value))) hS rfl;have Hh:∀b o,s.heap.get? b=some o->((s.heap.push {cls:=.type "list",data:=.seq #[]}).update s.heap.objs.size (XW (λ_=>(#[]:Array Value)))).get? b=some o:=
  λb o e=>(Wv _ _ (Wu (Vs e))).trans (Va _ e)
 refine U7 (Zx ?_);refine rY ap D1 D2 (B:=B) hn ⟨Wu fM.1,Wu fM.2.1,Wu fM.2.2.1,λh=>W3 _ (fM.2.2.2.1 _ h),λh=>W3 _ (fM.2.2.2.2 _ h)⟩ OI CA ?_ (ZI.frame ap D1 D2 JE λb _ o e=>Hh b o e) Bj λh' tk g8 c' hk Nd fL=>?_;·show B<=((s.heap.push _).update _ _).objs.size;rw[Za,WG];omega
 ·refine⟨rfl,hQ h' tk g8 c' (λb o hb e=>hk b o ?_ (Hh b o e)) Nd fL⟩;intro hm;simp only[W4,WM,or_false] at hm hb;rcases hm with h|h|h|h|h;·exact hb (.inl h)
  ·exact hb (.inr (.inl h))
  ·exact hb (.inr (.inr (.inl h)))
  ·exact hb (.inr (.inr (.inr h)))
  ·exact absurd (Vs e) (by rw[h];exact W3 _)
abbrev Q3(h:Heap)(l1:Addr):Heap:=h.push {cls:=.type "tuple_iterator",data:=.fields #[.ref l1,.int 0 0]}
abbrev Q4(h:Heap)(l1 l2:Addr):Heap:=(Q3 h l1).push {cls:=.type "tuple_iterator",data:=.fields #[.ref l2,.int 0 0]}
abbrev Q5(h:Heap)(l1 l2:Addr):Heap:=(Q4 h l1 l2).push {cls:=.type "tuple",data:=.seq #[.ref h.objs.size,.ref (Q3 h l1).objs.size]}
abbrev Q6(h:Heap)(l1 l2:Addr):Heap:=(Q5 h l1 l2).push {cls:=.type "tuple",data:=.seq #[.none,.none]}
abbrev KU(h:Heap)(l1 l2:Addr):Heap:=(Q6 h l1 l2).push {cls:=.type "zip",data:=.fields #[.none,.bool false,.bool false,.ref (Q4 h l1 l2).objs.size,.ref (Q5 h l1 l2).objs.size]}
theorem rZ l1 l2 xs ys:
  Meets (Zd.«zip.__new__» ⟨[.type "zip",.ref l1,.ref l2],[]⟩) (λ_ R s=>s.heap.IsTuple l1 xs/\s.heap.IsTuple l2 ys/\
   R (.ok (.ret (.ref (Q6 s.heap l1 l2).objs.size))) {s with heap:=KU s.heap l1 l2}):=
 .of_wp λprog w A R s h=>by
  obtain⟨hp,g,d,tk,os⟩:=s;obtain⟨S4,u9,h⟩:=h;have KW:=sub_zip;have hL1:aaI (aaQ ⟨hp,g,d,tk,os⟩) l1 xs:=S4;have hL2:aaI (aaQ ⟨hp.push {cls:=.type "tuple_iterator",data:=.fields #[.ref l1,.int 0 0]},g,d,tk,os⟩) l2 ys:=aaI.push u9 _
  wp_walk using XB hL1,XB hL2
  exact⟨_,rfl,h⟩
theorem Aw(S4:s.heap.IsTuple l1 xs)(u9:s.heap.IsTuple l2 ys)(h:∀h',xj h' (s.heap.objs.size+4) (s.heap.objs.size+2) (s.heap.objs.size+3) .none (.bool false)->XD h' (s.heap.objs.size+2) (.ref s.heap.objs.size) (.ref (s.heap.objs.size+1))->
   XD h' (s.heap.objs.size+3) .none .none->h'.IsTupleIter s.heap.objs.size l1 0->h'.IsTupleIter (s.heap.objs.size+1) l2 0->h'.objs.size=s.heap.objs.size+5->
   (∀c o,s.heap.get? c=some o->h'.get? c=some o)->Q (.ref (s.heap.objs.size+4)) {s with heap:=h'}):
  wpAny (model prog w) A (call (.type "zip") [.ref l1,.ref l2]) Q E s:=by
 refine callType_new PySem.F.called_zip (by decide) (PySem.F.typeCall_zip_2 _ _) (PySem.F.newCall_zip_2 _ _) (λobj=>PySem.F.args_object_init_3 obj _ _) PySem.F.entry_zip_new
  (rZ l1 l2 xs ys) ⟨S4,u9,?_⟩
 have z1:(Q3 s.heap l1).objs.size=s.heap.objs.size+1:=WG ..;have z2:(Q4 s.heap l1 l2).objs.size=s.heap.objs.size+2:=by rw[WG,z1]
 have z3:(Q5 s.heap l1 l2).objs.size=s.heap.objs.size+3:=by rw[WG,z2]
 have z4:(Q6 s.heap l1 l2).objs.size=s.heap.objs.size+4:=by rw[WG,z3]
 have z5:(KU s.heap l1 l2).objs.size=s.heap.objs.size+5:=by rw[WG,z4]
 have g5:(KU s.heap l1 l2).get? (Q6 s.heap l1 l2).objs.size=some _:=Vq _ rfl;have g4:(KU s.heap l1 l2).get? (Q5 s.heap l1 l2).objs.size=some _:=Va _ (Vq _ rfl);have g3:(KU s.heap l1 l2).get? (Q4 s.heap l1 l2).objs.size=some _:=Va _ (Va _ (Vq _ rfl));have g2:(KU s.heap l1 l2).get? (Q3 s.heap l1).objs.size=some _:=Va _ (Va _ (Va _ (Vq _ rfl)));have g1:(KU s.heap l1 l2).get? s.heap.objs.size=some _:=Va _ (Va _ (Va _ (Va _ (Vq _ rfl))));show _/\_;rw[z2,z3,z4] at g5;rw[z1,z2] at g3;rw[z3] at g4;rw[z1] at g2;rw[z4];exact⟨⟨_,g5,rfl⟩,h _ g5 g3 g4 ⟨_,g1,rfl,rfl⟩ ⟨_,g2,rfl,rfl⟩ z5 λc o x=>Va _ (Va _ (Va _ (Va _ (Va _ x))))⟩
theorem Inv.S5(I:Inv X pins σ H s)(k:∀b u,s.heap.get? b=some u->h'.get? b=some u)(hs:ji H H')(Cv:∀b o,H' b=some o->H b=some o\/(s.heap.objs.size<=b/\bz X.prog X.w H' h' b o)):Inv X pins σ H' {s with heap:=h',toks:=t'}:=by
 refine I.un ⟨λb u q _ _ _=>k b u q,λb u q _ _ _=>⟨u.slots,k b u q⟩,λb u q n _=>?_,λb u q _=>⟨u,k b u q⟩,λb xs q=>hs _ _ q,λb u xs q=>hs _ _ q,λb ps q=>⟨#[],by rw[hs _ _ q];simp⟩⟩ λb o e=>?_
 ·cases e:H' b with
  |none=>rfl|some o=>
   rcases Cv b o e with z|⟨z,_⟩;·rw[n] at z;cases z
   ·exact absurd (Vs q) (Nat.not_lt.mpr z)
 ·rcases Cv b o e with z|⟨_,z⟩;·exact(I.aH b o z).mY (λc v _ q=>k c v q) (λc q=>hs _ _ q) λc xs q=>hs _ _ q
  ·exact z
def KY(H:Hp)(us ws ts:List V):Prop:=ts.length=min us.length ws.length/\∀(j:Nat) t,ts[j]?=some t->∃T u w,t=.ref T/\H T=some (.tup [u,w])/\us[j]?=some u/\ws[j]?=some w
def En:Value->V
 |.ref a=>.ref a|_=>.bq
theorem vc:∀{l},(∀v∈l,∃T,v=VJ T)->aP (l.map En) l
 |[],_=>.nil|v::l,h=>by obtain⟨T,rfl⟩:=h v Vh;exact .cons rfl (vc λv hv=>h v (Vb _ hv))
theorem S6(h:a=c)(k:b=d):(some (HO.tup [a,b]):Option HO)=some (HO.tup [c,d]):=by rw[h,k]
theorem Hi(N a b:Nat)(la:a < N)(lb:b < N):Hg (N+4) (N+2) (N+3) N (N+1) [N,a] [N+1,b]:=by
 have e2:∀{x y z:Nat},x≠y->x≠z->x∉[y,z]:=λh1 h2 h=>by
  rcases W4.mp h with h|h;·exact h1 h
  ·exact h2 (by simpa using h)
 have ne:∀{x y:Nat},x < y\/y < x->x≠y:=λh=>by omega
 exact⟨ne (by omega),ne (by omega),ne (by omega),ne (by omega),ne (by omega),ne (by omega),ne (by omega),ne (by omega),ne (by omega),ne (by omega),e2 (by omega) (by omega),e2 (by omega) (by omega),e2 (by omega) (by omega),e2 (by omega) (by omega),e2 (by omega) (by omega),e2 (by omega) (by omega)⟩
theorem Eo(la:a < N)(hc:c∈[N+k,a])(hk:k < 5):c < N+5:=by simp at hc;rcases hc with rfl|rfl<;>omega
open Classical in
theorem xT(hc:X.calm=true)(hgL:Gl X "list")(hmL:X.mg "list"=none)(hgZ:Gl X "zip")(hmZ:X.mg "zip"=none)(ha:PA X [x1,x2] t)(he:VM [x1,x2] X.env=(false,eval x1 X.env)::VM [x2] X.env)(xh:(Xn pos (VM [x2] X.env)).any (·.1)=false):
  PE X (.Call (.Name "list" p2) [.Call (.Name "zip" p) [x1,x2] [] pos] [] Hj) (λσ H Q=>t σ H λvs H1=>∃a b us ws,vs=[.ref a,.ref b]/\fI X.K H1 a us/\fI X.K H1 b ws/\
   ∀l H' ts,ji H1 H'->H1 l=none->H' l=some (.lst ts)->KY H' us ws ts->Q (.ref l) H'):=by
 intro pins s σ H Q I h;refine WD (jD I hgL hmL boot_list ?_ (by decide+kernel) (by decide+kernel));refine Wl ?_ rfl rfl;show wpAny _ _ (spliced [(false,eval (.Call (.Name "zip" p) [x1,x2] [] pos) X.env)]) _ _ s;refine Yb ?_;refine WD (jD I hgZ hmZ PyProof.Rows.boot_zip ?_ (by decide+kernel) (by decide+kernel));refine Wl (bI (ha pos pins s σ H _ I h) λus s1 ⟨vs,H1,I1,r1,q1⟩=>?_) he xh;obtain⟨a,b,ua,ub,rfl,ta,tb,q⟩:=q1;obtain⟨va,vb,rfl,ra,rb⟩:=vals2 r1;cases ra;cases rb;obtain⟨ia,S7,pa,za⟩:=I1.tuple ta;obtain⟨ib,rvb,pb,zb⟩:=I1.tuple tb;have S8:s1.heap.IsTuple a ia.toArray:=pa;have S9:s1.heap.IsTuple b ib.toArray:=pb;obtain⟨N,hN⟩:∃N:Nat,N=s1.heap.objs.size:=⟨_,rfl⟩;have la:(a:Nat) < s1.heap.objs.size:=by obtain⟨o,e,_⟩:=S8;exact Vs e
 have lb:(b:Nat) < s1.heap.objs.size:=by obtain⟨o,e,_⟩:=S9;exact Vs e
 refine Aw S8 S9 λh2 g1 g2 g3 g4 g5 hsz hk=>?_;refine YV ?_;have hh:X.A.in1.in1.in1.handled=none:=I1.ok.hd hc;have Hk:({s1 with heap:=h2}:Vv).heap.objs.size=s1.heap.objs.size+5:=hsz;have up:∀{c:Addr} {items:Array Value},s1.heap.IsTuple c items->h2.IsTuple c items:=λ{c items} x=>let ⟨o,e,r⟩:=x;⟨o,hk _ _ e,r⟩
 have ap:=Hi s1.heap.objs.size a b la lb;have Q7:∀k:Nat,k < 5->s1.heap.objs.size+k < ({s1 with heap:=h2}:Vv).heap.objs.size:=λk hk=>by rw[Hk];exact Nat.add_lt_add_left hk _
 refine uk (s:={s1 with heap:=h2}) ap (ku hh s1.heap.objs.size a (VP la) ia.toArray) (ku hh (s1.heap.objs.size+1) b (VP (Nat.lt_succ_of_lt lb)) ib.toArray) (B:=s1.heap.objs.size) (by rw[Vp,<-S7.length];exact za)
  ⟨Q7 4 (by decide),Q7 2 (by decide),Q7 3 (by decide),λc hc=>?_,λc hc=>?_⟩ (by simp) (by simp) (Yr (Q7 0 (by decide))) ⟨.none,.bool false,.none,.none,⟨.inl rfl,false,rfl⟩,g1,g2,g3,⟨g4,up S8⟩,⟨g5,up S9⟩⟩ λh' tk acc c' Oi hS fL=>?_
 ·rw[Hk];exact Eo (k:=0) la hc (by decide)
 ·rw[Hk];exact Eo (k:=1) lb hc (by decide)
 rw[Hk] at hS fL ⊢;obtain⟨a1,a2,a3⟩:=fL;have n5:∀b o,s1.heap.get? b=some o->h'.get? b=some o:=λb o e=>by
  have hb:(b:Nat) < s1.heap.objs.size:=Vs e;refine Oi b o (λhm=>?_) (hk b o e);simp only[W4,WM,or_false] at hm;have:(b:Nat)>=s1.heap.objs.size:=by
   rcases hm with h|h|h|h;·exact h▸X3 _ _
   ·exact h▸X3 _ _
   ·exact h▸Vj _
   ·exact h▸X3 _ _
  exact absurd hb (Nat.not_lt.mpr this)
 have hrefs:∀v∈acc.toList,∃T,v=VJ T:=λv hv=>by obtain⟨j,hj,e⟩:=List.mem_iff_getElem.mp hv;obtain⟨T,_,_,e',_⟩:=a2 j v (by rw[<-Y0,Vc hj,e]);exact⟨T,e'⟩
 have hV:=vc hrefs
 let H2:Hp:=λc=>if c=s1.heap.objs.size+5 then some (.lst (acc.toList.map En)) else
  if hj:∃(j:Nat) (u w':V),acc[j]?=some (VJ c)/\ua[j]?=some u/\ub[j]?=some w' then some (.tup [hj.choose_spec.choose,hj.choose_spec.choose_spec.choose]) else H1 c
 have fr:∀c,s1.heap.objs.size<=c->H1 c=none:=λc hc=>I1.aH.fresh hc;have Ta:∀(j:Nat) T,acc[j]?=some (VJ T)->T≠s1.heap.objs.size+5:=λj T e z=>by obtain⟨T',_,_,e',_,hb,_⟩:=a2 j _ e;cases e';exact hb (by rw[z];simp)
 have Tb:∀(j:Nat) T,acc[j]?=some (VJ T)->s1.heap.objs.size<=T:=λj T e=>by obtain⟨T',_,_,e',h1,_⟩:=a2 j _ e;cases e';exact h1
 have atT:∀(j:Nat) T u w',acc[j]?=some (VJ T)->ua[j]?=some u->ub[j]?=some w'->H2 T=some (.tup [u,w']):=λj T u w' e1 e2 e3=>by have hj:∃(j:Nat) (u w':V),acc[j]?=some (VJ T)/\ua[j]?=some u/\ub[j]?=some w':=⟨j,u,w',e1,e2,e3⟩;show(if T=s1.heap.objs.size+5 then _ else if hj:_ then _ else _)=_;rw[if_neg (Ta j T e1),dif_pos hj];obtain⟨c1,c2,c3⟩:=hj.choose_spec.choose_spec.choose_spec;have ej:=a3 _ _ _ c1 e1;have q1:=VT (c2.symm.trans (show ua[hj.choose]?=some u by rw[ej];exact e2));have q2:=VT (c3.symm.trans (show ub[hj.choose]?=some w' by rw[ej];exact e3));exact S6 q1 q2
 have hS2:H2 (s1.heap.objs.size+5)=some (.lst (acc.toList.map En)):=if_pos rfl;have sm:ji H1 H2:=λc o e=>by
  show(if c=s1.heap.objs.size+5 then _ else if hj:_ then _ else _)=_;rw[if_neg,dif_neg];·exact e
  ·rintro⟨j,u,w',e1,_⟩;rw[fr c (Tb j c e1)] at e;cases e
  ·rintro rfl;rw[fr _ (X3 _ _)] at e;cases e
 have hlen:acc.toList.length=min ua.length ub.length:=by rw[Xt,a1,Vp,Vp,<-S7.length,<-rvb.length]
 have I2:Inv X pins σ H2 {s1 with heap:=h',toks:=tk}:=by
  refine I1.S5 n5 sm λc o e=>?_;have e':(if c=s1.heap.objs.size+5 then some (HO.lst (acc.toList.map En)) else
   if hj:∃(j:Nat) (u w':V),acc[j]?=some (VJ c)/\ua[j]?=some u/\ub[j]?=some w' then some (.tup [hj.choose_spec.choose,hj.choose_spec.choose_spec.choose]) else H1 c)=some o:=e
  split at e';·rename_i hc;cases e';refine .inr ⟨by rw[hc];exact X3 _ _,?_⟩;rw[hc];refine⟨?_,acc.toList,c',hV,by simpa using hS⟩;rw[Vg,hlen];exact V3 (Nat.min_le_left _ _) za
  ·split at e'
   ·rename_i hj;cases e';obtain⟨c1,c2,c3⟩:=hj.choose_spec.choose_spec.choose_spec;obtain⟨T,x,y,eT,b1,b2,b3,b4,b5⟩:=a2 _ _ c1;cases eT;refine .inr ⟨b1,?_,[x,y],?_,⟨_,b3,rfl,_,rfl⟩⟩;·rw[WR];simp
    ·obtain⟨x',ex,rx⟩:=S7.get c2;obtain⟨y',ey,ry⟩:=rvb.get c3;have e1:ia[hj.choose]?=some x:=by simpa using b4
     have e2:ib[hj.choose]?=some y:=by simpa using b5
     rw[ex] at e1;rw[ey] at e2;cases e1;cases e2;exact .cons rx (.cons ry .nil)
   ·exact .inl e'
 refine⟨.ref (s1.heap.objs.size+5),H2,I2,rfl,q _ H2 _ sm (fr _ (X3 _ _)) hS2 ⟨by rw[Vg,hlen],λj t ht=>?_⟩⟩;rw[Vi] at ht;obtain⟨v,hv,rfl⟩:∃v,acc.toList[j]?=some v/\En v=t:=by cases hq:acc.toList[j]? with|none=>rw[hq] at ht;cases ht|some v=>rw[hq] at ht;exact⟨v,rfl,by simpa using ht⟩
 have OO:j < min ua.length ub.length:=by rw[<-hlen];exact(List.getElem?_eq_some_iff.mp hv).1
 have QS:acc[j]?=some v:=by rw[<-Y0];exact hv
 obtain⟨T,x,y,rfl,_⟩:=a2 j v QS;have l1:j < ua.length:=VI OO (Nat.min_le_left _ _);have l2:j < ub.length:=VI OO (Y8 _ _);exact⟨T,ua[j],ub[j],rfl,atT j T _ _ QS (Vc l1) (Vc l2),Vc l1,Vc l2⟩
end
theorem ky l items o(ht:o.cls=.type "tuple")n(hd:o.data=.seq items n):
  Meets (Zd.«enumerate.__new__» ⟨[.type "enumerate",.ref l],[]⟩) (λ_ R s=>s.heap.get? l=some o/\
   R (.ok (.ret (.ref (s.heap.push {cls:=.type "tuple_iterator",data:=.fields #[.ref l,.int 0 0]}).objs.size)))
    {s with heap:=(s.heap.push {cls:=.type "tuple_iterator",data:=.fields #[.ref l,.int 0 0]}).push {cls:=.type "enumerate",data:=.fields #[.none,.bool false,.ref s.heap.objs.size,Xm 0,.none,.none]}}):=
 .of_wp λprog w A R s h=>by
  obtain⟨hp,g,d,tk,os⟩:=s;obtain⟨hl,h⟩:=h;have KW:=sub_enumerate;have hL:aaI (aaQ ⟨hp,g,d,tk,os⟩) l items:=⟨_,hl,ht,n,hd⟩
  wp_walk using WV hl
  refine wpAny_stack_any λst=>Vn ?_;split
  ·rename_i c _ _ _ _ _;cases (c==X7 "enumerate")
   ·wp_walk using WV hl,XB hL
    exact⟨_,rfl,h⟩
   ·wp_walk using WV hl,XB hL
    exact⟨_,rfl,h⟩
  ·wp_walk using WV hl,XB hL
   exact⟨_,rfl,h⟩
section
variable{prog:Wf}{w:World}{A:WN}{E:Value->Vv->Prop}{s:Vv}
theorem oI(hl:s.heap.IsTuple l items)(h:∀h',IsEnum h' (s.heap.objs.size+1) s.heap.objs.size 0 .none->h'.IsTupleIter s.heap.objs.size l 0->h'.objs.size=s.heap.objs.size+2->
   (∀b o,s.heap.get? b=some o->h'.get? b=some o)->Q (.ref (s.heap.objs.size+1)) {s with heap:=h'}):
  wpAny (model prog w) A (call (.type "enumerate") [.ref l]) Q E s:=by
 obtain⟨o,ho,hc,n,hd⟩:=hl;refine callType_new PySem.F.called_enumerate (by decide) (PySem.F.typeCall_enumerate_1 _) (PySem.F.newCall_enumerate_1 _) (λobj=>PySem.F.args_object_init_2 obj _) PySem.F.entry_enumerate_new
  (ky l items o hc n hd) ⟨ho,?_⟩
 have hz:(s.heap.push {cls:=.type "tuple_iterator",data:=.fields #[.ref l,.int 0 0]}).objs.size=s.heap.objs.size+1:=WG ..;show _/\_;rw[hz];have he:IsEnum ((s.heap.push {cls:=.type "tuple_iterator",data:=.fields #[.ref l,.int 0 0]}).push
   {cls:=.type "enumerate",data:=.fields #[.none,.bool false,.ref s.heap.objs.size,Xm 0,.none,.none]}) (s.heap.objs.size+1) s.heap.objs.size 0 .none:=by
  have:=Vq (s.heap.push {cls:=.type "tuple_iterator",data:=.fields #[.ref l,.int 0 0]})
   (o:={cls:=.type "enumerate",data:=.fields #[.none,.bool false,.ref s.heap.objs.size,Xm 0,.none,.none]}) rfl
  rw[hz] at this;exact this
 refine⟨⟨_,he,rfl⟩,h _ he ⟨_,Va _ (Vq _ rfl),rfl,rfl⟩ (by rw[WG,hz]) λb o x=>Va _ (Va _ x)⟩
end
def Tc(K:Vm)(a:Addr):It:=
 ⟨λi H=>∃xs x,fI K H a xs/\xs[i]?=some x,λi H x H'=>∃T v,H T=none/\H'=upd H T (.tup [.int i,v])/\x=.ref T/\∀xs,fI K H a xs->xs[i]?=some v,λi H=>∃xs,fI K H a xs/\xs.length<=i⟩
theorem Ax{P:Wf}{w:World}{K:Vm}{elts:List Expr}{kk:Nat}{pos:Pos}(a it e:Addr)(Nf:e≠it):Turn P w K (.Tuple elts kk pos) (Tc K a) [e,it] e (λi h=>(∃old,IsEnum h e it i old)/\h.IsTupleIter it a i) where
 mem:=by simp
 obj:=λi h st b hb=>by
  obtain⟨⟨old,he⟩,o,eo,c,d⟩:=st;have iP:b=e\/b=it:=by simpa using hb
  rcases iP with z|z;·rw[z];exact⟨_,he,λv z=>nomatch z⟩
  ·rw[z];exact⟨o,eo,λv z=>by rw[d] at z;cases z⟩
 keep:=λi h h' st k=>⟨let ⟨old,he⟩:=st.1;⟨old,k e (by simp) _ he⟩,st.2.at λo x=>k it (by simp) o x⟩
 item:=by
  intro X hP hw hK hc i pins s σ H E I hf st hg;subst hP hw hK;obtain⟨xs,x,hq,hx⟩:=hg;obtain⟨its,rv,p,hz⟩:=I.tuple hq;have p':s.heap.IsTuple a its.toArray:=p;obtain⟨u,hu,ru⟩:=rv.get hx;obtain⟨f0,f1,f2,f3,f4,f5⟩:=hf it (by simp);obtain⟨g0,g1,g2,g3,g4,g5⟩:=hf e (by simp);obtain⟨⟨old,he⟩,hit⟩:=st;have hai:a≠it:=λz=>by obtain⟨o1,e1,c1,_⟩:=p';obtain⟨o2,e2,c2,_⟩:=id hit;rw[z,e2] at e1;cases e1;rw[c1] at c2;simp at c2
  have hae:a≠e:=λz=>by obtain⟨o1,e1,c1,_⟩:=p';rw[z,he] at e1;cases e1;simp at c1
  have fM:i < its.toArray.size:=by have:=(List.getElem?_eq_some_iff.mp hu).1;simpa using this
  refine wpAny_pyNext_enum_itemD (ku (A:=X.A.in1) (I.ok.hd hc) it a hai its.toArray) he ⟨hit,p'⟩ fM Nf (by simp[Nf,Wg hae]) λx1 h' tk px ho rV hT hsz hk=>?_;have ex1:x1=u:=by
   have:its[i]?=some x1:=by simpa using px
   rw[hu] at this;cases this;rfl
  subst ex1;refine⟨_,rfl,?_⟩;refine wpAny_letOwnedTupleGo_enum ho λh2 JF Gj=>?_;have OP:s.heap.objs.size≠e:=Wu (Vs he);have Ng:s.heap.objs.size≠it:=by obtain⟨o,eo,_⟩:=hit;exact Wu (Vs eo)
  have xU:∀b o,b≠e->b≠it->s.heap.get? b=some o->h2.get? b=some o:=λb o h1 h3 q=>Gj.extBut b o h1 (hk b o h1 h3 q);have hn:H s.heap.objs.size=none:=I.aH.fresh (Vj _);have DA:∀b v,H b=some v->b≠e/\b≠it:=λb v q=>⟨(λz=>by rw[z,g0] at q;cases q),(λz=>by rw[z,f0] at q;cases q)⟩;have OQ:h2.get? s.heap.objs.size=some {cls:=.type "tuple",data:=.seq #[.int i tk,x1]}:=Gj.extBut _ _ OP hT;have I1:Inv X pins σ (upd H s.heap.objs.size (.tup [.int i,x])) {s with heap:=h2,toks:=tk+1}:=by
   refine I.step (g':=s.gens) (d':=s.drawn) (ch:=[e,it]) (λb hb=>?_) (λb o _ _ hc q _=>xU b o (λz=>hc (by simp[z])) (λz=>hc (by simp[z])) q) (λb o _ _ hc q _=>⟨o.slots,xU b o (λz=>hc (by simp[z])) (λz=>hc (by simp[z])) q⟩)
    (λb o _ q n=>by rw[aw (VP (Vs q))];exact n) (λb o hc q=>⟨o,xU b o (λz=>hc (by simp[z])) (λz=>hc (by simp[z])) q⟩) (λb xs q=>by rw[aw (aK q hn)];exact q) (λb o v q=>by rw[aw (aK q hn)];exact q)
    (λb ps q=>⟨#[],by rw[aw (aK q hn),q];simp⟩) (λm hm=>?_) (λb v q=>?_) I.bare
   ·have iP:b=e\/b=it:=by simpa using hb
    rcases iP with z|z;·rw[z];exact⟨g3,g1,g4,g5⟩
    ·rw[z];exact⟨f3,f1,f4,f5⟩
   ·obtain⟨o,es,ep,oq,r⟩:=hm;exact⟨o,es,ep,xU _ o (Wg g1) (Wg f1) oq,r⟩
   ·by_cases hb:b=s.heap.objs.size;·rw[hb,aC] at q;cases q;rw[hb];exact⟨by rw[WR];simp,[.int i tk,x1],.cons ⟨tk,rfl⟩ (.cons ru .nil),⟨_,OQ,rfl,_,rfl⟩⟩
    ·rw[aw hb] at q;refine(I.aH b v q).mY (λc y hc qq=>?_) (λc qq=>by rw[aw (aK qq hn)];exact qq) λc xs qq=>by rw[aw (aK qq hn)];exact qq
     have:c≠e/\c≠it:=by
      rcases hc with z|z;·rw[z];exact DA b v q
      ·exact DA c _ z
     exact xU c y this.1 this.2 qq
  refine⟨.ref s.heap.objs.size,_,I1,rfl,⟨s.heap.objs.size,x,hn,rfl,rfl,λys hy=>by rw[I.uT hy hq];exact hx⟩,⟨⟨x1,by simpa using JF⟩,rV.1.at λo q=>Gj.extBut _ _ (Wg Nf) q⟩,λb hb=>?_⟩;have iP:b=e\/b=it:=by simpa using hb
  rcases iP with z|z;·rw[z,aw (Wg OP)];exact g0
  ·rw[z,aw (Wg Ng)];exact f0
 done:=by
  intro X hP hw hK hc i pins s σ H E I hf st hg;subst hP hw hK;obtain⟨xs,hq,hx⟩:=hg;obtain⟨its,rv,p,hz⟩:=I.tuple hq;obtain⟨f0,f1,f2,f3,f4,f5⟩:=hf it (by simp);obtain⟨⟨old,he⟩,hit⟩:=st;have hl:=rv.length;have hT:s.TypeIs (.ref e) "enumerate":=⟨_,he,rfl⟩;unfold ZL;refine U7 (ZJ (Wh (name:=We "__next__") hT Xu
   (WL Xu hT PySem.F.entry_enumerate_next ?_ (PySem.F.args_enumerate_next_1 _))))
  show wpAny _ _ (field (.ref e) 2 >>=_) _ _ _;refine U7 (Wz he rfl (x:=.ref it) rfl ?_);refine U7 (jj (I.ok.hd hc) hit (show s.heap.IsTuple a its.toArray from p) (by simp;omega) λh' y Td xi=>?_);obtain⟨o,ho,tY⟩:=xi;refine U7 (ZQ (T:="StopIteration") (b:=true) ⟨o,ho,tY⟩ aak ?_);exact Vn ⟨rfl,I.turned (t':=s.toks) (λb o hb q=>Td b o hb q) f0 f1 f3 f4 f5⟩
 self:=λ_ _ _ _ _ st h=>let ⟨old,he⟩:=st.1;YJ he h
section
variable{X:Cx}
def OR(K:Vm)(ta:TA):TI:=λσ H R=>ta σ H λvs H1=>∃a,vs=[.ref a]/\(∃xs,fI K H1 a xs)/\R (Tc K a) H1
theorem Ep(hg:Gl X "enumerate")(hm:X.mg "enumerate"=none)(ha:PA X [x] ta)(hs:VM [x] X.env=[(false,eval x X.env)]):
  PI X (.Tuple elts kk p3) (.Call (.Name "enumerate" p) [x] [] pos) (OR X.K ta):=by
 intro pins s σ H R I h;refine Call_ (jD I hg hm boot_enumerate (Wl (bI (ha pos pins s σ H _ I h) λus s1 ⟨vs,H1,I1,r1,q1⟩=>?_) hs rfl) (by decide+kernel) (by decide+kernel));obtain⟨a,rfl,⟨xs,hq⟩,q⟩:=q1;obtain⟨u,rfl,ru⟩:=vals1 r1;cases ru;obtain⟨its,rv,pl,hz⟩:=I1.tuple hq;refine oI (show s1.heap.IsTuple a its.toArray from pl) λh' he hit hsz hk=>?_;refine YJ he ?_;have I2:Inv X pins σ H1 {s1 with heap:=h'}:=I1.kept (t':=s1.toks) hk;refine⟨s1.heap.objs.size+1,[s1.heap.objs.size+1,s1.heap.objs.size],_,_,H1,rfl,I2,Ax a _ _ (Nat.succ_ne_self _),⟨⟨_,he⟩,hit⟩,λb hb=>?_,q⟩;have iP:b=s1.heap.objs.size+1\/b=s1.heap.objs.size:=by simpa using hb
 rcases iP with z|z;·rw[z];exact I1.vR (Xb _) (I1.aH.fresh (Xb _))
 ·rw[z];exact I1.vR (Vj _) (I1.aH.fresh (Vj _))
end
section
variable{prog:Wf}{w:World}{A:WN}{E:Value->Vv->Prop}{s:Vv}
end
section
variable{X:Cx}
end
def dw(c:Addr)(q:Str):Heap->Prop:=λh=>h.CodeRec (.ref c) q
structure kz(N P F:List Str)(sc:Scope):Prop where
 kind:sc.kind=.function
 co:sc.isCoroutine=false
 gen:sc.isGenerator=false
 nd:N.Nodup
 pre:N.take (P.length+F.length)=P++F
 par:∀x∈P,sc.names.lookup x=some .local
 fre:∀x∈F,sc.names.lookup x=some .free
 fT:∀y∈sc.names,y.2≠.cell
 OS:∀y∈sc.names,y.2=.free->y.1∈F
structure Gk(B:Heap)(cl:List (Str×Addr))(F:List Str)(bM:List V):Prop where
 inj:∀x y c,cl.lookup x=some c->cl.lookup y=some c->x=y
 only:∀x c,cl.lookup x=some c->x∈F
 at_:∀(i:Nat) (x:Str) (v:V),F[i]?=some x->bM[i]?=some v->∃c u,cl.lookup x=some c/\B.IsCell c (some u)/\RelV v u
 len:bM.length=F.length
theorem Gk.get(C:Gk B cl F bM)(h:x∈F):∃(i:Nat) (v:V) (c:Addr) (u:Value),F[i]?=some x/\bM[i]?=some v/\cl.lookup x=some c/\B.IsCell c (some u)/\RelV v u:=by
 obtain⟨i,hi,e⟩:=List.mem_iff_getElem.mp h;have h1:F[i]?=some x:=by rw[Vc hi,e]
 have h2:bM[i]?=some (bM[i]'(by rw[C.len];exact hi)):=Vc _;obtain⟨c,u,a,b,d⟩:=C.at_ i x _ h1 h2;exact⟨i,_,c,u,h1,h2,a,b,d⟩
abbrev xV(qual:Str)(scope:Scope)(L f:Addr)(cd:Value)(cl:List (Str×Addr)):Env:=PySem.W.envX qual scope L f cd cl
def JG(CX:Gg)(P:Wf)(w:World)(K:Vm)(mg:Str->Option Value)(base:Heap)(N:List Str)(qual:Str)(scope:Scope)(f:Addr)(cd:Value)(cl:List (Str×Addr))(A:WN)(outer:List Env)(s:Vv)(H:Hp)(E:XK):Cx where
 prog:=P
 w:=w
 K:=K
 mg:=mg
 base:=base
 A:=A.deeper (xV qual scope s.heap.objs.size f cd cl)
 N:=N
 g7:=s
 xx:=H
 env:=xV qual scope s.heap.objs.size f cd cl
 outer:=outer
 stack:=xV qual scope s.heap.objs.size f cd cl::outer
 ex:=[]
 calm:=true
 fn:=λ_=>false
 pn:=[]
 xe:=λe s'=>wpAny (model P w) (A.deeper (xV qual scope s.heap.objs.size f cd cl)) (leaving (xV qual scope s.heap.objs.size f cd cl) e) (λ_ Ks=>CX outer H s E e Ks) (λe' Ks=>CX outer H s E e' Ks) s'
theorem Er:∀{ps:List Str} {us} {i:Nat} {y:Str} {u:Value},ps.Nodup->ps[i]?=some y->us[i]?=some u->(ps.zip us).reverse.lookup y=some u:=by
 intro ps us i y u nd h1 h2;have hm:(y,u)∈(ps.zip us).reverse:=by rw[List.mem_reverse];refine List.mem_iff_getElem?.mpr ⟨i,?_⟩;rw[List.getElem?_zip_eq_some];exact⟨h1,h2⟩
 have un:∀u',(y,u')∈(ps.zip us).reverse->u'=u:=λu' h'=>by
  rw[List.mem_reverse] at h';obtain⟨j,hj⟩:=List.mem_iff_getElem?.mp h';rw[List.getElem?_zip_eq_some] at hj;obtain⟨a,b⟩:=hj;have hi:i < ps.length:=(List.getElem?_eq_some_iff.mp h1).1;have Q8:j < ps.length:=(List.getElem?_eq_some_iff.mp a).1;have e:i=j:=by
   have e1:ps[i]'hi=y:=(List.getElem?_eq_some_iff.mp h1).2;have e2:ps[j]'Q8=y:=(List.getElem?_eq_some_iff.mp a).2;rcases Nat.lt_trichotomy i j with z|z|z;·exact absurd (e1.trans e2.symm) (List.pairwise_iff_getElem.mp (List.nodup_iff_pairwise_ne.mp nd) i j hi Q8 z)
   ·exact z
   ·exact absurd (e2.trans e1.symm) (List.pairwise_iff_getElem.mp (List.nodup_iff_pairwise_ne.mp nd) j i Q8 hi z)
  subst e;rw[h2] at b;exact(VT b).symm
 cases q:(ps.zip us).reverse.lookup y with
 |none=>
  exfalso;have key:∀(l:List (Str×Value)),(y,u)∈l->l.lookup y≠none:=λl=>by
   induction l with
   |nil=>intro h;cases h|cons p l ih=>
    intro h;obtain⟨p1,p2⟩:=p;rw[VG];rcases W4.mp h with e|e;·injection e with e1 _;rw[<-e1];simp
    ·cases hb:y==p1 with|true=>exact λz=>nomatch z|false=>exact ih e
  exact key _ hm q
 |some u'=>rw[un u' (V2 q)]
theorem Bk{K:Vm}(S:kz N ps F scope)(C:Gk base cl F bM)(hd:A.handled=none)(e0:vT P w K mg base A outer s H)(hl:vs.length=ps.length)(r:aP vs us)(JH:du.Ns s.heap.objs.size (λx=>(ps.zip us).reverse.lookup x))(hk:∀b o,s.heap.get? b=some o->du.get? b=some o):
  Inv (JG CX P w K mg base N qual scope f cd cl A outer s H E) [] (start N (vs++bM)) H {s with heap:=du,toks:=tk}:=by
 have xh:ps.length+F.length<=N.length:=by have:=congrArg ZC S.pre;rw[Wp,Vy] at this;omega
 have Gh:∀b:Addr,b∉(JG CX P w K mg base N qual scope f cd cl A outer s H E).ex:=λb z=>absurd (show b∈([]:List Addr) from z) (by simp);have old:∀b o,base.get? b=some o->du.get? b=some o:=λb o e=>hk b o (e0.bs b o e).1;have Gm:∀x c,cl.lookup x=some c->∃u,base.IsCell c (some u):=λx c h=>by obtain⟨i,v,c',u,_,_,h3,h4,_⟩:=C.get (C.only x c h);rw[h] at h3;cases h3;exact⟨u,h4⟩
 refine⟨⟨e0.mod,S.kind,rfl,rfl,Vj _,λy z c h1 h2=>C.inj y z c h1 h2,λy hy=>?_,(λy c h _=>absurd (show false=true from h) (by decide)),λ_=>hd,WN.frames_deeper e0.frames,.inr ⟨rfl,rfl⟩,λb z=>absurd z (Gh b),e0.bs,e0.Dq,λb _ _=>Gh b,λb z=>absurd z (Gh b),e0.ma,e0.Gz⟩,
  rfl,e0.bare,Un.kept hk,⟨_,JH,λi y v h1 h2 h3=>?_⟩,λy c h=>?_,e0.aH.fresh (Vj _),λy c h=>?_,λp hp=>absurd (show p∈([]:List (Addr×Obj)) from hp) (by simp),e0.aH.kept hk,?_⟩
 ·have hy:scope.names.lookup y=some .cell\/scope.names.lookup y=some .free:=hy;rcases hy with hy|hy;·exact absurd rfl (S.fT _ (V2 hy))
  ·obtain⟨_,_,c,_,_,_,h,_⟩:=C.get (S.OS _ (V2 hy) rfl);exact⟨c,h⟩
 ·have hlen:(vs++bM).length=ps.length+F.length:=by rw[Vy,hl,C.len]
  have hi:i < (vs++bM).length:=by
   unfold start at h2;by_cases hi:i < (vs++bM).length;·exact hi
   ·rw[Vz (by simpa using hi)] at h2;rw[X4] at h2;split at h2<;>cases h2
  have ha:(vs++bM)[i]?=some v:=by unfold start at h2;rw[Vf (by simpa using hi),Vi] at h2;cases e:(vs++bM)[i]? with|none=>rw[e] at h2;cases h2|some a=>rw[e] at h2;cases h2;rfl
  have hp:(ps++F)[i]?=some y:=by rw[<-S.pre,List.getElem?_take_of_lt (by omega)];exact h1
  have QU:ps.Nodup:=by
   have:(ps++F).Nodup:=by rw[<-S.pre];exact S.nd.sublist (List.take_sublist _ _)
   exact(V5.mp this).1
  by_cases CA:i < vs.length;·rw[Vf CA] at ha;rw[Vf (by omega)] at hp;obtain⟨u,hu,rv⟩:=r.get ha;exact⟨u,rv,.inl ⟨S.par y (VC hp),Er QU hp hu⟩⟩
  ·rw[Vz (by omega)] at ha;rw[Vz (by omega),<-hl] at hp;obtain⟨c,u,hc,m7,rv⟩:=C.at_ _ y v hp ha;exact⟨u,rv,.inr ⟨.inr (S.fre y (VC hp)),c,hc,m7.keeps old⟩⟩
 ·obtain⟨u,hc⟩:=Gm y c h;exact⟨_,hc.keeps old⟩
 ·obtain⟨u,o,ho,_⟩:=Gm y c h;exact(e0.bs c o ho).2
 ·unfold start;show _=N.length;rw[Vy,Vg,YZ,Vy,hl,C.len];omega
section
variable{CX:Gg}{P:Wf}{w:World}{K:Vm}{mg:Str->Option Value}{base:Heap}{k:Nat}{f:Addr}{name qual:Str}{params:Ye}{scope:Scope}{cl:List (Str×Addr)}{dV kV doc pm kg ct oc:Value}{an od:Option Addr}
  {GR:Array (Option Value)} {N ps F:List Str} {bM:List V} {sp:Sp}
theorem KZ(lk:base.get? f=some ⟨oc,od,.func (aaR name qual params body scope cl dV kV doc pm an kg ct),GR⟩)(pI:∀vs H Q E,sp vs H Q E->∃c,kg=.ref c/\H c=some (.ext (dw c qual)))(S:kz N ps F scope)(C:Gk base cl F bM)(len:∀vs H Q E,sp vs H Q E->vs.length=ps.length)(rN:∀(A:WN) (outer:List Env) (s:Vv) (H:Hp) (vs:List V) (Q:VK) (E:XK),cO k (A.deeper (xV qual scope s.heap.objs.size f kg cl))->sp vs H Q E->
   ∃t,me (JG CX P w K mg base N qual scope f kg cl A outer s H E) body t/\t {nx:=λ_ H'=>Q .bq H',rt:=Q} (start N (vs++bM)) H):
  gJ P w K mg base CX (k+1) f (aaR name qual params body scope cl dV kV doc pm an kg ct) ps sp:=by
 refine⟨len,λA outer s H args us vs Q E hr e0 hb r vW=>?_⟩;have hl:=len _ _ _ _ vW;have old:∀b o,base.get? b=some o->s.heap.get? b=some o:=λb o e=>(e0.bs b o e).1;have lim:s.heap.NoLimit:=e0.mod.nolimit.keeps old;have K0:s.heap.CodeRec kg qual:=by obtain⟨c,rfl,hc⟩:=pI _ _ _ _ vW;exact(e0.aH c _ hc).1
 have Es:∀y∈ps.zip us,scope.names.lookup y.1=some .local:=λ⟨n,v⟩ hy=>S.par n (Yc hy).1;refine codeAny_call_function hr.depth (old _ _ lk) rfl S.co S.gen rfl K0 (hb _ _ _ _ ?_);refine Yl S.fT Es (λdu JH OT=>⟨lim.fresh _ OT,codeAny_func ?_⟩) S.kind;have hk:∀b o,s.heap.get? b=some o->du.get? b=some o:=λb o e=>OT.extBut b o (VP (Vs e)) (Va _ e);obtain⟨t,ht,hq⟩:=rN A outer s H vs Q E (hr.deeper _) vW;have I:=Bk (CX:=CX) (qual:=qual) (f:=f) (cd:=kg) (tk:=s.toks+(ps.zip us).length) (E:=E) S C hr.hd e0 hl r JH hk;refine WX (ht [] _ (start N (vs++bM)) H _ I hq) (λfl s' hs=>?_) λe s' hs=>hs;have fin:∀{cH:St} {H':Hp} {v:V} {u:Value},Inv (JG CX P w K mg base N qual scope f kg cl A outer s H E) [] cH H' s'->RelV v u->Q v H'->CE outer P w H s Q u s':=
  λ{cH H' v u} J rv q=>⟨v,H',J.os,J.bare,J.base,J.aH,rv,q⟩
 cases fl with|ret u=>obtain⟨v,cH,H',J,rv,q⟩:=hs;exact fin J rv q|next=>obtain⟨cH,H',J,q⟩:=hs;exact fin (v:=V.bq) (u:=Xi) J rfl q|brk=>obtain⟨_,_,_,q⟩:=hs;exact Ww q|cont=>obtain⟨_,_,_,q⟩:=hs;exact Ww q
theorem K3(lk:base.get? f=some ⟨oc,od,.func (aal name qual params body scope cl pm kg ct),GR⟩)(pI:∀vs H Q E,sp vs H Q E->∃c,kg=.ref c/\H c=some (.ext (dw c qual)))(S:kz N ps F scope)(C:Gk base cl F bM)(len:∀vs H Q E,sp vs H Q E->vs.length=ps.length)(rN:∀(A:WN) (outer:List Env) (s:Vv) (H:Hp) (vs:List V) (Q:VK) (E:XK),cO k (A.deeper (xV qual scope s.heap.objs.size f kg cl))->sp vs H Q E->
   ∃t,PE (JG CX P w K mg base N qual scope f kg cl A outer s H E) body t/\t (start N (vs++bM)) H Q):
  gJ P w K mg base CX (k+1) f (aal name qual params body scope cl pm kg ct) ps sp:=by
 refine⟨len,λA outer s H args us vs Q E hr e0 hb r vW=>?_⟩;have hl:=len _ _ _ _ vW;have old:∀b o,base.get? b=some o->s.heap.get? b=some o:=λb o e=>(e0.bs b o e).1;have lim:s.heap.NoLimit:=e0.mod.nolimit.keeps old;have K0:s.heap.CodeRec kg qual:=by obtain⟨c,rfl,hc⟩:=pI _ _ _ _ vW;exact(e0.aH c _ hc).1
 have Es:∀y∈ps.zip us,scope.names.lookup y.1=some .local:=λ⟨n,v⟩ hy=>S.par n (Yc hy).1;refine PySem.W.kla_callFunE hr.depth (old _ _ lk) rfl S.co S.gen rfl K0 (hb _ _ _ _ ?_);refine Yl S.fT Es (λdu JH OT=>⟨lim.fresh _ OT,PySem.W.kla_codeExpr ?_⟩) S.kind;have hk:∀b o,s.heap.get? b=some o->du.get? b=some o:=λb o e=>OT.extBut b o (VP (Vs e)) (Va _ e);obtain⟨t,ht,hq⟩:=rN A outer s H vs Q E (hr.deeper _) vW;have I:=Bk (CX:=CX) (qual:=qual) (f:=f) (cd:=kg) (tk:=s.toks+(ps.zip us).length) (E:=E) S C hr.hd e0 hl r JH hk;refine WX (ht [] _ (start N (vs++bM)) H _ I hq) (λu s' hs=>?_) λe s' hs=>hs;obtain⟨v,H',J,rv,q⟩:=hs;exact⟨v,H',J.os,J.bare,J.base,J.aH,rv,q⟩
end
open Classical in
noncomputable def gH(H:Hp):Hp:=λb=>match H b with|some (.ext φ)=>if ∃q,φ=dw b q then some (.ext φ) else none|o=>o
open Classical in
noncomputable def xW(H H2:Hp):Hp:=λb=>match H b with|some (.ext φ)=>if ∃q,φ=dw b q then H2 b else some (.ext φ)|_=>H2 b
def Ay(b:Addr)(φ:Heap->Prop):Prop:=∀q,φ≠dw b q
theorem jK(h:H b=none):gH H b=none:=by unfold gH;rw[h]
theorem wd(h:H b=some (.ext φ))(hf:Ay b φ):gH H b=none:=by unfold gH;rw[h];exact if_neg λ⟨q,e⟩=>hf q e
theorem gk(h:H b=some (.ext (dw b q))):gH H b=some (.ext (dw b q)):=by unfold gH;rw[h];exact if_pos ⟨q,rfl⟩
theorem kA(h:gH H b=some o):H b=some o/\∀φ,o=.ext φ->¬Ay b φ:=by
 unfold gH at h;split at h
 ·rename_i φ e;split at h;·rename_i hq;cases h;obtain⟨q,hq⟩:=hq;exact⟨e,λψ z hf=>by cases z;exact hf q hq⟩
  ·cases h
 ·rename_i fc;exact⟨h,λφ z=>absurd (h.trans (by rw[z])) (fc φ)⟩
theorem bh(h:H b=some o)(fc:∀φ,o≠.ext φ):gH H b=some o:=by unfold gH;rw[h];cases o with|ext φ=>exact absurd rfl (fc φ)|_=>rfl
theorem Bl(h:H b=some (.ext φ))(hf:Ay b φ):xW H H2 b=some (.ext φ):=by unfold xW;rw[h];exact if_neg λ⟨q,e⟩=>hf q e
theorem r6(h:∀φ,H b=some (.ext φ)->¬Ay b φ):xW H H2 b=H2 b:=by
 unfold xW;split;·rename_i φ q;have:∃q,φ=dw b q:=VF λz=>h φ q λq' e=>z ⟨q',e⟩;exact if_pos this
 ·rfl
noncomputable def qj(h:Heap)(H:Hp)(fs:List Addr):Heap:=PySem.W.hideAll (qd h (gH H)) fs
theorem Et h H fs:(qj h H fs).objs.size=h.objs.size:=(PySem.W.hideAll_size _ _).trans (uS _ _)
theorem we(e:h.get? b=some o)(n:gH H b=none)(hb:b∉fs):(qj h H fs).get? b=some o:=PySem.W.hideAll_get _ (xw e n) hb
theorem K4(e:(qj h H fs).get? b=some o):h.get? b=some o/\gH H b=none:=A3 (PySem.W.of_hideAll _ e)
theorem Eu(hb:b∈fs):(qj h H fs).get? b=none:=PySem.W.hideAll_none _ hb
theorem ki.gH{P:Wf}{w:World}{H:Hp}{h:Heap}(x:ki P w H h):ki P w (gH H) h:=λa o e=>by obtain⟨e1,_⟩:=kA e;exact(x a o e1).mY (λ_ _ _ z=>z) (λb z=>bh z (λ_ q=>nomatch q)) λb xs z=>bh z (λ_ q=>nomatch q)
theorem funFrames_base{h base xX:Heap}:∀{l},(∀b∈jC l,xX.get? b=none)->h.FunFrames base l->h.FunFrames xX l
 |[],_,_=>trivial|env::r,hb,⟨hk,⟨L,o,hf,hn,ho,hd⟩,hr⟩=>by
  have e:jC (env::r)=L::jC r:=by unfold jC;rw[XY,hf]
  rw[e] at hb;exact⟨hk,⟨L,o,hf,hb L Vh,ho,hd⟩,funFrames_base (λb z=>hb b (Vb _ z)) hr⟩
section
variable{X:Cx}{pins:List (Addr×Obj)}{σ:St}{H:Hp}{s s':Vv}
theorem Inv.Ew(I:Inv X pins σ H s)(e:X.base.get? b=some o):(qj s.heap H (jC X.stack)).get? b=some o:=by
 obtain⟨h1,h2⟩:=I.bs b o e;refine we h1 (jK h2) λz=>?_;rcases W4.mp (I.ot b z) with q|q;·have l1:=Vs e;have l2:=I.ok.Dq;have l3:=I.ok.above;exact W3 _ (VI l1 (V3 l2 (by rw[q];exact l3)))
 ·exact I.ok.GA e q
theorem Inv.Te(I:Inv X pins σ H s):Mod X.K X.mg (qj s.heap H (jC X.stack)):=by have k:∀b o,X.base.get? b=some o->(qj s.heap H (jC X.stack)).get? b=some o:=λb o e=>I.Ew e;obtain⟨mb,h1,h2⟩:=I.mod.blt;exact⟨I.mod.J7.keeps k,I.mod.glob.keeps k,⟨mb,h1.keeps k,h2⟩,I.mod.nolimit.keeps k⟩
theorem Inv.OU(I:Inv X pins σ H s):vT X.prog X.w X.K X.mg (qj s.heap H (jC X.stack)) X.A X.stack s (gH H):=
 ⟨I.ok.frames,I.Te,λb o e=>K4 e,Zr (Et _ _ _),funFrames_base (λb hb=>Eu hb) I.stack,λb hb=>jK (I.m5 b hb),I.aH.gH,I.bare⟩
theorem Inv.K5(I:Inv X pins σ H s)(h:CE X.stack X.prog X.w (gH H) s Q u s'):EP X pins σ (λv H3=>∃H2,H3=xW H H2/\(∀b φ,H b=some (.ext φ)->Ay b φ->H2 b=none)/\Q v H2) u s':=by
 obtain⟨v,H2,os,bare,un,aH,r,q⟩:=h;have GA:∀b φ,H b=some (.ext φ)->b∉jC X.stack:=λb φ e z=>by rw[I.m5 b z] at e;cases e
 have kept:∀b φ,H b=some (.ext φ)->Ay b φ->H2 b=none/\φ s'.heap/\∃o,s'.heap.get? b=some o:=λb φ e hf=>by obtain⟨p1,⟨o,p2⟩,p3⟩:=I.aH b _ e;have k1:=un.keep b o p2 (wd e hf) (GA b φ e) (by simp);exact⟨un.free b o p2 (wd e hf) (by simp),p3 _ _ p1 (λo' oq=>by rw[p2] at oq;cases oq;exact k1),o,k1⟩
 have mono:∀b o,H2 b=some o->xW H H2 b=some o:=λb o e=>by rw[r6 λφ z hf=>by rw[(kept b φ z hf).1] at e;cases e];exact e
 refine I.after ⟨v,xW H H2,os,bare,⟨λb o e n hb hx=>un.keep b o e (jK n) hb hx,λb o e n hb hx=>un.slot b o e (jK n) hb hx,λb o e n hx=>?_,λb o e hx=>un.there b o e hx,λb xs e=>?_,λb o x e=>?_,λb ps e=>?_⟩,λb o e=>?_,r,H2,rfl,λb φ e hf=>(kept b φ e hf).1,q⟩;·rw[r6 λφ z _=>by rw[n] at z;cases z];exact un.free b o e (jK n) hx
 ·exact mono _ _ (un.rE b xs (bh e (λ_ z=>nomatch z)))
 ·exact mono _ _ (un.oo b o x (bh e (λ_ z=>nomatch z)))
 ·obtain⟨more,e2⟩:=un.qb b ps (bh e (λ_ z=>nomatch z));exact⟨more,mono _ _ e2⟩
 ·by_cases c:∃φ,H b=some (.ext φ)/\Ay b φ;·obtain⟨φ,c,hf⟩:=c;rw[Bl c hf] at e;cases e;obtain⟨_,_,p3⟩:=I.aH b _ c;obtain⟨_,k2,k3⟩:=kept b φ c hf;exact⟨k2,k3,p3⟩
  ·rw[r6 λφ z hf=>c ⟨φ,z,hf⟩] at e;exact(aH b o e).mY (λ_ _ _ z=>z) (λb' z=>mono _ _ z) λb' xs z=>mono _ _ z
theorem Hl(I:Inv X pins σ H s)(F:gJ X.prog X.w X.K X.mg (qj s.heap H (jC X.stack)) tX k f fd ps sp)(hr:cO k X.A)(hb:aab s fd ⟨us,[]⟩ (ps.zip us))(r:aP vs us)(h:sp vs (gH H) Q E0):wpAny (model X.prog X.w) X.A (call (.ref f) us) (EP X pins σ (λv H3=>∃H2,H3=xW H H2/\(∀b φ,H b=some (.ext φ)->Ay b φ->H2 b=none)/\Q v H2)) X.xe s:=by refine aaT (Zo (F.run X.A X.stack s (gH H) ⟨us,[]⟩ us vs Q E0 hr I.OU hb r h) λr s' hq=>?_);cases r with|error e=>exact Ww hq|ok fl=>cases fl with|ret u=>exact I.K5 hq|next=>exact Ww hq|brk=>exact Ww hq|cont=>exact Ww hq
def K6(X:Cx)(i:Nat)(t:TA):TE:=λσ H Q=>∃a,σ[i]?=some (some (.ref a))/\(∃oc od fd sl,X.base.get? a=some ⟨oc,od,.func fd,sl⟩)/\t σ H λvs H1=>∃k fd ps sp,gJ X.prog X.w X.K X.mg X.base tX k a fd ps sp/\cO k X.A/\Binds X.K fd ps []/\sp vs H1 Q E0
theorem Ex(hN:X.N[i]?=some x)(hv:Nw X.env.scope x)(ha:PA X (e::es) t)(hd:(x==("__debug__":Str))=false:=by decide)(pI:(x==("__classdict__":Str))=false:=by decide)(he:VM (e::es) X.env=(false,eval e X.env)::VM es X.env:=by rfl)(xh:(Xn pos (VM es X.env)).any (·.1)=false:=by rfl):
  PE X (.Call (.Name x p) (e::es) [] pos) (K6 X i t):=by
 intro pins s σ H Q I h;obtain⟨a,ea,⟨oc,od,fd0,sl,eo⟩,h⟩:=h;refine WD (WX (zS (pos:=p) hN hv hd pI pins s σ H (λv H'=>v=.ref a/\H'=H) I ⟨_,ea,rfl,rfl⟩) (λu s0 ⟨v,H0,I0,rv,ev,eH⟩=>?_) λ_ _ z=>z);subst ev;subst eH;obtain rfl:u=VJ a:=rv;have OV:∀{pins:List (Addr×Obj)} {σ:St} {H:Hp} {s:Vv},Inv X pins σ H s->PySem.W.FnAt a s.heap:=λJ=>⟨oc,od,fd0,sl,J.bk _ _ eo⟩;refine PySem.W.callWith_F (OV I0) (bI (ha pos pins s0 σ H0 _ I0 h) λus s1 ⟨vs,H1,I1,r,k,fd,ps,sp,F,hr,hb,q⟩=>⟨OV I1,?_⟩) he xh;exact rL F hr hb (dvs:=[]) (ds:=[]) (E:=E0) .nil (λ_ _ _ _ _ _ _ z=>z.elim) I1 r (by rw[Wb];exact q)
end
def fO(H:Hp)(bL:List (Pos×Str))(ps:Array Value):Prop:=Zs ps.toList/\∀p∈bL,∀cv,XZ p.1 ps.toList=some cv->∃c,cv=.ref c/\H c=some (.ext (dw c p.2))
def BMain(mg:Str->Option Value)(B:Heap):Prop:=∃bm ob,mg "__builtins__"=some (.ref bm)/\bm≠Z7/\B.get? bm=some ob/\ob.cls=.type "module"/\ob.dict=some Z7/\ob.data=.plain
structure Made(H H':Hp)(P f c:Addr)(bL:List (Pos×Str))(q:Str)(φ:Heap->Prop):Prop where
 fresh:H f=none
 fn:H' f=some (.ext φ)
 code:H' c=some (.ext (dw c q))
 tab:∃ps,H' P=some (.fH ps)/\fO H' bL ps
 keep:∀b u,H b=some u->b≠P->H' b=some u
 grow:∀ps,H P=some (.fH ps)->∃more,H' P=some (.fH (ps++more))
 new:∀b,H b=none->H' b=none\/∃ψ,H' b=some (.ext ψ)
theorem nv:∀(l),Zs l->Zs (l++[.int i ti,.int j tj,c])
 |[],_=>trivial|.int _ _::.int _ _::_::rest,h=>nv rest h
theorem lU{pos p:Pos}(fc:¬(p.line=pos.line/\p.col=pos.col)):∀(l),Zs l->XZ pos (l++[Xm p.line,Xm p.col,c])=XZ pos l
 |[],_=>by show(if((p.line:Int)==(pos.line:Int)&&(p.col:Int)==(pos.col:Int))=true then some c else none)=none;rw[if_neg];rw[U9,beq_iff_eq,beq_iff_eq];rintro⟨a,b⟩;exact fc ⟨by omega,by omega⟩
 |.int a ta::.int b tb::d::rest,h=>by have ih:=lU (c:=c) fc rest h;simp only[W0,XZ];rw[ih]
theorem qk l(h:Zs l)(hn:XZ p l=none):XZ p (l++[Xm p.line,Xm p.col,c])=some c:=codeAmong_snoc l h hn
theorem xY{p:Pos}(h:Zs l):Zs (l++[Xm p.line,Xm p.col,c]):=nv l h
def Apart(bL:List (Pos×Str)):Prop:=∀p∈bL,∀q∈bL,p.1.line=q.1.line/\p.1.col=q.1.col->p=q
section
variable{X:Cx}{pins:List (Addr×Obj)}{σ:St}{H:Hp}{s:Vv}
theorem Inv.xZ(Tf:fo.isFreed=false)(I:Inv X pins σ H s)(hP:H P=some (.fH ps))(tb:fO H bL ps)(hs:(pos,q)∈bL)(ap:Apart bL)(hnf:XZ pos ps.toList=none)(hx:Heap.ExtBut P s.heap h')(K7:s.heap.objs.size<=c')(fM:c' < h'.objs.size)(wj:h'.CodeRec (.ref c') q)(Nh:h'.get? P=some (X2 (ps++#[Xm pos.line,Xm pos.col,.ref c'])))(hf:f=h'.objs.size)φ(h1:φ (h'.push fo))(h2:∀g1 g2:Heap,φ g1->(∀o,g1.get? f=some o->g2.get? f=some o)->φ g2):
  ∃H',Inv X pins σ H' {s with heap:=h'.push fo,toks:=tk}/\Made H H' P f c' bL q φ:=by
 have K8:s.heap.get? P=some (X2 ps):=I.aH P _ hP;have lP:P < s.heap.objs.size:=Vs K8;have fr:∀b,s.heap.objs.size<=b->H b=none:=λb hb=>I.aH.fresh hb;have lcf:c' < f:=by rw[hf];exact fM
 have K9:s.heap.objs.size < f:=Nat.lt_of_le_of_lt K7 lcf;have nPc:c'≠P:=Wu (VI lP K7);have nPf:f≠P:=Wu (Zq lP K9);have ncf:f≠c':=Wu lcf;have Q9:∀b,b < s.heap.objs.size->b≠c'/\b≠f:=λb hb=>⟨VP (VI hb K7),VP (Zq hb K9)⟩;obtain⟨cc,oc,vs,tt,ecc,J9,hd,hv⟩:=wj;cases ecc
 let H':Hp:=upd (upd (upd H P (.fH (ps++#[Xm pos.line,Xm pos.col,.ref c']))) c' (.ext (dw c' q))) f (.ext φ)
 have eP:H' P=some (.fH (ps++#[Xm pos.line,Xm pos.col,.ref c'])):=by show upd _ _ _ P=_;rw[aw (Wg nPf),aw (Wg nPc),aC]
 have ec:H' c'=some (.ext (dw c' q)):=by show upd _ _ _ c'=_;rw[aw (Wg ncf),aC]
 have ef:H' f=some (.ext φ):=aC;have eo:∀b,b≠P->b≠c'->b≠f->H' b=H b:=λb n1 n2 n3=>by show upd _ _ _ b=_;rw[aw n3,aw n2,aw n1]
 have hsf:s.heap.objs.size<=f:=Yr K9;have hold:∀b u,H b=some u->b≠P->H' b=some u:=λb u e n=>by
  have hb:b < s.heap.objs.size:=by
   rcases Nat.lt_or_ge b s.heap.objs.size with z|z;·exact z
   ·rw[fr b z] at e;cases e
  rw[eo b n (Q9 b hb).1 (Q9 b hb).2];exact e
 have kp:∀b o,b≠P->s.heap.get? b=some o->(h'.push fo).get? b=some o:=λb o n e=>Va _ (hx b o n e);refine⟨H',I.DC (ch:=[]) rfl ⟨λb o e n _ _=>?_,λb o e n _ _=>⟨o.slots,?_⟩,λb o e n _=>?_,λb o e _=>?_,λb xs e=>?_,λb o x e=>?_,λb qs e=>?_⟩ (λb o e=>?_) I.bare (λb z=>absurd z (by simp)),⟨fr f hsf,ef,ec,⟨_,eP,?_,?_⟩,hold,λqs e=>⟨#[Xm pos.line,Xm pos.col,.ref c'],?_⟩,λb n=>?_⟩⟩;·exact kp b o (λz=>by rw[z,hP] at n;cases n) e
 ·exact kp b o (λz=>by rw[z,hP] at n;cases n) e
 ·have lb:=Vs e;rw[eo b (λz=>by rw[z,hP] at n;cases n) (Q9 b lb).1 (Q9 b lb).2];exact n
 ·by_cases z:b=P;·subst z;exact⟨_,Va _ Nh⟩
  ·exact⟨o,kp b o z e⟩
 ·exact hold b _ e λz=>by rw[z,hP] at e;cases e
 ·exact hold b _ e λz=>by rw[z,hP] at e;cases e
 ·by_cases z:b=P;·subst z;rw[hP] at e;cases e;exact⟨_,eP⟩
  ·exact⟨#[],by rw[hold b _ e z];simp⟩
 ·by_cases z1:b=f;·subst z1;rw[ef] at e;cases e;exact⟨h1,⟨fo,by rw[hf];exact Vq _ Tf⟩,h2⟩
  ·by_cases z2:b=c';·subst z2;rw[ec] at e;cases e;refine⟨⟨b,oc,vs,tt,rfl,Va _ J9,hd,hv⟩,⟨oc,Va _ J9⟩,λg1 g2 ⟨c2,o2,v2,t2,e2,a2,r2⟩ k=>?_⟩;cases e2;exact⟨b,o2,v2,t2,rfl,k _ a2,r2⟩
   ·by_cases z3:b=P;·subst z3;rw[eP] at e;cases e;exact Va _ Nh
    ·rw[eo b z3 z2 z1] at e;refine(I.aH b o e).mY (λb' u iP eu=>?_) (λb' z=>hold b' _ z λy=>by rw[y,hP] at z;cases z) λb' xs z=>hold b' _ z λy=>by rw[y,hP] at z;cases z
     refine kp b' u (λy=>?_) eu;rcases iP with w1|w1;·exact z3 (w1▸y)
     ·rw[y,hP] at w1;cases w1
 ·rw[Array.toList_append];exact xY tb.1
 ·intro p hp cv zO;rw[Array.toList_append] at zO;by_cases z:pos.line=p.1.line/\pos.col=p.1.col;·have e:=ap (pos,q) hs p hp z;subst e;have:XZ pos (ps.toList++[Xm pos.line,Xm pos.col,.ref c'])=some (.ref c'):=qk _ tb.1 hnf;have OW:XZ pos (ps.toList++[Xm pos.line,Xm pos.col,.ref c'])=some cv:=zO;rw[this] at OW;cases OW;exact⟨c',rfl,ec⟩
  ·have:XZ p.1 (ps.toList++[Xm pos.line,Xm pos.col,.ref c'])=some cv:=zO;rw[lU z _ tb.1] at this;obtain⟨c,e1,e2⟩:=tb.2 p hp cv this;exact⟨c,e1,hold c _ e2 λy=>by rw[y,hP] at e2;cases e2⟩
 ·rw[hP] at e;cases e;exact eP
 ·by_cases z1:b=f;·subst z1;exact .inr ⟨_,ef⟩
  ·by_cases z2:b=c';·subst z2;exact .inr ⟨_,ec⟩
   ·have z3:b≠P:=λy=>by rw[y,hP] at n;cases n
    rw[eo b z3 z2 z1];exact .inl n
theorem Inv.x8{h':Heap}(Tf:fo.isFreed=false)(I:Inv X pins σ H s)(hP:H P=some (.fH ps))(tb:fO H bL ps)(pI:H c'=some (.ext (dw c' q)))(hk:∀b o,s.heap.get? b=some o->h'.get? b=some o)(hsz:s.heap.objs.size<=h'.objs.size)(hf:f=h'.objs.size)φ(h1:φ (h'.push fo))(h2:∀g1 g2:Heap,φ g1->(∀o,g1.get? f=some o->g2.get? f=some o)->φ g2):
  ∃H',Inv X pins σ H' {s with heap:=h'.push fo,toks:=tk}/\Made H H' P f c' bL q φ:=by
 have K9:s.heap.objs.size<=f:=by rw[hf];exact hsz
 have hn:H f=none:=I.aH.fresh K9;have kp:∀b o,s.heap.get? b=some o->(h'.push fo).get? b=some o:=λb o e=>Va _ (hk b o e);have hold:∀b u,H b=some u->upd H f (.ext φ) b=some u:=λb u e=>by rw[aw (aK e hn)];exact e
 refine⟨upd H f (.ext φ),I.DC (ch:=[]) rfl (Un.laid kp K9 hn) (I.aH.laid kp K9 ⟨h1,⟨fo,by rw[hf];exact Vq _ Tf⟩,h2⟩) I.bare (λb z=>absurd z (by simp)),⟨hn,aC,hold _ _ pI,⟨ps,hold _ _ hP,tb.1,λp hp cv zO=>?_⟩,λb u e _=>hold b u e,λqs e=>⟨#[],by rw[hold _ _ e];simp⟩,λb n=>?_⟩⟩;·obtain⟨c,e1,e2⟩:=tb.2 p hp cv zO;exact⟨c,e1,hold _ _ e2⟩
 ·by_cases z:b=f;·subst z;exact .inr ⟨_,aC⟩
  ·rw[aw z];exact .inl n
structure Maker(X:Cx)(c P:Addr)(bL:List (Pos×Str)):Prop where
 code:X.env.code=.ref c
 hd:Xo X.base c P
 bm:BMain X.mg X.base
 ap:Apart bL
theorem Maker.bt(M:Maker X c P bL)(I:Inv X pins σ H s)(hP:H P=some (.fH ps)):Vu≠P/\s.heap.BuiltinsAt X.mg P:=by
 obtain⟨bm,ob,b1,b2,b3,b4,b5,b6⟩:=M.bm;obtain⟨og,es,ep,g1,g2,_⟩:=I.mod.glob;have n1:Vu≠P:=λz=>by have:=(I.bs _ _ g1).2;rw[z,hP] at this;cases this
 have n2:bm≠P:=λz=>by have:=(I.bs _ _ b3).2;rw[z,hP] at this;cases this
 have n3:bm≠Vu:=λz=>by rw[z,g1] at b3;cases b3;rw[g2] at b6;cases b6
 exact⟨n1,bm,ob,b1,b2,n3,n2,I.bk _ _ b3,b4,b5,b6⟩
def Th(f:Addr)(qual:Str)(params:Ye)(body:Expr)(scope:Scope)(Az:List (Str×Addr))(pm:Value)(c:Addr)(ct:Value):Heap->Prop:=λh=>h.get? f=some (PySem.W.kla_obj "<lambda>" qual params body scope Az pm c ct)
def Ti(X:Cx)(P:Addr)(bL:List (Pos×Str))(qual:Str)(φ:Addr->Addr->Value->Heap->Prop):TE:=λσ H Q=>∃ps,H P=some (.fH ps)/\fO H bL ps/\
 ∀f c ct H',Made H H' P f c bL qual (φ f c ct)->Q (.ref f) H'
theorem La(M:Maker X c P bL)(hs:(pos,X.env.qual++"<lambda>")∈bL)(Tj:defaultsOf params X.env=([],[]))(tY:Zt scope X.env=pure Az)(h1:∀f c ct h,Th f (X.env.qual++"<lambda>") params body scope Az ((X.mg "__name__").getD .none) c ct h->φ f c ct h)(h2:∀f c ct (g1 g2:Heap),φ f c ct g1->(∀o,g1.get? f=some o->g2.get? f=some o)->φ f c ct g2):
  PE X (.Lambda params body scope pos) (Ti X P bL (X.env.qual++"<lambda>") φ):=by
 intro pins s σ H Q I h;obtain⟨ps,hP,tb,h⟩:=h;have K8:s.heap.get? P=some (X2 ps):=I.aH P _ hP;obtain⟨Tn,hb⟩:=M.bt I hP;have hg:s.heap.Ns Vu X.mg:=I.mod.glob.keeps I.bk;refine PySem.W.kla_eval Tj ?_;cases hf:XZ pos ps.toList with|none=>refine PySem.W.kla_makeFunction tY I.ok.glob hg M.code (M.hd.keeps I.bk) K8 tb.1 hf Tn hb λc' Lb h' tk hx K7 fM wj Nh=>?_;obtain⟨H',I',md⟩:=Inv.xZ rfl I (f:=h'.objs.size) (tk:=tk) hP tb hs M.ap hf hx K7 fM wj Nh rfl (φ h'.objs.size c' Lb) (h1 _ _ _ _ (Vq _ rfl)) (h2 _ _ _);exact⟨.ref h'.objs.size,H',I',rfl,h _ _ _ _ md⟩|some cv=>obtain⟨c',rfl,pI⟩:=tb.2 _ hs cv hf;refine PySem.W.kla_makeFunctionHit tY I.ok.glob hg M.code (M.hd.keeps I.bk) K8 tb.1 hf hb λLb h' tk hk hsz=>?_;obtain⟨H',I',md⟩:=Inv.x8 rfl I (f:=h'.objs.size) (tk:=tk) hP tb pI hk hsz rfl (φ h'.objs.size c' Lb) (h1 _ _ _ _ (Vq _ rfl)) (h2 _ _ _);exact⟨.ref h'.objs.size,H',I',rfl,h _ _ _ _ md⟩
def To(f:Addr)(name qual:Str)(params:Ye)(body:List Stmt)(scope:Scope)(Az:List (Str×Addr))(doc pm:Value)(c:Addr)(ct:Value):Heap->Prop:=λh=>h.get? f=some (PySem.W.fnMade name qual params body scope Az doc pm c ct)
def Tp(X:Cx)(i:Nat)(P:Addr)(bL:List (Pos×Str))(qual:Str)(φ:Addr->Addr->Value->Heap->Prop):TS:=λD σ H=>∃ps,H P=some (.fH ps)/\fO H bL ps/\
 ∀f c ct H',Made H H' P f c bL qual (φ f c ct)->D.nx (σ.set i (some (.ref f))) H'
theorem Lc(M:Maker X c P bL)(hs:(pos,Y3 X.env name name)∈bL)(hd0:params.defaults=[])(hk0:params.kw_defaults=[])(ha:annTrees params none X.env=[])(tY:Zt scope X.env=pure Az)(hN:X.N.Nodup)(hi:X.N[i]?=some name)(hx:Loc X.env.scope name)(Dr:X.fn name=true\/X.env.scope.names.lookup name=some .local)(h1:∀f c ct doc h,To f name (Y3 X.env name name) params body scope Az doc ((X.mg "__name__").getD .none) c ct h->φ f c ct h)(h2:∀f c ct (g1 g2:Heap),φ f c ct g1->(∀o,g1.get? f=some o->g2.get? f=some o)->φ f c ct g2):
  PS X (.FunctionDef name params body [] none [] scope none name pos) (Tp X i P bL (Y3 X.env name name) φ):=by
 intro pins s σ H D I h;obtain⟨ps,hP,tb,h⟩:=h;have K8:s.heap.get? P=some (X2 ps):=I.aH P _ hP;obtain⟨Tn,hb⟩:=M.bt I hP;have hg:s.heap.Ns Vu X.mg:=I.mod.glob.keeps I.bk;refine PySem.W.nestDef_K hd0 hk0 ha ?_;cases hf:XZ pos ps.toList with|none=>refine PySem.W.makeFunction_K tY I.ok.glob hg M.code (M.hd.keeps I.bk) K8 tb.1 hf Tn hb λc' Lb doc h' tk xi K7 fM wj Nh=>?_;obtain⟨H',I',md⟩:=Inv.xZ rfl I (f:=h'.objs.size) (tk:=tk) hP tb hs M.ap hf xi K7 fM wj Nh rfl (φ h'.objs.size c' Lb) (h1 _ _ _ doc _ (Vq _ rfl)) (h2 _ _ _);exact m6 I' hN hi hx (v:=.ref h'.objs.size) rfl (λs' I2=>⟨_,H',I2,h _ _ _ _ md⟩) Dr|some cv=>obtain⟨c',rfl,pI⟩:=tb.2 _ hs cv hf;refine PySem.W.makeFunction_hit tY I.ok.glob hg M.code (M.hd.keeps I.bk) K8 tb.1 hf hb λLb doc h' tk hk hsz=>?_;obtain⟨H',I',md⟩:=Inv.x8 rfl I (f:=h'.objs.size) (tk:=tk) hP tb pI hk hsz rfl (φ h'.objs.size c' Lb) (h1 _ _ _ doc _ (Vq _ rfl)) (h2 _ _ _);exact m6 I' hN hi hx (v:=.ref h'.objs.size) rfl (λs' I2=>⟨_,H',I2,h _ _ _ _ md⟩) Dr
end
def Bm(tabs:List (Addr×Addr))(H:Hp):Prop:=(∀b,H b=none\/(∃o xs,H b=some (.dt o (.lst xs)))\/(H b=some (.fH #[])/\b∈tabs.map (·.2)))/\∀q∈tabs,H q.2=some (.fH #[])
theorem CB{K:Vm}{sp:Heap->Sp}(KX:K.In br.heap)(JH:br.heap.Ns Vu mg)(hb:br.heap.Ns Z7 mb)(hbb:∀x:Str,x≠"__name__"->mb x=Yp x)(Tq:br.heap.NoLimit)(hg:br.gens=#[])(hT:PySem.W.TabsAt tabs br.heap)(Tr:tabs≠[]->YK K=true)(hbm:BMain mg br.heap)(ha:br.heap.get? a=some {cls:=.type "list",data:=.seq vs.toArray})(hi:aaH vs ns)(hl:ns.length<=VD)(hr:cO k aar)(F:∀base:Heap,K.In base->base.Ns Vu mg->(∀q∈tabs,Xo base q.1 q.2)->BMain mg base->gJ P w K mg base CX k fa fd [x] (sp base))(Ey:∀(s:Vv) (u:Value),aab s fd ⟨[u],[]⟩ [(x,u)])(vW:∀(base:Heap) (H:Hp),(∀q∈tabs,Xo base q.1 q.2)->BMain mg base->Bm tabs H->lG K H a (ns.map V.int)->sp base [.ref a] H (λv _=>v=.bl true) λ_ _ _=>False)(Ts:∀H e s',CX [] H br (λ_ _ _=>False) e s'->False):
  Zc (model P w) aar (.call (.ref fa) ⟨[.ref a],[]⟩) (λr s'=>r=.ok (.ret (.bool true))/\OldK br.heap s'.heap/\s'.os=br.os/\ZG s'.gens) br:=by
 have rv:=u0 hi;have Tu:=hi.length;have CC:∀b,b∈tabs.map (·.2)->br.heap.get? b=some (X2 #[]):=λb hb=>by obtain⟨q,hq,rfl⟩:=W8.mp hb;exact(hT q hq).2
 have aT:a∉tabs.map (·.2):=λz=>by have:=CC a z;rw[ha] at this;cases this
 have core:∀H:Hp,Bm tabs H->lG K H a (ns.map V.int)->ki P w H br.heap->(∀b,H b≠none->b=a\/b∈tabs.map (·.2))->(H a≠none->K.lookup a=none)->
   Zc (model P w) aar (.call (.ref fa) ⟨[.ref a],[]⟩) (λr s'=>r=.ok (.ret (.bool true))/\OldK br.heap s'.heap/\s'.os=br.os/\ZG s'.gens) br:=by
  intro H hO hS aH hA hK;have qV:∀{b:Addr} {o:Obj},br.heap.get? b=some o->H b=none->(qd br.heap H).get? b=some o:=λe n=>xw e n;have Gh:∀{b:Addr} {o:Obj},br.heap.get? b=some o->o.cls≠.none->(∀its n,o.data≠.seq its n)->H b=none:=λ{b o} e d1 d2=>by
   cases q:H b with
   |none=>rfl|some u=>
    rcases hA b (by rw[q];simp) with e'|e';·subst e';rw[ha] at e;cases e;exact absurd rfl (d2 _ _)
    ·rw[CC b e'] at e;cases e;exact absurd rfl d1
  have noD:∀{b:Addr} {o:Obj} {es:Array DictEntry} {ep:Nat},br.heap.get? b=some o->o.data=.dict es ep->H b=none:=λ{b o es ep} e d=>by
   cases q:H b with
   |none=>rfl|some u=>
    rcases hA b (by rw[q];simp) with e'|e';·subst e';rw[ha] at e;cases e;cases d
    ·rw[CC b e'] at e;cases e;cases d
  have Ra:∀{b:Addr} {m:Str->Option Value},br.heap.Ns b m->(qd br.heap H).Ns b m:=λ{b m} ⟨o,es,ep,e,d,r⟩=>⟨o,es,ep,qV e (noD e d),d,r⟩;have hKb:K.In (qd br.heap H):=λb o e=>qV (KX b o e) (by
   cases q:H b with
   |none=>rfl|some u=>
    rcases hA b (by rw[q];simp) with e'|e';·subst e';rw[hK (by rw[q];simp)] at e;cases e
    ·have e2:=KX b o e;rw[CC b e'] at e2;cases e2;have h2:=W2.mp (Tr λz=>by rw[z] at e';cases e') _ (PySem.W.mem_of_lookupK e);exact absurd (show false=true from h2) V7)
  have hM:Mod K mg (qd br.heap H):=⟨hKb,Ra JH,⟨mb,Ra hb,hbb⟩,let ⟨mc,h1,h2⟩:=Tq;⟨mc,Ra h1,h2⟩⟩;have e0:vT P w K mg (qd br.heap H) aar [] br H:=⟨rfl,hM,λb o e=>A3 e,Zr (uS _ _),trivial,λb hb=>absurd (show b∈([]:List Addr) from hb) (by simp),aH,.of_eq hg⟩;have pI:∀q∈tabs,Xo (qd br.heap H) q.1 q.2:=λq hq=>by obtain⟨o,us,file,tf,flags,tg,inF,text,tt,e1,r1,r2,r⟩:=(hT q hq).1;exact⟨o,us,file,tf,flags,tg,inF,text,tt,qV e1 (Gh e1 (by rw[r1];nofun) (by rw[r2];nofun)),r1,r2,r⟩
  have OX:BMain mg (qd br.heap H):=by obtain⟨bm,ob,b1,b2,b3,b4,b5,b6⟩:=hbm;exact⟨bm,ob,b1,b2,qV b3 (Gh b3 (by rw[b4];nofun) (by rw[b6];nofun)),b4,b5,b6⟩
  refine Zo ((F _ hKb (Ra JH) pI OX).run aar [] br H ⟨[.ref a],[]⟩ [.ref a] [.ref a] _ _ hr e0 (Ey br (.ref a)) (.cons rfl .nil) (vW _ H pI OX hO hS)) λr s' h=>?_;cases r with
  |error e=>exact(Ts H e s' h).elim|ok fl=>
   cases fl with
   |next=>exact Ww h|brk=>exact Ww h|cont=>exact Ww h|ret u=>
    obtain⟨v,H',os,bare,un,OY,r',q⟩:=h;have q':v=.bl true:=q;subst q';obtain rfl:u=YA true:=r';have way:∀b o,br.heap.get? b=some o->s'.heap.get? b=some o\/(isCodeTable br.heap b/\o=X2 #[]/\∃ps,s'.heap.get? b=some (X2 ps)):=λb o e=>by
     rcases hO.1 b with z|⟨ob,xs,z⟩|⟨z,zt⟩;·exact .inl (un.keep b o e z (by intro z;exact absurd (show b∈([]:List Addr) from z) (by simp)) (by simp))
     ·have z2:=un.oo b ob _ z;obtain⟨e1,_⟩:=aH b _ z;obtain⟨e2,_⟩:=OY b _ z2;rw[e] at e1;cases e1;exact .inl e2
     ·obtain⟨more,z2⟩:=un.qb b _ z;have e2:=OY b _ z2;have e3:=CC b zt;rw[e] at e3;obtain⟨q,hq,rfl⟩:=W8.mp zt;exact .inr ⟨((hT q hq).1.tab (hT q hq).2).isCodeTable,VT e3,_,e2⟩
    refine⟨rfl,⟨λb o e=>?_,λb o e=>?_⟩,os,bare⟩
    ·rcases way b o e with z|⟨z1,rfl,ps,z2⟩;·exact .inl z
     ·exact .inr (.inl ⟨z1,rfl,#[],ps,rfl,by rw[Array.empty_append];exact z2⟩)
    ·rcases way b o e with z|⟨_,_,ps,z2⟩;·exact⟨o,z⟩
     ·exact⟨_,z2⟩
 have tb:∀(b:Addr) (u:HO),u=.fH #[]->b∈tabs.map (·.2)->∀H:Hp,bz P w H br.heap b u:=λb u e hb H=>by rw[e];exact CC b hb
 let H0:Hp:=λb=>if b∈tabs.map (·.2) then some (.fH #[]) else none
 cases hk:K.lookup a with
 |some o=>
  have e:=KX a o hk;rw[ha] at e;cases e;refine core H0 ⟨λb=>?_,λq hq=>if_pos (Yu hq)⟩ (.inr ⟨_,vs.toArray,_,hk,rfl,rfl,rfl,by rw[Vp,Tu];exact hl,by simpa using rv⟩) (λb u z=>?_) (λb z=>.inr ?_) λz=>absurd (if_neg aT) z
  ·by_cases hb:b∈tabs.map (·.2);·exact .inr (.inr ⟨if_pos hb,hb⟩)
   ·exact .inl (if_neg hb)
  ·by_cases hb:b∈tabs.map (·.2);·have z':=(if_pos hb).symm.trans z;exact tb b u (VT z').symm hb _
   ·have z':=(if_neg hb).symm.trans z;cases z'
  ·by_cases hb:b∈tabs.map (·.2);·exact hb
   ·exact absurd (if_neg hb) z
 |none=>
  let H1:Hp:=λb=>if b=a then some (.dt {cls:=.type "list",data:=.seq vs.toArray} (.lst (ns.map V.int))) else H0 b
  have Rb:∀b,b≠a->H1 b=H0 b:=λb hb=>if_neg hb;refine core H1 ⟨λb=>?_,λq hq=>?_⟩ (.inl (.inr ⟨{cls:=.type "list",data:=.seq vs.toArray},if_pos rfl⟩)) (λb u z=>?_) (λb z=>?_) λ_=>hk
  ·by_cases hb:b=a;·exact .inr (.inl ⟨_,_,if_pos hb⟩)
   ·rw[Rb b hb];by_cases vd:b∈tabs.map (·.2);·exact .inr (.inr ⟨if_pos vd,vd⟩)
    ·exact .inl (if_neg vd)
  ·rw[Rb q.2 λz=>aT (z▸Yu hq)];exact if_pos (Yu hq)
  ·by_cases hb:b=a;·have z':=(if_pos hb).symm.trans z;cases z';subst hb;exact⟨ha,by rw[Vg];exact hl,vs,_,rv,ha⟩
   ·rw[Rb b hb] at z;by_cases vd:b∈tabs.map (·.2);·have z':=(if_pos vd).symm.trans z;exact tb b u (VT z').symm vd _
    ·have z':=(if_neg vd).symm.trans z;cases z'
  ·by_cases hb:b=a;·exact .inl hb
   ·rw[Rb b hb] at z;by_cases vd:b∈tabs.map (·.2);·exact .inr vd
    ·exact absurd (if_neg vd) z
theorem Ez{l:aag}{K:Params->Vm}{CX:World->Gg}{sp:World->(Str->Option Value)->List (Addr×Addr)->Heap->Sp}xs(hn:l.most=some n)(QT:n<=VD)(Og:d.params.defaults=[])(hr:cO k aar)(hY:∀(w:World) (h:Heap),YP w h->(K w.params).In h)(wj:∀y∈xs,∃dr,(recsOf q).find? (λe=>e.name==y)=some dr)(F:∀(w:World) (mg:Str->Option Value) (fa:Addr) (h:Heap),(K w.params).In h->h.Ns Vu mg->mg d.name=some (.ref fa)->
   (xs≠[]->YK (K w.params)=true)/\∃(tabs:List (Addr×Addr)) (fd:Xg),xs.map (Xy (K w.params))=tabs.map some/\(∀(s:Vv) (u:Value),aab s fd ⟨[u],[]⟩ [(x,u)])/\
    (∀base:Heap,(K w.params).In base->base.Ns Vu mg->(∀q∈tabs,Xo base q.1 q.2)->BMain mg base->gJ l.prog w (K w.params) mg base (CX w) k fa fd [x] (sp w mg tabs base))/\
    ∀(base:Heap) (H:Hp) (a:Addr) (ns:List Int),ns.length<=n->(∀q∈tabs,Xo base q.1 q.2)->BMain mg base->Bm tabs H->lG (K w.params) H a (ns.map V.int)->sp w mg tabs base [.ref a] H (λv _=>v=.bl true) λ_ _ _=>False)(Ts:∀(w:World) (H:Hp) (s:Vv) (e:Value) (s':Vv),CX w [] H s (λ_ _ _=>False) e s'->False):
  PySem.W.WalkO q loose XP YP l.row.toRowW d [] (λf vs=>aaY f vs):=by
 refine Att.xJ hn Og λw g7 br mg mb fa o pm cd doc a vs ns G Y ho hd pI Oh Cr hints hlen hg=>?_;have KX:=hY w _ Y;obtain⟨Tr,tabs,fd,Ld,hb,hF,vW⟩:=F w mg fa _ KX G.T.g Oh;have hT:PySem.W.TabsAt tabs br.heap:=λt ht=>by
  have hm:some t∈xs.map (Xy (K w.params)):=by rw[Ld];exact Yu ht
  obtain⟨y,hy,e⟩:=W8.mp hm;obtain⟨dr,hdr⟩:=wj y hy;exact PySem.W.tab_of G.T KX hdr e
 exact CB KX G.T.g G.T.b G.T.builtins G.T.nolimit hg hT (λz=>Tr λy=>z (by rw[y] at Ld;exact List.map_eq_nil_iff.mp Ld.symm)) G.T.bmain Cr hints (V3 hlen QT) hr hF hb (λbase H h1 h2 h3 h4=>vW base H a ns hlen h1 h2 h3 h4) λH e s'=>Ts w H br e s'
def eZ(a:Ye)(ps:List Str):Bool:=a.posonlyargs.isEmpty&&a.vararg.isNone&&a.kwonlyargs.isEmpty&&a.kw_defaults.isEmpty&&a.kwarg.isNone&&a.defaults.isEmpty&&decide (a.args.map (·.arg)=ps)&&decide ps.Nodup&&a.args.all λx=>x.annotation.isNone
theorem r8:∀{ps:List Str} {us:List Value},us.length=ps.length->∀n∈ps,((ps.zip us).lookup n).isSome=true
 |[],_,_,n,h=>by cases h|p::ps,[],hl,_,_=>by simp at hl|p::ps,u::us,hl,n,h=>by
  rw[X9,VG];cases hb:n==p with
  |true=>rfl|false=>
   rcases W4.mp h with e|e;·rw[e] at hb;simp at hb
   ·exact r8 (by simpa using hl) n e
theorem lV:∀{ps:List Str} {us} {l:List (Str×Value)},us.length=ps.length->ps.Nodup->(∀n∈ps,l.lookup n=(ps.zip us).lookup n)->ps.filterMap (λn=>(l.lookup n).map λv=>(n,v))=ps.zip us
 |[],us,l,_,_,_=>by simp|p::ps,[],l,hl,_,_=>by simp at hl|p::ps,u::us,l,hl,nd,h=>by
  rw[WI] at nd;have h0:=h p Vh;rw[X9,VG,beq_self_eq_true] at h0;have h0':l.lookup p=some u:=h0;rw[XY,h0',X9];show(p,u)::_=_;congr 1;refine lV (by simpa using hl) nd.2 λn hn=>?_;have:=h n (Vb _ hn);rw[X9,VG] at this;have hb:(n==p)=false:=by rw[beq_eq_false_iff_ne];exact λz=>nd.1 (z▸hn)
  rw[hb] at this;exact this
theorem iQ(ha:eZ fd.params ps=true)(hd:fd.defaults=.none)(hl:us.length=ps.length):aaW fd ⟨us,[]⟩=pure (ps.zip us):=by
 obtain⟨fname,fq,Tv,fbody,fsc,fgl,fcl,oJ,fkw,fdoc,fpm,fan,fcd,fct,fbi⟩:=fd;obtain⟨po,as,va,ko,kd,ka,df⟩:=Tv;dsimp only at ha hd;unfold eZ at ha;simp only[U9,Vr,WO,decide_eq_true_eq] at ha;obtain⟨⟨⟨⟨⟨⟨⟨⟨rfl,rfl⟩,rfl⟩,rfl⟩,rfl⟩,rfl⟩,e⟩,nd⟩,_⟩:=ha;have q:seqItems? Xi=pure none:=rfl;have m0:((as.map (·.arg)).take (as.map (·.arg)).length).filter (λn=>(((as.map (·.arg)).zip us).lookup n).isNone)=[]:=by rw[Xv];intro n hn hc;have DB:n∈as.map (·.arg):=List.mem_of_mem_take hn;have:=r8 (us:=us) (by rw[e];exact hl) n DB;cases hx:((as.map (·.arg)).zip us).lookup n with|none=>rw[hx] at this;cases this|some v=>rw[hx] at hc;cases hc
 have g0:¬(us.length > (as.map (·.arg)).length):=by rw[e];omega
 have z0:(as.map (·.arg)).filterMap (λn=>(((as.map (·.arg)).zip us).lookup n).map λv=>(n,v))=(as.map (·.arg)).zip us:=lV (by rw[e];exact hl) (by rw[e];exact nd) λ_ _=>rfl;unfold aaW;simp only[hd,q,W9,Xq,YS,pure_bind,ZU,WK,Nat.sub_zero,List.drop_nil,Nat.zero_sub,m0,List.isEmpty_nil,Bool.not_true,VY,if_false,List.zip_nil_right,Wb,z0];have g1:(decide (us.length > (as.map (·.arg)).length)&&(none:Option Arg).isNone)=false:=by rw[decide_eq_false g0];rfl
 simp[g0,m0,z0,e];intro h;omega
def iR(cells:List (Str×Addr)):List (Str×XO)->List (Str×Addr)->List (Str×Addr)
 |[],acc=>acc|(x,k)::r,acc=>if k=.free then iR cells r ((x,(cells.lookup x).getD 0)::acc) else iR cells r acc
theorem mo:∀{names} {acc},(∀x,(x,Vx)∈names->∃c,env.cells.lookup x=some c)->
  (forIn names acc λ(p:Str×XO) (cs:List (Str×Addr))=>(match p with|(name,kind)=>if(kind==Vx)=true then do {let c<-aaN env name;pure (WW ((name,c)::cs))} else pure (WW cs):Sem (ForInStep (List (Str×Addr)))))=pure (iR env.cells names acc)
 |[],acc,_=>rfl|(x,k)::r,acc,h=>by
  rw[Yd];by_cases hk:k=.free
  ·subst hk;obtain⟨c,hc⟩:=h x Vh;have e:aaN env x=pure c:=by unfold aaN;rw[hc]
   simp only[beq_self_eq_true,if_true,e,pure_bind];rw[mo λy hy=>h y (Vb _ hy)];simp only[iR,if_true,hc,ZT]
  ·have hb:(k==Vx)=false:=by rw[beq_eq_false_iff_ne];exact hk
   simp only[hb,VY,if_false,pure_bind];rw[mo λy hy=>h y (Vb _ hy)];simp only[iR,if_neg hk]
theorem lW(h:∀x,(x,Vx)∈scope.names->∃c,env.cells.lookup x=some c):Zt scope env=pure (iR env.cells scope.names []):=by unfold Zt;have:=mo (acc:=[]) h;simp only[bind_pure];exact this
theorem jL:∀{names} {acc},(∀y,(y,Vx)∈names->∃c,cells.lookup y=some c)->
  ((x,Vx)∈names->(iR cells names acc).lookup x=cells.lookup x)/\((x,Vx)∉names->(iR cells names acc).lookup x=acc.lookup x)
 |[],acc,_=>⟨(λh=>nomatch h),λ_=>rfl⟩|(y,k)::r,acc,h=>by
  have hr:∀z,(z,Vx)∈r->∃c,cells.lookup z=some c:=λz hz=>h z (Vb _ hz);by_cases hk:k=.free
  ·subst hk;simp only[iR,if_true];obtain⟨i1,i2⟩:=jL (x:=x) (acc:=(y,(cells.lookup y).getD 0)::acc) hr;by_cases hx:(x,Vx)∈r;·exact⟨λ_=>i1 hx,λz=>absurd (Vb _ hx) z⟩
   ·by_cases Tw:x=y;·subst Tw;obtain⟨c,hc⟩:=h x Vh;refine⟨λ_=>?_,λz=>absurd Vh z⟩;rw[i2 hx,VG,beq_self_eq_true,hc];rfl
    ·have hb:(x==y)=false:=by rw[beq_eq_false_iff_ne];exact Tw
     refine⟨λz=>?_,λ_=>?_⟩
     ·rcases W4.mp z with z|z;·injection z with z1 _;exact absurd z1 Tw
      ·exact absurd z hx
     ·rw[i2 hx,VG,hb]
  ·simp only[iR,if_neg hk];obtain⟨i1,i2⟩:=jL (x:=x) (acc:=acc) hr;refine⟨λz=>?_,λz=>i2 λy=>z (Vb _ y)⟩;rcases W4.mp z with z|z;·injection z with _ z2;exact absurd z2.symm hk
   ·exact i1 z
theorem kB(h:eZ a ps=true)env:defaultsOf a env=([],[])/\a.defaults=[]/\a.kw_defaults=[]:=by obtain⟨po,as,va,ko,kd,ka,df⟩:=a;unfold eZ at h;simp only[U9,Vr,WO,decide_eq_true_eq] at h;obtain⟨⟨⟨⟨⟨⟨⟨⟨rfl,rfl⟩,rfl⟩,rfl⟩,rfl⟩,rfl⟩,e⟩,nd⟩,_⟩:=h;exact⟨rfl,rfl,rfl⟩
theorem x9:∀{as},(as.all λx=>x.annotation.isNone)=true->ZM as env=[]
 |[],_=>by unfold ZM;rfl|⟨x,an,p⟩::r,h=>by
  rw[XA,U9] at h;have e:an=none:=WO.mp h.1;subst e;have ih:=x9 (env:=env) h.2;first
   |(unfold ZM;exact ih)
   |(simp only[ZM,ih])
theorem CD(h:eZ a ps=true)env:annTrees a none env=[]:=by obtain⟨po,as,va,ko,kd,ka,df⟩:=a;unfold eZ at h;simp only[U9,Vr,WO,decide_eq_true_eq] at h;obtain⟨⟨⟨⟨⟨⟨⟨⟨rfl,rfl⟩,rfl⟩,rfl⟩,rfl⟩,rfl⟩,e⟩,nd⟩,an⟩:=h;unfold annTrees;simp only[Wb,Option.toList_none];rw[x9 an];rfl
section
variable{X:Cx}{pins:List (Addr×Obj)}{σ:St}{H:Hp}{s:Vv}{a:Addr}{kvs:List (Key×V)}{k:Key}{u r:Value}{z:V}{A:WN}{E:Value->Vv->Prop}
theorem EA(I:Inv X pins σ H s)(e:H a=some (.dK kvs))(ry:RelV (kV k) u)(rz:RelV z r)(hl:kvs.length < VD)(h1:∀v w' s',fJ kvs k=some v->Inv X pins σ H s'->RelV v w'->Q w' s')(h2:fJ kvs k=none->∀s',Inv X pins σ (upd H a (.dK (putK kvs k z))) s'->Q r s'):
  wpAny (model X.prog X.w) A (call (.builtin "dict.setdefault") [.ref a,u,r]) Q E s:=by
 obtain⟨zz,hd,vs,rel,dd⟩:=uZ I.aH e;refine Zp PySem.F.slot_dict_setdefault dd.typeIs PySem.F.entry_dict_setdefault (PySem.F.args_dict_setdefault_3 _ _ _) (kt_meets_setdefault (bc X.prog X.w) a (nk ry) hd r)
  ⟨vs,dd,by rw[<-rel.length];exact zz,λw' hw=>?_,λhn h' zN hs=>?_⟩
 ·have rr:=rel.val k;rw[hw] at rr;cases hv:fJ kvs k with|none=>rw[hv] at rr;exact(show False from rr).elim|some v=>rw[hv] at rr;exact h1 v w' _ hv (I.tok _) rr
 ·have rr:=rel.val k;rw[hn] at rr;cases hv:fJ kvs k with
  |some v=>rw[hv] at rr;exact(show False from rr).elim|none=>
   have he:∃q,h'.get? a=some q:=let ⟨q,_,_,hq,_⟩:=zN;⟨q,hq⟩
   have ny:(putK kvs k z).length<=VD:=by have:=iN kvs k z;omega
   exact h2 hv _ (lp I (by rw[e];exact WY) hs he (rS ny hd (rel.put k rz) zN))
end
def Lf(td ty tx:TE):TE:=λσ H Q=>td σ H λx H1=>∃a,x=.ref a/\Q0 H1 a/\ty σ H1 λy H2=>tx σ H2 λz H3=>∃kvs k,H3 a=some (.dK kvs)/\y=kV k/\kvs.length < VD/\
 (∀v,fJ kvs k=some v->Q v H3)/\(fJ kvs k=none->Q z (upd H3 a (.dK (putK kvs k z))))
section
variable{X:Cx}{o e f:Expr}{apos fS:Pos}{td ty tx:TE}
theorem EB(ho:PE X o td)(he:PE X e ty)(hf:PE X f tx)(m:M2 X o "setdefault" apos e f fS):PE X (.Call (.Attribute o "setdefault" apos) [e,f] [] fS) (Lf td ty tx):=by intro pins s σ H Q I h;refine wpAny_Call_method m.base m.Sw m.line YF PySem.F.slot_dict_setdefault PySem.F.type_dict_setdefault (bI (ho pins s σ H _ I h) λu s1 ⟨x,H1,I1,rx,a,ex,d,q1⟩=>?_);subst ex;obtain rfl:u=VJ a:=rx;obtain⟨t1,t2,_⟩:=Ak I1 d;refine⟨t1,t2,?_⟩;rw[m.trees];refine Xw rfl (Zi (Yb (bI (he pins s1 σ H1 _ I1 q1) λiv s2 ⟨y,H2,I2,ry,q2⟩=>Yb (bI (hf pins s2 σ H2 _ I2 q2) λfv s3 ⟨z,H3,I3,rz,kvs,k,ea,ey,hl,q3,q4⟩=>YV ?_))));subst ey;exact EA I3 ea ry rz hl (λv w' s4 hv I4 mj=>⟨v,H3,I4,mj,q3 v hv⟩) λhn s4 I4=>⟨z,_,I4,rz,q4 hn⟩
end
def OZ(K:Vm)(a:Addr):It:=
 ⟨λi H=>∃xs x,lG K H a xs/\xs[i]?=some x,λi H x H'=>∃T v,H T=none/\H'=upd H T (.tup [.int i,v])/\x=.ref T/\∀xs,lG K H a xs->xs[i]?=some v,λi H=>∃xs,lG K H a xs/\xs.length<=i⟩
theorem AA{P:Wf}{w:World}{K:Vm}{elts:List Expr}{kk:Nat}{pos:Pos}(a it e:Addr)(Nf:e≠it):Turn P w K (.Tuple elts kk pos) (OZ K a) [e,it] e (λi h=>(∃old,IsEnum h e it i old)/\h.IsListIter it a i) where
 mem:=by simp
 obj:=λi h st b hb=>by
  obtain⟨⟨old,he⟩,o,eo,c,d⟩:=st;have iP:b=e\/b=it:=by simpa using hb
  rcases iP with z|z;·rw[z];exact⟨_,he,λv z=>nomatch z⟩
  ·rw[z];exact⟨o,eo,λv z=>by rw[d] at z;cases z⟩
 keep:=λi h h' st k=>⟨let ⟨old,he⟩:=st.1;⟨old,k e (by simp) _ he⟩,st.2.at λo x=>k it (by simp) o x⟩
 item:=by
  intro X hP hw hK hc i pins s σ H E I hf st hg;subst hP hw hK;obtain⟨xs,x,hq,hx⟩:=hg;obtain⟨its,rv,p,hz⟩:=I.list hq;have p':s.heap.IsList a its.toArray:=p.isList;obtain⟨u,hu,ru⟩:=rv.get hx;obtain⟨f0,f1,f2,f3,f4,f5⟩:=hf it (by simp);obtain⟨g0,g1,g2,g3,g4,g5⟩:=hf e (by simp);obtain⟨⟨old,he⟩,hit⟩:=st;refine wpAny_pyNext_enum_item he hit p' (x:=u) (by simpa using hu) Nf λh' ho rV hT hsz hk=>?_;refine⟨_,rfl,?_⟩;refine wpAny_letOwnedTupleGo_enum ho λh2 JF Gj=>?_;have OP:s.heap.objs.size≠e:=Wu (Vs he);have Ng:s.heap.objs.size≠it:=by obtain⟨o,eo,_⟩:=hit;exact Wu (Vs eo)
  have xU:∀b o,b≠e->b≠it->s.heap.get? b=some o->h2.get? b=some o:=λb o h1 h3 q=>Gj.extBut b o h1 (hk b o h1 h3 q);have hn:H s.heap.objs.size=none:=I.aH.fresh (Vj _);have DA:∀b v,H b=some v->b≠e/\b≠it:=λb v q=>⟨(λz=>by rw[z,g0] at q;cases q),(λz=>by rw[z,f0] at q;cases q)⟩;have OQ:h2.get? s.heap.objs.size=some {cls:=.type "tuple",data:=.seq #[.int i s.toks,u]}:=Gj.extBut _ _ OP hT;have I1:Inv X pins σ (upd H s.heap.objs.size (.tup [.int i,x])) {s with heap:=h2,toks:=s.toks+1}:=by
   refine I.step (g':=s.gens) (d':=s.drawn) (ch:=[e,it]) (λb hb=>?_) (λb o _ _ hc q _=>xU b o (λz=>hc (by simp[z])) (λz=>hc (by simp[z])) q) (λb o _ _ hc q _=>⟨o.slots,xU b o (λz=>hc (by simp[z])) (λz=>hc (by simp[z])) q⟩)
    (λb o _ q n=>by rw[aw (VP (Vs q))];exact n) (λb o hc q=>⟨o,xU b o (λz=>hc (by simp[z])) (λz=>hc (by simp[z])) q⟩) (λb xs q=>by rw[aw (aK q hn)];exact q) (λb o v q=>by rw[aw (aK q hn)];exact q)
    (λb ps q=>⟨#[],by rw[aw (aK q hn),q];simp⟩) (λm hm=>?_) (λb v q=>?_) I.bare
   ·have iP:b=e\/b=it:=by simpa using hb
    rcases iP with z|z;·rw[z];exact⟨g3,g1,g4,g5⟩
    ·rw[z];exact⟨f3,f1,f4,f5⟩
   ·obtain⟨o,es,ep,oq,r⟩:=hm;exact⟨o,es,ep,xU _ o (Wg g1) (Wg f1) oq,r⟩
   ·by_cases hb:b=s.heap.objs.size;·rw[hb,aC] at q;cases q;rw[hb];exact⟨by rw[WR];simp,[.int i s.toks,u],.cons ⟨_,rfl⟩ (.cons ru .nil),⟨_,OQ,rfl,_,rfl⟩⟩
    ·rw[aw hb] at q;refine(I.aH b v q).mY (λc y hc qq=>?_) (λc qq=>by rw[aw (aK qq hn)];exact qq) λc xs qq=>by rw[aw (aK qq hn)];exact qq
     have:c≠e/\c≠it:=by
      rcases hc with z|z;·rw[z];exact DA b v q
      ·exact DA c _ z
     exact xU c y this.1 this.2 qq
  refine⟨.ref s.heap.objs.size,_,I1,rfl,⟨s.heap.objs.size,x,hn,rfl,rfl,λys hy=>by rw[I.xA hy hq];exact hx⟩,⟨⟨u,by simpa using JF⟩,rV.at λo q=>Gj.extBut _ _ (Wg Nf) q⟩,λb hb=>?_⟩;have iP:b=e\/b=it:=by simpa using hb
  rcases iP with z|z;·rw[z,aw (Wg OP)];exact g0
  ·rw[z,aw (Wg Ng)];exact f0
 done:=by
  intro X hP hw hK hc i pins s σ H E I hf st hg;subst hP hw hK;obtain⟨xs,hq,hx⟩:=hg;obtain⟨its,rv,p,hz⟩:=I.list hq;obtain⟨f0,f1,f2,f3,f4,f5⟩:=hf it (by simp);obtain⟨⟨old,he⟩,hit⟩:=st;have hl:=rv.length;have hT:s.TypeIs (.ref e) "enumerate":=⟨_,he,rfl⟩;unfold ZL;refine U7 (ZJ (Wh (name:=We "__next__") hT Xu
   (WL Xu hT PySem.F.entry_enumerate_next ?_ (PySem.F.args_enumerate_next_1 _))))
  show wpAny _ _ (field (.ref e) 2 >>=_) _ _ _;refine U7 (Wz he rfl (x:=.ref it) rfl ?_);refine U7 (wpAny_nextOf_list_end (I.ok.hd hc) hit p.isList (by simp;omega) λh' y Td xi=>?_);obtain⟨o,ho,tY⟩:=xi;refine U7 (ZQ (T:="StopIteration") (b:=true) ⟨o,ho,tY⟩ aak ?_);exact Vn ⟨rfl,I.turned (t':=s.toks) (λb o hb q=>Td b o hb q) f0 f1 f3 f4 f5⟩
 self:=λ_ _ _ _ _ st h=>let ⟨old,he⟩:=st.1;YJ he h
section
variable{X:Cx}
def Lg(K:Vm)(ta:TA):TI:=λσ H R=>ta σ H λvs H1=>∃a,vs=[.ref a]/\(∃xs,lG K H1 a xs)/\R (OZ K a) H1
theorem EC(hg:Gl X "enumerate")(hm:X.mg "enumerate"=none)(ha:PA X [x] ta)(hs:VM [x] X.env=[(false,eval x X.env)]):
  PI X (.Tuple elts kk p3) (.Call (.Name "enumerate" p) [x] [] pos) (Lg X.K ta):=by
 intro pins s σ H R I h;refine Call_ (jD I hg hm boot_enumerate (Wl (bI (ha pos pins s σ H _ I h) λus s1 ⟨vs,H1,I1,r1,q1⟩=>?_) hs rfl) (by decide+kernel) (by decide+kernel));obtain⟨a,rfl,⟨xs,hq⟩,q⟩:=q1;obtain⟨u,rfl,ru⟩:=vals1 r1;cases ru;obtain⟨its,rv,pl,hz⟩:=I1.list hq;refine call_enumerate_list pl.isList λh' he hit hsz hk=>?_;refine YJ he ?_;have I2:Inv X pins σ H1 {s1 with heap:=h'}:=I1.kept (t':=s1.toks) hk;refine⟨s1.heap.objs.size+1,[s1.heap.objs.size+1,s1.heap.objs.size],_,_,H1,rfl,I2,AA a _ _ (Nat.succ_ne_self _),⟨⟨_,he⟩,hit⟩,λb hb=>?_,q⟩;have iP:b=s1.heap.objs.size+1\/b=s1.heap.objs.size:=by simpa using hb
 rcases iP with z|z;·rw[z];exact I1.vR (Xb _) (I1.aH.fresh (Xb _))
 ·rw[z];exact I1.vR (Vj _) (I1.aH.fresh (Vj _))
end
theorem aaA.get'{α β:Type}{F:α->β->Prop}{Dx:List α}{Dy:List β}(r:aaA F Dx Dy):∀{i:Nat} {x},Dx[i]?=some x->∃u,Dy[i]?=some u/\F x u:=by induction r with|nil=>intro i x e;simp at e|@cons a b as bs h t ih=>intro i x e;cases i with|zero=>simp at e;subst e;exact⟨b,rfl,h⟩|succ i=>simpa using ih (by simpa using e)
def Iti(d:Addr)(o:Obj)(kvs:List (Key×V)):It:=
 ⟨λi H=>H d=some (.dt o (.dK kvs))/\i < kvs.length,λi H x H'=>∃T k v,kvs[i]?=some (k,v)/\H T=none/\H'=upd H T (.tup [kV k,v])/\x=.ref T,λi H=>H d=some (.dt o (.dK kvs))/\kvs.length<=i⟩
theorem ED(ok:ki P w H h)(e:H d=some (.dt o (.dK kvs)))(ho:o.data=.dict es ep):
  ∃vs,KV kvs vs/\Heap.DictAt (bc P w) h d vs ep:=by
 obtain⟨h1,z,hs,vs,r,o',QN,QO,h2,h3,h4,h5⟩:=(show bz P w H h d (.dt o (.dK kvs)) from ok d _ e);rw[h1] at h2;cases h2;rw[ho] at h4;cases h4;exact⟨vs,r,o,es,h1,h3,ho,h5⟩
theorem EE(h:(bc P w).is k u=true):RelV (kV k) u:=by
 rcases bO h with ⟨i,t,rfl,rfl⟩|⟨x,t,rfl,rfl⟩
 ·exact⟨t,rfl⟩
 ·exact⟨t,rfl⟩
theorem lJ:entryFor table "dict_itemiterator.__iter__"=some Zd.«dict_keyiterator.__iter__»:=
 entryFor_alias (id':="dict_keyiterator.__iter__") (by kernel_rfl) rfl (by decide+kernel) (by kernel_rfl)
theorem um(hit:IsItemIter s.heap it d i n ep ok ov)(h:Q (.ref it) s):wpAny (model prog w) A (pyIter (.ref it)) Q E s:=by have ht:s.TypeIs (.ref it) "dict_itemiterator":=⟨_,hit,rfl⟩;refine wpAny_pyIter_slot ht F.slot_dict_itemiterator_iter (WL F.slot_dict_itemiterator_iter ht lJ ?_ (F.args_dict_itemiterator_iter_1 _));show wpAny _ _ (ret (.ref it)) _ _ s;exact Vn ⟨_,rfl,"dict_itemiterator",_,ht,F.slot_dict_itemiterator_next.lookup,h⟩
theorem AB{P:Wf}{w:World}{K:Vm}{elts:List Expr}{kk:Nat}{pos:Pos}(d it:Addr)(o:Obj)(kvs:List (Key×V))(es:Array DictEntry)(ep:Nat)(ho:o.data=.dict es ep):
  Turn P w K (.Tuple elts kk pos) (Iti d o kvs) [it] it (λi h=>∃ok ov,IsItemIter h it d i kvs.length ep ok ov) where
 mem:=by simp
 obj:=λi h st b hb=>by
  obtain⟨ok,ov,he⟩:=st;have iP:b=it:=by simpa using hb
  rw[iP];exact⟨_,he,λv z=>nomatch z⟩
 keep:=λi h h' st k=>let ⟨ok,ov,he⟩:=st;⟨ok,ov,k it (by simp) _ he⟩
 item:=by
  intro X hP hw hK hc i pins s σ H E I hf st hg;subst hP hw hK;obtain⟨hd,hi⟩:=hg;obtain⟨ok,ov,hit⟩:=st;obtain⟨vs,rel,da⟩:=ED I.aH hd ho;have hlen:kvs.length=vs.length:=rel.length;obtain⟨f0,f1,f2,f3,f4,f5⟩:=hf it (by simp);obtain⟨⟨k,v⟩,pU⟩:∃p,kvs[i]?=some p:=⟨kvs[i],Vc hi⟩;obtain⟨⟨k',u⟩,hu,ek,ru⟩:=aaA.get' rel pU;cases (show k=k' from ek);rw[hlen] at hit;refine wpAny_pyNext_items_item hit da hu λkey h' hk out hT hsz Cz=>?_;refine⟨_,rfl,?_⟩;refine wpAny_letOwnedTupleGo_items out λh2 JF Gj=>?_;have Ng:s.heap.objs.size≠it:=Wu (Vs hit);have xU:∀b o,b≠it->s.heap.get? b=some o->h2.get? b=some o:=λb o h1 q=>Gj.extBut b o h1 (Cz b o h1 q);have hn:H s.heap.objs.size=none:=I.aH.fresh (Vj _);have DA:∀b v,H b=some v->b≠it:=λb v q z=>by rw[z,f0] at q;cases q
  have OQ:h2.get? s.heap.objs.size=some {cls:=.type "tuple",data:=.seq #[key,u]}:=Gj.extBut _ _ Ng hT;have I1:Inv X pins σ (upd H s.heap.objs.size (.tup [kV k,v])) {s with heap:=h2}:=by
   refine I.step (g':=s.gens) (d':=s.drawn) (t':=s.toks) (ch:=[it]) (λb hb=>?_) (λb o _ _ hc q _=>xU b o (λz=>hc (by simp[z])) q) (λb o _ _ hc q _=>⟨o.slots,xU b o (λz=>hc (by simp[z])) q⟩)
    (λb o _ q n=>by rw[aw (VP (Vs q))];exact n) (λb o hc q=>⟨o,xU b o (λz=>hc (by simp[z])) q⟩) (λb xs q=>by rw[aw (aK q hn)];exact q) (λb o v q=>by rw[aw (aK q hn)];exact q)
    (λb ps q=>⟨#[],by rw[aw (aK q hn),q];simp⟩) (λm hm=>?_) (λb v' q=>?_) I.bare
   ·have iP:b=it:=by simpa using hb
    rw[iP];exact⟨f3,f1,f4,f5⟩
   ·obtain⟨o,es,ep,oq,r⟩:=hm;exact⟨o,es,ep,xU _ o (Wg f1) oq,r⟩
   ·by_cases hb:b=s.heap.objs.size;·rw[hb,aC] at q;cases q;rw[hb];exact⟨by rw[WR];simp,[key,u],.cons (EE hk) (.cons ru .nil),⟨_,OQ,rfl,_,rfl⟩⟩
    ·rw[aw hb] at q;refine(I.aH b v' q).mY (λc y hc qq=>?_) (λc qq=>by rw[aw (aK qq hn)];exact qq) λc xs qq=>by rw[aw (aK qq hn)];exact qq
     have:c≠it:=by
      rcases hc with z|z;·rw[z];exact DA b v' q
      ·exact DA c _ z
     exact xU c y this qq
  refine⟨.ref s.heap.objs.size,_,I1,rfl,⟨s.heap.objs.size,k,v,pU,hn,rfl,rfl⟩,⟨key,u,by rw[hlen];exact JF⟩,λb hb=>?_⟩;have iP:b=it:=by simpa using hb
  rw[iP,aw (Wg Ng)];exact f0
 done:=by intro X hP hw hK hc i pins s σ H E I hf st hg;subst hP hw hK;obtain⟨hd,hi⟩:=hg;obtain⟨ok,ov,hit⟩:=st;obtain⟨vs,rel,da⟩:=ED I.aH hd ho;have hlen:kvs.length=vs.length:=rel.length;obtain⟨f0,f1,f2,f3,f4,f5⟩:=hf it (by simp);rw[hlen] at hit;exact wpAny_pyNext_items_end (I.ok.hd hc) hit da (VH (by omega)) λh' eb=>⟨rfl,I.turned (t':=s.toks) (λb o hb q=>eb b o hb q) f0 f1 f3 f4 f5⟩
 self:=λA i s Q E st h=>by obtain⟨ok,ov,he⟩:=st;exact um he h
section
variable{X:Cx}{pins:List (Addr×Obj)}{σ:St}{H:Hp}{s:Vv}
theorem Inv.re(I:Inv X pins σ H s)(e:H d=some u)(h1:∀xs,u≠.tup xs)(h2:∀ps,u≠.fH ps)(h3:∀b,u≠.own b)(hf:∀o v,X.xx d=some (.dt o v)->u'=.dt o v)(new:bz X.prog X.w H s.heap d u'):Inv X pins σ (upd H d u') s:=by
 have st:∀{b:Addr} {v:HO},bz X.prog X.w H s.heap b v->bz X.prog X.w (upd H d u') s.heap b v:=λx=>x.mY (λ_ _ _ q=>q) (λc q=>by
  rw[aw (λz=>by rw[z,e] at q;exact h3 _ (VT q))];exact q) λc xs q=>by
  rw[aw (λz=>by rw[z,e] at q;exact h1 _ (VT q))];exact q
 have nn:∀{b:Addr},H b=none->upd H d u' b=none:=λ{b} q=>by rw[aw (λz=>by rw[z,e] at q;cases q)];exact q
 refine⟨I.ok,I.os,I.bare,⟨I.base.keep,I.base.slot,λb o q n hx=>nn (I.base.free b o q n hx),I.base.there,λb xs q=>?_,λb o v q=>?_,λb ps q=>?_⟩,I.loc,I.cell,nn I.free,λx c q=>nn (I.jX x c q),λp hp=>?_,λb v q=>?_,I.len⟩;·have:=I.base.rE b xs q;rw[aw (λz=>by rw[z,e] at this;exact h1 _ (VT this))];exact this
 ·by_cases z:b=d;·rw[z] at q ⊢;rw[aC,hf o v q]
  ·rw[aw z];exact I.base.oo b o v q
 ·obtain⟨more,this⟩:=I.base.qb b ps q;exact⟨more,by rw[aw (λz=>by rw[z,e] at this;exact h2 _ (VT this))];exact this⟩
 ·obtain⟨q1,q2,q3⟩:=I.pin p hp;exact⟨q1,nn q2,q3⟩
 ·by_cases z:b=d;·rw[z,aC] at q;cases q;rw[z];exact st new
  ·rw[aw z] at q;exact st (I.aH b v q)
def NF(X:Cx)(d:Addr):Prop:=∀o v,X.xx d≠some (.dt o v)
theorem Inv.hold(I:Inv X pins σ H s)(e:H d=some (.dK kvs)):∃o es ep,s.heap.get? d=some o/\o.data=.dict es ep/\NF X d/\Inv X pins σ (upd H d (.dt o (.dK kvs))) s:=by
 have ok:bz X.prog X.w H s.heap d (.dK kvs):=I.aH d _ e;obtain⟨z,hs,vs,r,o,es,ep,h2,h3,h4,h5⟩:=id ok;have nf:NF X d:=λo' v q=>by have:=I.base.oo d o' v q;rw[e] at this;cases this
 exact⟨o,es,ep,h2,h4,nf,I.re e (λ_ z=>nomatch z) (λ_ z=>nomatch z) (λ_ z=>nomatch z) (λo' v q=>absurd q (nf o' v)) ⟨h2,ok⟩⟩
theorem Inv.CF(I:Inv X pins σ H s)(e:H d=some (.dt o u))(nf:NF X d):Inv X pins σ (upd H d u) s:=by obtain⟨h1,h2⟩:=(show bz X.prog X.w H s.heap d (.dt o u) from I.aH d _ e);exact I.re e (λ_ z=>nomatch z) (λ_ z=>nomatch z) (λ_ z=>nomatch z) (λo' v q=>absurd q (nf o' v)) h2
def ve(X:Cx)(D:Ends):Ends where
 nx:=λσ H=>∃d o u,H d=some (.dt o u)/\NF X d/\D.nx σ (upd H d u)
 rt:=λv H=>∃d o u,H d=some (.dt o u)/\NF X d/\D.rt v (upd H d u)
 bk:=λσ H=>∃d o u,H d=some (.dt o u)/\NF X d/\D.bk σ (upd H d u)
 ct:=λσ H=>∃d o u,H d=some (.dt o u)/\NF X d/\D.ct σ (upd H d u)
theorem Hm{st:Stmt}(h:PS X st t):PS X st (λD σ H=>t (ve X D) σ H):=by intro pins s σ H D I q;refine bI (h pins s σ H _ I q) λf s1 q1=>?_;cases f with|next=>obtain⟨cH,H',I',d,o,u,e,nf,q'⟩:=q1;exact⟨cH,_,I'.CF e nf,q'⟩|brk=>obtain⟨cH,H',I',d,o,u,e,nf,q'⟩:=q1;exact⟨cH,_,I'.CF e nf,q'⟩|cont=>obtain⟨cH,H',I',d,o,u,e,nf,q'⟩:=q1;exact⟨cH,_,I'.CF e nf,q'⟩|ret w'=>obtain⟨v,cH,H',I',r,d,o,u,e,nf,q'⟩:=q1;exact⟨v,cH,_,I'.CF e nf,r,q'⟩
end
section
variable{X:Cx}
def Lh(X:Cx)(td:TE):TI:=λσ H R=>td σ H λx H1=>∃d kvs,x=.ref d/\H1 d=some (.dK kvs)/\∀o,NF X d->R (Iti d o kvs) (upd H1 d (.dt o (.dK kvs)))
theorem EF(ho:PE X x td)(xD:XU x "items" X.env (eval x X.env)=eval x X.env)(lS:(apos.endLine==fS.line)=true):
  PI X (.Tuple elts kk p3) (.Call (.Attribute x "items" apos) [] [] fS) (Lh X td):=by
 intro pins s σ H R I h;refine wpAny_Call_method0_late xD lS (bI (ho pins s σ H _ I h) λv s1 ⟨y,H1,I1,r1,d,kvs,ey,ed,q1⟩=>?_);subst ey;cases r1;obtain⟨t1,t2,Tx⟩:=Ak I1 (.inl ⟨kvs,.inl ed⟩);refine⟨"dict","dict.items",YF,PySem.F.slot_dict_items,PySem.F.type_dict_items,t1,t2,Xw rfl (PySem.evalArgs_none ?_)⟩;obtain⟨o,es,ep,oq,A4,nf,I2⟩:=I1.hold ed;obtain⟨vs,rel,da⟩:=ED I2.aH aC A4;have dd:Heap.DictOf (bc X.prog X.w) s1.heap d vs:=da.dictOf;refine Zp PySem.F.slot_dict_items dd.typeIs PySem.F.entry_dict_items (PySem.F.args_dict_items_1 _) (meets_dict_items (bc X.prog X.w) d Tx) ⟨⟨vs,dd⟩,?_⟩;have hv:Heap.IsItemsView (s1.heap.push {cls:=.type "dict_items",data:=.fields #[.ref d]}) s1.heap.objs.size d:=⟨_,Vq _ rfl,rfl,rfl⟩;refine wpAny_pyIter_items (knd:=bc X.prog X.w) (ep:=ep) (kvs:=vs) hv (da.at' λo' q=>Va _ q) ?_;have hlen:kvs.length=vs.length:=rel.length;have I3:Inv X pins σ (upd H1 d (.dt o (.dK kvs))) {s1 with heap:=s1.heap.push {cls:=.type "dict_items",data:=.fields #[.ref d]}}:=I2.kept (t':=s1.toks) λb o' q=>Va _ q;refine⟨_,[_],_,_,_,rfl,I3.kept (t':=s1.toks) λb o' q=>Va _ q,AB d _ o kvs es ep A4,⟨.none,.none,?_⟩,λb hb=>?_,q1 o nf⟩;·rw[hlen];exact Vq _ rfl
 ·have iP:b=(s1.heap.push {cls:=.type "dict_items",data:=.fields #[.ref d]}).objs.size:=by simpa using hb
  rw[iP];exact I3.vR (Vj _) (I3.aH.fresh (Vj _))
theorem CG(rel:KV kvs vs):∀{us},us.length=vs.length->(∀(j:Nat) (v),us[j]?=some v->∃k x,vs[j]?=some (k,x)/\(bc P w).is k v=true)->aP (kvs.map λkv=>kV kv.1) us:=by
 unfold KV at rel;induction rel with
 |nil=>intro us hl h;cases us with|nil=>exact .nil|cons _ _=>simp at hl
 |@cons p q ps qs e t ih=>
  intro us hl h;cases us with
  |nil=>simp at hl|cons v us=>
   refine .cons ?_ (ih (by simpa using hl) λj v' hv=>h (j+1) v' (by simpa using hv));obtain⟨k,x,hk,hi⟩:=h 0 v rfl;simp at hk;have e1:p.1=k:=by rw[e.1,hk]
   show RelV (kV p.1) v;rw[e1];exact EE hi
theorem uo(hc:X.calm=true):ie X (.type "list") (λxs H Q=>∃p kvs,xs=[.ref p]/\H p=some (.dK kvs)/\∀l,H l=none->Q (.ref l) (upd H l (.lst (kvs.map λkv=>kV kv.1)))):=by intro pins s σ H xs us Q I r h;obtain⟨p,kvs,rfl,hq,q⟩:=h;obtain⟨u,rfl,rx⟩:=vals1 r;cases rx;obtain⟨z,Tx,vs,rel,dd⟩:=uZ I.aH hq;have hlen:kvs.length=vs.length:=rel.length;obtain⟨ep,da⟩:=dd.dictAt;refine PySem.W.kdl_call (PySem.W.kdl_dict (knd:=bc X.prog X.w) (kvs:=vs) (ep:=ep) Tx) (I.ok.hd hc) da (by omega) λh' tk acc c' kp e io=>?_;obtain⟨hsz,hit⟩:=io;have rv:aP (kvs.map λkv=>kV kv.1) acc.toList:=CG rel (by simpa using hsz) λj v hv=>hit j v (by simpa using hv);refine⟨.ref s.heap.objs.size,_,I.laid (t':=tk) kp (Vj _) (show bz X.prog X.w _ h' _ (.lst (kvs.map λkv=>kV kv.1)) from⟨by simpa using z,acc.toList,c',rv,by simpa using e⟩),rfl,q _ (I.aH.fresh (Vj _))⟩
end
end L2
namespace Y
open PySem
inductive D where
 |bq|bl (b:Bool)|int (i:Int)|str (x:Str)|tup (xs:List D)|pl (xs:List D)
inductive P where
 |d (x:D)|obj (n:Nat)|fV (ns:List Int)
 |fn (k:Nat) (bj:List P)|lf (k:Nat)
inductive O where
 |lst (xs:List P)|dK (kvs:List (Sum Int Str×P))|dT (kvs:List (List (Sum Int Str)×P))|ins (c:Str) (fs:List (Str×P))
 |vf
abbrev aI:=List O
abbrev bU:=List (Option P)
inductive R (α:Type) where
 |ok (a:α) (st:aI)|ex (x:Str) (st:aI)|no
def R.bind{α β:Type}(r:R α)(k:α->aI->R β):R β:=match r with|.ok a st=>k a st|.ex x st=>.ex x st|.no=>.no
def R.of{α:Type}(o:Option α)(st:aI):R α:=match o with|some a=>.ok a st|none=>.no
@[simp] theorem ae{α β:Type}(a:α)st(k:α->aI->R β):(R.ok a st).bind k=k a st:=rfl
@[simp] theorem Rc{α β:Type}x st(k:α->aI->R β):(R.ex x st:R α).bind k=.ex x st:=rfl
@[simp] theorem nz{α β:Type}(k:α->aI->R β):(R.no:R α).bind k=.no:=rfl
@[simp] theorem aq{α:Type}(a:α)st:R.of (some a) st=.ok a st:=rfl
@[simp] theorem of_none{α:Type}st:R.of (none:Option α) st=.no:=rfl
inductive O0 where|add|sub|mul|mod
inductive JI where|lt|le|gt|ge|eq|ne|isin|nA
inductive Bf where|len|any|tuple
mutual
inductive E where
 |var (i:Nat)
 |cst (x:D)
 |op (o:O0) (a b:E)
 |not (a:E)
 |cmp (o:JI) (a b:E)
 |chain (o o':JI) (a b c:E)
 |and (es:List E)
 |or (es:List E)
 |tup (es:List E)
 |lst (m:Bool) (l:L)
 |call (f:Nat) (es:List E)
 |Gn (a:E) (T:String)
 |bf (f:Bf) (es:List E)
 |ix (a b:E)
 |slice (a:E) (lo hi:Option E)
 |oK (t:Bool)
 |index (a b:E)
 |pV (i:Nat) (es:List E)
 |iT (f:Nat) (es:List E) (ls:List (Nat×List Nat))
 |jc (i:Nat) (es:List E) (ls:List (Nat×List Nat))
 |lam (k:Nat)
 |attr (c f:Str) (i:Nat)
 |qm (k:Nat) (c m:Str) (i:Nat) (es:List E)
 |make (k:Nat) (c:Str) (es:List E)
 |CH (a b:E)
 |CJ (a:E)
 |r9 (a b c:E)
 |CL (k:E) (x:D)
inductive L where
 |eY (es:List E)
 |comp (it:W) (ts:Nat) (js:List Nat) (c:Option E) (e:E)
 |gG (es:List E)
 |zip (a b:E)
 |cn (e:E) (js:List Nat) (c:Option E) (ee:E)
 |keys (e:E)
inductive W where
 |ex (e:E)
 |gG (es:List E)
 |enum (e:E)
end
inductive Tg where
 |nm (i:Nat)
 |tup (is:List Nat)
 |two (i j:Nat)
inductive S where
 |ret (e:E)
 |EG
 |set (i:Nat) (e:E)
 |ifs (c:E) (a b:List S)
 |fe (t:Tg) (w:W) (b:List S)
 |mq (c:E) (b:List S)
 |jm (t:Tg) (e:E) (b:List S)
 |CM (i j:Nat) (e:E) (b:List S)
 |jM (i j:Nat) (e:E) (b:List S)
 |expr (e:E)
 |oJ (i k:Nat)
 |mr (c f:Str) (i:Nat) (e:E)
 |app (a e:E)
 |put (a i e:E)
inductive Fl where
 |nx (r:bU)|bk (r:bU)|ct (r:bU)|rt (v:P)
def av:Nat:=16777216
def mv:Int:=18446744073709551616
def jn:Int:=4611686018427387904
def lh(o:O0)(i j:Int):Option Int:=match o with|.add=>some (i+j)|.sub=>some (i - j)|.mul=>if(-mv < i/\i < mv)\/(-mv < j/\j < mv) then some (i*j) else none|.mod=>if 0 < j then some (i % j) else none
def EH:P->Option D
 |.d x=>some x|_=>none
def bb:List P->Option (List D)
 |[]=>some []|p::r=>(EH p).bind λx=>(bb r).map λxs=>x::xs
def aR(st:aI):P->Option (List P)
 |.d (.pl xs)=>some (xs.map .d)|.obj n=>match st[n]? with|some (.lst xs)=>some xs|_=>none
 |_=>none
def ya(o:O0)(a b:P)(st:aI):Option P:=match o,a,b with|o,.d (.int i),.d (.int j)=>(lh o i j).map λk=>.d (.int k)|.add,.d (.str x),.d (.str y)=>if x.length+y.length<=av then some (.d (.str (x++y))) else none|.add,.d (.tup xs),.d (.tup ys)=>if xs.length+ys.length<=av then some (.d (.tup (xs++ys))) else none|.mul,.d (.tup xs),.d (.int k)=>if k=1 then some (.d (.tup xs)) else if k=2/\0 < xs.length/\xs.length<=100000 then some (.d (.tup (xs++xs))) else if k=3/\0 < xs.length/\xs.length<=100000 then some (.d (.tup (xs++xs++xs))) else none|.add,a,b=>(aR st a).bind λxs=>(aR st b).bind λys=>(bb (xs++ys)).bind λzs=>if zs.length<=av then some (.d (.pl zs)) else none|_,_,_=>none
mutual
def lK:D->D->Bool
 |.bq,.bq=>true|.bl a,.bl b=>a==b|.bl a,.int j=>(if a then 1 else 0)==j|.int i,.bl b=>i==(if b then 1 else 0)|.int i,.int j=>i==j|.str x,.str y=>x==y|.tup xs,.tup ys=>fW xs ys|.pl xs,.pl ys=>fW xs ys|_,_=>false
def fW:List D->List D->Bool
 |[],[]=>true|x::xs,y::ys=>lK x y&&fW xs ys|_,_=>false
end
mutual
def g9:D->Nat
 |.tup xs=>gp xs+1|.pl xs=>gp xs+1|_=>0
def gp:List D->Nat
 |[]=>0|x::xs=>max (g9 x) (gp xs)
end
def qW(x y:D):Option Bool:=if min (g9 x) (g9 y)<=100 then some (lK x y) else none
def pW:D->Bool
 |.tup _=>false|.pl _=>false|_=>true
def O1(o:JI)(i j:Int):Option Bool:=match o with|.lt=>some (decide (i < j))|.le=>some (decide (i<=j))|.gt=>some (decide (j < i))|.ge=>some (decide (j<=i))|_=>none
def bD(st:aI):P->Option (List P)
 |.d (.tup xs)=>some (xs.map .d)|.fV ns=>some (ns.map λi=>.d (.int i))|p=>aR st p
def jN(st:aI):P->Option D
 |.d x=>some x|.obj n=>match st[n]? with|some (.lst xs)=>(bb xs).map .pl|_=>none
 |_=>none
mutual
def bW:P->Bool
 |.d _=>true|.fn _ bj=>bZ bj|_=>false
def bZ:List P->Bool
 |[]=>true|p::r=>bW p&&bZ r
end
def wm(st:aI):P->Option P
 |.fV ns=>some (.fV ns)|.fn k bj=>if bZ bj then some (.fn k bj) else none|p=>(jN st p).map .d
def gS(st:aI):List P->Option (List P)
 |[]=>some []|p::r=>(wm st p).bind λx=>(gS st r).map λxs=>x::xs
def keyOf:P->Option (Sum Int Str)
 |.d (.int i)=>some (.inl i)|.d (.str x)=>some (.inr x)|_=>none
def keysOf:List D->Option (List (Sum Int Str))
 |[]=>some []|x::r=>(keyOf (.d x)).bind λk=>(keysOf r).map λks=>k::ks
def qo:P->Option (List (Sum Int Str))
 |.d (.tup xs)=>keysOf xs|_=>none
def ff{κ:Type}[DecidableEq κ](kvs:List (κ×P))(k:κ):Option P:=(kvs.find? λkv=>decide (kv.1=k)).map (·.2)
def lL{κ:Type}[DecidableEq κ](kvs:List (κ×P))(k:κ)(v:P):List (κ×P):=
 if(kvs.any λkv=>decide (kv.1=k))=true then kvs.map (λkv=>if kv.1=k then(kv.1,v) else kv) else kvs++[(k,v)]
def nB(o:O)(k:P):Option (Option P):=match o with|.lst _=>none|.ins _ _=>none|.vf=>none|.dK kvs=>(keyOf k).map λk=>ff kvs k|.dT kvs=>(qo k).map λk=>ff kvs k
def gq:O->Bool
 |.lst _=>false|.ins _ _=>false|.vf=>false|_=>true
def kC(st:aI):P->Option O
 |.obj n=>st[n]?|_=>none
def aX(st:aI)(p:P):Option O:=(kC st p).bind λo=>if gq o then some o else none
def Hn:O->Nat
 |.lst xs=>xs.length|.ins _ _=>0|.vf=>0|.dK kvs=>kvs.length|.dT kvs=>kvs.length
def Bn(o:O)(k v:P):Option O:=match o with|.lst _=>none|.ins _ _=>none|.vf=>none|.dK kvs=>if kvs.length < av then(keyOf k).map λk=>.dK (lL kvs k v) else none|.dT kvs=>if kvs.length < av then(qo k).map λk=>.dT (lL kvs k v) else none
def Li(o:JI)(a b:P):Option Bool:=match a,b with|.d (.int i),.d (.int j)=>O1 o i j|_,_=>none
def EI(a b:P)(st:aI):Option Bool:=match aX st b with|some o=>(nB o a).map λr=>r.isSome|none=>(EH a).bind λx=>(bD st b).bind λps=>(bb ps).bind λys=>if pW x&&ys.all pW then some (ys.any λy=>lK y x) else none
def kD(o:JI)(a b:P)(st:aI):Option Bool:=match o with|.eq=>(jN st a).bind λx=>(jN st b).bind λy=>qW x y|.ne=>(jN st a).bind λx=>(jN st b).bind λy=>(qW x y).map not|.isin=>EI a b st|.nA=>(EI a b st).map not|_=>Li o a b
def AD(st:aI):P->Option Bool
 |.d .bq=>some false|.d (.bl b)=>some b|.d (.int i)=>some (i !=0)|.d (.str x)=>if x.length<=av then some ((x.length:Int)!=0) else none|.d (.tup xs)=>some (!xs.isEmpty)|p=>(aR st p).map λxs=>!xs.isEmpty
def JJ:P->aI->Option String
 |.d .bq,_=>some "NoneType"|.d (.bl _),_=>some "bool"|.d (.int _),_=>some "int"|.d (.str _),_=>some "str"|.d (.tup _),_=>some "tuple"|.d (.pl _),_=>some "list"|.obj n,st=>match st[n]? with|some (.lst _)=>some "list"|_=>none
 |_,_=>none
def fK(t T:String):Bool:=t==T||(t=="bool"&&T=="int")
def xC(n:Nat)(i:Int):Option Nat:=if 0<=i then(if i < n then some i.toNat else none) else if -(n:Int)<=i then some (i+n).toNat else none
def om{α:Type}(xs:List α)(i:Int):Option α:=(xC xs.length i).bind λj=>xs[j]?
def cI(n d:Nat):Option Int->Nat
 |none=>d|some i=>if i < 0 then(i+n).toNat else min i.toNat n
def se{α:Type}(xs:List α)(lo hi:Option Int):List α:=(xs.drop (cI xs.length 0 lo)).take (cI xs.length xs.length hi - cI xs.length 0 lo)
def yb:Option P->Option (Option Int)
 |none=>some none|some (.d (.int i))=>some (some i)|_=>none
def oM(a:P)(lo hi:Option P)(st:aI):Option P:=
 (yb lo).bind λl=>(yb hi).bind λh=>match a with|.d (.tup xs)=>some (.d (.tup (se xs l h)))|p=>(aR st p).bind λxs=>(bb (se xs l h)).map λys=>.d (.pl ys)
def Lj(a b:P)(st:aI):Option P:=match b with|.d (.int i)=>(bD st a).bind λxs=>om xs i|_=>none
def xm(a b:P)(st:aI):Option P:=match aX st a with|some o=>(nB o b).bind id|none=>Lj a b st
def yc(a v:P)(st:aI):Option aI:=match a with
 |.obj n=>match st[n]? with|some (.lst xs)=>if xs.length < av then some (st.set n (.lst (xs++[v]))) else none|_=>none
 |_=>none
def yd(o:O)(k v:P):Option O:=match o with
 |.lst xs=>match k with|.d (.int i)=>(xC xs.length i).map λj=>.lst (xs.set j v)|_=>none
 |o=>Bn o k v
def oN(a k v:P)(st:aI):Option aI:=match a with|.obj n=>(st[n]?).bind λo=>(yd o k v).map λo'=>st.set n o'|_=>none
def boolsOf:List P->Option (List Bool)
 |[]=>some []|.d (.bl b)::r=>(boolsOf r).map λbs=>b::bs|_=>none
def intsOf:List P->Option (List Int)
 |[]=>some []|.d (.int b)::r=>(intsOf r).map λbs=>b::bs|_=>none
def vg{κ:Type}[DecidableEq κ](kvs:List (κ×P))(k:κ):List (κ×P):=kvs.filter λkv=>decide (kv.1≠k)
def EJ(x y:P)(st:aI):Option (P×aI):=match x with
 |.obj n=>match st[n]? with|some (.dK kvs)=>(keyOf y).bind λk=>(ff kvs k).map λv=>(v,st.set n (.dK (vg kvs k)))|_=>none
 |_=>none
def EK(x:P)(st:aI):Option (P×aI):=match x with
 |.obj n=>match st[n]? with|some (.lst xs)=>(xs[xs.length - 1]?).map λv=>(v,st.set n (.lst xs.dropLast))|_=>none
 |_=>none
def pX(x y z:P)(st:aI):Option (P×aI):=match x with
 |.obj n=>match st[n]? with
  |some (.dK kvs)=>if kvs.length < av then(keyOf y).map λk=>match ff kvs k with|some v=>(v,st)|none=>(z,st.set n (.dK (lL kvs k z)))
   else none
  |_=>none
 |_=>none
def ye:Sum Int Str->P
 |.inl i=>.d (.int i)|.inr x=>.d (.str x)
def Lk(x y:P):Option O:=(keyOf x).map λk=>.dK [(k,y)]
def uq(st:aI):P->Option (Nat×List (Sum Int Str×P))
 |.obj n=>match st[n]? with|some (.dK kvs)=>some (n,kvs)|_=>none
 |_=>none
def ur(c:Str)(st:aI):P->Option (Nat×List (Str×P))
 |.obj n=>match st[n]? with|some (.ins c' fs)=>if c'=c then some (n,fs) else none|_=>none
 |_=>none
def wo(f:Str)(v:P):List (Str×P)->List (Str×P)
 |[]=>[(f,v)]|(g,x)::r=>if g=f then(g,v)::r else(g,x)::wo f v r
def conv(ls:List (Nat×List Nat))(r:bU):Nat->P->Option P
 |0,_=>none|n+1,p=>match p with|.d x=>some (.d x)|.fV ns=>some (.fV ns)|.fn k bj=>if bZ bj then some (.fn k bj) else none|.lf k=>(ls.lookup k).bind λjs=>(js.mapM λj=>((r[j]?).join).bind (conv ls r n)).map λbj=>.fn k bj|.obj _=>none
section
variable(C:Nat->List P->aI->R P)
def oO(r:bU)(i:Nat):Option P:=(r[i]?).join
def lr(f:Bf)(ps:List P)(st:aI):Option P:=match f,ps with
 |.len,[p]=>match p with|.d (.str x)=>if x.length<=av then some (.d (.int x.length)) else none|p=>match aX st p with|some o=>some (.d (.int (Hn o)))|none=>(bD st p).map λxs=>.d (.int xs.length)
 |.any,[p]=>(aR st p).bind λxs=>(boolsOf xs).map λbs=>.d (.bl (bs.any id))|.tuple,[p]=>(bD st p).bind λxs=>(bb xs).map λys=>.d (.tup ys)|_,_=>none
def sf:P->Option (List P)
 |.d (.tup xs)=>some (xs.map .d)|.d (.pl xs)=>some (xs.map .d)|_=>none
def CN(lo hi:Int):List P:=(U8 (hi - lo).toNat).map λk=>.d (.int (lo+(k:Nat)))
def qp:List P->Option (List P)
 |[.d (.int j)]=>if -jn<=j/\j < jn then some (CN 0 j) else none|[.d (.int i),.d (.int j)]=>if -jn<=i/\i < jn/\ -jn<=j/\j < jn then some (CN i j) else none|_=>none
def dg:Nat->List D->List P
 |_,[]=>[]|k,x::xs=>.d (.tup [.int k,x])::dg (k+1) xs
def si(a b:P)(st:aI):Option P:=match b with|.d (.int i)=>(aR st a).bind λxs=>(intsOf xs).bind λns=>if i∈ns then some (.d (.int (ns.idxOf i:Nat))) else none|_=>none
def EL:P->P->Option (List D)
 |.d (.tup xs),.d (.tup ys)=>some ((xs.zip ys).map λp=>.tup [p.1,p.2])|_,_=>none
def cJ(g:P->bU)(c:bU->aI->R Bool)(e:bU->aI->R P):List P->aI->R (List P)
 |[],st=>.ok [] st|p::r,st=>(c (g p) st).bind λb st1=>if b then(e (g p) st1).bind λy st2=>(cJ g c e r st2).bind λys st3=>.ok (y::ys) st3 else cJ g c e r st1
def yf(n:Nat)(st:aI)(i:Nat):Option (Option P):=match st[n]? with|some (.lst xs)=>some xs[i]?|_=>none
def cn(n:Nat)(g:P->bU)(c:bU->aI->R Bool)(e:bU->aI->R P):Nat->Nat->aI->R (List P)
 |0,_,_=>.no|k+1,i,st=>match yf n st i with|none=>.no|some none=>.ok [] st|some (some p)=>(c (g p) st).bind λb st1=>if b then(e (g p) st1).bind λy st2=>(cn n g c e k (i+1) st2).bind λys st3=>.ok (y::ys) st3 else cn n g c e k (i+1) st1
def lX(c:List P->aI->R P)(o:Option (List P))(st:aI):R P:=match o,st with
 |some qs,[]=>(c qs []).bind λp st2=>match p,st2 with|.d x,[]=>.ok (.d x) []|_,_=>.no
 |_,_=>.no
def cK(js:List Nat)(r:bU):bU:=js.map λj=>(r[j]?).join
mutual
def aa:E->bU->aI->R P
 |.var i,r,st=>R.of (oO r i) st|.cst x,_,st=>.ok (.d x) st|.op o a b,r,st=>(aa a r st).bind λx st1=>(aa b r st1).bind λy st2=>R.of (ya o x y st2) st2|.not a,r,st=>(aa a r st).bind λx st1=>(R.of (AD st1 x) st1).bind λb st2=>.ok (.d (.bl (!b))) st2|.cmp o a b,r,st=>(aa a r st).bind λx st1=>(aa b r st1).bind λy st2=>(R.of (kD o x y st2) st2).bind λb st3=>.ok (.d (.bl b)) st3|.chain o o' a b c,r,st=>(aa a r st).bind λx st1=>(aa b r st1).bind λy st2=>(R.of (kD o x y st2) st2).bind λk st3=>if k then(aa c r st3).bind λz oF=>(R.of (kD o' y z oF) oF).bind λb Ce=>.ok (.d (.bl b)) Ce else .ok (.d (.bl false)) st3
 |.and es,r,st=>dX es r st|.or es,r,st=>dY es r st|.tup es,r,st=>(az es r st).bind λps st1=>if ps.length<=av then(R.of (bb ps) st1).bind λxs st2=>.ok (.d (.tup xs)) st2 else .no|.lst m l,r,st=>(aU l r st).bind λps st1=>if m then .ok (.obj st1.length) (st1++[.lst ps]) else(R.of (bb ps) st1).bind λxs st2=>.ok (.d (.pl xs)) st2|.call f es,r,st=>(az es r st).bind λps st1=>C f ps st1|.Gn a T,r,st=>(aa a r st).bind λx st1=>(R.of (JJ x st1) st1).bind λt st2=>.ok (.d (.bl (fK t T))) st2|.bf f es,r,st=>(az es r st).bind λps st1=>R.of (lr f ps st1) st1|.ix a b,r,st=>(aa a r st).bind λx st1=>(aa b r st1).bind λy st2=>R.of (xm x y st2) st2|.slice a lo hi,r,st=>(aa a r st).bind λx st1=>(gT lo r st1).bind λl st2=>(gT hi r st2).bind λh st3=>R.of (oM x l h st3) st3|.oK t,r,st=>.ok (.obj st.length) (st++[if t then .dT [] else .dK []])|.index a b,r,st=>(aa a r st).bind λx st1=>(R.of (aR st1 x) st1).bind λ_ st1=>(aa b r st1).bind λy st2=>R.of (si x y st2) st2|.pV i es,r,st=>(R.of (oO r i) st).bind λp bJ=>(az es r bJ).bind λps st1=>match p with|.fn k bj=>C k (ps++bj) st1|_=>.no
 |.iT f es ls,r,st=>(az es r st).bind λps st1=>lX (C f) (ps.mapM (conv ls r 3)) st1|.jc i es ls,r,st=>(R.of (oO r i) st).bind λp bJ=>(az es r bJ).bind λps st1=>match conv ls r 3 p with|some (.fn k bj)=>lX (C k) ((ps.mapM (conv ls r 3)).map λqs=>qs++bj) st1|_=>.no
 |.lam k,_,st=>.ok (.lf k) st|.attr c f i,r,st=>(R.of (oO r i) st).bind λx st1=>R.of ((ur c st1 x).bind λq=>q.2.lookup f) st1|.qm k c m i es,r,st=>(R.of (oO r i) st).bind λx bJ=>(R.of ((ur c bJ x).bind λq=>if(q.2.lookup m).isNone then some () else none) bJ).bind λ_ bJ=>(az es r bJ).bind λps st1=>C k (x::ps) st1|.CH a b,r,st=>(aa a r st).bind λx st1=>(R.of (aX st1 x) st1).bind λ_ st1=>(aa b r st1).bind λy st2=>(R.of (EJ x y st2) st2).bind λq _=>.ok q.1 q.2|.r9 a b c,r,st=>(aa a r st).bind λx st1=>(R.of (aX st1 x) st1).bind λ_ st1=>(aa b r st1).bind λy st2=>(aa c r st2).bind λz st3=>(R.of (pX x y z st3) st3).bind λq _=>.ok q.1 q.2|.CL k x,r,st=>(aa k r st).bind λy st1=>(R.of (Lk y (.d x)) st1).bind λo st2=>.ok (.obj st2.length) (st2++[o])|.CJ a,r,st=>(aa a r st).bind λx st1=>(R.of (EK x st1) st1).bind λq _=>.ok q.1 q.2|.make k c es,r,st=>(az es r st).bind λps st1=>(C k (.obj st1.length::ps) (st1++[.ins c []])).bind λv st2=>match v with|.d .bq=>.ok (.obj st1.length) st2|_=>.no
def gT:Option E->bU->aI->R (Option P)
 |none,_,st=>.ok none st|some e,r,st=>(aa e r st).bind λx st1=>.ok (some x) st1
def az:List E->bU->aI->R (List P)
 |[],_,st=>.ok [] st|e::es,r,st=>(aa e r st).bind λx st1=>(az es r st1).bind λxs st2=>.ok (x::xs) st2
def dX:List E->bU->aI->R P
 |[],_,_=>.no|[e],r,st=>aa e r st|e::e'::es,r,st=>(aa e r st).bind λx st1=>match x with|.d (.bl b)=>if b then dX (e'::es) r st1 else .ok (.d (.bl false)) st1|_=>.no
def dY:List E->bU->aI->R P
 |[],_,_=>.no|[e],r,st=>aa e r st|e::e'::es,r,st=>(aa e r st).bind λx st1=>match x with|.d (.bl b)=>if b then .ok (.d (.bl true)) st1 else dY (e'::es) r st1|_=>.no
def aU:L->bU->aI->R (List P)
 |.eY es,r,st=>(az es r st).bind λps st1=>if ps.length<=av then .ok ps st1 else .no|.comp w ts js c e,r,st=>(cq w r st).bind λps st1=>if ts=1/\ps.length<=av then cJ (λp=>some p::cK js r) (bu c) (λr' aJ=>aa e r' aJ) ps st1 else .no|.gG es,r,st=>(az es r st).bind λps st1=>(R.of (qp ps) st1).bind λqs st2=>if qs.length<=av then .ok qs st2 else .no|.zip a b,r,st=>(aa a r st).bind λx st1=>(aa b r st1).bind λy st2=>(R.of (EL x y) st2).bind λzs st3=>.ok (zs.map .d) st3|.cn e js c ee,r,st=>(aa e r st).bind λx st1=>match x with|.obj n=>cn n (λp=>some p::cK js r) (bu c) (λr' aJ=>aa ee r' aJ) av 0 st1|_=>.no
 |.keys e,r,st=>(aa e r st).bind λx st1=>(R.of (uq st1 x) st1).bind λq st2=>.ok (q.2.map λkv=>ye kv.1) st2
def bu:Option E->bU->aI->R Bool
 |none,_,st=>.ok true st|some c,r,st=>(aa c r st).bind λx st2=>R.of (AD st2 x) st2
def cq:W->bU->aI->R (List P)
 |.ex e,r,st=>(aa e r st).bind λx st1=>R.of (sf x) st1|.gG es,r,st=>(az es r st).bind λps st1=>R.of (qp ps) st1|.enum e,r,st=>(aa e r st).bind λx st1=>match x with|.d (.tup xs)=>.ok (dg 0 xs) st1|_=>.no
end
def gU:Tg->P->bU->Option bU
 |.nm i,p,r=>some (r.set i (some p))|.tup _,_,_=>none|.two i j,p,r=>match p with|.d (.tup [x,y])=>some ((r.set i (some (.d x))).set j (some (.d y)))|_=>none
def forL(g:P->bU->Option bU)(b:bU->aI->R Fl):List P->bU->aI->R Fl
 |[],r,st=>.ok (.nx r) st|p::ps,r,st=>(R.of (g p r) st).bind λr1 bJ=>(b r1 bJ).bind λf st1=>match f with|.nx r2=>forL g b ps r2 st1|.ct r2=>forL g b ps r2 st1|.bk r2=>.ok (.nx r2) st1|.rt v=>.ok (.rt v) st1
def jm(n:Nat)(g:P->bU->Option bU)(b:bU->aI->R Fl):Nat->Nat->bU->aI->R Fl
 |0,_,_,_=>.no|k+1,i,r,st=>match yf n st i with|none=>.no|some none=>.ok (.nx r) st|some (some p)=>(R.of (g p r) st).bind λr1 bJ=>(b r1 bJ).bind λf st1=>match f with|.nx r2=>jm n g b k (i+1) r2 st1|.ct r2=>jm n g b k (i+1) r2 st1|.bk r2=>.ok (.nx r2) st1|.rt v=>.ok (.rt v) st1
def oP(i j:Nat)(b:bU->aI->R Fl):List (Sum Int Str×P)->bU->aI->R Fl
 |[],r,st=>.ok (.nx r) st|kv::ps,r,st=>(b ((r.set i (some (ye kv.1))).set j (some kv.2)) st).bind λf st1=>match f with|.nx r2=>oP i j b ps r2 st1|.ct r2=>oP i j b ps r2 st1|.bk r2=>.ok (.nx r2) st1|.rt v=>.ok (.rt v) st1
def jM(n i j:Nat)(b:bU->aI->R Fl):Nat->Nat->bU->aI->R Fl
 |0,_,_,_=>.no|k+1,q,r,st=>match yf n st q with|none=>.no|some none=>.ok (.nx r) st|some (some p)=>(b ((r.set i (some (.d (.int q)))).set j (some p)) st).bind λf st1=>match f with|.nx r2=>jM n i j b k (q+1) r2 st1|.ct r2=>jM n i j b k (q+1) r2 st1|.bk r2=>.ok (.nx r2) st1|.rt v=>.ok (.rt v) st1
def ij(c:bU->aI->R Bool)(b:bU->aI->R Fl):Nat->bU->aI->R Fl
 |0,_,_=>.no|n+1,r,st=>(c r st).bind λk st1=>if k then(b r st1).bind λf st2=>match f with|.nx r2=>ij c b n r2 st2|.ct r2=>ij c b n r2 st2|.bk r2=>.ok (.nx r2) st2|.rt v=>.ok (.rt v) st2 else .ok (.nx r) st1
def bV(d:bU->aI->R P)(r:bU)(st:aI):R Bool:=(d r st).bind λx st1=>R.of (AD st1 x) st1
def fg:Nat:=1000000
mutual
def aE:S->bU->aI->R Fl
 |.ret e,r,st=>(aa C e r st).bind λv st1=>.ok (.rt v) st1|.EG,r,st=>.ok (.rt (.d .bq)) st|.set i e,r,st=>(aa C e r st).bind λv st1=>.ok (.nx (r.set i (some v))) st1|.ifs c a b,r,st=>(bV (aa C c) r st).bind λk st1=>if k then ah a r st1 else ah b r st1|.fe t w b,r,st=>(cq C w r st).bind λps st1=>forL (gU t) (ah b) ps r st1|.mq c b,r,st=>ij (bV (aa C c)) (ah b) fg r st|.jm t e b,r,st=>(aa C e r st).bind λx st1=>match x with|.obj n=>jm n (gU t) (ah b) fg 0 r st1|_=>.no
 |.CM i j e b,r,st=>(aa C e r st).bind λx st1=>(R.of (uq st1 x) st1).bind λq st1=>(oP i j (ah b) q.2 r (st1.set q.1 .vf)).bind λf st2=>.ok f (st2.set q.1 (.dK q.2))|.jM i j e b,r,st=>(aa C e r st).bind λx st1=>match x with|.obj n=>jM n i j (ah b) fg 0 r st1|_=>.no
 |.expr e,r,st=>(aa C e r st).bind λ_ st1=>.ok (.nx r) st1|.oJ i k,r,st=>.ok (.nx (r.set i (some (.lf k)))) st|.mr c f i e,r,st=>(aa C e r st).bind λv st1=>(R.of (oO r i) st1).bind λx st2=>(R.of ((ur c st2 x).bind λq=>if q.2.length < 1000 then some (st2.set q.1 (.ins c (wo f v q.2))) else none) st2).bind λst3 _=>.ok (.nx r) st3|.app a e,r,st=>(aa C a r st).bind λx st1=>(R.of (aR st1 x) st1).bind λ_ st1=>(aa C e r st1).bind λv st2=>(R.of (yc x v st2) st2).bind λst3 _=>.ok (.nx r) st3|.put a i e,r,st=>(aa C e r st).bind λv st1=>(aa C a r st1).bind λx st2=>(aa C i r st2).bind λk st3=>(R.of (oN x k v st3) st3).bind λoF _=>.ok (.nx r) oF
def ah:List S->bU->aI->R Fl
 |[],r,st=>.ok (.nx r) st|s::rest,r,st=>(aE s r st).bind λf st1=>match f with|.nx r1=>ah rest r1 st1|.bk r1=>.ok (.bk r1) st1|.ct r1=>.ok (.ct r1) st1|.rt v=>.ok (.rt v) st1
end
end
structure Fn where
 np:Nat
 nn:Nat
 body:List S
 sh:Bool:=false
mutual
def nC:D->Bool
 |.pl _=>false|.tup xs=>Bo xs|_=>true
def Bo:List D->Bool
 |[]=>true|x::xs=>nC x&&Bo xs
end
def isObj:P->Bool
 |.obj _=>true|_=>false
def outF(r:R Fl):Option D:=match r with|.ok (.rt p) st=>jN st p|.ok (.nx _) _=>some .bq|_=>none
def ay(nn:Nat)(ps:List P):bU:=ps.map some++V4 (nn - ps.length) none
def uu(C:Nat->List P->aI->R P)(F:Fn)(ps:List P):Option D:=if ps.length=F.np then outF (ah C F.body (ay F.nn ps) []) else none
def sk(ps:List P)(d:D)(st:aI):R P:=if ps.any isObj&&!nC d then .no else .ok (.d d) st
def Ho(r:R Fl):R P:=match r with|.ok (.rt p) st=>.ok p st|.ok (.nx _) st=>.ok (.d .bq) st|_=>.no
def vh(Fs:List Fn):Nat->Nat->List P->aI->R P
 |0,_,_,_=>.no|n+1,f,ps,st=>match Fs[f]? with|none=>.no|some F=>if F.sh then(if ps.length=F.np then Ho (ah (vh Fs n) F.body (ay F.nn ps) st) else .no) else match gS st ps with|none=>.no|some qs=>match uu (vh Fs n) F qs with|none=>.no|some d=>sk ps d st
theorem EM:∃f:List Fn->Nat->Nat->List P->aI->R P,f=vh:=⟨vh,rfl⟩
noncomputable def callC:List Fn->Nat->Nat->List P->aI->R P:=Classical.choose EM
theorem yg:callC=vh:=Classical.choose_spec EM
theorem sr Fs f ps st:callC Fs 0 f ps st=.no:=by rw[yg];rfl
theorem ik(Fs:List Fn)(n f:Nat)(ps:List P)(st:aI):callC Fs (n+1) f ps st=match Fs[f]? with|none=>.no|some F=>if F.sh then(if ps.length=F.np then Ho (ah (callC Fs n) F.body (ay F.nn ps) st) else .no) else match gS st ps with|none=>.no|some qs=>match uu (callC Fs n) F qs with|none=>.no|some d=>sk ps d st:=by rw[yg,vh]
end Y
namespace Y
open PySem L2
structure KB where
 K:Vm
 B:Heap
 tabs:List (Addr×List (Pos×Str))
 pY:Nat->Addr->Addr->List V->Prop
 Gp:Nat->Addr->Addr->Value->Heap->Prop
 yh:Nat->Str
structure KT where
 tabs:List (Addr×List (Pos×Str)):=[]
 pY:Nat->Addr->Addr->List V->Prop:=λ_ _ _ _=>False
 Gp:Nat->Addr->Addr->Value->Heap->Prop:=λ_ _ _ _ _=>False
 yh:Nat->Str:=λ_=>""
abbrev af(X:Cx)(t:KT):KB:=⟨X.K,X.base,t.tabs,t.pY,t.Gp,t.yh⟩
mutual
def aF(K:KB)(H:Hp)(m Z:List Addr):D->V->Prop
 |.bq,v=>v=.bq|.bl b,v=>v=.bl b|.int i,v=>v=.int i|.str x,v=>v=.str x|.tup xs,v=>∃a us,v=.ref a/\H a=some (.tup us)/\au K H m Z xs us|.pl xs,v=>∃a us,v=.ref a/\Rd H a (.lst us)/\a∉m/\a∉Z/\au K H m Z xs us
def au(K:KB)(H:Hp)(m Z:List Addr):List D->List V->Prop
 |[],us=>us=[]|x::xs,us=>∃v vs,us=v::vs/\aF K H m Z x v/\au K H m Z xs vs
end
def Ll(K:Vm)(H:Hp)(a:Addr)(us:List V):Prop:=(∃o,H a=some (.dt o (.lst us)))\/
 ∃(o:Obj) (its:Array Value) (n:Nat),K.lookup a=some o/\o.cls=.type "list"/\o.dict=none/\o.data=.seq its n/\its.size<=VD/\aP us its.toList
theorem Ll.sq(h:Ll K H a us):lG K H a us:=by
 rcases h with h|h;·exact .inl (.inr h)
 ·exact .inr h
mutual
def aj(K:KB)(H:Hp)(m Z:List Addr):P->V->Prop
 |.d x,v=>aF K H m Z x v|.obj n,v=>∃a,m[n]?=some a/\v=.ref a|.fV ns,v=>∃a,v=.ref a/\Ll K.K H a (ns.map V.int)|.fn k bj,v=>∃a c bM,v=.ref a/\K.pY k a c bM/\H c=some (.ext (dw c (K.yh k)))/\ai K H m Z bj bM|.lf k,v=>∃a c ct,v=.ref a/\H a=some (.ext (K.Gp k a c ct))/\H c=some (.ext (dw c (K.yh k)))
def ai(K:KB)(H:Hp)(m Z:List Addr):List P->List V->Prop
 |[],us=>us=[]|x::xs,us=>∃v vs,us=v::vs/\aj K H m Z x v/\ai K H m Z xs vs
end
def aM{κ:Type}(K:KB)(H:Hp)(m Z:List Addr):List (κ×P)->List (κ×V)->Prop
 |[],us=>us=[]|x::xs,us=>∃v vs,us=(x.1,v)::vs/\aj K H m Z x.2 v/\aM K H m Z xs vs
def qr(K:KB)(H:Hp)(m Z:List Addr)(a:Addr):O->Prop
 |.lst ps=>∃us,H a=some (.lst us)/\ai K H m Z ps us|.dK kvs=>∃us,H a=some (.dK us)/\aM K H m Z kvs us|.dT kvs=>∃us,H a=some (.dT us)/\aM K H m Z kvs us|.ins c fs=>∃C dx us,VA K.K Vu c=some (some (.ref C))/\H a=some (.ins C dx us)/\H dx=some (.own a)/\aM K H m Z fs us|.vf=>∃o us,H a=some (.dt o (.dK us))
theorem ai.mono(f:∀p v,aj K H m Z p v->aj K H' m' Z' p v):∀{xs} {us},ai K H m Z xs us->ai K H' m' Z' xs us
 |[],_,h=>h|x::xs,us,h=>by rw[ai] at h ⊢;obtain⟨v,vs,e,r,rs⟩:=h;exact⟨v,vs,e,f _ _ r,ai.mono f rs⟩
theorem aM.mono{κ:Type}{H H':Hp}{m m' Z Z':List Addr}(f:∀p v,aj K H m Z p v->aj K H' m' Z' p v):∀{xs:List (κ×P)} {us:List (κ×V)},aM K H m Z xs us->aM K H' m' Z' xs us
 |[],_,h=>h|x::xs,us,h=>by obtain⟨v,vs,e,r,rs⟩:=(show ∃v vs,us=(x.1,v)::vs/\aj K H m Z x.2 v/\aM K H m Z xs vs from h);exact⟨v,vs,e,f _ _ r,aM.mono f rs⟩
theorem qr.mono(he:∀b u,(b=a\/H b=some (.own a))->H b=some u->H' b=some u)(f:∀p v,aj K H m Z p v->aj K H' m' Z' p v)(h:qr K H m Z a o):qr K H' m' Z' a o:=by cases o with|lst ps=>obtain⟨us,e,r⟩:=h;exact⟨us,he _ _ (.inl rfl) e,r.mono f⟩|dK ps=>obtain⟨us,e,r⟩:=h;exact⟨us,he _ _ (.inl rfl) e,r.mono f⟩|dT ps=>obtain⟨us,e,r⟩:=h;exact⟨us,he _ _ (.inl rfl) e,r.mono f⟩|ins c fs=>obtain⟨C,dx,us,n,e,e2,r⟩:=h;exact⟨C,dx,us,n,he _ _ (.inl rfl) e,he _ _ (.inr e2) e2,r.mono f⟩|vf=>obtain⟨o,us,e⟩:=h;exact⟨o,us,he _ _ (.inl rfl) e⟩
theorem qr.qc(h:qr K H m Z a o):H a≠none/\(∀us,H a≠some (.tup us))/\(o≠.vf->∀o' u,H a≠some (.dt o' u))/\(∀φ,H a≠some (.ext φ))/\(∀ps,H a≠some (.fH ps))/\∀b,H a≠some (.own b):=by cases o with|lst ps=>obtain⟨us,e,r⟩:=h;rw[e];exact⟨(λz=>nomatch z),(λ_ z=>nomatch z),(λ_ _ _ z=>nomatch z),(λ_ z=>nomatch z),(λ_ z=>nomatch z),(λ_ z=>nomatch z)⟩|dK ps=>obtain⟨us,e,r⟩:=h;rw[e];exact⟨(λz=>nomatch z),(λ_ z=>nomatch z),(λ_ _ _ z=>nomatch z),(λ_ z=>nomatch z),(λ_ z=>nomatch z),(λ_ z=>nomatch z)⟩|dT ps=>obtain⟨us,e,r⟩:=h;rw[e];exact⟨(λz=>nomatch z),(λ_ z=>nomatch z),(λ_ _ _ z=>nomatch z),(λ_ z=>nomatch z),(λ_ z=>nomatch z),(λ_ z=>nomatch z)⟩|ins c fs=>obtain⟨C,dx,us,n,e,e2,r⟩:=h;rw[e];exact⟨(λz=>nomatch z),(λ_ z=>nomatch z),(λ_ _ _ z=>nomatch z),(λ_ z=>nomatch z),(λ_ z=>nomatch z),(λ_ z=>nomatch z)⟩|vf=>obtain⟨o,us,e⟩:=h;rw[e];exact⟨(λz=>nomatch z),(λ_ z=>nomatch z),(λz=>absurd rfl z),(λ_ z=>nomatch z),(λ_ z=>nomatch z),(λ_ z=>nomatch z)⟩
structure aA(K:KB)(H:Hp)(m Z:List Addr)(st:aI):Prop where
 len:m.length=st.length
 nd:m.Nodup
 at_:∀(n:Nat) (o:O),st[n]?=some o->∃a,m[n]?=some a/\qr K H m Z a o
 zt:∀a∈Z,gH H a≠none
 zm:∀a∈Z,a∉m
 tab:∀t∈K.tabs,∃ps,H t.1=some (.fH ps)/\fO H t.2 ps
structure cQ(K:KB)(H:Hp)(m Z:List Addr)(r:bU)(σ:St):Prop where
 len:r.length=σ.length
 at_:∀(i:Nat) (p:P),r[i]?=some (some p)->∃v,σ[i]?=some (some v)/\aj K H m Z p v
structure Le(K:KB)(m:List Addr)(H:Hp)(m':List Addr)(H':Hp):Prop where
 pre:∃t,m'=m++t
 tup:∀a xs,H a=some (.tup xs)->H' a=some (.tup xs)
 keep:∀a u,H a=some u->a∉m->(∀ps,u≠.fH ps)->H' a=some u
 new:∀a∈m',a∈m\/H a=none
 qc:∀a,H a≠none->H' a≠none
 Bp:∀a,gH H a≠none->gH H' a≠none
 dt:∀a o u,H a=some (.dt o u)->H' a=some (.dt o u)
 ext:∀a φ,H a=some (.ext φ)->H' a=some (.ext φ)
 fH:∀a ps,H a=some (.fH ps)->∃more,H' a=some (.fH (ps++more))
section
variable{K:KB}{H H' H1 H2:Hp}{m m' m1 m2 Z:List Addr}{α β:Type}
theorem EN(h:Rd H a u):H a≠none:=by rcases h with h|⟨o,h⟩<;>(rw[h];exact λz=>nomatch z)
theorem Le.refl:Le K m H m H:=⟨⟨[],by simp⟩,λ_ _ h=>h,λ_ _ h _ _=>h,λ_ h=>.inl h,λ_ h=>h,λ_ h=>h,λ_ _ _ h=>h,λ_ _ h=>h,λ_ ps h=>⟨#[],by rw[h];simp⟩⟩
theorem Le.trans(a:Le K m H m1 H1)(b:Le K m1 H1 m2 H2):Le K m H m2 H2 where
 pre:=by obtain⟨t,e⟩:=a.pre;obtain⟨u,e'⟩:=b.pre;exact⟨t++u,by rw[e',e,V1]⟩
 tup:=λc xs h=>b.tup c xs (a.tup c xs h)
 keep:=λc u h hc hu=>b.keep c u (a.keep c u h hc hu) (λz=>by
  rcases a.new c z with q|q;·exact hc q
  ·rw[h] at q;cases q) hu
 new:=λc hc=>by
  rcases b.new c hc with q|q;·exact a.new c q
  ·cases e:H c with|none=>exact .inr rfl|some o=>exact absurd q (a.qc c (by rw[e];exact λz=>nomatch z))
 qc:=λc h=>b.qc c (a.qc c h)
 Bp:=λc h=>b.Bp c (a.Bp c h)
 dt:=λc o u h=>b.dt c o u (a.dt c o u h)
 ext:=λc φ h=>b.ext c φ (a.ext c φ h)
 fH:=λc ps h=>by obtain⟨m1,e1⟩:=a.fH c ps h;obtain⟨m2,e2⟩:=b.fH c _ e1;exact⟨m1++m2,by rw[e2,Array.append_assoc]⟩
theorem Hq(e:ji H H')(h:H a≠none):H' a≠none:=by cases q:H a with|none=>exact absurd q h|some o=>rw[e _ _ q];exact λz=>nomatch z
theorem su(e:ji H H')(h:gH H a≠none):gH H' a≠none:=by cases q:gH H a with|none=>exact absurd q h|some o=>obtain⟨h1,h2⟩:=kA q;have h3:=e _ _ h1;cases o with|ext φ=>have:∃q,φ=dw a q:=VF λz=>h2 φ rfl λq' e'=>z ⟨q',e'⟩;obtain⟨q',rfl⟩:=this;rw[gk h3];exact λz=>nomatch z|_=>rw[bh h3 (λ_ z=>nomatch z)];exact λz=>nomatch z
theorem Le.same(e:ji H H'):Le K m H m H':=⟨⟨[],by simp⟩,λ_ _ h=>e _ _ h,λ_ _ h _ _=>e _ _ h,λ_ h=>.inl h,λ_ h=>Hq e h,λ_ h=>su e h,λ_ _ _ h=>e _ _ h,λ_ _ h=>e _ _ h,λ_ ps h=>⟨#[],by rw[e _ _ h];simp⟩⟩
theorem Le.rd(le:Le K m H m' H')(h:Rd H a (.lst us))(hm:a∉m):Rd H' a (.lst us):=by
 rcases h with h|⟨o,h⟩;·exact .inl (le.keep _ _ h hm (λ_ z=>nomatch z))
 ·exact .inr ⟨o,le.keep _ _ h hm (λ_ z=>nomatch z)⟩
mutual
theorem aF.le(le:Le K m H m' H'):∀{x:D} {v:V},aF K H m Z x v->aF K H' m' Z x v
 |.bq,_,h=>h|.bl _,_,h=>h|.int _,_,h=>h|.str _,_,h=>h|.tup xs,v,h=>by obtain⟨a,us,e,q,r⟩:=(show ∃a us,v=.ref a/\H a=some (.tup us)/\au K H m Z xs us from h);exact⟨a,us,e,le.tup _ _ q,au.le le r⟩
 |.pl xs,v,h=>by
  obtain⟨a,us,e,q,hm,hz,r⟩:=(show ∃a us,v=.ref a/\Rd H a (.lst us)/\a∉m/\a∉Z/\au K H m Z xs us from h);refine⟨a,us,e,le.rd q hm,λz=>?_,hz,au.le le r⟩;rcases le.new a z with y|y;·exact hm y
  ·exact EN q y
theorem au.le(le:Le K m H m' H'):∀{xs:List D} {us:List V},au K H m Z xs us->au K H' m' Z xs us
 |[],_,h=>h|x::xs,us,h=>by obtain⟨v,vs,e,r,rs⟩:=(show ∃v vs,us=v::vs/\aF K H m Z x v/\au K H m Z xs vs from h);exact⟨v,vs,e,aF.le le r,au.le le rs⟩
end
mutual
theorem aj.le(le:Le K m H m' H'):∀{x:P} {v:V},aj K H m Z x v->aj K H' m' Z x v
 |.d _,_,h=>by rw[aj] at h ⊢;exact aF.le le h|.obj n,v,h=>by rw[aj] at h ⊢;obtain⟨a,e,r⟩:=h;obtain⟨t,q⟩:=le.pre;refine⟨a,?_,r⟩;rw[q,Vf (List.getElem?_eq_some_iff.mp e).1];exact e
 |.fV ns,v,h=>by
  rw[aj] at h ⊢;obtain⟨a,e,r⟩:=h;refine⟨a,e,?_⟩;rcases r with ⟨o,r⟩|r
  ·exact .inl ⟨o,le.dt _ _ _ r⟩
  ·exact .inr r
 |.fn k bj,v,h=>by rw[aj] at h ⊢;obtain⟨a,c,bM,e,q,hc,r⟩:=h;exact⟨a,c,bM,e,q,le.ext _ _ hc,ai.le le r⟩|.lf k,v,h=>by rw[aj] at h ⊢;obtain⟨a,c,ct,e,q,r⟩:=h;exact⟨a,c,ct,e,le.ext _ _ q,le.ext _ _ r⟩
theorem ai.le(le:Le K m H m' H'):∀{xs:List P} {us:List V},ai K H m Z xs us->ai K H' m' Z xs us
 |[],_,h=>h|x::xs,us,h=>by obtain⟨v,vs,e,r,rs⟩:=(show ∃v vs,us=v::vs/\aj K H m Z x v/\ai K H m Z xs vs by rw[ai] at h;exact h);rw[ai];exact⟨v,vs,e,aj.le le r,ai.le le rs⟩
end
theorem cQ.le(A:cQ K H m Z r σ)(le:Le K m H m' H'):cQ K H' m' Z r σ:=⟨A.len,λi p h=>by obtain⟨v,e,q⟩:=A.at_ i p h;exact⟨v,e,q.le le⟩⟩
theorem fO.same(e:∀a φ,H a=some (.ext φ)->H' a=some (.ext φ))(h:fO H bL ps):fO H' bL ps:=
 ⟨h.1,λp hp cv zO=>by obtain⟨c,e1,e2⟩:=h.2 p hp cv zO;exact⟨c,e1,e _ _ e2⟩⟩
theorem aA.same(A:aA K H m Z st)(e:ji H H'):aA K H' m Z st:=by
 refine⟨A.len,A.nd,λn o h=>?_,λa h=>su e (A.zt a h),A.zm,λt ht=>?_⟩;·obtain⟨a,q,r⟩:=A.at_ n o h;exact⟨a,q,r.mono (λb u _ hu=>e _ _ hu) λp v z=>z.le (Le.same e)⟩
 ·obtain⟨ps,h1,h2⟩:=A.tab t ht;exact⟨ps,e _ _ h1,fO.same (λa φ z=>e _ _ z) h2⟩
def Ok(K:KB)(Z:List Addr)(r:R α)(m:List Addr)(H:Hp)(Q:α->aI->List Addr->Hp->Prop):Prop:=match r with|.ok a aJ=>∀m' H',Le K m H m' H'->aA K H' m' Z aJ->Q a aJ m' H'|_=>False
theorem Ok.le(h:Ok K Z r m H Q)(le:Le K m H m' H'):Ok K Z r m' H' Q:=by cases r with|ok a aJ=>exact λm2 H2 l2 a2=>h m2 H2 (le.trans l2) a2|ex x aJ=>exact h|no=>exact h
theorem Ok.bind(h:Ok K Z (r.bind k) m H Q):Ok K Z r m H (λa aJ m' H'=>Ok K Z (k a aJ) m' H' Q):=by cases r with|ok a aJ=>exact λm' H' le _=>Ok.le (r:=k a aJ) h le|ex x aJ=>exact h|no=>exact h
theorem Ok.nz{r:R α}{Q:β->aI->List Addr->Hp->Prop}(hk:∀a st,k a st=.no)(h:Ok K Z (r.bind k) m H Q):False:=by cases r with|ok a aJ=>rw[ae,hk] at h;exact h|ex x aJ=>exact h|no=>exact h
theorem Ok.mono(h:Ok K Z r m H Q)(f:∀a aJ m' H',Le K m H m' H'->aA K H' m' Z aJ->Q a aJ m' H'->Q' a aJ m' H'):Ok K Z r m H Q':=by cases r with|ok a aJ=>exact λm' H' le as=>f a aJ m' H' le as (h m' H' le as)|ex x aJ=>exact h|no=>exact h
theorem Ok.vi(h:Ok K Z r m H Q)(f:∀a aJ m' H',r=.ok a aJ->Le K m H m' H'->aA K H' m' Z aJ->Q a aJ m' H'->Q' a aJ m' H'):Ok K Z r m H Q':=by cases r with|ok a aJ=>exact λm' H' le as=>f a aJ m' H' rfl le as (h m' H' le as)|ex x aJ=>exact h|no=>exact h
theorem Ok.of(h:Ok K Z (R.of o st) m H Q)(as:aA K H m Z st):∃a,o=some a/\Q a st m H/\∀m' H',Le K m H m' H'->aA K H' m' Z st->Q a st m' H':=by cases o with|none=>exact(show False from h).elim|some a=>exact⟨a,rfl,h m H Le.refl as,h⟩
theorem Ok.here(h:Ok K Z (R.ok a st) m H Q)(as:aA K H m Z st):Q a st m H:=h m H Le.refl as
def tE(K:KB)(Z:List Addr)(d:bU->aI->R P):TE:=λσ H Q=>∃m r st,cQ K H m Z r σ/\aA K H m Z st/\Ok K Z (d r st) m H (λp _ m' H'=>∀v,aj K H' m' Z p v->Q v H')
def tT(K:KB)(Z:List Addr)(d:bU->aI->R Bool):TT:=λσ H Q=>∃m r st,cQ K H m Z r σ/\aA K H m Z st/\Ok K Z (d r st) m H (λb _ _ H'=>Q b H')
def tA(K:KB)(Z:List Addr)(d:bU->aI->R (List P)):TA:=λσ H Q=>∃m r st,cQ K H m Z r σ/\aA K H m Z st/\Ok K Z (d r st) m H (λps _ m' H'=>∀vs,ai K H' m' Z ps vs->Q vs H')
def LQ(K:KB)(Z:List Addr)(r:R (List P))(m:List Addr)(H:Hp)(Q:VK):Prop:=match r with|.ok ps aJ=>∀m' H' a vs,Le K m H m' H'->H a=none->a∉m'->H' a=some (.lst vs)->aA K H' m' (a::Z) aJ->ai K H' m' (a::Z) ps vs->Q (.ref a) H'|_=>False
def tL(K:KB)(Z:List Addr)(d:bU->aI->R (List P)):TE:=λσ H Q=>∃m r st,cQ K H m Z r σ/\aA K H m Z st/\LQ K Z (d r st) m H Q
def pZ(K:KB)(Z:List Addr)(D:Ends):Fl->aI->List Addr->Hp->Prop:=λf _ m' H'=>match f with|.nx r=>∀σ,cQ K H' m' Z r σ->D.nx σ H'|.bk r=>∀σ,cQ K H' m' Z r σ->D.bk σ H'|.ct r=>∀σ,cQ K H' m' Z r σ->D.ct σ H'|.rt p=>∀v,aj K H' m' Z p v->D.rt v H'
mutual
theorem aF.sub{Z':List Addr}(sm:∀a∈m',a∈m)(s:∀a∈Z,a∈Z'):∀{x:D} {v:V},aF K H m Z' x v->aF K H m' Z x v
 |.bq,_,h=>h|.bl _,_,h=>h|.int _,_,h=>h|.str _,_,h=>h|.tup xs,v,h=>by obtain⟨a,us,e,q,r⟩:=(show ∃a us,v=.ref a/\H a=some (.tup us)/\au K H m Z' xs us from h);exact⟨a,us,e,q,au.sub sm s r⟩
 |.pl xs,v,h=>by obtain⟨a,us,e,q,hm,hz,r⟩:=(show ∃a us,v=.ref a/\Rd H a (.lst us)/\a∉m/\a∉Z'/\au K H m Z' xs us from h);exact⟨a,us,e,q,λz=>hm (sm a z),λz=>hz (s a z),au.sub sm s r⟩
theorem au.sub{Z':List Addr}(sm:∀a∈m',a∈m)(s:∀a∈Z,a∈Z'):∀{xs:List D} {us:List V},au K H m Z' xs us->au K H m' Z xs us
 |[],_,h=>h|x::xs,us,h=>by obtain⟨v,vs,e,r,rs⟩:=(show ∃v vs,us=v::vs/\aF K H m Z' x v/\au K H m Z' xs vs from h);exact⟨v,vs,e,aF.sub sm s r,au.sub sm s rs⟩
end
theorem aF.uv(s:∀a∈Z,a∈Z')(h:aF K H m Z' x v):aF K H m Z x v:=aF.sub (λ_ h=>h) s h
theorem aF.bare(h:aF K H m Z x v):aF K H [] [] x v:=aF.sub (λ_ h=>by cases h) (λ_ h=>by cases h) h
theorem au.bare(h:au K H m Z x v):au K H [] [] x v:=au.sub (λ_ h=>by cases h) (λ_ h=>by cases h) h
mutual
theorem aj.uv{Z':List Addr}(s:∀a∈Z,a∈Z'):∀{x:P} {v:V},aj K H m Z' x v->aj K H m Z x v
 |.d _,_,h=>by rw[aj] at h ⊢;exact aF.uv s h|.obj _,_,h=>by rw[aj] at h ⊢;exact h|.fV _,_,h=>by rw[aj] at h ⊢;exact h|.fn k bj,v,h=>by rw[aj] at h ⊢;obtain⟨a,c,bM,e,q,hc,r⟩:=h;exact⟨a,c,bM,e,q,hc,ai.uv s r⟩
 |.lf k,v,h=>by rw[aj] at h ⊢;exact h
theorem ai.uv{Z':List Addr}(s:∀a∈Z,a∈Z'):∀{xs:List P} {us:List V},ai K H m Z' xs us->ai K H m Z xs us
 |[],_,h=>h|x::xs,us,h=>by rw[ai] at h ⊢;obtain⟨v,vs,e,r,rs⟩:=h;exact⟨v,vs,e,aj.uv s r,ai.uv s rs⟩
end
mutual
theorem aF.kE{b:Addr}(hb:H b=none):∀{x:D} {v:V},aF K H m Z x v->aF K H m (b::Z) x v
 |.bq,_,h=>h|.bl _,_,h=>h|.int _,_,h=>h|.str _,_,h=>h|.tup xs,v,h=>by obtain⟨a,us,e,q,r⟩:=(show ∃a us,v=.ref a/\H a=some (.tup us)/\au K H m Z xs us from h);exact⟨a,us,e,q,au.kE hb r⟩
 |.pl xs,v,h=>by
  obtain⟨a,us,e,q,hm,hz,r⟩:=(show ∃a us,v=.ref a/\Rd H a (.lst us)/\a∉m/\a∉Z/\au K H m Z xs us from h);refine⟨a,us,e,q,hm,λz=>?_,au.kE hb r⟩;rcases W4.mp z with z|z;·rw[z] at q;exact EN q hb
  ·exact hz z
theorem au.kE{b:Addr}(hb:H b=none):∀{xs:List D} {us:List V},au K H m Z xs us->au K H m (b::Z) xs us
 |[],_,h=>h|x::xs,us,h=>by obtain⟨v,vs,e,r,rs⟩:=(show ∃v vs,us=v::vs/\aF K H m Z x v/\au K H m Z xs vs from h);exact⟨v,vs,e,aF.kE hb r,au.kE hb rs⟩
end
mutual
theorem aj.kE{b:Addr}(hb:H b=none):∀{x:P} {v:V},aj K H m Z x v->aj K H m (b::Z) x v
 |.d _,_,h=>by rw[aj] at h ⊢;exact aF.kE hb h|.obj _,_,h=>by rw[aj] at h ⊢;exact h|.fV _,_,h=>by rw[aj] at h ⊢;exact h|.fn k bj,v,h=>by rw[aj] at h ⊢;obtain⟨a,c,bM,e,q,hc,r⟩:=h;exact⟨a,c,bM,e,q,hc,ai.kE hb r⟩
 |.lf k,v,h=>by rw[aj] at h ⊢;exact h
theorem ai.kE{b:Addr}(hb:H b=none):∀{xs:List P} {us:List V},ai K H m Z xs us->ai K H m (b::Z) xs us
 |[],_,h=>h|x::xs,us,h=>by rw[ai] at h ⊢;obtain⟨v,vs,e,r,rs⟩:=h;exact⟨v,vs,e,aj.kE hb r,ai.kE hb rs⟩
end
theorem aA.O2(A:aA K H m Z st)(h:a∈m):H a≠none:=by
 obtain⟨n,hn,e⟩:=List.mem_iff_getElem.mp h;have DB:n < st.length:=by rw[<-A.len];exact hn
 obtain⟨a',e',r⟩:=A.at_ n st[n] (Vc DB);rw[Vc hn,e] at e';cases e';exact r.qc.1
theorem aA.fresh(A:aA K H m Z st)(h:H a=none):a∉m/\a∉Z:=⟨λz=>A.O2 z h,λz=>A.zt a z (jK h)⟩
theorem lu(hx:∀φ,o≠.ext φ)(h:gH H b≠none):gH (upd H a o) b≠none:=by
 by_cases hb:b=a;·rw[hb,bh aC hx];exact λz=>nomatch z
 ·unfold gH at h ⊢;rw[aw hb];exact h
theorem aA.laid(A:aA K H m Z st)(h:H a=none)o(hx:∀φ,o≠.ext φ:=by exact λ_ z=>nomatch z):aA K (upd H a o) m (a::Z) st:=by
 have e:ji H (upd H a o):=ba h o;have A':=A.same e;refine⟨A.len,A.nd,λn ob hn=>?_,λb hb=>?_,λb hb=>?_,A'.tab⟩;·obtain⟨c,q,r⟩:=A.at_ n ob hn;exact⟨c,q,r.mono (λb u _ hu=>e _ _ hu) λp v z=>(z.kE h).le (Le.same e)⟩
 ·rcases W4.mp hb with z|z;·rw[z,bh aC hx];exact λz=>nomatch z
  ·exact A'.zt b z
 ·rcases W4.mp hb with z|z;·rw[z];exact(A.fresh h).1
  ·exact A.zm b z
theorem aA.O3(A:aA K H m Z st)(h:H a=none)(e:ji H H')(h':gH H' a≠none):aA K H' m (a::Z) st:=by
 refine⟨A.len,A.nd,λn ob hn=>?_,λb hb=>?_,λb hb=>?_,(A.same e).tab⟩;·obtain⟨c,q,r⟩:=A.at_ n ob hn;exact⟨c,q,r.mono (λb u _ hu=>e _ _ hu) λp v z=>(z.kE h).le (Le.same e)⟩
 ·rcases W4.mp hb with z|z;·rw[z];exact h'
  ·exact su e (A.zt b z)
 ·rcases W4.mp hb with z|z;·rw[z];exact(A.fresh h).1
  ·exact A.zm b z
theorem aA.uv(A:aA K H m Z' st)(s:∀a∈Z,a∈Z'):aA K H m Z st:=
 ⟨A.len,A.nd,λn o h=>by obtain⟨a,q,r⟩:=A.at_ n o h;exact⟨a,q,r.mono (λb u _ hu=>hu) λp v z=>z.uv s⟩,λa h=>A.zt a (s a h),λa h=>A.zm a (s a h),A.tab⟩
mutual
theorem aF.adopt{b:Addr}:∀{x:D} {v:V},aF K H m (b::Z) x v->aF K H (m++[b]) Z x v
 |.bq,_,h=>h|.bl _,_,h=>h|.int _,_,h=>h|.str _,_,h=>h|.tup xs,v,h=>by obtain⟨a,us,e,q,r⟩:=(show ∃a us,v=.ref a/\H a=some (.tup us)/\au K H m (b::Z) xs us from h);exact⟨a,us,e,q,au.adopt r⟩
 |.pl xs,v,h=>by
  obtain⟨a,us,e,q,hm,hz,r⟩:=(show ∃a us,v=.ref a/\Rd H a (.lst us)/\a∉m/\a∉b::Z/\au K H m (b::Z) xs us from h);refine⟨a,us,e,q,λz=>?_,λz=>hz (Vb _ z),au.adopt r⟩;rcases Xr.mp z with z|z;·exact hm z
  ·exact hz (by simp at z;rw[z];exact Vh)
theorem au.adopt{b:Addr}:∀{xs:List D} {us:List V},au K H m (b::Z) xs us->au K H (m++[b]) Z xs us
 |[],_,h=>h|x::xs,us,h=>by obtain⟨v,vs,e,r,rs⟩:=(show ∃v vs,us=v::vs/\aF K H m (b::Z) x v/\au K H m (b::Z) xs vs from h);exact⟨v,vs,e,aF.adopt r,au.adopt rs⟩
end
mutual
theorem aj.adopt{b:Addr}:∀{x:P} {v:V},aj K H m (b::Z) x v->aj K H (m++[b]) Z x v
 |.d _,_,h=>by rw[aj] at h ⊢;exact aF.adopt h|.obj n,v,h=>by rw[aj] at h ⊢;obtain⟨a,e,r⟩:=h;exact⟨a,by rw[Vf (List.getElem?_eq_some_iff.mp e).1];exact e,r⟩
 |.fV _,_,h=>by rw[aj] at h ⊢;exact h|.fn k bj,v,h=>by rw[aj] at h ⊢;obtain⟨a,c,bM,e,q,hc,r⟩:=h;exact⟨a,c,bM,e,q,hc,ai.adopt r⟩
 |.lf k,v,h=>by rw[aj] at h ⊢;exact h
theorem ai.adopt{b:Addr}:∀{xs:List P} {us:List V},ai K H m (b::Z) xs us->ai K H (m++[b]) Z xs us
 |[],_,h=>h|x::xs,us,h=>by rw[ai] at h ⊢;obtain⟨v,vs,e,r,rs⟩:=h;exact⟨v,vs,e,aj.adopt r,ai.adopt rs⟩
end
theorem kj{l:List Addr}(nd:l.Nodup)(hi:i < l.length)(hj:j < l.length)(h:l[i]=l[j]):i=j:=by
 rcases Nat.lt_trichotomy i j with z|z|z;·exact absurd h (List.pairwise_iff_getElem.mp nd i j hi hj z)
 ·exact z
 ·exact absurd h.symm (List.pairwise_iff_getElem.mp nd j i hj hi z)
theorem aA.wq(A:aA K H m (a::Z) st)(hz:a∉Z)(r:qr K H m (a::Z) a ob):aA K H (m++[a]) Z (st++[ob]):=by
 refine⟨by rw[Vy,Vy,A.len];rfl,?_,λn o h=>?_,λb h=>A.zt b (Vb _ h),λb h z=>?_,A.tab⟩
 ·refine V5.mpr ⟨A.nd,by simp,λx hx y hy=>?_⟩;have e:y=a:=by simpa using hy
  rw[e];rintro rfl;exact A.zm x Vh hx
 ·by_cases hn:n < st.length;·rw[Vf hn] at h;obtain⟨b,q,rr⟩:=A.at_ n o h;exact⟨b,by rw[Vf (by rw[A.len];exact hn)];exact q,rr.mono (λb u _ hu=>hu) λp v z=>z.adopt⟩
  ·rw[Vz (by omega)] at h;have Rf:n - st.length=0:=by have:=(List.getElem?_eq_some_iff.mp h).1;simp at this;omega
   rw[Rf] at h;cases h;refine⟨a,?_,r.mono (λb u _ hu=>hu) λp v z=>z.adopt⟩;rw[Vz (by rw[A.len];omega),A.len,Rf];rfl
 ·rcases Xr.mp z with z|z;·exact A.zm b (Vb _ h) z
  ·have e:b=a:=by simpa using z
   rw[e] at h;exact hz h
theorem aA.adopt(A:aA K H m (a::Z) st)(hz:a∉Z)(ha:H a=some (.lst vs))(r:ai K H m (a::Z) ps vs):aA K H (m++[a]) Z (st++[.lst ps]):=A.wq hz ⟨vs,ha,r⟩
theorem aA.write(A:aA K H m Z st)(hn:st[n]?=some o)(ha:m[n]?=some a)(oq:∀H',H' a=some ho->(∀b u,b≠a->H b=some u->H' b=some u)->(∀p v,aj K H m Z p v->aj K H' m Z p v)->qr K H' m Z a o')(hx:∀φ,ho≠.ext φ:=by exact λ_ z=>nomatch z)(hl:o≠.vf:=by exact λz=>nomatch z):
  Le K m H m (upd H a ho)/\aA K (upd H a ho) m Z (st.set n o'):=by
 obtain⟨a',e,r⟩:=A.at_ n o hn;rw[ha] at e;cases e;obtain⟨t1,t2,t3,t4,t5,t6⟩:=r.qc;replace t3:=t3 hl;have le:Le K m H m (upd H a ho):=by
  refine⟨⟨[],by simp⟩,λb xs h=>?_,λb u h hb _=>?_,λb h=>.inl h,λb h=>?_,λb h=>lu hx h,λb o u h=>?_,λb φ h=>?_,λb ps h=>⟨#[],?_⟩⟩;·rw[aw (λz=>t2 xs (by rw[<-z];exact h))];exact h
  ·rw[aw (λz=>hb (by rw[z];exact VC ha))];exact h
  ·by_cases Lm:b=a;·rw[Lm,aC];exact λz=>nomatch z
   ·rw[aw Lm];exact h
  ·rw[aw (λz=>t3 o u (by rw[<-z];exact h))];exact h
  ·rw[aw (λz=>t4 φ (by rw[<-z];exact h))];exact h
  ·rw[aw (λz=>t5 ps (by rw[<-z];exact h)),h];simp
 refine⟨le,⟨by rw[WJ];exact A.len,A.nd,λk ob hk=>?_,λb hb=>le.Bp b (A.zt b hb),A.zm,λt ht=>?_⟩⟩
 rotate_left
 ·obtain⟨ps,h1,h2⟩:=A.tab t ht;exact⟨ps,by rw[aw (λz=>t5 ps (by rw[<-z];exact h1))];exact h1,fO.same le.ext h2⟩
 by_cases Lo:n=k;·subst Lo;have fM:=(List.getElem?_eq_some_iff.mp hn).1;rw[VB fM] at hk;cases hk;exact⟨a,ha,oq _ aC (λb u hb hu=>by rw[aw hb];exact hu) λp v z=>z.le le⟩
 ·rw[Ve Lo] at hk;obtain⟨b,q,rr⟩:=A.at_ k ob hk;have Lm:b≠a:=by rintro rfl;have h1:=(List.getElem?_eq_some_iff.mp ha);have h2:=(List.getElem?_eq_some_iff.mp q);obtain⟨l1,e1⟩:=h1;obtain⟨l2,e2⟩:=h2;exact Lo (kj A.nd l1 l2 (e1.trans e2.symm))
  exact⟨b,q,rr.mono (λb' u iP hu=>by
   rw[aw (λz=>by
    rcases iP with w1|w1;·exact Lm (w1▸z)
    ·exact t6 b (by rw[<-z];exact w1))]
   exact hu) λp v z=>z.le le⟩
end
mutual
def RH(h:Heap):D->Value->Prop
 |.bq,u=>u=.none|.bl b,u=>u=.bool b|.int i,u=>∃t,u=.int i t|.str x,u=>∃t,u=.str x t|.tup xs,u=>∃a its,u=.ref a/\h.IsTuple a its.toArray/\tZ h xs its|.pl xs,u=>∃a its,u=.ref a/\h.IsList a its.toArray/\tZ h xs its
def tZ(h:Heap):List D->List Value->Prop
 |[],us=>us=[]|x::xs,us=>∃u r,us=u::r/\RH h x u/\tZ h xs r
end
section
variable{h:Heap}
theorem tZ.length:∀{xs} {us},tZ h xs us->us.length=xs.length
 |[],us,r=>by cases (show us=[] from r);rfl|x::xs,us,r=>by obtain⟨u,q,rfl,_,rs⟩:=(show ∃u r,us=u::r/\RH h x u/\tZ h xs r from r);rw[Vt,Vt,tZ.length rs]
theorem p4(p:h.IsTuple a x)(q:h.IsTuple a y):x=y:=by obtain⟨o,e,_,n,d⟩:=p;obtain⟨o',e',_,n',d'⟩:=q;rw[e] at e';cases e';rw[d] at d';cases d';rfl
theorem sv(p:h.IsList a x)(q:h.IsList a y):x=y:=by obtain⟨o,e,_,n,d⟩:=p;obtain⟨o',e',_,n',d'⟩:=q;rw[e] at e';cases e';rw[d] at d';cases d';rfl
theorem yi(p:h.IsTuple a x)(q:h.IsList a y):False:=by obtain⟨o,e,c,_⟩:=p;obtain⟨o',e',c',_⟩:=q;rw[e] at e';cases e';rw[c] at c';exact absurd c' (by decide+kernel)
mutual
theorem RH.self:∀{x y:D} {u:Value},RH h x u->RH h y u->lK x y=true
 |.bq,y,u,p,q=>by cases (show u=.none from p);cases y with|bq=>rfl|bl b=>exact nomatch (show Xi=.bool b from q)|int i=>obtain⟨t,e⟩:=q;exact nomatch e|str i=>obtain⟨t,e⟩:=q;exact nomatch e|tup i=>obtain⟨t,_,e,_⟩:=q;exact nomatch e|pl i=>obtain⟨t,_,e,_⟩:=q;exact nomatch e
 |.bl b,y,u,p,q=>by cases (show u=.bool b from p);cases y with|bq=>exact nomatch (show YA b=.none from q)|bl c=>cases (show YA b=.bool c from q);simp[lK]|int i=>obtain⟨t,e⟩:=q;exact nomatch e|str i=>obtain⟨t,e⟩:=q;exact nomatch e|tup i=>obtain⟨t,_,e,_⟩:=q;exact nomatch e|pl i=>obtain⟨t,_,e,_⟩:=q;exact nomatch e
 |.int b,y,u,p,q=>by obtain⟨t0,rfl⟩:=p;cases y with|bq=>exact nomatch (show Y6 b t0=.none from q)|bl c=>exact nomatch (show Y6 b t0=.bool c from q)|int i=>obtain⟨t,e⟩:=q;cases e;simp[lK]|str i=>obtain⟨t,e⟩:=q;exact nomatch e|tup i=>obtain⟨t,_,e,_⟩:=q;exact nomatch e|pl i=>obtain⟨t,_,e,_⟩:=q;exact nomatch e
 |.str b,y,u,p,q=>by obtain⟨t0,rfl⟩:=p;cases y with|bq=>exact nomatch (show Y5 b t0=.none from q)|bl c=>exact nomatch (show Y5 b t0=.bool c from q)|int i=>obtain⟨t,e⟩:=q;exact nomatch e|str i=>obtain⟨t,e⟩:=q;cases e;simp[lK]|tup i=>obtain⟨t,_,e,_⟩:=q;exact nomatch e|pl i=>obtain⟨t,_,e,_⟩:=q;exact nomatch e
 |.tup xs,y,u,p,q=>by
  obtain⟨a,its,rfl,ht,rs⟩:=p;cases y with
  |bq=>exact nomatch (show VJ a=.none from q)|bl c=>exact nomatch (show VJ a=.bool c from q)|int i=>obtain⟨t,e⟩:=q;exact nomatch e|str i=>obtain⟨t,e⟩:=q;exact nomatch e|tup ys=>
   obtain⟨b,its',e,vm,uw⟩:=q;cases e;have e2:its=its':=by simpa using p4 ht vm
   subst e2;show fW xs ys=true;exact tZ.self rs uw
  |pl ys=>obtain⟨b,its',e,vm,uw⟩:=q;cases e;exact(yi ht vm).elim
 |.pl xs,y,u,p,q=>by
  obtain⟨a,its,rfl,ht,rs⟩:=p;cases y with
  |bq=>exact nomatch (show VJ a=.none from q)|bl c=>exact nomatch (show VJ a=.bool c from q)|int i=>obtain⟨t,e⟩:=q;exact nomatch e|str i=>obtain⟨t,e⟩:=q;exact nomatch e|tup ys=>obtain⟨b,its',e,vm,uw⟩:=q;cases e;exact(yi vm ht).elim
  |pl ys=>
   obtain⟨b,its',e,vm,uw⟩:=q;cases e;have e2:its=its':=by simpa using sv ht vm
   subst e2;show fW xs ys=true;exact tZ.self rs uw
theorem tZ.self:∀{xs ys:List D} {us:List Value},tZ h xs us->tZ h ys us->fW xs ys=true
 |[],ys,us,p,q=>by cases (show us=[] from p);cases ys with|nil=>rfl|cons y ys=>obtain⟨u,r,e,_⟩:=q;exact nomatch e
 |x::xs,ys,us,p,q=>by obtain⟨u,r,rfl,p1,p2⟩:=(show ∃u r,us=u::r/\RH h x u/\tZ h xs r from p);cases ys with|nil=>exact nomatch (show u::r=[] from q)|cons y ys=>obtain⟨u',r',e,q1,q2⟩:=(show ∃u' r',u::r=u'::r'/\RH h y u'/\tZ h ys r' from q);cases e;show(lK x y&&fW xs ys)=true;rw[RH.self p1 q1,tZ.self p2 q2];rfl
end
def pairD(xs ys:List D)(j:Nat):Bool:=lK (xs.getD j .bq) (ys.getD j .bq)
theorem nE:∀xs ys,((U8 (min xs.length ys.length)).all (pairD xs ys)&&xs.length==ys.length)=fW xs ys
 |[],[]=>rfl|[],_::_=>by simp[fW]|_::_,[]=>by simp[fW]|x::xs,y::ys=>by
  have ih:=nE xs ys;have e1:min (x::xs).length (y::ys).length=min xs.length ys.length+1:=by simp only[Vt];omega
  have e2:((x::xs).length==(y::ys).length)=(xs.length==ys.length):=by simp
  have e3:(U8 (min xs.length ys.length+1)).all (pairD (x::xs) (y::ys))=(lK x y&&(U8 (min xs.length ys.length)).all (pairD xs ys)):=by rw[List.range_succ_eq_map,XA,List.all_map];first|rfl|simp[pairD,Wj]
  rw[e1,e2,e3,fW,<-ih,Bool.and_assoc]
theorem yj(h:xs.length=ys.length):(U8 xs.length).all (pairD xs ys)=fW xs ys:=by have:=nE xs ys;rw[<-h,Nat.min_self] at this;simpa using this
theorem sx(h:xs.length≠ys.length):fW xs ys=false:=by rw[<-nE xs ys];simp[h]
open SeqAt
mutual
theorem O4:∀(x y:D) (A:WN) (s:Vv) (u v:Value),RH s.heap x u->RH s.heap y v->A.units+min (g9 x) (g9 y) < cLine->RcAt A s u v (lK x y)/\RcNeAt A s u v (!lK x y)
 |.bq,y,A,s,u,v,p,q,hu=>by cases (show u=.none from p);cases y with|bq=>cases (show v=.none from q);exact⟨RcAt.none_none,RcNeAt.none_none⟩|bl b=>cases (show v=.bool b from q);exact⟨RcAt.none_bool b,RcNeAt.none_bool b⟩|int b=>obtain⟨t,rfl⟩:=q;exact⟨RcAt.none_int b t,RcNeAt.none_int b t⟩|str b=>obtain⟨t,rfl⟩:=q;exact⟨RcAt.none_str b t,RcNeAt.none_str b t⟩|tup ys=>obtain⟨a,its,rfl,hl,_⟩:=q;exact⟨RcAt.none_tuple hl (room_here hu),RcNeAt.none_tuple hl (room_here hu)⟩|pl ys=>obtain⟨a,its,rfl,hl,_⟩:=q;exact⟨RcAt.none_list hl (room_here hu),RcNeAt.none_list hl (room_here hu)⟩
 |.bl x,y,A,s,u,v,p,q,hu=>by cases (show u=.bool x from p);cases y with|bq=>cases (show v=.none from q);exact⟨RcAt.bool_none x,RcNeAt.bool_none x⟩|bl b=>cases (show v=.bool b from q);exact⟨RcAt.bool_bool x b,RcNeAt.bool_bool x b⟩|int b=>obtain⟨t,rfl⟩:=q;exact⟨RcAt.bool_int x b t,RcNeAt.bool_int x b t⟩|str b=>obtain⟨t,rfl⟩:=q;exact⟨RcAt.bool_str x b t,RcNeAt.bool_str x b t⟩|tup ys=>obtain⟨a,its,rfl,hl,_⟩:=q;exact⟨RcAt.bool_tuple x hl (room_here hu),RcNeAt.bool_tuple x hl (room_here hu)⟩|pl ys=>obtain⟨a,its,rfl,hl,_⟩:=q;exact⟨RcAt.bool_list x hl (room_here hu),RcNeAt.bool_list x hl (room_here hu)⟩
 |.int x,y,A,s,u,v,p,q,hu=>by obtain⟨t0,rfl⟩:=p;cases y with|bq=>cases (show v=.none from q);exact⟨RcAt.int_none x t0,RcNeAt.int_none x t0⟩|bl b=>cases (show v=.bool b from q);exact⟨RcAt.int_bool x t0 b,RcNeAt.int_bool x t0 b⟩|int b=>obtain⟨t,rfl⟩:=q;exact⟨RcAt.int_int x t0 b t,RcNeAt.int_int x t0 b t⟩|str b=>obtain⟨t,rfl⟩:=q;exact⟨RcAt.int_str x t0 b t,RcNeAt.int_str x t0 b t⟩|tup ys=>obtain⟨a,its,rfl,hl,_⟩:=q;exact⟨RcAt.int_tuple x t0 hl (room_here hu),RcNeAt.int_tuple x t0 hl (room_here hu)⟩|pl ys=>obtain⟨a,its,rfl,hl,_⟩:=q;exact⟨RcAt.int_list x t0 hl (room_here hu),RcNeAt.int_list x t0 hl (room_here hu)⟩
 |.str x,y,A,s,u,v,p,q,hu=>by obtain⟨t0,rfl⟩:=p;cases y with|bq=>cases (show v=.none from q);exact⟨RcAt.str_none x t0,RcNeAt.str_none x t0⟩|bl b=>cases (show v=.bool b from q);exact⟨RcAt.str_bool x t0 b,RcNeAt.str_bool x t0 b⟩|int b=>obtain⟨t,rfl⟩:=q;exact⟨RcAt.str_int x t0 b t,RcNeAt.str_int x t0 b t⟩|str b=>obtain⟨t,rfl⟩:=q;exact⟨RcAt.str_str x t0 b t,RcNeAt.str_str x t0 b t⟩|tup ys=>obtain⟨a,its,rfl,hl,_⟩:=q;exact⟨RcAt.str_tuple x t0 hl (room_here hu),RcNeAt.str_tuple x t0 hl (room_here hu)⟩|pl ys=>obtain⟨a,its,rfl,hl,_⟩:=q;exact⟨RcAt.str_list x t0 hl (room_here hu),RcNeAt.str_list x t0 hl (room_here hu)⟩
 |.tup xs,y,A,s,u,v,p,q,hu=>by
  obtain⟨a,its,rfl,hl,rs⟩:=p;cases y with
  |bq=>cases (show v=.none from q);exact⟨RcAt.tuple_none hl (room_here hu),RcNeAt.tuple_none hl (room_here hu)⟩|bl b=>cases (show v=.bool b from q);exact⟨RcAt.tuple_bool b hl (room_here hu),RcNeAt.tuple_bool b hl (room_here hu)⟩|int b=>obtain⟨t,rfl⟩:=q;exact⟨RcAt.tuple_int b t hl (room_here hu),RcNeAt.tuple_int b t hl (room_here hu)⟩|str b=>obtain⟨t,rfl⟩:=q;exact⟨RcAt.tuple_str b t hl (room_here hu),RcNeAt.tuple_str b t hl (room_here hu)⟩|pl ys=>obtain⟨b,its',rfl,ny,_⟩:=q;exact⟨RcAt.tuple_list hl ny (room_here hu),RcNeAt.tuple_list hl ny (room_here hu)⟩|tup ys=>
   obtain⟨b,its',rfl,ny,uw⟩:=q;have n1:its.toArray.size=xs.length:=by rw[Vp];exact rs.length
   have n2:its'.toArray.size=ys.length:=by rw[Vp];exact uw.length
   have he:∀j (j1:j < its.toArray.size) (j2:j < its'.toArray.size),EqAt A.in1 s its.toArray[j] its'.toArray[j] (pairD xs ys j):=λj j1 j2=>by have:=yk xs ys A.in1 s its its' rs uw (room_in hu) j (by simpa using j1) (by simpa using j2);simpa using this
   show RcAt A s (.ref a) (.ref b) (fW xs ys)/\RcNeAt A s (.ref a) (.ref b) (!fW xs ys);rw[<-nE xs ys,<-n1,<-n2];exact⟨RcAt.tuples hl ny (room_here hu) he,RcNeAt.tuples hl ny (room_here hu) he⟩
 |.pl xs,y,A,s,u,v,p,q,hu=>by
  obtain⟨a,its,rfl,hl,rs⟩:=p;cases y with
  |bq=>cases (show v=.none from q);exact⟨RcAt.list_none hl (room_here hu),RcNeAt.list_none hl (room_here hu)⟩|bl b=>cases (show v=.bool b from q);exact⟨RcAt.list_bool b hl (room_here hu),RcNeAt.list_bool b hl (room_here hu)⟩|int b=>obtain⟨t,rfl⟩:=q;exact⟨RcAt.list_int b t hl (room_here hu),RcNeAt.list_int b t hl (room_here hu)⟩|str b=>obtain⟨t,rfl⟩:=q;exact⟨RcAt.list_str b t hl (room_here hu),RcNeAt.list_str b t hl (room_here hu)⟩|tup ys=>obtain⟨b,its',rfl,ny,_⟩:=q;exact⟨RcAt.list_tuple hl ny (room_here hu),RcNeAt.list_tuple hl ny (room_here hu)⟩|pl ys=>
   obtain⟨b,its',rfl,ny,uw⟩:=q;have n1:its.toArray.size=xs.length:=by rw[Vp];exact rs.length
   have n2:its'.toArray.size=ys.length:=by rw[Vp];exact uw.length
   have he:∀j (j1:j < its.toArray.size) (j2:j < its'.toArray.size),EqAt A.in1 s its.toArray[j] its'.toArray[j] (pairD xs ys j):=λj j1 j2=>by have:=yk xs ys A.in1 s its its' rs uw (room_in hu) j (by simpa using j1) (by simpa using j2);simpa using this
   show RcAt A s (.ref a) (.ref b) (fW xs ys)/\RcNeAt A s (.ref a) (.ref b) (!fW xs ys);by_cases hsz:its.toArray.size=its'.toArray.size;·rw[<-yj (by omega:xs.length=ys.length),<-n1];exact⟨RcAt.lists hl ny hsz (room_here hu) he,RcNeAt.lists hl ny hsz (room_here hu) he⟩
   ·rw[sx (by omega:xs.length≠ys.length)];exact⟨RcAt.lists_lengths hl ny (by simpa using hsz) (room_here hu),RcNeAt.lists_lengths hl ny (by simpa using hsz) (room_here hu)⟩
theorem Tz:∀(x y:D) (A:WN) (s:Vv) (u v:Value),RH s.heap x u->RH s.heap y v->A.units+min (g9 x) (g9 y) < cLine->EqAt A s u v (lK x y)
 |.bq,y,A,s,u,v,p,q,hu=>by cases (show u=.none from p);cases y with|bq=>cases (show v=.none from q);exact EqAt.same _|bl b=>cases (show v=.bool b from q);exact EqAt.none_bool b|int b=>obtain⟨t,rfl⟩:=q;exact EqAt.none_int b t|str b=>obtain⟨t,rfl⟩:=q;exact EqAt.none_str b t|tup ys=>obtain⟨a,its,rfl,hl,_⟩:=q;exact EqAt.none_tuple hl (room_here hu)|pl ys=>obtain⟨a,its,rfl,hl,_⟩:=q;exact EqAt.none_list hl (room_here hu)
 |.bl x,y,A,s,u,v,p,q,hu=>by cases (show u=.bool x from p);cases y with|bq=>cases (show v=.none from q);exact EqAt.bool_none x|bl b=>cases (show v=.bool b from q);exact EqAt.bool_bool x b|int b=>obtain⟨t,rfl⟩:=q;exact EqAt.bool_int x b t|str b=>obtain⟨t,rfl⟩:=q;exact EqAt.bool_str x b t|tup ys=>obtain⟨a,its,rfl,hl,_⟩:=q;exact EqAt.bool_tuple x hl (room_here hu)|pl ys=>obtain⟨a,its,rfl,hl,_⟩:=q;exact EqAt.bool_list x hl (room_here hu)
 |.int x,y,A,s,u,v,p,q,hu=>by obtain⟨t0,rfl⟩:=p;cases y with|bq=>cases (show v=.none from q);exact EqAt.int_none x t0|bl b=>cases (show v=.bool b from q);exact EqAt.int_bool x t0 b|int b=>obtain⟨t,rfl⟩:=q;exact EqAt.int_int x t0 b t|str b=>obtain⟨t,rfl⟩:=q;exact EqAt.int_str x t0 b t|tup ys=>obtain⟨a,its,rfl,hl,_⟩:=q;exact EqAt.int_tuple x t0 hl (room_here hu)|pl ys=>obtain⟨a,its,rfl,hl,_⟩:=q;exact EqAt.int_list x t0 hl (room_here hu)
 |.str x,y,A,s,u,v,p,q,hu=>by obtain⟨t0,rfl⟩:=p;cases y with|bq=>cases (show v=.none from q);exact EqAt.str_none x t0|bl b=>cases (show v=.bool b from q);exact EqAt.str_bool x t0 b|int b=>obtain⟨t,rfl⟩:=q;exact EqAt.str_int x t0 b t|str b=>obtain⟨t,rfl⟩:=q;exact EqAt.str_str x t0 b t|tup ys=>obtain⟨a,its,rfl,hl,_⟩:=q;exact EqAt.str_tuple x t0 hl (room_here hu)|pl ys=>obtain⟨a,its,rfl,hl,_⟩:=q;exact EqAt.str_list x t0 hl (room_here hu)
 |.tup xs,y,A,s,u,v,p,q,hu=>by
  obtain⟨a,its,rfl,hl,rs⟩:=p;cases y with
  |bq=>cases (show v=.none from q);exact EqAt.tuple_none hl (room_here hu)|bl b=>cases (show v=.bool b from q);exact EqAt.tuple_bool b hl (room_here hu)|int b=>obtain⟨t,rfl⟩:=q;exact EqAt.tuple_int b t hl (room_here hu)|str b=>obtain⟨t,rfl⟩:=q;exact EqAt.tuple_str b t hl (room_here hu)|pl ys=>obtain⟨b,its',rfl,ny,_⟩:=q;exact EqAt.tuple_list hl ny (room_here hu)|tup ys=>
   obtain⟨b,its',rfl,ny,uw⟩:=q;have n1:its.toArray.size=xs.length:=by rw[Vp];exact rs.length
   have n2:its'.toArray.size=ys.length:=by rw[Vp];exact uw.length
   have he:∀j (j1:j < its.toArray.size) (j2:j < its'.toArray.size),EqAt A.in1 s its.toArray[j] its'.toArray[j] (pairD xs ys j):=λj j1 j2=>by have:=yk xs ys A.in1 s its its' rs uw (room_in hu) j (by simpa using j1) (by simpa using j2);simpa using this
   show EqAt A s (.ref a) (.ref b) (fW xs ys);by_cases Lp:a=b
   ·subst Lp;have e2:its=its':=by simpa using p4 hl ny
    subst e2;rw[tZ.self rs uw];exact EqAt.same _
   ·rw[<-nE xs ys,<-n1,<-n2];exact EqAt.of_refs Lp (RcAt.tuples hl ny (room_here hu) he)
 |.pl xs,y,A,s,u,v,p,q,hu=>by
  obtain⟨a,its,rfl,hl,rs⟩:=p;cases y with
  |bq=>cases (show v=.none from q);exact EqAt.list_none hl (room_here hu)|bl b=>cases (show v=.bool b from q);exact EqAt.list_bool b hl (room_here hu)|int b=>obtain⟨t,rfl⟩:=q;exact EqAt.list_int b t hl (room_here hu)|str b=>obtain⟨t,rfl⟩:=q;exact EqAt.list_str b t hl (room_here hu)|tup ys=>obtain⟨b,its',rfl,ny,_⟩:=q;exact EqAt.list_tuple hl ny (room_here hu)|pl ys=>
   obtain⟨b,its',rfl,ny,uw⟩:=q;have n1:its.toArray.size=xs.length:=by rw[Vp];exact rs.length
   have n2:its'.toArray.size=ys.length:=by rw[Vp];exact uw.length
   have he:∀j (j1:j < its.toArray.size) (j2:j < its'.toArray.size),EqAt A.in1 s its.toArray[j] its'.toArray[j] (pairD xs ys j):=λj j1 j2=>by have:=yk xs ys A.in1 s its its' rs uw (room_in hu) j (by simpa using j1) (by simpa using j2);simpa using this
   show EqAt A s (.ref a) (.ref b) (fW xs ys);by_cases Lp:a=b
   ·subst Lp;have e2:its=its':=by simpa using sv hl ny
    subst e2;rw[tZ.self rs uw];exact EqAt.same _
   ·by_cases hsz:its.toArray.size=its'.toArray.size;·rw[<-yj (by omega:xs.length=ys.length),<-n1];exact EqAt.of_refs Lp (RcAt.lists hl ny hsz (room_here hu) he)
    ·rw[sx (by omega:xs.length≠ys.length)];exact EqAt.of_refs Lp (RcAt.lists_lengths hl ny (by simpa using hsz) (room_here hu))
theorem yk:∀(xs ys:List D) (A:WN) (s:Vv) (us vs:List Value),tZ s.heap xs us->tZ s.heap ys vs->A.units+min (gp xs) (gp ys) < cLine->
  ∀j (h1:j < us.length) (h2:j < vs.length),EqAt A s us[j] vs[j] (pairD xs ys j)
 |[],_,_,_,us,_,ra,_,_,j,h1,_=>by cases (show us=[] from ra);exact absurd h1 (XI _)|_::_,[],_,_,_,vs,_,rb,_,j,_,h2=>by cases (show vs=[] from rb);exact absurd h2 (XI _)|x::xs,y::ys,A,s,us,vs,ra,rb,hu,j,h1,h2=>by obtain⟨u,r,rfl,p1,p2⟩:=(show ∃u r,us=u::r/\RH s.heap x u/\tZ s.heap xs r from ra);obtain⟨v,r',rfl,q1,q2⟩:=(show ∃u r,vs=u::r/\RH s.heap y u/\tZ s.heap ys r from rb);cases j with|zero=>exact Tz x y A s u v p1 q1 (room_head hu)|succ j=>exact yk xs ys A s r r' p2 q2 (room_tail hu) j (Nat.lt_of_succ_lt_succ h1) (Nat.lt_of_succ_lt_succ h2)
end
end
section
variable{X:Cx}{pins:List (Addr×Obj)}{σ:St}{H:Hp}{s:Vv}{m Z:List Addr}
mutual
theorem aF.rh(I:Inv X pins σ H s):∀{x:D} {v:V} {u:Value},aF (af X kt) H m Z x v->RelV v u->RH s.heap x u
 |.bq,v,u,p,r=>by cases (show v=.bq from p);exact r|.bl b,v,u,p,r=>by cases (show v=.bl b from p);exact r|.int b,v,u,p,r=>by cases (show v=.int b from p);exact r|.str b,v,u,p,r=>by cases (show v=.str b from p);exact r|.tup xs,v,u,p,r=>by obtain⟨a,us,rfl,q,rs⟩:=(show ∃a us,v=.ref a/\H a=some (.tup us)/\au (af X kt) H m Z xs us from p);cases (show u=.ref a from r);obtain⟨its,rv,ht,_⟩:=I.tuple (fI.of q);exact⟨a,its,rfl,ht,au.rh I rs rv⟩
 |.pl xs,v,u,p,r=>by obtain⟨a,us,rfl,q,_,_,rs⟩:=(show ∃a us,v=.ref a/\Rd H a (.lst us)/\a∉m/\a∉Z/\au (af X kt) H m Z xs us from p);cases (show u=.ref a from r);obtain⟨its,rv,ht,_⟩:=I.list (.inl q);exact⟨a,its,rfl,ht.isList,au.rh I rs rv⟩
theorem au.rh(I:Inv X pins σ H s):∀{xs:List D} {vs:List V} {us:List Value},au (af X kt) H m Z xs vs->aP vs us->tZ s.heap xs us
 |[],vs,us,p,r=>by cases (show vs=[] from p);cases r;rfl|x::xs,vs,us,p,r=>by obtain⟨v,w',rfl,p1,p2⟩:=(show ∃v w',vs=v::w'/\aF (af X kt) H m Z x v/\au (af X kt) H m Z xs w' from p);cases r with|cons r1 r2=>exact⟨_,_,rfl,aF.rh I p1 r1,au.rh I p2 r2⟩
end
theorem Lq(hu:X.A.units+100 < cLine):kf X (WC .Eq) (λv u H Q=>∃m Z x y k,aF (af X kt) H m Z x v/\aF (af X kt) H m Z y u/\qW x y=some k/\Q (.bl k) H):=by
 intro pins s σ H v u a b Q I rx ry h;obtain⟨m,Z,x,y,k,p,q,e,hq⟩:=h;unfold qW at e;split at e;·rename_i hd;cases e;exact(O4 x y X.A s a b (p.rh I rx) (q.rh I ry) (by omega)).1 X.prog X.w X.xe _ ⟨.bl (lK x y),H,I,rfl,hq⟩
 ·cases e
theorem Lr(hu:X.A.units+100 < cLine):kf X (WC .NotEq) (λv u H Q=>∃m Z x y k,aF (af X kt) H m Z x v/\aF (af X kt) H m Z y u/\qW x y=some k/\Q (.bl (!k)) H):=by
 intro pins s σ H v u a b Q I rx ry h;obtain⟨m,Z,x,y,k,p,q,e,hq⟩:=h;unfold qW at e;split at e;·rename_i hd;cases e;exact(O4 x y X.A s a b (p.rh I rx) (q.rh I ry) (by omega)).2 X.prog X.w X.xe _ ⟨.bl (!lK x y),H,I,rfl,hq⟩
 ·cases e
end
end Y
namespace Y
open PySem L2 PySem.Spec PyProof.Rows
structure G where
 N:List Str
 names:List (Str×XO)
 fns:List (Str×Nat)
 iq:List (Str×Int)
 tabs:List (Str×List (Str×Int))
 O5:Nat->Ye->Expr->Scope->Pos->Bool:=λ_ _ _ _ _=>false
 O6:Nat->Nat->Str->Ye->List Stmt->Scope->Pos->Bool:=λ_ _ _ _ _ _ _=>false
 sA:Nat->Str->Nat->List (Nat×List Nat)->Bool:=λ_ _ _ _=>false
 O7:Nat->Str->List (Nat×List Nat)->Bool:=λ_ _ _=>false
 xn:Str->Str->Bool:=λ_ _=>false
 zP:Nat->Str->Str->Nat->Bool:=λ_ _ _ _=>false
 zQ:Nat->Str->Nat->Bool:=λ_ _ _=>false
 cv:Bool:=true
def notStar:Expr->Bool
 |.Starred _ _=>false|_=>true
def G.wu(g:G)(x:Str):Bool:=match g.names.lookup x with|some .local=>true|some .cell=>true|some .free=>true|_=>false
def G.gl(g:G)(x:Str):Bool:=decide (g.names.lookup x=some .globalImplicit)
def aQ(x:Str):Bool:=!(x==("__debug__":Str))&&!(x==("__classdict__":Str))&&!(x==("__name__":Str))
def Bq:O0->Operator
 |.add=>.Add|.sub=>.Sub|.mul=>.Mult|.mod=>.Mod
def jY:JI->CmpOp
 |.lt=>.Lt|.le=>.LtE|.gt=>.Gt|.ge=>.GtE|.eq=>.Eq|.ne=>.NotEq|.isin=>.In|.nA=>.NotIn
def wy:Bf->Str
 |.len=>"len"|.any=>"any"|.tuple=>"tuple"
def lx:List String:=["int","bool","tuple","str","list"]
def wz:Expr->Bool
 |.Slice _ _ _ _=>true|_=>false
def mw:Expr->Bool
 |.ListComp _ _ _ _=>true|.SetComp _ _ _ _=>true|.DictComp _ _ _ _ _=>true|_=>false
def cg:Expr->Bool
 |.Set _ _ _=>true|_=>false
def Hr(g:G)(N:List Str)(js:List Nat)(sc:Scope):Bool:=
 decide (sc.kind=.function)&&decide (N.length=1+js.length)&&
 sc.names.all (λx=>decide (x.2≠.cell)&&(decide (x.2≠.local)||decide (sc.names.lookup x.1=some .local))&&(decide (x.2≠.free)||(decide (g.names.lookup x.1=some .cell)||decide (g.names.lookup x.1=some .free))))&&
 (U8 js.length).all (λi=>match N[1+i]?,js[i]? with
  |some y,some j=>decide (g.N[j]?=some y)&&decide (sc.names.lookup y=some .free)
  |_,_=>true)
def gW(g:G)(x:Str)(js:List Nat):List Str:=x::js.map λj=>(g.N[j]?).getD "?"
def G.inner(g:G)(N:List Str)(sc:Scope):G:={N:=N,names:=sc.names,fns:=g.fns,iq:=g.iq,tabs:=g.tabs,cv:=g.cv,xn:=g.xn,zP:=g.zP,zQ:=g.zQ}
def isCall:Expr->Bool
 |.Call f xs ks _=>match f with|.Name _ _=>xs.isEmpty&&ks.isEmpty|_=>false
 |_=>false
def isM1(e:Expr):Bool:=match e with
 |.UnaryOp op c _=>match c with|.Constant k _ _=>decide (op=.USub)&&decide (k=.int 1)|_=>false
 |_=>false
def AE:W->Bool
 |.enum _=>true|_=>false
def ym(d:D)(e:Expr):Bool:=match e with
 |.Constant c _ _=>match d with|.int i=>decide (c=.int i)|.bl i=>decide (c=.bool i)|.bq=>decide (c=.none)|.str i=>decide (c=.str i)|_=>false
 |_=>false
def Br(g:G)(k:E)(e:Expr):Bool:=match k with
 |.var i=>match e with|.Name x _=>decide (g.N[i]?=some x)&&g.wu x&&aQ x|_=>false
 |.cst d=>ym d e|_=>false
mutual
def cF(g:G):E->Expr->Bool
 |.var i=>λe=>match e with|.Name x _=>decide (g.N[i]?=some x)&&g.wu x&&aQ x|_=>false
 |.cst d=>λe=>match e with
  |.Constant c _ _=>match d with|.int i=>decide (c=.int i)|.bl i=>decide (c=.bool i)|.bq=>decide (c=.none)|.str i=>decide (c=.str i)|_=>false
  |.Name x _=>match d with|.int i=>g.gl x&&decide (g.iq.lookup x=some i)&&aQ x|_=>false
  |_=>false
 |.op o a b=>λe=>match e with|.BinOp x p y _=>decide (p=Bq o)&&cF g a x&&cF g b y|_=>false
 |.not a=>λe=>match e with|.UnaryOp op x _=>decide (op=.Not)&&cF g a x|_=>false
 |.cmp o a b=>λe=>match e with
  |.Compare x ops ys _=>match ops with
   |p::r=>match ys with|y::s=>r.isEmpty&&s.isEmpty&&decide (p=jY o)&&cF g a x&&cF g b y&&!cg y|[]=>false
   |[]=>false
  |_=>false
 |.chain o o' a b c=>λe=>match e with
  |.Compare x ops ys _=>match ops with
   |p::r=>match r with
    |q::r'=>match ys with
     |y::s=>match s with|z::s'=>r'.isEmpty&&s'.isEmpty&&decide (p=jY o)&&decide (q=jY o')&&cF g a x&&cF g b y&&cF g c z&&!cg y&&!cg z|[]=>false
     |[]=>false
    |[]=>false
   |[]=>false
  |_=>false
 |.and es=>λe=>match e with|.BoolOp op xs _=>decide (op=.And)&&gu g es xs|_=>false
 |.or es=>λe=>match e with|.BoolOp op xs _=>decide (op=.Or)&&gu g es xs|_=>false
 |.tup es=>λe=>match e with|.Tuple xs _ _=>gu g es xs|_=>false
 |.lst _ l=>λe=>sA g l e
 |.call f es=>λe=>match e with
  |.Call f0 xs iI _=>match f0 with|.Name x _=>iI.isEmpty&&decide (g.fns[f]?=some (x,es.length))&&g.gl x&&aQ x&&gu g es xs|_=>false
  |_=>false
 |.Gn a T=>λe=>match e with
  |.Call f0 xs iI _=>match f0 with
   |.Name n _=>match xs with
    |x::r=>match r with
     |t0::r'=>match t0 with|.Name t _=>iI.isEmpty&&r'.isEmpty&&decide (n="isinstance")&&g.gl "isinstance"&&decide (t=We T)&&g.gl (We T)&&decide (T∈lx)&&cF g a x&&notStar x|_=>false
     |[]=>false
    |[]=>false
   |_=>false
  |_=>false
 |.bf f es=>λe=>match e with
  |.Call f0 xs iI _=>match f0 with|.Name n _=>iI.isEmpty&&decide (n=wy f)&&g.gl (wy f)&&gu g es xs&&!xs.isEmpty|_=>false
  |_=>false
 |.ix a b=>λe=>match e with|.Subscript x y _=>cF g a x&&cF g b y&&!wz y|_=>false
 |.slice a lo hi=>λe=>match e with
  |.Subscript x sl _=>match sl with|.Slice l h s _=>s.isNone&&cF g a x&&O8 g lo l&&O8 g hi h|_=>false
  |_=>false
 |.oK _=>λe=>match e with|.Dict ks vs _=>ks.isEmpty&&vs.isEmpty|_=>false
 |.pV i es=>λe=>match e with
  |.Call f0 xs iI _=>match f0 with|.Name x _=>iI.isEmpty&&decide (g.N[i]?=some x)&&g.wu x&&aQ x&&gu g es xs&&!xs.isEmpty&&g.cv|_=>false
  |_=>false
 |.iT f es ls=>λe=>match e with
  |.Call f0 xs iI _=>match f0 with|.Name x _=>iI.isEmpty&&g.sA f x es.length ls&&g.gl x&&aQ x&&gu g es xs&&!xs.isEmpty|_=>false
  |_=>false
 |.jc i es ls=>λe=>match e with
  |.Call f0 xs iI _=>match f0 with|.Name x _=>iI.isEmpty&&decide (g.N[i]?=some x)&&g.wu x&&aQ x&&g.O7 i x ls&&gu g es xs&&!xs.isEmpty|_=>false
  |_=>false
 |.lam k=>λe=>match e with|.Lambda params body scope pos=>g.O5 k params body scope pos|_=>false
 |.CH a b=>λe=>match e with
  |.Call f0 xs iI cp=>match f0 with
   |.Attribute o n ap=>match xs with|x::r=>r.isEmpty&&iI.isEmpty&&(ap.endLine==cp.line)&&decide (n="pop")&&!isCall o&&cF g a o&&cF g b x&&notStar x|[]=>false
   |_=>false
  |_=>false
 |.r9 a b c=>λe=>match e with
  |.Call f0 xs iI cp=>match f0 with
   |.Attribute o n ap=>match xs with
    |x::r=>match r with|y::r'=>r'.isEmpty&&iI.isEmpty&&(ap.endLine==cp.line)&&decide (n="setdefault")&&!isCall o&&cF g a o&&cF g b x&&notStar x&&cF g c y&&notStar y|[]=>false
    |[]=>false
   |_=>false
  |_=>false
 |.CL k d=>λe=>match e with
  |.Dict ks vs _=>match ks with
   |k0::r=>match k0 with
    |some kx=>match vs with|v0::r'=>r.isEmpty&&r'.isEmpty&&Br g k kx&&ym d v0|[]=>false
    |none=>false
   |[]=>false
  |_=>false
 |.CJ a=>λe=>match e with
  |.Call f0 xs iI cp=>match f0 with|.Attribute o n ap=>xs.isEmpty&&iI.isEmpty&&(ap.endLine==cp.line)&&decide (n="pop")&&!isCall o&&cF g a o|_=>false
  |_=>false
 |.attr c f i=>λe=>match e with
  |.Attribute o m _=>match o with|.Name x _=>decide (m=f)&&g.xn c f&&decide (g.N[i]?=some x)&&g.wu x&&aQ x|_=>false
  |_=>false
 |.qm k c m i es=>λe=>match e with
  |.Call f0 xs iI cp=>match f0 with
   |.Attribute o mm ap=>match o with|.Name x _=>iI.isEmpty&&decide (mm=m)&&g.zP k c m es.length&&decide (g.N[i]?=some x)&&g.wu x&&aQ x&&gu g es xs&&(ap.endLine==cp.line)&&decide (xs.length < 30)|_=>false
   |_=>false
  |_=>false
 |.make k c es=>λe=>match e with
  |.Call f0 xs iI _=>match f0 with|.Name x _=>iI.isEmpty&&decide (x=c)&&g.zQ k c es.length&&g.gl x&&aQ x&&gu g es xs&&!xs.isEmpty|_=>false
  |_=>false
 |.index a b=>λe=>match e with
  |.Call f0 xs iI cp=>match f0 with
   |.Attribute o n ap=>match xs with|x::r=>r.isEmpty&&iI.isEmpty&&(ap.endLine==cp.line)&&decide (n="index")&&!isCall o&&cF g a o&&cF g b x&&notStar x|[]=>false
   |_=>false
  |_=>false
def O8(g:G):Option E->Option Expr->Bool
 |none=>λo=>o.isNone|some e=>λo=>match o with|some x=>cF g e x|none=>false
def gu(g:G):List E->List Expr->Bool
 |[]=>λl=>l.isEmpty|e::es=>λl=>match l with|x::xs=>cF g e x&&notStar x&&gu g es xs|[]=>false
def O9(g:G):Option E->List Expr->Bool
 |none=>λl=>l.isEmpty|some c=>λl=>match l with|i::r=>r.isEmpty&&cF g c i|[]=>false
def sA(g:G):L->Expr->Bool
 |.eY es=>λe=>match e with|.List xs _=>gu g es xs|_=>false
 |.comp w ts js c e=>λe0=>match e0 with
  |.ListComp elt gens sc _=>match gens with
   |ge::r=>match ge with
    |⟨tg,iter,ifs,a⟩=>match tg with
     |.Name x _=>r.isEmpty&&decide (ts=1)&&decide (a=0)&&Ni g w iter&&!AE w&&Hr g (gW g x js) js sc&&decide (sc.names.lookup x=some .local)&&decide (gW g x js).Nodup&&
       O9 (g.inner (gW g x js) sc) c ifs&&cF (g.inner (gW g x js) sc) e elt&&!cg iter
     |_=>false
   |[]=>false
  |_=>false
 |.keys e=>λe0=>match e0 with
  |.Call f0 xs iI _=>match f0 with
   |.Name n _=>match xs with|x::r=>r.isEmpty&&iI.isEmpty&&decide (n="list")&&g.gl "list"&&cF g e x&&notStar x|[]=>false
   |_=>false
  |_=>false
 |.gG es=>λe0=>match e0 with
  |.Call f0 ys iI _=>match f0 with
   |.Name n _=>match ys with
    |y::r=>match y with
     |.Call f1 xs Ls _=>match f1 with|.Name n1 _=>r.isEmpty&&iI.isEmpty&&Ls.isEmpty&&decide (n="list")&&g.gl "list"&&decide (n1="range")&&g.gl "range"&&gu g es xs|_=>false
     |_=>false
    |[]=>false
   |_=>false
  |_=>false
 |.zip a b=>λe0=>match e0 with
  |.Call f0 ys iI _=>match f0 with
   |.Name n _=>match ys with
    |y::r=>match y with
     |.Call f1 xs Ls _=>match f1 with
      |.Name n1 _=>match xs with
       |x1::r1=>match r1 with|x2::r2=>r.isEmpty&&r2.isEmpty&&iI.isEmpty&&Ls.isEmpty&&decide (n="list")&&g.gl "list"&&decide (n1="zip")&&g.gl "zip"&&cF g a x1&&notStar x1&&cF g b x2&&notStar x2|[]=>false
       |[]=>false
      |_=>false
     |_=>false
    |[]=>false
   |_=>false
  |_=>false
 |.cn e js c ee=>λe0=>match e0 with
  |.ListComp elt gens sc _=>match gens with
   |ge::r=>match ge with
    |⟨tg,iter,ifs,a⟩=>match tg with
     |.Name x _=>r.isEmpty&&decide (a=0)&&cF g e iter&&Hr g (gW g x js) js sc&&decide (sc.names.lookup x=some .local)&&decide (gW g x js).Nodup&&
       O9 (g.inner (gW g x js) sc) c ifs&&cF (g.inner (gW g x js) sc) ee elt&&!cg iter
     |_=>false
   |[]=>false
  |_=>false
def Ni(g:G):W->Expr->Bool
 |.ex e=>λx=>cF g e x&&!cg x
 |.gG es=>λx=>match x with
  |.Call f0 xs iI _=>match f0 with|.Name n _=>iI.isEmpty&&decide (n="range")&&g.gl "range"&&gu g es xs|_=>false
  |_=>false
 |.enum e=>λx=>match x with
  |.Call f0 xs iI _=>match f0 with
   |.Name n _=>match xs with|y::r=>r.isEmpty&&iI.isEmpty&&decide (n="enumerate")&&g.gl "enumerate"&&cF g e y&&notStar y|[]=>false
   |_=>false
  |_=>false
end
def AF(K:KB)(c:List P->aI->R P)(n:Nat):Sp:=λvs H Q _=>∃m Z qs st,vs.length=n/\ai K H m Z qs vs/\aA K H m Z st/\Ok K Z (c qs st) m H (λp _ m' H'=>∀v,aj K H' m' Z p v->Q v H')
structure sC(X:Cx)(kt:KT)(c:List P->aI->R P)(x:Str)(n:Nat):Prop where
 ex:∃(k:Nat) (f:Addr) (fd:Xg) (ps:List Str),gJ X.prog X.w X.K X.mg X.base tX k f fd ps (AF (af X kt) c n)/\
  cO k X.A/\X.mg x=some (.ref f)/\XC X.K (.ref f)=true/\Binds X.K fd ps []
def nF:List Str:=["len","min","max","all","any","sum","str","tuple","list","int","bool","isinstance","range","zip","enumerate","sorted"]
def Pa(K:KB)(c:List P->aI->R P)(cd:Addr)(q:Str)(bM:List V):Sp:=λvs H Q _=>H cd=some (.ext (dw cd q))/\∃m Z qs bj st,ai K H m Z qs vs/\ai K H m Z bj bM/\aA K H m Z st/\Ok K Z (c (qs++bj) st) m H (λp _ m' H'=>∀v,aj K H' m' Z p v->Q v H')
structure Bs(X:Cx)(kt:KT)(C:Nat->List P->aI->R P)(k:Nat)(a c:Addr)(bM:List V):Prop where
 ob:∃oc od fd sl,X.base.get? a=some ⟨oc,od,.func fd,sl⟩
 ex:∃(n:Nat) (fd:Xg) (ps:List Str),gJ X.prog X.w X.K X.mg X.base tX n a fd ps (Pa (af X kt) (C k) c (kt.yh k) bM)/\cO n X.A/\Binds X.K fd ps []
structure Good(X:Cx)(kt:KT)(g:G)(C:Nat->List P->aI->R P):Prop where
 N:X.N=g.N
 loc:∀x,g.names.lookup x=some .local->X.env.scope.names.lookup x=some .local
 Gm:∀x,(g.names.lookup x=some .cell\/g.names.lookup x=some .free)->(X.env.scope.names.lookup x=some .cell\/X.env.scope.names.lookup x=some .free)
 gl:∀x,g.names.lookup x=some .globalImplicit->X.env.scope.names.lookup x=some .globalImplicit
 calm:X.calm=true
 hu:X.A.units+100 < cLine
 bl:∀x∈nF,X.mg x=none
 fn:∀(k:Nat) (x:Str) (n:Nat),g.fns[k]?=some (x,n)->sC X kt (C k) x n
 cs:∀x i,g.iq.lookup x=some i->∃t,X.mg x=some (.int i t)
 tb:∀x t,g.tabs.lookup x=some t->∃a,X.mg x=some (.ref a)/\Ox X.K a t
 fld:∀c f,g.xn c f=true->∃A,VA X.K Vu c=some (some (.ref A))/\zM X.K A/\jG X.K A f
 Nj:∀k c m n,g.zP k c m n=true->∃A l fa fd ps,VA X.K Vu c=some (some (.ref A))/\zM X.K A/\z8 X.K A m fa/\gJ X.prog X.w X.K X.mg X.base tX l fa fd ps (AF (af X kt) (C k) (n+1))/\cO l X.A/\Binds X.K fd ps []
 Nk:∀k c n,g.zQ k c n=true->∃A l fa fd ps,X.mg c=some (.ref A)/\VA X.K Vu c=some (some (.ref A))/\Mk X.K A fa/\gJ X.prog X.w X.K X.mg X.base tX l fa fd ps (AF (af X kt) (C k) (n+1))/\cO (l+1) X.A/\Binds X.K fd ps []
 pY:g.cv=true->∀k a c bM,kt.pY k a c bM->Bs X kt C k a c bM
 lam:∀k params body scope pos,g.O5 k params body scope pos=true->∀Z,PE X (.Lambda params body scope pos) (tE (af X kt) Z (aa C (.lam k)))
 iT:∀f x n ls,g.sA f x n ls=true->∀(Z:List Addr) (e:Expr) (es:List Expr) (bP:List E) (p pos:Pos),bP.length=n->g.gl x=true->aQ x=true->(∀y∈e::es,notStar y=true)->PA X (e::es) (tA (af X kt) Z (az C bP))->
  PE X (.Call (.Name x p) (e::es) [] pos) (tE (af X kt) Z (aa C (.iT f bP ls)))
 jc:∀i x ls,g.O7 i x ls=true->∀(Z:List Addr) (e:Expr) (es:List Expr) (bP:List E) (p pos:Pos),g.N[i]?=some x->g.wu x=true->aQ x=true->(∀y∈e::es,notStar y=true)->PA X (e::es) (tA (af X kt) Z (az C bP))->
  PE X (.Call (.Name x p) (e::es) [] pos) (tE (af X kt) Z (aa C (.jc i bP ls)))
section
variable{X:Cx}{g:G}{C:Nat->List P->aI->R P}{Z:List Addr}{e:Expr}{es:List Expr}
theorem Good.wu(T:Good X kt g C)(h:g.wu x=true):Nw X.env.scope x:=by
 unfold G.wu at h;split at h;·exact .inl (T.loc _ ‹_›)
 ·rcases T.Gm x (.inl ‹_›) with q|q;·exact .inr (.inl q)
  ·exact .inr (.inr q)
 ·rcases T.Gm x (.inr ‹_›) with q|q;·exact .inr (.inl q)
  ·exact .inr (.inr q)
 ·cases h
theorem Good.glob(T:Good X kt g C)(h:g.gl x=true):Gl X x:=T.gl x (of_decide_eq_true h)
theorem PE.imp(h:PE X e t)(i:∀σ H Q,t' σ H Q->t σ H Q):PE X e t':=λpins s σ H Q I q=>h pins s σ H Q I (i σ H Q q)
theorem PT.imp(h:PT X e t)(i:∀σ H Q,t' σ H Q->t σ H Q):PT X e t':=λpins s σ H Q I q=>h pins s σ H Q I (i σ H Q q)
theorem PW.imp(h:PW X e t)(i:∀σ H Q,t' σ H Q->t σ H Q):PW X e t':=λwh pins s σ H Q I q=>h wh pins s σ H Q I (i σ H Q q)
theorem PA.imp(h:PA X es t)(i:∀σ H Q,t' σ H Q->t σ H Q):PA X es t':=λpos pins s σ H Q I q=>h pos pins s σ H Q I (i σ H Q q)
theorem pn(h:aQ x=true):(x==("__debug__":Str))=false/\(x==("__classdict__":Str))=false/\x≠"__name__":=by unfold aQ at h;simp only[U9,VL] at h;exact⟨h.1.1,h.1.2,λz=>by rw[z] at h;exact absurd h.2 (by simp)⟩
theorem bw(h:notStar e=true):VM (e::es) env=(false,eval e env)::VM es env:=by
 cases e<;>first
  |rfl
  |exact absurd (show false=true from h) V7
theorem yn(T:Good X kt g C)(h1:g.N[i]?=some x)(h2:g.wu x=true)(h3:aQ x=true):PE X (.Name x pos) (tE (af X kt) Z (aa C (.var i))):=by
 refine PE.imp (zS (i:=i) (by rw[T.N];exact h1) (T.wu h2) (pn h3).1 (pn h3).2.1) ?_;rintro σ H Q ⟨m,r,st,ar,as,h⟩;obtain⟨p,e,q,_⟩:=Ok.of (show Ok (af X kt) Z (R.of (oO r i) st) m H _ from h) as;have e':r[i]?=some (some p):=by unfold oO at e;cases q:r[i]? with|none=>rw[q] at e;cases e|some o=>rw[q] at e;simp at e;rw[e]
 obtain⟨v,ev,rv⟩:=ar.at_ i p e';exact⟨v,ev,q v rv⟩
theorem yo(h:PE X e (tC v))(hr:∀H m,aF (af X kt) H m Z x v):PE X e (tE (af X kt) Z (aa C (.cst x))):=by refine PE.imp h ?_;rintro σ H Q ⟨m,r,st,ar,as,q⟩;exact Ok.here (show Ok (af X kt) Z (R.ok (P.d x) st) m H _ from q) as v (hr H m)
theorem EO(h:ym d e=true):∃v,PE X e (tC v)/\∀K H m Z,aF K H m Z d v:=by
 unfold ym at h;split at h
 ·split at h;·have:=of_decide_eq_true h;subst this;exact⟨_,DD,λ_ _ _ _=>rfl⟩
  ·have:=of_decide_eq_true h;subst this;exact⟨_,Jj,λ_ _ _ _=>rfl⟩
  ·have:=of_decide_eq_true h;subst this;exact⟨_,DE,λ_ _ _ _=>rfl⟩
  ·have:=of_decide_eq_true h;subst this;exact⟨_,DF,λ_ _ _ _=>rfl⟩
  ·cases h
 ·cases h
theorem Hs(T:Good X kt g C)(h:Br g k e=true):∃tk,PE X e tk/\∀{σ} {H} {m} {ρ} {st},cQ (af X kt) H m Z ρ σ->aa C k ρ st=.no\/∃y v,aa C k ρ st=.ok y st/\aj (af X kt) H m Z y v/\∀(Q) (H'),Q v H'->tk σ H' Q:=by
 unfold Br at h;split at h
 ·rename_i i;split at h
  ·simp only[U9,decide_eq_true_eq] at h;refine⟨_,zS (i:=i) (by rw[T.N];exact h.1.1) (T.wu h.1.2) (pn h.2).1 (pn h.2).2.1,λ{σ H m ρ st} ar=>?_⟩;unfold aa;cases e:oO ρ i with
   |none=>exact .inl rfl|some p=>
    have e':ρ[i]?=some (some p):=by unfold oO at e;cases q:ρ[i]? with|none=>rw[q] at e;cases e|some o=>rw[q] at e;simp at e;rw[e]
    obtain⟨v,ev,rv⟩:=ar.at_ i p e';exact .inr ⟨p,v,rfl,rv,λQ H' q=>⟨v,ev,q⟩⟩
  ·cases h
 ·rename_i d;obtain⟨v,hv,hr⟩:=EO (X:=X) h;exact⟨_,hv,λ{σ H m ρ st} ar=>.inr ⟨.d d,v,by unfold aa;rfl,(show aF (af X kt) H m Z d v from hr _ _ _ _),λQ H' q=>q⟩⟩
 ·cases h
theorem Bt{f:Value->Value->Sem Value}{r:R2}{da db:bU->aI->R P}{k:P->P->aI->R P}{σ:L2.St}{H:Hp}{Q:VK}
  (hr:∀(x y:P) (v u:V) (m:List Addr) (H:Hp) (st:aI) (Q:VK),aA (af X kt) H m Z st->aj (af X kt) H m Z x v->aj (af X kt) H m Z y u->Ok (af X kt) Z (k x y st) m H (λp _ m' H'=>∀v,aj (af X kt) H' m' Z p v->Q v H')->r v u H Q)
  (h:tE (af X kt) Z (λρ st=>(da ρ st).bind λx st1=>(db ρ st1).bind λy st2=>k x y st2) σ H Q):NP r (tE (af X kt) Z da) (tE (af X kt) Z db) σ H Q:=by
 obtain⟨m,ρ,st,ar,as,h⟩:=h;refine⟨m,ρ,st,ar,as,(Ok.bind h).mono λx st1 m1 H1 bH aY h1 v rv=>?_⟩;refine⟨m1,ρ,st1,ar.le bH,aY,(Ok.bind h1).mono λy st2 m2 H2 dW dU h2 u ru=>?_⟩;exact hr x y v u m2 H2 st2 Q dU (rv.le dW) ru h2
theorem au.map{K:KB}:∀{xs} {us},au K H m Z xs us->ai K H m Z (xs.map .d) us
 |[],_,h=>h|x::xs,us,h=>by obtain⟨v,vs,e,r,rs⟩:=(show ∃v vs,us=v::vs/\aF K H m Z x v/\au K H m Z xs vs from h);exact⟨v,vs,e,r,au.map rs⟩
theorem ai.bb{K:KB}:∀{ps} {xs} {us},ai K H m Z ps us->Y.bb ps=some xs->au K H m Z xs us
 |[],xs,us,h,e=>by cases e;exact h|p::ps,xs,us,h,e=>by obtain⟨v,vs,e1,r,rs⟩:=(show ∃v vs,us=v::vs/\aj K H m Z p v/\ai K H m Z ps vs from h);cases p with|obj n=>cases e|fV n=>cases e|fn k c=>cases e|lf k=>cases e|d x=>have e':(Y.bb ps).map (λxs=>x::xs)=some xs:=e;cases q:Y.bb ps with|none=>rw[q] at e';cases e'|some zs=>rw[q] at e';cases e';exact⟨v,vs,e1,r,ai.bb rs q⟩
theorem ai.append{K:KB}:∀{ps qs} {us vs},ai K H m Z ps us->ai K H m Z qs vs->ai K H m Z (ps++qs) (us++vs)
 |[],_,us,_,h,h'=>by cases (show us=[] from h);exact h'|p::ps,qs,us,vs,h,h'=>by obtain⟨v,w',rfl,r,rs⟩:=(show ∃v vs,us=v::vs/\aj K H m Z p v/\ai K H m Z ps vs from h);exact⟨v,w'++vs,rfl,r,ai.append rs h'⟩
theorem au.append{K:KB}:∀{ps qs} {us vs},au K H m Z ps us->au K H m Z qs vs->au K H m Z (ps++qs) (us++vs)
 |[],_,us,_,h,h'=>by cases (show us=[] from h);exact h'|p::ps,qs,us,vs,h,h'=>by obtain⟨v,w',rfl,r,rs⟩:=(show ∃v vs,us=v::vs/\aF K H m Z p v/\au K H m Z ps vs from h);exact⟨v,w'++vs,rfl,r,au.append rs h'⟩
theorem au.length{K:KB}:∀{ps} {us},au K H m Z ps us->us.length=ps.length
 |[],us,h=>by cases (show us=[] from h);rfl|p::ps,us,h=>by obtain⟨v,w',rfl,r,rs⟩:=(show ∃v vs,us=v::vs/\aF K H m Z p v/\au K H m Z ps vs from h);rw[Vt,Vt,au.length rs]
theorem ai.length{K:KB}:∀{ps} {us},ai K H m Z ps us->us.length=ps.length
 |[],us,h=>by cases (show us=[] from h);rfl|p::ps,us,h=>by obtain⟨v,w',rfl,r,rs⟩:=(show ∃v vs,us=v::vs/\aj K H m Z p v/\ai K H m Z ps vs from h);rw[Vt,Vt,ai.length rs]
theorem ai.get{K:KB}:∀{ps} {us} {i:Nat} {p},ai K H m Z ps us->ps[i]?=some p->∃v,us[i]?=some v/\aj K H m Z p v
 |[],us,i,p,h,e=>by simp at e|q::ps,us,i,p,h,e=>by obtain⟨v,w',rfl,r,rs⟩:=(show ∃v vs,us=v::vs/\aj K H m Z q v/\ai K H m Z ps vs from h);cases i with|zero=>simp at e;subst e;exact⟨v,by simp,r⟩|succ i=>simpa using ai.get rs (by simpa using e)
theorem ai.drop{K:KB}:∀(n) {ps} {us},ai K H m Z ps us->ai K H m Z (ps.drop n) (us.drop n)
 |0,_,_,h=>h|n+1,[],us,h=>by cases (show us=[] from h);rfl|n+1,p::ps,us,h=>by obtain⟨v,w',rfl,r,rs⟩:=(show ∃v vs,us=v::vs/\aj K H m Z p v/\ai K H m Z ps vs from h);exact ai.drop n rs
theorem ai.take{K:KB}:∀(n) {ps} {us},ai K H m Z ps us->ai K H m Z (ps.take n) (us.take n)
 |0,_,_,_=>by simp[ai]|n+1,[],us,h=>by cases (show us=[] from h);rfl|n+1,p::ps,us,h=>by obtain⟨v,w',rfl,r,rs⟩:=(show ∃v vs,us=v::vs/\aj K H m Z p v/\ai K H m Z ps vs from h);exact⟨v,w'.take n,rfl,r,ai.take n rs⟩
theorem cy{K:KB}{st:aI}(as:aA K H m Z st)(h:aR st p=some ps)(r:aj K H m Z p v):∃a us,v=.ref a/\Rd H a (.lst us)/\ai K H m Z ps us:=by
 cases p with
 |d x=>cases x with|pl xs=>have e:some (xs.map P.d)=some ps:=h;cases e;obtain⟨a,us,e,q,_,_,rs⟩:=r;exact⟨a,us,e,q,rs.map⟩|_=>cases h
 |obj n=>
  obtain⟨a,e,rfl⟩:=r;have h':(match st[n]? with|some (.lst xs)=>some xs|_=>none)=some ps:=h;split at h';·rename_i xs hs;cases h';obtain⟨a',e',o⟩:=as.at_ n _ hs;rw[e] at e';cases e';obtain⟨us,hu,rs⟩:=o;exact⟨a,us,rfl,.inl hu,rs⟩
  ·cases h'
 |fV n=>cases h|fn k c=>cases h|lf k=>cases h
theorem yp{K:KB}:∀ns:List Int,ai K H m Z (ns.map λi=>P.d (.int i)) (ns.map V.int)
 |[]=>rfl|n::ns=>⟨_,_,rfl,rfl,yp ns⟩
theorem ly{K:KB}{st:aI}(as:aA K H m Z st)(h:bD st p=some ps)(r:aj K H m Z p v):∃a us,v=.ref a/\(lG K.K H a us\/H a=some (.tup us))/\ai K H m Z ps us:=by
 cases p with
 |d x=>cases x with|tup xs=>have e:some (xs.map P.d)=some ps:=h;cases e;obtain⟨a,us,e,q,rs⟩:=r;exact⟨a,us,e,.inr q,rs.map⟩|pl xs=>obtain⟨a,us,e,q,rs⟩:=cy as (show aR st (.d (.pl xs))=some ps from h) r;exact⟨a,us,e,.inl (.inl q),rs⟩|bq=>cases h|bl b=>cases h|int b=>cases h|str b=>cases h
 |obj n=>obtain⟨a,us,e,q,rs⟩:=cy as (show aR st (.obj n)=some ps from h) r;exact⟨a,us,e,.inl (.inl q),rs⟩|fV n=>have e:some (n.map λi=>P.d (.int i))=some ps:=h;cases e;obtain⟨a,e,q⟩:=r;exact⟨a,_,e,.inl q.sq,yp n⟩|fn k c=>cases h|lf k=>cases h
theorem JK{K:Vm}(h:lG K H a us\/H a=some (.tup us)):lG K H a us\/fI K H a us:=h.imp_right fI.of
theorem qX{K:KB}{H:Hp}{m Z:List Addr}{st:aI}{xs:List D}{us:List V}{α:Type}{Q:V->Hp->Prop}(as:aA K H m Z st)(r:au K H m Z xs us){a:Addr}(ha:H a=none)
  (h:Ok K Z (R.ok (P.d (.tup xs)) st) m H (λp _ m' H'=>∀v,aj K H' m' Z p v->Q v H')):Q (.ref a) (upd H a (.tup us)):=by
 have le:Le K m H m (upd H a (.tup us)):=Le.same (ba ha _);exact h m (upd H a (.tup us)) le (as.same (ba ha _)) (.ref a) ⟨a,us,rfl,aC,r.le le⟩
theorem ER{K:KB}{st:aI}{Q:V->Hp->Prop}(as:aA K H m Z st)(r:au K H m Z xs us)(ha:H a=none)(h:Ok K Z (R.ok (P.d (.pl xs)) st) m H (λp _ m' H'=>∀v,aj K H' m' Z p v->Q v H')):Q (.ref a) (upd H a (.lst us)):=by have le:Le K m H m (upd H a (.lst us)):=Le.same (ba ha _);exact h m (upd H a (.lst us)) le (as.same (ba ha _)) (.ref a) ⟨a,us,rfl,.inl aC,(as.fresh ha).1,(as.fresh ha).2,r.le le⟩
end
section
variable{X:Cx}{g:G}{C:Nat->List P->aI->R P}{Z:List Addr}{e:Expr}{es:List Expr}
theorem dh:av=VD:=by rw[WR];rfl
theorem Bu(h:Rd H a (.lst xs))(I:Inv X pins σ H s):
  xs.length<=VD/\∃(its:List Value) (n:Nat),aP xs its/\s.heap.get? a=some {cls:=.type "list",data:=.seq its.toArray n}:=h.ok I.aH
def JL:R2:=λx y H Q=>∃l b xs zs,x=.ref l/\y=.ref b/\Rd H l (.lst xs)/\Rd H b (.lst zs)/\xs.length+zs.length<=VD/\∀p,H p=none->Q (.ref p) (upd H p (.lst (xs++zs)))
theorem Ht:kf X (XN .Add) JL:=by
 intro pins s σ H x y v u Q I rx ry h;obtain⟨l,b,xs,zs,rfl,rfl,hH,hB,hz,q⟩:=h;cases rx;cases ry;obtain⟨z,its,n,r,e⟩:=Bu hH I;obtain⟨z2,D3,n2,r2,e2⟩:=Bu hB I;have hl:=r.length;have u9:=r2.length;refine PySem.P.add_list e e2 ?_ (by rw[Vp,Vp];omega);have ea:its.toArray++D3.toArray=(its++D3).toArray:=by simp
 rw[ea];exact⟨.ref _,_,I.Sr (t':=s.toks) (r.append r2) (by rw[Vy];omega),rfl,q _ I.fresh⟩
def TB:R2:=λx y H Q=>∃i j,x=.str i/\y=.str j/\i.length+j.length<=VD/\Q (.str (i++j)) H
def Pb(K:Vm):O0->R2
 |.add=>λv u H Q=>A8 (λi j=>.int (i+j)) v u H Q\/TB v u H Q\/Js v u H Q\/JL v u H Q|.sub=>A8 λi j=>.int (i - j)|.mul=>λv u H Q=>rI GH (λi j=>.int (i*j)) v u H Q\/Jt v u H Q\/Jv v u H Q\/Jw v u H Q|.mod=>rI (λ_ j=>0 < j) λi j=>.int (i % j)
theorem Lu:∀o,kf X (XN (Bq o)) (Pb X.K o)
 |.add=>Ki.or (zY.or (He.or Ht))|.sub=>Kj|.mul=>Kk.or (Ed.or (Ef.or Eg))|.mod=>Kl
theorem Lv{K:KB}{st:aI}(as:aA K H m Z st)(rx:aj K H m Z x v)(ry:aj K H m Z y u)(h:Ok K Z (R.of (ya o x y st) st) m H (λp _ m' H'=>∀v,aj K H' m' Z p v->Q v H')):Pb K.K o v u H Q:=by
 obtain⟨p,e,q,qq⟩:=Ok.of h as;unfold ya at e;split at e
 ·rename_i i j;cases (show v=.int i from rx);cases (show u=.int j from ry);cases o with
  |add=>cases e;exact .inl ⟨i,j,rfl,rfl,q _ rfl⟩|sub=>cases e;exact⟨i,j,rfl,rfl,q _ rfl⟩|mul=>
   unfold lh at e;simp only at e;split at e;·rename_i hc;cases e;exact .inl ⟨i,j,rfl,rfl,hc,q _ rfl⟩
   ·cases e
  |mod=>
   unfold lh at e;simp only at e;split at e;·rename_i hc;cases e;exact⟨i,j,rfl,rfl,hc,q _ rfl⟩
   ·cases e
 ·rename_i x y;cases (show v=.str x from rx);cases (show u=.str y from ry);split at e;·rename_i hc;cases e;exact .inr (.inl ⟨x,y,rfl,rfl,by rw[<-dh];exact hc,q _ rfl⟩)
  ·cases e
 ·rename_i xs ys;obtain⟨a,us,rfl,ha,ra⟩:=rx;obtain⟨b,vs,rfl,hb,rb⟩:=ry;split at e;·rename_i hc;cases e;refine .inr (.inr (.inl ⟨a,b,us,vs,rfl,rfl,ha,hb,by rw[ra.length,rb.length,<-dh];exact hc,λr H' sm hr=>?_⟩));have le:Le K m H m H':=Le.same sm;exact qq m H' le (as.same sm) (.ref r) ⟨r,us++vs,rfl,hr,(ra.append rb).le le⟩
  ·cases e
 ·rename_i xs k;obtain⟨a,us,rfl,ha,ra⟩:=rx;cases (show u=.int k from ry);split at e;·rename_i hc;cases e;subst hc;exact .inr (.inr (.inr ⟨a,us,rfl,rfl,ha,q (.ref a) ⟨a,us,rfl,ha,ra⟩⟩))
  split at e
  ·rename_i hc;cases e;obtain⟨rfl,h1,h2⟩:=hc;refine .inr (.inl ⟨a,us,rfl,rfl,ha,λz=>?_,by rw[ra.length];exact h2,λp hp=>?_⟩);·have:=ra.length;rw[z] at this;simp at this;omega
   ·exact qX (α:=Unit) as (ra.append ra) hp qq
  split at e
  ·rename_i hc;cases e;obtain⟨rfl,h1,h2⟩:=hc;refine .inr (.inr (.inl ⟨a,us,rfl,rfl,ha,λz=>?_,by rw[ra.length];exact h2,λp hp=>?_⟩));·have:=ra.length;rw[z] at this;simp at this;omega
   ·exact qX (α:=Unit) as ((ra.append ra).append ra) hp qq
  ·cases e
 ·rename_i h1 h2 h3;cases ha:aR st x with
  |none=>rw[ha] at e;cases e|some ps=>
   cases hb:aR st y with
   |none=>rw[ha,hb] at e;cases e|some qs=>
    rw[ha,hb] at e;simp only[VS] at e;cases hz:bb (ps++qs) with
    |none=>rw[hz] at e;cases e|some zs=>
     rw[hz] at e;simp only[VS] at e;split at e;·rename_i hc;cases e;obtain⟨c,us,rfl,hc1,rc⟩:=cy as ha rx;obtain⟨d,vs,rfl,hd1,rd⟩:=cy as hb ry;have rr:=(rc.append rd).bb hz;have hlen:=rr.length;rw[Vy] at hlen;refine .inr (.inr (.inr ⟨c,d,us,vs,rfl,rfl,hc1,hd1,by rw[<-dh];omega,λp hp=>?_⟩));exact ER as rr hp qq
     ·cases e
 ·cases e
theorem TC(ha:PE X a (tE (af X kt) Z (aa C ea)))(hb:PE X b (tE (af X kt) Z (aa C eb))):PE X (.BinOp a (Bq o) b pos) (tE (af X kt) Z (aa C (.op o ea eb))):=
 PE.imp (NQ (Lu o) ha hb) λσ H Q h=>Bt (f:=XN (Bq o)) (λx y v u m H st Q as rx ry h=>Lv as rx ry h) h
theorem bQ{α β:Type}{o:Option α}{f:α->Option β}{b:β}(h:o.bind f=some b):∃a,o=some a/\f a=some b:=by cases o with|none=>cases h|some a=>exact⟨a,rfl,h⟩
theorem gv{α β:Type}{o:Option α}{f:α->β}{b:β}(h:o.map f=some b):∃a,o=some a/\f a=b:=by cases o with|none=>cases h|some a=>exact⟨a,rfl,by simpa using h⟩
theorem kF{K:KB}{st:aI}(as:aA K H m Z st)(h:jN st p=some x)(r:aj K H m Z p v):aF K H [] [] x v:=by
 cases p with
 |d y=>cases h;exact aF.bare r|obj n=>
  obtain⟨a,e,rfl⟩:=r;have h':(match st[n]? with|some (.lst xs)=>(bb xs).map D.pl|_=>none)=some x:=h;split at h';·rename_i xs hs;obtain⟨a',e',o⟩:=as.at_ n _ hs;rw[e] at e';cases e';obtain⟨us,hu,rs⟩:=o;cases hd:bb xs with|none=>rw[hd] at h';cases h'|some ys=>rw[hd] at h';cases h';exact⟨a,us,rfl,.inl hu,by simp,by simp,(rs.bb hd).bare⟩
  ·cases h'
 |fV n=>cases h|fn k c=>cases h|lf k=>cases h
theorem aj.key{K:KB}(r:aj K H m Z p v)(e:keyOf p=some k):v=kV k:=by
 unfold keyOf at e;split at e;·cases e;exact r
 ·cases e;exact r
 ·cases e
theorem au.keys{K:KB}:∀{xs} {ks} {us},au K H m Z xs us->keysOf xs=some ks->us=ks.map kV
 |[],ks,us,h,e=>by cases e;exact h|x::xs,ks,us,h,e=>by obtain⟨v,vs,rfl,r,rs⟩:=(show ∃v vs,us=v::vs/\aF K H m Z x v/\au K H m Z xs vs from h);unfold keysOf at e;cases e1:keyOf (.d x) with|none=>rw[e1] at e;cases e|some k=>rw[e1] at e;cases e2:keysOf xs with|none=>rw[e2] at e;cases e|some k2=>rw[e2] at e;cases e;rw[au.keys rs e2,aj.key (show aj K H m Z (.d x) v from r) e1];rfl
theorem aj.qo{K:KB}(r:aj K H m Z p v)(e:Y.qo p=some k):∃b,v=.ref b/\H b=some (.tup (k.map kV)):=by
 unfold Y.qo at e;split at e;·obtain⟨b,us,rfl,h1,rs⟩:=r;exact⟨b,rfl,by rw[<-au.keys rs e];exact h1⟩
 ·cases e
theorem aM.val{κ:Type}[DecidableEq κ]{K:KB}{k:κ}:∀{kvs} {us},aM K H m Z kvs us->(fJ us k).isSome=(ff kvs k).isSome/\∀p,ff kvs k=some p->∃v,fJ us k=some v/\aj K H m Z p v
 |[],us,h=>by cases (show us=[] from h);exact⟨rfl,λp e=>by cases e⟩|x::xs,us,h=>by
  obtain⟨v,vs,rfl,r,rs⟩:=(show ∃v vs,us=(x.1,v)::vs/\aj K H m Z x.2 v/\aM K H m Z xs vs from h);obtain⟨i1,i2⟩:=aM.val (k:=k) rs;by_cases hk:x.1=k
  ·have e1:fJ ((x.1,v)::vs) k=some v:=ni hk;have e2:ff (x::xs) k=some x.2:=by simp[ff,Wy,hk]
   rw[e1,e2];exact⟨rfl,λp e=>by cases e;exact⟨v,rfl,r⟩⟩
  ·have e1:fJ ((x.1,v)::vs) k=fJ vs k:=nj hk;have e2:ff (x::xs) k=ff xs k:=by simp[ff,Wy,hk]
   rw[e1,e2];exact⟨i1,i2⟩
theorem aM.length{κ:Type}{K:KB}{m:List Addr}:∀{kvs:List (κ×P)} {us:List (κ×V)},aM K H m Z kvs us->us.length=kvs.length
 |[],us,h=>by cases (show us=[] from h);rfl|x::xs,us,h=>by obtain⟨v,vs,rfl,r,rs⟩:=(show ∃v vs,us=(x.1,v)::vs/\aj K H m Z x.2 v/\aM K H m Z xs vs from h);rw[Vt,Vt,aM.length rs]
theorem aM.app{κ:Type}{K:KB}{k:κ}(rp:aj K H m Z p v):∀{kvs} {us},aM K H m Z kvs us->aM K H m Z (kvs++[(k,p)]) (us++[(k,v)])
 |[],us,h=>by cases (show us=[] from h);exact⟨v,[],rfl,rp,rfl⟩|x::xs,us,h=>by obtain⟨v',vs,rfl,r,rs⟩:=(show ∃v vs,us=(x.1,v)::vs/\aj K H m Z x.2 v/\aM K H m Z xs vs from h);exact⟨v',vs++[(k,v)],rfl,r,aM.app rp rs⟩
theorem aM.Cm{κ:Type}[DecidableEq κ]{K:KB}{k:κ}(rp:aj K H m Z p v):∀{kvs} {us},aM K H m Z kvs us->
  aM K H m Z (kvs.map λkv=>if kv.1=k then(kv.1,p) else kv) (us.map λkv=>if kv.1=k then(kv.1,v) else kv)
 |[],us,h=>by cases (show us=[] from h);rfl|x::xs,us,h=>by
  obtain⟨v',vs,rfl,r,rs⟩:=(show ∃v vs,us=(x.1,v)::vs/\aj K H m Z x.2 v/\aM K H m Z xs vs from h);have ih:=aM.Cm (k:=k) rp rs;rw[Vo,Vo];by_cases hk:x.1=k;·rw[if_pos hk,if_pos hk];exact⟨v,_,rfl,rp,ih⟩
  ·rw[if_neg hk,if_neg hk];exact⟨v',_,rfl,r,ih⟩
theorem aM.put{κ:Type}[DecidableEq κ]{K:KB}{k:κ}{kvs:List (κ×P)}{us:List (κ×V)}(rs:aM K H m Z kvs us)(rp:aj K H m Z p v):aM K H m Z (lL kvs k p) (putK us k v):=by
 have e:(us.any λkv=>decide (kv.1=k))=(kvs.any λkv=>decide (kv.1=k)):=by
  have e2:∀kvs:List (κ×P),(kvs.any λkv=>decide (kv.1=k))=(ff kvs k).isSome:=λkvs=>by
   unfold ff;rw[Yj];induction kvs with
   |nil=>rfl|cons x xs ih=>
    rw[Xz,Wy];cases hx:decide (x.1=k);·simpa using ih
    ·rfl
  rw[rQ,(rs.val (k:=k)).1,e2]
 unfold lL putK;rw[e];split;·exact rs.Cm rp
 ·exact rs.app rp
theorem sD{K:KB}{st:aI}(as:aA K H m Z st)(h:aX st p=some o)(r:aj K H m Z p v):∃n a,p=.obj n/\st[n]?=some o/\m[n]?=some a/\v=.ref a/\qr K H m Z a o/\gq o=true:=by
 unfold aX at h;cases p with
 |d x=>cases h|fV x=>cases h|fn k c=>cases h|lf k=>cases h|obj n=>
  obtain⟨a,e,rfl⟩:=r;cases hs:st[n]? with
  |none=>rw[show kC st (.obj n)=st[n]? from rfl,hs] at h;cases h|some o'=>
   rw[show kC st (.obj n)=st[n]? from rfl,hs] at h;have h':(if gq o'=true then some o' else none)=some o:=h;split at h';·rename_i hd;cases h';obtain⟨a',e',q⟩:=as.at_ n _ hs;rw[e] at e';cases e';exact⟨n,a,rfl,hs,e,rfl,q,hd⟩
   ·cases h'
theorem Bv{K:KB}(ao:qr K H m Z a o)(rk:aj K H m Z k y)(h:nB o k=some res):∃ov,nq H a y ov/\ov.isSome=res.isSome/\∀p,res=some p->∃v,ov=some v/\aj K H m Z p v:=by
 cases o with
 |lst xs=>cases h|ins c fs=>cases h|vf=>cases h|dK kvs=>obtain⟨us,hu,rs⟩:=ao;cases hk:keyOf k with|none=>rw[show nB (.dK kvs) k=(keyOf k).map _ from rfl,hk] at h;cases h|some kk=>rw[show nB (.dK kvs) k=(keyOf k).map _ from rfl,hk] at h;cases h;obtain⟨i1,i2⟩:=rs.val (k:=kk);refine⟨fJ us kk,?_,i1,λp hp=>i2 p hp⟩;rw[rk.key hk];exact nq.k hu
 |dT kvs=>obtain⟨us,hu,rs⟩:=ao;cases hk:qo k with|none=>rw[show nB (.dT kvs) k=(qo k).map _ from rfl,hk] at h;cases h|some kk=>rw[show nB (.dT kvs) k=(qo k).map _ from rfl,hk] at h;cases h;obtain⟨i1,i2⟩:=rs.val (k:=kk);obtain⟨b,rfl,hb⟩:=rk.qo hk;exact⟨fJ us kk,nq.t hu hb,i1,λp hp=>i2 p hp⟩
def ES(neg:Bool):R2:=λy x H Q=>∃a o,x=.ref a/\nq H a y o/\Q (.bl (if neg then !o.isSome else o.isSome)) H
theorem Lw(hu:X.A.units+100 < cLine):kf X (WC .In) (ES false):=by intro pins s σ H x y v u Q I rx ry h;obtain⟨a,o,rfl,g,q⟩:=h;cases ry;exact Sv (by omega) I g rx λs3 I3=>⟨.bl o.isSome,H,I3,rfl,q⟩
theorem CO(hu:X.A.units+100 < cLine):kf X (WC .NotIn) (ES true):=by intro pins s σ H x y v u Q I rx ry h;obtain⟨a,o,rfl,g,q⟩:=h;cases ry;exact G4 (by omega) I g rx λs3 I3=>⟨.bl (!o.isSome),H,I3,rfl,q⟩
def Hu(K:KB):JI->R2
 |.lt=>A8 λi j=>.bl (decide (i < j))|.le=>A8 λi j=>.bl (decide (i<=j))|.gt=>A8 λi j=>.bl (decide (j < i))|.ge=>A8 λi j=>.bl (decide (j<=i))|.eq=>λv u H Q=>∃m Z x y k,aF K H m Z x v/\aF K H m Z y u/\qW x y=some k/\Q (.bl k) H|.ne=>λv u H Q=>∃m Z x y k,aF K H m Z x v/\aF K H m Z y u/\qW x y=some k/\Q (.bl (!k)) H|.isin=>λv u H Q=>N9 K.K false v u H Q\/ES false v u H Q|.nA=>λv u H Q=>N9 K.K true v u H Q\/ES true v u H Q
theorem oQ(hu:X.A.units+100 < cLine):∀o,kf X (WC (jY o)) (Hu (af X kt) o)
 |.lt=>NS|.le=>NT|.gt=>NU|.ge=>NV|.eq=>Lq hu|.ne=>Lr hu|.isin=>Ck.or (Lw hu)|.nA=>vY.or (CO hu)
theorem ET{K:KB}(h:aF K H m Z x v)(f:pW x=true):lR v=true:=by cases x with|bq=>cases (show v=.bq from h);rfl|bl b=>cases (show v=.bl b from h);rfl|int b=>cases (show v=.int b from h);rfl|str b=>cases (show v=.str b from h);rfl|tup xs=>cases f|pl xs=>cases f
theorem TF{K:KB}(h:aF K H m Z x v)(h':aF K H m Z y u)(f:pW x=true)(f':pW y=true):G1 v u=lK x y:=by
 cases x with
 |tup xs=>cases f|pl xs=>cases f|bq=>cases (show v=.bq from h);cases y with|tup xs=>cases f'|pl xs=>cases f'|bq=>cases (show u=.bq from h');rfl|bl b=>cases (show u=.bl b from h');rfl|int b=>cases (show u=.int b from h');rfl|str b=>cases (show u=.str b from h');rfl
 |bl a=>cases (show v=.bl a from h);cases y with|tup xs=>cases f'|pl xs=>cases f'|bq=>cases (show u=.bq from h');rfl|bl b=>cases (show u=.bl b from h');rfl|int b=>cases (show u=.int b from h');rfl|str b=>cases (show u=.str b from h');rfl
 |int a=>cases (show v=.int a from h);cases y with|tup xs=>cases f'|pl xs=>cases f'|bq=>cases (show u=.bq from h');rfl|bl b=>cases (show u=.bl b from h');rfl|int b=>cases (show u=.int b from h');rfl|str b=>cases (show u=.str b from h');rfl
 |str a=>cases (show v=.str a from h);cases y with|tup xs=>cases f'|pl xs=>cases f'|bq=>cases (show u=.bq from h');rfl|bl b=>cases (show u=.bl b from h');rfl|int b=>cases (show u=.int b from h');rfl|str b=>cases (show u=.str b from h');rfl
theorem JM{K:KB}(h:aF K H m Z x v)(f:pW x=true):∀{ys} {us},au K H m Z ys us->ys.all pW=true->us.all lR=true/\QY v us=ys.any λy=>lK y x
 |[],us,r,_=>by cases (show us=[] from r);exact⟨rfl,rfl⟩|y::ys,us,r,q=>by obtain⟨w',ws,rfl,r1,r2⟩:=(show ∃v vs,us=v::vs/\aF K H m Z y v/\au K H m Z ys vs from r);rw[XA,U9] at q;obtain⟨i1,i2⟩:=JM h f r2 q.2;refine⟨by rw[XA,ET r1 q.1,i1];rfl,?_⟩;unfold QY at i2 ⊢;rw[Xz,Xz,TF r1 h q.1 f,i2]
theorem in_of{K:KB}{st:aI}(as:aA K H m Z st)(rx:aj K H m Z x v)(ry:aj K H m Z y u)(e:EI x y st=some k)(q:Q (.bl (if neg then !k else k)) H):N9 K.K neg v u H Q\/ES neg v u H Q:=by
 unfold EI at e;split at e;·rename_i o ho;obtain⟨res,e1,rfl⟩:=gv e;obtain⟨n,a,rfl,hs,hm,rfl,ao,_⟩:=sD as ho ry;obtain⟨ov,hg,h1,_⟩:=Bv ao rx e1;refine .inr ⟨a,ov,rfl,hg,?_⟩;rw[h1];exact q
 ·left;obtain⟨xd,e1,e⟩:=bQ e;obtain⟨ps,e2,e⟩:=bQ e;obtain⟨ys,e3,e9⟩:=bQ e;clear e;split at e9;·rename_i hf;rw[U9] at hf;cases x with|obj n=>cases e1|fV n=>cases e1|fn k c=>cases e1|lf k=>cases e1|d x=>cases e1;obtain⟨a,us,rfl,hs,rs⟩:=ly as e2 ry;obtain⟨f1,f2⟩:=JM rx hf.1 (rs.bb e3) hf.2;refine⟨a,us,rfl,JK hs,ET rx hf.1,f1,?_⟩;rw[f2];cases e9;cases neg<;>exact q
  ·cases e9
theorem wA{K:KB}{st:aI}(as:aA K H m Z st)(rx:aj K H m Z x v)(ry:aj K H m Z y u)(e:kD o x y st=some k)(q:Q (.bl k) H):Hu K o v u H Q:=by
 have Hv:∀{o:JI},Li o x y=some k->∃i j,v=.int i/\u=.int j/\O1 o i j=some k:=λ{o} z=>by
  unfold Li at z;split at z;·exact⟨_,_,rx,ry,z⟩
  ·cases z
 cases o with
 |lt=>obtain⟨i,j,rfl,rfl,z⟩:=Hv e;cases z;exact⟨i,j,rfl,rfl,q⟩|le=>obtain⟨i,j,rfl,rfl,z⟩:=Hv e;cases z;exact⟨i,j,rfl,rfl,q⟩|gt=>obtain⟨i,j,rfl,rfl,z⟩:=Hv e;cases z;exact⟨i,j,rfl,rfl,q⟩|ge=>obtain⟨i,j,rfl,rfl,z⟩:=Hv e;cases z;exact⟨i,j,rfl,rfl,q⟩|eq=>obtain⟨a,e1,e⟩:=bQ (show((jN st x).bind λx=>(jN st y).bind λy=>qW x y)=some k from e);obtain⟨b,e2,e⟩:=bQ e;exact⟨[],[],a,b,k,kF as e1 rx,kF as e2 ry,e,q⟩
 |ne=>obtain⟨a,e1,e⟩:=bQ (show((jN st x).bind λx=>(jN st y).bind λy=>(qW x y).map not)=some k from e);obtain⟨b,e2,e⟩:=bQ e;obtain⟨c,e3,rfl⟩:=gv e;exact⟨[],[],a,b,c,kF as e1 rx,kF as e2 ry,e3,q⟩|isin=>exact in_of (neg:=false) as rx ry e q|nA=>obtain⟨k',e',rfl⟩:=gv (show(EI x y st).map not=some k from e);exact in_of (neg:=true) as rx ry e' q
theorem Ok.truth{K:KB}{st:aI}{Q:VK}(as:aA K H m Z st)(h:Ok K Z ((R.of o st).bind λb st3=>R.ok (P.d (.bl b)) st3) m H (λp _ m' H'=>∀v,aj K H' m' Z p v->Q v H')):∃k,o=some k/\Q (.bl k) H:=by obtain⟨k,e,q,_⟩:=Ok.of (Ok.bind h) as;exact⟨k,e,Ok.here q as (.bl k) rfl⟩
theorem Bw(h:cg b=false):aaw op b=false:=by
 cases b<;>first
  |rfl
  |exact absurd (show true=false from h) V7.symm
theorem Pc(T:Good X kt g C)(ha:PE X a (tE (af X kt) Z (aa C ea)))(hb:PE X b (tE (af X kt) Z (aa C eb)))(hn:cg b=false):
  PE X (.Compare a [jY o] [b] pos) (tE (af X kt) Z (aa C (.cmp o ea eb))):=
 PE.imp (GI (oQ T.hu o) ha hb (Bw hn)) λσ H Q h=>Bt (f:=WC (jY o)) (λx y v u m H st Q as rx ry h=>by obtain⟨k,e,q⟩:=Ok.truth as h;exact wA as rx ry e q) h
theorem lY{α β:Type}{r:R α}{f:α->aI->R β}{b:β}{st:aI}(h:r.bind f=.ok b st):∃a st1,r=.ok a st1/\f a st1=.ok b st:=by cases r with|ok a st1=>exact⟨a,st1,rfl,h⟩|ex x st1=>cases h|no=>cases h
theorem EU{K:KB}{st:aI}(as:aA K H m Z st)(r:aj K H m Z p v)(e:AD st p=some k):Cf K.K v H k:=by
 have lists:(aR st p).map (λxs=>!xs.isEmpty)=some k->Cf K.K v H k:=λz=>by obtain⟨ps,e1,rfl⟩:=gv z;obtain⟨a,us,rfl,hr,rs⟩:=cy as e1 r;refine .inl ⟨us,.inl hr,?_⟩;have:=rs.length;cases ps<;>cases us<;>simp at this ⊢
 cases p with
 |obj n=>exact lists e|fV n=>exact lists e|fn k c=>exact lists e|lf k=>exact lists e|d x=>
  cases x with
  |bq=>cases (show v=.bq from r);cases e;rfl|bl b=>cases (show v=.bl b from r);cases e;rfl|int b=>cases (show v=.int b from r);cases e;rfl|str b=>
   cases (show v=.str b from r);have e':(if b.length<=av then some ((b.length:Int)!=0) else none)=some k:=e;split at e';·rename_i hc;cases e';exact⟨by rw[<-dh];exact hc,rfl⟩
   ·cases e'
  |tup xs=>obtain⟨a,us,rfl,hs,rs⟩:=r;cases e;refine .inr (.inl ⟨us,fI.of hs,?_⟩);have:=rs.length;cases xs<;>cases us<;>simp at this ⊢|pl xs=>exact lists e
theorem Lx(h:tT (af X kt) Z (bV d) σ H Q):tE (af X kt) Z d σ H λx H'=>∃k,Cf X.K x H' k/\Q k H':=by obtain⟨m,r,st,ar,as,h⟩:=h;refine⟨m,r,st,ar,as,(Ok.bind h).mono λp st1 m1 H1 bH aY h1 v rv=>?_⟩;obtain⟨k,e,q,_⟩:=Ok.of h1 aY;exact⟨k,EU aY rv e,q⟩
theorem Hw(ha:PE X e (tE (af X kt) Z d))(he:∀whole,aaM e X.env whole=(do let v<-whole;aap e.pos;aaq [v] (truthy v))):PT X e (tT (af X kt) Z (bV d)):=
 PT.imp (DQ ha he) λσ H Q h=>Lx h
theorem Bx(hb:∀r st p st1,d r st=.ok p st1->∃b,p=.d (.bl b))(h:tT (af X kt) Z (bV d) σ H Q):tE (af X kt) Z d σ H λx H'=>∃k,x=.bl k/\Q k H':=by obtain⟨m,r,st,ar,as,h⟩:=h;refine⟨m,r,st,ar,as,(Ok.bind h).vi λp st1 m1 H1 hr bH aY h1 v rv=>?_⟩;obtain⟨b,rfl⟩:=hb r st p st1 hr;obtain⟨k,e,q,_⟩:=Ok.of h1 aY;cases e;cases (show v=.bl b from rv);exact⟨b,rfl,q⟩
theorem EV:∀r st p st1,aa C (.cmp o a b) r st=.ok p st1->∃b,p=.d (.bl b):=λr st p st1 h=>by unfold aa at h;obtain⟨x,s1,_,h⟩:=lY h;obtain⟨y,s2,_,h⟩:=lY h;obtain⟨k,s3,_,h⟩:=lY h;cases h;exact⟨k,rfl⟩
theorem Ly(T:Good X kt g C)(ha:PE X a (tE (af X kt) Z (aa C ea)))(hb:PE X b (tE (af X kt) Z (aa C eb)))(hn:cg b=false):
  PT X (.Compare a [jY o] [b] pos) (tT (af X kt) Z (bV (aa C (.cmp o ea eb)))):=
 PT.imp (GJ (oQ T.hu o) ha hb (Bw hn)) λσ H Q h=>Bt (f:=WC (jY o)) (λx y v u m H st Q as rx ry h=>by obtain⟨k,e,q⟩:=Ok.truth as h;exact wA as rx ry e q) (Bx EV h)
theorem vn(h:cg b=false)(h':cg c=false):lastMarks [p,q] [b,c]=false:=by
 cases c<;>first
  |rfl
  |exact absurd (show true=false from h') V7.symm
theorem yq(h:tE (af X kt) Z (aa C (.chain o o' a b c)) σ H Q):
  zW (Hu (af X kt) o) (Hu (af X kt) o') (tE (af X kt) Z (aa C a)) (tE (af X kt) Z (aa C b)) (tE (af X kt) Z (aa C c)) σ H Q:=by
 obtain⟨m,ρ,st,ar,as,h⟩:=h;unfold aa at h;refine⟨m,ρ,st,ar,as,(Ok.bind h).mono λx st1 m1 H1 bH aY h1 v rv=>?_⟩;refine⟨m1,ρ,st1,ar.le bH,aY,(Ok.bind h1).mono λy st2 m2 H2 dW dU h2 u ru=>?_⟩;obtain⟨k,e,h3,_⟩:=Ok.of (Ok.bind h2) dU;refine wA dU (rv.le dW) ru e ⟨k,rfl,?_⟩;cases k with|false=>exact Ok.here h3 dU (.bl false) rfl|true=>refine⟨m2,ρ,st2,(ar.le bH).le dW,dU,(Ok.bind (show Ok (af X kt) Z ((aa C c ρ st2).bind _) m2 H2 _ from h3)).mono λz oF m4 H4 xo By h4 w' mj=>?_⟩;obtain⟨k',e',q⟩:=Ok.truth By h4;exact wA By (ru.le xo) mj e' q
theorem Hx(T:Good X kt g C)(ha:PE X a (tE (af X kt) Z (aa C ea)))(hb:PE X b (tE (af X kt) Z (aa C eb)))(hc:PE X c (tE (af X kt) Z (aa C ec)))(hn:cg b=false)(DB:cg c=false):
  PE X (.Compare a [jY o,jY o'] [b,c] pos) (tE (af X kt) Z (aa C (.chain o o' ea eb ec))):=
 PE.imp (DN (oQ T.hu o) (oQ T.hu o') ha hb hc (vn hn DB)) λσ H Q h=>yq h
theorem AG:∀r st p st1,aa C (.chain o o' a b c) r st=.ok p st1->∃b,p=.d (.bl b):=λr st p st1 h=>by unfold aa at h;obtain⟨x,s1,_,h⟩:=lY h;obtain⟨y,s2,_,h⟩:=lY h;obtain⟨k,s3,_,h⟩:=lY h;cases k with|false=>cases h;exact⟨false,rfl⟩|true=>obtain⟨z,s4,_,h⟩:=lY (show((aa C c r s3).bind _)=_ from h);obtain⟨k',s5,_,h⟩:=lY h;cases h;exact⟨k',rfl⟩
theorem EW(T:Good X kt g C)(ha:PE X a (tE (af X kt) Z (aa C ea)))(hb:PE X b (tE (af X kt) Z (aa C eb)))(hc:PE X c (tE (af X kt) Z (aa C ec)))(hn:cg b=false)(DB:cg c=false):
  PT X (.Compare a [jY o,jY o'] [b,c] pos) (tT (af X kt) Z (bV (aa C (.chain o o' ea eb ec)))):=
 PT.imp (DO (oQ T.hu o) (oQ T.hu o') ha hb hc (vn hn DB)) λσ H Q h=>yq (Bx AG h)
theorem Hy(ha:PE X a ta):PE X (.UnaryOp .Not a pos) (λσ H Q=>ta σ H λx H1=>∃k,Cf X.K x H1 k/\Q (.bl (!k)) H1):=by intro pins s σ H Q I h;refine UnaryOp_ (bI (ha pins s σ H _ I h) λv s1 ⟨x,H1,I1,r1,q1⟩=>not_of ?_);exact bI (DP pins s1 σ H1 x v (λk H'=>Q (.bl (!k)) H') I1 r1 q1) λc s2 ⟨H2,I2,q2⟩=>⟨.bl (!c),H2,I2,rfl,q2⟩
theorem Pd(ha:PE X a (tE (af X kt) Z (aa C ea))):PE X (.UnaryOp .Not a pos) (tE (af X kt) Z (aa C (.not ea))):=by refine PE.imp (Hy ha) ?_;rintro σ H Q ⟨m,ρ,st,ar,as,h⟩;unfold aa at h;refine⟨m,ρ,st,ar,as,(Ok.bind h).mono λx st1 m1 H1 bH aY h1 v rv=>?_⟩;obtain⟨k,e,h2,_⟩:=Ok.of (Ok.bind h1) aY;exact⟨k,EU aY rv e,Ok.here h2 aY (.bl (!k)) rfl⟩
theorem Lz(ha:PT X a (tT (af X kt) Z (bV (aa C ea)))):PT X (.UnaryOp .Not a pos) (tT (af X kt) Z (bV (aa C (.not ea)))):=by refine PT.imp (Ka ha) ?_;rintro σ H Q ⟨m,ρ,st,ar,as,h⟩;unfold bV aa at h;refine⟨m,ρ,st,ar,as,?_⟩;unfold bV;cases hr:aa C ea ρ st with|ex x s=>rw[hr] at h;exact h|no=>rw[hr] at h;exact h|ok p s1=>rw[hr] at h;simp only[ae] at h ⊢;cases ht:AD s1 p with|none=>rw[ht] at h;exact h|some k=>rw[ht] at h;exact h
theorem LA(ha:PE X a (tE (af X kt) Z (aa C ea))):PE X (.BoolOp .And [a] pos) (tE (af X kt) Z (dX C [ea])):=DG ha
theorem Pe(ha:PE X a (tE (af X kt) Z (aa C ea))):PE X (.BoolOp .Or [a] pos) (tE (af X kt) Z (dY C [ea])):=DG ha
theorem LB{rest:List Expr}(ha:PE X a (tE (af X kt) Z (aa C ea)))(hb:PE X (.BoolOp .And (b::rest) pos) (tE (af X kt) Z (dX C (eb::er)))):
  PE X (.BoolOp .And (a::b::rest) pos) (tE (af X kt) Z (dX C (ea::eb::er))):=by
 refine PE.imp (Kb ha hb) ?_;rintro σ H Q ⟨m,ρ,st,ar,as,h⟩;rw[dX] at h;refine⟨m,ρ,st,ar,as,(Ok.bind h).mono λx st1 m1 H1 bH aY h1 v rv=>?_⟩;split at h1;·rename_i k;cases (show v=.bl k from rv);refine⟨k,rfl,?_⟩;cases k with|true=>exact⟨m1,ρ,st1,ar.le bH,aY,h1⟩|false=>exact Ok.here h1 aY (.bl false) rfl
 ·exact h1.elim
theorem Pf{rest:List Expr}(ha:PE X a (tE (af X kt) Z (aa C ea)))(hb:PE X (.BoolOp .Or (b::rest) pos) (tE (af X kt) Z (dY C (eb::er)))):
  PE X (.BoolOp .Or (a::b::rest) pos) (tE (af X kt) Z (dY C (ea::eb::er))):=by
 refine PE.imp (NC ha hb) ?_;rintro σ H Q ⟨m,ρ,st,ar,as,h⟩;rw[dY] at h;refine⟨m,ρ,st,ar,as,(Ok.bind h).mono λx st1 m1 H1 bH aY h1 v rv=>?_⟩;split at h1;·rename_i k;cases (show v=.bl k from rv);refine⟨k,rfl,?_⟩;cases k with|false=>exact⟨m1,ρ,st1,ar.le bH,aY,h1⟩|true=>exact Ok.here h1 aY (.bl true) rfl
 ·exact h1.elim
theorem Hz(ha:PT X a (tT (af X kt) Z (bV (aa C ea)))):PW X (.BoolOp .And [a] pos) (tT (af X kt) Z (bV (dX C [ea]))):=pw_and1 ha
theorem LC(ha:PT X a (tT (af X kt) Z (bV (aa C ea)))):PW X (.BoolOp .Or [a] pos) (tT (af X kt) Z (bV (dY C [ea]))):=pw_or1 ha
theorem HA{rest:List Expr}(ha:PT X a (tT (af X kt) Z (bV (aa C ea))))(hb:PW X (.BoolOp .And (b::rest) pos) (tT (af X kt) Z (bV (dX C (eb::er))))):
  PW X (.BoolOp .And (a::b::rest) pos) (tT (af X kt) Z (bV (dX C (ea::eb::er)))):=by
 refine PW.imp (pw_and ha hb) ?_;rintro σ H Q ⟨m,ρ,st,ar,as,h⟩;refine⟨m,ρ,st,ar,as,?_⟩;unfold bV at h ⊢;rw[dX] at h;cases hr:aa C ea ρ st with
 |ex x s=>rw[hr] at h;exact h|no=>rw[hr] at h;exact h|ok p s1=>
  rw[hr] at h;simp only[ae] at h ⊢;split at h;·rename_i k;refine λm1 H1 bH aY=>?_;cases k with|true=>exact⟨m1,ρ,s1,ar.le bH,aY,Ok.le h bH⟩|false=>exact h m1 H1 bH aY
  ·exact h.elim
theorem LD{rest:List Expr}(ha:PT X a (tT (af X kt) Z (bV (aa C ea))))(hb:PW X (.BoolOp .Or (b::rest) pos) (tT (af X kt) Z (bV (dY C (eb::er))))):
  PW X (.BoolOp .Or (a::b::rest) pos) (tT (af X kt) Z (bV (dY C (ea::eb::er)))):=by
 refine PW.imp (pw_or ha hb) ?_;rintro σ H Q ⟨m,ρ,st,ar,as,h⟩;refine⟨m,ρ,st,ar,as,?_⟩;unfold bV at h ⊢;rw[dY] at h;cases hr:aa C ea ρ st with
 |ex x s=>rw[hr] at h;exact h|no=>rw[hr] at h;exact h|ok p s1=>
  rw[hr] at h;simp only[ae] at h ⊢;split at h;·rename_i k;refine λm1 H1 bH aY=>?_;cases k with|false=>exact⟨m1,ρ,s1,ar.le bH,aY,Ok.le h bH⟩|true=>exact h m1 H1 bH aY
  ·exact h.elim
end
section
variable{X:Cx}{g:G}{C:Nat->List P->aI->R P}{Z:List Addr}{e:Expr}{es:List Expr}
theorem fX:∀{es} {r} {st st1} {ps},az C es r st=.ok ps st1->ps.length=es.length
 |[],r,st,st1,ps,h=>by unfold az at h;cases h;rfl|e::es,r,st,st1,ps,h=>by unfold az at h;obtain⟨x,s1,_,h⟩:=lY h;obtain⟨xs,s2,h2,h⟩:=lY h;cases h;rw[Vt,Vt,fX h2]
theorem sE:PA X [] (tA (af X kt) Z (az C [])):=by refine PA.imp Ad ?_;rintro σ H Q ⟨m,ρ,st,ar,as,h⟩;unfold az at h;exact Ok.here h as [] rfl
theorem kH(ha:PE X x (tE (af X kt) Z (aa C a)))(hr:PA X xs (tA (af X kt) Z (az C bP)))(hs:notStar x=true):PA X (x::xs) (tA (af X kt) Z (az C (a::bP))):=by refine PA.imp (qR ha hr (bw hs)) ?_;rintro σ H Q ⟨m,ρ,st,ar,as,h⟩;unfold az at h;refine⟨m,ρ,st,ar,as,(Ok.bind h).mono λp st1 m1 H1 bH aY h1 v rv=>?_⟩;refine⟨m1,ρ,st1,ar.le bH,aY,(Ok.bind h1).mono λps st2 m2 H2 dW dU h2 vs iG=>?_⟩;exact Ok.here h2 dU (v::vs) ⟨v,vs,rfl,rv.le dW,iG⟩
theorem fY(h:gu g (a::bP) xs=true):∃x ys,xs=x::ys/\cF g a x=true/\notStar x=true/\gu g bP ys=true:=by
 rw[gu] at h;dsimp only at h;split at h;·rename_i x ys;simp only[U9] at h;exact⟨x,ys,rfl,h.1.1,h.1.2,h.2⟩
 ·cases h
theorem kI(h:gu g [] xs=true):xs=[]:=by rw[gu] at h;dsimp only at h;simpa using h
theorem cj:∀{bP} {xs},gu g bP xs=true->∀x∈xs,notStar x=true
 |[],xs,h=>by rw[kI h];intro x hx;cases hx|a::bP,xs,h=>by
  obtain⟨x,ys,rfl,_,h2,h3⟩:=fY h;intro y hy;rcases W4.mp hy with z|z;·rw[z];exact h2
  ·exact cj h3 y z
theorem gy:∀{bP} {xs},gu g bP xs=true->xs.length=bP.length
 |[],xs,h=>by rw[kI h];rfl|a::bP,xs,h=>by obtain⟨x,ys,rfl,_,_,h3⟩:=fY h;rw[Vt,Vt,gy h3]
theorem gi:∀{xs},(∀x∈xs,notStar x=true)->(Xn pos (VM xs env)).any (·.1)=false
 |[],_=>rfl|x::xs,h=>by rw[bw (h x Vh)];show(false||(Xn pos (VM xs env)).any (·.1))=false;rw[gi λy hy=>h y (Vb _ hy)];rfl
theorem Pg(h:PA X xs (tA (af X kt) Z (az C bP))):PE X (.Tuple xs k pos) (tE (af X kt) Z (aa C (.tup bP))):=by
 refine PE.imp (Kp h) ?_;rintro σ H Q ⟨m,ρ,st,ar,as,h⟩;unfold aa at h;refine⟨m,ρ,st,ar,as,(Ok.bind h).mono λps st1 m1 H1 bH aY h1 vs iG=>?_⟩;split at h1;·rename_i hc;obtain⟨xs,e,h2,_⟩:=Ok.of (Ok.bind h1) aY;exact⟨by rw[iG.length,<-dh];exact hc,λp hp=>qX (α:=Unit) aY (iG.bb e) hp h2⟩
 ·exact h1.elim
theorem Le.grow{K:KB}{m m':List Addr}{H H':Hp}{a:Addr}(le:Le K m H m' H')(ha:H a=none):Le K m H (m'++[a]) H' where
 pre:=by obtain⟨t,e⟩:=le.pre;exact⟨t++[a],by rw[e,V1]⟩
 tup:=le.tup
 keep:=le.keep
 new:=λb hb=>by
  rcases Xr.mp hb with z|z;·exact le.new b z
  ·have:b=a:=by simpa using z
   rw[this];exact .inr ha
 qc:=le.qc
 Bp:=le.Bp
 dt:=le.dt
 ext:=le.ext
 fH:=le.fH
theorem wB(h:tE (af X kt) Z (aa C (.lst mu l)) σ H Q):tL (af X kt) Z (aU C l) σ H Q:=by obtain⟨m,ρ,st,ar,as,h⟩:=h;unfold aa at h;refine⟨m,ρ,st,ar,as,?_⟩;cases hr:aU C l ρ st with|ex x s=>rw[hr] at h;exact h|no=>rw[hr] at h;exact h|ok ps st1=>rw[hr] at h;simp only[ae] at h;intro m' H' a vs le ha hm hH bP rs;have hz:a∉Z:=(as.fresh ha).2;cases mu with|true=>refine h (m'++[a]) H' (le.grow ha) (bP.adopt hz hH rs) (.ref a) ⟨a,?_,rfl⟩;rw[Vz (by rw[bP.len];exact Vj _),bP.len];simp|false=>have dU:=bP.uv (Z:=Z) λb hb=>Vb _ hb;obtain⟨xs,e,h2,_⟩:=Ok.of (Ok.bind (Ok.le (show Ok (af X kt) Z ((R.of (bb ps) st1).bind λxs st2=>R.ok (P.d (.pl xs)) st2) m H _ from h) le)) dU;exact Ok.here h2 dU (.ref a) ⟨a,vs,rfl,.inl hH,hm,hz,(rs.uv λb hb=>Vb _ hb).bb e⟩
theorem Ph(h:PE X e (tL (af X kt) Z (aU C l))):PE X e (tE (af X kt) Z (aa C (.lst mu l))):=PE.imp h λσ H Q q=>wB q
theorem Le.Bz{K:KB}(le:Le K m H m' H')(ha:H' a=none):H a=none:=by cases q:H a with|none=>rfl|some o=>exact absurd ha (le.qc a (by rw[q];exact λz=>nomatch z))
theorem sG{K:KB}(bH:Le K m H m1 H1)(aY:aA K H1 m1 Z st1)(iG:ai K H1 m1 Z ps vs)(ha:H1 a=none)(h:LQ K Z (R.ok ps st1) m H Q):Q (.ref a) (upd H1 a (.lst vs)):=
 h m1 (upd H1 a (.lst vs)) a vs (bH.trans (Le.same (ba ha _))) (bH.Bz ha) (aY.fresh ha).1 aC (aY.laid ha _) ((iG.kE ha).le (Le.same (ba ha _)))
theorem LF(h:PA X xs (tA (af X kt) Z (az C bP))):PE X (.List xs pos) (tL (af X kt) Z (aU C (.eY bP))):=by
 refine PE.imp (Kq h) ?_;rintro σ H Q ⟨m,ρ,st,ar,as,h⟩;refine⟨m,ρ,st,ar,as,?_⟩;unfold aU at h;cases hr:az C bP ρ st with
 |ex x s=>rw[hr] at h;exact h|no=>rw[hr] at h;exact h|ok ps st1=>
  rw[hr] at h;simp only[ae] at h;split at h;·rename_i hc;intro m1 H1 bH aY vs iG;exact⟨by rw[iG.length,<-dh];exact hc,λa ha=>sG bH aY iG ha h⟩
  ·exact h.elim
theorem aM.keys{K:KB}:∀{kvs} {us},aM K H m Z kvs us->ai K H m Z (kvs.map λkv=>ye kv.1) (us.map λkv=>kV kv.1)
 |[],us,h=>by cases (show us=[] from h);exact rfl|(k,p)::kvs,us,h=>by obtain⟨v,vs,rfl,r,rs⟩:=(show ∃v vs,us=(k,v)::vs/\aj K H m Z p v/\aM K H m Z kvs vs from h);refine⟨kV k,_,rfl,?_,aM.keys rs⟩;cases k<;>rfl
theorem BA{K:KB}{st:aI}(as:aA K H m Z st)(h:uq st p=some q)(r:aj K H m Z p v):∃a us,p=.obj q.1/\st[q.1]?=some (.dK q.2)/\m[q.1]?=some a/\v=.ref a/\H a=some (.dK us)/\aM K H m Z q.2 us:=by
 unfold uq at h;split at h
 ·rename_i n;split at h;·rename_i kvs hk;cases h;obtain⟨a,ha,rfl⟩:=(show ∃a,m[n]?=some a/\v=.ref a from r);obtain⟨a',Rg,us,hu,rs⟩:=as.at_ n _ hk;rw[ha] at Rg;cases Rg;exact⟨a,us,rfl,hk,ha,rfl,hu,rs⟩
  ·cases h
 ·cases h
theorem LG(T:Good X kt g C)(hg:g.gl "list"=true)(ha:PE X x (tE (af X kt) Z (aa C a)))(hs:notStar x=true):PE X (.Call (.Name "list" p) [x] [] pos) (tL (af X kt) Z (aU C (.keys a))):=by refine PE.imp (lj (uo T.calm) (T.glob hg) (T.bl _ (by decide+kernel)) boot_list (kH ha sE hs) (by decide+kernel) (by decide+kernel) (bw hs) rfl) ?_;rintro σ H Q ⟨m,ρ,st,ar,as,h⟩;refine⟨m,ρ,st,ar,as,?_⟩;unfold aU at h;show Ok (af X kt) Z (az C [a] ρ st) m H _;unfold az az;cases hr:aa C a ρ st with|ex x s=>rw[hr] at h;exact h|no=>rw[hr] at h;exact h|ok y st1=>rw[hr] at h;simp only[ae] at h ⊢;intro m1 H1 bH aY vs iG;obtain⟨v,sH,rfl,rv,e⟩:=(show ∃v sH,vs=v::sH/\aj (af X kt) H1 m1 Z y v/\sH=[] from iG);subst e;cases hi:uq st1 y with|none=>rw[hi] at h;exact(show False from h).elim|some q=>rw[hi] at h;obtain⟨b,us,rfl,hk,hm,rfl,hu,rs⟩:=BA aY hi rv;exact⟨b,us,rfl,hu,λl hl=>sG bH aY rs.keys hl h⟩
theorem HB(T:Good X kt g C)(zO:g.cv=true)(h1:g.N[i]?=some x)(h2:g.wu x=true)(hp:aQ x=true)(hs:∀z∈y::ys,notStar z=true)(h:PA X (y::ys) (tA (af X kt) Z (az C bP))):
  PE X (.Call (.Name x p) (y::ys) [] pos) (tE (af X kt) Z (aa C (.pV i bP))):=by
 refine PE.imp (Ex (i:=i) (by rw[T.N];exact h1) (T.wu h2) h (pn hp).1 (pn hp).2.1 (bw (hs y Vh)) (gi λz hz=>hs z (Vb _ hz))) ?_;rintro σ H Q ⟨m,ρ,st,ar,as,h⟩;unfold aa at h;obtain⟨q,e,h',_⟩:=Ok.of (Ok.bind h) as;have e':ρ[i]?=some (some q):=by unfold oO at e;cases z:ρ[i]? with|none=>rw[z] at e;cases e|some o=>rw[z] at e;simp at e;rw[e]
 obtain⟨v,ev,rv⟩:=ar.at_ i q e';cases q with|fn k bj=>rw[aj] at rv;obtain⟨a,c,bM,rfl,hc,TH,rc⟩:=rv;obtain⟨n,fd,ps,F,hr,hb⟩:=(T.pY zO k a c bM hc).ex;refine⟨a,ev,(T.pY zO k a c bM hc).ob,m,ρ,st,ar,as,(Ok.bind h').vi λqs st1 m1 H1 hq bH aY h1 vs iG=>⟨n,fd,ps,_,F,hr,hb,?_⟩⟩;exact⟨bH.ext _ _ TH,m1,Z,qs,bj,st1,iG,rc.le bH,aY,h1⟩|d x=>exact(Ok.nz (λ_ _=>rfl) h').elim|obj x=>exact(Ok.nz (λ_ _=>rfl) h').elim|fV x=>exact(Ok.nz (λ_ _=>rfl) h').elim|lf x=>exact(Ok.nz (λ_ _=>rfl) h').elim
theorem aM.look{K:KB}{m:List Addr}{f:Str}:∀{fs:List (Str×P)} {us:List (Str×V)},aM K H m Z fs us->(∀p,fs.lookup f=some p->∃v,us.lookup f=some v/\aj K H m Z p v)/\(fs.lookup f=none->us.lookup f=none)
 |[],us,h=>by cases (show us=[] from h);exact⟨(λp z=>nomatch z),λ_=>rfl⟩|(k,p)::fs,us,h=>by obtain⟨v,vs,rfl,r,rs⟩:=(show ∃v vs,us=(k,v)::vs/\aj K H m Z p v/\aM K H m Z fs vs from h);obtain⟨i1,i2⟩:=aM.look (f:=f) rs;rw[VG,VG];cases hb:f==k with|true=>exact⟨λq z=>by cases z;exact⟨v,rfl,r⟩,λz=>nomatch z⟩|false=>exact⟨i1,i2⟩
theorem AH{K:KB}{st:aI}(as:aA K H m Z st)(r:aj K H m Z p v)(h:ur c st p=some (n,fs)):
  ∃a A dx us,p=.obj n/\m[n]?=some a/\v=.ref a/\st[n]?=some (.ins c fs)/\VA K.K Vu c=some (some (.ref A))/\H a=some (.ins A dx us)/\H dx=some (.own a)/\aM K H m Z fs us:=by
 unfold ur at h;split at h
 ·rename_i n';split at h
  ·rename_i c' fs' hs;split at h;·rename_i hc;cases h;subst hc;rw[aj] at r;obtain⟨a,e,rfl⟩:=r;obtain⟨a',e',ao⟩:=as.at_ n _ hs;rw[e] at e';cases e';obtain⟨A,dx,us,g1,g2,g3,g4⟩:=ao;exact⟨a,A,dx,us,rfl,e,rfl,hs,g1,g2,g3,g4⟩
   ·cases h
  ·cases h
 ·cases h
theorem LH(T:Good X kt g C)(hf:g.xn c f=true)(h1:g.N[i]?=some x)(h2:g.wu x=true)(h3:aQ x=true):PE X (.Attribute (.Name x p) f pos) (tE (af X kt) Z (aa C (.attr c f i))):=by refine PE.imp (Km (yn (Z:=Z) (kt:=kt) T h1 h2 h3) rfl) ?_;rintro σ H Q ⟨m,ρ,st,ar,as,h⟩;rw[aa] at h;refine⟨m,ρ,st,ar,as,?_⟩;rw[aa];refine(Ok.bind h).mono λq st1 m1 H1 bH aY h1 v rv=>?_;obtain⟨q2,e,h2,_⟩:=Ok.of h1 aY;obtain⟨⟨n,fs⟩,e1,e2⟩:=bQ e;obtain⟨a,A,dx,us,rfl,hm,rfl,hs,g1,g2,g3,g4⟩:=AH aY rv e1;obtain⟨A',k1,k2,k3⟩:=T.fld c f hf;rw[show VA X.K Vu c=some (some (.ref A)) from g1] at k1;cases k1;obtain⟨w,hw,mj⟩:=(aM.look (f:=f) g4).1 q2 e2;exact⟨a,A,dx,us,w,rfl,g2,k2,k3,hw,h2 w mj⟩
theorem s_call(T:Good X kt g C)(hf:g.fns[f]?=some (x,bP.length))(hg:g.gl x=true)(hp:aQ x=true)(hs:∀x∈xs,notStar x=true)(hl:xs.length=bP.length)(h:PA X xs (tA (af X kt) Z (az C bP))):
  PE X (.Call (.Name x p) xs [] pos) (tE (af X kt) Z (aa C (.call f bP))):=by
 obtain⟨k,fa,fd,ps,F,hr,hm,hk,hb⟩:=(T.fn f x bP.length hf).ex;have red:∀σ H Q,tE (af X kt) Z (aa C (.call f bP)) σ H Q->DT (AF (af X kt) (C f) bP.length) [] E0 (tA (af X kt) Z (az C bP)) σ H Q:=by rintro σ H Q ⟨m,ρ,st,ar,as,h⟩;unfold aa at h;refine⟨m,ρ,st,ar,as,(Ok.bind h).vi λqs st1 m1 H1 hq bH aY h1 vs iG=>?_⟩;show AF (af X kt) (C f) bP.length (vs++[]) H1 Q E0;rw[Wb];exact⟨m1,Z,qs,st1,by rw[iG.length,fX hq],iG,aY,h1⟩
 cases xs with
 |nil=>
  have e:bP=[]:=by cases bP with|nil=>rfl|cons a b=>simp at hl
  subst e;refine PE.imp (DU F hr (T.glob hg) hm hk hb .nil xK (pn hp).1) λσ H Q h=>?_;obtain⟨m,ρ,st,ar,as,h1⟩:=red σ H Q h;unfold az at h1;exact Ok.here h1 as [] rfl
 |cons y ys=>exact PE.imp (GN F hr (T.glob hg) hm hk hb .nil xK h (pn hp).1 (bw (hs y Vh)) (gi λz hz=>hs z (Vb _ hz))) red
theorem AI{E:Value->Vv->Prop}(I:Inv X pins σ H s)(q:fI X.K H a xs)(e:aam X.K (.type "tuple") c=some b)(h:∀tk,Q (.bool b) {s with toks:=tk}):wpAny (model X.prog X.w) A (call (.builtin "isinstance") [.ref a,c]) Q E s:=by obtain⟨_,_,p,_⟩:=I.tuple q;obtain⟨o,h1,h2,_⟩:=p;exact Wx PySem.W.kitx_tuple I.mZ ⟨o,h1,h2⟩ e (λz=>nomatch z) h
theorem EX:ie X (.builtin "isinstance") (λxs H Q=>∃x T,xs=[x,.ty T]/\T∈lx/\((∃t,L2.Ou H x=some t/\Q (.bl (L2.fK t T)) H)\/(∃a ys,x=.ref a/\fI X.K H a ys/\Q (.bl (L2.fK "tuple" T)) H)\/(∃a ys,x=.ref a/\Rd H a (.lst ys)/\Q (.bl (L2.fK "list" T)) H))):=by
 intro pins s σ H xs us Q I r h;obtain⟨x,T,rfl,hT,h⟩:=h;obtain⟨u,w',rfl,rx,ry⟩:=vals2 r;cases (show w'=X7 T from ry);have Rh:T="int"\/T="bool"\/T="tuple"\/T="str"\/T="list":=by simpa[lx] using hT
 rcases h with ⟨t,ht,q⟩|⟨a,ys,rfl,hq,q⟩|⟨a,ys,rfl,hq,q⟩
 ·exact oy I rx (Hd ht) (qU X.K (KO ht) Rh) λtk=>⟨.bl (L2.fK t T),H,I.tok _,rfl,q⟩
 ·cases rx;exact AI I hq (qU X.K (by simp) Rh) λtk=>⟨.bl (L2.fK "tuple" T),H,I.tok _,rfl,q⟩
 ·rcases hq with hq|⟨o,hq⟩;·exact oy I rx (mi.lst hq) (qU X.K (by simp) Rh) λtk=>⟨.bl (L2.fK "list" T),H,I.tok _,rfl,q⟩
  ·exact oy I rx (mi.dt hq) (qU X.K (by simp) Rh) λtk=>⟨.bl (L2.fK "list" T),H,I.tok _,rfl,q⟩
theorem HC(h:T∈lx):Yp (We T)=some (.type T)/\We T∈nF/\We T≠"__name__"/\(We T==("__debug__":Str))=false:=by
 have h':T="int"\/T="bool"\/T="tuple"\/T="str"\/T="list":=by simpa[lx] using h
 rcases h' with rfl|rfl|rfl|rfl|rfl;·exact⟨boot_int,by decide+kernel,by decide+kernel,by decide+kernel⟩
 ·exact⟨boot_bool,by decide+kernel,by decide+kernel,by decide+kernel⟩
 ·exact⟨boot_tuple,by decide+kernel,by decide+kernel,by decide+kernel⟩
 ·exact⟨boot_str,by decide+kernel,by decide+kernel,by decide+kernel⟩
 ·exact⟨boot_list,by decide+kernel,by decide+kernel,by decide+kernel⟩
theorem Pj(T:Good X kt g C)(hg:g.gl "isinstance"=true)(ht:t∈lx)(HD:g.gl (We t)=true)(ha:PE X x (tE (af X kt) Z (aa C a)))(hs:notStar x=true):
  PE X (.Call (.Name "isinstance" p) [x,.Name (We t) q] [] pos) (tE (af X kt) Z (aa C (.Gn a t))):=by
 obtain⟨b1,b2,b3,b4⟩:=HC ht;refine PE.imp (rO EX (T.glob hg) (T.bl _ (by decide+kernel)) boot_isinstance (qR ha (qR (GC (v:=.ty t) (T.glob HD) (T.bl _ b2) b1 rfl b3 b4) Ad) (bw hs)) (by decide+kernel) (by decide+kernel) (bw hs) rfl) ?_;rintro σ H Q ⟨m,ρ,st,ar,as,h⟩;unfold aa at h;refine⟨m,ρ,st,ar,as,(Ok.bind h).mono λy st1 m1 H1 bH aY h1 v rv=>?_⟩;obtain⟨k,e,h2,_⟩:=Ok.of (Ok.bind h1) aY;have q:=Ok.here h2 aY (.bl (fK k t)) rfl;have eqt:Y.fK k t=L2.fK k t:=rfl;refine⟨v,t,rfl,ht,?_⟩;cases y with
 |d x=>cases x with|bq=>cases (show v=.bq from rv);cases e;exact .inl ⟨_,rfl,q⟩|bl b=>cases (show v=.bl b from rv);cases e;exact .inl ⟨_,rfl,q⟩|int b=>cases (show v=.int b from rv);cases e;exact .inl ⟨_,rfl,q⟩|str b=>cases (show v=.str b from rv);cases e;exact .inl ⟨_,rfl,q⟩|tup xs=>obtain⟨b,us,rfl,hq,_⟩:=rv;cases e;exact .inr (.inl ⟨b,us,rfl,fI.of hq,q⟩)|pl xs=>obtain⟨b,us,rfl,hq,_⟩:=rv;cases e;exact .inr (.inr ⟨b,us,rfl,hq,q⟩)
 |obj n=>
  have e':(match st1[n]? with|some (.lst _)=>some "list"|_=>none)=some k:=e;split at e';·rename_i xs hx;cases e';obtain⟨b,us,rfl,hq,_⟩:=cy aY (show aR st1 (.obj n)=some xs by show(match st1[n]? with|some (.lst xs)=>some xs|_=>none)=some xs;rw[hx]) rv;exact .inr (.inr ⟨b,us,rfl,hq,q⟩)
  ·cases e'
 |fV n=>cases e|fn k c=>cases e|lf k=>cases e
end
section
variable{X:Cx}{g:G}{C:Nat->List P->aI->R P}{Z:List Addr}{e:Expr}{es:List Expr}
theorem EY(h:wz y=false):Be y:=by
 intro o i;cases y<;>first
  |rfl
  |exact absurd (show true=false from h) V7.symm
def TJ:R2:=λx y H Q=>∃a v,x=.ref a/\nq H a y (some v)/\Q v H
theorem AJ(hu:X.A.units+100 < cLine):Jo X TJ:=by intro value slice pins s σ H x y v u Q I rx ry h hs;obtain⟨a,w',rfl,g,q⟩:=h;cases rx;obtain⟨ob,h1,h2⟩:=xH I g a rfl;refine nr (xG I g) ?_ hs;exact Cn (by omega) I g ry λw2 s3 I3 mj=>⟨w',H,I3,mj,q⟩
theorem TK(hu:X.A.units+100 < cLine)(ha:PE X a (tE (af X kt) Z (aa C ea)))(hb:PE X b (tE (af X kt) Z (aa C eb)))(hs:wz b=false):PE X (.Subscript a b pos) (tE (af X kt) Z (aa C (.ix ea eb))):=by
 refine PE.imp (N6 ((GZ.or Kx).or (AJ hu)) ha hb (EY hs)) λσ H Q h=>Bt (f:=λa b=>Zb a b) (λx y v u m H st Q as rx ry h=>?_) h;obtain⟨p,e,q,_⟩:=Ok.of h as;unfold xm at e;split at e;·rename_i o ho;obtain⟨res,e1,e2⟩:=bQ e;cases (show res=some p from e2);obtain⟨n,a,rfl,hs,hm,rfl,ao,_⟩:=sD as ho rx;obtain⟨ov,hg,h1,h2⟩:=Bv ao ry e1;obtain⟨w',rfl,mj⟩:=h2 p rfl;exact .inr ⟨a,w',rfl,hg,q w' mj⟩
 left;unfold Lj at e;split at e
 ·rename_i i;cases (show u=.int i from ry);obtain⟨ps,e1,e2⟩:=bQ e;obtain⟨a,us,rfl,hq,rs⟩:=ly as e1 rx;obtain⟨j,e3,e4⟩:=bQ (show(Y.xC ps.length i).bind (λj=>ps[j]?)=some p from e2);obtain⟨w',e5,mj⟩:=rs.get e4;have e6:L2.om us i=some w':=by show(L2.xC us.length i).bind (λj=>us[j]?)=some w';rw[rs.length];have:L2.xC ps.length i=some j:=e3;rw[this];exact e5
  rcases hq with hq|hq;·exact .inl ⟨a,us,i,w',rfl,rfl,hq,e6,q w' mj⟩
  ·exact .inr ⟨a,us,i,w',rfl,rfl,fI.of hq,e6,q w' mj⟩
 ·cases e
def tO(K:KB)(Z:List Addr)(d:bU->aI->R (Option P)):TO:=λσ H Q=>∃m r st,cQ K H m Z r σ/\aA K H m Z st/\Ok K Z (d r st) m H (λo _ _ H'=>∃l,yb o=some l/\Q l H')
theorem PO.imp(h:PO X x t)(i:∀σ H Q,t' σ H Q->t σ H Q):PO X x t':=λpins s σ H Q I q=>h pins s σ H Q I (i σ H Q q)
theorem HE:PO X none (tO (af X kt) Z (gT C none)):=by refine PO.imp GW ?_;rintro σ H Q ⟨m,ρ,st,ar,as,h⟩;unfold gT at h;obtain⟨l,e,q⟩:=Ok.here h as;cases e;exact q
theorem HF(ha:PE X x (tE (af X kt) Z (aa C a))):PO X (some x) (tO (af X kt) Z (gT C (some a))):=by refine PO.imp (GX ha) ?_;rintro σ H Q ⟨m,ρ,st,ar,as,h⟩;unfold gT at h;refine⟨m,ρ,st,ar,as,(Ok.bind h).mono λp st1 m1 H1 bH aY h1 v rv=>?_⟩;obtain⟨l,e,q⟩:=Ok.here h1 aY;cases p with|obj n=>cases e|fV n=>cases e|fn k c=>cases e|lf k=>cases e|d y=>cases y with|int i=>cases e;cases (show v=.int i from rv);exact⟨i,rfl,q⟩|_=>cases e
theorem au.cut{K:KB}(h:au K H m Z xs us)lo hi:au K H m Z (se xs lo hi) (oz us lo hi):=by
 have r:=h.map;have hl:=h.length;unfold se oz;rw[hl];have e:∀(n d:Nat) (o:Option Int),Y.cI n d o=HT.cI n d o:=λn d o=>by cases o<;>rfl
 rw[e,e];have q:=(r.drop (HT.cI xs.length 0 lo)).take (HT.cI xs.length xs.length hi - HT.cI xs.length 0 lo);rw[<-aay,<-aax] at q;refine ai.bb q ?_;generalize ((xs.drop (HT.cI xs.length 0 lo)).take (HT.cI xs.length xs.length hi - HT.cI xs.length 0 lo))=ys;induction ys with|nil=>rfl|cons y ys ih=>show((bb (ys.map P.d)).map λxs=>y::xs)=_;rw[ih];rfl
theorem ai.cut{K:KB}(r:ai K H m Z xs us)lo hi:ai K H m Z (se xs lo hi) (oz us lo hi):=by
 have hl:=r.length;unfold se oz;rw[hl];have e:∀(n d:Nat) (o:Option Int),Y.cI n d o=HT.cI n d o:=λn d o=>by cases o<;>rfl
 rw[e,e];exact(r.drop (HT.cI xs.length 0 lo)).take (HT.cI xs.length xs.length hi - HT.cI xs.length 0 lo)
theorem HG{lo hi:Option Expr}{p2 pos:Pos}(ha:PE X x (tE (af X kt) Z (aa C a)))(hl:PO X lo (tO (af X kt) Z (gT C l)))(hh:PO X hi (tO (af X kt) Z (gT C h))):
  PE X (.Subscript x (.Slice lo hi none p2) pos) (tE (af X kt) Z (aa C (.slice a l h))):=by
 refine PE.imp (DZ (Hf.or G0) ha hl hh) ?_;rintro σ H Q ⟨m,ρ,st,ar,as,h0⟩;unfold aa at h0;refine⟨m,ρ,st,ar,as,(Ok.bind h0).mono λy st1 m1 H1 bH aY h1 v rv=>?_⟩;refine⟨m1,ρ,st1,ar.le bH,aY,(Ok.bind h1).mono λol st2 m2 H2 dW dU h2=>?_⟩;cases hr:gT C h ρ st2 with
 |ex x s=>rw[hr] at h2;exact(show False from h2).elim|no=>rw[hr] at h2;exact(show False from h2).elim|ok oh st3=>
  rw[hr] at h2;simp only[ae] at h2;cases hs:oM y ol oh st3 with
  |none=>rw[hs] at h2;exact(show False from h2).elim|some q=>
   have hs0:=hs;unfold oM at hs;obtain⟨il,e1,hs⟩:=bQ hs;obtain⟨ih,e2,hs⟩:=bQ hs;refine⟨il,e1,m2,ρ,st2,(ar.le bH).le dW,dU,?_⟩;rw[hr];intro m3 H3 oR p5;refine⟨ih,e2,?_⟩;rw[hs0] at h2;have rv3:=(rv.le dW).le oR;have fin:∀xs,aR st3 y=some xs->(bb (se xs il ih)).map (λys=>P.d (.pl ys))=some q->(Ov v il ih H3 Q\/N8 X.K v il ih H3 Q):=λxs hx hz=>by obtain⟨ys,hy,rfl⟩:=gv hz;obtain⟨b,us,rfl,hq,rs⟩:=cy p5 hx rv3;refine .inr ⟨b,us,rfl,.inl hq,λp hp=>?_⟩;exact ER p5 ((rs.cut il ih).bb hy) hp (Ok.le h2 oR)
   split at hs;·rename_i xs;cases hs;obtain⟨b,us,rfl,hq,rs⟩:=rv3;refine .inl ⟨b,us,rfl,hq,λr H' sm hr=>?_⟩;have le:Le (af X kt) m3 H3 m3 H':=Le.same sm;exact h2 m3 H' (oR.trans le) (p5.same sm) (.ref r) ⟨r,_,rfl,hr,(rs.cut il ih).le le⟩
   ·obtain⟨xs,e3,hs⟩:=bQ hs;exact fin xs e3 hs
theorem wC{K:KB}(h:ai K H m Z [p] vs):∃v,vs=[v]/\aj K H m Z p v:=by obtain⟨v,sH,rfl,rv,e⟩:=(show ∃v sH,vs=v::sH/\aj K H m Z p v/\sH=[] from h);subst e;exact⟨v,rfl,rv⟩
theorem LI{K:KB}(h:ai K H m Z [p,q] vs):∃v u,vs=[v,u]/\aj K H m Z p v/\aj K H m Z q u:=by obtain⟨v,sH,rfl,rv,h'⟩:=(show ∃v sH,vs=v::sH/\aj K H m Z p v/\ai K H m Z [q] sH from h);obtain⟨u,rfl,ru⟩:=wC h';exact⟨v,u,rfl,rv,ru⟩
def TL(K:Vm):Bf->List V->Hp->VK->Prop
 |.any=>λxs H Q=>∃(p:Addr) (bs:List Bool),xs=[.ref p]/\lG K H p (bs.map V.bl)/\Q (.bl (bs.any id)) H|.len=>λxs H Q=>(∃p n,xs=[.ref p]/\Oy H p n/\Q (.int n) H)\/(∃p ys,xs=[.ref p]/\(lG K H p ys\/fI K H p ys)/\Q (.int ys.length) H)\/(∃z,xs=[.str z]/\z.length<=VD/\Q (.int z.length) H)|.tuple=>λxs H Q=>∃p ys,xs=[.ref p]/\((lG K H p ys/\∀l,H l=none->Q (.ref l) (upd H l (.tup ys)))\/(fI K H p ys/\Q (.ref p) H))
def Pk:Bf->Value
 |.len=>.builtin "len"|.any=>.builtin "any"|.tuple=>.type "tuple"
theorem yr(h:ie X f r)(h':ie X f r'):ie X f (λxs H Q=>r xs H Q\/r' xs H Q):=by
 intro pins s σ H xs us Q I rv q;rcases q with q|q;·exact h pins s σ H xs us Q I rv q
 ·exact h' pins s σ H xs us Q I rv q
theorem HH(hc:X.calm=true):∀f,ie X (Pk f) (TL X.K f)
 |.len=>yr v9 (yr vZ v5)|.any=>Cw hc|.tuple=>uf
theorem yt{K:KB}:∀{ps} {bs} {us},ai K H m Z ps us->boolsOf ps=some bs->us=bs.map V.bl
 |[],bs,us,h,e=>by cases e;exact h|p::ps,bs,us,h,e=>by
  obtain⟨v,vs,rfl,r,rs⟩:=(show ∃v vs,us=v::vs/\aj K H m Z p v/\ai K H m Z ps vs from h);unfold boolsOf at e;split at e;·rename_i e0;cases e0
  ·rename_i b r' e0;cases e0;obtain⟨cs,e1,rfl⟩:=gv e;cases (show v=.bl b from r);rw[yt rs e1];rfl
  ·cases e
theorem Pl{K:KB}{st:aI}(as:aA K H m Z st)(rx:ai K H m Z ps vs)(h:Ok K Z (R.of (lr f ps st) st) m H (λp _ m' H'=>∀v,aj K H' m' Z p v->Q v H')):TL K.K f vs H Q:=by
 obtain⟨p,e,q,qq⟩:=Ok.of h as;unfold lr at e;split at e
 ·rename_i p0;obtain⟨v,rfl,rv⟩:=wC rx;split at e
  ·rename_i x;cases (show v=.str x from rv);split at e;·rename_i hc;cases e;exact .inr (.inr ⟨x,rfl,by rw[<-dh];exact hc,q _ rfl⟩)
   ·cases e
  ·split at e
   ·rename_i o ho;cases e;obtain⟨n,a,rfl,hs,hm,rfl,ao,hd⟩:=sD as ho rv;refine .inl ⟨a,Hn o,rfl,?_,q _ rfl⟩;cases o with
    |lst xs=>cases hd|ins c fs=>cases hd|vf=>cases hd|dK kvs=>obtain⟨us,hu,rs⟩:=ao;exact .inl ⟨us,.inl hu,rs.length⟩
    |dT kvs=>obtain⟨us,hu,rs⟩:=ao;exact .inr ⟨us,.inl hu,rs.length⟩
   ·obtain⟨xs,e1,rfl⟩:=gv e;obtain⟨a,us,rfl,hq,rs⟩:=ly as e1 rv;refine .inr (.inl ⟨a,us,rfl,JK hq,?_⟩);rw[rs.length];exact q _ rfl
 ·obtain⟨v,rfl,rv⟩:=wC rx;obtain⟨xs,e1,e⟩:=bQ e;obtain⟨bs,e2,rfl⟩:=gv e;obtain⟨a,us,rfl,hq,rs⟩:=cy as e1 rv;have:=yt rs e2;subst this;exact⟨a,bs,rfl,.inl hq,q _ rfl⟩
 ·obtain⟨v,rfl,rv⟩:=wC rx;obtain⟨xs,e1,e⟩:=bQ e;obtain⟨ys,e2,rfl⟩:=gv e;obtain⟨a,us,rfl,hq,rs⟩:=ly as e1 rv;have rr:=rs.bb e2;rcases hq with hq|hq;·exact⟨a,us,rfl,.inl ⟨hq,λl hl=>qX (α:=Unit) as rr hl qq⟩⟩
  ·exact⟨a,us,rfl,.inr ⟨fI.of hq,q (.ref a) ⟨a,us,rfl,hq,rr⟩⟩⟩
 ·cases e
theorem TM(T:Good X kt g C)(hg:g.gl (wy f)=true)(hs:∀y∈x::xs,notStar y=true)(h:PA X (x::xs) (tA (af X kt) Z (az C bP))):
  PE X (.Call (.Name (wy f) p) (x::xs) [] pos) (tE (af X kt) Z (aa C (.bf f bP))):=by
 have red:∀σ H Q,tE (af X kt) Z (aa C (.bf f bP)) σ H Q->Sf (TL X.K f) (tA (af X kt) Z (az C bP)) σ H Q:=by rintro σ H Q ⟨m,ρ,st,ar,as,h⟩;unfold aa at h;exact⟨m,ρ,st,ar,as,(Ok.bind h).mono λqs st1 m1 H1 bH aY h1 vs iG=>Pl aY iG h1⟩
 have s1:=bw (env:=X.env) (es:=xs) (hs x Vh);have s2:(Xn pos (VM xs X.env)).any (·.1)=false:=gi λz hz=>hs z (Vb _ hz);have hc:=HH (X:=X) T.calm f;cases f with|len=>exact PE.imp (rO (id:="len") hc (T.glob hg) (T.bl _ (by decide+kernel)) PySem.boot_len h (by decide+kernel) (by decide+kernel) s1 s2) red|any=>exact PE.imp (rO (id:="any") hc (T.glob hg) (T.bl _ (by decide+kernel)) boot_any h (by decide+kernel) (by decide+kernel) s1 s2) red|tuple=>exact PE.imp (lj (T:="tuple") hc (T.glob hg) (T.bl _ (by decide+kernel)) boot_tuple h (by decide+kernel) (by decide+kernel) s1 s2) red
theorem LJ:PE X (.Dict [] [] pos) (tE (af X kt) Z (aa C (.oK t))):=by
 have red:∀(ho:HO) (ob:O),(∀H m Z a,H a=some ho->qr (af X kt) H m Z a ob)->∀(σ:L2.St) (H:Hp) (Q:VK) m ρ st,cQ (af X kt) H m Z ρ σ->aA (af X kt) H m Z st->
   Ok (af X kt) Z (R.ok (P.obj st.length) (st++[ob])) m H (λp _ m' H'=>∀v,aj (af X kt) H' m' Z p v->Q v H')->∀p,H p=none->Q (.ref p) (upd H p ho):=by
  intro ho ob LK σ H Q m ρ st ar as h p hp;have hz:p∉Z:=(as.fresh hp).2;refine h (m++[p]) (upd H p ho) ((Le.same (ba hp _)).grow hp) ((as.laid hp ho (λφ z=>(LK (upd H p ho) m Z p aC).qc.2.2.2.1 φ (by rw[aC,z]))).wq hz (LK _ _ _ _ aC)) (.ref p) ⟨p,?_,rfl⟩;rw[Vz (by rw[as.len];exact Vj _),as.len];simp
 cases t with
 |false=>refine PE.imp D7 ?_;rintro σ H Q ⟨m,ρ,st,ar,as,h⟩;unfold aa at h;exact red (.dK []) (.dK []) (λH m Z a e=>⟨[],e,rfl⟩) σ H Q m ρ st ar as h
 |true=>refine PE.imp D8 ?_;rintro σ H Q ⟨m,ρ,st,ar,as,h⟩;unfold aa at h;exact red (.dT []) (.dT []) (λH m Z a e=>⟨[],e,rfl⟩) σ H Q m ρ st ar as h
theorem LL(T:Good X kt g C)(hk:Br g k kx=true)(hv:ym x vx=true):PE X (.Dict [some kx] [vx] pos) (tE (af X kt) Z (aa C (.CL k x))):=by
 obtain⟨v,pv,rv⟩:=EO (X:=X) hv;obtain⟨tk,pk,rk⟩:=Hs (Z:=Z) T hk;refine PE.imp (G6 (D9 pk pv G5) rfl rfl (by simp) (by simp)) ?_;rintro σ H Q ⟨m,ρ,st,ar,as,h⟩;unfold aa at h;rcases rk (st:=st) ar with e|⟨y,u,e,ru,q⟩;·rw[e] at h;exact h.elim
 rw[e,ae] at h;obtain⟨o,eo,h2,cR⟩:=Ok.of (Ok.bind h) as;clear cR;obtain⟨kk,Cz,rfl⟩:=gv (show(keyOf y).map (λk=>O.dK [(k,P.d x)])=some o from eo);cases ru.key Cz;intro p hp;refine q _ _ ⟨aC,[(kk,v)],rfl,by simp,?_⟩;rw[Gy];have hz:p∉Z:=(as.fresh hp).2;have ho:upd H p (.dK (oB [] [(kk,v)]))=upd H p (.dK [(kk,v)]):=rfl;rw[ho];refine h2 (m++[p]) (upd H p (.dK [(kk,v)])) ((Le.same (ba hp _)).grow hp) ((as.laid hp (HO.dK [(kk,v)]) (λφ z=>nomatch z)).wq hz ⟨[(kk,v)],aC,v,[],rfl,rv _ _ _ _,rfl⟩) (.ref p) ⟨p,?_,rfl⟩;rw[Vz (by rw[as.len];exact Vj _),as.len];simp
theorem oS(h:isCall o=false):XU o n env w=w:=by
 cases o with
 |Call f xs ks p=>
  cases f with
  |Name x q=>
   cases xs with
   |nil=>cases ks with|nil=>exact absurd (show true=false from h) V7.symm|cons _ _=>rfl
   |cons _ _=>rfl
  |_=>rfl
 |_=>rfl
theorem EZ{K:KB}(ao:qr K H m Z a o)(hd:gq o=true):Q0 H a:=by cases o with|lst xs=>cases hd|ins c fs=>cases hd|vf=>cases hd|dK kvs=>obtain⟨us,hu,_⟩:=ao;exact .inl ⟨us,.inl hu⟩|dT kvs=>obtain⟨us,hu,_⟩:=ao;exact .inr ⟨us,.inl hu⟩
def WalksU(K:KB)(J:It)(us:List V)(m:List Addr)(H:Hp):Prop:=
 ∀m2 H2,Le K m H m2 H2->∀i:Nat,(i < us.length->J.go i H2/\∀x H3,J.NM i H2 x H3->H3=H2/\us[i]?=some x)/\(us.length<=i->J.stop i H2)
def Walks(K:KB)(Z:List Addr)(J:It)(ps:List P)(m:List Addr)(H:Hp):Prop:=
 ∀m2 H2 Z2,Le K m H m2 H2->(∀a∈Z2,a∈Z\/H a=none)->∀i:Nat,(∀p,ps[i]?=some p->J.go i H2/\∀x H3,J.NM i H2 x H3->ji H2 H3/\aj K H3 m2 Z2 p x)/\(i=ps.length->J.stop i H2)
def tW(K:KB)(Z:List Addr)(d:bU->aI->R (List P)):TI:=λσ H S=>∃m r st,cQ K H m Z r σ/\aA K H m Z st/\Ok K Z (d r st) m H (λps _ m' H'=>∀J,Walks K Z J ps m' H'->S J H')
mutual
theorem aF.jo{K:KB}{H:Hp}{m Z Z2:List Addr}(hz:∀a∈Z2,a∈Z\/H a=none):∀{x:D} {v:V},aF K H m Z x v->aF K H m Z2 x v
 |.bq,_,h=>h|.bl _,_,h=>h|.int _,_,h=>h|.str _,_,h=>h|.tup xs,v,h=>by obtain⟨a,us,e,q,r⟩:=(show ∃a us,v=.ref a/\H a=some (.tup us)/\au K H m Z xs us from h);exact⟨a,us,e,q,au.jo hz r⟩
 |.pl xs,v,h=>by
  obtain⟨a,us,e,q,hm,hn,r⟩:=(show ∃a us,v=.ref a/\Rd H a (.lst us)/\a∉m/\a∉Z/\au K H m Z xs us from h);refine⟨a,us,e,q,hm,λz=>?_,au.jo hz r⟩;rcases hz a z with y|y;·exact hn y
  ·exact EN q y
theorem au.jo{K:KB}{H:Hp}{m Z Z2:List Addr}(hz:∀a∈Z2,a∈Z\/H a=none):∀{xs:List D} {us:List V},au K H m Z xs us->au K H m Z2 xs us
 |[],_,h=>h|x::xs,us,h=>by obtain⟨v,vs,e,r,rs⟩:=(show ∃v vs,us=v::vs/\aF K H m Z x v/\au K H m Z xs vs from h);exact⟨v,vs,e,aF.jo hz r,au.jo hz rs⟩
end
mutual
theorem aj.jo{K:KB}{H:Hp}{m Z Z2:List Addr}(hz:∀a∈Z2,a∈Z\/H a=none):∀{x:P} {v:V},aj K H m Z x v->aj K H m Z2 x v
 |.d _,_,h=>by rw[aj] at h ⊢;exact aF.jo hz h|.obj _,_,h=>by rw[aj] at h ⊢;exact h|.fV _,_,h=>by rw[aj] at h ⊢;exact h|.fn k bj,v,h=>by rw[aj] at h ⊢;obtain⟨a,c,bM,e,q,hc,r⟩:=h;exact⟨a,c,bM,e,q,hc,ai.jo hz r⟩
 |.lf k,v,h=>by rw[aj] at h ⊢;exact h
theorem ai.jo{K:KB}{H:Hp}{m Z Z2:List Addr}(hz:∀a∈Z2,a∈Z\/H a=none):∀{xs:List P} {us:List V},ai K H m Z xs us->ai K H m Z2 xs us
 |[],_,h=>h|x::xs,us,h=>by rw[ai] at h ⊢;obtain⟨v,vs,e,r,rs⟩:=h;exact⟨v,vs,e,aj.jo hz r,ai.jo hz rs⟩
end
theorem WalksU.walks{K:KB}(w:WalksU K J us m H)(r:ai K H m Z ps us):Walks K Z J ps m H:=by intro m2 H2 Z2 le hz i;obtain⟨w1,w2⟩:=w m2 H2 le i;refine⟨λp hp=>?_,λh=>w2 (by rw[r.length];exact Zr h.symm)⟩;obtain⟨v,hv,rv⟩:=r.get hp;obtain⟨go,yl⟩:=w1 (List.getElem?_eq_some_iff.mp hv).1;refine⟨go,λx H3 hy=>?_⟩;obtain⟨rfl,hx⟩:=yl x H3 hy;rw[hv] at hx;cases hx;exact⟨λ_ _ e=>e,(rv.jo hz).le le⟩
theorem PI.imp(h:PI X tg iter t)(i:∀σ H Q,t' σ H Q->t σ H Q):PI X tg iter t':=λpins s σ H Q I q=>h pins s σ H Q I (i σ H Q q)
theorem HI{K:KB}(h:H a=some (.tup us)):WalksU K (R4 K.K a) us m H:=λm2 H2 le i=>by have h2:fI K.K H2 a us:=fI.of (le.tup _ _ h);refine⟨λhi=>⟨⟨us,us[i],h2,by simp[hi]⟩,λx H3 ⟨e,y⟩=>⟨e,y us h2⟩⟩,λhi=>⟨us,h2,hi⟩⟩
theorem HJ{K:KB}(h:Rd H a (.lst us))(hm:a∉m):WalksU K (R3 K.K a) us m H:=λm2 H2 le i=>by have h2:lG K.K H2 a us:=.inl (le.rd h hm);refine⟨λhi=>⟨⟨us,us[i],h2,by simp[hi]⟩,λx H3 ⟨e,y⟩=>⟨e,y us h2⟩⟩,λhi=>⟨us,h2,hi⟩⟩
theorem BB{K:KB}{lo hi:Int}:WalksU K (Ke lo (hi - lo).toNat) ((U8 (hi - lo).toNat).map λk=>V.int (lo+(k:Nat))) m H:=λm2 H2 le i=>by
 refine⟨λh=>⟨by show i < (hi - lo).toNat;rw[Vg,VQ] at h;exact h,λx H3 ⟨e,y⟩=>⟨e,?_⟩⟩,λh=>by show(hi - lo).toNat<=i;rw[Vg,VQ] at h;exact h⟩;have h':i < (hi - lo).toNat:=by rw[Vg,VQ] at h;exact h
 rw[Vi,WA h',y];rfl
theorem qY{K:KB}lo:∀l:List Nat,ai K H m Z (l.map λk=>P.d (.int (lo+(k:Nat)))) (l.map λk=>V.int (lo+(k:Nat)))
 |[]=>rfl|k::l=>⟨_,_,rfl,rfl,qY lo l⟩
theorem Pm(ha:PE X x (tE (af X kt) Z (aa C a))):PI X tg x (tW (af X kt) Z (cq C (.ex a))):=by
 intro pins s σ H S I h;obtain⟨m,ρ,st,ar,as,h0⟩:=h;unfold cq at h0;cases hr:aa C a ρ st with
 |ex x s=>rw[hr] at h0;exact(show False from h0).elim|no=>rw[hr] at h0;exact(show False from h0).elim|ok y st1=>
  rw[hr] at h0;simp only[ae] at h0;unfold sf at h0;split at h0;·rename_i xs;refine Kf ha pins s σ H S I ⟨m,ρ,st,ar,as,?_⟩;rw[hr];intro m1 H1 bH aY v rv;obtain⟨b,us,rfl,hq,rs⟩:=rv;exact⟨b,rfl,⟨us,fI.of hq⟩,h0 m1 H1 bH aY _ ((HI hq).walks rs.map)⟩
  ·rename_i xs;refine qP ha pins s σ H S I ⟨m,ρ,st,ar,as,?_⟩;rw[hr];intro m1 H1 bH aY v rv;obtain⟨b,us,rfl,hq,hm,_,rs⟩:=rv;exact⟨b,rfl,⟨us,.inl hq⟩,h0 m1 H1 bH aY _ ((HJ hq hm).walks rs.map)⟩
  ·exact(show False from h0).elim
theorem LM(T:Good X kt g C)(hg:g.gl "range"=true)(aH:gu g bP xs=true)(h:PA X xs (tA (af X kt) Z (az C bP))):PI X tg (.Call (.Name "range" p) xs [] pos) (tW (af X kt) Z (cq C (.gG bP))):=by
 intro pins s σ H S I h1;obtain⟨m,ρ,st,ar,as,h0⟩:=h1;unfold cq at h0;cases hr:az C bP ρ st with
 |ex x s=>rw[hr] at h0;exact(show False from h0).elim|no=>rw[hr] at h0;exact(show False from h0).elim|ok ps st1=>
  rw[hr] at h0;simp only[ae] at h0;have hl:=gy aH;have u9:=fX hr;have pJ:=cj aH;unfold qp at h0;split at h0
  ·rename_i j
   match xs,hl,pJ,h with
   |[x],_,pJ,h=>
    split at h0;·rename_i hc;refine Ca (T.glob hg) (T.bl _ (by decide+kernel)) h (bw (pJ x Vh)) pins s σ H S I ⟨m,ρ,st,ar,as,?_⟩;rw[hr];intro m1 H1 bH aY vs iG;obtain⟨v,rfl,rv⟩:=wC iG;cases (show v=.int j from rv);have q:=h0 m1 H1 bH aY (Ke 0 (j - 0).toNat) ((BB (lo:=0) (hi:=j)).walks (qY 0 _));rw[Int.sub_zero] at q;exact⟨j,rfl,hc.1,hc.2,q⟩
    ·exact(show False from h0).elim
   |[],hl,_,_=>simp at hl;rw[<-hl] at u9;simp at u9|_::_::_,hl,_,_=>rw[<-u9] at hl;simp at hl
  ·rename_i i j
   match xs,hl,pJ,h with
   |[x,y],_,pJ,h=>
    split at h0;·rename_i hc;have sy:VM [y] X.env=[(false,eval y X.env)]:=bw (pJ y (by simp));refine Cb (T.glob hg) (T.bl _ (by decide+kernel)) h (by rw[bw (pJ x Vh),sy]) sy pins s σ H S I ⟨m,ρ,st,ar,as,?_⟩;rw[hr];intro m1 H1 bH aY vs iG;obtain⟨v,u,rfl,rv,ru⟩:=LI iG;cases (show v=.int i from rv);cases (show u=.int j from ru);exact⟨i,j,rfl,hc,h0 m1 H1 bH aY (Ke i (j - i).toNat) ((BB (lo:=i) (hi:=j)).walks (qY i _))⟩
    ·exact(show False from h0).elim
   |[],hl,_,_=>rw[<-u9] at hl;simp at hl|[_],hl,_,_=>rw[<-u9] at hl;simp at hl|_::_::_::_,hl,_,_=>rw[<-u9] at hl;simp at hl
  ·exact(show False from h0).elim
theorem yu:∀{xs} {k i:Nat} {p:P},(dg k xs)[i]?=some p->∃x,xs[i]?=some x/\p=.d (.tup [.int (k+i:Nat),x])
 |[],k,i,p,h=>by simp[dg] at h|x::xs,k,i,p,h=>by cases i with|zero=>simp[dg] at h;exact⟨x,rfl,by rw[<-h];simp⟩|succ i=>obtain⟨y,e1,e2⟩:=yu (xs:=xs) (k:=k+1) (i:=i) (by simpa[dg] using h);exact⟨y,by simpa using e1,by rw[e2];congr 4;omega⟩
theorem yv:∀{xs} {k},(dg k xs).length=xs.length
 |[],_=>rfl|x::xs,k=>by simp[dg,yv (xs:=xs) (k:=k+1)]
theorem HK{K:KB}(ha:H a=some (.tup us))(r:au K H m Z xs us):Walks K Z (Tc K.K a) (dg 0 xs) m H:=by intro m2 H2 Z2 le hz i;have LN:=le.tup _ _ ha;refine⟨λp hp=>?_,λh=>⟨us,fI.of LN,by rw[yv] at h;rw[r.length];exact Zr h.symm⟩⟩;obtain⟨x,hx,rfl⟩:=yu hp;obtain⟨v,hv,rv⟩:=r.map.get (i:=i) (p:=.d x) (by rw[Vi,hx];rfl);refine⟨⟨us,v,fI.of LN,hv⟩,?_⟩;rintro y H3 ⟨T,v',hT,rfl,rfl,hy⟩;have e:=hy us (fI.of LN);rw[hv] at e;cases e;have sm:ji H2 (upd H2 T (.tup [.int (i:Nat),v])):=ba hT _;refine⟨sm,T,[.int (i:Nat),v],rfl,aC,_,_,rfl,?_,v,[],rfl,((aF.jo hz rv).le le).le (Le.same sm),rfl⟩;show V.int (i:Nat)=V.int ((0+i:Nat):Int);rw[VO]
theorem HL(T:Good X kt g C)(hg:g.gl "enumerate"=true)(ha:PE X x (tE (af X kt) Z (aa C a)))(hs:notStar x=true):
  PI X (.Tuple elts kk p3) (.Call (.Name "enumerate" p) [x] [] pos) (tW (af X kt) Z (cq C (.enum a))):=by
 refine PI.imp (Ep (T.glob hg) (T.bl _ (by decide+kernel)) (kH ha sE hs) (bw hs)) ?_;rintro σ H S ⟨m,ρ,st,ar,as,h0⟩;unfold cq at h0;refine⟨m,ρ,st,ar,as,?_⟩;show Ok (af X kt) Z (az C [a] ρ st) m H _;unfold az az;cases hr:aa C a ρ st with
 |ex x s=>rw[hr] at h0;exact(show False from h0).elim|no=>rw[hr] at h0;exact(show False from h0).elim|ok y st1=>
  rw[hr] at h0;simp only[ae] at h0 ⊢;intro m1 H1 bH aY vs iG;obtain⟨v,rfl,rv⟩:=wC iG;split at h0;·rename_i xs;obtain⟨b,us,rfl,hq,rs⟩:=rv;exact⟨b,rfl,⟨us,fI.of hq⟩,h0 m1 H1 bH aY _ (HK hq rs)⟩
  ·exact(show False from h0).elim
theorem LO(T:Good X kt g C){p pos p2 Hj:Pos}(hg:g.gl "range"=true)(HD:g.gl "list"=true)(aH:gu g bP xs=true)(h:PA X xs (tA (af X kt) Z (az C bP))):
  PE X (.Call (.Name "list" p2) [.Call (.Name "range" p) xs [] pos] [] Hj) (tL (af X kt) Z (aU C (.gG bP))):=by
 have pJ:=cj aH;have hl:=gy aH;cases xs with
 |nil=>rintro pins s σ H Q I ⟨m,ρ,st,ar,as,h0⟩;cases bP with|nil=>unfold aU az at h0;exact(show False from h0).elim|cons a b=>simp at hl
 |cons x xs=>
  have s1:=bw (env:=X.env) (es:=xs) (pJ x Vh);have s2:(Xn pos (VM xs X.env)).any (·.1)=false:=gi λz hz=>pJ z (Vb _ hz);refine PE.imp (lj (ug T.calm) (T.glob HD) (T.bl _ (by decide+kernel)) boot_list (qR (lj xN (T.glob hg) (T.bl _ (by decide+kernel)) boot_range h (by decide+kernel) (by decide+kernel) s1 s2) Ad) (by decide+kernel) (by decide+kernel) rfl rfl) ?_;rintro σ H Q ⟨m,ρ,st,ar,as,h0⟩;refine⟨m,ρ,st,ar,as,?_⟩;unfold aU at h0;cases hr:az C bP ρ st with
  |ex x s=>rw[hr] at h0;exact(show False from h0).elim|no=>rw[hr] at h0;exact(show False from h0).elim|ok ps st1=>
   rw[hr] at h0;simp only[ae] at h0;intro m1 H1 bH aY vs iG;have fin:∀lo hi:Int,(-jn<=lo/\lo < jn/\ -jn<=hi/\hi < jn)->LQ (af X kt) Z (R.bind (R.of (some (CN lo hi)) st1) λqs st2=>if qs.length<=av then R.ok qs st2 else R.no) m H Q->∀q,H1 q=none->
     ∃p Nl u6,[V.ref q]=[.ref p]/\upd H1 q (.gG lo hi) p=some (.gG Nl u6)/\(-(2 ^ 62)<=Nl/\Nl < 2 ^ 62/\ -(2 ^ 62)<=u6/\u6 < 2 ^ 62)/\(u6 - Nl).toNat<=VD/\∀l,upd H1 q (.gG lo hi) l=none->Q (.ref l) (upd (upd H1 q (.gG lo hi)) l (.lst (Aq Nl (u6 - Nl).toNat))):=by
    intro lo hi hb hQ q hq;simp only[aq,ae] at hQ;split at hQ
    ·rename_i hc;refine⟨q,lo,hi,rfl,aC,hb,?_,λl hl=>?_⟩;·unfold CN at hc;rw[Vg,VQ] at hc;rw[<-dh];exact hc
     ·have dW:Le (af X kt) m1 H1 m1 (upd H1 q (.gG lo hi)):=Le.same (ba hq _);exact sG (bH.trans dW) (aY.same (ba hq _)) (qY lo _) hl hQ
    ·exact hQ.elim
   cases hp:qp ps with
   |none=>rw[hp] at h0;exact(show False from h0).elim|some qs=>
    rw[hp] at h0;unfold qp at hp;split at hp
    ·rename_i j;split at hp;·rename_i hc;cases hp;obtain⟨v,rfl,rv⟩:=wC iG;cases (show v=.int j from rv);exact⟨0,j,.inr ⟨rfl,rfl⟩,fin 0 j ⟨by unfold jn;omega,by unfold jn;omega,hc.1,hc.2⟩ h0⟩
     ·cases hp
    ·rename_i i j;split at hp;·rename_i hc;cases hp;obtain⟨v,u,rfl,rv,ru⟩:=LI iG;cases (show v=.int i from rv);cases (show u=.int j from ru);exact⟨i,j,.inl rfl,fin i j hc h0⟩
     ·cases hp
    ·cases hp
theorem ai.of_get{K:KB}:∀{ps} {ts},ts.length=ps.length->(∀(j:Nat) p t,ps[j]?=some p->ts[j]?=some t->aj K H m Z p t)->ai K H m Z ps ts
 |[],ts,hl,_=>by cases ts with|nil=>rfl|cons t ts=>simp at hl
 |p::ps,ts,hl,h=>by cases ts with|nil=>simp at hl|cons t ts=>exact⟨t,ts,rfl,h 0 p t rfl rfl,ai.of_get (by simpa using hl) λj p' t' e e'=>h (j+1) p' t' (by simpa using e) (by simpa using e')⟩
theorem au.get{K:KB}{j:Nat}(h:au K H m Z xs us)(e:xs[j]?=some x)(e':us[j]?=some u):aF K H m Z x u:=by obtain⟨v,ev,rv⟩:=h.map.get (i:=j) (p:=.d x) (by rw[Vi,e];rfl);rw[e'] at ev;cases ev;exact rv
theorem LP(T:Good X kt g C){p pos p2 Hj:Pos}(hg:g.gl "zip"=true)(HD:g.gl "list"=true)(ha:PE X x1 (tE (af X kt) Z (aa C a)))(h1:notStar x1=true)(hb:PE X x2 (tE (af X kt) Z (aa C b)))(h2:notStar x2=true):
  PE X (.Call (.Name "list" p2) [.Call (.Name "zip" p) [x1,x2] [] pos] [] Hj) (tL (af X kt) Z (aU C (.zip a b))):=by
 refine PE.imp (xT T.calm (T.glob HD) (T.bl _ (by decide+kernel)) (T.glob hg) (T.bl _ (by decide+kernel)) (kH ha (kH hb sE h2) h1) (bw h1) (gi λz hz=>?_)) ?_
 ·have:z=x2:=by simpa using hz
  rw[this];exact h2
 rintro σ H Q ⟨m,ρ,st,ar,as,h0⟩;refine⟨m,ρ,st,ar,as,?_⟩;unfold aU at h0;unfold az az az;cases hr:aa C a ρ st with
 |ex x s=>rw[hr] at h0;exact(show False from h0).elim|no=>rw[hr] at h0;exact(show False from h0).elim|ok x st1=>
  rw[hr] at h0;simp only[ae] at h0 ⊢;cases TN:aa C b ρ st1 with
  |ex x s=>rw[TN] at h0;exact(show False from h0).elim|no=>rw[TN] at h0;exact(show False from h0).elim|ok y st2=>
   rw[TN] at h0;simp only[ae] at h0 ⊢;intro m1 H1 bH aY vs iG;obtain⟨v,u,rfl,rv,ru⟩:=LI iG;unfold EL at h0;split at h0
   ·rename_i xs ys;obtain⟨va,us,rfl,hva,rx⟩:=rv;obtain⟨vb,ws,rfl,hvb,ry⟩:=ru;refine⟨va,vb,us,ws,rfl,fI.of hva,fI.of hvb,λl H' ts sm hl ny hp=>?_⟩;simp only[aq,ae] at h0;have dW:Le (af X kt) m1 H1 m1 H':=Le.same sm;refine h0 m1 H' l ts (bH.trans dW) (bH.Bz hl) (aY.fresh hl).1 ny (aY.O3 hl sm (by rw[bh ny (λ_ z=>nomatch z)];exact λz=>nomatch z)) (ai.of_get ?_ λj p t e e'=>?_);·rw[hp.1,Vg,Vg,Zl,rx.length,ry.length]
    ·obtain⟨Tt,u,w',rfl,e1,e2,e3⟩:=hp.2 j t e';rw[Vi,Vi] at e;cases hz:(xs.zip ys)[j]? with
     |none=>rw[hz] at e;cases e|some q=>
      rw[hz] at e;have e9:P.d (D.tup [q.1,q.2])=p:=by simpa using e
      subst e9;obtain⟨q1,q2⟩:=List.getElem?_zip_eq_some.mp hz;have r1:=(aF.kE hl (rx.get q1 e2)).le dW;have r2:=(aF.kE hl (ry.get q2 e3)).le dW;exact⟨Tt,[u,w'],rfl,e1,u,[w'],rfl,r1,w',[],rfl,r2,rfl⟩
   ·exact(show False from h0).elim
theorem ints_of{K:KB}:∀{ps} {bs} {us},ai K H m Z ps us->intsOf ps=some bs->us=bs.map V.int
 |[],bs,us,h,e=>by cases e;exact h|p::ps,bs,us,h,e=>by
  obtain⟨v,vs,rfl,r,rs⟩:=(show ∃v vs,us=v::vs/\aj K H m Z p v/\ai K H m Z ps vs from h);unfold intsOf at e;split at e;·rename_i e0;cases e0
  ·rename_i b r' e0;cases e0;obtain⟨cs,e1,rfl⟩:=gv e;cases (show v=.int b from r);rw[ints_of rs e1];rfl
  ·cases e
theorem HM(hl:(ap.endLine==cp.line)=true)(hc:isCall o=false)(ho:PE X o (tE (af X kt) Z (aa C a)))(hx:PE X x (tE (af X kt) Z (aa C b)))(hs:notStar x=true):
  PE X (.Call (.Attribute o "index" ap) [x] [] cp) (tE (af X kt) Z (aa C (.index a b))):=by
 have s1:VM [x] X.env=[(false,eval x X.env)]:=bw hs;refine PE.imp (Jp YE PySem.F.slot_list_index PySem.F.type_list_index Eh ho (kH hx sE hs) (oS hc) (by rw[s1];rfl) hl s1 rfl) ?_;rintro σ H Q ⟨m,r,st,ar,as,h⟩;unfold aa at h;refine⟨m,r,st,ar,as,(Ok.bind h).mono λy st1 m1 H1 bH aY h1 v rv=>?_⟩;obtain⟨its,e1,h2,cR⟩:=Ok.of (Ok.bind h1) aY;clear cR;obtain⟨l,us,rfl,hq,rs⟩:=cy aY e1 rv;refine⟨.inl ⟨rfl,us,.inl hq⟩,m1,r,st1,ar.le bH,aY,?_⟩;show Ok (af X kt) Z (az C [b] r st1) m1 H1 _;unfold az az;cases hr:aa C b r st1 with
 |ex x s=>rw[hr] at h2;exact(show False from h2).elim|no=>rw[hr] at h2;exact(show False from h2).elim|ok w st2=>
  rw[hr] at h2;simp only[ae] at h2 ⊢;intro m2 H2 dW dU vs iG;obtain⟨u,rfl,ru⟩:=wC iG;obtain⟨p,e2,h3,cR⟩:=Ok.of (Ok.le h2 dW) dU;clear cR;unfold si at e2;split at e2
  ·rename_i k;cases (show u=.int k from ru);obtain⟨xs,e3,e4⟩:=bQ e2;obtain⟨ns,e5,e6⟩:=bQ e4;split at e6;·rename_i hk;cases e6;obtain⟨l',TQ,e,vU,uw⟩:=cy dU e3 (rv.le dW);cases e;have:=ints_of uw e5;subst this;exact⟨l,ns,k,rfl,rfl,.inl vU,hk,h3 _ rfl⟩
   ·cases e6
  ·cases e2
end
section
variable{K:KB}{H H':Hp}{m Z:List Addr}
mutual
theorem aF.congr(ht:∀a us,H a=some (.tup us)->H' a=some (.tup us))(hl:∀a us,a∉m->a∉Z->Rd H a (.lst us)->Rd H' a (.lst us)):∀{x:D} {v:V},aF K H m Z x v->aF K H' m Z x v
 |.bq,_,h=>h|.bl _,_,h=>h|.int _,_,h=>h|.str _,_,h=>h|.tup xs,v,h=>by obtain⟨a,us,e,q,r⟩:=(show ∃a us,v=.ref a/\H a=some (.tup us)/\au K H m Z xs us from h);exact⟨a,us,e,ht _ _ q,au.congr ht hl r⟩
 |.pl xs,v,h=>by obtain⟨a,us,e,q,hm,hz,r⟩:=(show ∃a us,v=.ref a/\Rd H a (.lst us)/\a∉m/\a∉Z/\au K H m Z xs us from h);exact⟨a,us,e,hl _ _ hm hz q,hm,hz,au.congr ht hl r⟩
theorem au.congr(ht:∀a us,H a=some (.tup us)->H' a=some (.tup us))(hl:∀a us,a∉m->a∉Z->Rd H a (.lst us)->Rd H' a (.lst us)):∀{xs:List D} {us:List V},au K H m Z xs us->au K H' m Z xs us
 |[],_,h=>h|x::xs,us,h=>by obtain⟨v,vs,e,r,rs⟩:=(show ∃v vs,us=v::vs/\aF K H m Z x v/\au K H m Z xs vs from h);exact⟨v,vs,e,aF.congr ht hl r,au.congr ht hl rs⟩
end
mutual
theorem aj.congr(ht:∀a us,H a=some (.tup us)->H' a=some (.tup us))(hl:∀a us,a∉m->a∉Z->Rd H a (.lst us)->Rd H' a (.lst us))(hf:∀a o u,H a=some (.dt o u)->H' a=some (.dt o u))(hx:∀a φ,H a=some (.ext φ)->H' a=some (.ext φ)):∀{x:P} {v:V},aj K H m Z x v->aj K H' m Z x v
 |.d _,_,h=>by rw[aj] at h ⊢;exact aF.congr ht hl h|.obj _,_,h=>by rw[aj] at h ⊢;exact h|.fV ns,v,h=>by
  rw[aj] at h ⊢;obtain⟨a,e,r⟩:=h;refine⟨a,e,?_⟩;rcases r with ⟨o,r⟩|r
  ·exact .inl ⟨o,hf _ _ _ r⟩
  ·exact .inr r
 |.fn k bj,v,h=>by rw[aj] at h ⊢;obtain⟨a,c,bM,e,q,hc,r⟩:=h;exact⟨a,c,bM,e,q,hx _ _ hc,ai.congr ht hl hf hx r⟩|.lf k,v,h=>by rw[aj] at h ⊢;obtain⟨a,c,ct,e,q,r⟩:=h;exact⟨a,c,ct,e,hx _ _ q,hx _ _ r⟩
theorem ai.congr(ht:∀a us,H a=some (.tup us)->H' a=some (.tup us))(hl:∀a us,a∉m->a∉Z->Rd H a (.lst us)->Rd H' a (.lst us))(hf:∀a o u,H a=some (.dt o u)->H' a=some (.dt o u))(hx:∀a φ,H a=some (.ext φ)->H' a=some (.ext φ)):∀{xs:List P} {us:List V},ai K H m Z xs us->ai K H' m Z xs us
 |[],_,h=>h|x::xs,us,h=>by rw[ai] at h ⊢;obtain⟨v,vs,e,r,rs⟩:=h;exact⟨v,vs,e,aj.congr ht hl hf hx r,ai.congr ht hl hf hx rs⟩
end
theorem nG(ha:H a=some (.lst ys)):∀b φ,H b=some (.ext φ)->upd H a o b=some (.ext φ):=λb φ h=>by
 have hb:b≠a:=λz=>by rw[z,ha] at h;cases h
 rw[aw hb];exact h
theorem qZ(ha:H a=some (.lst ys)):∀b us,H b=some (.tup us)->upd H a o b=some (.tup us):=λb us h=>by
 have hb:b≠a:=λz=>by rw[z,ha] at h;cases h
 rw[aw hb];exact h
theorem rf(ha:H a=some (.lst ys)):∀b o' u,H b=some (.dt o' u)->upd H a o b=some (.dt o' u):=λb o' u h=>by
 have hb:b≠a:=λz=>by rw[z,ha] at h;cases h
 rw[aw hb];exact h
theorem AK(hb:b≠a)(h:Rd H b (.lst us)):Rd (upd H a o) b (.lst us):=by
 rcases h with h|⟨o',h⟩;·exact .inl (by rw[aw hb];exact h)
 ·exact .inr ⟨o',by rw[aw hb];exact h⟩
theorem aA.Pn{st:aI}(A:aA K H m (a::Z) st)(ha:H a=some (.lst ys)):aA K (upd H a (.lst zs)) m (a::Z) st:=by
 refine⟨A.len,A.nd,λn o h=>?_,λb hb=>?_,A.zm,λt ht=>?_⟩
 ·obtain⟨c,q,r⟩:=A.at_ n o h;have hc:c≠a:=λz=>A.zm a Vh (by rw[<-z];exact VC q);exact⟨c,q,r.mono (λb u hb hu=>by
   rw[aw (λz=>by
    rcases hb with w1|w1;·exact hc (w1▸z)
    ·rw[z,ha] at w1;cases w1)]
   exact hu) λp v z=>z.congr (qZ ha) (λb us _ hz h=>AK (λz=>hz (by rw[z];exact Vh)) h) (rf ha) (nG ha)⟩
 ·exact lu (o:=.lst zs) (λ_ z=>nomatch z) (A.zt b hb)
 ·obtain⟨ps,h1,h2⟩:=A.tab t ht;exact⟨ps,by rw[aw (λz=>by rw[z,ha] at h1;cases h1)];exact h1,fO.same (nG ha) h2⟩
theorem Le.Po{H1:Hp}{m1:List Addr}{a:Addr}{ys zs:List V}(le:Le K m1 H1 m H)(h1:H1 a=none)(ha:H a=some (.lst ys)):Le K m1 H1 m (upd H a (.lst zs)) where
 pre:=le.pre
 tup:=λb xs h=>qZ ha b xs (le.tup b xs h)
 keep:=λb u h hb hu=>by rw[aw (aK h h1)];exact le.keep b u h hb hu
 ext:=λb φ h=>nG ha b φ (le.ext b φ h)
 Bp:=λb h=>lu (o:=.lst zs) (λ_ z=>nomatch z) (le.Bp b h)
 fH:=λb ps h=>by obtain⟨more,e⟩:=le.fH b ps h;exact⟨more,by rw[aw (λz=>by rw[z,ha] at e;cases e)];exact e⟩
 new:=le.new
 qc:=λb h=>by
  by_cases Lm:b=a;·rw[Lm,aC];exact λz=>nomatch z
  ·rw[aw Lm];exact le.qc b h
 dt:=λb o u h=>rf ha b o u (le.dt b o u h)
end
section
variable{X:Cx}{g:G}{C:Nat->List P->aI->R P}{Z:List Addr}{e:Expr}{es:List Expr}
theorem Ec.imp(h:Ec X ifs t)(i:∀σ H Q,t' σ H Q->t σ H Q):Ec X ifs t':=λpins s σ H Q I q=>h pins s σ H Q I (i σ H Q q)
def Pp(K:KB)(d:bU->aI->R Bool):TT:=λσ H Q=>∃Z,tT K Z d σ H Q
def TR(K:KB)(d:bU->aI->R P):TE:=λσ H Q=>∃Z,tE K Z d σ H Q
theorem CP:Ec X [] (Pp (af X kt) (bu C none)):=by refine Ec.imp G8 ?_;rintro σ H Q ⟨Z,m,ρ,st,ar,as,h⟩;unfold bu at h;exact Ok.here h as
theorem CQ(h:∀Z,PT X c (tT (af X kt) Z (bV (aa C ec)))):Ec X [c] (Pp (af X kt) (bu C (some ec))):=by refine G9 λpins s σ H Q I q=>?_;obtain⟨Z,q⟩:=q;refine h Z pins s σ H Q I ?_;obtain⟨m,ρ,st,ar,as,h⟩:=q;unfold bu at h;exact⟨m,ρ,st,ar,as,h⟩
theorem HN(h:∀Z,PE X x (tE (af X kt) Z d)):PE X x (TR (af X kt) d):=λpins s σ H Q I ⟨Z,q⟩=>h Z pins s σ H Q I q
theorem vo{K:KB}(ar:cQ K H m Z r σ)(fL:H acc=none)(le:Le K m H m2 H2)(rp:aj K H2 m2 (acc::Z) p v):
  cQ K H2 m2 (acc::Z) (some p::cK js r) (some v::js.map λj=>(σ[j]?).join):=by
 refine⟨by unfold cK;simp,λi q h=>?_⟩;cases i with
 |zero=>simp at h;subst h;exact⟨v,by simp,rp⟩|succ i=>
  have h':(cK js r)[i]?=some (some q):=by simpa using h
  unfold cK at h';rw[Vi] at h';cases ej:js[i]? with
  |none=>rw[ej] at h';cases h'|some j=>
   rw[ej] at h';have h2:(r[j]?).join=some q:=by simpa using h'
   have h3:r[j]?=some (some q):=by cases e:r[j]? with|none=>rw[e] at h2;cases h2|some o=>rw[e] at h2;simp at h2;rw[h2]
   obtain⟨w',e1,r1⟩:=ar.at_ j q h3;refine⟨w',?_,(r1.kE fL).le le⟩;show(some v::js.map λj=>(σ[j]?).join)[i+1]?=some (some w');rw[Vk,Vi,ej];simp[e1]
theorem yw(h:tL (af X kt) Z (aU C (.comp w 1 js c ee)) σ H Q):
  Bh (tW (af X kt) Z (cq C w)) (rG 0) (Pp (af X kt) (bu C c)) (TR (af X kt) (aa C ee)) 1 js σ H Q:=by
 obtain⟨m0,r,bJ,ar,TU,h⟩:=h;unfold aU at h;refine⟨m0,r,bJ,ar,TU,?_⟩;cases hw:cq C w r bJ with
 |ex x s=>rw[hw] at h;exact(show False from h).elim|no=>rw[hw] at h;exact(show False from h).elim|ok ps st1=>
  rw[hw] at h;simp only[ae] at h;split at h
  ·rename_i hlen;obtain⟨_,hlen⟩:=hlen;intro m1 H1 bH aY J wk acc fL
   let G':P->bU:=λp=>some p::cK js r
   let K':=af X kt
   let fr:L2.St:=js.map λj=>(σ[j]?).join
   let CK:Nat->List P->aI->Prop:=λi qs st=>match cJ G' (bu C c) (λr' aJ=>aa C ee r' aJ) (ps.drop i) st with|.ok rest aJ=>LQ (af X kt) Z (.ok (qs++rest) aJ) m0 H Q|_=>False
   have Ri:CK 0 [] st1:=by show(match cJ G' (bu C c) (λr' aJ=>aa C ee r' aJ) (ps.drop 0) st1 with|.ok rest aJ=>LQ (af X kt) Z (.ok ([]++rest) aJ) m0 H Q|_=>False);rw[X5];cases hc:cJ G' (bu C c) (λr' aJ=>aa C ee r' aJ) ps st1 with|ok rest aJ=>have h':LQ (af X kt) Z (cJ G' (bu C c) (λr' aJ=>aa C ee r' aJ) ps st1) m0 H Q:=h;rw[hc] at h';exact h'|ex x s=>have h':LQ (af X kt) Z (cJ G' (bu C c) (λr' aJ=>aa C ee r' aJ) ps st1) m0 H Q:=h;rw[hc] at h';exact h'|no=>have h':LQ (af X kt) Z (cJ G' (bu C c) (λr' aJ=>aa C ee r' aJ) ps st1) m0 H Q:=h;rw[hc] at h';exact h'
   refine⟨λi k τ H'=>k=ps.length - i/\i<=ps.length/\(∃u,τ=u::fr)/\∃m st qs ys,Le (af X kt) m1 H1 m H'/\aA (af X kt) H' m (acc::Z) st/\H' acc=some (.lst ys)/\ai (af X kt) H' m (acc::Z) qs ys/\qs.length<=i/\CK i qs st,⟨ps.length,by simp,WE _,⟨none,rfl⟩,?_⟩,?_⟩;·exact⟨m1,st1,[],[],Le.same (ba fL _),aY.laid fL _,aC,rfl,Vj _,Ri⟩
   ·rintro i k τ H' ⟨rfl,hi,⟨u,rfl⟩,m,st,qs,ys,le,as,LR,rq,hql,ck⟩;obtain⟨w1,w2⟩:=wk m H' (acc::Z) le (λa ha=>(W4.mp ha).elim (λz=>.inr (by rw[z];exact fL)) .inl) i;by_cases fM:i < ps.length
    ·have Pq:i < ps.length:=fM;obtain⟨go,yl⟩:=w1 ps[i] (Vc Pq);refine .inr ⟨go,λx H2 hy=>?_⟩;obtain⟨sm,rx⟩:=yl x H2 hy;have AL:Le (af X kt) m H' m H2:=Le.same sm;replace le:=le.trans AL;replace as:=as.same sm;replace LR:=sm _ _ LR;replace rq:=rq.le AL;have cR:ps.drop i=ps[i]::ps.drop (i+1):=V8 Pq;have mx:(match cJ G' (bu C c) (λr' aJ=>aa C ee r' aJ) (ps[i]::ps.drop (i+1)) st with|.ok rest aJ=>LQ (af X kt) Z (.ok (qs++rest) aJ) m0 H Q|_=>False):=by rw[<-cR];exact ck
     rw[cJ] at mx;have Pr:=vo (js:=js) (ar.le bH) fL le rx;refine⟨acc::Z,m,G' ps[i],st,Pr,as,?_⟩;cases hc:bu C c (G' ps[i]) st with
     |ex x s=>rw[hc] at mx;exact mx.elim|no=>rw[hc] at mx;exact mx.elim|ok b st2=>
      rw[hc] at mx;simp only[ae] at mx;intro m2 H2 dW dU;have yx:H2 acc=some (.lst ys):=dW.keep acc _ LR (as.zm acc Vh) (λ_ z=>nomatch z);cases b with
      |false=>refine⟨ps.length - (i+1),by omega,rfl,fM,⟨some x,rfl⟩,m2,st2,qs,ys,le.trans dW,dU,yx,rq.le dW,by omega,?_⟩;exact mx|true=>
       refine⟨acc::Z,m2,G' ps[i],st2,Pr.le dW,dU,?_⟩;have my:(match (aa C ee (G' ps[i]) st2).bind λy st3=>(cJ G' (bu C c) (λr' aJ=>aa C ee r' aJ) (ps.drop (i+1)) st3).bind λys oF=>R.ok (y::ys) oF with|.ok rest aJ=>LQ (af X kt) Z (.ok (qs++rest) aJ) m0 H Q|_=>False):=mx;cases he:aa C ee (G' ps[i]) st2 with
       |ex x s=>rw[he] at my;exact my.elim|no=>rw[he] at my;exact my.elim|ok y st3=>
        rw[he] at my;simp only[ae] at my;intro m3 H3 oR p5 v rv;have jq:H3 acc=some (.lst ys):=oR.keep acc _ yx (dU.zm acc Vh) (λ_ z=>nomatch z);have hyl:ys.length=qs.length:=rq.length;have TV:ai (af X kt) (upd H3 acc (.lst (ys++[v]))) m3 (acc::Z) (qs++[y]) (ys++[v]):=by have q1:ai (af X kt) H3 m3 (acc::Z) (qs++[y]) (ys++[v]):=((rq.le dW).le oR).append ⟨v,[],rfl,rv,rfl⟩;exact q1.congr (qZ jq) (λb us _ hz h=>AK (λz=>hz (by rw[z];exact Vh)) h) (rf jq) (nG jq)
        refine⟨ys,jq,by rw[<-dh];omega,ps.length - (i+1),by omega,rfl,fM,⟨some x,rfl⟩,m3,st3,qs++[y],ys++[v],?_,p5.Pn jq,aC,TV,by rw[Vy];simp;omega,?_⟩;·exact Le.Po ((le.trans dW).trans oR) fL jq
        ·show(match cJ G' (bu C c) (λr' aJ=>aa C ee r' aJ) (ps.drop (i+1)) st3 with|.ok rest aJ=>LQ (af X kt) Z (.ok ((qs++[y])++rest) aJ) m0 H Q|_=>False);cases hr:cJ G' (bu C c) (λr' aJ=>aa C ee r' aJ) (ps.drop (i+1)) st3 with|ex x s=>rw[hr] at my;exact my|no=>rw[hr] at my;exact my|ok rest oF=>rw[hr] at my;show LQ (af X kt) Z (R.ok ((qs++[y])++rest) oF) m0 H Q;rw[V1];exact my
    ·have e:i=ps.length:=by omega
     subst e;refine .inl ⟨w2 rfl,?_⟩;have mx:(match cJ G' (bu C c) (λr' aJ=>aa C ee r' aJ) (ps.drop ps.length) st with|.ok rest aJ=>LQ (af X kt) Z (.ok (qs++rest) aJ) m0 H Q|_=>False):=ck;rw[ZY,cJ] at mx;have my:LQ (af X kt) Z (R.ok (qs++[]) st) m0 H Q:=mx;rw[Wb] at my;exact my m H' acc ys (bH.trans le) (bH.Bz fL) (as.zm acc Vh) LR as rq
  ·exact(show False from h).elim
theorem oT{K:KB}{st:aI}(as:aA K H m Z st)(ha:m[n]?=some a)(h:yf n st i=some o):∃us,H a=some (.lst us)/\(o=none->us.length<=i)/\∀p,o=some p->∃v,us[i]?=some v/\aj K H m Z p v:=by
 unfold yf at h;split at h;·rename_i xs hs;cases h;obtain⟨a',e,us,hu,rs⟩:=as.at_ n _ hs;rw[ha] at e;cases e;refine⟨us,hu,λz=>?_,λp z=>rs.get z⟩;rw[rs.length];exact List.getElem?_eq_none_iff.mp z
 ·cases h
theorem vp{e:E}(h:tL (af X kt) Z (aU C (.cn e js c ee)) σ H Q):
  Bh (Jk X.K (tE (af X kt) Z (aa C e))) (rG 0) (Pp (af X kt) (bu C c)) (TR (af X kt) (aa C ee)) 1 js σ H Q:=by
 obtain⟨m0,r,bJ,ar,TU,h⟩:=h;unfold aU at h;refine⟨m0,r,bJ,ar,TU,?_⟩;cases hw:aa C e r bJ with
 |ex x s=>rw[hw] at h;exact(show False from h).elim|no=>rw[hw] at h;exact(show False from h).elim|ok x0 st1=>
  rw[hw] at h;simp only[ae] at h;split at h
  ·rename_i n;intro m1 H1 bH aY v rv;obtain⟨a,ha,rfl⟩:=rv
   let G':P->bU:=λp=>some p::cK js r
   let fr:L2.St:=js.map λj=>(σ[j]?).join
   let CK:Nat->Nat->List P->aI->Prop:=λk i qs st=>match cn n G' (bu C c) (λr' aJ=>aa C ee r' aJ) k i st with|.ok rest aJ=>LQ (af X kt) Z (.ok (qs++rest) aJ) m0 H Q|_=>False
   have Ri:CK av 0 [] st1:=by show(match cn n G' (bu C c) (λr' aJ=>aa C ee r' aJ) av 0 st1 with|.ok rest aJ=>LQ (af X kt) Z (.ok ([]++rest) aJ) m0 H Q|_=>False);have h':LQ (af X kt) Z (cn n G' (bu C c) (λr' aJ=>aa C ee r' aJ) av 0 st1) m0 H Q:=h;cases hc:cn n G' (bu C c) (λr' aJ=>aa C ee r' aJ) av 0 st1 with|ok rest aJ=>rw[hc] at h';exact h'|ex x s=>rw[hc] at h';exact h'|no=>rw[hc] at h';exact h'
   have Pt:∃us,H1 a=some (.lst us):=by have ck:=Ri;have mx:(match cn n G' (bu C c) (λr' aJ=>aa C ee r' aJ) (16777215+1) 0 st1 with|.ok rest aJ=>LQ (af X kt) Z (.ok ([]++rest) aJ) m0 H Q|_=>False):=ck;rw[cn] at mx;cases ho:yf n st1 0 with|none=>rw[ho] at mx;exact mx.elim|some o=>obtain⟨us,hu,_⟩:=oT aY ha ho;exact⟨us,hu⟩
   obtain⟨Pu,Pw⟩:=Pt;refine⟨a,rfl,⟨Pu,.inl (.inl Pw)⟩,λacc fL=>?_⟩;refine⟨λi k τ H'=>k+i=av/\(∃u,τ=u::fr)/\∃m st qs ys,Le (af X kt) m1 H1 m H'/\aA (af X kt) H' m (acc::Z) st/\H' acc=some (.lst ys)/\ai (af X kt) H' m (acc::Z) qs ys/\qs.length<=i/\CK k i qs st,⟨av,rfl,⟨none,rfl⟩,?_⟩,?_⟩;·exact⟨m1,st1,[],[],Le.same (ba fL _),aY.laid fL _,aC,rfl,Vj _,Ri⟩
   ·rintro i k τ H' ⟨hk,⟨u,rfl⟩,m,st,qs,ys,le,as,LR,rq,hql,ck⟩;have Px:m[n]?=some a:=by obtain⟨t,et⟩:=le.pre;rw[et,Vf (List.getElem?_eq_some_iff.mp ha).1];exact ha
    cases k with
    |zero=>exact(show False from ck).elim|succ k=>
     have mx:(match cn n G' (bu C c) (λr' aJ=>aa C ee r' aJ) (k+1) i st with|.ok rest aJ=>LQ (af X kt) Z (.ok (qs++rest) aJ) m0 H Q|_=>False):=ck;rw[cn] at mx;cases ho:yf n st i with
     |none=>rw[ho] at mx;exact mx.elim|some o=>
      rw[ho] at mx;obtain⟨us,hu,q0,q1⟩:=oT as Px ho;cases o with
      |none=>have my:LQ (af X kt) Z (R.ok (qs++[]) st) m0 H Q:=mx;rw[Wb] at my;exact .inl ⟨⟨us,.inl (.inl hu),q0 rfl⟩,my m H' acc ys (bH.trans le) (bH.Bz fL) (as.zm acc Vh) LR as rq⟩|some p=>
       obtain⟨vx,JN,rx⟩:=q1 p rfl;refine .inr ⟨⟨us,vx,.inl (.inl hu),JN⟩,λx H2 hy=>?_⟩;obtain⟨rfl,hx⟩:=hy;have xi:=hx us (.inl (.inl hu));rw[JN] at xi;cases xi;simp only at mx;have Pr:=vo (js:=js) (ar.le bH) fL le rx;refine⟨acc::Z,m,G' p,st,Pr,as,?_⟩;cases hc:bu C c (G' p) st with
       |ex x s=>rw[hc] at mx;exact mx.elim|no=>rw[hc] at mx;exact mx.elim|ok b st2=>
        rw[hc] at mx;simp only[ae] at mx;intro m2 H2 dW dU;have yx:H2 acc=some (.lst ys):=dW.keep acc _ LR (as.zm acc Vh) (λ_ z=>nomatch z);cases b with
        |false=>exact⟨k,WZ k,by omega,⟨some vx,rfl⟩,m2,st2,qs,ys,le.trans dW,dU,yx,rq.le dW,by omega,mx⟩|true=>
         refine⟨acc::Z,m2,G' p,st2,Pr.le dW,dU,?_⟩;have my:(match (aa C ee (G' p) st2).bind λy st3=>(cn n G' (bu C c) (λr' aJ=>aa C ee r' aJ) k (i+1) st3).bind λys oF=>R.ok (y::ys) oF with|.ok rest aJ=>LQ (af X kt) Z (.ok (qs++rest) aJ) m0 H Q|_=>False):=mx;cases he:aa C ee (G' p) st2 with
         |ex x s=>rw[he] at my;exact my.elim|no=>rw[he] at my;exact my.elim|ok y st3=>
          rw[he] at my;simp only[ae] at my;intro m3 H3 oR p5 v rv;have jq:H3 acc=some (.lst ys):=oR.keep acc _ yx (dU.zm acc Vh) (λ_ z=>nomatch z);have hyl:ys.length=qs.length:=rq.length;have TV:ai (af X kt) (upd H3 acc (.lst (ys++[v]))) m3 (acc::Z) (qs++[y]) (ys++[v]):=by have q1:ai (af X kt) H3 m3 (acc::Z) (qs++[y]) (ys++[v]):=((rq.le dW).le oR).append ⟨v,[],rfl,rv,rfl⟩;exact q1.congr (qZ jq) (λb us _ hz h=>AK (λz=>hz (by rw[z];exact Vh)) h) (rf jq) (nG jq)
          refine⟨ys,jq,by rw[<-dh];omega,k,WZ k,by omega,⟨some vx,rfl⟩,m3,st3,qs++[y],ys++[v],?_,p5.Pn jq,aC,TV,by rw[Vy];simp;omega,?_⟩;·exact Le.Po ((le.trans dW).trans oR) fL jq
          ·show(match cn n G' (bu C c) (λr' aJ=>aa C ee r' aJ) k (i+1) st3 with|.ok rest aJ=>LQ (af X kt) Z (.ok ((qs++[y])++rest) aJ) m0 H Q|_=>False);cases hr:cn n G' (bu C c) (λr' aJ=>aa C ee r' aJ) k (i+1) st3 with|ex x s=>rw[hr] at my;exact my|no=>rw[hr] at my;exact my|ok rest oF=>rw[hr] at my;show LQ (af X kt) Z (R.ok ((qs++[y])++rest) oF) m0 H Q;rw[V1];exact my
  ·exact(show False from h).elim
theorem gX{env:PySem.Env}:∀{names:List (Str×XO)} {x},names.lookup x=some .globalImplicit->
  (names.map λ(n,k)=>if(k==Vx&&env.scope.kind==.function&&env.kindOf n==some .cell) then(n,WT) else(n,k)).lookup x=some .globalImplicit
 |[],_,h=>by simp at h|(n,k)::r,x,h=>by
  have ih:=@gX env r x;show Xc x ((if(k==Vx&&env.scope.kind==.function&&env.kindOf n==some .cell)=true then(n,WT) else(n,k))::_)=_;cases hx:x==n with
  |true=>simp only[VG,hx] at h;cases h;rw[if_neg (by simp)];simp[VG,hx]|false=>
   simp only[VG,hx] at h;by_cases hc:(k==Vx&&env.scope.kind==.function&&env.kindOf n==some .cell)=true;·rw[if_pos hc];simp only[VG,hx];exact ih h
   ·rw[if_neg hc];simp only[VG,hx];exact ih h
theorem Good.wF(T:Good X kt g C){N:List Str}(h:Hr g N js sc=true):jI X N 1 js sc:=by unfold Hr at h;simp only[U9,decide_eq_true_eq,W2,XJ] at h;obtain⟨⟨⟨h1,h2⟩,h3⟩,h4⟩:=h;refine⟨h1,h2,λx hx=>(h3 x hx).1.1,λx hx hl=>(h3 x hx).1.2.resolve_left λz=>z hl,λx hx hf=>T.Gm _ ((h3 x hx).2.resolve_left λz=>z hf),λi y j e1 e2=>?_⟩;have hi:i∈U8 js.length:=Wi.mpr (List.getElem?_eq_some_iff.mp e2).1;have q:=h4 i hi;rw[e1,e2] at q;rw[T.N];simpa using q
theorem sC.inner(h:sC X kt c x n):sC (mn X pins N sc fp Cc s H) kt c x n:=⟨h.ex⟩
theorem Bs.inner(h:Bs X kt C k a c bM):Bs (mn X pins N sc fp Cc s H) kt C k a c bM:=⟨h.ob,h.ex⟩
theorem Good.inner(T:Good X kt g C){pins:List (Addr×Obj)}{N:List Str}{js:List Nat}{sc:Scope}{fp:List Addr}{Cc:Addr}{s:Vv}{H:Hp}(hnc:∀x∈sc.names,x.2≠.cell):Good (mn X pins N sc fp Cc s H) kt (g.inner N sc) C where
 N:=rfl
 loc:=λx h=>lookup_relabel_local h
 Gm:=λx h=>by
  rcases h with h|h;·exact absurd rfl (hnc _ (V2 h))
  ·exact jH h
 gl:=λx h=>gX h
 calm:=T.calm
 hu:=T.hu
 bl:=T.bl
 fn:=λk x n h=>(T.fn k x n h).inner
 cs:=T.cs
 tb:=T.tb
 fld:=T.fld
 Nj:=T.Nj
 Nk:=T.Nk
 pY:=λhv k a c bM h=>(T.pY hv k a c bM h).inner
 lam:=λk pa bo sc' ps h=>absurd (show false=true from h) (by decide)
 iT:=λf x n ls h=>absurd (show false=true from h) (by decide)
 jc:=λf x ls h=>absurd (show false=true from h) (by decide)
end
section
variable{X:Cx}{kt:KT}{g:G}{C:Nat->List P->aI->R P}{Z:List Addr}
theorem yy(hs:∀z∈xs,notStar z=true):(Xn pos (VM xs env)).all (λx=>!x.1)=true:=by have h:=gi (env:=env) (pos:=pos) hs;rw[ZE] at h;rw[W2];intro x hx;have:=h x hx;revert this;cases x.1<;>simp
theorem vq(hs:∀z∈xs,notStar z=true)(hn:xs.length < 30)(lS:(apos.endLine==pos.line)=true):
  eval (.Call (.Attribute (.Name x p) mm apos) xs [] pos) env=(do
   let ov<-eval (.Name x p) env
   aap apos.atName
   let (f,first)<-aaq [ov] (ZS ov mm (do return (<-importBound (.Name x p) env).getD true))
   aaD pos f first (Xn pos (VM xs env)) (Zf pos (X6 [] env))):=by
 rw[arm_eval_Call];have Py:methodCallForm (xs.length+([]:List Z9).length) (Xn pos (VM xs env)) (Zf pos (X6 [] env))=true:=by unfold methodCallForm;rw[yy hs];have:xs.length+0+0 < 30:=hn;simp[hn];exact⟨λa b h=>(by cases h),hn⟩
 have LS:methodCallPos true (.Name x p) env apos pos=pure pos:=by unfold methodCallPos;simp[lS]
 unfold methodCall;rw[Py,LS];rfl
theorem LU(T:Good X kt g C)(hm:g.zP k c mm bP.length=true)(h1:g.N[i]?=some x)(h2:g.wu x=true)(h3:aQ x=true)(hn:xs.length < 30)(lS:(apos.endLine==pos.line)=true)(hs:∀z∈xs,notStar z=true)(hl:xs.length=bP.length)(h:PA X xs (tA (af X kt) Z (az C bP))):
  PE X (.Call (.Attribute (.Name x p) mm apos) xs [] pos) (tE (af X kt) Z (aa C (.qm k c mm i bP))):=by
 obtain⟨A,l,fa,fd,ps,k1,kc,km,F,hr,hb⟩:=T.Nj k c mm bP.length hm;have red:∀σ H Q,tE (af X kt) Z (aa C (.qm k c mm i bP)) σ H Q->A9 A mm (AF (af X kt) (C k) (bP.length+1)) [] E0 (tE (af X kt) Z (aa C (.var i))) (tA (af X kt) Z (az C bP)) σ H Q:=by
  rintro σ H Q ⟨m,ρ,st,ar,as,h⟩;rw[aa] at h;refine⟨m,ρ,st,ar,as,?_⟩;rw[aa];refine(Ok.bind h).mono λq st1 m1 H1 bH aY h1 v rv=>?_;obtain⟨u,e,h2,_⟩:=Ok.of (Ok.bind h1) aY;obtain⟨⟨n,fs⟩,e1,e2⟩:=bQ e;obtain⟨a,A',dx,us,rfl,hm',rfl,hs,g1,g2,g3,g4⟩:=AH aY rv e1;rw[show VA X.K Vu c=some (some (.ref A')) from g1] at k1;cases k1;have e3:fs.lookup mm=none:=by
   by_cases hh:(fs.lookup mm).isNone=true;·exact WO.mp hh
   ·rw[if_neg hh] at e2;cases e2
  refine⟨a,dx,us,rfl,g2,(aM.look (f:=mm) g4).2 e3,m1,ρ,st1,ar.le bH,aY,(Ok.bind h2).vi λqs st2 m2 H2 hq dW dU h3 vs iG=>?_⟩;show AF (af X kt) (C k) (bP.length+1) (.ref a::(vs++[])) H2 Q E0;rw[Wb];exact⟨m2,Z,.obj n::qs,st2,by rw[Vt,iG.length,fX hq],⟨.ref a,vs,rfl,rv.le dW,iG⟩,dU,h3⟩
 cases xs with
 |nil=>
  have e:bP=[]:=by cases bP with|nil=>rfl|cons a b=>simp at hl
  subst e;refine PE.imp (DV (yn (Z:=Z) (kt:=kt) T h1 h2 h3) kc km F hr hb .nil xK (vq hs hn lS)) λσ H Q h=>?_;have r:=red σ H Q h;unfold A9 at r ⊢;obtain⟨m,ρ,st,ar,as,h1⟩:=r;refine⟨m,ρ,st,ar,as,h1.mono λq st1 m1 H1 bH aY hh v rv=>?_⟩;obtain⟨a,dx,us,e1,e2,e3,m2,ρ2,st2,Gq,dU,h4⟩:=hh v rv;unfold az at h4;exact⟨a,dx,us,e1,e2,e3,Ok.here h4 dU [] rfl⟩
 |cons y ys=>exact PE.imp (GP (yn (Z:=Z) (kt:=kt) T h1 h2 h3) kc km F hr hb .nil xK h (bw (hs y Vh)) (gi λz hz=>hs z (Vb _ hz)) (vq hs hn lS)) red
theorem LV(T:Good X kt g C)(hm:g.zQ k c bP.length=true)(hg:g.gl c=true)(h3:aQ c=true)(hs:∀z∈y::ys,notStar z=true)(h:PA X (y::ys) (tA (af X kt) Z (az C bP))):
  PE X (.Call (.Name c p) (y::ys) [] pos) (tE (af X kt) Z (aa C (.make k c bP))):=by
 obtain⟨A,l,fa,fd,ps,k1,k2,M,F,hr,hb⟩:=T.Nk k c bP.length hm;refine PE.imp (GQ M F hr (T.glob hg) k1 hb .nil xK h (pn h3).1 (bw (hs y Vh)) (gi λz hz=>hs z (Vb _ hz))) ?_;rintro σ H Q ⟨m,ρ,st,ar,as,h⟩;rw[aa] at h;refine⟨m,ρ,st,ar,as,(Ok.bind h).vi λqs st1 m1 H1 hq bH aY h1 vs iG=>?_⟩;intro x dx hx hdx fc;rw[Wb];have sm:ji H1 (upd H1 dx (.own x)):=ba hdx _;have dU:=aY.same sm;have Rj:upd H1 dx (.own x) x=none:=by rw[aw (Wg fc)];exact hx
 have dW:Le (af X kt) m1 H1 (m1++[x]) (upd (upd H1 dx (.own x)) x (.ins A dx [])):=(Le.same sm).trans ((Le.same (ba Rj _)).grow Rj);have p5:aA (af X kt) (upd (upd H1 dx (.own x)) x (.ins A dx [])) (m1++[x]) Z (st1++[.ins c []]):=(dU.laid Rj (.ins A dx [])).wq (dU.fresh Rj).2 ⟨A,dx,[],k2,aC,by rw[aw fc];exact aC,rfl⟩;have hi:(m1++[x])[st1.length]?=some x:=by rw[Vz (by rw[aY.len];exact Vj _),aY.len];simp
 refine⟨m1++[x],Z,.obj st1.length::qs,st1++[.ins c []],by rw[Vt,iG.length,fX hq],⟨.ref x,vs,rfl,⟨x,hi,rfl⟩,iG.le dW⟩,p5,?_⟩;refine(Ok.bind (Ok.le h1 dW)).mono λq oF m4 H4 xo By h4 v rv=>?_;cases q with
 |d d=>cases d with|bq=>refine⟨rv,Ok.here h4 By (.ref x) ⟨x,?_,rfl⟩⟩;obtain⟨t,rfl⟩:=xo.pre;rw[Vf (by simp[aY.len])];exact hi|_=>exact(show False from h4).elim
 |_=>exact(show False from h4).elim
theorem ai.dropLast{K:KB}:∀{ps} {us},ai K H m Z ps us->ai K H m Z ps.dropLast us.dropLast
 |[],us,h=>by cases (show us=[] from h);exact h|[p],us,h=>by obtain⟨v,vs,rfl,r,rs⟩:=(show ∃v vs,us=v::vs/\aj K H m Z p v/\ai K H m Z [] vs from h);cases (show vs=[] from rs);exact rfl|p::q::ps,us,h=>by obtain⟨v,vs,rfl,r,rs⟩:=(show ∃v vs,us=v::vs/\aj K H m Z p v/\ai K H m Z (q::ps) vs from h);obtain⟨v2,vs2,rfl,r2,rs2⟩:=(show ∃v sH,vs=v::sH/\aj K H m Z q v/\ai K H m Z ps sH from rs);have:=ai.dropLast rs;rw[List.dropLast_cons₂,List.dropLast_cons₂];exact⟨v,_,rfl,r,this⟩
theorem ai.at_{K:KB}:∀{ps} {us} {i:Nat},ai K H m Z ps us->ps[i]?=some p->∃v,us[i]?=some v/\aj K H m Z p v
 |[],us,i,h,e=>by simp at e|q::ps,us,i,h,e=>by obtain⟨v,vs,rfl,r,rs⟩:=(show ∃v vs,us=v::vs/\aj K H m Z q v/\ai K H m Z ps vs from h);cases i with|zero=>rw[Vl] at e;cases e;exact⟨v,rfl,r⟩|succ i=>rw[Vk] at e ⊢;exact ai.at_ rs e
theorem aM.drop{κ:Type}[DecidableEq κ]{K:KB}{k:κ}:∀{kvs} {us},aM K H m Z kvs us->aM K H m Z (vg kvs k) (nh us k)
 |[],us,h=>by cases (show us=[] from h);exact rfl|(q,p)::kvs,us,h=>by
  obtain⟨v,vs,rfl,r,rs⟩:=(show ∃v vs,us=(q,v)::vs/\aj K H m Z p v/\aM K H m Z kvs vs from h);have ih:=aM.drop (k:=k) rs;unfold vg nh at ih ⊢;by_cases hq:q=k;·rw[V0 (by simp[hq]),V0 (by simp[hq])];exact ih
  ·rw[VR (by simp[hq]),VR (by simp[hq])];exact⟨v,_,rfl,r,ih⟩
theorem LW(hl:(ap.endLine==cp.line)=true)(hc:isCall o=false)(ho:PE X o (tE (af X kt) Z (aa C a))):
  PE X (.Call (.Attribute o "pop" ap) [] [] cp) (tE (af X kt) Z (aa C (.CJ a))):=by
 refine PE.imp (KA YE PySem.F.slot_list_pop PySem.F.type_list_pop KD ho (oS hc) hl) ?_;rintro σ H Q ⟨m,r,st,ar,as,h⟩;unfold aa at h;refine⟨m,r,st,ar,as,(Ok.bind h).mono λx st1 m1 H1 bH aY h1 v rv=>?_⟩;obtain⟨⟨p,st2⟩,e1,h2,cR⟩:=Ok.of (Ok.bind h1) aY;clear cR;unfold EK at e1;split at e1
 ·rename_i n;split at e1;·rename_i xs Pz;obtain⟨w',hw,e⟩:=gv e1;cases e;obtain⟨b,hb,eb⟩:=(show ∃b,m1[n]?=some b/\v=.ref b from rv);cases eb;obtain⟨b',iP,zs,hz,rz⟩:=aY.at_ n _ Pz;rw[hb] at iP;cases iP;obtain⟨u,hu,ru⟩:=rz.at_ hw;obtain⟨oR,p5⟩:=aY.write (ho:=.lst zs.dropLast) (o':=.lst xs.dropLast) Pz hb λH' e _ f=>⟨_,e,(rz.mono f).dropLast⟩;refine⟨.inl ⟨rfl,zs,.inl (.inl hz)⟩,b,zs,u,rfl,rfl,hz,by rw[rz.length];exact hu,?_⟩;exact h2 m1 _ oR p5 u (ru.le oR)
  ·cases e1
 ·cases e1
theorem LX(hl:(ap.endLine==cp.line)=true)(hc:isCall o=false)(ho:PE X o (tE (af X kt) Z (aa C a)))(hx:PE X x (tE (af X kt) Z (aa C b)))(hs:notStar x=true):
  PE X (.Call (.Attribute o "pop" ap) [x] [] cp) (tE (af X kt) Z (aa C (.CH a b))):=by
 have s1:VM [x] X.env=[(false,eval x X.env)]:=bw hs;refine PE.imp (Eb ho hx ⟨oS hc,by rw[s1];rfl,hl,by rw[s1];rfl⟩) ?_;rintro σ H Q ⟨m,ρ,st,ar,as,h0⟩;unfold aa at h0;refine⟨m,ρ,st,ar,as,(Ok.bind h0).mono λy st1 m1 H1 bH aY h1 v rv=>?_⟩;obtain⟨o',e,h2,_⟩:=Ok.of (Ok.bind h1) aY;obtain⟨n,c,rfl,pJ,hm,rfl,ao,hd⟩:=sD aY e rv;refine⟨c,rfl,EZ ao hd,m1,ρ,st1,ar.le bH,aY,(Ok.bind h2).mono λk st2 m2 H2 dW dU h3 u ru=>?_⟩;obtain⟨⟨p,st3⟩,e2,h4,cR⟩:=Ok.of (Ok.bind h3) dU;clear cR;unfold EJ at e2;dsimp only at e2;split at e2;·rename_i kvs pU;obtain⟨kk,Cz,e3⟩:=bQ e2;obtain⟨w',hw,e4⟩:=gv e3;cases e4;obtain⟨b,hb,eb⟩:=(show ∃b,m2[n]?=some b/\V.ref c=.ref b from rv.le dW);cases eb;obtain⟨b',iP,us,hu,rs⟩:=dU.at_ n _ pU;rw[hb] at iP;cases iP;obtain⟨v2,Rk,TY⟩:=(rs.val (k:=kk)).2 _ hw;obtain⟨oR,p5⟩:=dU.write (ho:=.dK (nh us kk)) (o':=.dK (vg kvs kk)) pU hb λH' e _ f=>⟨_,e,(rs.mono f).drop⟩;refine⟨us,kk,v2,hu,ru.key Cz,Rk,?_⟩;exact h4 m2 _ oR p5 v2 (TY.le oR)
 ·cases e2
theorem HP(hl:(ap.endLine==cp.line)=true)(hc:isCall o=false)(ho:PE X o (tE (af X kt) Z (aa C a)))(hx:PE X x (tE (af X kt) Z (aa C b)))(hs:notStar x=true)(hy:PE X y (tE (af X kt) Z (aa C c)))(rH:notStar y=true):
  PE X (.Call (.Attribute o "setdefault" ap) [x,y] [] cp) (tE (af X kt) Z (aa C (.r9 a b c))):=by
 have s1:VM [x,y] X.env=[(false,eval x X.env),(false,eval y X.env)]:=(bw hs).trans (by rw[bw rH];rfl);refine PE.imp (EB ho hx hy ⟨oS hc,by rw[s1];rfl,hl,by rw[s1];rfl⟩) ?_;rintro σ H Q ⟨m,ρ,st,ar,as,h0⟩;unfold aa at h0;refine⟨m,ρ,st,ar,as,(Ok.bind h0).mono λy st1 m1 H1 bH aY h1 v rv=>?_⟩;obtain⟨o',e,h2,_⟩:=Ok.of (Ok.bind h1) aY;obtain⟨n,c,rfl,pJ,hm,rfl,ao,hd⟩:=sD aY e rv;refine⟨c,rfl,EZ ao hd,m1,ρ,st1,ar.le bH,aY,(Ok.bind h2).mono λk st2 m2 H2 dW dU h3 u ru=>?_⟩;refine⟨m2,ρ,st2,(ar.le bH).le dW,dU,(Ok.bind h3).mono λz st3 m3 H3 oR p5 h4 w' mj=>?_⟩;obtain⟨⟨p,oF⟩,e2,h5,cR⟩:=Ok.of (Ok.bind h4) p5;clear cR;unfold pX at e2;dsimp only at e2;split at e2
 ·rename_i kvs pU;split at e2
  ·rename_i fM;obtain⟨kk,Cz,e3⟩:=gv e2;obtain⟨b,hb,eb⟩:=(show ∃b,m3[n]?=some b/\V.ref c=.ref b from(rv.le dW).le oR);cases eb;obtain⟨b',iP,us,hu,rs⟩:=p5.at_ n _ pU;rw[hb] at iP;cases iP;have rr:=rs.val (k:=kk);refine⟨us,kk,hu,(ru.le oR).key Cz,by rw[rs.length,<-dh];exact fM,λv2 Rk=>?_,λhn=>?_⟩;·cases hv:ff kvs kk with|none=>rw[hv,Rk] at rr;cases rr.1|some w2=>rw[hv] at e3;cases e3;obtain⟨v3,e4,r3⟩:=rr.2 _ hv;rw[Rk] at e4;cases e4;exact Ok.here h5 p5 v2 r3
   ·cases hv:ff kvs kk with|some w2=>rw[hv,hn] at rr;cases rr.1|none=>rw[hv] at e3;cases e3;obtain⟨xo,By⟩:=p5.write (ho:=.dK (putK us kk w')) (o':=.dK (lL kvs kk z)) pU hb λH' e _ f=>⟨_,e,(rs.mono f).put (f _ _ mj)⟩;exact h5 m3 _ xo By w' (mj.le xo)
  ·cases e2
 ·cases e2
end
section
variable(C:Nat->List P->aI->R P)
def SE(e':E):Prop:=∀(kt:KT) (X:Cx) (g:G) (e:Expr) (Z:List Addr),Good X kt g C->cF g e' e=true->PE X e (tE (af X kt) Z (aa C e'))/\PT X e (tT (af X kt) Z (bV (aa C e')))
def SEs(es:List E):Prop:=(∀(kt:KT) (X:Cx) (g:G) (xs:List Expr) (Z:List Addr),Good X kt g C->gu g es xs=true->PA X xs (tA (af X kt) Z (az C es)))/\
 (∀(kt:KT) (X:Cx) (g:G) (xs:List Expr) (Z:List Addr) (pos:Pos),Good X kt g C->gu g es xs=true->PE X (.BoolOp .And xs pos) (tE (af X kt) Z (dX C es))/\PW X (.BoolOp .And xs pos) (tT (af X kt) Z (bV (dX C es))))/\
 (∀(kt:KT) (X:Cx) (g:G) (xs:List Expr) (Z:List Addr) (pos:Pos),Good X kt g C->gu g es xs=true->PE X (.BoolOp .Or xs pos) (tE (af X kt) Z (dY C es))/\PW X (.BoolOp .Or xs pos) (tT (af X kt) Z (bV (dY C es))))
def SM(o:Option E):Prop:=(∀(kt:KT) (X:Cx) (g:G) (x:Option Expr) (Z:List Addr),Good X kt g C->O8 g o x=true->PO X x (tO (af X kt) Z (gT C o)))/\
 (∀(kt:KT) (X:Cx) (g:G) (ifs:List Expr),Good X kt g C->O9 g o ifs=true->Ec X ifs (Pp (af X kt) (bu C o)))
def SL(l:L):Prop:=∀(kt:KT) (X:Cx) (g:G) (e:Expr) (Z:List Addr),Good X kt g C->sA g l e=true->PE X e (tL (af X kt) Z (aU C l))
def SW(w:W):Prop:=∀(kt:KT) (X:Cx) (g:G) (e tg:Expr) (Z:List Addr),Good X kt g C->Ni g w e=true->(AE w=true->∃es k p,tg=.Tuple es k p)->PI X tg e (tW (af X kt) Z (cq C w))
variable{C}
theorem vt(h:∀r st,d r st=.no):PE X e (tE (af X kt) Z d)/\PT X e (tT (af X kt) Z (bV d)):=by
 constructor;·rintro pins s σ H Q I ⟨m,r,st,_,_,q⟩;rw[h] at q;exact(show False from q).elim
 ·rintro pins s σ H Q I ⟨m,r,st,_,_,q⟩;unfold bV at q;rw[h] at q;exact(show False from q).elim
theorem pw_no(h:∀r st,d r st=.no):PW X e (tT (af X kt) Z (bV d)):=by rintro wh pins s σ H Q I ⟨m,r,st,_,_,q⟩;unfold bV at q;rw[h] at q;exact(show False from q).elim
theorem both(h:PE X e (tE (af X kt) Z d))(he:∀whole,aaM e X.env whole=(do let v<-whole;aap e.pos;aaq [v] (truthy v))):PE X e (tE (af X kt) Z d)/\PT X e (tT (af X kt) Z (bV d)):=⟨h,Hw h he⟩
mutual
theorem aG:∀e':E,SE C e'
 |.var i=>λkt X g e Z T h=>by
  rw[cF] at h;dsimp only at h;split at h;·simp only[U9,decide_eq_true_eq] at h;exact both (yn T h.1.1 h.1.2 h.2) λ_=>rfl
  ·cases h
 |.cst d=>λkt X g e Z T h=>by
  rw[cF] at h;dsimp only at h;split at h
  ·split at h;·have:=of_decide_eq_true h;subst this;exact both (yo DD λ_ _=>rfl) λ_=>rfl
   ·have:=of_decide_eq_true h;subst this;exact both (yo Jj λ_ _=>rfl) λ_=>rfl
   ·have:=of_decide_eq_true h;subst this;exact both (yo DE λ_ _=>rfl) λ_=>rfl
   ·have:=of_decide_eq_true h;subst this;exact both (yo DF λ_ _=>rfl) λ_=>rfl
   ·cases h
  ·split at h;·simp only[U9,decide_eq_true_eq] at h;obtain⟨t,ht⟩:=T.cs _ _ h.1.2;exact both (yo (GB (v:=.int _) (T.glob h.1.1) ht ⟨t,rfl⟩ (pn h.2).1) λ_ _=>rfl) λ_=>rfl
   ·cases h
  ·cases h
 |.op o a b=>λkt X g e Z T h=>by
  rw[cF] at h;dsimp only at h;split at h;·simp only[U9,decide_eq_true_eq] at h;obtain⟨⟨rfl,h1⟩,h2⟩:=h;exact both (TC (aG a kt X g _ Z T h1).1 (aG b kt X g _ Z T h2).1) λ_=>rfl
  ·cases h
 |.CH a b=>λkt X g e Z T h=>by
  rw[cF] at h;dsimp only at h;split at h
  ·split at h
   ·split at h;·simp only[U9,decide_eq_true_eq,Vr,VL] at h;obtain⟨⟨⟨⟨⟨⟨⟨rfl,rfl⟩,h0⟩,rfl⟩,h1⟩,h2⟩,h3⟩,h4⟩:=h;exact both (LX h0 h1 (aG a kt X g _ Z T h2).1 (aG b kt X g _ Z T h3).1 h4) λ_=>rfl
    ·cases h
   ·cases h
  ·cases h
 |.r9 a b c=>λkt X g e Z T h=>by
  rw[cF] at h;dsimp only at h;split at h
  ·split at h
   ·split at h
    ·split at h;·simp only[U9,decide_eq_true_eq,Vr,VL] at h;obtain⟨⟨⟨⟨⟨⟨⟨⟨⟨rfl,rfl⟩,h0⟩,rfl⟩,h1⟩,h2⟩,h3⟩,h4⟩,h5⟩,h6⟩:=h;exact both (HP h0 h1 (aG a kt X g _ Z T h2).1 (aG b kt X g _ Z T h3).1 h4 (aG c kt X g _ Z T h5).1 h6) λ_=>rfl
     ·cases h
    ·cases h
   ·cases h
  ·cases h
 |.CJ a=>λkt X g e Z T h=>by
  rw[cF] at h;dsimp only at h;split at h
  ·split at h;·simp only[U9,decide_eq_true_eq,Vr,VL] at h;obtain⟨⟨⟨⟨⟨rfl,rfl⟩,h0⟩,rfl⟩,h1⟩,h2⟩:=h;exact both (LW h0 h1 (aG a kt X g _ Z T h2).1) λ_=>rfl
   ·cases h
  ·cases h
 |.attr c f i=>λkt X g e Z T h=>by
  rw[cF] at h;dsimp only at h;split at h
  ·split at h;·simp only[U9,decide_eq_true_eq] at h;obtain⟨⟨⟨⟨rfl,h1⟩,h2⟩,h3⟩,h4⟩:=h;exact both (LH T h1 h2 h3 h4) λ_=>rfl
   ·cases h
  ·cases h
 |.qm k c m i es=>λkt X g e Z T h=>by
  rw[cF] at h;dsimp only at h;split at h
  ·split at h
   ·split at h;·simp only[U9,decide_eq_true_eq,Vr] at h;obtain⟨⟨⟨⟨⟨⟨⟨⟨rfl,rfl⟩,h1⟩,h2⟩,h3⟩,h4⟩,h5⟩,h6⟩,h7⟩:=h;exact both (LU T h1 h2 h3 h4 h7 h6 (cj h5) (gy h5) ((di es).1 kt X g _ Z T h5)) λ_=>rfl
    ·cases h
   ·cases h
  ·cases h
 |.make k c es=>λkt X g e Z T h=>by
  rw[cF] at h;dsimp only at h;split at h
  ·split at h;·rename_i xs iI _ f0 x p;cases xs with|nil=>simp at h|cons y ys=>simp only[U9,decide_eq_true_eq,Vr] at h;obtain⟨⟨⟨⟨⟨⟨rfl,rfl⟩,h1⟩,h2⟩,h3⟩,h4⟩,_⟩:=h;exact both (LV T h1 h2 h3 (cj h4) ((di es).1 kt X g _ Z T h4)) λ_=>rfl
   ·cases h
  ·cases h
 |.not a=>λkt X g e Z T h=>by
  rw[cF] at h;dsimp only at h;split at h;·simp only[U9,decide_eq_true_eq] at h;obtain⟨rfl,h⟩:=h;exact⟨Pd (aG a kt X g _ Z T h).1,Lz (aG a kt X g _ Z T h).2⟩
  ·cases h
 |.cmp o a b=>λkt X g e Z T h=>by
  rw[cF] at h;dsimp only at h;split at h
  ·split at h
   ·split at h;·simp only[U9,decide_eq_true_eq,VL,Vr] at h;obtain⟨⟨⟨⟨⟨rfl,rfl⟩,rfl⟩,h1⟩,h2⟩,h3⟩:=h;exact⟨Pc T (aG a kt X g _ Z T h1).1 (aG b kt X g _ Z T h2).1 h3,Ly T (aG a kt X g _ Z T h1).1 (aG b kt X g _ Z T h2).1 h3⟩
    ·cases h
   ·cases h
  ·cases h
 |.chain o o' a b c=>λkt X g e Z T h=>by
  rw[cF] at h;dsimp only at h;split at h
  ·split at h
   ·split at h
    ·split at h
     ·split at h;·simp only[U9,decide_eq_true_eq,VL,Vr] at h;obtain⟨⟨⟨⟨⟨⟨⟨⟨rfl,rfl⟩,rfl⟩,rfl⟩,h1⟩,h2⟩,h3⟩,h4⟩,h5⟩:=h;exact⟨Hx T (aG a kt X g _ Z T h1).1 (aG b kt X g _ Z T h2).1 (aG c kt X g _ Z T h3).1 h4 h5,EW T (aG a kt X g _ Z T h1).1 (aG b kt X g _ Z T h2).1 (aG c kt X g _ Z T h3).1 h4 h5⟩
      ·cases h
     ·cases h
    ·cases h
   ·cases h
  ·cases h
 |.and es=>λkt X g e Z T h=>by
  rw[cF] at h;dsimp only at h;split at h
  ·rename_i op xs pos;simp only[U9,decide_eq_true_eq] at h;obtain⟨rfl,h⟩:=h;obtain⟨h1,h2⟩:=(di es).2.1 kt X g xs Z pos T h;have e1:aa C (.and es)=dX C es:=by funext r st;rw[aa]
   rw[e1];exact⟨h1,h2.pt⟩
  ·cases h
 |.or es=>λkt X g e Z T h=>by
  rw[cF] at h;dsimp only at h;split at h
  ·rename_i op xs pos;simp only[U9,decide_eq_true_eq] at h;obtain⟨rfl,h⟩:=h;obtain⟨h1,h2⟩:=(di es).2.2 kt X g xs Z pos T h;have e1:aa C (.or es)=dY C es:=by funext r st;rw[aa]
   rw[e1];exact⟨h1,h2.pt⟩
  ·cases h
 |.tup es=>λkt X g e Z T h=>by
  rw[cF] at h;dsimp only at h;split at h;·exact both (Pg ((di es).1 kt X g _ Z T h)) λ_=>rfl
  ·cases h
 |.lst mu l=>λkt X g e Z T h=>by
  rw[cF] at h;dsimp only at h;have h1:=Ph (mu:=mu) (LY l kt X g e Z T h);refine both h1 λwhole=>?_;cases l with
  |eY es=>
   rw[sA] at h;dsimp only at h;split at h;·rfl
   ·cases h
  |comp w ts js c e=>
   rw[sA] at h;dsimp only at h;split at h;·rfl
   ·cases h
  |gG es=>
   rw[sA] at h;dsimp only at h;split at h;·rfl
   ·cases h
  |zip a b=>
   rw[sA] at h;dsimp only at h;split at h;·rfl
   ·cases h
  |cn e js c ee=>
   rw[sA] at h;dsimp only at h;split at h;·rfl
   ·cases h
  |keys e=>
   rw[sA] at h;dsimp only at h;split at h;·rfl
   ·cases h
 |.call f es=>λkt X g e Z T h=>by
  rw[cF] at h;dsimp only at h;split at h
  ·split at h;·simp only[U9,decide_eq_true_eq,Vr] at h;obtain⟨⟨⟨⟨rfl,h1⟩,h2⟩,h3⟩,h4⟩:=h;exact both (s_call T h1 h2 h3 (cj h4) (gy h4) ((di es).1 kt X g _ Z T h4)) λ_=>rfl
   ·cases h
  ·cases h
 |.Gn a t=>λkt X g e Z T h=>by
  rw[cF] at h;dsimp only at h;split at h
  ·split at h
   ·split at h
    ·split at h
     ·split at h;·simp only[U9,decide_eq_true_eq,Vr] at h;obtain⟨⟨⟨⟨⟨⟨⟨⟨rfl,rfl⟩,rfl⟩,h1⟩,rfl⟩,h2⟩,h3⟩,h4⟩,h5⟩:=h;exact both (Pj T h1 h3 h2 (aG a kt X g _ Z T h4).1 h5) λ_=>rfl
      ·cases h
     ·cases h
    ·cases h
   ·cases h
  ·cases h
 |.bf f es=>λkt X g e Z T h=>by
  rw[cF] at h;dsimp only at h;split at h
  ·rename_i f0 xs iI pos;split at h;·simp only[U9,decide_eq_true_eq,VL,Vr] at h;obtain⟨⟨⟨⟨rfl,rfl⟩,h1⟩,h2⟩,h3⟩:=h;cases xs with|nil=>cases h3|cons x xs=>exact both (TM T h1 (cj h2) ((di es).1 kt X g _ Z T h2)) λ_=>rfl
   ·cases h
  ·cases h
 |.ix a b=>λkt X g e Z T h=>by
  rw[cF] at h;dsimp only at h;split at h;·simp only[U9,VL] at h;exact both (TK T.hu (aG a kt X g _ Z T h.1.1).1 (aG b kt X g _ Z T h.1.2).1 h.2) λ_=>rfl
  ·cases h
 |.slice a lo hi=>λkt X g e Z T h=>by
  rw[cF] at h;dsimp only at h;split at h
  ·split at h;·simp only[U9,WO] at h;obtain⟨⟨⟨rfl,h1⟩,h2⟩,h3⟩:=h;exact both (HG (aG a kt X g _ Z T h1).1 ((oU lo).1 kt X g _ Z T h2) ((oU hi).1 kt X g _ Z T h3)) λ_=>rfl
   ·cases h
  ·cases h
 |.CL k d=>λkt X g e Z T h=>by
  rw[cF] at h;dsimp only at h;split at h
  ·split at h
   ·split at h
    ·split at h;·simp only[U9,Vr] at h;obtain⟨⟨⟨rfl,rfl⟩,h1⟩,h2⟩:=h;exact both (LL T h1 h2) λ_=>rfl
     ·cases h
    ·cases h
   ·cases h
  ·cases h
 |.oK t=>λkt X g e Z T h=>by
  rw[cF] at h;dsimp only at h;split at h;·simp only[U9,Vr] at h;obtain⟨rfl,rfl⟩:=h;exact both LJ λ_=>rfl
  ·cases h
 |.pV i es=>λkt X g e Z T h=>by
  rw[cF] at h;dsimp only at h;split at h
  ·split at h;·rename_i xs iI _ f0 x p;cases xs with|nil=>simp at h|cons y ys=>simp only[U9,decide_eq_true_eq,Vr] at h;obtain⟨⟨⟨⟨⟨⟨rfl,h1⟩,h2⟩,h3⟩,h4⟩,_⟩,zO⟩:=h;exact both (HB T zO h1 h2 h3 (cj h4) ((di es).1 kt X g _ Z T h4)) λ_=>rfl
   ·cases h
  ·cases h
 |.iT f es ls=>λkt X g e Z T h=>by
  rw[cF] at h;dsimp only at h;split at h
  ·split at h;·rename_i xs iI _ f0 x p;cases xs with|nil=>simp at h|cons y ys=>simp only[U9,decide_eq_true_eq,Vr] at h;obtain⟨⟨⟨⟨⟨rfl,h1⟩,h2⟩,h3⟩,h4⟩,_⟩:=h;exact both (T.iT f x _ ls h1 Z y ys es p _ rfl h2 h3 (cj h4) ((di es).1 kt X g _ Z T h4)) λ_=>rfl
   ·cases h
  ·cases h
 |.jc i es ls=>λkt X g e Z T h=>by
  rw[cF] at h;dsimp only at h;split at h
  ·split at h;·rename_i xs iI _ f0 x p;cases xs with|nil=>simp at h|cons y ys=>simp only[U9,decide_eq_true_eq,Vr] at h;obtain⟨⟨⟨⟨⟨⟨rfl,h1⟩,h2⟩,h3⟩,h5⟩,h4⟩,_⟩:=h;exact both (T.jc i x ls h5 Z y ys es p _ h1 h2 h3 (cj h4) ((di es).1 kt X g _ Z T h4)) λ_=>rfl
   ·cases h
  ·cases h
 |.lam k=>λkt X g e Z T h=>by
  rw[cF] at h;dsimp only at h;split at h;·exact both (T.lam k _ _ _ _ h Z) λ_=>rfl
  ·cases h
 |.index a b=>λkt X g e Z T h=>by
  rw[cF] at h;dsimp only at h;split at h
  ·split at h
   ·split at h;·simp only[U9,decide_eq_true_eq,Vr,VL] at h;obtain⟨⟨⟨⟨⟨⟨⟨rfl,rfl⟩,h0⟩,rfl⟩,h1⟩,h2⟩,h3⟩,h4⟩:=h;exact both (HM h0 h1 (aG a kt X g _ Z T h2).1 (aG b kt X g _ Z T h3).1 h4) λ_=>rfl
    ·cases h
   ·cases h
  ·cases h
theorem di:∀es:List E,SEs C es
 |[]=>⟨λkt X g xs Z T h=>by rw[kI h];exact sE,λkt X g xs Z pos T h=>by exact⟨(vt λr st=>by rw[dX]).1,pw_no λr st=>by rw[dX]⟩,λkt X g xs Z pos T h=>⟨(vt λr st=>by rw[dY]).1,pw_no λr st=>by rw[dY]⟩⟩|a::bP=>by
  have ih:=di bP;have ia:=aG a;refine⟨λkt X g xs Z T h=>?_,λkt X g xs Z pos T h=>?_,λkt X g xs Z pos T h=>?_⟩;·obtain⟨x,ys,rfl,h1,h2,h3⟩:=fY h;exact kH (ia kt X g x Z T h1).1 (ih.1 kt X g ys Z T h3) h2
  ·obtain⟨x,ys,rfl,h1,h2,h3⟩:=fY h;cases bP with|nil=>rw[kI h3];exact⟨LA (ia kt X g x Z T h1).1,Hz (ia kt X g x Z T h1).2⟩|cons b bs=>obtain⟨y,zs,rfl,_,_,_⟩:=fY h3;obtain⟨i1,i2⟩:=ih.2.1 kt X g (y::zs) Z pos T h3;exact⟨LB (ia kt X g x Z T h1).1 i1,HA (ia kt X g x Z T h1).2 i2⟩
  ·obtain⟨x,ys,rfl,h1,h2,h3⟩:=fY h;cases bP with|nil=>rw[kI h3];exact⟨Pe (ia kt X g x Z T h1).1,LC (ia kt X g x Z T h1).2⟩|cons b bs=>obtain⟨y,zs,rfl,_,_,_⟩:=fY h3;obtain⟨i1,i2⟩:=ih.2.2 kt X g (y::zs) Z pos T h3;exact⟨Pf (ia kt X g x Z T h1).1 i1,LD (ia kt X g x Z T h1).2 i2⟩
theorem oU:∀o:Option E,SM C o
 |none=>⟨λkt X g x Z T h=>by
   rw[O8] at h;have:x=none:=by simpa using h
   rw[this];exact HE,λkt X g ifs T h=>by
   rw[O9] at h;have:ifs=[]:=by simpa using h
   rw[this];exact CP⟩
 |some a=>by
  have ia:=aG a;refine⟨λkt X g x Z T h=>?_,λkt X g ifs T h=>?_⟩
  ·rw[O8] at h;dsimp only at h;split at h;·exact HF (ia kt X g _ Z T h).1
   ·cases h
  ·rw[O9] at h;dsimp only at h;split at h;·simp only[U9,Vr] at h;obtain⟨rfl,h⟩:=h;exact CQ λZ=>(ia kt X g _ Z T h).2
   ·cases h
theorem LY:∀l:L,SL C l
 |.eY es=>λkt X g e Z T h=>by
  rw[sA] at h;dsimp only at h;split at h;·exact LF ((di es).1 kt X g _ Z T h)
  ·cases h
 |.comp w ts js c ee=>λkt X g e Z T h=>by
  rw[sA] at h;dsimp only at h;split at h
  ·rename_i elt gens sc pos';split at h
   ·rename_i ge r;split at h;rename_i tg iter ifs a;split at h
    ·rename_i x pos;simp only[U9,decide_eq_true_eq,VL,Vr] at h;obtain⟨⟨⟨⟨⟨⟨⟨⟨⟨⟨rfl,rfl⟩,rfl⟩,h1⟩,TZ⟩,h2⟩,h3⟩,h4⟩,h5⟩,h6⟩,h7⟩:=h;have B:=T.wF h2;have T':∀pins fp Cc s H,Good (mn X pins (gW g x js) sc fp Cc s H) kt (g.inner (gW g x js) sc) C:=λpins fp Cc s H=>T.inner (js:=js) B.fT;refine PE.imp (Bi T.calm B (wG w kt X g iter (.Name x pos) Z T h1 (λz=>by rw[TZ] at z;cases z)) (λpins fp Cc s H=>fb (i:=0) h4 rfl (.inl ((T' pins fp Cc s H).loc x h3)) (.inr ((T' pins fp Cc s H).loc x h3)))
      (λpins fp Cc s H=>(oU c).2 kt _ _ _ (T' pins fp Cc s H) h5) (λpins fp Cc s H=>HN λZ=>(aG ee kt _ _ _ Z (T' pins fp Cc s H) h6).1) (λy=>?_)) λσ H Q q=>yw q
     cases iter<;>first
      |rfl
      |exact absurd (show true=false from h7) V7.symm
    ·cases h
   ·cases h
  ·cases h
 |.keys a=>λkt X g e Z T h=>by
  rw[sA] at h;dsimp only at h;split at h
  ·split at h
   ·split at h;·simp only[U9,decide_eq_true_eq,Vr] at h;obtain⟨⟨⟨⟨⟨rfl,rfl⟩,rfl⟩,h1⟩,h2⟩,h3⟩:=h;exact LG T h1 (aG a kt X g _ Z T h2).1 h3
    ·cases h
   ·cases h
  ·cases h
 |.gG es=>λkt X g e Z T h=>by
  rw[sA] at h;dsimp only at h;split at h
  ·split at h
   ·split at h
    ·split at h
     ·split at h;·simp only[U9,decide_eq_true_eq,Vr] at h;obtain⟨⟨⟨⟨⟨⟨⟨rfl,rfl⟩,rfl⟩,rfl⟩,h1⟩,rfl⟩,h2⟩,h3⟩:=h;exact LO T h2 h1 h3 ((di es).1 kt X g _ Z T h3)
      ·cases h
     ·cases h
    ·cases h
   ·cases h
  ·cases h
 |.zip a b=>λkt X g e Z T h=>by
  rw[sA] at h;dsimp only at h;split at h
  ·split at h
   ·split at h
    ·split at h
     ·split at h
      ·split at h
       ·split at h;·simp only[U9,decide_eq_true_eq,Vr] at h;obtain⟨⟨⟨⟨⟨⟨⟨⟨⟨⟨⟨rfl,rfl⟩,rfl⟩,rfl⟩,rfl⟩,h1⟩,rfl⟩,h2⟩,h3⟩,h4⟩,h5⟩,h6⟩:=h;exact LP T h2 h1 (aG a kt X g _ Z T h3).1 h4 (aG b kt X g _ Z T h5).1 h6
        ·cases h
       ·cases h
      ·cases h
     ·cases h
    ·cases h
   ·cases h
  ·cases h
 |.cn a js c ee=>λkt X g e Z T h=>by
  rw[sA] at h;dsimp only at h;split at h
  ·rename_i elt gens sc pos';split at h
   ·rename_i ge r;split at h;rename_i tg iter ifs a;split at h
    ·rename_i x pos;simp only[U9,decide_eq_true_eq,VL,Vr] at h;obtain⟨⟨⟨⟨⟨⟨⟨⟨rfl,rfl⟩,h1⟩,h2⟩,h3⟩,h4⟩,h5⟩,h6⟩,h7⟩:=h;have B:=T.wF h2;have T':∀pins fp Cc s H,Good (mn X pins (gW g x js) sc fp Cc s H) kt (g.inner (gW g x js) sc) C:=λpins fp Cc s H=>T.inner (js:=js) B.fT;refine PE.imp (Bi T.calm B (qP (aG a kt X g iter Z T h1).1) (λpins fp Cc s H=>fb (i:=0) h4 rfl (.inl ((T' pins fp Cc s H).loc x h3)) (.inr ((T' pins fp Cc s H).loc x h3)))
      (λpins fp Cc s H=>(oU c).2 kt _ _ _ (T' pins fp Cc s H) h5) (λpins fp Cc s H=>HN λZ=>(aG ee kt _ _ _ Z (T' pins fp Cc s H) h6).1) (λy=>?_)) λσ H Q q=>vp q
     cases iter<;>first
      |rfl
      |exact absurd (show true=false from h7) V7.symm
    ·cases h
   ·cases h
  ·cases h
theorem wG:∀w:W,SW C w
 |.ex a=>λkt X g e tg Z T h _=>by rw[Ni] at h;dsimp only at h;rw[U9] at h;exact Pm (aG a kt X g e Z T h.1).1|.gG es=>λkt X g e tg Z T h _=>by
  rw[Ni] at h;dsimp only at h;split at h
  ·split at h;·simp only[U9,decide_eq_true_eq,Vr] at h;obtain⟨⟨⟨rfl,rfl⟩,h1⟩,h2⟩:=h;exact LM T h1 h2 ((di es).1 kt X g _ Z T h2)
   ·cases h
  ·cases h
 |.enum a=>λkt X g e tg Z T h ht=>by
  obtain⟨es,k,p,rfl⟩:=ht rfl;rw[Ni] at h;dsimp only at h;split at h
  ·split at h
   ·split at h;·simp only[U9,decide_eq_true_eq,Vr] at h;obtain⟨⟨⟨⟨⟨rfl,rfl⟩,rfl⟩,h1⟩,h2⟩,h3⟩:=h;exact HL T h1 (aG a kt X g _ Z T h2).1 h3
    ·cases h
   ·cases h
  ·cases h
end
end
def ir(g:G)(x:Str):Bool:=decide (g.names.lookup x=some .local)||decide (g.names.lookup x=some .cell)
def HQ(g:G)(t:Tg)(e:Expr):Bool:=match t with
 |.nm i=>match e with|.Name x _=>decide (g.N[i]?=some x)&&ir g x|_=>false
 |.tup _=>false
 |.two i j=>match e with
  |.Tuple es _ _=>match es with
   |a::r=>match a with
    |.Name x _=>match r with
     |b::r'=>match b with|.Name y _=>r'.isEmpty&&decide (g.N[i]?=some x)&&ir g x&&decide (g.N[j]?=some y)&&ir g y|_=>false
     |[]=>false
    |_=>false
   |[]=>false
  |_=>false
def E1:Tg->Bool
 |.two _ _=>true|_=>false
def BC:Expr->Bool
 |.SetComp _ _ _ _=>true|.DictComp _ _ _ _ _=>true|_=>false
mutual
def zR(g:G):S->Stmt->Bool
 |.ret e=>λs=>match s with
  |.Return v _=>match v with|some x=>cF g e x|none=>false
  |_=>false
 |.EG=>λs=>match s with|.Return v _=>v.isNone|_=>false
 |.set i e=>λs=>match s with
  |.Assign ts v _=>match ts with
   |t::r=>match t with|.Name x _=>r.isEmpty&&decide (g.N[i]?=some x)&&ir g x&&cF g e v&&!BC v|_=>false
   |[]=>false
  |_=>false
 |.ifs c a b=>λs=>match s with|.If x ys zs _=>cF g c x&&oV g a ys&&oV g b zs|_=>false
 |.fe t w b=>λs=>match s with|.For tg iter body orelse _=>orelse.isEmpty&&HQ g t tg&&Ni g w iter&&oV g b body&&!cg iter&&(!AE w||E1 t)|_=>false
 |.jm t e b=>λs=>match s with|.For tg iter body orelse _=>orelse.isEmpty&&HQ g t tg&&cF g e iter&&oV g b body&&!cg iter&&!E1 t|_=>false
 |.CM i j a b=>λs=>match s with
  |.For tg iter body orelse _=>match iter with
   |.Call f0 xs iI cp=>match f0 with|.Attribute o n ap=>orelse.isEmpty&&xs.isEmpty&&iI.isEmpty&&HQ g (.two i j) tg&&decide (n="items")&&!isCall o&&(ap.endLine==cp.line)&&cF g a o&&oV g b body|_=>false
   |_=>false
  |_=>false
 |.jM i j a b=>λs=>match s with
  |.For tg iter body orelse _=>match iter with
   |.Call f0 xs iI cp=>match f0 with
    |.Name n _=>match xs with|o::r=>orelse.isEmpty&&r.isEmpty&&iI.isEmpty&&HQ g (.two i j) tg&&decide (n="enumerate")&&g.gl "enumerate"&&notStar o&&cF g a o&&oV g b body|[]=>false
    |_=>false
   |_=>false
  |_=>false
 |.mq c b=>λs=>match s with|.While x body orelse _=>orelse.isEmpty&&cF g c x&&oV g b body|_=>false
 |.oJ i k=>λs=>match s with|.FunctionDef name params body T3 rt tps scope tsc bind pos=>T3.isEmpty&&rt.isNone&&tps.isEmpty&&tsc.isNone&&decide (bind=name)&&g.O6 i k name params body scope pos|_=>false
 |.expr e=>λs=>match s with|.Expr x _=>cF g e x&&!mw x|_=>false
 |.app a e=>λs=>match s with
  |.Expr c _=>match c with
   |.Call f0 xs iI cp=>match f0 with
    |.Attribute o n ap=>match xs with|x::r=>r.isEmpty&&iI.isEmpty&&(ap.endLine==cp.line)&&decide (n="append")&&!isCall o&&cF g a o&&cF g e x&&notStar x|[]=>false
    |_=>false
   |_=>false
  |_=>false
 |.put a i e=>λs=>match s with
  |.Assign ts v _=>match ts with
   |t::r=>match t with|.Subscript o k _=>r.isEmpty&&cF g a o&&cF g i k&&cF g e v&&!mw v|_=>false
   |[]=>false
  |_=>false
 |.mr c f i e=>λs=>match s with
  |.Assign ts v _=>match ts with
   |t::r=>match t with
    |.Attribute o n _=>match o with|.Name x _=>r.isEmpty&&decide (n=f)&&g.xn c f&&decide (g.N[i]?=some x)&&g.wu x&&aQ x&&cF g e v|_=>false
    |_=>false
   |[]=>false
  |_=>false
def oV(g:G):List S->List Stmt->Bool
 |[]=>λl=>l.isEmpty|s::ss=>λl=>match l with|x::xs=>zR g s x&&oV g ss xs|[]=>false
end
def tS(K:KB)(Z:List Addr)(d:bU->aI->R Fl):TS:=λD σ H=>∃m r st,cQ K H m Z r σ/\aA K H m Z st/\Ok K Z (d r st) m H (pZ K Z D)
structure fP(X:Cx)(kt:KT)(g:G)(C:Nat->List P->aI->R P):Prop extends Good X kt g C where
 cell:∀x,g.names.lookup x=some .cell->X.env.scope.names.lookup x=some .cell
 nd:g.N.Nodup
 Rl:∀x,g.names.lookup x=some .cell->X.fn x=true
 oJ:∀i k name params body scope pos,g.O6 i k name params body scope pos=true->∀Z,PS X (.FunctionDef name params body [] none [] scope none name pos) (tS (af X kt) Z (aE C (.oJ i k)))
 own:PassesOwn (model X.prog X.w) X.A X.env X.xe
section
variable{X:Cx}{g:G}{C:Nat->List P->aI->R P}{Z:List Addr}
theorem PS.imp{st:Stmt}(h:PS X st t)(i:∀D σ H,t' D σ H->t D σ H):PS X st t':=λpins s σ H D I q=>h pins s σ H D I (i D σ H q)
theorem me.imp{st:List Stmt}(h:me X st t)(i:∀D σ H,t' D σ H->t D σ H):me X st t':=λpins s σ H D I q=>h pins s σ H D I (i D σ H q)
theorem fP.wH(T:fP X kt g C)(h:ir g x=true):Loc X.env.scope x:=by
 unfold ir at h;simp only[XJ,decide_eq_true_eq] at h;rcases h with h|h;·exact .inl (T.loc x h)
 ·exact .inr (T.cell x h)
theorem fP.HR(T:fP X kt g C)(h:ir g x=true):X.fn x=true\/X.env.scope.names.lookup x=some .local:=by
 unfold ir at h;simp only[XJ,decide_eq_true_eq] at h;rcases h with h|h;·exact .inr (T.loc x h)
 ·exact .inl (T.Rl x h)
theorem cQ.set{K:KB}(A:cQ K H m Z r σ)(rv:aj K H m Z p v):cQ K H m Z (r.set i (some p)) (σ.set i (some v)):=by
 refine⟨by rw[WJ,WJ];exact A.len,λj q h=>?_⟩;by_cases hj:i=j
 ·subst hj;have hi:i < r.length:=by have:=(List.getElem?_eq_some_iff.mp h).1;rwa [WJ] at this
  rw[VB hi] at h;cases h;exact⟨v,by rw[VB (by rw[<-A.len];exact hi)],rv⟩
 ·rw[Ve hj] at h;obtain⟨w',e,r'⟩:=A.at_ j q h;exact⟨w',by rw[Ve hj];exact e,r'⟩
theorem PB(h:PE X x (tE (af X kt) Z (aa C e))):PS X (.Return (some x) pos) (tS (af X kt) Z (aE C (.ret e))):=by refine PS.imp (Kc h) ?_;rintro D σ H ⟨m,r,st,ar,as,h⟩;unfold aE at h;exact⟨m,r,st,ar,as,(Ok.bind h).mono λp st1 m1 H1 bH aY h1=>Ok.here h1 aY⟩
theorem LZ:PS X (.Return none pos) (tS (af X kt) Z (aE C .EG)):=by refine PS.imp GF ?_;rintro D σ H ⟨m,r,st,ar,as,h⟩;unfold aE at h;exact Ok.here h as .bq rfl
theorem wI(h:mw x=false):Yo x t line env=pure false:=by
 cases x<;>first
  |rfl
  |exact absurd (show true=false from h) V7.symm
theorem PC(T:fP X kt g C)(hi:g.N[i]?=some x)(hl:ir g x=true)(hc:mw v=false)(h:PE X v (tE (af X kt) Z (aa C e))):PS X (.Assign [.Name x p] v pos) (tS (af X kt) Z (aE C (.set i e))):=by refine PS.imp (DI (i:=i) (by rw[T.N];exact T.nd) (by rw[T.N];exact hi) (T.wH hl) h (wI hc) (T.HR hl)) ?_;rintro D σ H ⟨m,r,st,ar,as,h⟩;unfold aE at h;refine⟨m,r,st,ar,as,(Ok.bind h).mono λq st1 m1 H1 bH aY h1 v rv=>?_⟩;exact Ok.here h1 aY (σ.set i (some v)) ((ar.le bH).set rv)
theorem E2(h:cF g e (.ListComp elt gens sc pos)=true):(∃mu w ts js c ee,e=.lst mu (.comp w ts js c ee))\/∃mu a js c ee,e=.lst mu (.cn a js c ee):=by
 cases e with
 |lst mu l=>cases l with|comp w ts js c ee=>exact .inl ⟨mu,w,ts,js,c,ee,rfl⟩|cn a js c ee=>exact .inr ⟨mu,a,js,c,ee,rfl⟩|_=>rw[cF] at h;dsimp only at h;rw[sA] at h;dsimp only at h;cases h
 |_=>rw[cF] at h;dsimp only at h;cases h
theorem BD(hk:env.scope.kind=.function):
  Yo (.ListComp elt gens sc pos) (some (.Name x p)) line env=pure (decide (env.scope.names.lookup x=some .local)&&(p.line==pos.line)&&!(sc.names.any λq=>q.1==x&&(q.2==.local||q.2==.cell))):=by
 unfold Yo;dsimp only;have h1:env.blockKind=.function:=by unfold PySem.Env.blockKind;rw[hk];rfl
 have h2:(env.kindOf x==some .local)=decide (env.scope.names.lookup x=some .local):=by
  unfold PySem.Env.kindOf;by_cases h:env.scope.names.lookup x=some .local;·rw[h];rfl
  ·rw[decide_eq_false h];exact beq_eq_false_iff_ne.mpr h
 rw[h1,h2];rfl
theorem wJ{D:Ends}(h:tS (af X kt) Z (aE C (.set i e)) D σ H):tE (af X kt) Z (aa C e) σ H λv H1=>D.nx (σ.set i (some v)) H1:=by obtain⟨m,r,st,ar,as,h⟩:=h;unfold aE at h;refine⟨m,r,st,ar,as,(Ok.bind h).mono λq st1 m1 H1 bH aY h1 v rv=>?_⟩;exact Ok.here h1 aY (σ.set i (some v)) ((ar.le bH).set rv)
theorem E3(T:fP X kt g C)(hi:g.N[i]?=some x)(hl:ir g x=true)(hc:BC v=false)(h:cF g e v=true):PS X (.Assign [.Name x p] v pos) (tS (af X kt) Z (aE C (.set i e))):=by
 have he:=(aG e kt X g v Z T.toGood h).1;by_cases Ds:mw v=false;·exact PC T hi hl Ds he
 ·cases v with
  |ListComp elt gens sc L0=>
   intro pins s σ H D I q;have sw:=BD (x:=x) (p:=p) (elt:=elt) (gens:=gens) (sc:=sc) (pos:=L0) (line:=pos.line) I.ok.kind;cases hb:(decide (X.env.scope.names.lookup x=some .local)&&(p.line==L0.line)&&!(sc.names.any λq=>q.1==x&&(q.2==.local||q.2==.cell))) with
   |false=>rw[hb] at sw;exact PS.imp (DI (i:=i) (by rw[T.N];exact T.nd) (by rw[T.N];exact hi) (T.wH hl) he sw (T.HR hl)) (λD σ H q=>wJ q) pins s σ H D I q|true=>
    have sw':X.Ok->Yo (.ListComp elt gens sc L0) (some (.Name x p)) pos.line X.env=pure true:=λok=>by rw[BD ok.kind,hb]
    rcases E2 h with ⟨mu,w,ts,js,c,ee,rfl⟩|⟨mu,a,js,c,ee,rfl⟩
    ·have q1:=wB (wJ q);rw[cF] at h;dsimp only at h;rw[sA] at h;dsimp only at h;split at h
     ·rename_i ge r;split at h;rename_i tg iter ifs a;split at h
      ·rename_i y py;simp only[U9,decide_eq_true_eq,VL,Vr] at h;obtain⟨⟨⟨⟨⟨⟨⟨⟨⟨⟨rfl,rfl⟩,rfl⟩,h1⟩,TZ⟩,h2⟩,h3⟩,h4⟩,h5⟩,h6⟩,h7⟩:=h;have B:=T.toGood.wF h2;have T':∀pins fp Cc s H,Good (mn X pins (gW g y js) sc fp Cc s H) kt (g.inner (gW g y js) sc) C:=λpins fp Cc s H=>T.toGood.inner (js:=js) B.fT;refine rW T.calm B (wG w kt X g iter (.Name y py) Z T.toGood h1 (λz=>by rw[TZ] at z;cases z)) (λpins fp Cc s H=>fb (i:=0) h4 rfl (.inl ((T' pins fp Cc s H).loc y h3)) (.inr ((T' pins fp Cc s H).loc y h3)))
        (λpins fp Cc s H=>(oU c).2 kt _ _ _ (T' pins fp Cc s H) h5) (λpins fp Cc s H=>HN λZ=>(aG ee kt _ _ _ Z (T' pins fp Cc s H) h6).1) (λy=>?_) sw' (fb (i:=i) (by rw[T.N];exact T.nd) (by rw[T.N];exact hi) (T.wH hl) (T.HR hl)) pins s σ H D I (yw q1)
       cases iter<;>first
        |rfl
        |exact absurd (show true=false from h7) V7.symm
      ·cases h
     ·cases h
    ·have q1:=wB (wJ q);rw[cF] at h;dsimp only at h;rw[sA] at h;dsimp only at h;split at h
     ·rename_i ge r;split at h;rename_i tg iter ifs a9;split at h
      ·rename_i y py;simp only[U9,decide_eq_true_eq,VL,Vr] at h;obtain⟨⟨⟨⟨⟨⟨⟨⟨rfl,rfl⟩,h1⟩,h2⟩,h3⟩,h4⟩,h5⟩,h6⟩,h7⟩:=h;have B:=T.toGood.wF h2;have T':∀pins fp Cc s H,Good (mn X pins (gW g y js) sc fp Cc s H) kt (g.inner (gW g y js) sc) C:=λpins fp Cc s H=>T.toGood.inner (js:=js) B.fT;refine rW T.calm B (qP (aG a kt X g iter Z T.toGood h1).1) (λpins fp Cc s H=>fb (i:=0) h4 rfl (.inl ((T' pins fp Cc s H).loc y h3)) (.inr ((T' pins fp Cc s H).loc y h3)))
        (λpins fp Cc s H=>(oU c).2 kt _ _ _ (T' pins fp Cc s H) h5) (λpins fp Cc s H=>HN λZ=>(aG ee kt _ _ _ Z (T' pins fp Cc s H) h6).1) (λy=>?_) sw' (fb (i:=i) (by rw[T.N];exact T.nd) (by rw[T.N];exact hi) (T.wH hl) (T.HR hl)) pins s σ H D I (vp q1)
       cases iter<;>first
        |rfl
        |exact absurd (show true=false from h7) V7.symm
      ·cases h
     ·cases h
  |SetComp _ _ _ _=>cases hc|DictComp _ _ _ _ _=>cases hc|_=>exact absurd rfl Ds
theorem L6(hc:mw x=false)(h:PE X x (tE (af X kt) Z (aa C e))):PS X (.Expr x pos) (tS (af X kt) Z (aE C (.expr e))):=by refine PS.imp (A7 h (wI hc)) ?_;rintro D σ H ⟨m,r,st,ar,as,h⟩;unfold aE at h;refine⟨m,r,st,ar,as,(Ok.bind h).mono λq st1 m1 H1 bH aY h1 v rv=>?_⟩;exact Ok.here h1 aY σ (ar.le bH)
theorem ai.setAt{K:KB}(r:aj K H m Z p v):∀{xs} {us} (j),ai K H m Z xs us->ai K H m Z (xs.set j p) (us.set j v)
 |[],us,j,h=>by cases (show us=[] from h);exact rfl|x::xs,us,j,h=>by obtain⟨u,TQ,rfl,r1,rs⟩:=(show ∃v vs,us=v::vs/\aj K H m Z x v/\ai K H m Z xs vs from h);cases j with|zero=>exact⟨v,TQ,rfl,r,rs⟩|succ j=>exact⟨u,TQ.set j v,rfl,r1,ai.setAt r j rs⟩
theorem PD(hl:(ap.endLine==cp.line)=true)(hc:isCall o=false)(ho:PE X o (tE (af X kt) Z (aa C a)))(hx:PE X x (tE (af X kt) Z (aa C e)))(hs:notStar x=true):
  PS X (.Expr (.Call (.Attribute o "append" ap) [x] [] cp) pos) (tS (af X kt) Z (aE C (.app a e))):=by
 have s1:VM [x] X.env=[(false,eval x X.env)]:=bw hs;refine PS.imp (A7 (Jp YE PySem.F.slot_list_append PySem.F.type_list_append oA ho (kH hx sE hs) (oS hc) (by rw[s1];rfl) hl s1 rfl) rfl) ?_;rintro D σ H ⟨m,r,st,ar,as,h⟩;unfold aE at h;refine⟨m,r,st,ar,as,(Ok.bind h).mono λy st1 m1 H1 bH aY h1 v rv=>?_⟩;obtain⟨its,e1,h2,cR⟩:=Ok.of (Ok.bind h1) aY;clear cR;obtain⟨l,us,rfl,hq,rs⟩:=cy aY e1 rv;refine⟨.inl ⟨rfl,us,.inl hq⟩,m1,r,st1,ar.le bH,aY,?_⟩;show Ok (af X kt) Z (az C [e] r st1) m1 H1 _;unfold az az;cases hr:aa C e r st1 with
 |ex x s=>rw[hr] at h2;exact(show False from h2).elim|no=>rw[hr] at h2;exact(show False from h2).elim|ok w st2=>
  rw[hr] at h2;simp only[ae] at h2 ⊢;intro m2 H2 dW dU vs iG;obtain⟨u,rfl,ru⟩:=wC iG;obtain⟨st3,e2,h3,cR⟩:=Ok.of (Ok.bind (Ok.le h2 dW)) dU;clear cR;unfold yc at e2;split at e2
  ·rename_i n;split at e2
   ·rename_i xs Pz;split at e2;·rename_i fM;cases e2;obtain⟨b,hb,eb⟩:=rv.le dW;cases eb;obtain⟨b',iP,zs,hz,rz⟩:=dU.at_ n _ Pz;rw[hb] at iP;cases iP;obtain⟨oR,p5⟩:=dU.write (ho:=.lst (zs++[u])) (o':=.lst (xs++[w])) Pz hb λH' e _ f=>⟨_,e,(rz.mono f).append ⟨u,[],rfl,f _ _ ru,rfl⟩⟩;refine⟨l,zs,u,rfl,rfl,hz,by rw[rz.length,<-dh];exact fM,?_⟩;exact h3 m2 _ oR p5 σ (((ar.le bH).le dW).le oR)
    ·cases e2
   ·cases e2
  ·cases e2
def PF:NK:=λo i v H Q=>∃a H4,o=.ref a/\xF H a i v H4/\Q H4
theorem HU(hu:X.A.units+100 < cLine):B8 X PF:=by intro pins s σ H o i v ov iv u Q I ro ri rv h;obtain⟨a,H4,rfl,g,q⟩:=h;cases ro;exact Co (by omega) I g ri rv λs4 I4=>⟨H4,I4,q⟩
theorem HV(h:B8 X t)(h':B8 X t'):B8 X (λo i v H Q=>t o i v H Q\/t' o i v H Q):=by
 intro pins s σ H o i v ov iv u Q I ro ri rv q;rcases q with q|q;·exact h pins s σ H o i v ov iv u Q I ro ri rv q
 ·exact h' pins s σ H o i v ov iv u Q I ro ri rv q
theorem L7(hp:B8 X t)(ho:PE X o td)(hi:PE X i ty)(hv:PE X value tv)(hs:Yo value (some (.Subscript o i pos')) pos.line X.env=pure false):
  PS X (.Assign [.Subscript o i pos'] value pos) (λD σ H=>tv σ H λv H1=>td σ H1 λx H2=>ty σ H2 λy H3=>t x y v H3 λH4=>D.nx σ H4):=by
 intro pins s σ H D I h;refine wpAny_Assign_Subscript (bI (hv pins s σ H _ I h) λr s1 ⟨v,H1,I1,rv,q1⟩=>bI (ho pins s1 σ H1 _ I1 q1) λu s2 ⟨x,H2,I2,rx,q2⟩=>bI (hi pins s2 σ H2 _ I2 q2) λiv s3 ⟨y,H3,I3,ry,q3⟩=>?_) hs;exact bI (hp pins s3 σ H3 x y v u iv r _ I3 rx ry rv q3) λ_ s4 ⟨H4,I4,q4⟩=>⟨σ,H4,I4,q4⟩
theorem PH(T:Good X kt g C)(hc:mw v=false)(ho:PE X o (tE (af X kt) Z (aa C a)))(hk:PE X k (tE (af X kt) Z (aa C i)))(hv:PE X v (tE (af X kt) Z (aa C e))):
  PS X (.Assign [.Subscript o k pos'] v pos) (tS (af X kt) Z (aE C (.put a i e))):=by
 refine PS.imp (L7 (HV set_list (HU T.hu)) ho hk hv (wI hc)) ?_;rintro D σ H ⟨m,r,st,ar,as,h⟩;unfold aE at h;refine⟨m,r,st,ar,as,(Ok.bind h).mono λw st1 m1 H1 bH aY h1 vw mj=>?_⟩;refine⟨m1,r,st1,ar.le bH,aY,(Ok.bind h1).mono λx st2 m2 H2 dW dU h2 vx rx=>?_⟩;refine⟨m2,r,st2,(ar.le bH).le dW,dU,(Ok.bind h2).mono λy st3 m3 H3 oR p5 h3 vy ry=>?_⟩;obtain⟨oF,e2,h4,cR⟩:=Ok.of (Ok.bind h3) p5;clear cR;have T4:=(mj.le dW).le oR;have T5:=((ar.le bH).le dW).le oR;unfold oN at e2;split at e2
 ·rename_i n;obtain⟨ob,LK,e5⟩:=bQ e2;clear e2;obtain⟨ob',e3,rfl⟩:=gv e5;clear e5;obtain⟨b,hb,eb⟩:=rx.le oR;cases eb;obtain⟨b',iP,ao⟩:=p5.at_ n _ LK;rw[hb] at iP;cases iP;cases ob with
  |ins c fs=>cases e3|vf=>cases e3|lst xs=>
   obtain⟨zs,hz,rz⟩:=ao;unfold yd at e3;dsimp only at e3;split at e3;·rename_i j;obtain⟨q,hq,rfl⟩:=gv e3;cases (show vy=.int j from ry);obtain⟨xo,By⟩:=p5.write (ho:=.lst (zs.set q vw)) (o':=.lst (xs.set q w)) LK hb λH' e _ f=>⟨_,e,(rz.mono f).setAt (f _ _ T4) q⟩;refine .inl ⟨b,zs,j,q,rfl,rfl,hz,by rw[rz.length];exact hq,?_⟩;exact h4 m3 _ xo By σ (T5.le xo)
   ·cases e3
  |dK kvs=>
   obtain⟨us,hu,rs⟩:=ao;have e4:(if kvs.length < av then(keyOf y).map λk=>O.dK (lL kvs k w) else none)=some ob':=e3;split at e4;·rename_i fM;obtain⟨kk,Cz,rfl⟩:=gv e4;rw[ry.key Cz];obtain⟨xo,By⟩:=p5.write (ho:=.dK (putK us kk vw)) (o':=.dK (lL kvs kk w)) LK hb λH' e _ f=>⟨_,e,(rs.mono f).put (f _ _ T4)⟩;refine .inr ⟨b,_,rfl,xF.k hu (by rw[rs.length,<-dh];exact fM),?_⟩;exact h4 m3 _ xo By σ (T5.le xo)
   ·cases e4
  |dT kvs=>
   obtain⟨us,hu,rs⟩:=ao;have e4:(if kvs.length < av then(qo y).map λk=>O.dT (lL kvs k w) else none)=some ob':=e3;split at e4;·rename_i fM;obtain⟨kk,Cz,rfl⟩:=gv e4;obtain⟨bk,rfl,hbk⟩:=ry.qo Cz;obtain⟨xo,By⟩:=p5.write (ho:=.dT (putK us kk vw)) (o':=.dT (lL kvs kk w)) LK hb λH' e _ f=>⟨_,e,(rs.mono f).put (f _ _ T4)⟩;refine .inr ⟨b,_,rfl,xF.t hu hbk (by rw[rs.length,<-dh];exact fM),?_⟩;exact h4 m3 _ xo By σ (T5.le xo)
   ·cases e4
 ·cases e2
theorem aM.wo{K:KB}{H:Hp}{m:List Addr}{f:Str}{p:P}{v:V}(rp:aj K H m Z p v):∀{fs:List (Str×P)} {us:List (Str×V)},aM K H m Z fs us->aM K H m Z (wo f p fs) (jF f v us)
 |[],us,h=>by cases (show us=[] from h);exact⟨v,[],rfl,rp,rfl⟩|(k,q)::fs,us,h=>by
  obtain⟨w,ws,rfl,r,rs⟩:=(show ∃v vs,us=(k,v)::vs/\aj K H m Z q v/\aM K H m Z fs vs from h);show aM K H m Z (if k=f then(k,p)::fs else(k,q)::Y.wo f p fs) (if k=f then(k,v)::ws else(k,w)::jF f v ws);by_cases hk:k=f;·rw[if_pos hk,if_pos hk];exact⟨v,ws,rfl,rp,rs⟩
  ·rw[if_neg hk,if_neg hk];exact⟨w,_,rfl,r,aM.wo rp rs⟩
theorem HW:Yo v (some (.Attribute o f p)) line env=pure false:=by cases v<;>rfl
theorem L8(T:Good X kt g C)(hf:g.xn c f=true)(h1:g.N[i]?=some x)(h2:g.wu x=true)(h3:aQ x=true)(hv:PE X v (tE (af X kt) Z (aa C e))):
  PS X (.Assign [.Attribute (.Name x p) f pos'] v pos) (tS (af X kt) Z (aE C (.mr c f i e))):=by
 refine PS.imp (Kn (yn (Z:=Z) (kt:=kt) T h1 h2 h3) hv HW) ?_;rintro D σ H ⟨m,r,st,ar,as,h⟩;unfold aE at h;refine⟨m,r,st,ar,as,(Ok.bind h).mono λw st1 m1 H1 bH aY h1 vw mj=>?_⟩;refine⟨m1,r,st1,ar.le bH,aY,?_⟩;rw[aa];refine(Ok.bind h1).mono λx st2 m2 H2 dW dU h2 vx rx=>?_;obtain⟨st3,e2,h4,_⟩:=Ok.of (Ok.bind h2) dU;obtain⟨⟨n,fs⟩,e3,e4⟩:=bQ e2;split at e4
 ·rename_i fM;cases e4;obtain⟨a,A,dx,us,rfl,hm,rfl,hs,g1,g2,g3,g4⟩:=AH dU rx e3;obtain⟨A',k1,k2,k3⟩:=T.fld c f hf;rw[show VA X.K Vu c=some (some (.ref A)) from g1] at k1;cases k1;have fc:dx≠a:=by rintro rfl;rw[g2] at g3;cases g3
  obtain⟨xo,By⟩:=dU.write (ho:=.ins A dx (jF f vw us)) (o':=.ins c (wo f w fs)) hs hm λH' e k f=>⟨A,dx,_,g1,e,k _ _ fc g3,(g4.mono f).wo (f _ _ (mj.le dW))⟩;refine⟨a,A,dx,us,rfl,g2,k2,k3,by rw[g4.length];exact fM,?_⟩;exact h4 m2 _ xo By σ (((ar.le bH).le dW).le xo)
 ·cases e4
theorem L9:me X [] (tS (af X kt) Z (ah C [])):=by refine me.imp GD ?_;rintro D σ H ⟨m,r,st,ar,as,h⟩;unfold ah at h;exact Ok.here h as σ ar
theorem HX(h1:PS X x (tS (af X kt) Z (aE C s)))(h2:me X xs (tS (af X kt) Z (ah C ss))):me X (x::xs) (tS (af X kt) Z (ah C (s::ss))):=by refine me.imp (DH h1 h2) ?_;rintro D σ H ⟨m,r,st,ar,as,h⟩;unfold ah at h;refine⟨m,r,st,ar,as,(Ok.bind h).mono λf st1 m1 H1 bH aY h1=>?_⟩;cases f with|nx r1=>exact λcH T6=>⟨m1,r1,st1,T6,aY,h1⟩|bk r1=>exact Ok.here h1 aY|ct r1=>exact Ok.here h1 aY|rt v=>exact Ok.here h1 aY
theorem T7(hc:PT X c (tT (af X kt) Z (bV (aa C ec))))(ha:me X a (tS (af X kt) Z (ah C ea)))(hb:me X b (tS (af X kt) Z (ah C eb))):PS X (.If c a b pos) (tS (af X kt) Z (aE C (.ifs ec ea eb))):=by refine PS.imp (NI hc ha hb) ?_;rintro D σ H ⟨m,r,st,ar,as,h⟩;unfold aE at h;refine⟨m,r,st,ar,as,(Ok.bind h).mono λk st1 m1 H1 bH aY h1=>?_⟩;cases k with|true=>exact⟨m1,r,st1,ar.le bH,aY,h1⟩|false=>exact⟨m1,r,st1,ar.le bH,aY,h1⟩
theorem yz{K:KB}{D:Ends}{st:aI}{k:bU->aI->R Fl}(as:aA K H m Z st)(h:Ok K Z (match f with|.nx r2=>k r2 st|.ct r2=>k r2 st|.bk r2=>R.ok (.nx r2) st|.rt v=>R.ok (.rt v) st) m H (pZ K Z D))(hN:∀r σ,cQ K H m Z r σ->Ok K Z (k r st) m H (pZ K Z D)->N σ H):pZ K Z {D with nx:=N,ct:=N,bk:=D.nx} f st m H:=by cases f with|nx r2=>exact λσ ar=>hN r2 σ ar h|ct r2=>exact λσ ar=>hN r2 σ ar h|bk r2=>exact Ok.here h as|rt v=>exact Ok.here h as
theorem HY(T:fP X kt g C)(hc:PT X c (tT (af X kt) Z (bV (aa C ec))))(hb:me X body (tS (af X kt) Z (ah C eb))):PS X (.While c body [] pos) (tS (af X kt) Z (aE C (.mq ec eb))):=by refine PS.imp (DJ T.own hc hb) ?_;rintro D σ H ⟨m,r,st,ar,as,h⟩;unfold aE at h;refine⟨λn σ H=>∃m r st,cQ (af X kt) H m Z r σ/\aA (af X kt) H m Z st/\Ok (af X kt) Z (ij (bV (aa C ec)) (ah C eb) n r st) m H (pZ (af X kt) Z D),⟨fg,m,r,st,ar,as,h⟩,?_⟩;rintro n σ H ⟨m,r,st,ar,as,h⟩;cases n with|zero=>exact(show False from h).elim|succ n=>rw[ij] at h;refine⟨m,r,st,ar,as,(Ok.bind h).mono λk st1 m1 H1 bH aY h1=>?_⟩;cases k with|false=>exact Ok.here h1 aY σ (ar.le bH)|true=>refine⟨λcH H'=>∃m r st,cQ (af X kt) H' m Z r cH/\aA (af X kt) H' m Z st/\Ok (af X kt) Z (ij (bV (aa C ec)) (ah C eb) n r st) m H' (pZ (af X kt) Z D),λcH H' q=>⟨n,WZ n,q⟩,?_⟩;refine⟨m1,r,st1,ar.le bH,aY,(Ok.bind (show Ok (af X kt) Z ((ah C eb r st1).bind _) m1 H1 _ from h1)).mono λf st2 m2 H2 dW dU h2=>?_⟩;exact yz (k:=λr2 st2=>ij (bV (aa C ec)) (ah C eb) n r2 st2) dU h2 λr2 Nb Gq q=>⟨m2,r2,st2,Gq,dU,q⟩
theorem E4(T:fP X kt g C)(hs:cg iter=false)(hw:PI X tg iter (tW (af X kt) Z (cq C w)))(hg:PG X tg gt)(T8:∀(p:P) (v:V) (m:List Addr) (H:Hp) (r r1:bU) (σ:L2.St) (Q:L2.St->Hp->Prop),aj (af X kt) H m Z p v->cQ (af X kt) H m Z r σ->gU t p r=some r1->(∀cH,cQ (af X kt) H m Z r1 cH->Q cH H)->gt v σ H Q)(hb:me X body (tS (af X kt) Z (ah C eb))):
  PS X (.For tg iter body [] pos) (tS (af X kt) Z (aE C (.fe t w eb))):=by
 refine PS.imp (vS T.own T.calm hw hg hb (λy=>?_)) ?_
 ·cases iter<;>first
   |rfl
   |exact absurd (show true=false from hs) V7.symm
 rintro D σ H ⟨m,r,st,ar,as,h⟩;unfold aE at h;refine⟨m,r,st,ar,as,(Ok.bind h).mono λps st1 m1 H1 bH aY h1 J wk=>?_⟩;refine⟨λi k σ H=>k=ps.length - i/\i<=ps.length/\∃m r st,Le (af X kt) m1 H1 m H/\cQ (af X kt) H m Z r σ/\aA (af X kt) H m Z st/\Ok (af X kt) Z (forL (gU t) (ah C eb) (ps.drop i) r st) m H (pZ (af X kt) Z D),⟨ps.length,by simp,WE _,m1,r,st1,Le.refl,ar.le bH,aY,by rw[X5];exact h1⟩,?_⟩;rintro j k σ H ⟨rfl,hj,m,r,st,le,ar,as,h⟩;obtain⟨w1,w2⟩:=wk m H Z le (λa ha=>.inl ha) j;by_cases fM:j < ps.length;·have Pq:j < ps.length:=fM;obtain⟨go,yl⟩:=w1 ps[j] (Vc Pq);have cR:ps.drop j=ps[j]::ps.drop (j+1):=V8 Pq;rw[cR,forL] at h;refine .inr ⟨go,λcH H'=>∃m r st,Le (af X kt) m1 H1 m H'/\cQ (af X kt) H' m Z r cH/\aA (af X kt) H' m Z st/\Ok (af X kt) Z (forL (gU t) (ah C eb) (ps.drop (j+1)) r st) m H' (pZ (af X kt) Z D),λcH H' q=>⟨ps.length - (j+1),by omega,rfl,fM,q⟩,λy H' hy=>?_⟩;obtain⟨sm,ry'⟩:=yl y H' hy;have AL:Le (af X kt) m H m H':=Le.same sm;replace le:=le.trans AL;replace as:=as.same sm;replace ar:=ar.le AL;cases hr:gU t ps[j] r with|none=>rw[hr] at h;exact(show False from h).elim|some r1=>rw[hr,aq,ae] at h;refine T8 _ _ m H' r r1 σ _ ry' ar hr λcH T6=>⟨m,r1,st,T6,as,(Ok.bind (Ok.le h AL)).mono λf st2 m2 H2 dW dU h3=>?_⟩;exact yz (k:=λr2 st2=>forL (gU t) (ah C eb) (ps.drop (j+1)) r2 st2) dU h3 λr2 Nb Gq q=>⟨m2,r2,st2,le.trans dW,Gq,dU,q⟩
 ·have e:j=ps.length:=by omega
  subst e;rw[ZY,forL] at h;exact .inl ⟨w2 rfl,Ok.here h as σ ar⟩
theorem PJ(T:fP X kt g C)(hi:g.N[i]?=some x)(hl:ir g x=true)(hs:cg iter=false)(hw:PI X (.Name x p) iter (tW (af X kt) Z (cq C w)))(hb:me X body (tS (af X kt) Z (ah C eb))):
  PS X (.For (.Name x p) iter body [] pos) (tS (af X kt) Z (aE C (.fe (.nm i) w eb))):=
 E4 T hs hw (fb (i:=i) (by rw[T.N];exact T.nd) (by rw[T.N];exact hi) (T.wH hl) (T.HR hl)) (λp v m H r r1 σ Q rp ar e q=>by cases e;exact q _ (ar.set rp)) hb
theorem Ma(T:fP X kt g C){p p' p2 pos:Pos}(hi:g.N[i]?=some x)(hl:ir g x=true)(CA:g.N[j]?=some y)(u9:ir g y=true)(hs:cg iter=false)(hw:PI X (.Tuple [.Name x p,.Name y p'] k p2) iter (tW (af X kt) Z (cq C w)))(hb:me X body (tS (af X kt) Z (ah C eb))):
  PS X (.For (.Tuple [.Name x p,.Name y p'] k p2) iter body [] pos) (tS (af X kt) Z (aE C (.fe (.two i j) w eb))):=by
 have nm:∀{z:Str} {a:Nat} {q:Pos},g.N[a]?=some z->ir g z=true->PG X (.Name z q) (rG a):=λ{z a q} h1 h2=>fb (i:=a) (by rw[T.N];exact T.nd) (by rw[T.N];exact h1) (T.wH h2) (T.HR h2);refine E4 T hs hw (zT (n:=2) T.calm (jf (nm hi hl) (jf (nm CA u9) vQ))) (λq v m H r r1 σ Q rp ar e hq=>?_) hb;unfold gU at e;dsimp only at e;split at e;·rename_i a b;cases e;obtain⟨c,us,rfl,hc,v1,vs1,e1,rv1,v2,vs2,e2,TY,e3⟩:=rp;subst e3 e2 e1;exact⟨c,_,rfl,fI.of hc,rfl,v1,[v2],rfl,v2,[],rfl,rfl,hq _ ((ar.set (p:=.d a) (show aj (af X kt) H m Z (.d a) v1 from rv1)).set (p:=.d b) (show aj (af X kt) H m Z (.d b) v2 from TY))⟩
 ·cases e
theorem Mb(T:fP X kt g C)(hi:g.N[i]?=some x)(hl:ir g x=true)(hs:cg iter=false)(hw:PE X iter (tE (af X kt) Z (aa C e)))(hb:me X body (tS (af X kt) Z (ah C eb))):
  PS X (.For (.Name x p) iter body [] pos) (tS (af X kt) Z (aE C (.jm (.nm i) e eb))):=by
 refine PS.imp (vS T.own T.calm (qP hw) (fb (i:=i) (by rw[T.N];exact T.nd) (by rw[T.N];exact hi) (T.wH hl) (T.HR hl)) hb (λy=>?_)) ?_
 ·cases iter<;>first
   |rfl
   |exact absurd (show true=false from hs) V7.symm
 rintro D σ H ⟨m,r,st,ar,as,h⟩;unfold aE at h;refine⟨m,r,st,ar,as,(Ok.bind h).mono λx0 st1 m1 H1 bH aY h1 v rv=>?_⟩;split at h1
 ·rename_i n;obtain⟨a,ha,rfl⟩:=rv;have Pt:∃us,H1 a=some (.lst us):=by have h2:Ok (af X kt) Z (jm n (gU (.nm i)) (ah C eb) (999999+1) 0 r st1) m1 H1 (pZ (af X kt) Z D):=h1;rw[jm] at h2;cases ho:yf n st1 0 with|none=>rw[ho] at h2;exact(show False from h2).elim|some o=>obtain⟨us,hu,_⟩:=oT aY ha ho;exact⟨us,hu⟩
  obtain⟨Pu,Pw⟩:=Pt;refine⟨a,rfl,⟨Pu,.inl (.inl Pw)⟩,?_⟩;refine⟨λj k σ H=>∃m r st,Le (af X kt) m1 H1 m H/\cQ (af X kt) H m Z r σ/\aA (af X kt) H m Z st/\Ok (af X kt) Z (jm n (gU (.nm i)) (ah C eb) k j r st) m H (pZ (af X kt) Z D),⟨fg,m1,r,st1,Le.refl,ar.le bH,aY,h1⟩,?_⟩;rintro j k σ H ⟨m,r,st,le,ar,as,h⟩;have Px:m[n]?=some a:=by obtain⟨t,et⟩:=le.pre;rw[et,Vf (List.getElem?_eq_some_iff.mp ha).1];exact ha
  cases k with|zero=>exact(show False from h).elim|succ k=>rw[jm] at h;cases ho:yf n st j with|none=>rw[ho] at h;exact(show False from h).elim|some o=>rw[ho] at h;obtain⟨us,hu,q0,q1⟩:=oT as Px ho;cases o with|none=>exact .inl ⟨⟨us,.inl (.inl hu),q0 rfl⟩,Ok.here (show Ok (af X kt) Z (R.ok (Fl.nx r) st) m H (pZ (af X kt) Z D) from h) as σ ar⟩|some q=>obtain⟨vx,JN,rx⟩:=q1 q rfl;refine .inr ⟨⟨us,vx,.inl (.inl hu),JN⟩,λcH H'=>∃m r st,Le (af X kt) m1 H1 m H'/\cQ (af X kt) H' m Z r cH/\aA (af X kt) H' m Z st/\Ok (af X kt) Z (jm n (gU (.nm i)) (ah C eb) k (j+1) r st) m H' (pZ (af X kt) Z D),λcH H' z=>⟨k,WZ k,z⟩,λy H' hy=>?_⟩;obtain⟨rfl,hx⟩:=hy;have xi:=hx us (.inl (.inl hu));rw[JN] at xi;cases xi;have h2:Ok (af X kt) Z ((ah C eb (r.set i (some q)) st).bind _) m H' (pZ (af X kt) Z D):=h;refine⟨m,r.set i (some q),st,ar.set rx,as,(Ok.bind h2).mono λf st2 m2 H2 dW dU h3=>?_⟩;exact yz (k:=λr2 st2=>jm n (gU (.nm i)) (ah C eb) k (j+1) r2 st2) dU h3 λr2 Nb Gq q=>⟨m2,r2,st2,le.trans dW,Gq,dU,q⟩
 ·exact(show False from h1).elim
section
variable{K:KB}{H H':Hp}{m:List Addr}
mutual
theorem aF.chg(f:∀a u,H a=some u->(∀o us,u≠.dt o (.dK us))->H' a=some u):∀{x:D} {v:V},aF K H m Z x v->aF K H' m Z x v
 |.bq,_,h=>h|.bl _,_,h=>h|.int _,_,h=>h|.str _,_,h=>h|.tup xs,v,h=>by obtain⟨a,us,e,q,r⟩:=(show ∃a us,v=.ref a/\H a=some (.tup us)/\au K H m Z xs us from h);exact⟨a,us,e,f _ _ q (λ_ _ z=>nomatch z),au.chg f r⟩
 |.pl xs,v,h=>by
  obtain⟨a,us,e,q,hm,hz,r⟩:=(show ∃a us,v=.ref a/\Rd H a (.lst us)/\a∉m/\a∉Z/\au K H m Z xs us from h);refine⟨a,us,e,?_,hm,hz,au.chg f r⟩;rcases q with q|⟨o,q⟩;·exact .inl (f _ _ q (λ_ _ z=>nomatch z))
  ·exact .inr ⟨o,f _ _ q (λ_ _ z=>nomatch z)⟩
theorem au.chg(f:∀a u,H a=some u->(∀o us,u≠.dt o (.dK us))->H' a=some u):∀{xs:List D} {us:List V},au K H m Z xs us->au K H' m Z xs us
 |[],_,h=>h|x::xs,us,h=>by obtain⟨v,vs,e,r,rs⟩:=(show ∃v vs,us=v::vs/\aF K H m Z x v/\au K H m Z xs vs from h);exact⟨v,vs,e,aF.chg f r,au.chg f rs⟩
end
mutual
theorem aj.chg(f:∀a u,H a=some u->(∀o us,u≠.dt o (.dK us))->H' a=some u):∀{x:P} {v:V},aj K H m Z x v->aj K H' m Z x v
 |.d _,_,h=>by rw[aj] at h ⊢;exact aF.chg f h|.obj n,v,h=>by rw[aj] at h ⊢;exact h|.fV ns,v,h=>by
  rw[aj] at h ⊢;obtain⟨a,e,r⟩:=h;refine⟨a,e,?_⟩;rcases r with ⟨o,r⟩|r
  ·exact .inl ⟨o,f _ _ r (λ_ _ z=>nomatch z)⟩
  ·exact .inr r
 |.fn k bj,v,h=>by rw[aj] at h ⊢;obtain⟨a,c,bM,e,q,hc,r⟩:=h;exact⟨a,c,bM,e,q,f _ _ hc (λ_ _ z=>nomatch z),ai.chg f r⟩|.lf k,v,h=>by rw[aj] at h ⊢;obtain⟨a,c,ct,e,q,r⟩:=h;exact⟨a,c,ct,e,f _ _ q (λ_ _ z=>nomatch z),f _ _ r (λ_ _ z=>nomatch z)⟩
theorem ai.chg(f:∀a u,H a=some u->(∀o us,u≠.dt o (.dK us))->H' a=some u):∀{xs:List P} {us:List V},ai K H m Z xs us->ai K H' m Z xs us
 |[],_,h=>h|x::xs,us,h=>by obtain⟨v,vs,e,r,rs⟩:=(show ∃v vs,us=v::vs/\aj K H m Z x v/\ai K H m Z xs vs by rw[ai] at h;exact h);rw[ai];exact⟨v,vs,e,aj.chg f r,ai.chg f rs⟩
end
end
theorem Mc{K:KB}(e1:H1 d=some (.dK us))(hm:m1[n]?=some d)(rs:aM K H1 m1 Z kvs us)(le:Le K m1 (upd H1 d (.dt o (.dK us))) m2 H2)(as:aA K H2 m2 Z st2):H2 d=some (.dt o (.dK us))/\Le K m1 H1 m2 (upd H2 d (.dK us))/\aA K (upd H2 d (.dK us)) m2 Z (st2.set n (.dK kvs))/\∀p v,aj K H2 m2 Z p v->aj K (upd H2 d (.dK us)) m2 Z p v:=by
 have e2:H2 d=some (.dt o (.dK us)):=le.dt _ _ _ aC;have dm:d∈m1:=VC hm;have f:∀a u,H2 a=some u->(∀o us,u≠.dt o (.dK us))->upd H2 d (.dK us) a=some u:=λa u q z=>by rw[aw (λw'=>by rw[w',e2] at q;exact z o us (VT q).symm)];exact q
 have up:∀{a:Addr} {u:HO},H1 a=some u->a≠d->upd H1 d (.dt o (.dK us)) a=some u:=λq z=>by rw[aw z];exact q
 have lf:Le K m1 H1 m2 (upd H2 d (.dK us)):=by
  refine⟨le.pre,λa xs q=>?_,λa u q ha hu=>?_,λa ha=>?_,λa q=>?_,λa q=>?_,λa ob u q=>?_,λa φ q=>?_,λa ps q=>?_⟩;·exact f _ _ (le.tup _ _ (up q (λz=>by rw[z,e1] at q;cases q))) (λ_ _ z=>nomatch z)
  ·have hd:a≠d:=λz=>ha (by rw[z];exact dm);rw[aw hd];exact le.keep _ _ (up q hd) ha hu
  ·rcases le.new a ha with z|z;·exact .inl z
   ·by_cases hd:a=d;·rw[hd];exact .inl dm
    ·rw[aw hd] at z;exact .inr z
  ·by_cases hd:a=d;·rw[hd,aC];exact λz=>nomatch z
   ·rw[aw hd];exact le.qc _ (by rw[aw hd];exact q)
  ·exact lu (λ_ z=>nomatch z) (le.Bp _ (lu (λ_ z=>nomatch z) q))
  ·have hd:a≠d:=λz=>by rw[z,e1] at q;cases q
   rw[aw hd];exact le.dt _ _ _ (up q hd)
  ·exact f _ _ (le.ext _ _ (up q (λz=>by rw[z,e1] at q;cases q))) (λ_ _ z=>nomatch z)
  ·obtain⟨more,w'⟩:=le.fH _ _ (up q (λz=>by rw[z,e1] at q;cases q));exact⟨more,f _ _ w' (λ_ _ z=>nomatch z)⟩
 have HZ:m2[n]?=some d:=by obtain⟨t,et⟩:=le.pre;rw[et,Vf (List.getElem?_eq_some_iff.mp hm).1];exact hm
 refine⟨e2,lf,⟨by rw[WJ];exact as.len,as.nd,λk ob hk=>?_,λb hb=>lu (λ_ z=>nomatch z) (as.zt b hb),as.zm,λt ht=>?_⟩,λp v z=>z.chg f⟩
 ·by_cases Lo:n=k
  ·subst Lo;have fM:n < st2.length:=by rw[<-as.len];exact(List.getElem?_eq_some_iff.mp HZ).1
   rw[VB fM] at hk;cases hk;exact⟨d,HZ,us,aC,rs.mono λp v z=>z.le lf⟩
  ·rw[Ve Lo] at hk;obtain⟨b,q,rr⟩:=as.at_ k ob hk;have hbd:b≠d:=by rintro rfl;obtain⟨l1,e1⟩:=List.getElem?_eq_some_iff.mp HZ;obtain⟨l2,e2⟩:=List.getElem?_eq_some_iff.mp q;exact Lo (kj as.nd l1 l2 (e1.trans e2.symm))
   refine⟨b,q,rr.mono (λb' u iP hu=>?_) λp v z=>z.chg f⟩;rw[aw (λz=>by
    rcases iP with w1|w1;·exact hbd (w1▸z)
    ·rw[z,e2] at w1;cases w1)]
   exact hu
 ·obtain⟨ps,h1,h2⟩:=as.tab t ht;exact⟨ps,f _ _ h1 (λ_ _ z=>nomatch z),fO.same (λa φ z=>f _ _ z (λ_ _ w'=>nomatch w')) h2⟩
theorem pZ.CF{D:Ends}(e1:H1 d=some (.dK us))(hm:m1[n]?=some d)(rs:aM (af X kt) H1 m1 Z kvs us)(nf:NF X d)(le:Le (af X kt) m1 (upd H1 d (.dt o (.dK us))) m2 H2)(as:aA (af X kt) H2 m2 Z st2)(h:∀m' H',Le (af X kt) m1 H1 m' H'->aA (af X kt) H' m' Z (st2.set n (.dK kvs))->pZ (af X kt) Z D fl (st2.set n (.dK kvs)) m' H'):pZ (af X kt) Z (ve X D) fl st2 m2 H2:=by obtain⟨e2,lf,bP,f⟩:=Mc e1 hm rs le as;have q:=h m2 _ lf bP;have ra:∀{r:bU} {σ:L2.St},cQ (af X kt) H2 m2 Z r σ->cQ (af X kt) (upd H2 d (.dK us)) m2 Z r σ:=λA=>⟨A.len,λi p w'=>let ⟨v,x1,x2⟩:=A.at_ i p w';⟨v,x1,f _ _ x2⟩⟩;cases fl with|nx r=>exact λσ A=>⟨d,o,_,e2,nf,q σ (ra A)⟩|bk r=>exact λσ A=>⟨d,o,_,e2,nf,q σ (ra A)⟩|ct r=>exact λσ A=>⟨d,o,_,e2,nf,q σ (ra A)⟩|rt p=>exact λv A=>⟨d,o,_,e2,nf,q v (f _ _ A)⟩
theorem aM.at_{κ:Type}{K:KB}{m:List Addr}:∀{kvs:List (κ×P)} {us:List (κ×V)} {i:Nat} {k:κ} {v:V},aM K H m Z kvs us->us[i]?=some (k,v)->∃p,kvs[i]?=some (k,p)/\aj K H m Z p v
 |[],us,i,k,v,h,e=>by cases (show us=[] from h);simp at e|(q,p)::kvs,us,i,k,v,h,e=>by obtain⟨v',vs,rfl,r,rs⟩:=(show ∃v vs,us=(q,v)::vs/\aj K H m Z p v/\aM K H m Z kvs vs from h);cases i with|zero=>simp at e;obtain⟨rfl,rfl⟩:=e;exact⟨p,rfl,r⟩|succ i=>simpa using aM.at_ rs (by simpa using e)
theorem Md(T:fP X kt g C){p p' p2 ap cp pos:Pos}(hi:g.N[i]?=some x)(hl:ir g x=true)(CA:g.N[j]?=some y)(u9:ir g y=true)(hc:isCall o=false)(hln:(ap.endLine==cp.line)=true)(ho:PE X o (tE (af X kt) Z (aa C a)))(hb:me X body (tS (af X kt) Z (ah C eb))):
  PS X (.For (.Tuple [.Name x p,.Name y p'] k p2) (.Call (.Attribute o "items" ap) [] [] cp) body [] pos) (tS (af X kt) Z (aE C (.CM i j a eb))):=by
 have nm:∀{z:Str} {a:Nat} {q:Pos},g.N[a]?=some z->ir g z=true->PG X (.Name z q) (rG a):=λ{z a q} h1 h2=>fb (i:=a) (by rw[T.N];exact T.nd) (by rw[T.N];exact h1) (T.wH h2) (T.HR h2);refine PS.imp (Hm (vS T.own T.calm (EF ho (oS hc) hln) (zT (n:=2) T.calm (jf (nm hi hl) (jf (nm CA u9) vQ))) hb (λ_=>rfl))) ?_;rintro D σ H ⟨m,r,st,ar,as,h⟩;unfold aE at h;refine⟨m,r,st,ar,as,(Ok.bind h).mono λx0 st1 m1 H1 bH aY h1 v rv=>?_⟩;obtain⟨⟨n,kvs⟩,ek,h2,cR⟩:=Ok.of (Ok.bind h1) aY;clear cR h1;obtain⟨d,us,rfl,pJ,hm,rfl,hu,rs⟩:=BA aY ek rv;dsimp only at h2 pJ hm rs;refine⟨d,us,rfl,hu,λob nf=>?_⟩;obtain⟨lel,asl⟩:=aY.write (ho:=.dt ob (.dK us)) (o':=.vf) pJ hm (λH' e _ f=>⟨ob,us,e⟩);have rsl:aM (af X kt) (upd H1 d (.dt ob (.dK us))) m1 Z kvs us:=rs.mono λp v z=>z.le lel;cases hr:oP i j (ah C eb) kvs r (st1.set n .vf) with
 |ex z s=>rw[hr] at h2;exact(show False from h2).elim|no=>rw[hr] at h2;exact(show False from h2).elim|ok f0 bJ=>
  rw[hr,ae] at h2;have T9:∀m2 H2,Le (af X kt) m1 (upd H1 d (.dt ob (.dK us))) m2 H2->aA (af X kt) H2 m2 Z bJ->pZ (af X kt) Z (ve X D) f0 bJ m2 H2:=λm2 H2 dW dU=>pZ.CF hu hm rs nf dW dU h2;have Ua:Ok (af X kt) Z (oP i j (ah C eb) kvs r (st1.set n .vf)) m1 (upd H1 d (.dt ob (.dK us))) (pZ (af X kt) Z (ve X D)):=by rw[hr];exact λm2 H2 dW dU=>T9 m2 H2 dW dU
  refine⟨λq l σ H=>l=kvs.length - q/\q<=kvs.length/\∃m r st,Le (af X kt) m1 (upd H1 d (.dt ob (.dK us))) m H/\cQ (af X kt) H m Z r σ/\aA (af X kt) H m Z st/\Ok (af X kt) Z (oP i j (ah C eb) (kvs.drop q) r st) m H (pZ (af X kt) Z (ve X D)),⟨kvs.length,by simp,WE _,m1,r,_,Le.refl,(ar.le bH).le lel,asl,by rw[X5];exact Ua⟩,?_⟩;rintro q l σ H ⟨rfl,hq,m,r,st,le,ar,as,h⟩;have hd:H d=some (.dt ob (.dK us)):=le.dt _ _ _ aC;have hlen:us.length=kvs.length:=rs.length.symm▸rfl;by_cases fM:q < kvs.length
  ·have cR:kvs.drop q=kvs[q]::kvs.drop (q+1):=V8 fM;rw[cR,oP] at h;refine .inr ⟨⟨hd,by omega⟩,λcH H'=>∃m r st,Le (af X kt) m1 (upd H1 d (.dt ob (.dK us))) m H'/\cQ (af X kt) H' m Z r cH/\aA (af X kt) H' m Z st/\Ok (af X kt) Z (oP i j (ah C eb) (kvs.drop (q+1)) r st) m H' (pZ (af X kt) Z (ve X D)),λcH H' z=>⟨kvs.length - (q+1),by omega,rfl,fM,z⟩,λw' H' hy=>?_⟩;obtain⟨t,kk,vv,pU,ht,rfl,rfl⟩:=hy;obtain⟨pp,hpp,rp⟩:=rsl.at_ pU;have epp:kvs[q]=(kk,pp):=by have:=Vc fM;rw[hpp] at this;exact(VT this).symm
   rw[epp] at h;have AL:Le (af X kt) m H m (upd H t (.tup [kV kk,vv])):=Le.same (ba ht _);have bP:=as.same (ba ht (.tup [kV kk,vv]));have le':=le.trans AL;refine⟨t,[kV kk,vv],rfl,fI.of aC,rfl,kV kk,[vv],rfl,vv,[],rfl,rfl,?_⟩;have rk:aj (af X kt) (upd H t (.tup [kV kk,vv])) m Z (ye kk) (kV kk):=by cases kk<;>rfl
   refine⟨m,_,st,((ar.le AL).set rk).set (rp.le le'),bP,(Ok.bind (Ok.le h AL)).mono λf st2 m2 H2 dW dU h3=>?_⟩;exact yz (k:=λr2 st2=>oP i j (ah C eb) (kvs.drop (q+1)) r2 st2) dU h3 λr2 Nb Gq z=>⟨m2,r2,st2,le'.trans dW,Gq,dU,z⟩
  ·have e:q=kvs.length:=by omega
   subst e;rw[ZY,oP] at h;exact .inl ⟨⟨hd,by omega⟩,Ok.here h as σ ar⟩
theorem Me(T:fP X kt g C){p p' p2 pe cp pos:Pos}(hi:g.N[i]?=some x)(hl:ir g x=true)(CA:g.N[j]?=some y)(u9:ir g y=true)(hg:g.gl "enumerate"=true)(hs:notStar o=true)(ho:PE X o (tE (af X kt) Z (aa C a)))(hb:me X body (tS (af X kt) Z (ah C eb))):
  PS X (.For (.Tuple [.Name x p,.Name y p'] k p2) (.Call (.Name "enumerate" pe) [o] [] cp) body [] pos) (tS (af X kt) Z (aE C (.jM i j a eb))):=by
 have nm:∀{z:Str} {a:Nat} {q:Pos},g.N[a]?=some z->ir g z=true->PG X (.Name z q) (rG a):=λ{z a q} h1 h2=>fb (i:=a) (by rw[T.N];exact T.nd) (by rw[T.N];exact h1) (T.wH h2) (T.HR h2);refine PS.imp (vS T.own T.calm (EC (T.toGood.glob hg) (T.bl _ (by decide+kernel)) (kH ho sE hs) (bw hs)) (zT (n:=2) T.calm (jf (nm hi hl) (jf (nm CA u9) vQ))) hb (λ_=>rfl)) ?_;rintro D σ H ⟨m,r,st,ar,as,h⟩;unfold aE at h;refine⟨m,r,st,ar,as,?_⟩;show Ok (af X kt) Z (az C [a] r st) m H _;unfold az az;cases hr:aa C a r st with
 |ex x s=>rw[hr] at h;exact h|no=>rw[hr] at h;exact h|ok y0 st1=>
  rw[hr] at h;simp only[ae] at h ⊢;intro m1 H1 bH aY vs iG;obtain⟨v,sH,rfl,rv,e⟩:=(show ∃v sH,vs=v::sH/\aj (af X kt) H1 m1 Z y0 v/\sH=[] from iG);subst e;have h1:=Ok.le h bH;split at h1
  ·rename_i n;obtain⟨a,ha,rfl⟩:=rv;have Pt:∃us,H1 a=some (.lst us):=by have h2:Ok (af X kt) Z (jM n i j (ah C eb) (999999+1) 0 r st1) m1 H1 (pZ (af X kt) Z D):=h1;rw[jM] at h2;cases ho:yf n st1 0 with|none=>rw[ho] at h2;exact(show False from h2).elim|some o=>obtain⟨us,hu,_⟩:=oT aY ha ho;exact⟨us,hu⟩
   obtain⟨Pu,Pw⟩:=Pt;refine⟨a,rfl,⟨Pu,.inl (.inl Pw)⟩,?_⟩;refine⟨λq k σ H=>∃m r st,Le (af X kt) m1 H1 m H/\cQ (af X kt) H m Z r σ/\aA (af X kt) H m Z st/\Ok (af X kt) Z (jM n i j (ah C eb) k q r st) m H (pZ (af X kt) Z D),⟨fg,m1,r,st1,Le.refl,ar.le bH,aY,h1⟩,?_⟩;rintro q k σ H ⟨m,r,st,le,ar,as,h⟩;have Px:m[n]?=some a:=by obtain⟨t,et⟩:=le.pre;rw[et,Vf (List.getElem?_eq_some_iff.mp ha).1];exact ha
   cases k with|zero=>exact(show False from h).elim|succ k=>rw[jM] at h;cases ho:yf n st q with|none=>rw[ho] at h;exact(show False from h).elim|some o=>rw[ho] at h;obtain⟨us,hu,q0,q1⟩:=oT as Px ho;cases o with|none=>exact .inl ⟨⟨us,.inl (.inl hu),q0 rfl⟩,Ok.here (show Ok (af X kt) Z (R.ok (Fl.nx r) st) m H (pZ (af X kt) Z D) from h) as σ ar⟩|some pq=>obtain⟨vx,JN,rx⟩:=q1 pq rfl;refine .inr ⟨⟨us,vx,.inl (.inl hu),JN⟩,λcH H'=>∃m r st,Le (af X kt) m1 H1 m H'/\cQ (af X kt) H' m Z r cH/\aA (af X kt) H' m Z st/\Ok (af X kt) Z (jM n i j (ah C eb) k (q+1) r st) m H' (pZ (af X kt) Z D),λcH H' z=>⟨k,WZ k,z⟩,λw' H' hy=>?_⟩;obtain⟨t,vv,ht,rfl,rfl,hx⟩:=hy;have xi:=hx us (.inl (.inl hu));rw[JN] at xi;cases xi;have AL:Le (af X kt) m H m (upd H t (.tup [.int q,vx])):=Le.same (ba ht _);have bP:=as.same (ba ht (.tup [.int q,vx]));have h2:Ok (af X kt) Z ((ah C eb ((r.set i (some (.d (.int q)))).set j (some pq)) st).bind _) m H (pZ (af X kt) Z D):=h;refine⟨t,[.int q,vx],rfl,fI.of aC,rfl,.int q,[vx],rfl,vx,[],rfl,rfl,?_⟩;refine⟨m,_,st,((ar.le AL).set (p:=.d (.int q)) (v:=.int q) rfl).set (rx.le AL),bP,(Ok.bind (Ok.le h2 AL)).mono λf st2 m2 H2 dW dU h3=>?_⟩;exact yz (k:=λr2 st2=>jM n i j (ah C eb) k (q+1) r2 st2) dU h3 λr2 Nb Gq z=>⟨m2,r2,st2,(le.trans AL).trans dW,Gq,dU,z⟩
  ·exact(show False from h1).elim
theorem E5(h1:HQ g (.two i j) tg=true):∃x y p p' k p2,tg=.Tuple [.Name x p,.Name y p'] k p2/\g.N[i]?=some x/\ir g x=true/\g.N[j]?=some y/\ir g y=true:=by
 unfold HQ at h1;dsimp only at h1;split at h1
 ·split at h1
  ·split at h1
   ·split at h1
    ·split at h1;·simp only[U9,decide_eq_true_eq,Vr] at h1;obtain⟨⟨⟨⟨rfl,h6⟩,h7⟩,h8⟩,h9⟩:=h1;exact⟨_,_,_,_,_,_,rfl,h6,h7,h8,h9⟩
     ·cases h1
    ·cases h1
   ·cases h1
  ·cases h1
 ·cases h1
variable(C) in
def SSt(s:S):Prop:=∀(kt:KT) (X:Cx) (g:G) (x:Stmt) (Z:List Addr),fP X kt g C->zR g s x=true->PS X x (tS (af X kt) Z (aE C s))
variable(C) in
def Ub(s:List S):Prop:=∀(kt:KT) (X:Cx) (g:G) (x:List Stmt) (Z:List Addr),fP X kt g C->oV g s x=true->me X x (tS (af X kt) Z (ah C s))
mutual
theorem Mf:∀s:S,SSt C s
 |.ret e=>λkt X g x Z T h=>by
  rw[zR] at h;dsimp only at h;split at h
  ·split at h;·exact PB (aG e kt X g _ Z T.toGood h).1
   ·cases h
  ·cases h
 |.EG=>λkt X g x Z T h=>by
  rw[zR] at h;dsimp only at h;split at h;·rw[WO] at h;subst h;exact LZ
  ·cases h
 |.set i e=>λkt X g x Z T h=>by
  rw[zR] at h;dsimp only at h;split at h
  ·split at h
   ·split at h;·simp only[U9,decide_eq_true_eq,VL,Vr] at h;obtain⟨⟨⟨⟨rfl,h1⟩,h2⟩,h3⟩,h4⟩:=h;exact E3 T h1 h2 h4 h3
    ·cases h
   ·cases h
  ·cases h
 |.ifs c a b=>λkt X g x Z T h=>by
  rw[zR] at h;dsimp only at h;split at h;·simp only[U9] at h;exact T7 (aG c kt X g _ Z T.toGood h.1.1).2 (dM a kt X g _ Z T h.1.2) (dM b kt X g _ Z T h.2)
  ·cases h
 |.fe t w b=>λkt X g x Z T h=>by
  rw[zR] at h;dsimp only at h;split at h
  ·simp only[U9,VL,Vr] at h;obtain⟨⟨⟨⟨⟨rfl,h1⟩,h2⟩,h3⟩,h4⟩,h5⟩:=h;cases t with
   |tup is=>cases h1|nm i=>
    unfold HQ at h1;dsimp only at h1;split at h1;·simp only[U9,decide_eq_true_eq] at h1;exact PJ T h1.1 h1.2 h4 (wG w kt X g _ _ Z T.toGood h2 λz=>by rw[z] at h5;simp[E1] at h5) (dM b kt X g _ Z T h3)
    ·cases h1
   |two i j=>
    unfold HQ at h1;dsimp only at h1;split at h1
    ·split at h1
     ·split at h1
      ·split at h1
       ·split at h1;·simp only[U9,decide_eq_true_eq,Vr] at h1;obtain⟨⟨⟨⟨rfl,h6⟩,h7⟩,h8⟩,h9⟩:=h1;exact Ma T h6 h7 h8 h9 h4 (wG w kt X g _ _ Z T.toGood h2 λ_=>⟨_,_,_,rfl⟩) (dM b kt X g _ Z T h3)
        ·cases h1
       ·cases h1
      ·cases h1
     ·cases h1
    ·cases h1
  ·cases h
 |.jm t e b=>λkt X g x Z T h=>by
  rw[zR] at h;dsimp only at h;split at h
  ·simp only[U9,VL,Vr] at h;obtain⟨⟨⟨⟨⟨rfl,h1⟩,h2⟩,h3⟩,h4⟩,h5⟩:=h;cases t with
   |tup is=>cases h1|two i j=>cases h5|nm i=>
    unfold HQ at h1;dsimp only at h1;split at h1;·simp only[U9,decide_eq_true_eq] at h1;exact Mb T h1.1 h1.2 h4 (aG e kt X g _ Z T.toGood h2).1 (dM b kt X g _ Z T h3)
    ·cases h1
  ·cases h
 |.CM i j a b=>λkt X g x Z T h=>by
  rw[zR] at h;dsimp only at h;split at h
  ·split at h
   ·split at h;·simp only[U9,decide_eq_true_eq,VL,Vr] at h;obtain⟨⟨⟨⟨⟨⟨⟨⟨rfl,rfl⟩,rfl⟩,h1⟩,rfl⟩,h2⟩,h3⟩,h4⟩,h5⟩:=h;obtain⟨x,y,p,p',k,p2,rfl,h6,h7,h8,h9⟩:=E5 h1;exact Md T h6 h7 h8 h9 h2 h3 (aG a kt X g _ Z T.toGood h4).1 (dM b kt X g _ Z T h5)
    ·cases h
   ·cases h
  ·cases h
 |.jM i j a b=>λkt X g x Z T h=>by
  rw[zR] at h;dsimp only at h;split at h
  ·split at h
   ·split at h
    ·split at h;·simp only[U9,decide_eq_true_eq,VL,Vr] at h;obtain⟨⟨⟨⟨⟨⟨⟨⟨rfl,rfl⟩,rfl⟩,h1⟩,rfl⟩,h2⟩,h3⟩,h4⟩,h5⟩:=h;obtain⟨x,y,p,p',k,p2,rfl,h6,h7,h8,h9⟩:=E5 h1;exact Me T h6 h7 h8 h9 h2 h3 (aG a kt X g _ Z T.toGood h4).1 (dM b kt X g _ Z T h5)
     ·cases h
    ·cases h
   ·cases h
  ·cases h
 |.mq c b=>λkt X g x Z T h=>by
  rw[zR] at h;dsimp only at h;split at h;·simp only[U9,Vr] at h;obtain⟨⟨rfl,h1⟩,h2⟩:=h;exact HY T (aG c kt X g _ Z T.toGood h1).2 (dM b kt X g _ Z T h2)
  ·cases h
 |.expr e=>λkt X g x Z T h=>by
  rw[zR] at h;dsimp only at h;split at h;·simp only[U9,VL] at h;exact L6 h.2 (aG e kt X g _ Z T.toGood h.1).1
  ·cases h
 |.app a e=>λkt X g x Z T h=>by
  rw[zR] at h;dsimp only at h;split at h
  ·split at h
   ·split at h
    ·split at h;·simp only[U9,decide_eq_true_eq,VL,Vr] at h;obtain⟨⟨⟨⟨⟨⟨⟨rfl,rfl⟩,h0⟩,rfl⟩,h1⟩,h2⟩,h3⟩,h4⟩:=h;exact PD h0 h1 (aG a kt X g _ Z T.toGood h2).1 (aG e kt X g _ Z T.toGood h3).1 h4
     ·cases h
    ·cases h
   ·cases h
  ·cases h
 |.put a i e=>λkt X g x Z T h=>by
  rw[zR] at h;dsimp only at h;split at h
  ·split at h
   ·split at h;·simp only[U9,VL,Vr] at h;obtain⟨⟨⟨⟨rfl,h1⟩,h2⟩,h3⟩,h4⟩:=h;exact PH T.toGood h4 (aG a kt X g _ Z T.toGood h1).1 (aG i kt X g _ Z T.toGood h2).1 (aG e kt X g _ Z T.toGood h3).1
    ·cases h
   ·cases h
  ·cases h
 |.oJ i k=>λkt X g x Z T h=>by
  rw[zR] at h;dsimp only at h;split at h;·simp only[U9,decide_eq_true_eq,Vr,WO] at h;obtain⟨⟨⟨⟨⟨rfl,rfl⟩,rfl⟩,rfl⟩,rfl⟩,h6⟩:=h;exact T.oJ i k _ _ _ _ _ h6 Z
  ·cases h
 |.mr c f i e=>λkt X g s Z T h=>by
  rw[zR] at h;dsimp only at h;split at h
  ·split at h
   ·split at h
    ·split at h;·simp only[U9,decide_eq_true_eq,Vr] at h;obtain⟨⟨⟨⟨⟨⟨rfl,rfl⟩,h1⟩,h2⟩,h3⟩,h4⟩,h5⟩:=h;exact L8 T.toGood h1 h2 h3 h4 (aG e kt X g _ Z T.toGood h5).1
     ·cases h
    ·cases h
   ·cases h
  ·cases h
theorem dM:∀s:List S,Ub C s
 |[]=>λkt X g x Z T h=>by
  rw[oV] at h;have:x=[]:=by simpa using h
  rw[this];exact L9
 |s::ss=>λkt X g x Z T h=>by
  rw[oV] at h;dsimp only at h;split at h;·simp only[U9] at h;exact HX (Mf s kt X g _ Z T h.1) (dM ss kt X g _ Z T h.2)
  ·cases h
end
end
section
variable{K:KB}{H H':Hp}{m m1 m2 Z Z1 Z2:List Addr}
mutual
theorem aF.weak(hw:∀a,a∉m1->a∉Z1->a∉m2/\a∉Z2):∀{x:D} {v:V},aF K H m1 Z1 x v->aF K H m2 Z2 x v
 |.bq,_,h=>h|.bl _,_,h=>h|.int _,_,h=>h|.str _,_,h=>h|.tup xs,v,h=>by obtain⟨a,us,e,q,r⟩:=(show ∃a us,v=.ref a/\H a=some (.tup us)/\au K H m1 Z1 xs us from h);exact⟨a,us,e,q,au.weak hw r⟩
 |.pl xs,v,h=>by obtain⟨a,us,e,q,hm,hz,r⟩:=(show ∃a us,v=.ref a/\Rd H a (.lst us)/\a∉m1/\a∉Z1/\au K H m1 Z1 xs us from h);exact⟨a,us,e,q,(hw a hm hz).1,(hw a hm hz).2,au.weak hw r⟩
theorem au.weak(hw:∀a,a∉m1->a∉Z1->a∉m2/\a∉Z2):∀{xs:List D} {us:List V},au K H m1 Z1 xs us->au K H m2 Z2 xs us
 |[],_,h=>h|x::xs,us,h=>by obtain⟨v,vs,e,r,rs⟩:=(show ∃v vs,us=v::vs/\aF K H m1 Z1 x v/\au K H m1 Z1 xs vs from h);exact⟨v,vs,e,aF.weak hw r,au.weak hw rs⟩
end
mutual
theorem aF.nC:∀{x:D} {v:V},Y.nC x=true->aF K H m1 Z1 x v->aF K H m2 Z2 x v
 |.bq,_,_,h=>h|.bl _,_,_,h=>h|.int _,_,_,h=>h|.str _,_,_,h=>h|.tup xs,v,n,h=>by obtain⟨a,us,e,q,r⟩:=(show ∃a us,v=.ref a/\H a=some (.tup us)/\au K H m1 Z1 xs us from h);exact⟨a,us,e,q,au.nC (by simpa[Y.nC] using n) r⟩
 |.pl xs,v,n,h=>by simp[Y.nC] at n
theorem au.nC:∀{xs:List D} {us:List V},Bo xs=true->au K H m1 Z1 xs us->au K H m2 Z2 xs us
 |[],_,_,h=>h|x::xs,us,n,h=>by obtain⟨v,vs,e,r,rs⟩:=(show ∃v vs,us=v::vs/\aF K H m1 Z1 x v/\au K H m1 Z1 xs vs from h);simp only[Bo,U9] at n;exact⟨v,vs,e,aF.nC n.1 r,au.nC n.2 rs⟩
end
mutual
theorem aj.weak(hw:∀a,a∉m1->a∉Z1->a∉m2/\a∉Z2):∀{x:P} {v:V},bW x=true->aj K H m1 Z1 x v->aj K H m2 Z2 x v
 |.d _,_,_,h=>by rw[aj] at h ⊢;exact aF.weak hw h|.obj _,_,n,_=>by simp[bW] at n|.fV _,_,n,_=>by simp[bW] at n|.fn k bj,v,n,h=>by rw[aj] at h ⊢;obtain⟨a,c,bM,e,q,hc,r⟩:=h;exact⟨a,c,bM,e,q,hc,ai.weak hw (by simpa[bW] using n) r⟩
 |.lf k,_,n,_=>by simp[bW] at n
theorem ai.weak(hw:∀a,a∉m1->a∉Z1->a∉m2/\a∉Z2):∀{xs:List P} {us:List V},bZ xs=true->ai K H m1 Z1 xs us->ai K H m2 Z2 xs us
 |[],_,_,h=>h|x::xs,us,n,h=>by rw[ai] at h ⊢;obtain⟨v,vs,e,r,rs⟩:=h;simp only[bZ,U9] at n;exact⟨v,vs,e,aj.weak hw n.1 r,ai.weak hw n.2 rs⟩
end
theorem Uc{st:aI}(as:aA K H m Z st)(r:aj K H m Z p v)(e:wm st p=some q):aj K H [] [] q v/\(isObj p=false->aj K H [] (Z++m) q v):=by
 have hw:∀a,a∉m->a∉Z->a∉([]:List Addr)/\a∉Z++m:=λa h1 h2=>⟨by simp,λz=>by
  rcases Xr.mp z with z|z;·exact h2 z
  ·exact h1 z⟩
 cases p with
 |fV ns=>cases e;rw[aj] at r;exact⟨by rw[aj];exact r,λ_=>by rw[aj];exact r⟩|d x=>cases e;rw[aj] at r;exact⟨by rw[aj];exact aF.bare r,λ_=>by rw[aj];exact aF.weak hw r⟩|obj n=>obtain⟨x,e1,rfl⟩:=gv (show(jN st (.obj n)).map P.d=some q from e);exact⟨by rw[aj];exact kF as e1 r,λz=>nomatch z⟩|fn k bj=>
  have e':(if bZ bj=true then some (P.fn k bj) else none)=some q:=e;split at e'
  ·rename_i hp;cases e';have Cu:bW (.fn k bj)=true:=by simpa[bW] using hp
   exact⟨aj.weak (m1:=m) (Z1:=Z) (λ_ _ _=>⟨by simp,by simp⟩) Cu r,λ_=>aj.weak hw Cu r⟩
  ·cases e'
 |lf k=>cases e
theorem yA{st:aI}(as:aA K H m Z st):∀{ps qs} {vs},ai K H m Z ps vs->gS st ps=some qs->ai K H [] [] qs vs/\(ps.any isObj=false->ai K H [] (Z++m) qs vs)
 |[],qs,vs,r,e=>by cases e;exact⟨r,λ_=>r⟩|p::ps,qs,vs,r,e=>by rw[ai] at r;obtain⟨v,w',rfl,r1,r2⟩:=r;obtain⟨q,e1,e⟩:=bQ (show((wm st p).bind λx=>(gS st ps).map λxs=>x::xs)=some qs from e);obtain⟨q2,e2,rfl⟩:=gv e;obtain⟨i1,i2⟩:=Uc as r1 e1;obtain⟨j1,j2⟩:=yA as r2 e2;refine⟨by rw[ai];exact⟨v,w',rfl,i1,j1⟩,λh=>?_⟩;rw[Xz,Bool.or_eq_false_iff] at h;rw[ai];exact⟨v,w',rfl,i2 h.1,j2 h.2⟩
theorem vz(r:ai K H m Z qs vs):cQ K H m Z (ay N.length qs) (L2.start N vs):=by
 have hl:=r.length;refine⟨by unfold ay L2.start;simp[hl],λi p h=>?_⟩;unfold ay at h;unfold L2.start;by_cases hi:i < qs.length
 ·rw[Vf (by simpa using hi),Vi] at h;cases e:qs[i]? with
  |none=>rw[e] at h;cases h|some q=>
   rw[e] at h;have h':q=p:=by simpa using h
   subst h';obtain⟨v,e1,r1⟩:=r.get e;exact⟨v,by rw[Vf (by rw[Vg,hl];exact hi),Vi,e1];rfl,r1⟩
 ·rw[Vz (by simpa using hi),X4] at h;split at h<;>cases h
theorem aA.Ud{st:aI}(A:aA K H m Z st)(h:a∈m):gH H a≠none:=by
 obtain⟨n,hn,e⟩:=List.mem_iff_getElem.mp h;have DB:n < st.length:=by rw[<-A.len];exact hn
 obtain⟨a',e',r⟩:=A.at_ n st[n] (Vc DB);rw[Vc hn,e] at e';cases e';cases q:H a with|none=>exact absurd q r.qc.1|some u=>rw[bh q λφ z=>r.qc.2.2.2.1 φ (by rw[q,z])];exact λz=>nomatch z
theorem lA(hz:∀a∈Z,gH H a≠none)(ht:∀t∈K.tabs,∃ps,H t.1=some (.fH ps)/\fO H t.2 ps):aA K H [] Z []:=⟨rfl,by simp,λn o h=>by simp at h,hz,λa _=>by simp,ht⟩
theorem Le.outer(le:Le K [] H m' H'):Le K m H m H':=⟨⟨[],by simp⟩,le.tup,λa u h _=>le.keep a u h (by simp),λa h=>.inl h,le.qc,le.Bp,le.dt,le.ext,le.fH⟩
theorem aA.outer{st:aI}(as:aA K H m Z st)(le:Le K [] H m' H')(ht:∀t∈K.tabs,∃ps,H' t.1=some (.fH ps)/\fO H' t.2 ps):aA K H' m Z st:=by
 refine⟨as.len,as.nd,λn o h=>?_,λa h=>le.Bp a (as.zt a h),as.zm,ht⟩;obtain⟨a,q,r⟩:=as.at_ n o h;exact⟨a,q,r.mono (λb u hb hu=>le.keep b u hu (by simp) (λps z=>by
  rcases hb with w1|w1;·subst w1;rw[z] at hu;exact r.qc.2.2.2.2.1 ps hu
  ·rw[w1] at hu;cases hu;cases z)) λp v z=>z.le le.outer⟩
end
structure Info where
 name:Str
 st:Stmt
 N:List Str
 ps:List Str
 F:Fn
section
variable{P:Wf}{w:World}{K:Vm}{mg:Str->Option Value}{base:Heap}{is:List Info}{cs:List (Str×Int)}{ts:List (Str×List (Str×Int))}{a:Nat->Addr}{fd:Nat->Xg}
end
structure CI where
 lam:Bool
 qual:Str
 N:List Str
 ps:List Str
 fr:List Str
 F:Fn
structure KI where
 name:Str
 qt:List Str
 E6:List (Str×Nat)
structure TX where
 is:List (Info×List (Nat×Pos))
 Ue:List CI
 cs:List (Str×Int)
 ts:List (Str×List (Str×Int))
 nf:Nat
 ks:List KI
def TX.Fs(S:TX):List Fn:=S.is.map (·.1.F)++S.Ue.map (·.F)
def TX.ci(S:TX)(k:Nat):Option CI:=if k < S.is.length then none else S.Ue[k - S.is.length]?
def TX.fns(S:TX):List (Str×Nat):=(S.is.take S.nf).map λj=>(j.1.name,j.1.F.np)
theorem TX.E7{S:TX}(h:S.fns[k]?=some (x,n)):k < S.nf/\∃i,S.is[k]?=some i/\(i.1.name,i.1.F.np)=(x,n):=by
 unfold TX.fns at h;rw[Vi,List.getElem?_take] at h;split at h;·rename_i hk;refine⟨hk,?_⟩;cases ej:S.is[k]? with|none=>rw[ej] at h;cases h|some i2=>rw[ej] at h;exact⟨i2,rfl,by simpa using h⟩
 ·cases h
def TX.np(S:TX)(k:Nat):Option Nat:=(S.is[k]?).map (·.1.F.np)
def TX.xn(S:TX)(c f:Str):Bool:=S.ks.any λq=>decide (q.name=c)&&q.qt.any (λx=>decide (x=f))
def TX.zP(S:TX)(k:Nat)(c m:Str)(n:Nat):Bool:=S.ks.any λq=>decide (q.name=c)&&decide (q.E6.lookup m=some k)&&decide (S.np k=some (n+1))
def TX.zQ(S:TX)(k:Nat)(c:Str)(n:Nat):Bool:=S.ks.any λq=>decide (q.name=c)&&decide (q.E6.lookup ("__init__":Str)=some k)&&decide (S.np k=some (n+1))
def lv:Nat->Nat
 |0=>0|n+1=>lv n+2
def TX.q(S:TX)(k:Nat):Str:=((S.ci k).map (·.qual)).getD ""
theorem TX.Mg{S:TX}{ci:CI}(h:S.ci k=some ci):S.Fs[k]?=some ci.F/\S.q k=ci.qual:=by
 unfold TX.ci at h;split at h;·cases h
 ·rename_i hk;refine⟨?_,by unfold TX.q TX.ci;rw[if_neg hk,h];rfl⟩;unfold TX.Fs;rw[Vz (by rw[Vg];omega),Vg,Vi,h];rfl
theorem TX.Ug{S:TX}{k:Nat}(h:S.is[k]?=some i):S.Fs[k]?=some i.1.F:=by unfold TX.Fs;rw[Vf (by rw[Vg];exact(List.getElem?_eq_some_iff.mp h).1),Vi,h];rfl
def AM(ci:CI)(sc:Scope):Bool:=
 decide (sc.kind=.function)&&!sc.isCoroutine&&!sc.isGenerator&&decide ci.N.Nodup&&decide (ci.N.take (ci.ps.length+ci.fr.length)=ci.ps++ci.fr)&&
 ci.ps.all (λx=>decide (sc.names.lookup x=some .local))&&ci.fr.all (λx=>decide (sc.names.lookup x=some .free))&&
 sc.names.all (λy=>decide (y.2≠.cell)&&(decide (y.2≠.free)||decide (y.1∈ci.fr)))&&
 decide (ci.F.np=ci.ps.length+ci.fr.length)&&decide (ci.F.nn=ci.N.length)&&!ci.F.sh
theorem nH(h:AM ci sc=true):kz ci.N ci.ps ci.fr sc/\ci.F.np=ci.ps.length+ci.fr.length/\ci.F.nn=ci.N.length/\ci.F.sh=false:=by unfold AM at h;simp only[U9,decide_eq_true_eq,VL,W2,XJ] at h;obtain⟨⟨⟨⟨⟨⟨⟨⟨⟨⟨h1,h2⟩,h3⟩,h4⟩,h5⟩,h6⟩,h7⟩,h8⟩,h9⟩,h10⟩,h11⟩:=h;exact⟨⟨h1,h2,h3,h4,h5,h6,h7,λy hy=>(h8 y hy).1,λy hy hf=>(h8 y hy).2.resolve_left λz=>z hf⟩,h9,h10,h11⟩
def gC(S:TX)(ci:CI)(sc:Scope):G:={N:=ci.N,names:=sc.names,fns:=S.fns,iq:=S.cs,tabs:=S.ts,xn:=S.xn,zP:=S.zP,zQ:=S.zQ}
def Ia:List S->Option E
 |s::r=>match s with
  |.ret e=>match r with|[]=>some e|_::_=>none
  |_=>none
 |[]=>none
theorem Ib(h:Ia b=some e):b=[.ret e]:=by
 unfold Ia at h;split at h
 ·split at h
  ·split at h;·cases h;rfl
   ·cases h
  ·cases h
 ·cases h
def oW(S:TX)(ci:CI)(pa:Ye)(bo:Expr)(sc:Scope):Bool:=ci.lam&&eZ pa ci.ps&&AM ci sc&&(match Ia ci.F.body with|some e=>cF (gC S ci sc) e bo|none=>false)
def oX(S:TX)(ci:CI)(pa:Ye)(bo:List Stmt)(sc:Scope):Bool:=!ci.lam&&eZ pa ci.ps&&AM ci sc&&oV (gC S ci sc) ci.F.body bo
def E8(S:TX)(ci:CI)(o:Obj)(sc:Scope)(cl:List (Str×Addr))(c:Addr):Prop:=
 (∃pa bo pm ct,o=PySem.W.kla_obj "<lambda>" ci.qual pa bo sc cl pm c ct/\oW S ci pa bo sc=true)\/
 (∃nm pa bo doc pm ct,o=PySem.W.fnMade nm ci.qual pa bo sc cl doc pm c ct/\oX S ci pa bo sc=true)
def nI(S:TX)(B:Heap)(k:Nat)(a c:Addr)(bM:List V):Prop:=∃ci o sc cl,S.ci k=some ci/\B.get? a=some o/\E8 S ci o sc cl c/\Gk B cl ci.fr bM
abbrev mz(S:TX)(K:Vm)(base:Heap)(tabs:List (Addr×List (Pos×Str))):KB:=⟨K,base,tabs,nI S base,λ_ _ _ _ _=>False,S.q⟩
abbrev Rm(S:TX)(base:Heap)(tabs:List (Addr×List (Pos×Str))):KT:={tabs:=tabs,pY:=nI S base,Gp:=λ_ _ _ _ _=>False,yh:=S.q}
section
variable{K1 K2:KB}{H:Hp}{m Z:List Addr}
mutual
theorem aF.kb:∀{x:D} {v:V},aF K1 H m Z x v->aF K2 H m Z x v
 |.bq,_,h=>h|.bl _,_,h=>h|.int _,_,h=>h|.str _,_,h=>h|.tup xs,v,h=>by obtain⟨a,us,e,q,r⟩:=(show ∃a us,v=.ref a/\H a=some (.tup us)/\au K1 H m Z xs us from h);exact⟨a,us,e,q,au.kb r⟩
 |.pl xs,v,h=>by obtain⟨a,us,e,q,hm,hz,r⟩:=(show ∃a us,v=.ref a/\Rd H a (.lst us)/\a∉m/\a∉Z/\au K1 H m Z xs us from h);exact⟨a,us,e,q,hm,hz,au.kb r⟩
theorem au.kb:∀{xs:List D} {us:List V},au K1 H m Z xs us->au K2 H m Z xs us
 |[],_,h=>h|x::xs,us,h=>by obtain⟨v,vs,e,r,rs⟩:=(show ∃v vs,us=v::vs/\aF K1 H m Z x v/\au K1 H m Z xs vs from h);exact⟨v,vs,e,aF.kb r,au.kb rs⟩
end
mutual
theorem aj.kb(hk:K1.K=K2.K)(hq:K1.yh=K2.yh)(hc:∀k a c bM,K1.pY k a c bM->K2.pY k a c bM):∀{x:P} {v:V},bW x=true->aj K1 H m Z x v->aj K2 H m Z x v
 |.d _,_,_,h=>by rw[aj] at h ⊢;exact aF.kb h|.obj _,_,n,_=>by simp[bW] at n|.fV _,_,n,_=>by simp[bW] at n|.fn k bj,v,n,h=>by rw[aj] at h ⊢;obtain⟨a,c,bM,e,q,hx,r⟩:=h;exact⟨a,c,bM,e,hc _ _ _ _ q,by rw[<-hq];exact hx,ai.kb hk hq hc (by simpa[bW] using n) r⟩
 |.lf k,_,n,_=>by simp[bW] at n
theorem ai.kb(hk:K1.K=K2.K)(hq:K1.yh=K2.yh)(hc:∀k a c bM,K1.pY k a c bM->K2.pY k a c bM):∀{xs:List P} {us:List V},bZ xs=true->ai K1 H m Z xs us->ai K2 H m Z xs us
 |[],_,_,h=>h|x::xs,us,n,h=>by rw[ai] at h ⊢;obtain⟨v,vs,e,r,rs⟩:=h;simp only[bZ,U9] at n;exact⟨v,vs,e,aj.kb hk hq hc n.1 r,ai.kb hk hq hc n.2 rs⟩
end
def Ic:P->Bool
 |.fV _=>true|p=>bW p
theorem Mh{st:aI}(h:wm st p=some q):Ic q=true:=by
 cases p with
 |fV ns=>cases h;rfl|d x=>cases h;rfl|obj n=>obtain⟨x,e1,rfl⟩:=gv (show(jN st (.obj n)).map P.d=some q from h);rfl
 |fn k bj=>
  have e':(if bZ bj=true then some (P.fn k bj) else none)=some q:=h;split at e';·rename_i hp;cases e';simpa[Ic,bW] using hp
  ·cases e'
 |lf k=>cases h
theorem BE{st:aI}:∀{ps qs},gS st ps=some qs->∀q∈qs,Ic q=true
 |[],qs,h=>by cases h;exact λq z=>by cases z|p::ps,qs,h=>by
  obtain⟨q,e1,e⟩:=bQ (show((wm st p).bind λx=>(gS st ps).map λxs=>x::xs)=some qs from h);obtain⟨q2,e2,rfl⟩:=gv e;intro x hx;rcases W4.mp hx with z|z;·rw[z];exact Mh e1
  ·exact BE e2 x z
theorem ai.kbA(hk:K1.K=K2.K)(hq:K1.yh=K2.yh)(hc:∀k a c bM,K1.pY k a c bM->K2.pY k a c bM):∀{xs} {us},(∀q∈xs,Ic q=true)->ai K1 H m Z xs us->ai K2 H m Z xs us
 |[],_,_,h=>h|x::xs,us,n,h=>by rw[ai] at h ⊢;obtain⟨v,vs,e,r,rs⟩:=h;refine⟨v,vs,e,?_,ai.kbA hk hq hc (λq hq=>n q (Vb _ hq)) rs⟩;have hx:=n x Vh;cases x with|fV ns=>rw[aj] at r ⊢;rw[<-hk];exact r|d y=>exact aj.kb hk hq hc rfl r|obj y=>cases hx|fn k c=>exact aj.kb hk hq hc hx r|lf k=>cases hx
end
theorem oY(PK:F.nn=N.length){st:aI}(rq:ai kb H m Z qs vs)(as:aA kb H m Z st)(hk:kb.K=X.K)(hq:kb.yh=kt.yh)(hc:∀k a c bM,kb.pY k a c bM->kt.pY k a c bM)(ht:kb.tabs=kt.tabs)(ea:gS st qs=some q2)(er:uu C F q2=some d)(aH:Ok kb Z (sk qs d st) m H (λp _ m' H'=>∀v,aj kb H' m' Z p v->Q v H')):
  ∃Z0,tS (af X kt) Z0 (ah C F.body) {nx:=λ_ H'=>Q .bq H',rt:=Q} (L2.start N vs) H:=by
 obtain⟨r1,r2⟩:=yA as rq ea;have hb:=BE ea;obtain⟨Z0,Rf,rs0,hw⟩:∃Z0:List Addr,(∀b∈Z0,gH H b≠none)/\ai kb H [] Z0 q2 vs/\((qs.any isObj=false/\Z0=Z++m)\/qs.any isObj=true):=by
  cases ho:qs.any isObj with
  |false=>
   refine⟨Z++m,λb hb=>?_,r2 ho,.inl ⟨rfl,rfl⟩⟩;rcases Xr.mp hb with z|z;·exact as.zt b z
   ·exact as.Ud z
  |true=>exact⟨[],(λb hb=>by cases hb),r1,.inr rfl⟩
 have tab:∀t∈(af X kt).tabs,∃ps,H t.1=some (.fH ps)/\fO H t.2 ps:=λt h=>as.tab t (by rw[ht];exact h);refine⟨Z0,[],ay F.nn q2,[],by rw[PK];exact vz (ai.kbA hk hq hc hb rs0),lA Rf tab,?_⟩;unfold uu at er;split at er
 ·cases hx:ah C F.body (ay F.nn q2) [] with
  |ex x s=>rw[hx] at er;cases er|no=>rw[hx] at er;cases er|ok f aJ=>
   rw[hx] at er;intro m' H' le bP;have le0:Le kb [] H m' H':=⟨le.pre,le.tup,le.keep,le.new,le.qc,le.Bp,le.dt,le.ext,le.fH⟩;have fin:∀v,aF kb H' m Z d v->Q v H':=λv rv=>by
    unfold sk at aH;split at aH;·exact(show False from aH).elim
    ·exact aH m H' le0.outer (as.outer le0 (λt h=>bP.tab t (by show t∈kt.tabs;rw[<-ht];exact h))) v rv
   have Uh:qs.any isObj=true->Y.nC d=true:=λz=>by
    unfold sk at aH;split at aH;·exact(show False from aH).elim
    ·rename_i hc;cases hp:Y.nC d with|true=>rfl|false=>rw[z,hp] at hc;exact absurd rfl hc
   cases f with
   |bk r=>cases er|ct r=>cases er|nx r=>cases er;exact λσ _=>fin .bq rfl
   |rt p=>
    have Gr:jN aJ p=some d:=er;intro v rv;apply fin;rcases hw with ⟨_,rfl⟩|ho
    ·have vW:∀b,b∉m'->b∉Z++m->b∉m/\b∉Z:=λb _ h=>⟨λz=>h (VN _ z),λz=>h (Wr _ z)⟩;cases p with
     |fV ns=>cases Gr|fn k c=>cases Gr|lf k=>cases Gr|d x=>cases Gr;exact aF.kb (aF.weak vW rv)|obj j=>
      obtain⟨b,e,rfl⟩:=rv;have h':(match aJ[j]? with|some (.lst xs)=>(bb xs).map D.pl|_=>none)=some d:=Gr;split at h'
      ·rename_i xs hs;obtain⟨b',e',o⟩:=bP.at_ j _ hs;rw[e] at e';cases e';obtain⟨us,hu,rs⟩:=o;obtain⟨ys,hd,rfl⟩:=gv h';have hbn:H b=none:=by
        rcases le.new b (VC e) with z|z;·cases z
        ·exact z
       exact⟨b,us,rfl,.inl hu,λz=>as.O2 z hbn,λz=>as.zt b z (jK hbn),au.kb (au.weak vW (rs.bb hd))⟩
      ·cases h'
    ·have np:=Uh ho;cases p with
     |fV ns=>cases Gr|fn k c=>cases Gr|lf k=>cases Gr|d x=>cases Gr;exact aF.kb (aF.nC np rv)|obj j=>
      have h':(match aJ[j]? with|some (.lst xs)=>(bb xs).map D.pl|_=>none)=some d:=Gr;split at h';·obtain⟨ys,hd,rfl⟩:=gv h';simp[Y.nC] at np
      ·cases h'
 ·cases er
theorem Ie{K:KB}(h:tS K Z (ah C [.ret e]) {nx:=N0,rt:=Q} σ H):tE K Z (aa C e) σ H Q:=by obtain⟨m,r,st,ar,as,h⟩:=h;refine⟨m,r,st,ar,as,?_⟩;rw[ah,aE] at h;cases hx:aa C e r st with|ex x s=>rw[hx] at h;exact h|no=>rw[hx] at h;exact h|ok p aJ=>rw[hx] at h;exact λm' H' le bP=>h m' H' le bP
theorem vA{st:aI}:∀{ps qs},gS st ps=some qs->qs.length=ps.length
 |[],qs,h=>by cases h;rfl|p::ps,qs,h=>by obtain⟨q,e1,e⟩:=bQ (show((wm st p).bind λx=>(gS st ps).map λxs=>x::xs)=some qs from h);obtain⟨q2,e2,rfl⟩:=gv e;rw[Vt,Vt,vA e2]
theorem lB{st:aI}(hF:Fs[k]?=some F)(hs:F.sh=false)(h:Ok kb Z (callC Fs (n+1) k ps st) m H Q):
  ∃q2 d,gS st ps=some q2/\uu (callC Fs n) F q2=some d/\Ok kb Z (sk ps d st) m H Q/\ps.length=F.np:=by
 rw[ik,hF] at h;simp only[hs,VY,if_false] at h;cases ea:gS st ps with
 |none=>rw[ea] at h;exact(show False from h).elim|some q2=>
  rw[ea] at h;simp only at h;cases er:uu (callC Fs n) F q2 with
  |none=>rw[er] at h;exact(show False from h).elim|some d=>
   rw[er] at h;refine⟨q2,d,rfl,er,h,?_⟩;unfold uu at er;split at er;·rename_i hl;rw[<-vA ea];exact hl
   ·cases er
def dj(S:TX)(i:Info×List (Nat×Pos)):List (Pos×Str):=i.2.map λp=>(p.2,S.q p.1)
def freeOk(names:List (Str×XO))(sc:Scope):Bool:=sc.names.all λy=>decide (y.2≠.free)||decide (names.lookup y.1=some .cell)
def CS(S:TX)(i:Info×List (Nat×Pos))(ls:List (Nat×List Nat)):Bool:=ls.all λp=>match S.ci p.1 with|some ci=>decide (p.2.map (λj=>i.1.N[j]?)=ci.fr.map some)&&ci.fr.all λx=>decide ((ax i.1.st).names.lookup x=some .cell)|none=>false
def E9(S:TX)(i:Info×List (Nat×Pos))(k:Nat)(pa:Ye)(bo:Expr)(sc:Scope)(pos:Pos):Bool:=match S.ci k with|some ci=>decide ((k,pos)∈i.2)&&oW S ci pa bo sc&&freeOk (ax i.1.st).names sc&&decide (ci.qual=(i.1.name++".<locals>.")++"<lambda>")|none=>false
def Fb(S:TX)(i:Info×List (Nat×Pos))(j k:Nat)(nm:Str)(pa:Ye)(bo:List Stmt)(sc:Scope)(pos:Pos):Bool:=match S.ci k with|some ci=>decide ((k,pos)∈i.2)&&oX S ci pa bo sc&&freeOk (ax i.1.st).names sc&&decide (ci.qual=(i.1.name++".<locals>.")++nm)&&decide (i.1.N[j]?=some nm)&&(decide ((ax i.1.st).names.lookup nm=some .local)||decide ((ax i.1.st).names.lookup nm=some .cell))|none=>false
def Fc(S:TX)(i:Info×List (Nat×Pos)):G:=match i.2 with|[]=>{N:=i.1.N,names:=(ax i.1.st).names,fns:=S.fns,iq:=S.cs,tabs:=S.ts,xn:=S.xn,zP:=S.zP,zQ:=S.zQ}|_::_=>{N:=i.1.N,names:=(ax i.1.st).names,fns:=[],iq:=S.cs,tabs:=S.ts,O5:=E9 S i,O6:=Fb S i,sA:=λf x n ls=>decide (S.fns[f]?=some (x,n))&&CS S i ls,O7:=λ_ _ _=>false,cv:=false}
def gK(S:TX)(i:Info×List (Nat×Pos)):Bool:=oV (Fc S i) i.1.F.body (lq i.1.st)&&decide (i.1.F.np=i.1.ps.length)&&decide (i.1.F.nn=i.1.N.length)&&(i.2.isEmpty||!i.1.F.sh)
structure wK(K:Vm)(mg:Str->Option Value)(S:TX)(tabs:List (Addr×List (Pos×Str)))(a:Nat->Addr)(fd:Nat->Xg)(cP:Nat->Addr×Addr):Prop where
 fn:∀(k:Nat) (i:Info×List (Nat×Pos)),S.is[k]?=some i->(∃x,oE K x i.1.name i.1.st (a k) (fd k))/\(k < S.nf->mg i.1.name=some (.ref (a k)))/\Binds K (fd k) i.1.ps []/\be i.1.N i.1.ps (ax i.1.st)/\gK S i=true
 bl:∀x∈nF,mg x=none
 cs:∀x i,S.cs.lookup x=some i->∃t,mg x=some (.int i t)
 tb:∀x t,S.ts.lookup x=some t->∃a,mg x=some (.ref a)/\Ox K a t
 cl:∀q∈S.ks,∃A,VA K Vu q.name=some (some (.ref A))/\mg q.name=some (.ref A)/\zM K A/\(∀f∈q.qt,jG K A f)/\(∀m k,q.E6.lookup m=some k->z8 K A m (a k))/\∀k,q.E6.lookup ("__init__":Str)=some k->Mk K A (a k)
 mkr:∀(k:Nat) (i:Info×List (Nat×Pos)),S.is[k]?=some i->i.2≠[]->(fd k).code=.ref (cP k).1/\((cP k).2,dj S i)∈tabs/\Apart (dj S i)/\∀t∈tabs,t.1=(cP k).2->t.2=dj S i
section
variable{P:Wf}{w:World}{K:Vm}{mg:Str->Option Value}{S:TX}{tabs:List (Addr×List (Pos×Str))}{a:Nat->Addr}{fd:Nat->Xg}{cP:Nat->Addr×Addr}
structure jO(mg:Str->Option Value)(S:TX)(cP:Nat->Addr×Addr)(base:Heap):Prop where
 code:∀(k:Nat) (i:Info×List (Nat×Pos)),S.is[k]?=some i->i.2≠[]->Xo base (cP k).1 (cP k).2
 bm:BMain mg base
def kJ(P:Wf)(w:World)(K:Vm)(mg:Str->Option Value)(S:TX)(tabs:List (Addr×List (Pos×Str)))(a:Nat->Addr)(fd:Nat->Xg)(n:Nat)(base:Heap):Prop:=
 ∀(k:Nat) (i:Info×List (Nat×Pos)),S.is[k]?=some i->gJ P w K mg base tX (lv n) (a k) (fd k) i.1.ps (AF (mz S K base tabs) (callC S.Fs n k) i.1.F.np)
def wL(P:Wf)(w:World)(K:Vm)(mg:Str->Option Value)(S:TX)(tabs:List (Addr×List (Pos×Str)))(n:Nat)(base:Heap):Prop:=
 ∀(k:Nat) (b c:Addr) (bM:List V),nI S base k b c bM->∃fd ps,gJ P w K mg base tX (lv n) b fd ps (Pa (mz S K base tabs) (callC S.Fs n k) c (S.q k) bM)/\Binds K fd ps []
theorem Fd(h:nI S base k b c bM):∃oc od fd sl,base.get? b=some ⟨oc,od,.func fd,sl⟩:=by obtain⟨ci,o,sc,cl,_,ho,hf,_⟩:=h;rcases hf with ⟨_,_,_,_,rfl,_⟩|⟨_,_,_,_,_,_,rfl,_⟩<;>exact⟨_,_,_,_,ho⟩
theorem yB(T:wK K mg S tabs a fd cP)(D:kJ P w K mg S tabs a fd n base)(hX:X.prog=P/\X.w=w/\X.K=K/\X.mg=mg/\X.base=base)(hr:cO (lv n+1) X.A)(PL:af X kt=mz S K base tabs):∀(k) (x) (m),S.fns[k]?=some (x,m)->sC X kt (callC S.Fs n k) x m:=by obtain⟨rfl,rfl,rfl,rfl,rfl⟩:=hX;intro j x nn hj;obtain⟨hk,i2,ej,e2⟩:=TX.E7 hj;cases e2;obtain⟨⟨x2,F2⟩,HZ,vd,_⟩:=T.fn j i2 ej;exact⟨⟨lv n,a j,fd j,i2.1.ps,by rw[PL];exact D j i2 ej,hr.mono (Xb _),HZ hk,F2.kp,vd⟩⟩
theorem yC{X:Cx}(T:wK K mg S tabs a fd cP)(hK:X.K=K):∀c f,S.xn c f=true->∃A,VA X.K Vu c=some (some (.ref A))/\zM X.K A/\jG X.K A f:=by subst hK;intro c f h;unfold TX.xn at h;rw[W1] at h;obtain⟨q,hq,h⟩:=h;simp only[U9,decide_eq_true_eq,W1] at h;obtain⟨rfl,f',hf,rfl⟩:=h;obtain⟨A,k1,k2,k3,k4,_⟩:=T.cl q hq;exact⟨A,k1,k3,k4 _ hf⟩
theorem JO(h:S.np k=some n):∃i,S.is[k]?=some i/\i.1.F.np=n:=by unfold TX.np at h;cases ej:S.is[k]? with|none=>rw[ej] at h;cases h|some i=>rw[ej] at h;exact⟨i,rfl,by simpa using h⟩
theorem yD(T:wK K mg S tabs a fd cP)(D:kJ P w K mg S tabs a fd n base)(hX:X.prog=P/\X.w=w/\X.K=K/\X.mg=mg/\X.base=base)(hr:cO (lv n+1) X.A)(PL:af X kt=mz S K base tabs):∀k c m nn,S.zP k c m nn=true->∃A l fa fd ps,VA X.K Vu c=some (some (.ref A))/\zM X.K A/\z8 X.K A m fa/\gJ X.prog X.w X.K X.mg X.base tX l fa fd ps (AF (af X kt) (callC S.Fs n k) (nn+1))/\cO l X.A/\Binds X.K fd ps []:=by obtain⟨rfl,rfl,rfl,rfl,rfl⟩:=hX;intro k c m nn h;unfold TX.zP at h;rw[W1] at h;obtain⟨q,hq,h⟩:=h;simp only[U9,decide_eq_true_eq] at h;obtain⟨⟨rfl,hm⟩,hn⟩:=h;obtain⟨i,ei,en⟩:=JO hn;obtain⟨A,k1,k2,k3,k4,k5,_⟩:=T.cl q hq;obtain⟨_,_,vd,_⟩:=T.fn k i ei;refine⟨A,lv n,a k,fd k,i.1.ps,k1,k3,k5 _ _ hm,?_,hr.mono (Xb _),vd⟩;have:=D k i ei;rw[PL,<-en];exact this
theorem yE(T:wK K mg S tabs a fd cP)(D:kJ P w K mg S tabs a fd n base)(hX:X.prog=P/\X.w=w/\X.K=K/\X.mg=mg/\X.base=base)(hr:cO (lv n+1) X.A)(PL:af X kt=mz S K base tabs):∀k c nn,S.zQ k c nn=true->∃A l fa fd ps,X.mg c=some (.ref A)/\VA X.K Vu c=some (some (.ref A))/\Mk X.K A fa/\gJ X.prog X.w X.K X.mg X.base tX l fa fd ps (AF (af X kt) (callC S.Fs n k) (nn+1))/\cO (l+1) X.A/\Binds X.K fd ps []:=by obtain⟨rfl,rfl,rfl,rfl,rfl⟩:=hX;intro k c nn h;unfold TX.zQ at h;rw[W1] at h;obtain⟨q,hq,h⟩:=h;simp only[U9,decide_eq_true_eq] at h;obtain⟨⟨rfl,hm⟩,hn⟩:=h;obtain⟨i,ei,en⟩:=JO hn;obtain⟨A,k1,k2,k3,k4,k5,k6⟩:=T.cl q hq;obtain⟨_,_,vd,_⟩:=T.fn k i ei;refine⟨A,lv n,a k,fd k,i.1.ps,k2,k1,k6 _ hm,?_,hr,vd⟩;have:=D k i ei;rw[PL,<-en];exact this
theorem Mi(T:wK K mg S tabs a fd cP)(D:kJ P w K mg S tabs a fd n base)(L:wL P w K mg S tabs n base):wL P w K mg S tabs (n+1) base:=by
 intro k b c bM hc;obtain⟨ci,o,sc,cl,Gs,ho,hf,tY⟩:=hc;obtain⟨eF,eq⟩:=TX.Mg Gs;have good:∀(cl:List (Str×Addr)) (A:WN) (outer:List Env) (s:Vv) (H:Hp) (E:XK),kz ci.N ci.ps ci.fr sc->cO (lv n+1) (A.deeper (xV ci.qual sc s.heap.objs.size b (.ref c) cl))->
   fP (JG tX P w K mg base ci.N ci.qual sc b (.ref c) cl A outer s H E).Dt (Rm S base tabs) (gC S ci sc) (callC S.Fs n):=λcl A outer s H E SC hr=>
  {N:=rfl,loc:=λx h=>h,Gm:=λx h=>h,gl:=λx h=>h,calm:=rfl,hu:=by have:=hr.un;show(A.deeper _).units+100 < cLine;omega,bl:=T.bl,
   fn:=yB T D ⟨rfl,rfl,rfl,rfl,rfl⟩ hr rfl,cs:=T.cs,tb:=T.tb,
   pY:=λ_ k' a' c' Mj h'=>⟨Fd h',by obtain⟨f,ps,F,B⟩:=L k' a' c' Mj h';exact⟨lv n,f,ps,F,hr.mono (Xb _),B⟩⟩,
   lam:=λ_ _ _ _ _ h=>absurd (show false=true from h) (by decide),iT:=λ_ _ _ _ h=>absurd (show false=true from h) (by decide),jc:=λ_ _ _ h=>absurd (show false=true from h) (by decide),fld:=yC T rfl,Nj:=yD T D ⟨rfl,rfl,rfl,rfl,rfl⟩ hr rfl,Nk:=yE T D ⟨rfl,rfl,rfl,rfl,rfl⟩ hr rfl,oJ:=λ_ _ _ _ _ _ _ h=>absurd (show false=true from h) (by decide),
   cell:=λx h=>absurd rfl (SC.fT _ (V2 h)),nd:=SC.nd,Rl:=λx h=>absurd rfl (SC.fT _ (V2 h)),own:=aah}
 have len:AM ci sc=true->∀vs H Q E,Pa (mz S K base tabs) (callC S.Fs (n+1) k) c (S.q k) bM vs H Q E->vs.length=ci.ps.length:=λhb vs H Q E h=>by obtain⟨_,m,Z,qs,bj,st,rq,rc,_,h⟩:=h;obtain⟨_,Rn,_,Bg⟩:=nH hb;obtain⟨_,_,_,_,_,hl⟩:=lB eF Bg h;rw[Vy,Rn] at hl;have e1:=rq.length;have e2:=rc.length;have e3:=tY.len;omega
 have core:∀{X:Cx},X.K=K->X.base=base->AM ci sc=true->∀{vs:List V} {H:Hp} {Q:VK} {E:XK},Pa (mz S K base tabs) (callC S.Fs (n+1) k) c (S.q k) bM vs H Q E->
   ∃Z0,tS (af X (Rm S base tabs)) Z0 (ah (callC S.Fs n) ci.F.body) {nx:=λ_ H'=>Q .bq H',rt:=Q} (L2.start ci.N (vs++bM)) H:=λ{X} hK hB hb {vs H Q E} h=>by
  obtain⟨_,m,Z,qs,bj,st,rq,rc,as,h⟩:=h;obtain⟨_,_,hnn,Bg⟩:=nH hb;obtain⟨q2,d,ea,er,h2,_⟩:=lB eF Bg h;exact oY (kb:=mz S K base tabs) hnn (rq.append rc) as hK.symm rfl (λ_ _ _ _ z=>z) rfl ea er h2
 rcases hf with ⟨pa,bo,pm,ct,rfl,aH⟩|⟨nm,pa,bo,doc,pm,ct,rfl,aH⟩
 ·unfold oW at aH;simp only[U9] at aH;obtain⟨⟨⟨_,Ui⟩,hb⟩,Nm⟩:=aH;obtain⟨SC,_⟩:=nH hb;refine⟨_,ci.ps,K3 (k:=lv n+1) ho (λvs H Q E h=>⟨c,rfl,by rw[<-eq];exact h.1⟩) SC tY (len hb) (λA outer s H vs Q E hr h=>?_),Binds.all λus hl=>iQ Ui rfl hl⟩;obtain⟨Z0,ht⟩:=core (X:=JG tX P w K mg base ci.N ci.qual sc b (.ref c) cl A outer s H E) rfl rfl hb h;cases Uj:Ia ci.F.body with|none=>rw[Uj] at Nm;cases Nm|some e=>rw[Uj] at Nm;rw[Ib Uj] at ht;exact⟨_,(aG e _ _ _ bo Z0 (good cl A outer s H E SC hr).toGood Nm).1.Dt,Ie ht⟩
 ·unfold oX at aH;simp only[U9] at aH;obtain⟨⟨⟨_,Ui⟩,hb⟩,Nm⟩:=aH;obtain⟨SC,_⟩:=nH hb;refine⟨_,ci.ps,KZ (k:=lv n+1) ho (λvs H Q E h=>⟨c,rfl,by rw[<-eq];exact h.1⟩) SC tY (len hb) (λA outer s H vs Q E hr h=>?_),Binds.all λus hl=>iQ Ui rfl hl⟩;obtain⟨Z0,ht⟩:=core (X:=JG tX P w K mg base ci.N ci.qual sc b (.ref c) cl A outer s H E) rfl rfl hb h;exact⟨_,(dM ci.F.body _ _ _ bo Z0 (good cl A outer s H E SC hr) Nm).Dt,ht⟩
end
section
variable{K:KB}{H H':Hp}{m Z:List Addr}{P f c:Addr}{bL:List (Pos×Str)}{q:Str}{φ:Heap->Prop}
theorem vB(md:Made H H' P f c bL q φ)(hP:∃ps,H P=some (.fH ps))(h:H b=some u)(hu:∀ps,u≠.fH ps):H' b=some u:=by refine md.keep b u h λz=>?_;obtain⟨ps,e⟩:=hP;rw[z,e] at h;cases h;exact hu ps rfl
theorem made_le(md:Made H H' P f c bL q φ)(hP:∃ps,H P=some (.fH ps)):Le K m H m H':=by
 have kp:=λ{b:Addr} {u:HO} (h:H b=some u) (hu:∀ps,u≠.fH ps)=>vB md hP h hu;have gr:∀b ps,H b=some (.fH ps)->∃more,H' b=some (.fH (ps++more)):=λb ps h=>by
  by_cases hb:b=P;·subst hb;exact md.grow ps h
  ·exact⟨#[],by rw[md.keep b _ h hb];simp⟩
 refine⟨⟨[],by simp⟩,λb xs h=>kp h (λ_ z=>nomatch z),λb u h _ hu=>kp h hu,λb h=>.inl h,λb h=>?_,λb h=>?_,λb o u h=>kp h (λ_ z=>nomatch z),λb ψ h=>kp h (λ_ z=>nomatch z),gr⟩
 ·cases e:H b with
  |none=>exact absurd e h|some u=>
   by_cases hu:∃ps,u=.fH ps;·obtain⟨ps,rfl⟩:=hu;obtain⟨more,e2⟩:=gr b ps e;rw[e2];exact λz=>nomatch z
   ·rw[kp e λps z=>hu ⟨ps,z⟩];exact λz=>nomatch z
 ·cases e:gH H b with
  |none=>exact absurd e h|some u=>
   obtain⟨e1,e2⟩:=kA e;by_cases hu:∃ps,u=.fH ps;·obtain⟨ps,rfl⟩:=hu;obtain⟨more,e3⟩:=gr b ps e1;rw[bh e3 (λ_ z=>nomatch z)];exact λz=>nomatch z
   ·have e3:=kp e1 λps z=>hu ⟨ps,z⟩;by_cases hx:∃ψ,u=.ext ψ;·obtain⟨ψ,rfl⟩:=hx;have:∃q,ψ=dw b q:=VF λz=>e2 ψ rfl λq' e'=>z ⟨q',e'⟩;obtain⟨q',rfl⟩:=this;rw[gk e3];exact λz=>nomatch z
    ·rw[bh e3 λψ z=>hx ⟨ψ,z⟩];exact λz=>nomatch z
theorem BF{st:aI}(as:aA K H m Z st)(md:Made H H' P f c bL q φ)(hP:∃ps,H P=some (.fH ps))(un:∀t∈K.tabs,t.1=P->t.2=bL):aA K H' m Z st:=by
 have le:Le K m H m H':=made_le md hP;refine⟨as.len,as.nd,λn o h=>?_,λb h=>le.Bp b (as.zt b h),as.zm,λt ht=>?_⟩
 ·obtain⟨a,e,r⟩:=as.at_ n o h;exact⟨a,e,r.mono (λb u hb hu=>vB md hP hu λps z=>by
   rcases hb with w1|w1;·subst w1;rw[z] at hu;exact r.qc.2.2.2.2.1 ps hu
   ·rw[w1] at hu;cases hu;cases z) λp v z=>z.le le⟩
 ·by_cases e:t.1=P;·obtain⟨ps,h1,h2⟩:=md.tab;exact⟨ps,by rw[e];exact h1,by rw[un t ht e];exact h2⟩
  ·obtain⟨ps,h1,h2⟩:=as.tab t ht;exact⟨ps,md.keep _ _ h1 e,fO.same le.ext h2⟩
end
abbrev rg(S:TX)(base:Heap)(tabs:List (Addr×List (Pos×Str)))(cells:List (Str×Addr)):KT where
 tabs:=tabs
 pY:=nI S base
 Gp:=λk a c _ h=>∃ci o sc,S.ci k=some ci/\h.get? a=some o/\E8 S ci o sc (iR cells sc.names []) c/\∀x,(x,Vx)∈sc.names->∃c,cells.lookup x=some c
 yh:=S.q
theorem sI{S:TX}:∀(f c) (ct) (g1 g2),(rg S base tabs cells).Gp k f c ct g1->(∀o,g1.get? f=some o->g2.get? f=some o)->(rg S base tabs cells).Gp k f c ct g2:=
 λf c ct g1 g2 ⟨ci,o,sc,h1,h2,h3⟩ hk=>⟨ci,o,sc,h1,hk o h2,h3⟩
section
variable{X:Cx}{S:TX}{base:Heap}{tabs:List (Addr×List (Pos×Str))}{C:Nat->List P->aI->R P}{i:Info×List (Nat×Pos)}{c P:Addr}{Z:List Addr}
theorem vC(hc:∀x,(ax i.1.st).names.lookup x=some .cell->∃c,X.env.cells.lookup x=some c)(h:freeOk (ax i.1.st).names sc=true):∀x,(x,Vx)∈sc.names->∃c,X.env.cells.lookup x=some c:=λx hx=>by
 unfold freeOk at h;rw[W2] at h;have:=h _ hx;simp only[XJ,decide_eq_true_eq] at this;rcases this with z|z;·exact absurd rfl z
 ·exact hc x z
theorem PM(hB:X.base=base)(M:Maker X c P (dj S i))(hP:(P,dj S i)∈tabs)(un:∀t∈tabs,t.1=P->t.2=dj S i)(hq:X.env.qual=i.1.name++".<locals>.")(hc:∀x,(ax i.1.st).names.lookup x=some .cell->∃c,X.env.cells.lookup x=some c)(h:E9 S i k pa bo sc pos=true):PE X (.Lambda pa bo sc pos) (tE (af X (rg S base tabs X.env.cells)) Z (aa C (.lam k))):=by
 unfold E9 at h;split at h
 ·rename_i ci Gs;simp only[U9,decide_eq_true_eq] at h;obtain⟨⟨⟨h1,h2⟩,h3⟩,h4⟩:=h;have eq:S.q k=X.env.qual++"<lambda>":=by rw[(TX.Mg Gs).2,h4,hq]
  have hs:(pos,X.env.qual++"<lambda>")∈dj S i:=by rw[<-eq];exact W8.mpr ⟨(k,pos),h1,rfl⟩
  have qT:=h2;unfold oW at qT;simp only[U9] at qT;have fr:=vC (X:=X) hc h3;refine PE.imp (La (φ:=λf c ct=>(rg S base tabs X.env.cells).Gp k f c ct) M hs (kB qT.1.1.2 X.env).1 (lW fr) (λf c ct hh e=>⟨ci,_,sc,Gs,e,.inl ⟨pa,bo,_,ct,by rw[h4,<-hq],h2⟩,fr⟩) (λf c ct g1 g2=>sI f c ct g1 g2)) ?_;rintro σ H Q ⟨m,r,st,ar,as,h⟩;rw[aa] at h;obtain⟨ps,e1,e2⟩:=as.tab _ hP;refine⟨ps,e1,e2,λf c ct H' md=>?_⟩;refine h m H' (made_le md ⟨ps,e1⟩) (BF as md ⟨ps,e1⟩ un) (.ref f) ?_;rw[aj];exact⟨f,c,ct,rfl,md.fn,by show H' c=some (.ext (dw c (S.q k)));rw[eq];exact md.code⟩
 ·cases h
theorem Ml(hB:X.base=base)(M:Maker X c P (dj S i))(hP:(P,dj S i)∈tabs)(un:∀t∈tabs,t.1=P->t.2=dj S i)(hq:X.env.qual=i.1.name++".<locals>.")(hc:∀x,(ax i.1.st).names.lookup x=some .cell->∃c,X.env.cells.lookup x=some c)(hN:X.N=i.1.N)(nd:i.1.N.Nodup)(Mm:X.env.scope=ax i.1.st)(Dr:∀x,X.fn x=true)(h:Fb S i j k nm pa bo sc pos=true):PS X (.FunctionDef nm pa bo [] none [] sc none nm pos) (tS (af X (rg S base tabs X.env.cells)) Z (aE C (.oJ j k))):=by
 unfold Fb at h;split at h
 ·rename_i ci Gs;simp only[U9,decide_eq_true_eq,XJ] at h;obtain⟨⟨⟨⟨⟨h1,h2⟩,h3⟩,h4⟩,h5⟩,h6⟩:=h;have Es:Loc X.env.scope nm:=by rw[Mm];exact h6
  have qe:Y3 X.env nm nm=X.env.qual++nm:=by unfold Y3;rw[if_neg];show ¬((X.env.scope.names.lookup nm==some XO.globalExplicit)=true);rw[Mm];rcases h6 with z|z<;>rw[z]<;>decide
  have eq:S.q k=Y3 X.env nm nm:=by rw[(TX.Mg Gs).2,h4,qe,hq]
  have hs:(pos,Y3 X.env nm nm)∈dj S i:=by rw[<-eq];exact W8.mpr ⟨(k,pos),h1,rfl⟩
  have qT:=h2;unfold oX at qT;simp only[U9] at qT;have fr:=vC (X:=X) hc h3;have dp:=kB qT.1.1.2 X.env;refine PS.imp (Lc (φ:=λf c ct=>(rg S base tabs X.env.cells).Gp k f c ct) M hs dp.2.1 dp.2.2 (CD qT.1.1.2 X.env) (lW fr) (by rw[hN];exact nd) (by rw[hN];exact h5) Es (.inl (Dr nm))
   (λf c ct doc hh e=>⟨ci,_,sc,Gs,e,.inr ⟨nm,pa,bo,doc,_,ct,by rw[h4,<-hq,<-qe],h2⟩,fr⟩) (λf c ct g1 g2=>sI f c ct g1 g2)) ?_
  rintro D σ H ⟨m,r,st,ar,as,h⟩;rw[aE] at h;obtain⟨ps,e1,e2⟩:=as.tab _ hP;refine⟨ps,e1,e2,λf c ct H' md=>?_⟩;have le:Le (af X (rg S base tabs X.env.cells)) m H m H':=made_le md ⟨ps,e1⟩;refine h m H' le (BF as md ⟨ps,e1⟩ un) _ ((ar.le le).set ?_);rw[aj];exact⟨f,c,ct,rfl,md.fn,by show H' c=some (.ext (dw c (S.q k)));rw[eq];exact md.code⟩
 ·cases h
end
theorem Gk.keeps(C:Gk B cl F bM)(k:∀b o,B.get? b=some o->B'.get? b=some o):Gk B' cl F bM:=
 ⟨C.inj,C.only,λi x v h1 h2=>by obtain⟨c,u,a,b,d⟩:=C.at_ i x v h1 h2;exact⟨c,u,a,b.keeps k,d⟩,C.len⟩
theorem nI.keeps{S:TX}(h:nI S B k a c bM)(kp:∀b o,B.get? b=some o->B'.get? b=some o):nI S B' k a c bM:=by obtain⟨ci,o,sc,cl,h1,h2,h3,h4⟩:=h;exact⟨ci,o,sc,cl,h1,kp _ _ h2,h3,Gk.keeps h4 kp⟩
theorem CT{S:TX}(h:E8 S ci o sc cl c):AM ci sc=true/\∃fd,o.data=.func fd:=by
 rcases h with ⟨pa,bo,pm,ct,rfl,aH⟩|⟨nm,pa,bo,doc,pm,ct,rfl,aH⟩
 ·unfold oW at aH;simp only[U9] at aH;exact⟨aH.1.2,_,rfl⟩
 ·unfold oX at aH;simp only[U9] at aH;exact⟨aH.1.2,_,rfl⟩
theorem BG{α:Type}{x:α}:∀{l:List (Nat×α)},l.lookup k=some x->(k,x)∈l
 |[],h=>by cases h|(j,y)::l,h=>by rw[VG] at h;cases hb:k==j with|true=>rw[hb] at h;cases h;rw[eq_of_beq hb];exact Vh|false=>rw[hb] at h;exact Vb _ (BG h)
theorem Mn(h:Rd H a (.lst us)):Rd (gH H) a (.lst us):=by
 rcases h with h|⟨o,h⟩;·exact .inl (bh h (λ_ z=>nomatch z))
 ·exact .inr ⟨o,bh h (λ_ z=>nomatch z)⟩
section
variable{X:Cx}{S:TX}{base:Heap}{tabs:List (Addr×List (Pos×Str))}{C:Nat->List P->aI->R P}{i:Info×List (Nat×Pos)}{Z:List Addr}{pins:List (Addr×Obj)}{σ:L2.St}{H:Hp}{s:Vv}{ls:List (Nat×List Nat)}{r:bU}
theorem aj.PN(hk:K1.K=K2.K)(hq:K1.yh=K2.yh)(hc:∀k a c bM,K1.pY k a c bM->K2.pY k a c bM)(hp:bW x=true)(h:aj K1 H [] Z x v):aj K2 (L2.gH H) [] Z x v:=by
 have h1:aj K2 H [] Z x v:=aj.kb hk hq hc hp h;have go:∀n:Nat,(∀(x:P) (v:V),sizeOf x<=n->bW x=true->aj K2 H [] Z x v->aj K2 (L2.gH H) [] Z x v)/\(∀(xs:List P) (vs:List V),sizeOf xs<=n->bZ xs=true->ai K2 H [] Z xs vs->ai K2 (L2.gH H) [] Z xs vs):=λn=>by
  induction n with
  |zero=>
   refine⟨λx v hs=>?_,λxs vs hs=>?_⟩;·cases x<;>simp at hs
   ·cases xs<;>simp at hs
  |succ n ih=>
   refine⟨λx v hs hp h=>?_,λxs vs hs hp h=>?_⟩;·cases x with|d y=>rw[aj] at h ⊢;exact aF.congr (λa us e=>bh e (λ_ z=>nomatch z)) (λa us _ _ e=>Mn e) h|obj y=>simp[bW] at hp|fV y=>simp[bW] at hp|lf y=>simp[bW] at hp|fn k bj=>rw[aj] at h ⊢;obtain⟨a,c,bM,e,q,hx,rr⟩:=h;exact⟨a,c,bM,e,q,gk hx,ih.2 bj bM (by simp at hs;omega) (by simpa[bW] using hp) rr⟩
   ·cases xs with|nil=>exact h|cons x xs=>rw[ai] at h ⊢;obtain⟨v,sH,e,rr,rs⟩:=h;simp only[bZ,U9] at hp;simp at hs;exact⟨v,sH,e,ih.1 x v (by omega) hp.1 rr,ih.2 xs sH (by omega) hp.2 rs⟩
 exact(go (sizeOf x)).1 x v (Vj _) hp h1
theorem Fe(I:Inv X pins σ H s)(hB:X.base=base)(Dr:∀x,X.fn x=true)(hN:X.N=i.1.N)(Mm:X.env.scope=ax i.1.st)(Uk:CS S i ls=true)(ar:cQ (af X (rg S base tabs X.env.cells)) H [] Z r σ):
  ∀(n) (p q) (v),conv ls r n p=some q->aj (af X (rg S base tabs X.env.cells)) H [] Z p v->aj (mz S X.K (qj s.heap H (jC X.stack)) tabs) (L2.gH H) [] Z q v:=by
 have kp:∀b o,base.get? b=some o->(qj s.heap H (jC X.stack)).get? b=some o:=λb o e=>I.Ew (by rw[hB];exact e);have PQ:∀k a c bM,(af X (rg S base tabs X.env.cells)).pY k a c bM->(mz S X.K (qj s.heap H (jC X.stack)) tabs).pY k a c bM:=λk a c bM h=>nI.keeps h kp;intro n;induction n with
 |zero=>intro p q v h;cases h|succ n ih=>
  intro p q v h hr;cases p with
  |d x=>cases h;exact aj.PN (K1:=af X (rg S base tabs X.env.cells)) (K2:=mz S X.K (qj s.heap H (jC X.stack)) tabs) rfl rfl PQ rfl hr|fV ns=>
   cases h;rw[aj] at hr ⊢;obtain⟨a,e,hf⟩:=hr;refine⟨a,e,?_⟩;rcases hf with ⟨o,hf⟩|hf
   ·exact .inl ⟨o,bh hf (λ_ z=>nomatch z)⟩
   ·exact .inr hf
  |obj k=>cases h|fn k bj=>
   have h':(if bZ bj=true then some (P.fn k bj) else none)=some q:=h;split at h';·rename_i hp;cases h';exact aj.PN (K1:=af X (rg S base tabs X.env.cells)) (K2:=mz S X.K (qj s.heap H (jC X.stack)) tabs) rfl rfl PQ (by simpa[bW] using hp) hr
   ·cases h'
  |lf k=>
   have h':((ls.lookup k).bind λjs=>(js.mapM λj=>((r[j]?).join).bind (conv ls r n)).map λbj=>P.fn k bj)=some q:=h;obtain⟨js,e1,h2⟩:=bQ h';obtain⟨bj,e2,rfl⟩:=gv h2;rw[aj] at hr;obtain⟨a,c,ct,rfl,ha,TH⟩:=hr;obtain⟨hφ,_,_⟩:=I.aH a _ ha;obtain⟨ci,o,sc,Gs,ho,Cr,xy⟩:=hφ;obtain⟨hcb,fd0,hfd⟩:=CT Cr;obtain⟨SC,_⟩:=nH hcb;have hfx:Ay a ((af X (rg S base tabs X.env.cells)).Gp k a c ct):=λq' e=>by have PR:=(I.aH a _ ha).1;rw[e] at PR;obtain⟨c2,o2,vs2,t2,e2,Gi,hd2,_⟩:=PR;cases e2;rw[ho] at Gi;cases Gi;rw[hfd] at hd2;cases hd2
   have anf:∀{b:Addr},H b≠none->b∉jC X.stack:=λ{b} hb z=>hb (I.m5 b z);have aH:=W2.mp (show(ls.all _)=true from Uk) (k,js) (BG e1);simp only[Gs,U9,decide_eq_true_eq,W2] at aH;obtain⟨SQ,Mo⟩:=aH;have key:∀(js:List Nat) (fr:List Str) (bj:List P),js.map (λj=>i.1.N[j]?)=fr.map some->(∀x∈fr,(ax i.1.st).names.lookup x=some .cell)->(js.mapM λj=>((r[j]?).join).bind (conv ls r n))=some bj->
     ∃bM,ai (mz S X.K (qj s.heap H (jC X.stack)) tabs) (L2.gH H) [] Z bj bM/\bM.length=fr.length/\∀(l:Nat) (x:Str) (v:V),fr[l]?=some x->bM[l]?=some v->∃c u,X.env.cells.lookup x=some c/\(qj s.heap H (jC X.stack)).IsCell c (some u)/\RelV v u:=by
    intro js;induction js with
    |nil=>intro fr bj hj _ hm;cases fr with|cons x fr=>simp at hj|nil=>simp at hm;subst hm;exact⟨[],by rw[ai],rfl,λl x v h=>by simp at h⟩
    |cons j js ihj=>
     intro fr bj hj tY hm;cases fr with
     |nil=>simp at hj|cons x fr=>
      rw[Vo,Vo] at hj;injection hj with hj1 Ul;rw[List.mapM_cons] at hm;obtain⟨q1,hq1,HZ⟩:=bQ (show(((r[j]?).join).bind (conv ls r n)).bind _=some bj from hm);obtain⟨qs,hqs,hm3⟩:=bQ (show(js.mapM λj=>((r[j]?).join).bind (conv ls r n)).bind _=some bj from HZ);cases (show some (q1::qs)=some bj from hm3);obtain⟨pj,PU,hcj⟩:=bQ hq1;have e':r[j]?=some (some pj):=by cases z:r[j]? with|none=>rw[z] at PU;cases PU|some o=>rw[z] at PU;simp at PU;rw[PU]
      obtain⟨vj,ej,rj⟩:=ar.at_ j pj e';obtain⟨bM,r1,r2,r3⟩:=ihj fr qs Ul (λy hy=>tY y (Vb _ hy)) hqs;have m7:=tY x Vh;have DX:X.env.kindOf x=some .cell:=by show X.env.scope.names.lookup x=_;rw[Mm];exact m7
      obtain⟨mm,hn,hl⟩:=I.loc;obtain⟨u,ru,lk⟩:=hl j x vj (by rw[hN];exact hj1) ej (.inr (.inl (by rw[Mm];exact m7)));refine⟨vj::bM,by rw[ai];exact⟨vj,bM,rfl,ih pj q1 vj hcj rj,r1⟩,by simp[r2],λl y v hy hv=>?_⟩;cases l with
      |succ l=>exact r3 l y v (by simpa using hy) (by simpa using hv)|zero=>
       simp at hy hv;subst hy;subst hv;rcases lk with ⟨hk,_⟩|⟨_,c',A6,Mp⟩
       ·rw[DX] at hk;cases hk
       ·refine⟨c',u,A6,?_,ru⟩;obtain⟨oc,J9,hdc⟩:=Mp;refine⟨oc,we J9 (jK (I.jX x c' A6)) λz=>?_,hdc⟩;rcases W4.mp (I.ot c' z) with w1|w1;·exact I.Ji x c' A6 w1
        ·obtain⟨_,o3,ho3,_⟩:=I.ok.ma.mem w1;exact W3 _ (VI (Vs ho3) (I.ok.J8 x c' (Dr x) A6))
   obtain⟨bM,k1,k2,k3⟩:=key js ci.fr bj SQ Mo e2;rw[aj];refine⟨a,c,bM,rfl,⟨ci,o,sc,_,Gs,we ho (wd ha hfx) (anf (by rw[ha];exact λz=>nomatch z)),Cr,?_⟩,gk TH,k1⟩;have look:∀x,(x,Vx)∈sc.names->(iR X.env.cells sc.names []).lookup x=X.env.cells.lookup x:=λx hx=>(jL (x:=x) (acc:=[]) xy).1 hx;have Mq:∀x,(x,Vx)∉sc.names->(iR X.env.cells sc.names []).lookup x=none:=λx hx=>(jL (x:=x) (acc:=[]) xy).2 hx;have Um:∀x c,(iR X.env.cells sc.names []).lookup x=some c->(x,Vx)∈sc.names:=λx c h=>VF λz=>by rw[Mq x z] at h;cases h
   refine⟨λx y c' h1 h2=>?_,λx c' h=>SC.OS _ (Um x c' h) rfl,λl x v h1 h2=>?_,k2⟩;·rw[look x (Um x c' h1)] at h1;rw[look y (Um y c' h2)] at h2;exact I.ok.inj x y c' h1 h2
   ·obtain⟨c',u,g1,g2,g3⟩:=k3 l x v h1 h2;exact⟨c',u,by rw[look x (V2 (SC.fre x (VC h1)))];exact g1,g2,g3⟩
end
theorem CU(h:H b=H' b):gH H b=gH H' b:=by unfold gH;rw[h]
section
variable{K1 K2:KB}{H1 H2:Hp}{m Z:List Addr}
theorem lC(hn:∀b φ,H1 b=some (.ext φ)->Ay b φ->H2 b=none)(h:H2 b=some u):xW H1 H2 b=some u:=by rw[r6 λφ z hf=>by rw[hn b φ z hf] at h;cases h];exact h
theorem Ff(hn:∀b φ,H1 b=some (.ext φ)->Ay b φ->H2 b=none)(h:gH H2 b≠none):gH (xW H1 H2) b≠none:=by have e:xW H1 H2 b=H2 b:=r6 λφ z hf=>h (jK (hn b φ z hf));rw[CU e];exact h
theorem PV(hn:∀b φ,H1 b=some (.ext φ)->Ay b φ->H2 b=none)(le:Le K1 [] (gH H1) [] H2):Le K2 [] H1 [] (xW H1 H2):=by
 have mono:=λ{b:Addr} {u:HO} (h:H2 b=some u)=>lC hn h;have ext:∀b φ,H1 b=some (.ext φ)->xW H1 H2 b=some (.ext φ):=λb φ e=>by
  by_cases hf:Ay b φ;·exact Bl e hf
  ·have:∃q,φ=dw b q:=VF λz=>hf λq' e'=>z ⟨q',e'⟩;obtain⟨q,rfl⟩:=this;exact mono (le.ext _ _ (gk e))
 have keep:∀b u,H1 b=some u->(∀ps,u≠.fH ps)->xW H1 H2 b=some u:=λb u e hu=>by
  by_cases hx:∃φ,u=.ext φ;·obtain⟨φ,rfl⟩:=hx;exact ext b φ e
  ·exact mono (le.keep _ _ (bh e λφ z=>hx ⟨φ,z⟩) (by simp) hu)
 have fH:∀b ps,H1 b=some (.fH ps)->∃more,xW H1 H2 b=some (.fH (ps++more)):=λb ps e=>by obtain⟨more,e2⟩:=le.fH b ps (bh e (λ_ z=>nomatch z));exact⟨more,mono e2⟩
 refine⟨⟨[],rfl⟩,λb xs e=>keep b _ e (λ_ z=>nomatch z),λb u e _ hu=>keep b u e hu,(λb h=>nomatch h),λb h=>?_,λb h=>?_,λb o u e=>keep b _ e (λ_ z=>nomatch z),ext,fH⟩
 ·cases e:H1 b with
  |none=>exact absurd e h|some u=>
   by_cases hu:∃ps,u=.fH ps;·obtain⟨ps,rfl⟩:=hu;obtain⟨more,e2⟩:=fH b ps e;rw[e2];exact λz=>nomatch z
   ·rw[keep b u e λps z=>hu ⟨ps,z⟩];exact λz=>nomatch z
 ·refine Ff hn (le.Bp b ?_);cases e:gH H1 b with
  |none=>exact absurd e h|some o=>
   obtain⟨_,e2⟩:=kA e;by_cases hx:∃φ,o=.ext φ;·obtain⟨φ,rfl⟩:=hx;have:∃q,φ=dw b q:=VF λz=>e2 φ rfl λq' e'=>z ⟨q',e'⟩;obtain⟨q,rfl⟩:=this;rw[gk e];exact λz=>nomatch z
   ·rw[bh e λφ z=>hx ⟨φ,z⟩];exact λz=>nomatch z
theorem PX(ht:K1.tabs=K2.tabs)(hn:∀b φ,H1 b=some (.ext φ)->Ay b φ->H2 b=none)(as:aA K1 H2 [] Z []):aA K2 (xW H1 H2) [] Z []:=
 lA (λb h=>Ff hn (as.zt b h)) λt h=>by obtain⟨ps,e1,e2⟩:=as.tab t (by rw[ht];exact h);exact⟨ps,lC hn e1,fO.same (λb φ e=>lC hn e) e2⟩
theorem Mr(hn:∀b φ,H1 b=some (.ext φ)->Ay b φ->H2 b=none)(h:aF K1 H2 [] Z x v):aF K2 (xW H1 H2) [] Z x v:=
 aF.congr (λb us e=>lC hn e) (λb us _ _ e=>by
  rcases e with e|⟨o,e⟩;·exact .inl (lC hn e)
  ·exact .inr ⟨o,lC hn e⟩) (aF.kb h)
end
theorem Fg{st:aI}(h:Ok kb Z (lX c o st) m H Q):∃qs x,o=some qs/\st=[]/\c qs []=.ok (.d x) []/\Ok kb Z (R.ok (P.d x) []) m H Q:=by
 unfold lX at h;split at h
 ·rename_i qs;cases hx:c qs [] with
  |ex x s=>rw[hx] at h;exact(show False from h).elim|no=>rw[hx] at h;exact(show False from h).elim|ok p st2=>
   rw[hx,ae] at h;split at h;·rename_i x;exact⟨qs,x,rfl,rfl,hx,h⟩
   ·exact(show False from h).elim
 ·exact(show False from h).elim
section
variable{X:Cx}{S:TX}{base:Heap}{tabs:List (Addr×List (Pos×Str))}{i:Info×List (Nat×Pos)}{Z:List Addr}{pins:List (Addr×Obj)}{σ:L2.St}{H:Hp}{s:Vv}{ls:List (Nat×List Nat)}{r:bU}
theorem vD(cr:∀(p q:P) (v:V),conv ls r 3 p=some q->aj (af X (rg S base tabs X.env.cells)) H [] Z p v->aj (mz S X.K (qj s.heap H (jC X.stack)) tabs) (L2.gH H) [] Z q v):
  ∀{ps qs} {vs},ps.mapM (conv ls r 3)=some qs->ai (af X (rg S base tabs X.env.cells)) H [] Z ps vs->ai (mz S X.K (qj s.heap H (jC X.stack)) tabs) (L2.gH H) [] Z qs vs
 |[],qs,vs,h,rr=>by simp at h;subst h;rw[ai] at rr ⊢;exact rr|p::ps,qs,vs,h,rr=>by rw[List.mapM_cons] at h;obtain⟨q1,e1,h2⟩:=bQ (show(conv ls r 3 p).bind _=some qs from h);obtain⟨q2,e2,h3⟩:=bQ (show(ps.mapM (conv ls r 3)).bind _=some qs from h2);cases (show some (q1::q2)=some qs from h3);rw[ai] at rr ⊢;obtain⟨v,sH,e,r1,r2⟩:=rr;exact⟨v,sH,e,cr p q1 v e1 r1,vD cr e2 r2⟩
variable{K:Vm}{mg:Str->Option Value}{a:Nat->Addr}{fd:Nat->Xg}{cP:Nat->Addr×Addr}
theorem Ig(T:wK X.K X.mg S tabs a fd cP)(hB:X.base=base)(Dr:∀x,X.fn x=true)(hN:X.N=i.1.N)(Mm:X.env.scope=ax i.1.st)(hr:cO (lv n) X.A)(D:∀xX,jO X.mg S cP xX->kJ X.prog X.w X.K X.mg S tabs a fd n xX)(bo:jO X.mg S cP X.base)(hf:S.fns[f]?=some (x,nn))(Uk:CS S i ls=true)(hl:bP.length=nn)(hg:Gl X x)(hp:aQ x=true)(hs:∀y∈e::es,notStar y=true)(ha:PA X (e::es) (tA (af X (rg S base tabs X.env.cells)) Z (az (callC S.Fs n) bP))):
  PE X (.Call (.Name x p) (e::es) [] pos) (tE (af X (rg S base tabs X.env.cells)) Z (aa (callC S.Fs n) (.iT f bP ls))):=by
 obtain⟨hk,i2,ej,e2⟩:=TX.E7 hf;cases e2;obtain⟨⟨x2,F2⟩,hm,hb,_⟩:=T.fn f i2 ej;have hm:=hm hk;intro pins s σ H Q I h;obtain⟨m,r,st,ar,as,h⟩:=h;rw[aa] at h;refine WD (m8 I hg hm ?_ (pn hp).1);refine YB (h₀:=X.base) I.ok.mod.J7 F2.kp (bI (ha pos pins s σ H (λvs H1=>∃m1 st1 ps,cQ (af X (rg S base tabs X.env.cells)) H1 m1 Z r σ/\aA (af X (rg S base tabs X.env.cells)) H1 m1 Z st1/\ai (af X (rg S base tabs X.env.cells)) H1 m1 Z ps vs/\ps.length=bP.length/\
   Ok (af X (rg S base tabs X.env.cells)) Z (lX (callC S.Fs n f) (ps.mapM (conv ls r 3)) st1) m1 H1 (λp _ m' H'=>∀v,aj (af X (rg S base tabs X.env.cells)) H' m' Z p v->Q v H')) I
  ⟨m,r,st,ar,as,(Ok.bind h).vi λps st1 m1 H1 hq bH aY h1 vs iG=>⟨m1,st1,ps,ar.le bH,aY,iG,fX hq,h1⟩⟩) λus s1 ⟨vs,H1,I1,rr,m1,st1,ps,ar1,aY,iG,xh,h1⟩=>⟨I1.mZ,?_⟩) (bw (hs e Vh)) (gi λz hz=>hs z (Vb _ hz))
 obtain⟨qs,d,eq,rfl,hx,h2⟩:=Fg h1;have em:m1=[]:=List.eq_nil_of_length_eq_zero (by rw[aY.len];rfl);subst em;have cr:=λp q v=>Fe I1 hB Dr hN Mm Uk ar1 3 p q v;have rq:=vD cr eq iG;have kp:∀b o,X.base.get? b=some o->(qj s1.heap H1 (jC X.stack)).get? b=some o:=λb o e=>I1.Ew e;have Ms:jO X.mg S cP (qj s1.heap H1 (jC X.stack)):=⟨λk j hj hm=>(bo.code k j hj hm).keeps kp,by obtain⟨bm,ob,b1,b2,b3,r⟩:=bo.bm;exact⟨bm,ob,b1,b2,kp _ _ b3,r⟩⟩;have Fk:=D _ Ms f i2 ej;have vl:vs.length=i2.1.F.np:=by rw[iG.length,xh,hl]
 have usl:us.length=i2.1.ps.length:=by have ok:=(T.fn f i2 ej).2.2.2.2;unfold gK at ok;simp only[U9,decide_eq_true_eq] at ok;rw[<-rr.length,vl,ok.1.1.2]
 have dU:aA (mz S X.K (qj s1.heap H1 (jC X.stack)) tabs) (L2.gH H1) [] Z []:=lA (λb hb=>by
   have:=aY.zt b hb;cases e:L2.gH H1 b with
   |none=>exact absurd e this|some o=>
    obtain⟨_,e2⟩:=kA e;by_cases hx:∃φ,o=.ext φ;·obtain⟨φ,rfl⟩:=hx;have:∃q,φ=dw b q:=VF λz=>e2 φ rfl λq' e'=>z ⟨q',e'⟩;obtain⟨q,rfl⟩:=this;rw[gk e];exact λz=>nomatch z
    ·rw[bh e λφ z=>hx ⟨φ,z⟩];exact λz=>nomatch z) λt ht=>by
  obtain⟨ps,e1,e2⟩:=aY.tab t ht;exact⟨ps,bh e1 (λ_ z=>nomatch z),e2.1,λp hp cv zO=>by obtain⟨c,g1,g2⟩:=e2.2 p hp cv zO;exact⟨c,g1,gk g2⟩⟩
 have Ey:aab s1 (fd f) ⟨us,[]⟩ (i2.1.ps.zip us):=by have:=hb s1 us I1.mZ (by rw[Wb];exact usl);rw[Wb] at this;exact this
 refine WX (Hl (Q:=λv H2=>∃m',Le (mz S X.K (qj s1.heap H1 (jC X.stack)) tabs) [] (L2.gH H1) m' H2/\aA (mz S X.K (qj s1.heap H1 (jC X.stack)) tabs) H2 m' Z []/\aF (mz S X.K (qj s1.heap H1 (jC X.stack)) tabs) H2 m' Z d v) I1 Fk hr Ey rr
  ⟨[],Z,qs,[],vl,rq,dU,by rw[hx];exact λm' H' le bP v rv=>⟨m',le,bP,by rw[aj] at rv;exact rv⟩⟩) (λu s2 ⟨v,H3,I3,rv,H2,eH,hn,m',le,bP,rd⟩=>⟨v,H3,I3,rv,?_⟩) λ_ _ z=>z
 subst eH;have em2:m'=[]:=List.eq_nil_of_length_eq_zero (by rw[bP.len];rfl);subst em2;exact h2 [] _ (PV hn le) (PX (K1:=mz S X.K (qj s1.heap H1 (jC X.stack)) tabs) rfl hn bP) v (by rw[aj];exact Mr hn rd)
end
section
variable{P:Wf}{w:World}{K:Vm}{mg:Str->Option Value}{S:TX}{tabs:List (Addr×List (Pos×Str))}{a:Nat->Addr}{fd:Nat->Xg}{cP:Nat->Addr×Addr}
theorem Ih{st:Stmt}{fd:Xg}(F:oE K x qual st f fd)(S:be N ps (ax st))(len:∀vs H Q E,sp vs H Q E->vs.length=ps.length)(rN:∀(A:WN) (outer:List Env) (s:Vv) (H:Hp) (vs:List V) (Q:VK) (E:XK),cO k (A.deeper (Z6 qual (ax st) s.heap.objs.size f fd.code))->sp vs H Q E->
   ∃t,me (vV tX P w K mg base N qual (ax st) f fd.code A outer s H E).Dt (lq st) t/\t {nx:=λ_ H'=>Q .bq H',rt:=Q} (L2.start N vs) H):gJ P w K mg base tX (k+1) f fd ps sp:=by
 obtain⟨oc,od,kV,doc,pm,an,kg,ct,GR,rfl,lk,pI⟩:=F.ex;refine N2 lk pI S len λA outer s H vs Q E hr vW=>?_;obtain⟨t,h,q⟩:=rN A outer s H vs Q E hr vW;exact⟨t,h.Dt,q⟩
theorem Mt(T:wK K mg S tabs a fd cP)(D:∀base,jO mg S cP base->kJ P w K mg S tabs a fd n base)(L:∀base,jO mg S cP base->wL P w K mg S tabs n base)(bo:jO mg S cP base):kJ P w K mg S tabs a fd (n+1) base:=by
 intro k i hi;obtain⟨⟨x1,F⟩,hm,hb,sc,ok⟩:=T.fn k i hi;unfold gK at ok;simp only[U9,decide_eq_true_eq,XJ,VL] at ok;obtain⟨⟨⟨PY,ok2⟩,PK⟩,ok4⟩:=ok;have ek:=TX.Ug hi;refine Ih (k:=lv n+1) F sc (λvs H Q E h=>?_) (λA outer s H vs Q E hr h=>?_);·obtain⟨m,Z,qs,st,hl,_⟩:=h;rw[hl,ok2]
 obtain⟨m,Z,qs,st,hl,rq,as,aH⟩:=h;have hu:(A.deeper (Z6 i.1.name (ax i.1.st) s.heap.objs.size (a k) (fd k).code)).units+100 < cLine:=by have:=hr.un;omega
 by_cases PZ:i.2=[]
 ·have eg:Fc S i={N:=i.1.N,names:=(ax i.1.st).names,fns:=S.fns,iq:=S.cs,tabs:=S.ts,xn:=S.xn,zP:=S.zP,zQ:=S.zQ}:=by unfold Fc;rw[PZ]
  rw[eg] at PY;have G:fP (vV tX P w K mg base i.1.N i.1.name (ax i.1.st) (a k) (fd k).code A outer s H E).Dt (Rm S base tabs) {N:=i.1.N,names:=(ax i.1.st).names,fns:=S.fns,iq:=S.cs,tabs:=S.ts,xn:=S.xn,zP:=S.zP,zQ:=S.zQ} (callC S.Fs n):=
   {N:=rfl,loc:=λx h=>h,Gm:=λx h=>h,gl:=λx h=>h,calm:=rfl,hu:=hu,bl:=T.bl,
    fn:=yB T (D base bo) ⟨rfl,rfl,rfl,rfl,rfl⟩ hr rfl,cs:=T.cs,tb:=T.tb,
    pY:=λ_ k' a' c' Mj h'=>⟨Fd h',by obtain⟨f,ps,F,B⟩:=L base bo k' a' c' Mj h';exact⟨lv n,f,ps,F,hr.mono (Xb _),B⟩⟩,
    lam:=λ_ _ _ _ _ h=>absurd (show false=true from h) (by decide),iT:=λ_ _ _ _ h=>absurd (show false=true from h) (by decide),jc:=λ_ _ _ h=>absurd (show false=true from h) (by decide),fld:=yC T rfl,Nj:=yD T (D base bo) ⟨rfl,rfl,rfl,rfl,rfl⟩ hr rfl,Nk:=yE T (D base bo) ⟨rfl,rfl,rfl,rfl,rfl⟩ hr rfl,oJ:=λ_ _ _ _ _ _ _ h=>absurd (show false=true from h) (by decide),
    cell:=λx h=>h,nd:=sc.nd,Rl:=λx _=>rfl,own:=aah}
  by_cases Bg:i.1.F.sh=true
  ·rw[ik,ek] at aH;simp only[Bg,if_true] at aH;by_cases Rn:qs.length=i.1.F.np;·rw[if_pos Rn] at aH;refine⟨_,dM i.1.F.body _ _ _ _ Z G PY,m,ay i.1.F.nn qs,st,by rw[PK];exact vz rq,as,?_⟩;show Ok (mz S K base tabs) Z (ah (callC S.Fs n) i.1.F.body (ay i.1.F.nn qs) st) m H _;cases hx:ah (callC S.Fs n) i.1.F.body (ay i.1.F.nn qs) st with|ex x s=>rw[hx] at aH;exact(show False from aH).elim|no=>rw[hx] at aH;exact(show False from aH).elim|ok f aJ=>rw[hx] at aH;cases f with|bk r=>exact(show False from aH).elim|ct r=>exact(show False from aH).elim|nx r=>exact λm' H' le bP σ _=>(show Ok (mz S K base tabs) Z (R.ok (Y.P.d .bq) aJ) m H _ from aH) m' H' le bP .bq rfl|rt p=>exact λm' H' le bP v rv=>(show Ok (mz S K base tabs) Z (R.ok p aJ) m H _ from aH) m' H' le bP v rv
   ·rw[if_neg Rn] at aH;exact(show False from aH).elim
  ·have rH:i.1.F.sh=false:=by cases q:i.1.F.sh with|false=>rfl|true=>exact absurd q Bg
   obtain⟨q2,d,ea,er,h2,_⟩:=lB ek rH aH;obtain⟨Z0,ht⟩:=oY (X:=(vV tX P w K mg base i.1.N i.1.name (ax i.1.st) (a k) (fd k).code A outer s H E).Dt) (kt:=Rm S base tabs) (kb:=mz S K base tabs) PK rq as rfl rfl (λ_ _ _ _ z=>z) rfl ea er h2;exact⟨_,dM i.1.F.body _ _ _ _ Z0 G PY,ht⟩
 ·obtain⟨mk1,mk2,mk3,mk4⟩:=T.mkr k i hi PZ;have rH:i.1.F.sh=false:=ok4.resolve_left λz=>PZ (Vr.mp z);obtain⟨q2,d,ea,er,h2,_⟩:=lB ek rH aH
  let X:=(vV tX P w K mg base i.1.N i.1.name (ax i.1.st) (a k) (fd k).code A outer s H E).Dt
  have M:Maker X (cP k).1 (cP k).2 (dj S i):=⟨mk1,bo.code k i hi PZ,bo.bm,mk3⟩;have hc:∀x,(ax i.1.st).names.lookup x=some .cell->∃c,X.env.cells.lookup x=some c:=λx h=>rM h;have eg:Fc S i={N:=i.1.N,names:=(ax i.1.st).names,fns:=[],iq:=S.cs,tabs:=S.ts,O5:=E9 S i,O6:=Fb S i,sA:=λf x n ls=>decide (S.fns[f]?=some (x,n))&&CS S i ls,O7:=λ_ _ _=>false,cv:=false}:=by
   unfold Fc;split;·exact absurd ‹i.2=[]› PZ
   ·rfl
  rw[eg] at PY;have G:fP X (rg S base tabs X.env.cells) {N:=i.1.N,names:=(ax i.1.st).names,fns:=[],iq:=S.cs,tabs:=S.ts,O5:=E9 S i,O6:=Fb S i,sA:=λf x n ls=>decide (S.fns[f]?=some (x,n))&&CS S i ls,O7:=λ_ _ _=>false,cv:=false} (callC S.Fs n):=
   {N:=rfl,loc:=λx h=>h,Gm:=λx h=>h,gl:=λx h=>h,calm:=rfl,hu:=hu,bl:=T.bl,
    fn:=λj x nn h=>by simp at h,cs:=T.cs,tb:=T.tb,
    pY:=λh=>absurd (show false=true from h) (by decide),
    lam:=λk' pa Ms sc' pos h Z=>PM rfl M mk2 mk4 rfl hc h,
    iT:=λf x nn ls h Z e es bP p pos h1 h2 h3 h4 h5=>by have h':(decide (S.fns[f]?=some (x,nn))&&CS S i ls)=true:=h;simp only[U9,decide_eq_true_eq] at h';have Uo:(ax i.1.st).names.lookup x=some XO.globalImplicit:=of_decide_eq_true (show decide ((ax i.1.st).names.lookup x=some XO.globalImplicit)=true from h2);exact Ig (X:=X) (cP:=cP) (i:=i) T rfl (λ_=>rfl) rfl rfl (hr.mono (Xb _)) D bo h'.1 h'.2 h1 Uo h3 h4 h5
    jc:=λ_ _ _ h=>absurd (show false=true from h) (by decide),fld:=λ_ _ h=>absurd (show false=true from h) (by decide),Nj:=λ_ _ _ _ h=>absurd (show false=true from h) (by decide),Nk:=λ_ _ _ h=>absurd (show false=true from h) (by decide)
    oJ:=λj k' nm pa Ms sc' pos h Z=>Ml rfl M mk2 mk4 rfl hc rfl sc.nd rfl (λ_=>rfl) h
    cell:=λx h=>h,nd:=sc.nd,Rl:=λx _=>rfl,own:=aah}
  obtain⟨Z0,ht⟩:=oY (X:=X) (kt:=rg S base tabs X.env.cells) (kb:=mz S K base tabs) PK rq as rfl rfl (λ_ _ _ _ z=>z) rfl ea er h2;exact⟨_,dM i.1.F.body _ _ _ _ Z0 G PY,ht⟩
theorem BH(T:wK K mg S tabs a fd cP):∀n,(∀base,jO mg S cP base->kJ P w K mg S tabs a fd n base)/\(∀base,jO mg S cP base->wL P w K mg S tabs n base)
 |0=>by
  refine⟨λbase bo k i hi=>?_,λbase bo k b c bM hc=>?_⟩
  ·have no:∀vs H Q E,¬AF (mz S K base tabs) (callC S.Fs 0 k) i.1.F.np vs H Q E:=λvs H Q E ⟨m,Z,qs,st,_,_,_,h⟩=>by rw[sr] at h;exact h
   exact⟨λvs H Q E h=>absurd h (no vs H Q E),λA outer s H args us vs Q E _ _ _ _ h=>absurd h (no vs H Q E)⟩
  ·have no:∀vs H Q E,¬Pa (mz S K base tabs) (callC S.Fs 0 k) c (S.q k) bM vs H Q E:=λvs H Q E ⟨_,m,Z,qs,bj,st,_,_,_,h⟩=>by rw[sr] at h;exact h
   obtain⟨Up,Uq,h1,h2⟩:∃(Up:Xg) (Uq:List Str),Binds K Up Uq []/\True:=by
    obtain⟨ci,o,sc,cl,_,_,hf,_⟩:=hc;rcases hf with ⟨pa,Ms,pm,ct,rfl,aH⟩|⟨nm,pa,Ms,doc,pm,ct,rfl,aH⟩
    ·unfold oW at aH;simp only[U9] at aH;exact⟨aal "<lambda>" ci.qual pa Ms sc cl pm (.ref c) ct,ci.ps,Binds.all λus hl=>iQ aH.1.1.2 rfl hl,trivial⟩
    ·unfold oX at aH;simp only[U9] at aH;exact⟨aaR nm ci.qual pa Ms sc cl .none .none doc pm none (.ref c) ct,ci.ps,Binds.all λus hl=>iQ aH.1.1.2 rfl hl,trivial⟩
   exact⟨Up,Uq,⟨λvs H Q E h=>absurd h (no vs H Q E),λA outer s H args us vs Q E _ _ _ _ h=>absurd h (no vs H Q E)⟩,h1⟩
 |n+1=>by obtain⟨i1,i2⟩:=BH T n;exact⟨λbase bo=>Mt T i1 i2 bo,λbase bo=>Mi T (i1 base bo) (i2 base bo)⟩
theorem Ii(ht:∀t∈tabs,t.1∈P0.map (·.2))(hc:c [.fV ns] []=.ok (.d (.bl true)) [])(ho:Bm P0 H)(hs:lG K H b (ns.map V.int)){E:XK}:
  AF (mz S K base tabs) c 1 [.ref b] H (λv _=>v=.bl true) E:=by
 refine⟨[],[],[.fV ns],[],rfl,⟨_,_,rfl,⟨b,rfl,?_⟩,rfl⟩,lA (λ_ h=>by cases h) (λt h=>?_),?_⟩
 ·rcases hs with (h|h)|h
  ·rcases ho.1 b with z|⟨o,xs,z⟩|⟨z,_⟩;·rw[h] at z;cases z
   ·rw[h] at z;cases z
   ·rw[h] at z;cases z
  ·exact .inl h
  ·exact .inr h
 ·obtain⟨q,hq,e⟩:=W8.mp (ht t h);exact⟨#[],by rw[<-e];exact ho.2 q hq,trivial,λp hp cv zO=>by cases (show(none:Option Value)=some cv from zO)⟩
 ·rw[hc];exact λm' H' le as v rv=>rv
end
end Y
namespace Y
open PySem
variable{Fs:List Fn}
@[simp] theorem sJ st x:aX st (.d x)=none:=rfl
@[simp] theorem mB st x:aX st (.fV x)=none:=rfl
@[simp] theorem c0{α:Type}(f:α->D):∀xs:List α,bb (xs.map λx=>P.d (f x))=some (xs.map f)
 |[]=>rfl|x::xs=>by simp[bb,EH,c0 f xs]
@[simp] theorem fZ:∀xs,bb (xs.map P.d)=some xs
 |[]=>rfl|x::xs=>by simp[bb,EH,fZ xs]
@[simp] theorem CV{α:Type}(f:α->Bool):∀xs:List α,boolsOf (xs.map λx=>P.d (.bl (f x)))=some (xs.map f)
 |[]=>rfl|x::xs=>by simp[boolsOf,CV f xs]
theorem nJ{G:P->bU}{f:D->D}:∀{xs:List D},(∀x∈xs,c (G (.d x)) st=.ok (p x) st)->(∀x∈xs,e (G (.d x)) st=.ok (.d (f x)) st)->
  cJ G c e (xs.map .d) st=.ok ((xs.filter p).map λx=>.d (f x)) st
 |[],_,_=>rfl|x::xs,h,k=>by have ih:=nJ (G:=G) (c:=c) (e:=e) (st:=st) (f:=f) (p:=p) (xs:=xs) (λy hy=>h y (Vb _ hy)) λy hy=>k y (Vb _ hy);simp only[Vo];rw[cJ,h x Vh,ae];cases hp:p x with|true=>rw[if_pos rfl,k x Vh,ae,ih,ae,VR hp,Vo]|false=>rw[if_neg (by simp),ih,V0 (by simp[hp])]
theorem mC{α:Type}{G:P->bU}{g:α->P}{f:α->D}:∀{xs:List α},(∀x∈xs,c (G (g x)) st=.ok true st)->(∀x∈xs,e (G (g x)) st=.ok (.d (f x)) st)->cJ G c e (xs.map g) st=.ok (xs.map λx=>.d (f x)) st
 |[],_,_=>rfl|x::xs,h,k=>by have ih:=mC (G:=G) (c:=c) (e:=e) (st:=st) (g:=g) (f:=f) (xs:=xs) (λy hy=>h y (Vb _ hy)) λy hy=>k y (Vb _ hy);simp only[Vo];rw[cJ,h x Vh,ae,if_pos rfl,k x Vh,ae,ih,ae]
theorem dy{α:Type}{xs:List α}{g:α->P}{f:α->D}(hw:cq C w r st=.ok (xs.map g) st1)(hl:xs.length<=av)(he:∀x∈xs,aa C e (some (g x)::cK js r) st1=.ok (.d (f x)) st1):aU C (.comp w 1 js none e) r st=.ok (xs.map λx=>.d (f x)) st1:=by rw[aU,hw,ae,if_pos ⟨rfl,by simpa using hl⟩];exact mC (λx _=>by rw[bu]) he
theorem wM{xs:List D}{f:D->D}(hw:cq C w r st=.ok (xs.map .d) st1)(hl:xs.length<=av)(hc:∀x∈xs,aa C c (some (.d x)::cK js r) st1=.ok (.d (.bl (p x))) st1)(he:∀x∈xs,aa C e (some (.d x)::cK js r) st1=.ok (.d (f x)) st1):aU C (.comp w 1 js (some c) e) r st=.ok ((xs.filter p).map λx=>.d (f x)) st1:=by rw[aU,hw,ae,if_pos ⟨rfl,by simpa using hl⟩];exact nJ (λx hx=>by rw[bu,hc x hx];rfl) he
def AN:P->Bool
 |.obj _=>false|.lf _=>false|.fn _ bj=>bZ bj|_=>true
theorem sM:∀{ps},ps.all AN=true->gS st ps=some ps/\ps.any isObj=false
 |[],_=>⟨rfl,rfl⟩|p::ps,h=>by rw[XA,U9] at h;obtain⟨i1,i2⟩:=sM (st:=st) h.2;cases p with|obj n=>cases h.1|lf n=>cases h.1|d x=>exact⟨by simp[gS,wm,jN,i1],by simp[isObj,i2]⟩|fV ns=>exact⟨by simp[gS,wm,i1],by simp[isObj,i2]⟩|fn k bj=>exact⟨by simp[gS,wm,i1,show bZ bj=true from h.1],by simp[isObj,i2]⟩
theorem call_of(hF:Fs[k]?=some F)(hp:ps.all AN=true)(hr:uu (callC Fs n) F ps=some d)(Bg:F.sh=false:=by rfl):callC Fs (n+1) k ps st=.ok (.d d) st:=by obtain⟨a1,a2⟩:=sM (st:=st) hp;rw[ik,hF];simp only[Bg,a1,hr,sk,a2,YW,VY,if_false]
theorem wN(hF:Fs[k]?=some F)(Bg:F.sh=true)(hl:ps.length=F.np)(hr:ah (callC Fs n) F.body (ay F.nn ps) st=.ok (.rt p) aJ):callC Fs (n+1) k ps st=.ok p aJ:=by rw[ik,hF];simp only[Bg,hl,hr,if_true,Ho]
theorem dz(hl:ps.length=F.np)(he:ah C F.body (ay F.nn ps) []=.ok (.rt p) st)(hf:jN st p=some d):uu C F ps=some d:=by unfold uu;rw[if_pos hl,he];exact hf
theorem BI{r:bU}:∀{xs:List D} {u},(∀x∈xs,b (r.set i (some (.d x))) st=if f x=true then .ok (.nx (r.set i (some (.d x)))) st else .ok (.rt v) st)->
  ∃u2,forL (gU (.nm i)) b (xs.map .d) (r.set i u) st=if xs.all f=true then .ok (.nx (r.set i u2)) st else .ok (.rt v) st
 |[],u,_=>⟨u,rfl⟩|x::xs,u,h=>by obtain⟨u2,ih⟩:=BI (i:=i) (r:=r) (st:=st) (f:=f) (v:=v) (b:=b) (xs:=xs) (u:=some (.d x)) λy hy=>h y (Vb _ hy);refine⟨u2,?_⟩;rw[Vo,forL,gU,aq,ae,aaF,h x Vh];cases hf:f x with|true=>rw[if_pos rfl,ae,XA,hf,aaz];exact ih|false=>rw[if_neg (by simp),ae,XA,hf,YW,if_neg (by simp)]
section
variable{C:Nat->List P->aI->R P}{r:bU}{st:aI}
@[simp] theorem aL i:aa C (.var i) r st=R.of (r[i]?).join st:=by rw[aa]<;>rfl
@[simp] theorem iu x:aa C (.cst x) r st=.ok (.d x) st:=by rw[aa]
@[simp] theorem jZ o a b:aa C (.op o a b) r st=(aa C a r st).bind λx st1=>(aa C b r st1).bind λy st2=>R.of (ya o x y st2) st2:=by rw[aa]
@[simp] theorem Ur a:aa C (.not a) r st=(aa C a r st).bind λx st1=>(R.of (AD st1 x) st1).bind λb st2=>.ok (.d (.bl (!b))) st2:=by rw[aa]
@[simp] theorem fh o a b:aa C (.cmp o a b) r st=(aa C a r st).bind λx st1=>(aa C b r st1).bind λy st2=>(R.of (kD o x y st2) st2).bind λb st3=>.ok (.d (.bl b)) st3:=by rw[aa]
@[simp] theorem P4 o o' a b c:aa C (.chain o o' a b c) r st=(aa C a r st).bind λx st1=>(aa C b r st1).bind λy st2=>(R.of (kD o x y st2) st2).bind λk st3=>if k then(aa C c r st3).bind λz oF=>(R.of (kD o' y z oF) oF).bind λb Ce=>.ok (.d (.bl b)) Ce else .ok (.d (.bl false)) st3:=by rw[aa]
@[simp] theorem Fh es:aa C (.and es) r st=dX C es r st:=by rw[aa]
@[simp] theorem JP es:aa C (.or es) r st=dY C es r st:=by rw[aa]
@[simp] theorem wO es:aa C (.tup es) r st=(az C es r st).bind λps st1=>if ps.length<=av then(R.of (bb ps) st1).bind λxs st2=>.ok (.d (.tup xs)) st2 else .no:=by rw[aa]
@[simp] theorem dn l:aa C (.lst false l) r st=(aU C l r st).bind λps st1=>(R.of (bb ps) st1).bind λxs st2=>.ok (.d (.pl xs)) st2:=by rw[aa];simp
@[simp] theorem jP l:aa C (.lst true l) r st=(aU C l r st).bind λps st1=>.ok (.obj st1.length) (st1++[.lst ps]):=by rw[aa];simp
@[simp] theorem lD f es:aa C (.call f es) r st=(az C es r st).bind λps st1=>C f ps st1:=by rw[aa]
@[simp] theorem Us a T:aa C (.Gn a T) r st=(aa C a r st).bind λx st1=>(R.of (JJ x st1) st1).bind λt st2=>.ok (.d (.bl (fK t T))) st2:=by rw[aa]
@[simp] theorem gz f es:aa C (.bf f es) r st=(az C es r st).bind λps st1=>R.of (lr f ps st1) st1:=by rw[aa]
@[simp] theorem fQ a b:aa C (.ix a b) r st=(aa C a r st).bind λx st1=>(aa C b r st1).bind λy st2=>R.of (xm x y st2) st2:=by rw[aa]
@[simp] theorem Fi a lo hi:aa C (.slice a lo hi) r st=(aa C a r st).bind λx st1=>(gT C lo r st1).bind λl st2=>(gT C hi r st2).bind λh st3=>R.of (oM x l h st3) st3:=by rw[aa]
@[simp] theorem BJ t:aa C (.oK t) r st=.ok (.obj st.length) (st++[if t then .dT [] else .dK []]):=by rw[aa]
@[simp] theorem Fj a b:aa C (.index a b) r st=(aa C a r st).bind λx st1=>(R.of (aR st1 x) st1).bind λ_ st1=>(aa C b r st1).bind λy st2=>R.of (si x y st2) st2:=by rw[aa]
@[simp] theorem Ij es:aU C (.gG es) r st=(az C es r st).bind λps st1=>(R.of (qp ps) st1).bind λqs st2=>if qs.length<=av then .ok qs st2 else .no:=by rw[aU]
@[simp] theorem Ik a b:aU C (.zip a b) r st=(aa C a r st).bind λx st1=>(aa C b r st1).bind λy st2=>(R.of (EL x y) st2).bind λzs st3=>.ok (zs.map .d) st3:=by rw[aU]
@[simp] theorem CW e js c ee:aU C (.cn e js c ee) r st=(aa C e r st).bind λx st1=>match x with|.obj n=>cn n (λp=>some p::cK js r) (bu C c) (λr' aJ=>aa C ee r' aJ) av 0 st1|_=>.no:=by rw[aU]<;>rfl
@[simp] theorem Fm:gT C none r st=.ok none st:=by rw[gT]
@[simp] theorem Fo e:gT C (some e) r st=(aa C e r st).bind λx st1=>.ok (some x) st1:=by rw[gT]
@[simp] theorem aW:az C [] r st=.ok [] st:=by rw[az]
@[simp] theorem aD e es:az C (e::es) r st=(aa C e r st).bind λx st1=>(az C es r st1).bind λxs st2=>.ok (x::xs) st2:=by rw[az]
@[simp] theorem BK e:dX C [e] r st=aa C e r st:=by rw[dX]
@[simp] theorem BL e e' es:dX C (e::e'::es) r st=(aa C e r st).bind λx st1=>match x with|.d (.bl b)=>if b then dX C (e'::es) r st1 else .ok (.d (.bl false)) st1|_=>.no:=by rw[dX]<;>rfl
@[simp] theorem Ro e:dY C [e] r st=aa C e r st:=by rw[dY]
@[simp] theorem BM e e' es:dY C (e::e'::es) r st=(aa C e r st).bind λx st1=>match x with|.d (.bl b)=>if b then .ok (.d (.bl true)) st1 else dY C (e'::es) r st1|_=>.no:=by rw[dY]<;>rfl
@[simp] theorem kK es:aU C (.eY es) r st=(az C es r st).bind λps st1=>if ps.length<=av then .ok ps st1 else .no:=by rw[aU]
@[simp] theorem Mu e:cq C (.ex e) r st=(aa C e r st).bind λx st1=>R.of (sf x) st1:=by rw[cq]
@[simp] theorem BN es:cq C (.gG es) r st=(az C es r st).bind λps st1=>R.of (qp ps) st1:=by rw[cq]
@[simp] theorem Fp e:cq C (.enum e) r st=(aa C e r st).bind λx st1=>match x with|.d (.tup xs)=>.ok (dg 0 xs) st1|_=>.no:=by rw[cq]<;>rfl
@[simp] theorem sN o i j:ya o (.d (.int i)) (.d (.int j)) st=(lh o i j).map λk=>.d (.int k):=by cases o<;>rfl
@[simp] theorem P5 xs ys:ya .add (.d (.tup xs)) (.d (.tup ys)) st=if xs.length+ys.length<=av then some (.d (.tup (xs++ys))) else none:=rfl
@[simp] theorem op_ss x y:ya .add (.d (.str x)) (.d (.str y)) st=if x.length+y.length<=av then some (.d (.str (x++y))) else none:=rfl
@[simp] theorem P6 xs:ya .mul (.d (.tup xs)) (.d (.int 2)) st=if 0 < xs.length/\xs.length<=100000 then some (.d (.tup (xs++xs))) else none:=by simp[ya]
@[simp] theorem P7 xs:ya .mul (.d (.tup xs)) (.d (.int 1)) st=some (.d (.tup xs)):=by simp[ya]
@[simp] theorem P8 xs:ya .mul (.d (.tup xs)) (.d (.int 3)) st=if 0 < xs.length/\xs.length<=100000 then some (.d (.tup (xs++xs++xs))) else none:=by simp[ya]
@[simp] theorem Fq xs ys:ya .add (.d (.pl xs)) (.d (.pl ys)) st=if xs.length+ys.length<=av then some (.d (.pl (xs++ys))) else none:=by
 have e:bb (xs.map P.d++ys.map P.d)=some (xs++ys):=by rw[<-VU,fZ]
 simp[ya,aR,e]
@[simp] theorem rl i j:lh .add i j=some (i+j):=rfl
@[simp] theorem Il i j:lh .sub i j=some (i - j):=rfl
theorem eJ(h:(-mv < i/\i < mv)\/(-mv < j/\j < mv)):lh .mul i j=some (i*j):=by unfold lh;simp only[if_pos h]
theorem cL(h:0 < j):lh .mod i j=some (i % j):=by unfold lh;simp only[if_pos h]
@[simp] theorem Mv b:AD st (.d (.bl b))=some b:=rfl
@[simp] theorem Ut:JJ (.d .bq) st=some "NoneType":=rfl
@[simp] theorem ty_bl b:JJ (.d (.bl b)) st=some "bool":=rfl
@[simp] theorem ty_int b:JJ (.d (.int b)) st=some "int":=rfl
@[simp] theorem ty_str b:JJ (.d (.str b)) st=some "str":=rfl
@[simp] theorem Uu b:JJ (.d (.tup b)) st=some "tuple":=rfl
@[simp] theorem ty_pl b:JJ (.d (.pl b)) st=some "list":=rfl
@[simp] theorem Mw i j:kD .lt (.d (.int i)) (.d (.int j)) st=some (decide (i < j)):=rfl
@[simp] theorem Uv i j:kD .le (.d (.int i)) (.d (.int j)) st=some (decide (i<=j)):=rfl
@[simp] theorem cmp_gt i j:kD .gt (.d (.int i)) (.d (.int j)) st=some (decide (j < i)):=rfl
@[simp] theorem Uw i j:kD .ge (.d (.int i)) (.d (.int j)) st=some (decide (j<=i)):=rfl
@[simp] theorem AO x y:kD .eq (.d x) (.d y) st=qW x y:=rfl
@[simp] theorem Ft x y:kD .ne (.d x) (.d y) st=(qW x y).map not:=rfl
@[simp] theorem nK x y:qW (.int x) (.int y)=some (x==y):=by simp[qW,g9,lK]
@[simp] theorem Ux x y:qW (.bl x) (.bl y)=some (x==y):=by simp[qW,g9,lK]
@[simp] theorem Uy xs:qW (.tup xs) (.tup [])=some xs.isEmpty:=by have h:min (g9 (.tup xs)) (g9 (.tup []))<=100:=V3 (Y8 _ _) (by simp[g9,gp]);unfold qW;rw[if_pos h];cases xs<;>simp[lK,fW]
@[simp] theorem Uz xs:qW (.pl xs) (.pl [])=some xs.isEmpty:=by have h:min (g9 (.pl xs)) (g9 (.pl []))<=100:=V3 (Y8 _ _) (by simp[g9,gp]);unfold qW;rw[if_pos h];cases xs<;>simp[lK,fW]
@[simp] theorem Im xs:lr .len [.d (.tup xs)] st=some (.d (.int xs.length)):=by simp[lr,bD]
@[simp] theorem Io xs:lr .len [.d (.pl xs)] st=some (.d (.int xs.length)):=by simp[lr,bD,aR]
@[simp] theorem Rp ns:lr .len [.fV ns] st=some (.d (.int ns.length)):=by simp[lr,bD]
@[simp] theorem Ip xs:lr .tuple [.d (.pl xs)] st=some (.d (.tup xs)):=by simp[lr,bD,aR]
@[simp] theorem P9 xs i:xm (.d (.tup xs)) (.d (.int i)) st=(om xs i).map .d:=by simp only[xm,sJ,mB,Lj,bD,VS,om,Vg];cases xC xs.length i<;>simp
@[simp] theorem Qa xs i:xm (.d (.pl xs)) (.d (.int i)) st=(om xs i).map .d:=by simp only[xm,sJ,mB,Lj,bD,aR,VS,om,Vg];cases xC xs.length i<;>simp
@[simp] theorem ix_s ns i:xm (.fV ns) (.d (.int i)) st=(om ns i).map λk=>.d (.int k):=by simp only[xm,sJ,mB,Lj,bD,VS,om,Vg];cases xC ns.length i<;>simp
@[simp] theorem dit_t xs:sf (.d (.tup xs))=some (xs.map .d):=rfl
@[simp] theorem dit_l xs:sf (.d (.pl xs))=some (xs.map .d):=rfl
@[simp] theorem sit_t xs:bD st (.d (.tup xs))=some (xs.map .d):=rfl
@[simp] theorem sit_l xs:bD st (.d (.pl xs))=some (xs.map .d):=rfl
@[simp] theorem Nn:yb none=some none:=rfl
@[simp] theorem Qb i:yb (some (.d (.int i)))=some (some i):=rfl
@[simp] theorem BO x ps:bb (.d x::ps)=(bb ps).map λxs=>x::xs:=rfl
@[simp] theorem Fu:bb []=some []:=rfl
theorem dN{α:Type}{xs:List α}{k:Nat}{a:α}(h:xs[k]?=some a):om xs (k:Int)=some a:=by have hk:=(List.getElem?_eq_some_iff.mp h).1;unfold om xC;rw[if_pos (by omega),if_pos (by omega)];simpa using h
@[simp] theorem atI0{α:Type}(a:α)xs:om (a::xs) 0=some a:=dN (k:=0) rfl
@[simp] theorem atI1{α:Type}(a b:α)xs:om (a::b::xs) 1=some b:=dN (k:=1) rfl
theorem ag(h:aE C s r st=.ok (.nx r1) st1)(k:ah C rest r1 st1=res):ah C (s::rest) r st=res:=by rw[ah,h,ae];exact k
theorem aN(h:aE C s r st=.ok (.rt v) st1):ah C (s::rest) r st=.ok (.rt v) st1:=by rw[ah,h,ae]
theorem ak:ah C [] r st=.ok (.nx r) st:=by rw[ah]
theorem cT(h:aa C e r st=.ok v st1):aE C (.ret e) r st=.ok (.rt v) st1:=by rw[aE,h,ae]
theorem aV(h:aa C e r st=.ok v st1):aE C (.set i e) r st=.ok (.nx (r.set i (some v))) st1:=by rw[aE,h,ae]
theorem iw(hc:aa C c r st=.ok (.d (.bl true)) st1)(h:ah C a r st1=res):aE C (.ifs c a b) r st=res:=by rw[aE,bV,hc];simpa using h
theorem dZ(hc:aa C c r st=.ok (.d (.bl false)) st1)(h:ah C b r st1=res):aE C (.ifs c a b) r st=res:=by rw[aE,bV,hc];simpa using h
theorem cU(hw:cq C w r st=.ok ps st1)(h:forL (gU t) (ah C b) ps r st1=res):aE C (.fe t w b) r st=res:=by rw[aE,hw,ae];exact h
theorem sO(hc:∀r st f aJ,st[n]?=some (.lst xs)->c r st=.ok f aJ->aJ[n]?=some (.lst xs))(he:∀r st f aJ,st[n]?=some (.lst xs)->e r st=.ok f aJ->aJ[n]?=some (.lst xs)):
  ∀(k i) (st),st[n]?=some (.lst xs)->xs.length - i < k->cn n g c e k i st=cJ g c e (xs.drop i) st
 |0,i,st,_,hk=>absurd hk (XI _)|k+1,i,st,hs,hk=>by
  have ha:yf n st i=some xs[i]?:=by unfold yf;rw[hs]
  rw[cn,ha];by_cases hi:i < xs.length;·rw[Vc hi,V8 hi,cJ];dsimp only;cases hx:c (g xs[i]) st with|ex x s=>rfl|no=>rfl|ok b st1=>rw[ae,ae];have h1:=hc _ st b st1 hs hx;cases b with|false=>exact sO hc he k (i+1) st1 h1 (by omega)|true=>simp only[if_true];cases hy:e (g xs[i]) st1 with|ex x s=>rfl|no=>rfl|ok y st2=>rw[ae,ae,sO hc he k (i+1) st2 (he _ st1 y st2 h1 hy) (by omega)]
  ·rw[VH (by omega),YT (by omega),cJ]
theorem Fv(he:aa C e r st=.ok (.obj n) st1)(h:jm n (gU t) (ah C b) fg 0 r st1=res):aE C (.jm t e b) r st=res:=by rw[aE,he,ae];exact h
theorem j0(ha:aa C a r st=.ok x st1)(hl:aR st1 x=some its)(he:aa C e r st1=.ok v st2)(hp:yc x v st2=some st3):aE C (.app a e) r st=.ok (.nx r) st3:=by rw[aE,ha,ae,hl,aq,ae,he,ae,hp,aq,ae]
theorem nL(he:aa C e r st=.ok v st1)(ha:aa C a r st1=.ok x st2)(hi:aa C i r st2=.ok k st3)(hp:oN x k v st3=some oF):aE C (.put a i e) r st=.ok (.nx r) oF:=by rw[aE,he,ae,ha,ae,hi,ae,hp,aq,ae]
end
end Y
namespace Y
open PySem
section
variable{C:Nat->List P->aI->R P}{r:bU}{st:aI}
theorem yF i es:aa C (.pV i es) r st=(R.of (r[i]?).join st).bind λp bJ=>(az C es r bJ).bind λps st1=>match p with|.fn k bj=>C k (ps++bj) st1|_=>.no:=by rw[aa]<;>rfl
theorem yG f es ls:aa C (.iT f es ls) r st=(az C es r st).bind λps st1=>lX (C f) (ps.mapM (conv ls r 3)) st1:=by rw[aa]
@[simp] theorem Mx k:aa C (.lam k) r st=.ok (.lf k) st:=by rw[aa]
theorem BP c f i:aa C (.attr c f i) r st=(R.of (r[i]?).join st).bind λx st1=>R.of ((ur c st1 x).bind λq=>q.2.lookup f) st1:=by rw[aa]<;>rfl
theorem Iq k c m i es:aa C (.qm k c m i es) r st=(R.of (r[i]?).join st).bind λx bJ=>(R.of ((ur c bJ x).bind λq=>if(q.2.lookup m).isNone then some () else none) bJ).bind λ_ bJ=>(az C es r bJ).bind λps st1=>C k (x::ps) st1:=by rw[aa]<;>rfl
theorem Ir k c es:aa C (.make k c es) r st=(az C es r st).bind λps st1=>(C k (.obj st1.length::ps) (st1++[.ins c []])).bind λv st2=>match v with|.d .bq=>.ok (.obj st1.length) st2|_=>.no:=by rw[aa]<;>rfl
theorem Iu a b:aa C (.CH a b) r st=(aa C a r st).bind λx st1=>(R.of (aX st1 x) st1).bind λ_ st1=>(aa C b r st1).bind λy st2=>(R.of (EJ x y st2) st2).bind λq _=>.ok q.1 q.2:=by rw[aa]
theorem Iv a:aa C (.CJ a) r st=(aa C a r st).bind λx st1=>(R.of (EK x st1) st1).bind λq _=>.ok q.1 q.2:=by rw[aa]
theorem yH a b c:aa C (.r9 a b c) r st=(aa C a r st).bind λx st1=>(R.of (aX st1 x) st1).bind λ_ st1=>(aa C b r st1).bind λy st2=>(aa C c r st2).bind λz st3=>(R.of (pX x y z st3) st3).bind λq _=>.ok q.1 q.2:=by rw[aa]
theorem Iw k x:aa C (.CL k x) r st=(aa C k r st).bind λy st1=>(R.of (Lk y (.d x)) st1).bind λo st2=>.ok (.obj st2.length) (st2++[o]):=by rw[aa]
theorem Fw e:aU C (.keys e) r st=(aa C e r st).bind λx st1=>(R.of (uq st1 x) st1).bind λq st2=>.ok (q.2.map λkv=>ye kv.1) st2:=by rw[aU]
theorem yI w js c e:aU C (.comp w 1 js c e) r st=(cq C w r st).bind λps st1=>if ps.length<=av then cJ (λp=>some p::cK js r) (bu C c) (λr' aJ=>aa C e r' aJ) ps st1 else .no:=by rw[aU];simp
@[simp] theorem Fx:bu C none r st=.ok true st:=by rw[bu]
theorem mE(h:aa C e r st=.ok v st1):aE C (.expr e) r st=.ok (.nx r) st1:=by rw[aE,h,ae]
theorem My i k:aE C (.oJ i k) r st=.ok (.nx (r.set i (some (.lf k)))) st:=by rw[aE]
theorem sP(he:aa C e r st=.ok v st1)(hi:(r[i]?).join=some x)(hq:ur c st1 x=some (n,fs))(hl:fs.length < 1000):aE C (.mr c f i e) r st=.ok (.nx r) (st1.set n (.ins c (wo f v fs))):=by have u6:oO r i=some x:=hi;rw[aE,he,ae,u6,aq,ae,hq];simp[hl]
theorem Mz(he:aa C e r st=.ok (.obj n) st1)(hs:st1[n]?=some (.dK kvs))(h:oP i j (ah C b) kvs r (st1.set n .vf)=.ok f st2):aE C (.CM i j e b) r st=.ok f (st2.set n (.dK kvs)):=by
 rw[aE,he,ae];have:uq st1 (.obj n)=some (n,kvs):=by simp[uq,hs]
 rw[this,aq,ae];dsimp only;rw[h,ae]
theorem MA(he:aa C e r st=.ok (.obj n) st1)(h:jM n i j (ah C b) fg 0 r st1=res):aE C (.jM i j e b) r st=res:=by rw[aE,he,ae];exact h
theorem BQ(h:ij (bV (aa C c)) (ah C b) fg r st=res):aE C (.mq c b) r st=res:=by rw[aE];exact h
theorem cV{I:Nat->bU->aI->Prop}:∀{ps} {k} {r} {st},(∀i p r st,I (k+i) r st->ps[i]?=some p->∃r1 r2 st1,g p r=some r1/\b r1 st=.ok (.nx r2) st1/\I (k+i+1) r2 st1)->I k r st->
  ∃r' aJ,forL g b ps r st=.ok (.nx r') aJ/\I (k+ps.length) r' aJ
 |[],k,r,st,_,h=>⟨r,st,rfl,h⟩|p::ps,k,r,st,hs,h=>by obtain⟨r1,r2,st1,h1,h2,h3⟩:=hs 0 p r st h rfl;obtain⟨r',aJ,e,q⟩:=cV (g:=g) (b:=b) (I:=I) (ps:=ps) (k:=k+1) (r:=r2) (st:=st1) (λi p r st hi hp=>by have:=hs (i+1) p r st (by rw[show k+(i+1)=k+1+i by omega];exact hi) (by simpa using hp);rw[show k+(i+1)+1=k+1+i+1 by omega] at this;exact this) h3;refine⟨r',aJ,?_,by rw[Vt,show k+(ps.length+1)=k+1+ps.length by omega];exact q⟩;rw[forL,h1,aq,ae,h2,ae];exact e
theorem yJ{I:Nat->bU->aI->Prop}:∀{ps} {k} {r} {st},(∀i kv r st,I (k+i) r st->ps[i]?=some kv->∃r2 st1,b ((r.set x (some (ye kv.1))).set y (some kv.2)) st=.ok (.nx r2) st1/\I (k+i+1) r2 st1)->I k r st->
  ∃r' aJ,oP x y b ps r st=.ok (.nx r') aJ/\I (k+ps.length) r' aJ
 |[],k,r,st,_,h=>⟨r,st,rfl,h⟩|p::ps,k,r,st,hs,h=>by obtain⟨r2,st1,h2,h3⟩:=hs 0 p r st h rfl;obtain⟨r',aJ,e,q⟩:=yJ (x:=x) (y:=y) (b:=b) (I:=I) (ps:=ps) (k:=k+1) (r:=r2) (st:=st1) (λi p r st hi hp=>by have:=hs (i+1) p r st (by rw[show k+(i+1)=k+1+i by omega];exact hi) (by simpa using hp);rw[show k+(i+1)+1=k+1+i+1 by omega] at this;exact this) h3;refine⟨r',aJ,?_,by rw[Vt,show k+(ps.length+1)=k+1+ps.length by omega];exact q⟩;rw[oP,h2,ae];exact e
theorem sQ{I:Nat->bU->aI->Prop}(hI:∀i r st,I i r st->st[n]?=some (.lst xs))(hs:∀i p r st,I i r st->xs[i]?=some p->∃r1 r2 st1,g p r=some r1/\b r1 st=.ok (.nx r2) st1/\I (i+1) r2 st1):
  ∀(k) {i} {r} {st},I i r st->i<=xs.length->xs.length - i < k->∃r' aJ,jm n g b k i r st=.ok (.nx r') aJ/\I xs.length r' aJ
 |0,i,r,st,_,_,hk=>absurd hk (XI _)|k+1,i,r,st,h,hi,hk=>by
  have ha:yf n st i=some xs[i]?:=by unfold yf;rw[hI i r st h]
  rw[jm,ha];by_cases fM:i < xs.length;·obtain⟨r1,r2,st1,h1,h2,h3⟩:=hs i xs[i] r st h (Vc fM);obtain⟨r',aJ,e,q⟩:=sQ hI hs k h3 fM (by omega);refine⟨r',aJ,?_,q⟩;rw[Vc fM];dsimp only;rw[h1,aq,ae,h2,ae];exact e
  ·have e:i=xs.length:=by omega
   subst e;refine⟨r,st,?_,h⟩;rw[VH (by omega)]
theorem yK{I:Nat->bU->aI->Prop}(hI:∀i r st,I i r st->st[n]?=some (.lst xs))(hs:∀i p r st,I i r st->xs[i]?=some p->∃r2 st1,b ((r.set x (some (.d (.int i)))).set y (some p)) st=.ok (.nx r2) st1/\I (i+1) r2 st1):
  ∀(k) {i} {r} {st},I i r st->i<=xs.length->xs.length - i < k->∃r' aJ,jM n x y b k i r st=.ok (.nx r') aJ/\I xs.length r' aJ
 |0,i,r,st,_,_,hk=>absurd hk (XI _)|k+1,i,r,st,h,hi,hk=>by
  have ha:yf n st i=some xs[i]?:=by unfold yf;rw[hI i r st h]
  rw[jM,ha];by_cases fM:i < xs.length;·obtain⟨r2,st1,h2,h3⟩:=hs i xs[i] r st h (Vc fM);obtain⟨r',aJ,e,q⟩:=yK hI hs k h3 fM (by omega);refine⟨r',aJ,?_,q⟩;rw[Vc fM];dsimp only;rw[h2,ae];exact e
  ·have e:i=xs.length:=by omega
   subst e;refine⟨r,st,?_,h⟩;rw[VH (by omega)]
theorem oZ{I:Nat->bU->aI->Prop}{E:bU->aI->Prop}(hs:∀k r st,I k r st->(c r st=.ok false st/\E r st)\/(∃j,k=j+1/\c r st=.ok true st/\∃r2 st1,b r st=.ok (.nx r2) st1/\I j r2 st1)):
  ∀(n) {k} {r} {st},I k r st->k < n->∃r' aJ,ij c b n r st=.ok (.nx r') aJ/\E r' aJ
 |0,k,r,st,_,hk=>absurd hk (XI _)|n+1,k,r,st,h,hk=>by
  rcases hs k r st h with ⟨h1,h2⟩|⟨j,rfl,h1,r2,st1,h2,h3⟩
  ·exact⟨r,st,by rw[ij,h1,ae];rfl,h2⟩
  ·obtain⟨r',aJ,e,q⟩:=oZ hs n h3 (by omega);refine⟨r',aJ,?_,q⟩;rw[ij,h1,ae];simp only[if_true];rw[h2,ae];exact e
theorem o4{I:Nat->List P->aI->Prop}:∀{ps} {k} {ys} {st},(∀i p ys st,I (k+i) ys st->ps[i]?=some p->∃y st1,c (g p) st=.ok true st/\e (g p) st=.ok y st1/\I (k+i+1) (ys++[y]) st1)->I k ys st->
  ∃zs aJ,cJ g c e ps st=.ok zs aJ/\I (k+ps.length) (ys++zs) aJ
 |[],k,ys,st,_,h=>⟨[],st,rfl,by simpa using h⟩|p::ps,k,ys,st,hs,h=>by obtain⟨y,st1,h1,h2,h3⟩:=hs 0 p ys st h rfl;obtain⟨zs,aJ,e',q⟩:=o4 (g:=g) (c:=c) (e:=e) (I:=I) (ps:=ps) (k:=k+1) (ys:=ys++[y]) (st:=st1) (λi p ys st hi hp=>by have:=hs (i+1) p ys st (by rw[show k+(i+1)=k+1+i by omega];exact hi) (by simpa using hp);rw[show k+(i+1)+1=k+1+i+1 by omega] at this;exact this) h3;refine⟨y::zs,aJ,?_,by rw[Vt,show k+(ps.length+1)=k+1+ps.length by omega];simpa using q⟩;rw[cJ,h1,ae];simp only[if_true];rw[h2,ae,e',ae]
end
theorem kL(hF:Fs[k]?=some F)(Bg:F.sh=true)(hl:ps.length=F.np)(hr:ah (callC Fs n) F.body (ay F.nn ps) st=.ok (.nx r) aJ):callC Fs (n+1) k ps st=.ok (.d .bq) aJ:=by rw[ik,hF];simp only[Bg,if_true,hl,hr,Ho]
theorem Iy{A L B:aI}(h:t < L.length):(A++L++B).set (A.length+t) x=A++L.set t x++B:=by rw[V1,Yh _ _ (by omega),V1];congr 1;rw[show A.length+t - A.length=t by omega,List.set_append_left _ _ h]
theorem Iz{A L B:aI}(h:t < L.length):(A++L++B)[A.length+t]?=L[t]?:=by rw[V1,Vz (by omega),show A.length+t - A.length=t by omega,Vf h]
theorem jr:∀(xs) (k i:Nat),(dg k xs)[i]?=(xs[i]?).map λx=>.d (.tup [.int ((k+i:Nat):Int),x])
 |[],k,i=>by simp[dg]|x::xs,k,0=>by simp[dg]|x::xs,k,i+1=>by rw[dg,Vk,jr xs (k+1) i,Vk,show k+1+i=k+(i+1) by omega]
theorem jt:∀(xs) (k),(dg k xs).length=xs.length
 |[],k=>rfl|x::xs,k=>by rw[dg,Vt,Vt,jt xs (k+1)]
theorem iy{i:Nat}(h:st[n]?=some (.lst xs))(hp:xs[i]?=some p):xm (.obj n) (.d (.int (i:Int))) st=some p:=by
 unfold xm;have h1:aX st (.obj n)=none:=by unfold aX kC;simp[h,gq]
 rw[h1];unfold Lj bD aR;simp only[h,VS];exact dN hp
theorem fi(h:st[n]?=some (.lst xs))(hl:xs.length < av):yc (.obj n) v st=some (st.set n (.lst (xs++[v]))):=by unfold yc;simp[h,hl]
theorem iU(h:st[n]?=some (.lst xs)):aR st (.obj n)=some xs:=by unfold aR;simp[h]
theorem iV(h:st[n]?=some (.lst xs)):lr .len [.obj n] st=some (.d (.int xs.length)):=by simp[lr,aX,kC,gq,bD,aR,h]
theorem Fy(h:st[n]?=some (.dK kvs)):lr .len [.obj n] st=some (.d (.int kvs.length)):=by simp[lr,aX,kC,gq,h,Hn]
theorem wQ{n i:Nat}{xs:List P}{v:P}(h:st[n]?=some (.lst xs))(hi:i < xs.length):oN (.obj n) (.d (.int (i:Int))) v st=some (st.set n (.lst (xs.set i v))):=by
 have:xC xs.length (i:Int)=some i:=by unfold xC;simp;omega
 unfold oN;simp[h,yd,this]
def cell(ns:List Int)(k:Nat):Int:=ns.getD k 0
def yL(ns:List Int)(k:Nat):Int:=(cell ns k+7919*k+1)*48271 % 2147483647
def mixed(ns:List Int)(k:Nat):Int:=(yL ns k*yL ns k+7*yL ns k+k) % 2147483629
theorem bE i{j:Int}(h:0 < j):0<=i % j/\i % j < j:=⟨Int.emod_nonneg _ (by omega),Int.emod_lt_of_pos _ h⟩
def yM(x:Int)(k:Nat):Int:=(x+104729*k+17)*69621 % 2147483647
def drawn(x:Int)(k:Nat):Int:=(yM x k*yM x k+3*yM x k+k) % 2147483629
abbrev cM:=List (Nat×List Nat)
def nD(n:Nat):D:=.int (n:Int)
def wD(u:List Nat):D:=.tup (u.map nD)
def bY(s:Nat×List Nat):D:=.tup [nD s.1,wD s.2]
def mD(m:cM):D:=.tup (m.map bY)
structure dv(w:Nat)(m:cM):Prop where
 ne:0 < m.length
 good:∀s∈m,s.1<=1
 len:∀s∈m,s.2.length=w
 lt:∀s∈m,∀t∈s.2,t < m.length
def row(m:cM)(s:Nat):Nat×List Nat:=m.getD s (0,[])
def aZ(m:cM)(s a:Nat):Nat:=(row m s).2.getD a 0
def gd(m:cM)(s:Nat):Nat:=(row m s).1
def walk(m:cM)(s:Nat)(u:List Nat):Nat:=u.foldl (aZ m) s
def CY(m:cM)(u:List Nat):Bool:=gd m (walk m 0 u)==1
theorem aS(h:s < m.length):row m s∈m:=by unfold row;rw[Vd,Vc h];exact Wa h
theorem wR(h:s < m.length):m[s]?=some (row m s):=by unfold row;rw[Vd,Vc h];rfl
theorem dv.aZ{w:Nat}{m:cM}(k:dv w m){s a:Nat}(hs:s < m.length)(ha:a < w):aZ m s a < m.length:=by have hr:=aS hs;have hl:=k.len _ hr;unfold Y.aZ;rw[Vd,Vc (by omega)];exact k.lt _ hr _ (Wa _)
theorem dv.walk{w:Nat}{m:cM}(k:dv w m):∀{u:List Nat} {s:Nat},s < m.length->(∀a∈u,a < w)->walk m s u < m.length
 |[],s,hs,_=>hs|a::u,s,hs,hu=>dv.walk (u:=u) k (k.aZ hs (hu a Vh)) λb hb=>hu b (Vb _ hb)
theorem yN{s:Nat}(h:s < m.length):om (m.map bY) (s:Int)=some (bY (row m s)):=dN (by rw[Vi,wR h];rfl)
theorem Qc(k:dv w m)(h:s < m.length)(ha:a < w):om ((row m s).2.map nD) (a:Int)=some (nD (aZ m s a)):=by have hl:=k.len _ (aS h);refine dN ?_;rw[Vi,Vc (by omega)];unfold aZ;rw[Vd,Vc (by omega)];rfl
theorem IA(k:dv w m)(h:s < m.length)(ha:a < w)(e1:aa C em r st=.ok (.d (mD m)) st)(e2:aa C es r st=.ok (.d (.int (s:Int))) st)(e3:aa C ea r st=.ok (.d (.int (a:Int))) st):
  aa C (.ix (.ix (.ix em es) (.cst (.int 1))) ea) r st=.ok (.d (.int (aZ m s a:Nat))) st:=by
 simp[e1,e2,e3,mD,yN h,bY,wD,Qc k h ha,nD]
theorem nM{r:bU}{st:aI}{m:cM}{em es:E}{s:Nat}(h:s < m.length)(e1:aa C em r st=.ok (.d (mD m)) st)(e2:aa C es r st=.ok (.d (.int (s:Int))) st):
  aa C (.ix (.ix em es) (.cst (.int 0))) r st=.ok (.d (.int (gd m s:Nat))) st:=by
 simp[e1,e2,mD,yN h,bY,nD,gd]
theorem vE{r:bU}(k:dv w m)(hM:r[iM]?=some (some (.d (mD m))))(h1:iM≠iS)(h2:iM≠iL)(h3:iS≠iL)(hS:iS < r.length)(hL:iL < r.length):
  ∀(u) (s) (x),s < m.length->(∀a∈u,a < w)->
  ∃y,forL (gU (.nm iL)) (ah C [.set iS (.ix (.ix (.ix (.var iM) (.var iS)) (.cst (.int 1))) (.var iL))]) ((u.map nD).map P.d) ((r.set iS (some (.d (.int (s:Int))))).set iL x) st
   =.ok (.nx ((r.set iS (some (.d (.int (walk m s u:Nat))))).set iL y)) st
 |[],s,x,_,_=>⟨x,rfl⟩|a::u,s,x,hs,hu=>by
  have ha:=hu a Vh;obtain⟨y,ih⟩:=vE (C:=C) (st:=st) k hM h1 h2 h3 hS hL u (aZ m s a) (some (.d (.int (a:Int)))) (k.aZ hs ha) λb hb=>hu b (Vb _ hb);refine⟨y,?_⟩;rw[Vo,Vo,forL,gU,aq,ae,aaF];have e:ah C [.set iS (.ix (.ix (.ix (.var iM) (.var iS)) (.cst (.int 1))) (.var iL))] ((r.set iS (some (.d (.int (s:Int))))).set iL (some (.d (nD a)))) st
    =.ok (.nx ((r.set iS (some (.d (.int (aZ m s a:Nat))))).set iL (some (.d (.int (a:Int)))))) st:=by
   refine ag (aV (st1:=st) (IA k hs ha ?_ ?_ ?_)) ?_;·rw[aL,Ve (λz=>h2 z.symm),Ve (λz=>h1 z.symm),hM];rfl
   ·rw[aL,Ve (λz=>h3 z.symm),VB hS];rfl
   ·rw[aL,VB (by simpa using hL)];rfl
   ·rw[ak,List.set_comm _ _ (λz=>h3 z.symm),aaF];rfl
  rw[e,ae];exact ih
def Gu(x:Int)(w c:Nat):cM:=(U8 c).map λk=>((drawn x (7*k+5) % 3 % 2).toNat,(U8 w).map λl=>(drawn x (7*k+l) % (c:Int)).toNat)
theorem MB x w(hc:0 < c):dv w (Gu x w c):=by
 refine⟨by simp[Gu];exact hc,λs hs=>?_,λs hs=>?_,λs hs t ht=>?_⟩<;>
  (simp only[Gu,W8,Wi] at hs;obtain⟨k,hk,rfl⟩:=hs)
 ·have:=bE (drawn x (7*k+5) % 3) (show(0:Int) < 2 by decide);dsimp only;omega
 ·simp
 ·simp only[W8,Wi] at ht;obtain⟨l,hl,rfl⟩:=ht;have:=bE (drawn x (7*k+l)) (show(0:Int) < (c:Int) by omega);simp only[Gu,Vg,VQ];omega
theorem IC x w c:(Gu x w c).length=c:=by simp[Gu]
theorem Qd{j:Nat}(h:j < 1000000):qp [.d (.int (j:Int))]=some ((U8 j).map λk=>.d (.int (k:Int))):=by
 have c1: -jn<=(j:Int)/\(j:Int) < jn:=by unfold jn;omega
 unfold qp;simp only[if_pos c1,CN];congr 1;simp
theorem bR{j:Nat}(h:aa C e r st=.ok (.d (.int (j:Int))) st)(hj:j < 1000000):cq C (.gG [e]) r st=.ok ((U8 j).map λk:Nat=>.d (.int (k:Int))) st:=by rw[BN,aD,h,ae,aW,ae,ae,Qd hj,aq]
theorem UA(n:Nat):((n:Int)==1)=(n==1):=by rw[XM];simp;omega
end Y
namespace Y
abbrev Wd(w:Nat)(u:List Nat):Prop:=∀a∈u,a < w
theorem Wd.nil:Wd w []:=λa h=>by cases h
theorem Wd.cons(ha:a < w)(h:Wd w u):Wd w (a::u):=λb hb=>by
 rcases W4.mp hb with z|z;·rw[z];exact ha
 ·exact h b z
theorem Wd.tail(h:Wd w (a::u)):Wd w u:=λb hb=>h b (Vb _ hb)
theorem Wd.head(h:Wd w (a::u)):a < w:=h a Vh
theorem Wd.app(h:Wd w u)(h':Wd w v):Wd w (u++v):=λb hb=>by
 rcases Xr.mp hb with z|z;·exact h b z
 ·exact h' b z
def gI(w:Nat)(m:cM)(s:Nat)(m':cM)(s':Nat):Prop:=∀u,Wd w u->gd m (walk m s u)=gd m' (walk m' s' u)
theorem gI.refl:gI w m s m s:=λ_ _=>rfl
theorem gI.symm(h:gI w m s m' s'):gI w m' s' m s:=λu hu=>(h u hu).symm
theorem gI.trans(h:gI w m s m' s')(h':gI w m' s' m2 s2):gI w m s m2 s2:=λu hu=>(h u hu).trans (h' u hu)
theorem gI.step(h:gI w m s m' s')(ha:a < w):gI w m (aZ m s a) m' (aZ m' s' a):=λu hu=>h (a::u) (hu.cons ha)
theorem gI.good(h:gI w m s m' s'):gd m s=gd m' s':=h [] Wd.nil
def Red(w:Nat)(m:cM):Prop:=∀s t,s < m.length->t < m.length->gI w m s m t->s=t
def gY:List Nat->Nat->Option Nat
 |[],c=>some c|s::ss,c=>if s < c then gY ss c else if s=c then gY ss (c+1) else none
def gB:cM->Nat->Nat->Option Nat
 |[],_,c=>some c|q::qs,k,c=>if k < c then(gY q.2 c).bind λc'=>gB qs (k+1) c' else none
structure lZ(w:Nat)(m:cM):Prop where
 ok:dv w m
 red:Red w m
 ord:gB m 0 1=some m.length
theorem BR:∀{m} {k c d},gB m k c=some d->m=[]\/k < c
 |[],k,c,d,h=>.inl rfl|q::qs,k,c,d,h=>by
  simp only[gB] at h;split at h;·exact .inr ‹_›
  ·cases h
theorem sR(hr:Red w m)(Np:Red w m'):∀{ss ID} {c d d'},ss.length=ID.length->(∀(i s s':Nat),ss[i]?=some s->ID[i]?=some s'->gI w m s m' s'/\s < m.length/\s' < m'.length)->
  (∀s,s < c->gI w m s m' s/\s < m.length/\s < m'.length)->gY ss c=some d->gY ID c=some d'->ss=ID/\d=d'/\∀s,s < d->gI w m s m' s/\s < m.length/\s < m'.length
 |[],[],c,d,d',_,_,hc,h,h'=>by simp[gY] at h h';subst h;subst h';exact⟨rfl,rfl,hc⟩|s::ss,s'::ID,c,d,d',hl,hs,hc,h,h'=>by
  obtain⟨q,q1,q2⟩:=hs 0 s s' rfl rfl;have rH:∀(i t t':Nat),ss[i]?=some t->ID[i]?=some t'->gI w m t m' t'/\t < m.length/\t' < m'.length:=λi t t' e e'=>hs (i+1) t t' (by simpa using e) (by simpa using e');have u9:ss.length=ID.length:=by simpa using hl
  have eq1:s < c->s=s':=λh1=>by obtain⟨a,b,c1⟩:=hc s h1;exact Np s s' c1 q2 (a.symm.trans q)
  have eq2:s' < c->s=s':=λh1=>by obtain⟨a,b,c1⟩:=hc s' h1;exact hr s s' q1 b (q.trans a.symm)
  simp only[gY] at h h';by_cases h1:s < c;·have e:=eq1 h1;subst e;rw[if_pos h1] at h h';obtain⟨a,b,c1⟩:=sR hr Np u9 rH hc h h';exact⟨by rw[a],b,c1⟩
  ·have h2:¬s' < c:=λz=>h1 (by rw[eq2 z];exact z);rw[if_neg h1] at h;rw[if_neg h2] at h';split at h
   ·split at h'
    ·rename_i e e';subst e;subst e';have Kt:∀t,t < s'+1->gI w m t m' t/\t < m.length/\t < m'.length:=λt ht=>by
      by_cases z:t < s';·exact hc t z
      ·have:t=s':=by omega
       subst this;exact⟨q,q1,q2⟩
     obtain⟨a,b,c1⟩:=sR hr Np u9 rH Kt h h';exact⟨by rw[a],b,c1⟩
    ·cases h'
   ·cases h
theorem nN(h:m.drop k=q::qs):k < m.length/\row m k=q/\m.drop (k+1)=qs:=by
 have hk:k < m.length:=by
  by_cases z:k < m.length;·exact z
  ·rw[YT (by omega)] at h;cases h
 rw[V8 hk] at h;injection h with h1 h2;refine⟨hk,?_,h2⟩;unfold row;rw[Vd,Vc hk];exact h1
theorem yO(k:dv w m)(k':dv w m')(hr:Red w m)(Np:Red w m'):∀{qs qs'} {j c d d'},m.drop j=qs->m'.drop j=qs'->(∀s,s < c->gI w m s m' s/\s < m.length/\s < m'.length)->
  gB qs j c=some d->gB qs' j c=some d'->m.length=d->m'.length=d'->qs=qs'
 |[],[],j,c,d,d',_,_,_,_,_,_,_=>rfl|[],q'::qs',j,c,d,d',e,e',hc,h,h',hd,A4=>by
  have hj:j < m'.length:=(nN e').1;have Ul:m.length<=j:=by
   by_cases z:j < m.length;·rw[V8 z] at e;cases e
   ·omega
  rcases BR h' with z|z;·cases z
  ·have:=(hc j z).2.1;omega
 |q::qs,[],j,c,d,d',e,e',hc,h,h',hd,A4=>by
  have hj:j < m.length:=(nN e).1;have Ul:m'.length<=j:=by
   by_cases z:j < m'.length;·rw[V8 z] at e';cases e'
   ·omega
  rcases BR h with z|z;·cases z
  ·have:=(hc j z).2.2;omega
 |q::qs,q'::qs',j,c,d,d',e,e',hc,h,h',hd,A4=>by
  obtain⟨g1,g2,g3⟩:=nN e;obtain⟨g1',UB,g3'⟩:=nN e';simp only[gB] at h h';split at h
  ·rename_i hj;rw[if_pos hj] at h';obtain⟨sj,_,_⟩:=hc j hj;have l1:q.2.length=w:=by rw[<-g2];exact k.len _ (aS g1)
   have l2:q'.2.length=w:=by rw[<-UB];exact k'.len _ (aS g1')
   cases e1:gY q.2 c with
   |none=>rw[e1] at h;cases h|some c1=>
    cases e2:gY q'.2 c with
    |none=>rw[e2] at h';cases h'|some c2=>
     rw[e1] at h;rw[e2] at h';obtain⟨a,b,c3⟩:=sR hr Np (l1.trans l2.symm) (λi s s' hs rV=>by
      have hi:i < w:=by rw[<-l1];exact(List.getElem?_eq_some_iff.mp hs).1
      have z1:aZ m j i=s:=by unfold aZ;rw[g2,Vd,hs];rfl
      have z2:aZ m' j i=s':=by unfold aZ;rw[UB,Vd,rV];rfl
      rw[<-z1,<-z2];exact⟨sj.step hi,k.aZ g1 hi,k'.aZ g1' hi⟩) hc e1 e2
     subst b;have e3:=yO k k' hr Np g3 g3' c3 h h' hd A4;have e4:q.1=q'.1:=by have:=sj.good;unfold gd at this;rw[g2,UB] at this;exact this
     rw[e3,aaZ e4 a]
  ·cases h
theorem lZ.one(h:lZ w m)(h':lZ w m')(hs:gI w m 0 m' 0):m=m':=
 yO h.ok h'.ok h.red h'.red (j:=0) (qs:=m) (qs':=m') rfl rfl (λs hc=>by
  have:s=0:=by omega
  subst this;exact⟨hs,h.ok.ne,h'.ok.ne⟩) h.ord h'.ord rfl rfl
end Y
namespace Y
open Classical
theorem filter_le(h:∀x,p x=true->q x=true):∀l:List Nat,(l.filter p).length<=(l.filter q).length
 |[]=>Vj _|x::l=>by have ih:=filter_le h l;cases hp:p x with|true=>rw[VR hp,VR (h x hp)];simp;exact ih|false=>rw[V0 (by simp[hp])];cases hq:q x with|true=>rw[VR hq];simp;omega|false=>rw[V0 (by simp[hq])];exact ih
theorem filter_lt(h:∀x,p x=true->q x=true)(h1:p y=false)(h2:q y=true):∀l:List Nat,y∈l->(l.filter p).length < (l.filter q).length
 |[],z=>by cases z|x::l,z=>by
  have il:=filter_le h l;rcases W4.mp z with e|e;·subst e;rw[V0 (by simp[h1]),VR h2];simp;omega
  ·have ih:=filter_lt h h1 h2 l e;cases hp:p x with|true=>rw[VR hp,VR (h x hp)];simp;exact ih|false=>rw[V0 (by simp[hp])];cases hq:q x with|true=>rw[VR hq];simp;omega|false=>rw[V0 (by simp[hq])];exact ih
def hU(w:Nat)(m:cM)(k s t:Nat):Prop:=∀u,Wd w u->u.length<=k->gd m (walk m s u)=gd m (walk m t u)
variable{w:Nat}{m:cM}
theorem hU.refl:hU w m k s s:=λ_ _ _=>rfl
theorem hU.symm(h:hU w m k s t):hU w m k t s:=λu hu hl=>(h u hu hl).symm
theorem hU.trans(h:hU w m k s t)(h':hU w m k t r):hU w m k s r:=λu hu hl=>(h u hu hl).trans (h' u hu hl)
theorem hU.mono(h:hU w m k s t)(hj:j<=k):hU w m j s t:=λu hu hl=>h u hu (V3 hl hj)
theorem hU.step(h:hU w m (k+1) s t)(ha:a < w):hU w m k (aZ m s a) (aZ m t a):=λu hu hl=>h (a::u) (hu.cons ha) (by simp;omega)
theorem hU.BS(h0:gd m s=gd m t)(h:∀a,a < w->hU w m k (aZ m s a) (aZ m t a)):hU w m (k+1) s t:=λu hu hl=>by cases u with|nil=>exact h0|cons a u=>exact h a hu.head u hu.tail (by simpa using hl)
theorem hU.Fz(ok:dv w m)(hk:∀s t,s < m.length->t < m.length->hU w m k s t->hU w m (k+1) s t):∀(j) {s t},s < m.length->t < m.length->hU w m k s t->hU w m (k+j) s t
 |0,s,t,_,_,h=>h|j+1,s,t,hs,ht,h=>by have h1:=hk s t hs ht h;exact hU.BS (h [] Wd.nil (WE _)) λa ha=>hU.Fz ok hk j (ok.aZ hs ha) (ok.aZ ht ha) (h1.step ha)
theorem hU.MC(ok:dv w m)(hk:∀s t,s < m.length->t < m.length->hU w m k s t->hU w m (k+1) s t)(hs:s < m.length)(ht:t < m.length)(h:hU w m k s t):gI w m s m t:=λu hu=>hU.Fz ok hk u.length hs ht h u hu (by omega)
noncomputable def rep(w:Nat)(m:cM)(k s:Nat):Bool:=decide (∀t,t < s->¬hU w m k t s)
noncomputable def sT(w:Nat)(m:cM)(k:Nat):Nat:=((U8 m.length).filter (rep w m k)).length
theorem yP(p:Nat->Prop):∀n,p n->∃r,r<=n/\p r/\∀t,t < r->¬p t:=λn=>by
 induction n using Nat.strongRecOn with
 |_ n ih=>
  intro h;by_cases z:∃t,t < n/\p t;·obtain⟨t,ht,hp⟩:=z;obtain⟨r,h1,h2,h3⟩:=ih t ht hp;exact⟨r,by omega,h2,h3⟩
  ·exact⟨n,Vj _,h,λt ht hp=>z ⟨t,ht,hp⟩⟩
theorem IE(hs:s < m.length)(ht:t < m.length)(h:hU w m k s t)(hn:¬hU w m (k+1) s t):sT w m k < sT w m (k+1):=by
 obtain⟨r,r1,r2,r3⟩:=yP (λx=>hU w m k x s) s hU.refl;have go:∀y,y < m.length->hU w m k y s->¬hU w m (k+1) y r->sT w m k < sT w m (k+1):=λy hy e n=>by
  obtain⟨z,z1,z2,z3⟩:=yP (λx=>hU w m (k+1) x y) y hU.refl;have e2:hU w m k r z:=r2.trans (e.symm.trans (z2.mono (Xb _)).symm);have hz:r≠z:=λc=>by subst c;exact n z2.symm
  have fM:r < z:=by
   rcases Nat.lt_or_ge r z with c|c;·exact c
   ·exact absurd ((z2.mono (Xb k)).trans e) (r3 z (by omega))
  refine filter_lt (y:=z) (λx hx=>?_) ?_ ?_ _ (by simp;omega);·simp only[rep,decide_eq_true_eq] at hx ⊢;exact λt' h1 h2=>hx t' h1 (h2.mono (Xb _))
  ·simp only[rep,decide_eq_false_iff_not];exact λc=>c r fM e2
  ·simp only[rep,decide_eq_true_eq];exact λt' h1 h2=>z3 t' h1 (h2.trans z2)
 by_cases c:hU w m (k+1) s r;·exact go t ht h.symm λd=>hn (c.trans d.symm)
 ·exact go s hs hU.refl c
theorem IF k:sT w m k<=m.length:=by unfold sT;exact V3 (XE _ _) (by simp)
theorem FA(ok:dv w m)k:0 < sT w m k:=by unfold sT;refine Xa (a:=0) ?_;rw[Wo];exact⟨by simpa using ok.ne,by simp[rep]⟩
theorem CZ(ok:dv w m):∃k,k < m.length/\∀s t,s < m.length->t < m.length->hU w m k s t->hU w m (k+1) s t:=by
 apply VF;intro hn;have Ea:∀k,k < m.length->sT w m k < sT w m (k+1):=λk hk=>by apply VF;intro hc;refine hn ⟨k,hk,λs t hs ht h=>?_⟩;apply VF;intro he;exact hc (IE hs ht h he)
 have grow:∀k,k<=m.length->k < sT w m k:=λk=>by induction k with|zero=>intro _;exact FA ok 0|succ k ih=>intro hk;have h1:=ih (by omega);have h2:=Ea k (by omega);omega
 have h1:=grow m.length (Vj _);have h2:=IF (w:=w) (m:=m) m.length;omega
theorem wU(ok:dv w m)(hs:s < m.length)(ht:t < m.length)(h:hU w m m.length s t):gI w m s m t:=by obtain⟨k,hk,pJ⟩:=CZ ok;exact hU.MC ok pJ hs ht (h.mono (Yr hk))
end Y
namespace Y
open PySem
def lM(x:D)(h:Int):Bool:=match x with|.int i=>decide (0<=i)&&decide (i<=h)|_=>false
def wW(x:D)(w:Int)(h:Int):Bool:=match x with|.tup ss=>decide ((ss.length:Int)=w)&&ss.all λs=>lM s h|_=>false
def iz(w h:Int):D->Bool
 |.tup [g,ss]=>lM g 1&&wW ss w h|_=>false
def p6(x:D)(w:Int):Bool:=match x with|.tup xs=>!xs.isEmpty&&xs.all λs=>iz w ((xs.length:Int) - 1) s|_=>false
theorem FC(k:dv w m):p6 (mD m) (w:Int)=true:=by
 unfold p6 mD;dsimp only;rw[U9];refine⟨?_,?_⟩;·have:=k.ne;cases m with|nil=>simp at this|cons a b=>rfl
 ·rw[W2];intro x hx;rw[W8] at hx;obtain⟨s,hs,rfl⟩:=hx;have h1:=k.good s hs;have h2:=k.len s hs;unfold iz bY;simp only[U9];refine⟨?_,?_⟩;·simp[lM,nD];omega
  ·unfold wW wD;simp only[U9,decide_eq_true_eq,Vg,W2,W8,forall_exists_index,and_imp];refine⟨by omega,?_⟩;rintro y t ht rfl;have:=k.lt s hs t ht;simp[lM,nD];omega
section
section
variable{α:Type}[DecidableEq α]
theorem gb{ss xs:List α}(hn:ss.Nodup)(hs:∀s∈ss,s∈xs):ss.length<=xs.length:=by
 induction ss generalizing xs with
 |nil=>simp|cons s ss ih=>
  rw[WI] at hn;have h1:s∈xs:=hs s Vh;have:=ih (xs:=xs.erase s) hn.2 λt ht=>by have:t≠s:=λz=>hn.1 (z▸ht);exact(Yn this).mpr (hs t (Vb _ ht))
  rw[XX h1] at this;have:=Xa h1;simp;omega
theorem MD{ss xs:List α}(hn:ss.Nodup)(hs:∀s∈ss,s∈xs)(hl:xs.length<=ss.length):∀x∈xs,x∈ss:=by
 intro x IG;apply VF;intro hc;have:=gb (ss:=ss) (xs:=xs.erase x) hn λt ht=>by have:t≠x:=λz=>hc (z▸ht);exact(Yn this).mpr (hs t ht)
 rw[XX IG] at this;have:=Xa IG;omega
end
abbrev o5:=List (Nat×Nat)
def ux(ps:o5)(q:Nat×Nat):o5:=if q∈ps then ps else ps++[q]
theorem ju:x∈ux ps q↔x∈ps\/x=q:=by
 unfold ux;split;·rename_i h;exact⟨.inl,λz=>by rcases z with z|z;exact z;rw[z];exact h⟩
 ·simp
theorem IH(h:ps.Nodup):(ux ps q).Nodup:=by
 unfold ux;split;·exact h
 ·rename_i hq;rw[V5];exact⟨h,by simp,λa ha b hb=>by simp at hb;subst hb;exact λz=>hq (z▸ha)⟩
def yQ(n:Nat):o5:=(U8 n).flatMap λi=>((U8 n).filter λj=>decide (j≠i)).map λj=>(i,j)
theorem nO:q∈yQ n↔q.1 < n/\q.2 < n/\q.1≠q.2:=by
 unfold yQ;simp only[Y9,Wi,W8,Wo,decide_eq_true_eq];constructor;·rintro⟨i,hi,j,⟨hj,fc⟩,rfl⟩;exact⟨hi,hj,λz=>fc z.symm⟩
 ·rintro⟨h1,h2,h3⟩;exact⟨q.1,h1,q.2,⟨h2,λz=>h3 z.symm⟩,rfl⟩
theorem sU{α β:Type}{f:α->List β}:∀{l:List α},l.Nodup->(∀x∈l,(f x).Nodup)->(∀x∈l,∀y∈l,∀z,z∈f x->z∈f y->x=y)->(l.flatMap f).Nodup
 |[],_,_,_=>by simp|a::l,hn,h1,h2=>by rw[WI] at hn;rw[Yk,V5];refine⟨h1 a Vh,sU hn.2 (λx hx=>h1 x (Vb _ hx)) (λx hx y hy=>h2 x (Vb _ hx) y (Vb _ hy)),λx hx y hy e=>?_⟩;subst e;rw[Y9] at hy;obtain⟨b,hb,hy⟩:=hy;have:=h2 a Vh b (Vb _ hb) x hx hy;exact hn.1 (this▸hb)
theorem II n:(yQ n).Nodup:=by
 unfold yQ;refine sU Xj (λi _=>?_) (λx _ y _ z hz Ow=>?_);·rw[List.nodup_iff_pairwise_ne,List.pairwise_map];refine List.Pairwise.imp (λ{a b} h=>?_) ((Xj).filter _);intro e;injection e with _ e2;exact h e2
 ·simp only[W8] at hz Ow;obtain⟨_,_,rfl⟩:=hz;obtain⟨_,_,e⟩:=Ow;injection e with e1 _;exact e1.symm
theorem l4:∀{l:List Nat} {i},l.Nodup->i∈l->(l.filter λj=>decide (j≠i)).length+1=l.length
 |[],i,_,h=>by cases h|x::l,i,hn,h=>by
  rw[WI] at hn;by_cases e:x=i
  ·subst e;rw[V0 (by simp)];have:(l.filter λj=>decide (j≠x))=l:=by rw[List.filter_eq_self];intro a ha;rw[decide_eq_true_eq];exact λz=>hn.1 (z▸ha)
   rw[this];rfl
  ·rw[VR (by simp[e])];have:=l4 hn.2 (by rcases W4.mp h with z|z;exact absurd z.symm e;exact z);simp;simpa using this
theorem yR n:(yQ n).length+n=n*n:=by
 have key:∀l:List Nat,(∀i∈l,i < n)->(l.flatMap λi=>((U8 n).filter λj=>decide (j≠i)).map λj=>(i,j)).length+l.length=l.length*n:=by intro l;induction l with|nil=>intro _;simp|cons i l ih=>intro h;have h1:=ih λj hj=>h j (Vb _ hj);have h2:=l4 (l:=U8 n) (i:=i) Xj (by simpa using h i Vh);rw[VQ] at h2;rw[Yk,Vy,Vg,Vt,YR];omega
 have:=key (U8 n) (λi hi=>by simpa using hi);simpa[yQ] using this
variable{w:Nat}{m:cM}
def p1(m:cM)(i:Nat)(ps:o5)(j:Nat):o5:=if gd m i≠gd m j then ux ps (i,j) else ps
def hit(m:cM)(ps:o5)(i j:Nat):Bool:=((row m i).2.zip (row m j).2).any λq=>decide (q∈ps)
def p2(m:cM)(i:Nat)(ps:o5)(j:Nat):o5:=if hit m ps i j=true then ux ps (i,j) else ps
def j8(f:Nat->o5->Nat->o5)(n:Nat)(ps:o5):o5:=(U8 n).foldl (λps i=>(U8 n).foldl (f i) ps) ps
def cu(m:cM):o5:=(U8 m.length).foldl (λps _=>j8 (p2 m) m.length ps) (j8 (p1 m) m.length [])
structure bF(w:Nat)(m:cM)(ps:o5):Prop where
 nd:ps.Nodup
 lt:∀q∈ps,q.1 < m.length/\q.2 < m.length
 sd:∀q∈ps,¬gI w m q.1 m q.2
theorem bF.add(h:bF w m ps)(hi:i < m.length)(hj:j < m.length)(hn:¬gI w m i m j):bF w m (ux ps (i,j)):=by
 refine⟨IH h.nd,λq hq=>?_,λq hq=>?_⟩
 ·rcases ju.mp hq with z|z;·exact h.lt q z
  ·rw[z];exact⟨hi,hj⟩
 ·rcases ju.mp hq with z|z;·exact h.sd q z
  ·rw[z];exact hn
theorem zip_get{a b:List Nat}(h:(x,y)∈a.zip b):∃i,i < a.length/\i < b.length/\a.getD i 0=x/\b.getD i 0=y:=by
 obtain⟨i,hi,e⟩:=List.mem_iff_getElem.mp h;rw[Zl] at hi;refine⟨i,by omega,by omega,?_,?_⟩;·rw[ZX] at e;injection e with e1 e2;rw[Vd,Vc (by omega)];exact e1
 ·rw[ZX] at e;injection e with e1 e2;rw[Vd,Vc (by omega)];exact e2
theorem BU(ok:dv w m)(hi:i < m.length)(hj:j < m.length):hit m ps i j=true↔∃a,a < w/\(aZ m i a,aZ m j a)∈ps:=by
 have l1:=ok.len _ (aS hi);have l2:=ok.len _ (aS hj);unfold hit;rw[W1];constructor;·rintro⟨⟨x,y⟩,hq,hp⟩;rw[decide_eq_true_eq] at hp;obtain⟨a,h1,h2,e1,e2⟩:=zip_get hq;refine⟨a,by omega,?_⟩;unfold aZ;rw[e1,e2];exact hp
 ·rintro⟨a,ha,hp⟩;refine⟨(aZ m i a,aZ m j a),?_,by simpa using hp⟩;refine List.mem_iff_getElem.mpr ⟨a,by rw[Zl];omega,?_⟩;rw[ZX];unfold aZ;rw[Vd,Vd,Vc (by omega),Vc (by omega)];rfl
theorem FD(h:bF w m ps)(hi:i < m.length)(hj:j < m.length):bF w m (p1 m i ps j):=by
 unfold p1;split;·rename_i hg;exact h.add hi hj λsm=>hg sm.good
 ·exact h
theorem BV(ok:dv w m)(h:bF w m ps)(hi:i < m.length)(hj:j < m.length):bF w m (p2 m i ps j):=by
 unfold p2;split;·rename_i hg;obtain⟨a,ha,hp⟩:=(BU ok hi hj).mp hg;exact h.add hi hj λsm=>h.sd _ hp (sm.step ha)
 ·exact h
theorem dc{σ α:Type}{f:σ->α->σ}{J:σ->Prop}:∀{l:List α} {s},J s->(∀s,∀x∈l,J s->J (f s x))->J (l.foldl f s)
 |[],s,h,_=>h|x::l,s,h,hf=>dc (l:=l) (hf s x Vh h) λs y hy=>hf s y (Vb _ hy)
theorem sW{J:o5->Prop}(hf:∀ps i j,i < n->j < n->J ps->J (f i ps j))(h:J ps):J (j8 f n ps):=
 dc h λs i hi hs=>dc hs λs j hj hs=>hf s i j (by simpa using hi) (by simpa using hj) hs
theorem sX{σ α:Type}{f:σ->α->σ}{G:σ->Prop}{J:σ->Prop}{x:α}(hG:∀s y,J s->G s->G (f s y))(hJ:∀s y,J s->J (f s y))(hx:∀s,J s->G (f s x)):∀{l:List α} {s},x∈l->J s->G (l.foldl f s)
 |y::l,s,h,js=>by
  rcases W4.mp h with e|e;·subst e;exact(dc (J:=λs=>J s/\G s) (l:=l) ⟨hJ s x js,hx s js⟩ λs y _ ⟨a,b⟩=>⟨hJ s y a,hG s y a b⟩).2
  ·exact sX hG hJ hx (l:=l) e (hJ s y js)
theorem vF{J:o5->Prop}(hi:i < n)(hj:j < n)(mono:∀ps i j,∀q∈ps,q∈f i ps j)(hJ:∀ps i j,J ps->J (f i ps j))(hx:∀ps,J ps->(i,j)∈f i ps j)(h:J ps):(i,j)∈j8 f n ps:=by have inner:∀(s:o5) (k:Nat),J s->J ((U8 n).foldl (f k) s):=λs k hs=>dc hs λs j _ hs=>hJ s k j hs;have keep:∀(s:o5) (k:Nat),(i,j)∈s->(i,j)∈(U8 n).foldl (f k) s:=λs k hs=>dc (J:=λs=>(i,j)∈s) hs λs j' _ hs=>mono s k j' _ hs;exact sX (G:=λs=>(i,j)∈s) (J:=J) (x:=i) (λs k _ hs=>keep s k hs) (λs k hs=>inner s k hs) (λs hs=>sX (G:=λs=>(i,j)∈s) (J:=J) (x:=j) (λs k _ hs=>mono s i k _ hs) (λs k hs=>hJ s i k hs) (λs hs=>hx s hs) (by simpa using hj) hs) (by simpa using hi) h
theorem IJ ps i j:∀q∈ps,q∈p1 m i ps j:=λq hq=>by
 unfold p1;split;·exact ju.mpr (.inl hq)
 ·exact hq
theorem wX ps i j:∀q∈ps,q∈p2 m i ps j:=λq hq=>by
 unfold p2;split;·exact ju.mpr (.inl hq)
 ·exact hq
def vG(w:Nat)(m:cM)(k:Nat)(ps:o5):Prop:=∀i j,i < m.length->j < m.length->¬hU w m k i j->(i,j)∈ps
theorem Qe:vG w m 0 (j8 (p1 m) m.length []):=λi j hi hj hn=>by
 refine vF (J:=λ_=>True) hi hj IJ (λ_ _ _ _=>trivial) (λps _=>?_) trivial;unfold p1;have:gd m i≠gd m j:=λe=>hn λu hu hl=>by cases u with|nil=>exact e|cons a u=>simp at hl
 rw[if_pos this];exact ju.mpr (.inr rfl)
theorem Qf(ok:dv w m)(h:vG w m k ps):vG w m (k+1) (j8 (p2 m) m.length ps):=λi j hi hj hn=>by
 refine vF (J:=λs=>vG w m k s) hi hj wX (λps i j hs i' j' h1 h2 h3=>wX ps i j _ (hs i' j' h1 h2 h3)) (λs hs=>?_) h;by_cases hg:gd m i=gd m j
 ·have:∃a,a < w/\¬hU w m k (aZ m i a) (aZ m j a):=by apply VF;intro hc;exact hn (hU.BS hg λa ha=>VF λz=>hc ⟨a,ha,z⟩)
  obtain⟨a,ha,hk⟩:=this;unfold p2;rw[if_pos ((BU ok hi hj).mpr ⟨a,ha,hs _ _ (ok.aZ hi ha) (ok.aZ hj ha) hk⟩)];exact ju.mpr (.inr rfl)
 ·exact wX s i j _ (hs i j hi hj λe=>hg (e [] Wd.nil (WE _)))
theorem nP(ok:dv w m):bF w m (cu m):=by have h0:bF w m (j8 (p1 m) m.length []):=sW (J:=bF w m) (λps i j hi hj h=>FD h hi hj) ⟨by simp,(λ_ h=>nomatch h),(λ_ h=>nomatch h)⟩;exact dc (J:=bF w m) h0 λs _ _ h=>sW (J:=bF w m) (λps i j hi hj h=>BV ok h hi hj) h
theorem yS(ok:dv w m):vG w m m.length (cu m):=by
 have key:∀n,vG w m n ((U8 n).foldl (λps _=>j8 (p2 m) m.length ps) (j8 (p1 m) m.length [])):=λn=>by induction n with|zero=>exact Qe|succ n ih=>rw[Wn,XR];exact Qf ok ih
 exact key m.length
theorem AQ(ok:dv w m)(hi:i < m.length)(hj:j < m.length):(i,j)∈cu m↔¬gI w m i m j:=
 ⟨λh=>(nP ok).sd _ h,λh=>yS ok i j hi hj λe=>h (wU ok hi hj e)⟩
theorem AR(ok:dv w m):(cu m).length+m.length=m.length*m.length↔Red w m:=by
 have sd:=nP ok;have sub:∀q∈cu m,q∈yQ m.length:=λq hq=>nO.mpr ⟨(sd.lt q hq).1,(sd.lt q hq).2,λe=>sd.sd q hq (e▸gI.refl)⟩;have l1:=gb sd.nd sub;have l2:=yR m.length;constructor;·intro h s t hs ht sm;apply VF;intro fc;have:=MD sd.nd sub (by omega) (s,t) (nO.mpr ⟨hs,ht,fc⟩);exact sd.sd _ this sm
 ·intro hr;have:=gb (II m.length) (xs:=cu m) λq hq=>by obtain⟨h1,h2,h3⟩:=nO.mp hq;exact(AQ ok h1 h2).mpr λsm=>h3 (hr _ _ h1 h2 sm)
  omega
theorem bF.len(h:bF w m ps):ps.length<=m.length*m.length:=by have:=gb h.nd (xs:=yQ m.length) λq hq=>nO.mpr ⟨(h.lt q hq).1,(h.lt q hq).2,λe=>h.sd q hq (e▸gI.refl)⟩;have:=yR m.length;omega
end
def iJ(o:List Nat)(ss:List Nat):List Nat:=ss.foldl (λo s=>if s∈o then o else o++[s]) o
def uy(m:cM):List Nat->List Nat->Option (List Nat)
 |[],o=>some o|k::ks,o=>if o.length<=k then none else uy m ks (iJ o (row m (o.getD k 0)).2)
def Rq(o:List Nat):Prop:=∃i s:Nat,o[i]?=some s/\s≠i
theorem sY:∀{ss o} {i s:Nat},o[i]?=some s->(iJ o ss)[i]?=some s
 |[],o,i,s,h=>h|x::ss,o,i,s,h=>by
  unfold iJ;rw[Xs];refine sY (ss:=ss) ?_;split;·exact h
  ·rw[Vf (List.getElem?_eq_some_iff.mp h).1];exact h
theorem yT:∀{ks o o'},Rq o->uy m ks o=some o'->Rq o'
 |[],o,o',hb,h=>by cases h;exact hb|k::ks,o,o',⟨i,s,h1,h2⟩,h=>by
  simp only[uy] at h;split at h;·cases h
  ·exact yT ⟨i,s,sY h1,h2⟩ h
theorem IK n:¬Rq (U8 n):=λ⟨i,s,h1,h2⟩=>by have hi:=(List.getElem?_eq_some_iff.mp h1).1;rw[WA (by simpa using hi)] at h1;injection h1 with h1;exact h2 h1.symm
theorem mF:∀{ss} {c},match gY ss c with|some d=>iJ (U8 c) ss=U8 d|none=>Rq (iJ (U8 c) ss)
 |[],c=>rfl|s::ss,c=>by
  have e:iJ (U8 c) (s::ss)=if s < c then iJ (U8 c) ss else iJ (U8 c++[s]) ss:=by
   unfold iJ;rw[Xs];by_cases h:s < c;·rw[if_pos h,if_pos (by simpa using h)]
   ·rw[if_neg h,if_neg (by simpa using h)]
  rw[e];simp only[gY];by_cases h:s < c;·rw[if_pos h,if_pos h];exact mF
  ·rw[if_neg h,if_neg h];by_cases h2:s=c;·subst h2;rw[if_pos rfl,<-Wn];exact mF
   ·rw[if_neg h2];refine⟨c,s,sY ?_,h2⟩;rw[Vz (by simp)];simp
theorem yU:∀{qs} {j c},m.drop j=qs->(uy m (List.range' j qs.length) (U8 c)=some (U8 m.length)↔gB qs j c=some m.length)
 |[],j,c,h=>by
  simp only[WK,List.range'_zero,uy,gB,Yi];constructor;·intro e;have:=congrArg ZC e;simpa using this
  ·intro e;rw[e]
 |q::qs,j,c,h=>by
  obtain⟨h1,h2,h3⟩:=nN h;rw[Vt,List.range'_succ];simp only[uy,gB,VQ];by_cases hj:j < c
  ·rw[if_neg (by omega),if_pos hj];have e:(U8 c).getD j 0=j:=by rw[Vd,WA hj];rfl
   rw[e,h2];have key:=mF (ss:=q.2) (c:=c);cases hs:gY q.2 c with
   |some d=>rw[hs] at key;dsimp only at key;rw[key];exact yU h3|none=>
    rw[hs] at key;dsimp only at key;constructor;·intro z;exact absurd (yT key z) (IK _)
    ·intro z;cases z
  ·rw[if_pos (by omega),if_neg hj];exact⟨(λz=>nomatch z),(λz=>nomatch z)⟩
theorem wY:uy m (U8 m.length) [0]=some (U8 m.length)↔gB m 0 1=some m.length:=by have:=yU (m:=m) (qs:=m) (j:=0) (c:=1) rfl;rw[<-List.range_eq_range'] at this;exact this
theorem BW:∀{a b:List Nat},fW (a.map nD) (b.map nD)=decide (a=b)
 |[],[]=>rfl|[],_::_=>rfl|_::_,[]=>rfl|x::a,y::b=>by simp only[Vo,fW,nD,lK];rw[show fW (Yx nD a) (Yx nD b)=decide (a=b) from BW];rw[XM];simp;omega
theorem FE:∀a:List Nat,gp (a.map nD)=0
 |[]=>rfl|x::a=>by simp[gp,nD,g9];exact FE a
theorem FF(a:List Nat):bb (a.map λn=>P.d (nD n))=some (a.map nD):=by simp
theorem IL{o:List Nat}(h:st[k]?=some (.lst (o.map λn=>P.d (nD n)))):kD .nA (.d (nD s)) (.obj k) st=some (!decide (s∈o)):=by
 have e1:aX st (.obj k)=none:=by simp[aX,kC,h,gq]
 have e2:bD st (.obj k)=some (o.map λn=>P.d (nD n)):=by simp[bD,aR,h]
 have e3:(o.map nD).all pW=true:=by rw[W2];intro x hx;rw[W8] at hx;obtain⟨n,_,rfl⟩:=hx;rfl
 have e4:((o.map nD).any λy=>lK y (nD s))=decide (s∈o):=by
  rw[XM,W1,decide_eq_true_eq];constructor
  ·rintro⟨x,hx,he⟩;rw[W8] at hx;obtain⟨n,hn,rfl⟩:=hx;simp[nD,lK] at he;have:n=s:=by omega
   exact this▸hn
  ·intro hs;exact⟨nD s,W8.mpr ⟨s,hs,rfl⟩,by simp[nD,lK]⟩
 show(EI (.d (nD s)) (.obj k) st).map not=_;unfold EI;rw[e1];simp only[EH,VS,e2,FF,e3,e4];rw[if_pos (by rfl)];rfl
theorem jv{α σ:Type}{enc:α->P}{f:σ->α->σ}{S:σ->aI}{I:bU->Prop}{J:σ->Prop}:∀{xs:List α},
  (∀x∈xs,∀s r,J s->I r->∃r1 r2,g (enc x) r=some r1/\b r1 (S s)=.ok (.nx r2) (S (f s x))/\I r2/\J (f s x))->∀{s} {r},J s->I r->∃r',forL g b (xs.map enc) r (S s)=.ok (.nx r') (S (xs.foldl f s))/\I r'/\J (xs.foldl f s)
 |[],_,s,r,hj,hi=>⟨r,rfl,hi,hj⟩|x::xs,h,s,r,hj,hi=>by obtain⟨r1,r2,e1,e2,i2,j2⟩:=h x Vh s r hj hi;obtain⟨r',e,i',j'⟩:=jv (xs:=xs) (λy hy=>h y (Vb _ hy)) j2 i2;refine⟨r',?_,i',j'⟩;rw[Vo,forL,e1,aq,ae,e2,ae];exact e
def AS(q:Nat×Nat):List (Sum Int Str):=[.inl (q.1:Int),.inl (q.2:Int)]
def bA(ps:o5):O:=.dT (ps.map λq=>(AS q,.d (.bl true)))
theorem FG(h:AS q=AS p):q=p:=by unfold AS at h;simp only[List.cons.injEq,aat.injEq,and_true] at h;exact aaZ (by omega) (by omega)
theorem vH i j:qo (.d (.tup [nD i,nD j]))=some (AS (i,j)):=rfl
theorem yV(ps:o5)q:((ps.map λq=>(AS q,(P.d (.bl true)))).any λkv=>decide (kv.1=AS q))=decide (q∈ps):=by
 rw[XM,W1,decide_eq_true_eq];constructor;·rintro⟨x,hx,he⟩;rw[W8] at hx;obtain⟨p,hp,rfl⟩:=hx;rw[decide_eq_true_eq] at he;exact FG he▸hp
 ·intro h;exact⟨_,W8.mpr ⟨q,h,rfl⟩,by simp⟩
theorem yW(h:st[k]?=some (bA ps))(hl:ps.length < av)i j:oN (.obj k) (.d (.tup [nD i,nD j])) (.d (.bl true)) st=some (st.set k (bA (ux ps (i,j)))):=by
 have e:yd (bA ps) (.d (.tup [nD i,nD j])) (.d (.bl true))=some (bA (ux ps (i,j))):=by
  unfold yd bA Bn;simp only[Vg,if_pos hl,vH,VE];congr 2;unfold lL;rw[yV];unfold ux;by_cases hq:(i,j)∈ps
  ·rw[if_pos (by simpa using hq),if_pos hq,Xk];refine Zn λq _=>?_;simp only[Function.comp_apply];split;·rfl
   ·rfl
  ·rw[if_neg (by simpa using hq),if_neg hq,VU];rfl
 unfold oN;simp only[h,VS,e,VE]
theorem IM(h:st[k]?=some (bA ps))i j:kD .isin (.d (.tup [nD i,nD j])) (.obj k) st=some (decide ((i,j)∈ps)):=by
 show EI _ _ _=_;unfold EI;have e1:aX st (.obj k)=some (bA ps):=by simp[aX,kC,h,bA,gq]
 rw[e1];simp only[bA,nB,vH,VE];congr 1;unfold ff;rw[Yj,<-yV,XM,List.find?_isSome,W1]
theorem ME a b:EL (.d (wD a)) (.d (wD b))=some ((a.zip b).map λq=>D.tup [nD q.1,nD q.2]):=by unfold EL wD;simp only[List.zip_map,Xk];rfl
theorem MF(h:st[k]?=some (bA ps)):lr .len [.obj k] st=some (.d (.int ps.length)):=by
 have e1:aX st (.obj k)=some (bA ps):=by simp[aX,kC,h,bA,gq]
 unfold lr;simp only[e1,bA,Hn,Vg]
theorem FH bJ(o:O):(bJ++[o])[bJ.length]?=some o:=by simp
theorem FI bJ(o o':O):(bJ++[o]).set bJ.length o'=bJ++[o']:=by simp
end Y
namespace Y
structure mX where
 grp:List Nat
 mem:List (List Nat)
 wait:List Nat
 iH:List Bool
def putAll(fresh:Nat)(ss:List Nat)(g:List Nat):List Nat:=ss.foldl (λg s=>g.set s fresh) g
def aB(h:mX)(g:Nat)(ss:List Nat):mX:=
 if ss.length=(h.mem.getD g []).length then h else
  let rest:=(h.mem.getD g []).filter λs=>decide (s∉ss)
  let mem:=h.mem.set g rest++[ss]
  let grp:=putAll h.mem.length ss h.grp
  if h.iH.getD g false=true\/ss.length<=rest.length then⟨grp,mem,h.wait++[h.mem.length],(h.iH++[false]).set h.mem.length true⟩
  else⟨grp,mem,h.wait++[g],(h.iH++[false]).set g true⟩
def dA:List (Nat×List Nat)->Nat->Nat->List (Nat×List Nat)
 |[],g,s=>[(g,[s])]|(k,ss)::d,g,s=>if k=g then(k,ss++[s])::d else(k,ss)::dA d g s
def b7(grp:List Nat)(l:List Nat):List (Nat×List Nat):=l.foldl (λd s=>dA d (grp.getD s 0) s) []
def dO(m:cM)(a t:Nat):List Nat:=(U8 m.length).filter λs=>decide (aZ m s a=t)
def eK(m:cM)(h:mX)(T:List Nat)(a:Nat):mX:=(b7 h.grp (T.flatMap (dO m a))).foldl (λh e=>aB h e.1 e.2) h
theorem mG:∀{ss g},(putAll fresh ss g).length=g.length
 |[],g=>rfl|s::ss,g=>by unfold putAll;rw[Xs];exact(mG (ss:=ss)).trans (WJ ..)
theorem sZ:∀{ss g} {x},x < g.length->(putAll fresh ss g).getD x 0=if x∈ss then fresh else g.getD x 0
 |[],g,x,h=>by simp[putAll]|s::ss,g,x,h=>by
  have ih:=sZ (fresh:=fresh) (ss:=ss) (g:=g.set s fresh) (x:=x) (by simpa using h);unfold putAll at ih ⊢;rw[Xs,ih];by_cases hx:x∈ss;·rw[if_pos hx,if_pos (Vb _ hx)]
  ·rw[if_neg hx];by_cases e:x=s;·subst e;rw[if_pos Vh,Vd,VB h];rfl
   ·rw[if_neg (λz=>by rcases W4.mp z with z|z;exact e z;exact hx z),Vd,Ve (λz=>e z.symm),<-Vd]
theorem vI:∀{d} {k} {ss},(d.map (·.1)).Nodup->((k,ss)∈dA d g s↔(k≠g/\(k,ss)∈d)\/(k=g/\((∃r,(g,r)∈d/\ss=r++[s])\/((∀r,(g,r)∉d)/\ss=[s]))))
 |[],k,ss,_=>by simp only[dA,Wc,Prod.mk.injEq,WM,and_false,false_or,not_false_eq_true,implies_true,true_and,false_and,exists_false]|(j,rs)::d,k,ss,nd=>by
  simp only[Vo,WI] at nd;have hj:∀r,(j,r)∉d:=λr hr=>nd.1 (W8.mpr ⟨_,hr,rfl⟩);simp only[dA];split
  ·rename_i e;subst e;constructor
   ·intro h;rcases W4.mp h with h|h;·injection h with h1 h2;exact .inr ⟨h1,.inl ⟨rs,Vh,h2⟩⟩
    ·exact .inl ⟨λz=>hj ss (by rw[z] at h;exact h),Vb _ h⟩
   ·rintro(⟨h1,h2⟩|⟨h1,h2⟩)
    ·rcases W4.mp h2 with h|h;·injection h with h3 h4;exact absurd h3 h1
     ·exact Vb _ h
    ·subst h1;rcases h2 with ⟨r,hr,e⟩|⟨hn,e⟩
     ·rcases W4.mp hr with h|h;·injection h with h3 h4;rw[e,h4];exact Vh
      ·exact absurd h (hj r)
     ·exact absurd Vh (hn rs)
  ·rename_i e;have ih:=vI (g:=g) (s:=s) (d:=d) (k:=k) (ss:=ss) nd.2;constructor
   ·intro h;rcases W4.mp h with h|h;·injection h with h1 h2;subst h1;subst h2;exact .inl ⟨e,Vh⟩
    ·rcases ih.mp h with ⟨h1,h2⟩|⟨h1,h2⟩
     ·exact .inl ⟨h1,Vb _ h2⟩
     ·refine .inr ⟨h1,?_⟩;rcases h2 with ⟨r,hr,e2⟩|⟨hn,e2⟩
      ·exact .inl ⟨r,Vb _ hr,e2⟩
      ·refine .inr ⟨λr hr=>?_,e2⟩;rcases W4.mp hr with z|z;·injection z with z1 z2;exact e z1.symm
       ·exact hn r z
   ·rintro(⟨h1,h2⟩|⟨h1,h2⟩)
    ·rcases W4.mp h2 with h|h;·rw[h];exact Vh
     ·exact Vb _ (ih.mpr (.inl ⟨h1,h⟩))
    ·refine Vb _ (ih.mpr (.inr ⟨h1,?_⟩));rcases h2 with ⟨r,hr,e2⟩|⟨hn,e2⟩
     ·rcases W4.mp hr with z|z;·injection z with z1 z2;exact absurd z1.symm e
      ·exact .inl ⟨r,z,e2⟩
     ·exact .inr ⟨λr hr=>hn r (Vb _ hr),e2⟩
theorem jQ:∀{d},(dA d g s).map (·.1)=if g∈d.map (·.1) then d.map (·.1) else d.map (·.1)++[g]
 |[]=>by simp[dA]|(j,rs)::d=>by
  have ih:=jQ (g:=g) (s:=s) (d:=d);simp only[dA];split;·rename_i e;subst e;simp
  ·rename_i e;rw[Vo,ih];have e':¬g=j:=λz=>e z.symm;by_cases h:g∈d.map (·.1);·rw[if_pos h,if_pos (by rw[Vo];exact Vb _ h)];rfl
   ·rw[if_neg h,if_neg (by rw[Vo];intro z;rcases W4.mp z with z|z;exact e' z;exact h z)];rfl
theorem FJ(h:(d.map (·.1)).Nodup):((dA d g s).map (·.1)).Nodup:=by
 rw[jQ];split;·exact h
 ·rename_i hg;rw[V5];exact⟨h,by simp,λa ha b hb=>by simp at hb;subst hb;exact λz=>hg (z▸ha)⟩
theorem tm{grp:List Nat}:∀{l done:List Nat} {d},(d.map (·.1)).Nodup->(∀k ss,(k,ss)∈d->ss=done.filter (λs=>decide (grp.getD s 0=k))/\ss≠[])->(∀s∈done,∃ss,(grp.getD s 0,ss)∈d)->
  ((l.foldl (λd s=>dA d (grp.getD s 0) s) d).map (·.1)).Nodup/\(∀k ss,(k,ss)∈l.foldl (λd s=>dA d (grp.getD s 0) s) d->ss=(done++l).filter (λs=>decide (grp.getD s 0=k))/\ss≠[])/\(∀s∈done++l,∃ss,(grp.getD s 0,ss)∈l.foldl (λd s=>dA d (grp.getD s 0) s) d)
 |[],done,d,nd,h1,h2=>by simpa using⟨nd,h1,h2⟩|x::l,done,d,nd,h1,h2=>by
  have key:=tm (grp:=grp) (l:=l) (done:=done++[x]) (d:=dA d (grp.getD x 0) x) (FJ nd) (λk ss h=>by
   rcases(vI nd).mp h with ⟨a,b⟩|⟨a,b⟩
   ·obtain⟨c1,c2⟩:=h1 k ss b;refine⟨?_,c2⟩;rw[Ya,<-c1,V0 (by simp;exact λz=>a z.symm)];simp
   ·subst a;rcases b with ⟨r,hr,e⟩|⟨hn,e⟩
    ·obtain⟨c1,c2⟩:=h1 _ r hr;refine⟨?_,by rw[e];simp⟩;rw[Ya,<-c1,VR (by simp),e];simp
    ·refine⟨?_,by rw[e];simp⟩;have:done.filter (λs=>decide (grp.getD s 0=grp.getD x 0))=[]:=by rw[Xv];intro s hs hd;obtain⟨ss,tp⟩:=h2 s hs;rw[decide_eq_true_eq] at hd;rw[hd] at tp;exact hn ss tp
     rw[Ya,this,VR (by simp),e];simp) (λs hs=>by
   have e:(grp.getD x 0)∈(dA d (grp.getD x 0) x).map (·.1):=by
    rw[jQ];split;·assumption
    ·simp
   have ex:∀k,k∈d.map (·.1)\/k=grp.getD x 0->∃ss,(k,ss)∈dA d (grp.getD x 0) x:=λk hk=>by
    have:k∈(dA d (grp.getD x 0) x).map (·.1):=by
     rcases hk with hk|hk
     ·rw[jQ];split;·exact hk
      ·exact Wr _ hk
     ·rw[hk];exact e
    obtain⟨p,hp,e2⟩:=W8.mp this;exact⟨p.2,by rw[<-e2];exact hp⟩
   rcases Xr.mp hs with z|z;·obtain⟨ss,tp⟩:=h2 s z;exact ex _ (.inl (W8.mpr ⟨_,tp,rfl⟩))
   ·rw[Wc] at z;subst z;exact ex _ (.inr rfl))
  rw[V1] at key;exact key
theorem eh grp l:((b7 grp l).map (·.1)).Nodup/\(∀k ss,(k,ss)∈b7 grp l->ss=l.filter (λs=>decide (grp.getD s 0=k))/\ss≠[])/\∀s∈l,∃ss,(grp.getD s 0,ss)∈b7 grp l:=by have:=tm (grp:=grp) (l:=l) (done:=[]) (d:=[]) (by simp) (λ_ _ h=>by cases h) (λ_ h=>by cases h);simpa[b7] using this
section
abbrev mX.cw(h:mX)(s:Nat):Nat:=h.grp.getD s 0
structure jR(w:Nat)(m:cM)(T:List Nat)(R:Nat->Prop)(h:mX):Prop where
 qu:h.grp.length=m.length
 mH:h.iH.length=h.mem.length
 blt:∀s,s < m.length->h.cw s < h.mem.length
 mem:∀g,g < h.mem.length->(h.mem.getD g []).Nodup/\∀s,s∈h.mem.getD g []↔s < m.length/\h.cw s=g
 JQ:h.wait.Nodup
 wt:∀g,g∈h.wait↔g < h.mem.length/\h.iH.getD g false=true
 snd:∀s t,s < m.length->t < m.length->h.cw s≠h.cw t->¬gI w m s m t
 good:∀s t,s < m.length->t < m.length->h.cw s=h.cw t->gd m s=gd m t
 sep:∀s t a,s < m.length->t < m.length->a < w->h.cw s=h.cw t->h.cw (aZ m s a)≠h.cw (aZ m t a)->h.cw (aZ m s a)∈h.wait\/h.cw (aZ m t a)∈h.wait\/(R a/\¬(aZ m s a∈T↔aZ m t a∈T))
def kM(m:cM)(h h':mX):Prop:=∀s t,s < m.length->t < m.length->h'.cw s=h'.cw t->h.cw s=h.cw t
theorem kM.refl:kM m h h:=λ_ _ _ _ e=>e
theorem kM.trans(a:kM m h h1)(b:kM m h1 h2):kM m h h2:=λs t hs ht e=>a s t hs ht (b s t hs ht e)
theorem iA{α:Type}{l r:List α}{d:α}(h:i < l.length):(l++r).getD i d=l.getD i d:=by rw[Vd,Vd,Vf h]
theorem iW{α:Type}{l:List α}{x d:α}:(l++[x]).getD l.length d=x:=by rw[Vd];simp
theorem e7{α:Type}{l:List α}{x d:α}(h:i < l.length):(l.set i x).getD i d=x:=by rw[Vd,VB h];rfl
theorem dB{α:Type}{l:List α}{x d:α}(h:i≠j):(l.set i x).getD j d=l.getD j d:=by rw[Vd,Ve h,<-Vd]
variable{w:Nat}{m:cM}{T:List Nat}{R:Nat->Prop}{h:mX}
theorem sub_len{ss xs:List Nat}(hn:ss.Nodup)(hs:∀s∈ss,s∈xs):ss.length<=xs.length:=by
 induction ss generalizing xs with
 |nil=>simp|cons s ss ih=>
  rw[WI] at hn;have h1:s∈xs:=hs s Vh;have:=ih (xs:=xs.erase s) hn.2 λt ht=>by have:t≠s:=λz=>hn.1 (z▸ht);exact(Yn this).mpr (hs t (Vb _ ht))
  rw[XX h1] at this;have:=Xa h1;simp;omega
theorem IP{ss xs:List Nat}(hn:ss.Nodup)(hx:xs.Nodup)(hs:∀s∈ss,s∈xs)(hl:ss.length=xs.length):∀x∈xs,x∈ss:=by
 intro x IG;apply VF;intro hc;have:=sub_len (ss:=ss) (xs:=xs.erase x) hn λt ht=>by have:t≠x:=λz=>hc (z▸ht);exact(Yn this).mpr (hs t ht)
 rw[XX IG] at this;have:=Xa IG;omega
theorem wZ(hi:jR w m T R h)(hc:ss.length≠(h.mem.getD g []).length)(hx:x < m.length):(aB h g ss).cw x=if x∈ss then h.mem.length else h.cw x:=by
 have e:(aB h g ss).grp=putAll h.mem.length ss h.grp:=by unfold aB;rw[if_neg hc];dsimp only;split<;>rfl
 show(aB h g ss).grp.getD x 0=_;rw[e];exact sZ (by rw[hi.qu];exact hx)
theorem nQ(hc:ss.length≠(h.mem.getD g []).length):(aB h g ss).mem=h.mem.set g ((h.mem.getD g []).filter λs=>decide (s∉ss))++[ss]:=by unfold aB;rw[if_neg hc];dsimp only;split<;>rfl
def kN(h:mX)(g:Nat)(ss:List Nat):Nat:=if h.iH.getD g false=true\/ss.length<=((h.mem.getD g []).filter λs=>decide (s∉ss)).length then h.mem.length else g
theorem uz(hc:ss.length≠(h.mem.getD g []).length):(aB h g ss).wait=h.wait++[kN h g ss]/\(aB h g ss).iH=(h.iH++[false]).set (kN h g ss) true:=by unfold aB kN;rw[if_neg hc];dsimp only;split<;>exact⟨rfl,rfl⟩
theorem nR(hi:jR w m T R h)(hg:g < h.mem.length)(ha:a < w)(tp:∀s,s∈ss↔s∈h.mem.getD g []/\aZ m s a∈T)(C0:ss.Nodup)(fc:ss≠[])(hT:∀x y,x < m.length->y < m.length->x∈T->y∉T->¬gI w m x m y)(ok:dv w m):
  jR w m T R (aB h g ss)/\kM m h (aB h g ss)/\(∀s t,s < m.length->t < m.length->h.cw s=g->h.cw t=g->(aB h g ss).cw s=(aB h g ss).cw t->(aZ m s a∈T↔aZ m t a∈T))/\
   (∀s,s < m.length->h.cw s≠g->(aB h g ss).cw s=h.cw s)/\(∀k,k < h.mem.length->k≠g->(aB h g ss).mem.getD k []=h.mem.getD k [])/\h.mem.length<=(aB h g ss).mem.length/\
   (aB h g ss).wait.length+h.mem.length=h.wait.length+(aB h g ss).mem.length:=by
 obtain⟨gn,gm⟩:=hi.mem g hg;have sub:∀s∈ss,s∈h.mem.getD g []:=λs hs=>((tp s).mp hs).1;by_cases hc:ss.length=(h.mem.getD g []).length
 ·have e:aB h g ss=h:=by unfold aB;rw[if_pos hc]
  rw[e];refine⟨hi,kM.refl,λs t hs ht es et _=>?_,λ_ _ _=>rfl,λ_ _ _=>rfl,Vj _,rfl⟩;have all:=IP C0 gn sub hc;exact⟨λ_=>((tp t).mp (all t ((gm t).mpr ⟨ht,et⟩))).2,λ_=>((tp s).mp (all s ((gm s).mpr ⟨hs,es⟩))).2⟩
 ·have B:=λ{x:Nat} (hx:x < m.length)=>wZ hi hc hx (g:=g);have M:=nQ (h:=h) hc;obtain⟨Wt,Ws⟩:=uz (h:=h) hc;have ml:(aB h g ss).mem.length=h.mem.length+1:=by rw[M];simp
  have IQ:∀x,x∈ss->x < m.length/\h.cw x=g:=λx hx=>(gm x).mp (sub x hx);have nx:kN h g ss=h.mem.length\/(kN h g ss=g/\h.iH.getD g false=false):=by
   unfold kN;split;·exact .inl rfl
   ·rename_i q;refine .inr ⟨rfl,?_⟩;cases z:h.iH.getD g false with|false=>rfl|true=>exact absurd (.inl z) q
  have same:∀s t,s < m.length->t < m.length->(aB h g ss).cw s=(aB h g ss).cw t->h.cw s=h.cw t/\(s∈ss↔t∈ss):=λs t hs ht e=>by
   rw[B hs,B ht] at e;have b1:=hi.blt s hs;have b2:=hi.blt t ht;by_cases z1:s∈ss<;>by_cases z2:t∈ss;·exact⟨(IQ s z1).2.trans (IQ t z2).2.symm,by simp[z1,z2]⟩
   ·rw[if_pos z1,if_neg z2] at e;omega
   ·rw[if_neg z1,if_pos z2] at e;omega
   ·rw[if_neg z1,if_neg z2] at e;exact⟨e,by simp[z1,z2]⟩
  refine⟨⟨?_,?_,?_,?_,?_,?_,?_,?_,?_⟩,λs t hs ht e=>(same s t hs ht e).1,?_,?_,?_,by omega,?_⟩
  ·have:(aB h g ss).grp=putAll h.mem.length ss h.grp:=by unfold aB;rw[if_neg hc];dsimp only;split<;>rfl
   rw[this,mG,hi.qu]
  ·rw[ml,Ws];simp[hi.mH]
  ·intro s hs;rw[B hs,ml];have:=hi.blt s hs;split<;>omega
  ·intro k hk;rw[ml] at hk;rw[M];by_cases e1:k=h.mem.length
   ·subst e1;have e2:(h.mem.set g ((h.mem.getD g []).filter λs=>decide (s∉ss))++[ss]).getD h.mem.length []=ss:=by have:=iW (l:=h.mem.set g ((h.mem.getD g []).filter λs=>decide (s∉ss))) (x:=ss) (d:=[]);rw[WJ] at this;exact this
    rw[e2];refine⟨C0,λs=>⟨λhs=>⟨(IQ s hs).1,by rw[B (IQ s hs).1,if_pos hs]⟩,λ⟨hs,e⟩=>?_⟩⟩;rw[B hs] at e;by_cases z:s∈ss;·exact z
    ·rw[if_neg z] at e;have:=hi.blt s hs;omega
   ·have u7:k < h.mem.length:=by omega
    rw[iA (by simpa using u7)];by_cases e2:k=g
    ·subst e2;rw[e7 u7];refine⟨gn.filter _,λs=>?_⟩;rw[Wo,gm,decide_eq_true_eq];constructor;·rintro⟨⟨hs,e⟩,hn⟩;exact⟨hs,by rw[B hs,if_neg hn];exact e⟩
     ·rintro⟨hs,e⟩;rw[B hs] at e;by_cases z:s∈ss;·rw[if_pos z] at e;omega
      ·rw[if_neg z] at e;exact⟨⟨hs,e⟩,z⟩
    ·rw[dB (λz=>e2 z.symm)];obtain⟨q1,q2⟩:=hi.mem k u7;refine⟨q1,λs=>?_⟩;rw[q2];constructor
     ·rintro⟨hs,e⟩;refine⟨hs,?_⟩;rw[B hs];split;·rename_i z;exact absurd (e.symm.trans (IQ s z).2) e2
      ·exact e
     ·rintro⟨hs,e⟩;refine⟨hs,?_⟩;rw[B hs] at e;split at e;·omega
      ·exact e
  ·rw[Wt,V5];refine⟨hi.JQ,by simp,λx hx y hy=>?_⟩;rw[Wc] at hy;subst hy;intro z;subst z;obtain⟨p,q⟩:=(hi.wt _).mp hx;rcases nx with e|⟨e,f⟩;·omega
   ·rw[e,f] at q;cases q
  ·intro k;rw[Wt,Ws,ml,Xr,Wc];by_cases e:k=kN h g ss
   ·subst e;have l1:kN h g ss < (h.iH++[false]).length:=by rw[Vy,hi.mH];rcases nx with e|⟨e,_⟩<;>simp<;>omega
    rw[e7 l1];refine⟨λ_=>⟨?_,rfl⟩,λ_=>.inr rfl⟩;rcases nx with e|⟨e,_⟩<;>omega
   ·rw[dB (λz=>e z.symm)];constructor
    ·rintro(hk|hk);·obtain⟨p,q⟩:=(hi.wt k).mp hk;exact⟨by omega,by rw[iA (by rw[hi.mH];exact p)];exact q⟩
     ·exact absurd hk e
    ·rintro⟨p,q⟩;by_cases z:k=h.mem.length
     ·subst z;have:(h.iH++[false]).getD h.mem.length false=false:=by rw[<-hi.mH];exact iW
      rw[this] at q;cases q
     ·rw[iA (by rw[hi.mH];omega)] at q;exact .inl ((hi.wt k).mpr ⟨by omega,q⟩)
  ·intro s t hs ht hb;by_cases e:h.cw s=h.cw t
   ·rw[B hs,B ht] at hb;have go:∀x y,x < m.length->y < m.length->x∈ss->y∉ss->h.cw x=h.cw y->¬gI w m x m y:=λx y hx hy z1 z2 e sm=>by have e1:y∈h.mem.getD g []:=(gm y).mpr ⟨hy,e▸(IQ x z1).2⟩;have e2:aZ m y a∉T:=λz=>z2 ((tp y).mpr ⟨e1,z⟩);exact hT _ _ (ok.aZ hx ha) (ok.aZ hy ha) ((tp x).mp z1).2 e2 (sm.step ha)
    by_cases z1:s∈ss<;>by_cases z2:t∈ss;·simp[z1,z2] at hb
    ·exact go s t hs ht z1 z2 e
    ·exact λsm=>go t s ht hs z2 z1 e.symm sm.symm
    ·rw[if_neg z1,if_neg z2] at hb;exact absurd e hb
   ·exact hi.snd s t hs ht e
  ·intro s t hs ht e;exact hi.good s t hs ht (same s t hs ht e).1
  ·intro s t b hs ht hb e IS;have p1:=ok.aZ hs hb;have p2:=ok.aZ ht hb;have e0:=(same s t hs ht e).1;rw[Wt];by_cases c:h.cw (aZ m s b)=h.cw (aZ m t b)
   ·
    rw[B p1,B p2] at IS ⊢;have go:∀x y,x∈ss->y∉ss->h.cw x=h.cw y->h.cw y=g:=λx y z1 z2 e=>e▸(IQ x z1).2;by_cases z1:aZ m s b∈ss<;>by_cases z2:aZ m t b∈ss;·simp[z1,z2] at IS
    ·rw[if_pos z1,if_neg z2,go _ _ z1 z2 c];rcases nx with q|⟨q,_⟩;·exact .inl (by rw[q];simp)
     ·exact .inr (.inl (by rw[q];simp))
    ·rw[if_neg z1,if_pos z2,go _ _ z2 z1 c.symm];rcases nx with q|⟨q,_⟩;·exact .inr (.inl (by rw[q];simp))
     ·exact .inl (by rw[q];simp)
    ·rw[if_neg z1,if_neg z2] at IS;exact absurd c IS
   ·
    have keep:∀x,x < m.length->h.cw x∈h.wait->(aB h g ss).cw x∈h.wait++[kN h g ss]:=λx hx hw=>by
     rw[B hx];split
     ·rename_i z;have e1:=(IQ x z).2;rw[e1] at hw;have:kN h g ss=h.mem.length:=by unfold kN;rw[if_pos (.inl ((hi.wt g).mp hw).2)]
      rw[this];simp
     ·exact Wr _ hw
    rcases hi.sep s t b hs ht hb e0 c with q|q|q;·exact .inl (keep _ p1 q)
    ·exact .inr (.inl (keep _ p2 q))
    ·exact .inr (.inr q)
  ·intro s t hs ht es et e;have e2:=(same s t hs ht e).2;have i1:s∈ss↔aZ m s a∈T:=by rw[tp];exact⟨λz=>z.2,λz=>⟨(gm s).mpr ⟨hs,es⟩,z⟩⟩
   have i2:t∈ss↔aZ m t a∈T:=by rw[tp];exact⟨λz=>z.2,λz=>⟨(gm t).mpr ⟨ht,et⟩,z⟩⟩
   rw[<-i1,<-i2];exact e2
  ·intro s hs hn;rw[B hs,if_neg λz=>hn (IQ s z).2]
  ·intro k hk hn;rw[M,iA (by simpa using hk),dB λz=>hn z.symm]
  ·rw[Wt,ml];simp;omega
end
section
variable{w:Nat}{m:cM}{T:List Nat}{R:Nat->Prop}{h h0:mX}
def t7(h:mX):Prop:=∀g,2<=g->g < h.mem.length->h.mem.getD g []≠[]
theorem p7(hi:jR w m T R h)(hn:t7 h)(hg:g < h.mem.length)(tp:∀s∈ss,s∈h.mem.getD g [])(C0:ss.Nodup)(fc:ss≠[]):t7 (aB h g ss):=by
 obtain⟨gn,gm⟩:=hi.mem g hg;by_cases hc:ss.length=(h.mem.getD g []).length
 ·have e:aB h g ss=h:=by unfold aB;rw[if_pos hc]
  rw[e];exact hn
 ·have M:=nQ (h:=h) hc;have ml:(aB h g ss).mem.length=h.mem.length+1:=by rw[M];simp
  intro k uj hk;rw[ml] at hk;rw[M];by_cases e1:k=h.mem.length
  ·subst e1;have e2:(h.mem.set g ((h.mem.getD g []).filter λs=>decide (s∉ss))++[ss]).getD h.mem.length []=ss:=by have:=iW (l:=h.mem.set g ((h.mem.getD g []).filter λs=>decide (s∉ss))) (x:=ss) (d:=[]);rw[WJ] at this;exact this
   rw[e2];exact fc
  ·have u7:k < h.mem.length:=by omega
   rw[iA (by simpa using u7)];by_cases e2:k=g
   ·subst e2;rw[e7 u7];intro z;rw[Xv] at z;have:∀x∈h.mem.getD k [],x∈ss:=λx hx=>by have:=z x hx;simpa using this
    have l1:=sub_len gn this;have l2:=sub_len C0 tp;omega
   ·rw[dB (λz=>e2 z.symm)];exact hn k uj u7
theorem t7.bound(hi:jR w m T R h)(hn:t7 h):h.mem.length<=m.length+2:=by
 have key:=sub_len (ss:=(U8 (h.mem.length - 2)).map λg=>(h.mem.getD (g+2) []).headD 0) (xs:=U8 m.length) ?_ ?_;·simp at key;omega
 ·rw[List.nodup_iff_pairwise_ne,List.pairwise_map];refine List.Pairwise.imp_of_mem ?_ (Xj);intro a b ha hb Lp e;simp only[Wi] at ha hb;have hd:∀g,g < h.mem.length - 2->(h.mem.getD (g+2) []).headD 0∈h.mem.getD (g+2) []:=λg hg=>by have:=hn (g+2) (by omega) (by omega);cases q:h.mem.getD (g+2) [] with|nil=>exact absurd q this|cons x r=>simp
  have m1:=((hi.mem (a+2) (by omega)).2 _).mp (hd a ha);have m2:=((hi.mem (b+2) (by omega)).2 _).mp (hd b hb);rw[e] at m1;have:=m1.2.symm.trans m2.2;omega
 ·intro s hs;rw[W8] at hs;obtain⟨g,hg,e⟩:=hs;rw[Wi] at hg;have:=hn (g+2) (by omega) (by omega);cases q:h.mem.getD (g+2) [] with|nil=>exact absurd q this|cons x r=>rw[q] at e;have m1:=((hi.mem (g+2) (by omega)).2 x).mp (by rw[q];simp);simp at e;rw[<-e,Wi];exact m1.1
theorem yX(ok:dv w m)(ha:a < w)(hT:∀x y,x < m.length->y < m.length->x∈T->y∉T->¬gI w m x m y):∀{es:List (Nat×List Nat)} {h} {Dn:Nat->Prop},jR w m T R h->t7 h->kM m h0 h->(es.map (·.1)).Nodup->
  (∀k ss,(k,ss)∈es->k < h.mem.length/\(∀s,s < m.length->(h.cw s=k↔h0.cw s=k))/\(∀s,s∈ss↔s∈h.mem.getD k []/\aZ m s a∈T)/\ss.Nodup/\ss≠[])->
  (∀s t,s < m.length->t < m.length->h.cw s=h.cw t->Dn (h0.cw s)->(aZ m s a∈T↔aZ m t a∈T))->
  jR w m T R (es.foldl (λh e=>aB h e.1 e.2) h)/\t7 (es.foldl (λh e=>aB h e.1 e.2) h)/\kM m h0 (es.foldl (λh e=>aB h e.1 e.2) h)/\
  (∀s t,s < m.length->t < m.length->(es.foldl (λh e=>aB h e.1 e.2) h).cw s=(es.foldl (λh e=>aB h e.1 e.2) h).cw t->(Dn (h0.cw s)\/h0.cw s∈es.map (·.1))->(aZ m s a∈T↔aZ m t a∈T))/\
  (es.foldl (λh e=>aB h e.1 e.2) h).wait.length+h.mem.length=h.wait.length+(es.foldl (λh e=>aB h e.1 e.2) h).mem.length/\h.mem.length<=(es.foldl (λh e=>aB h e.1 e.2) h).mem.length
 |[],h,Dn,hi,hn,hf,_,_,hd=>⟨hi,hn,hf,λs t hs ht e d=>hd s t hs ht e (by rcases d with d|d;exact d;simp at d),rfl,Vj _⟩|(k,ss)::es,h,Dn,hi,hn,hf,nd,hes,hd=>by
  obtain⟨k1,k2,k3,k4,k5⟩:=hes k ss Vh;obtain⟨i1,i2,i3,i4,i5,i6,i7⟩:=nR hi k1 ha k3 k4 k5 hT ok;have n1:=p7 hi hn k1 (λs hs=>((k3 s).mp hs).1) k4 k5;rw[Vo,WI] at nd;obtain⟨f1,f2,f3,f4,f5,f6⟩:=yX ok ha hT (h:=aB h k ss) (Dn:=λj=>Dn j\/j=k) i1 n1 (hf.trans i2) nd.2 (λj rs hj=>by
   obtain⟨j1,j2,j3,j4,j5⟩:=hes j rs (Vb _ hj);have hjk:j≠k:=λz=>nd.1 (W8.mpr ⟨_,hj,z⟩);refine⟨by omega,λs hs=>?_,λs=>by rw[j3,i5 j j1 hjk],j4,j5⟩;rw[<-j2 s hs];have q1:=(i1.mem j (by omega)).2 s;have q2:=(hi.mem j j1).2 s;rw[i5 j j1 hjk,q2] at q1;exact⟨λz=>(q1.mpr ⟨hs,z⟩).2,λz=>(q1.mp ⟨hs,z⟩).2⟩) (λs t hs ht e d=>by
   rcases d with d|d;·exact hd s t hs ht (i2 s t hs ht e) d
   ·have e1:h.cw s=k:=(k2 s hs).mpr d;have e2:h.cw t=k:=(i2 s t hs ht e)▸e1;exact i3 s t hs ht e1 e2 e)
  refine⟨f1,f2,f3,λs t hs ht e d=>f4 s t hs ht e ?_,?_,by rw[Xs];dsimp only;omega⟩
  ·rcases d with d|d;·exact .inl (.inl d)
   ·rw[Vo] at d;rcases W4.mp d with d|d;·exact .inl (.inr d)
    ·exact .inr d
  ·rw[Xs];dsimp only;omega
theorem kO:s∈dO m a t↔s < m.length/\aZ m s a=t:=by unfold dO;rw[Wo,Wi,decide_eq_true_eq]
theorem nS:s∈T.flatMap (dO m a)↔s < m.length/\aZ m s a∈T:=by
 rw[Y9];constructor;·rintro⟨t,ht,hs⟩;obtain⟨p,q⟩:=kO.mp hs;exact⟨p,q▸ht⟩
 ·rintro⟨p,q⟩;exact⟨_,q,kO.mpr ⟨p,rfl⟩⟩
theorem rm:∀{T:List Nat},T.Nodup->(T.flatMap (dO m a)).Nodup
 |[],_=>by simp|t::T,hn=>by rw[WI] at hn;rw[Yk,V5];refine⟨(Xj).filter _,rm hn.2,λx hx y hy=>?_⟩;rintro rfl;have e1:=(kO.mp hx).2;have e2:=(nS.mp hy).2;rw[e1] at e2;exact hn.1 e2
theorem p8(ok:dv w m)(ha:a < w)(hT:∀x y,x < m.length->y < m.length->x∈T->y∉T->¬gI w m x m y)(IT:T.Nodup)(hi:jR w m T R h)(hn:t7 h):
  jR w m T (λb=>R b/\b≠a) (eK m h T a)/\t7 (eK m h T a)/\(eK m h T a).wait.length+h.mem.length=h.wait.length+(eK m h T a).mem.length/\h.mem.length<=(eK m h T a).mem.length:=by
 obtain⟨s1,s2,s3⟩:=eh h.grp (T.flatMap (dO m a));have L:=λs=>nS (m:=m) (T:=T) (a:=a) (s:=s);have Ln:=rm (m:=m) (a:=a) IT;have key:=yX (h0:=h) (Dn:=λ_=>False) ok ha hT hi hn kM.refl s1 (λk ss hk=>by
  obtain⟨e,fc⟩:=s2 k ss hk;have uj:k < h.mem.length:=by
   cases q:ss with
   |nil=>exact absurd q fc|cons x r=>
    have hx:x∈ss:=by rw[q];simp
    rw[e,Wo,decide_eq_true_eq] at hx;rw[<-hx.2];exact hi.blt x ((L x).mp hx.1).1
  refine⟨uj,λ_ _=>Iff.rfl,λs=>?_,by rw[e];exact Ln.filter _,fc⟩;rw[e,Wo,decide_eq_true_eq,L,(hi.mem k uj).2];constructor;·rintro⟨⟨p,q⟩,r⟩;exact⟨⟨p,r⟩,q⟩
  ·rintro⟨⟨p,r⟩,q⟩;exact⟨⟨p,q⟩,r⟩) (λ_ _ _ _ _ d=>d.elim)
 obtain⟨f1,f2,f3,f4,f5,f6⟩:=key;refine⟨⟨f1.qu,f1.mH,f1.blt,f1.mem,f1.JQ,f1.wt,f1.snd,f1.good,λs t b hs ht hb e fc=>?_⟩,f2,f5,f6⟩;rcases f1.sep s t b hs ht hb e fc with q|q|⟨q1,q2⟩;·exact .inl q
 ·exact .inr (.inl q)
 ·refine .inr (.inr ⟨⟨q1,λz=>q2 ?_⟩,q2⟩);subst z;by_cases c:h.cw s∈(b7 h.grp (T.flatMap (dO m b))).map (·.1);·exact f4 s t hs ht e (.inr c)
  ·have e0:h.cw s=h.cw t:=f3 s t hs ht e;have no:∀x,x < m.length->h.cw x=h.cw s->aZ m x b∉T:=λx hx ex hc=>by obtain⟨ss,tp⟩:=s3 x ((L x).mpr ⟨hx,hc⟩);exact c (W8.mpr ⟨_,tp,ex⟩)
   exact⟨λz=>absurd z (no s hs rfl),λz=>absurd z (no t ht e0.symm)⟩
def kP(h:mX)(g:Nat):mX:=⟨h.grp,h.mem,h.wait.dropLast,h.iH.set g false⟩
def eQ(m:cM)(T:List Nat)(as:List Nat)(h:mX):mX:=as.foldl (λh a=>eK m h T a) h
def nT(m:cM)(w:Nat)(h:mX):mX:=eQ m (h.mem.getD (h.wait.getLast?.getD 0) []) (U8 w) (kP h (h.wait.getLast?.getD 0))
def settle(m:cM)(w:Nat):Nat->mX->mX
 |0,h=>h|n+1,h=>if h.wait=[] then h else settle m w n (nT m w h)
def tq(w:Nat)(m:cM)(h:mX):Prop:=jR w m [] (λ_=>False) h/\t7 h
theorem yY(ok:dv w m)(hT:∀x y,x < m.length->y < m.length->x∈T->y∉T->¬gI w m x m y)(IT:T.Nodup):∀{as} {R} {h},(∀a∈as,a < w)->jR w m T R h->t7 h->
  jR w m T (λb=>R b/\b∉as) (eQ m T as h)/\t7 (eQ m T as h)/\(eQ m T as h).wait.length+h.mem.length=h.wait.length+(eQ m T as h).mem.length/\h.mem.length<=(eQ m T as h).mem.length
 |[],R,h,_,hi,hn=>⟨⟨hi.qu,hi.mH,hi.blt,hi.mem,hi.JQ,hi.wt,hi.snd,hi.good,λs t b hs ht hb e fc=>by
   rcases hi.sep s t b hs ht hb e fc with q|q|⟨q1,q2⟩;·exact .inl q
   ·exact .inr (.inl q)
   ·exact .inr (.inr ⟨⟨q1,by simp⟩,q2⟩)⟩,hn,rfl,Vj _⟩
 |a::as,R,h,hw,hi,hn=>by
  obtain⟨i1,i2,i3,i4⟩:=p8 ok (hw a Vh) hT IT hi hn;obtain⟨j1,j2,j3,j4⟩:=yY ok hT IT (as:=as) (λb hb=>hw b (Vb _ hb)) i1 i2;refine⟨⟨j1.qu,j1.mH,j1.blt,j1.mem,j1.JQ,j1.wt,j1.snd,j1.good,λs t b hs ht hb e fc=>?_⟩,j2,?_,?_⟩
  ·rcases j1.sep s t b hs ht hb e fc with q|q|⟨⟨⟨q1,q3⟩,q4⟩,q2⟩;·exact .inl q
   ·exact .inr (.inl q)
   ·exact .inr (.inr ⟨⟨q1,λz=>by rcases W4.mp z with z|z;exact q3 z;exact q4 z⟩,q2⟩)
  ·show(eQ m T as (eK m h T a)).wait.length+_=_+(eQ m T as (eK m h T a)).mem.length;omega
  ·show _<=(eQ m T as (eK m h T a)).mem.length;omega
theorem yZ(ok:dv w m)(hc:tq w m h)(hw:h.wait≠[]):tq w m (nT m w h)/\(nT m w h).wait.length+h.mem.length+1=h.wait.length+(nT m w h).mem.length/\h.mem.length<=(nT m w h).mem.length:=by
 obtain⟨hi,hn⟩:=hc;obtain⟨g,hg⟩:∃g,h.wait.getLast?=some g:=by cases q:h.wait.getLast? with|none=>rw[List.getLast?_eq_none_iff] at q;exact absurd q hw|some g=>exact⟨g,rfl⟩
 have eg:h.wait.getLast?.getD 0=g:=by rw[hg];rfl
 have ew:h.wait=h.wait.dropLast++[g]:=by rw[List.getLast?_eq_some_iff] at hg;obtain⟨ys,e⟩:=hg;rw[e];simp
 have gm:g∈h.wait:=by rw[ew];simp
 obtain⟨g1,g2⟩:=(hi.wt g).mp gm;obtain⟨T1,T2⟩:=hi.mem g g1;have nd:(h.wait.dropLast++[g]).Nodup:=by rw[<-ew];exact hi.JQ
 rw[V5] at nd;have MG:g∉h.wait.dropLast:=λz=>nd.2.2 g z g (by simp) rfl;have MH:∀k,k∈h.wait->k≠g->k∈h.wait.dropLast:=λk hk UC=>by
  rw[ew,Xr,Wc] at hk;rcases hk with z|z;·exact z
  ·exact absurd z UC
 have hT:∀x y,x < m.length->y < m.length->x∈h.mem.getD g []->y∉h.mem.getD g []->¬gI w m x m y:=λx y hx hy z1 z2=>by refine hi.snd x y hx hy λe=>z2 ((T2 y).mpr ⟨hy,?_⟩);rw[<-e];exact((T2 x).mp z1).2
 have ip:jR w m (h.mem.getD g []) (λa=>a < w) (kP h g):=by
  refine⟨hi.qu,by unfold kP;simp[hi.mH],hi.blt,hi.mem,nd.1,λk=>?_,hi.snd,hi.good,λs t b hs ht hb e fc=>?_⟩
  ·unfold kP;dsimp only;by_cases e:k=g;·subst e;refine⟨λz=>absurd z MG,λ⟨_,z⟩=>?_⟩;rw[e7 (by rw[hi.mH];exact g1)] at z;cases z
   ·rw[dB λz=>e z.symm];constructor;·intro z;exact(hi.wt k).mp (by rw[ew];exact Wr _ z)
    ·intro z;exact MH k ((hi.wt k).mpr z) e
  ·have e':h.cw s=h.cw t:=e;have v7:h.cw (aZ m s b)≠h.cw (aZ m t b):=fc;have p1:=ok.aZ hs hb;have p2:=ok.aZ ht hb;have i1:aZ m s b∈h.mem.getD g []↔h.cw (aZ m s b)=g:=by rw[T2];exact⟨λz=>z.2,λz=>⟨p1,z⟩⟩
   have i2:aZ m t b∈h.mem.getD g []↔h.cw (aZ m t b)=g:=by rw[T2];exact⟨λz=>z.2,λz=>⟨p2,z⟩⟩
   show h.cw (aZ m s b)∈h.wait.dropLast\/h.cw (aZ m t b)∈h.wait.dropLast\/_;by_cases c1:h.cw (aZ m s b)=g;·refine .inr (.inr ⟨hb,λz=>?_⟩);rw[i1,i2] at z;exact v7 (c1.trans (z.mp c1).symm)
   ·by_cases c2:h.cw (aZ m t b)=g;·refine .inr (.inr ⟨hb,λz=>?_⟩);rw[i1,i2] at z;exact c1 (z.mpr c2)
    ·rcases hi.sep s t b hs ht hb e' v7 with q|q|⟨q,_⟩;·exact .inl (MH _ q c1)
     ·exact .inr (.inl (MH _ q c2))
     ·exact q.elim
 have wl:(kP h g).wait.length+1=h.wait.length:=by unfold kP;have:=congrArg ZC ew;simp at this;dsimp only;rw[List.length_dropLast];have:=Xa gm;omega
 obtain⟨j1,j2,j3,j4⟩:=yY ok hT T1 (as:=U8 w) (λa ha=>by simpa using ha) ip (show t7 (kP h g) from hn);unfold nT;rw[eg];refine⟨⟨⟨j1.qu,j1.mH,j1.blt,j1.mem,j1.JQ,j1.wt,j1.snd,j1.good,λs t b hs ht hb e fc=>?_⟩,j2⟩,?_,j4⟩
 ·rcases j1.sep s t b hs ht hb e fc with q|q|⟨⟨q1,q3⟩,q2⟩;·exact .inl q
  ·exact .inr (.inl q)
  ·exact absurd (by simpa using hb) q3
 ·have:(kP h g).mem.length=h.mem.length:=rfl;omega
theorem tu(ok:dv w m):∀{n} {h},tq w m h->h.wait.length+(m.length+2 - h.mem.length)<=n->tq w m (settle m w n h)/\(settle m w n h).wait=[]
 |0,h,hc,hl=>by
  have:h.wait=[]:=by cases q:h.wait with|nil=>rfl|cons x r=>rw[q] at hl;simp at hl
  exact⟨hc,this⟩
 |n+1,h,hc,hl=>by
  unfold Y.settle;by_cases hw:h.wait=[];·rw[if_pos hw];exact⟨hc,hw⟩
  ·rw[if_neg hw];obtain⟨c1,c2,c3⟩:=yZ ok hc hw;have b1:=t7.bound c1.1 c1.2;have b2:=t7.bound hc.1 hc.2;exact tu ok c1 (by omega)
theorem zc(ok:dv w m)(hc:tq w m h)(hw:h.wait=[])(hs:s < m.length)(ht:t < m.length):h.cw s=h.cw t↔gI w m s m t:=by
 constructor
 ·intro e u;induction u generalizing s t with
  |nil=>intro _;exact hc.1.good s t hs ht e|cons a u ih=>
   intro hu;have ha:=hu.head;refine ih (ok.aZ hs ha) (ok.aZ ht ha) ?_ hu.tail;apply VF;intro fc;rcases hc.1.sep s t a hs ht ha e fc with q|q|⟨q,_⟩;·rw[hw] at q;cases q
   ·rw[hw] at q;cases q
   ·exact q
 ·intro UD;apply VF;intro fc;exact hc.1.snd s t hs ht fc UD
def jd(m:cM):mX:=⟨m.map (·.1),[(U8 m.length).filter λs=>decide (gd m s=0),(U8 m.length).filter λs=>decide (gd m s=1)],[0,1],[true,true]⟩
theorem de(hs:s < m.length):(jd m).cw s=gd m s:=by show(m.map (·.1)).getD s 0=_;unfold gd row;rw[Vd,Vi,Vc hs,Vd,Vc hs];rfl
theorem tz(ok:dv w m):tq w m (jd m):=by
 have g01:∀s,s < m.length->gd m s=0\/gd m s=1:=λs hs=>by have:=ok.good _ (aS hs);unfold gd;omega
 refine⟨⟨by simp[jd],rfl,λs hs=>?_,λg hg=>?_,by simp[jd],λg=>?_,λs t hs ht hb=>?_,λs t hs ht hb=>?_,λs t a hs ht ha e fc=>?_⟩,λg h1 h2=>?_⟩;·rw[de hs];show _ < 2;rcases g01 s hs with q|q<;>omega
 ·have HD:g=0\/g=1:=by have:g < 2:=hg;omega
  rcases HD with e|e<;>subst e
  ·refine⟨(Xj).filter _,λs=>?_⟩;show s∈(U8 m.length).filter _↔_;rw[Wo,Wi,decide_eq_true_eq];constructor;·rintro⟨p,q⟩;exact⟨p,by rw[de p];exact q⟩
   ·rintro⟨p,q⟩;rw[de p] at q;exact⟨p,q⟩
  ·refine⟨(Xj).filter _,λs=>?_⟩;show s∈(U8 m.length).filter _↔_;rw[Wo,Wi,decide_eq_true_eq];constructor;·rintro⟨p,q⟩;exact⟨p,by rw[de p];exact q⟩
   ·rintro⟨p,q⟩;rw[de p] at q;exact⟨p,q⟩
 ·show g∈[0,1]↔g < 2/\[true,true].getD g false=true;constructor;·intro z;simp at z;rcases z with z|z<;>subst z<;>exact⟨by omega,rfl⟩
  ·rintro⟨p,_⟩;simp;omega
 ·rw[de hs,de ht] at hb;exact λsm=>hb sm.good
 ·rw[de hs,de ht] at hb;exact hb
 ·refine .inl ?_;rw[de (ok.aZ hs ha)];show _∈[0,1];rcases g01 _ (ok.aZ hs ha) with q|q<;>rw[q]<;>simp
 ·have:g < 2:=h2;omega
end
section
variable{w:Nat}{m:cM}{h:mX}
theorem IU(ok:dv w m)(hc:tq w m h)(hw:h.wait≠[]):∃g,h.wait=h.wait.dropLast++[g]/\h.wait.getLast?.getD 0=g/\g < h.mem.length/\(h.mem.getD g []).Nodup/\(∀t∈h.mem.getD g [],t < m.length)/\
  (∀x y,x < m.length->y < m.length->x∈h.mem.getD g []->y∉h.mem.getD g []->¬gI w m x m y)/\jR w m (h.mem.getD g []) (λa=>a < w) (kP h g)/\t7 (kP h g):=by
 obtain⟨hi,hn⟩:=hc;obtain⟨g,hg⟩:∃g,h.wait.getLast?=some g:=by cases q:h.wait.getLast? with|none=>rw[List.getLast?_eq_none_iff] at q;exact absurd q hw|some g=>exact⟨g,rfl⟩
 have eg:h.wait.getLast?.getD 0=g:=by rw[hg];rfl
 have ew:h.wait=h.wait.dropLast++[g]:=by rw[List.getLast?_eq_some_iff] at hg;obtain⟨ys,e⟩:=hg;rw[e];simp
 have gm:g∈h.wait:=by rw[ew];simp
 obtain⟨g1,g2⟩:=(hi.wt g).mp gm;obtain⟨T1,T2⟩:=hi.mem g g1;have nd:(h.wait.dropLast++[g]).Nodup:=by rw[<-ew];exact hi.JQ
 rw[V5] at nd;have MG:g∉h.wait.dropLast:=λz=>nd.2.2 g z g (by simp) rfl;have MH:∀k,k∈h.wait->k≠g->k∈h.wait.dropLast:=λk hk UC=>by
  rw[ew,Xr,Wc] at hk;rcases hk with z|z;·exact z
  ·exact absurd z UC
 have hT:∀x y,x < m.length->y < m.length->x∈h.mem.getD g []->y∉h.mem.getD g []->¬gI w m x m y:=λx y hx hy z1 z2=>by refine hi.snd x y hx hy λe=>z2 ((T2 y).mpr ⟨hy,?_⟩);rw[<-e];exact((T2 x).mp z1).2
 have ip:jR w m (h.mem.getD g []) (λa=>a < w) (kP h g):=by
  refine⟨hi.qu,by unfold kP;simp[hi.mH],hi.blt,hi.mem,nd.1,λk=>?_,hi.snd,hi.good,λs t b hs ht hb e fc=>?_⟩
  ·unfold kP;dsimp only;by_cases e:k=g;·subst e;refine⟨λz=>absurd z MG,λ⟨_,z⟩=>?_⟩;rw[e7 (by rw[hi.mH];exact g1)] at z;cases z
   ·rw[dB λz=>e z.symm];constructor;·intro z;exact(hi.wt k).mp (by rw[ew];exact Wr _ z)
    ·intro z;exact MH k ((hi.wt k).mpr z) e
  ·have e':h.cw s=h.cw t:=e;have v7:h.cw (aZ m s b)≠h.cw (aZ m t b):=fc;have p1:=ok.aZ hs hb;have p2:=ok.aZ ht hb;have i1:aZ m s b∈h.mem.getD g []↔h.cw (aZ m s b)=g:=by rw[T2];exact⟨λz=>z.2,λz=>⟨p1,z⟩⟩
   have i2:aZ m t b∈h.mem.getD g []↔h.cw (aZ m t b)=g:=by rw[T2];exact⟨λz=>z.2,λz=>⟨p2,z⟩⟩
   show h.cw (aZ m s b)∈h.wait.dropLast\/h.cw (aZ m t b)∈h.wait.dropLast\/_;by_cases c1:h.cw (aZ m s b)=g;·refine .inr (.inr ⟨hb,λz=>?_⟩);rw[i1,i2] at z;exact v7 (c1.trans (z.mp c1).symm)
   ·by_cases c2:h.cw (aZ m t b)=g;·refine .inr (.inr ⟨hb,λz=>?_⟩);rw[i1,i2] at z;exact c1 (z.mpr c2)
    ·rcases hi.sep s t b hs ht hb e' v7 with q|q|⟨q,_⟩;·exact .inl (MH _ q c1)
     ·exact .inr (.inl (MH _ q c2))
     ·exact q.elim
 exact⟨g,ew,eg,g1,T1,λt ht=>((T2 t).mp ht).1,hT,ip,hn⟩
end
section
variable{α:Type}[DecidableEq α]
def bG(ps ss:List α):List α:=ss.foldl (λps s=>if s∈ps then ps else ps++[s]) ps
def xp(step:α->List α):Nat->List α->Nat->List α
 |0,ps,_=>ps|n+1,ps,k=>match ps[k]? with|none=>ps|some p=>xp step n (bG ps (step p)) (k+1)
def tB(step:α->List α)(good:α->Nat)(F:List α)(p:α):Nat×List Nat:=(good p,(step p).map λq=>F.idxOf q)
def fj(step:α->List α)(good:α->Nat)(F:List α):cM:=F.map (tB step good F)
def uA(step:α->List α)(p:α)(u:List Nat):α:=u.foldl (λp a=>((step p)[a]?).getD p) p
theorem jw ps(s:α)ss:bG ps (s::ss)=bG (if s∈ps then ps else ps++[s]) ss:=rfl
theorem gD:∀(ss ps:List α),∃t,bG ps ss=ps++t
 |[],ps=>⟨[],by simp[bG]⟩|s::ss,ps=>by
  rw[jw];split;·exact gD ss ps
  ·obtain⟨t,e⟩:=gD ss (ps++[s]);exact⟨s::t,by rw[e];simp⟩
theorem dD:∀{ss ps} {x:α},x∈bG ps ss↔x∈ps\/x∈ss
 |[],ps,x=>by simp[bG]|s::ss,ps,x=>by
  rw[jw];split
  ·rename_i h;rw[dD,W4];constructor
   ·rintro(z|z);·exact .inl z
    ·exact .inr (.inr z)
   ·rintro(z|z|z);·exact .inl z
    ·exact .inl (z▸h)
    ·exact .inr z
  ·rw[dD,Xr,Wc,W4,or_assoc]
theorem rn:∀{ss ps:List α},ps.Nodup->(bG ps ss).Nodup
 |[],ps,h=>h|s::ss,ps,h=>by
  rw[jw];split;·exact rn h
  ·rename_i hs;exact rn (by rw[V5];exact⟨h,by simp,λa ha b hb=>by simp at hb;subst hb;exact λz=>hs (z▸ha)⟩)
theorem rA(step:α->List α):∀(n) (ps) (k),∃t,xp step n ps k=ps++t
 |0,ps,k=>⟨[],by simp[xp]⟩|n+1,ps,k=>by
  rw[xp];split;·exact⟨[],by simp⟩
  ·rename_i p hp;obtain⟨t,e⟩:=rA step n (bG ps (step p)) (k+1);obtain⟨t',e'⟩:=gD (step p) ps;exact⟨t'++t,by rw[e,e'];simp⟩
theorem w4{ps t:List α}(h:q∈ps):(ps++t).idxOf q=ps.idxOf q:=by rw[List.idxOf_append,if_pos h]
theorem w6{l:List α}(h:l.Nodup):∀{i j} (hi) (hj:j < l.length),l[i]=l[j]->i=j:=by
 induction l with
 |nil=>intro i j hi;simp at hi|cons x l ih=>
  rw[WI] at h;intro i j hi hj e;cases i with
  |zero=>cases j with|zero=>rfl|succ j=>simp at e;exact absurd (e▸Wa _) h.1
  |succ i=>cases j with|zero=>simp at e;exact absurd (e▸Wa _) h.1|succ j=>simp at e;rw[ih h.2 _ _ e]
theorem BX{q:α}(h:q∉ps):(ps++[q]++t).idxOf q=ps.length:=by rw[w4 (by simp),List.idxOf_append,if_neg h];simp
structure tD(step:α->List α)(S ps:List α)(k:Nat):Prop where
 nd:ps.Nodup
 sub:∀p∈ps,p∈S
 le:k<=ps.length
 cl:∀(i:Nat) (p:α),i < k->ps[i]?=some p->∀q∈step p,q∈ps
variable{step:α->List α}{S:List α}
theorem tD.len(h:tD step S ps k):ps.length<=S.length:=gb h.nd h.sub
theorem tD.next(hS:∀p∈S,∀q∈step p,q∈S)(h:tD step S ps k)(hp:ps[k]?=some p):tD step S (bG ps (step p)) (k+1):=by
 have hk:=(List.getElem?_eq_some_iff.mp hp).1;obtain⟨t,et⟩:=gD (step p) ps;refine⟨rn h.nd,λq hq=>?_,by rw[et,Vy];omega,λi p' hi Cu q hq=>?_⟩
 ·rcases dD.mp hq with z|z;·exact h.sub q z
  ·exact hS p (h.sub p (VC hp)) q z
 ·have u6:i < ps.length:=by omega
  have e:ps[i]?=some p':=by rw[et,Vf u6] at Cu;exact Cu
  by_cases u7:i < k;·exact dD.mpr (.inl (h.cl i p' u7 e q hq))
  ·have:i=k:=by omega
   subst this;rw[hp] at e;cases e;exact dD.mpr (.inr hq)
theorem BY(hS:∀p∈S,∀q∈step p,q∈S):∀{n} {ps} {k},tD step S ps k->S.length+1<=n+k->tD step S (xp step n ps k) (xp step n ps k).length
 |0,ps,k,h,hn=>by have h1:=h.len;have h2:=h.le;omega|n+1,ps,k,h,hn=>by
  rw[xp];split
  ·rename_i hp;have h2:=List.getElem?_eq_none_iff.mp hp;have h1:=h.le;have:k=ps.length:=by omega
   subst this;exact h
  ·rename_i p hp;exact BY hS (h.next hS hp) (by omega)
theorem mI F:∀(ss ps t:List α),F=bG ps ss++t->gY (ss.map λq=>F.idxOf q) ps.length=some (bG ps ss).length
 |[],ps,t,_=>by simp[gY,bG]|s::ss,ps,t,e=>by
  rw[jw] at e ⊢;rw[Vo,gY];by_cases h:s∈ps
  ·rw[if_pos h] at e ⊢;obtain⟨t',e'⟩:=gD ss ps;have:F.idxOf s < ps.length:=by rw[e,e',V1,w4 h];exact Wm h
   rw[if_pos this];exact mI F ss ps t e
  ·rw[if_neg h] at e ⊢;obtain⟨t',e'⟩:=gD ss (ps++[s]);have:F.idxOf s=ps.length:=by rw[e,e',V1,BX h]
   rw[this,if_neg (by omega),if_pos rfl];have:=mI F ss (ps++[s]) t e;simpa using this
theorem zd(hS:∀p∈S,∀q∈step p,q∈S):∀{n} {ps} {k},tD step S ps k->S.length+1<=n+k->xp step n ps k=F->gB ((F.drop k).map (tB step good F)) k ps.length=some F.length
 |0,ps,k,h,hn,e=>by have h1:=h.len;have h2:=h.le;omega|n+1,ps,k,h,hn,e=>by
  rw[xp] at e;split at e;·rename_i hp;have h2:=List.getElem?_eq_none_iff.mp hp;have h1:=h.le;subst e;rw[YT h2];simp[gB]
  ·rename_i p hp;have hk:=(List.getElem?_eq_some_iff.mp hp).1;obtain⟨t,et⟩:=rA step n (bG ps (step p)) (k+1);obtain⟨t',et'⟩:=gD (step p) ps;have eF:F=bG ps (step p)++t:=by rw[<-e,et]
   have ek:F[k]?=some p:=by rw[eF,et',V1,Vf hk];exact hp
   have hkF:=(List.getElem?_eq_some_iff.mp ek);have ed:F.drop k=p::F.drop (k+1):=by rw[V8 hkF.1,hkF.2]
   rw[ed,Vo,gB,if_pos hk];have:gY (tB step good F p).2 ps.length=some (bG ps (step p)).length:=mI F (step p) ps t eF;rw[this];exact zd hS (h.next hS hp) (by omega) e
def places(step:α->List α)(N:Nat)(start:α):List α:=xp step N [start] 0
structure Places(w:Nat)(step:α->List α)(good:α->Nat)(S:List α)(start:α)(F:List α):Prop where
 nd:F.Nodup
 sub:∀p∈F,p∈S
 cl:∀p∈F,∀q∈step p,q∈F
 zero:F[0]?=some start
 ok:dv w (fj step good F)
 ord:gB (fj step good F) 0 1=some (fj step good F).length
theorem C1(hs:start∈S)(hS:∀p∈S,∀q∈step p,q∈S)(hl:∀p∈S,(step p).length=w)(hg:∀p∈S,good p<=1)(hN:S.length+1<=N):Places w step good S start (places step N start):=by
 have b0:tD step S [start] 0:=⟨by simp,λp hp=>by simp at hp;rw[hp];exact hs,by simp,λi p hi=>by omega⟩;have b:=BY hS b0 (n:=N) (by omega);have sc:=zd (good:=good) hS b0 (n:=N) (by omega) (F:=places step N start) rfl;obtain⟨t,et⟩:=rA step N [start] 0;have tY:∀p∈places step N start,∀q∈step p,q∈places step N start:=λp hp q hq=>by obtain⟨i,hi⟩:=Zh hp;exact b.cl i p (List.getElem?_eq_some_iff.mp hi).1 hi q hq
 refine⟨b.nd,b.sub,tY,by show(xp step N [start] 0)[0]?=_;rw[et];rfl,⟨?_,λs rV=>?_,λs rV=>?_,λs rV t ht=>?_⟩,?_⟩;·show 0 < (Yx _ (xp step N [start] 0)).length;rw[et];simp
 ·obtain⟨p,hp,rfl⟩:=W8.mp rV;exact hg p (b.sub p hp)
 ·obtain⟨p,hp,rfl⟩:=W8.mp rV;show(Yx _ _).length=w;rw[Vg];exact hl p (b.sub p hp)
 ·obtain⟨p,hp,rfl⟩:=W8.mp rV;obtain⟨q,hq,rfl⟩:=W8.mp (show t∈(step p).map λq=>(places step N start).idxOf q from ht);show _ < (Yx _ _).length;rw[Vg];exact Wm (tY p hp q hq)
 ·rw[X5] at sc;show gB ((places step N start).map _) 0 1=some ((places step N start).map _).length;rw[Vg];exact sc
theorem rB(h:F[i]?=some p):row (fj step good F) i=tB step good F p:=by unfold row fj;rw[Vd,Vi,h];rfl
theorem BZ(h:Places w step good S start F)(hl:∀p∈S,(step p).length=w):∀{u} {i} {p},F[i]?=some p->Wd w u->gd (fj step good F) (walk (fj step good F) i u)=good (uA step p u)
 |[],i,p,hp,_=>by show(row _ i).1=good p;rw[rB hp];rfl|a::u,i,p,hp,hu=>by
  have ha:=hu.head;have Qg:=VC hp;have hlp:=hl p (h.sub p Qg);have hq:(step p)[a]?=some ((step p)[a]'(by omega)):=Vc (by omega);have Qh:=h.cl p Qg _ (Wa (by omega:a < (step p).length));have es:aZ (fj step good F) i a=F.idxOf ((step p)[a]'(by omega)):=by unfold aZ;rw[rB hp];show((step p).map _).getD a 0=_;rw[Vd,Vi,hq];rfl
  show gd _ (walk _ (aZ _ i a) u)=good (uA step (((step p)[a]?).getD p) u);rw[es,hq];exact BZ h hl (by rw[Vc (Wm Qh),YC];rfl) hu.tail
end
section
variable{w:Nat}{m:cM}
def Qi(grp:List Nat)(s:Nat):Nat:=grp.idxOf (grp.getD s 0)
noncomputable def iK(w:Nat)(m:cM):mX:=settle m w (m.length+2) (jd m)
theorem vJ(ok:dv w m):tq w m (iK w m)/\(iK w m).wait=[]:=tu ok (tz ok) (by simp[jd];have:=ok.ne;omega)
noncomputable def fst(w:Nat)(m:cM)(s:Nat):Nat:=Qi (iK w m).grp s
theorem gE(ok:dv w m)(hs:s < m.length):fst w m s < m.length/\gI w m (fst w m s) m s/\∀t,t < m.length->gI w m s m t->fst w m t=fst w m s:=by
 obtain⟨c,hw⟩:=vJ ok;have gl:=c.1.qu;have e:(iK w m).grp.getD s 0=(iK w m).grp[s]'(by omega):=by rw[Vd,Vc (by omega)];rfl
 have mem:(iK w m).grp.getD s 0∈(iK w m).grp:=by rw[e];exact Wa _
 have lt:fst w m s < m.length:=by have:=Wm mem;show List.idxOf _ _ < _;omega
 have at_:(iK w m).cw (fst w m s)=(iK w m).cw s:=by show(iK w m).grp.getD (fst w m s) 0=(iK w m).grp.getD s 0;have h1:=Wm mem;rw[Vd,Vc (show fst w m s < _ from h1)];show(iK w m).grp[(iK w m).grp.idxOf ((iK w m).grp.getD s 0)]=_;exact YC h1
 refine⟨lt,(zc ok c hw lt hs).mp at_,λt ht q=>?_⟩;have:=(zc ok c hw hs ht).mpr q;show(iK w m).grp.idxOf ((iK w m).cw t)=(iK w m).grp.idxOf ((iK w m).cw s);rw[this]
noncomputable def eA(w:Nat)(m:cM)(s:Nat):List Nat:=(row m s).2.map (fst w m)
noncomputable def eU(w:Nat)(m:cM):List Nat:=places (eA w m) 1000000 (fst w m 0)
theorem vK w m:∃M,M=fj (eA w m) (gd m) (eU w m):=⟨_,rfl⟩
noncomputable def bX(w:Nat)(m:cM):cM:=Classical.choose (vK w m)
theorem gc w m:bX w m=fj (eA w m) (gd m) (eU w m):=Classical.choose_spec (vK w m)
theorem ze(ok:dv w m):∀p∈U8 m.length,∀q∈eA w m p,q∈U8 m.length:=λp hp q hq=>by rw[Wi] at hp ⊢;obtain⟨t,ht,rfl⟩:=W8.mp hq;exact(gE ok (ok.lt _ (aS hp) t ht)).1
theorem o6(ok:dv w m):∀p∈U8 m.length,(eA w m p).length=w:=λp hp=>by rw[Wi] at hp;unfold eA;rw[Vg];exact ok.len _ (aS hp)
theorem mJ(ok:dv w m)(hm:m.length < 1000000):Places w (eA w m) (gd m) (U8 m.length) (fst w m 0) (eU w m):=
 C1 (Wi.mpr (gE ok ok.ne).1) (ze ok) (o6 ok) (λp hp=>ok.good _ (aS (Wi.mp hp))) (by rw[VQ];omega)
theorem Qj(ok:dv w m):∀{u} {s p},s < m.length->p < m.length->gI w m p m s->Wd w u->gd m (uA (eA w m) p u)=gd m (walk m s u)
 |[],s,p,hs,hp,q,_=>q.good|a::u,s,p,hs,hp,q,hu=>by
  have ha:=hu.head;have hl:=ok.len _ (aS hp);have e:(eA w m p)[a]?=some (fst w m (aZ m p a)):=by unfold eA aZ;rw[Vi,Vd,Vc (by omega)];rfl
  show gd m (uA _ (((eA w m p)[a]?).getD p) u)=gd m (walk m (aZ m s a) u);rw[e];obtain⟨f1,f2,_⟩:=gE ok (ok.aZ hp ha);exact Qj ok (ok.aZ hs ha) f1 (f2.trans (q.step ha)) hu.tail
theorem mK(ok:dv w m)(hm:m.length < 1000000)(h:(eU w m)[i]?=some p):gI w (bX w m) i m p:=λu hu=>by have P:=mJ ok hm;have hp:p < m.length:=Wi.mp (P.sub p (VC h));rw[gc,show gd (fj (eA w m) (gd m) (eU w m)) (walk (fj (eA w m) (gd m) (eU w m)) i u)=gd m (uA (eA w m) p u) from BZ P (o6 ok) h hu];exact Qj ok hp hp gI.refl hu
theorem AU(ok:dv w m)(hm:m.length < 1000000):(bX w m).length<=m.length:=by have P:=mJ ok hm;rw[gc];show(Yx _ _).length<=_;rw[Vg];have:=gb P.nd P.sub;rw[VQ] at this;exact this
theorem hW(ok:dv w m)(hm:m.length < 1000000):lZ w (bX w m)/\gI w (bX w m) 0 m 0:=by
 have P:=mJ ok hm;have rep:∀p∈eU w m,fst w m p=p:=by
  have all:∀(n:Nat) (ps:List Nat) (k:Nat),(∀p∈ps,p < m.length/\fst w m p=p)->∀p∈xp (eA w m) n ps k,p < m.length/\fst w m p=p:=by
   intro n;induction n with
   |zero=>intro ps k h;exact h|succ n ih=>
    intro ps k h;rw[xp];split;·exact h
    ·rename_i p hp;refine ih _ _ λq hq=>?_;rcases dD.mp hq with z|z;·exact h q z
     ·obtain⟨t,ht,rfl⟩:=W8.mp z;have Cu:=(h p (VC hp)).1;have vm:=ok.lt _ (aS Cu) t ht;obtain⟨f1,f2,f3⟩:=gE ok vm;exact⟨f1,f3 _ f1 f2.symm⟩
  intro p hp;obtain⟨f1,f2,f3⟩:=gE ok ok.ne;exact(all 1000000 [fst w m 0] 0 (λq hq=>by simp at hq;rw[hq];exact⟨f1,f3 _ f1 f2.symm⟩) p hp).2
 have UE:(bX w m).length=(eU w m).length:=by rw[gc];exact Vg ..
 refine⟨⟨by rw[gc];exact P.ok,λs t hs ht q=>?_,by rw[gc];exact P.ord⟩,?_⟩
 ·have rV:s < (eU w m).length:=by omega
  have vm:t < (eU w m).length:=by omega
  have es:=Vc rV;have et:=Vc vm;have q1:gI w m (eU w m)[s] m (eU w m)[t]:=((mK ok hm es).symm.trans q).trans (mK ok hm et);have ps:=Wi.mp (P.sub _ (Wa rV));have pt:=Wi.mp (P.sub _ (Wa vm));have:=(gE ok ps).2.2 _ pt q1;rw[rep _ (Wa rV),rep _ (Wa vm)] at this;exact w6 P.nd rV vm this.symm
 ·obtain⟨f1,f2,f3⟩:=gE ok ok.ne;exact(mK ok hm P.zero).trans f2
theorem C2(ok:dv w m)(Rr:dv w m')(hm:m.length < 1000000)(hm':m'.length < 1000000)(h:gI w m 0 m' 0):bX w m=bX w m':=by obtain⟨l1,s1⟩:=hW ok hm;obtain⟨l2,s2⟩:=hW Rr hm';exact l1.one l2 ((s1.trans h).trans s2.symm)
theorem zf(h:lZ w m)(hm:m.length < 1000000):bX w m=m:=by obtain⟨l1,s1⟩:=hW h.ok hm;exact l1.one h s1
end
end Y
namespace Y
open PySem
def encM(ss:List Nat):O:=.dK (ss.map λ(s:Nat)=>(.inl (s:Int),P.d (.bl true)))
def encL(ss:List Nat):O:=.lst (ss.map λs=>P.d (nD s))
def jx(bs:List Bool):O:=.lst (bs.map λb=>P.d (.bl b))
def qt(b:Nat):List (Str×P):=[("sources",.obj b),("group_of",.obj (b+1)),("members",.obj (b+4)),("waiting",.obj (b+5)),("waits",.obj (b+6))]
def iB(b:Nat):O:=.ins "Groups" (qt b)
def Mad(b a:Nat):Prop:=a=b+2\/a=b+3\/b+7<=a
def Du(b:Nat)(mb:List Nat)(l:Nat):Prop:=b+7<=l/\l∉mb
structure HS(m:cM)(w b:Nat)(mb:List Nat)(st:aI)(h:mX):Prop where
 len:b+7<=st.length
 b0:0 < b
 self:st[0]?=some (iB b)
 src:∃outer:List Nat,st[b]?=some (.lst (outer.map P.obj))/\outer.length=w/\∀a,a < w->∃(o:Nat) (rows:List Nat),outer[a]?=some o/\0 < o/\o < b/\st[o]?=some (.lst (rows.map P.obj))/\∀t,t < m.length->∃l,rows[t]?=some l/\0 < l/\l < b/\st[l]?=some (encL (dO m a t))
 grp:st[b+1]?=some (encL h.grp)
 JR:st[b+4]?=some (.lst (mb.map P.obj))
 qv:mb.length=h.mem.length
 mem:∀g,g < h.mem.length->∃a,mb[g]?=some a/\Mad b a/\a < st.length/\st[a]?=some (encM (h.mem.getD g []))
 Qk:mb.Nodup
 Nq:st[b+5]?=some (encL h.wait)
 iH:st[b+6]?=some (jx h.iH)
section
variable{m:cM}{w b:Nat}{mb:List Nat}{st aJ:aI}{h:mX}
theorem HS.mad(hs:HS m w b mb st h)(ha:a∈mb):Mad b a/\a < st.length:=by obtain⟨g,hg⟩:=Zh ha;have hl:=(List.getElem?_eq_some_iff.mp hg).1;obtain⟨a',e,q,q2,_⟩:=hs.mem g (by rw[<-hs.qv];exact hl);rw[hg] at e;cases e;exact⟨q,q2⟩
theorem HS.keep(hs:HS m w b mb st h)(hl:st.length<=aJ.length)(k:∀i,i < st.length->¬Du b mb i->aJ[i]?=st[i]?):HS m w b mb aJ h:=by
 have kk:∀i,i < b+7->aJ[i]?=st[i]?:=λi hi=>k i (by have:=hs.len;omega) (λz=>by have:=z.1;omega);refine⟨by have:=hs.len;omega,hs.b0,by rw[kk 0 (by omega)];exact hs.self,?_,by rw[kk _ (by omega)];exact hs.grp,by rw[kk _ (by omega)];exact hs.JR,hs.qv,λg hg=>?_,hs.Qk,by rw[kk _ (by omega)];exact hs.Nq,by rw[kk _ (by omega)];exact hs.iH⟩;·obtain⟨outer,e1,e2,e3⟩:=hs.src;refine⟨outer,by rw[kk _ (by omega)];exact e1,e2,λa ha=>?_⟩;obtain⟨o,rows,f1,f2,f3,f4,f5⟩:=e3 a ha;refine⟨o,rows,f1,f2,f3,by rw[kk _ (by omega)];exact f4,λt ht=>?_⟩;obtain⟨l,g1,g2,g3,g4⟩:=f5 t ht;exact⟨l,g1,g2,g3,by rw[kk _ (by omega)];exact g4⟩
 ·obtain⟨a,e1,e2,e3,e4⟩:=hs.mem g hg;exact⟨a,e1,e2,by omega,by rw[k a e3 (λz=>z.2 (VC e1))];exact e4⟩
theorem HS.put(hs:HS m w b mb st h)(hl:Du b mb l)o:HS m w b mb (st.set l o) h:=hs.keep (by simp) λi hi ho=>Ve (λ(z:l=i)=>ho (z▸hl))
theorem zg(hs:st[0]?=some (iB b)):ur "Groups" st (.obj 0)=some (0,qt b):=by unfold ur;simp[hs,iB]
theorem cN(hi:(r[i]?).join=some (.obj 0))(hs:st[0]?=some (iB b))(hf:(qt b).lookup f=some x):aa C (.attr "Groups" f i) r st=.ok x st:=by rw[BP,hi,aq,ae,zg hs,VS,hf,aq]
theorem nU(hi:(r[i]?).join=some (.obj 0))(hs:st[0]?=some (iB b))(hf:(qt b).lookup f=none)(he:az C es r st=.ok ps st1)(hc:C k (.obj 0::ps) st1=res):aa C (.qm k "Groups" f i es) r st=res:=by rw[Iq,hi,aq,ae,zg hs,VS,hf];simp[he,hc]
theorem HS.Ql(hs:HS m w b mb st h)g:HS m w b mb ((st.set (b+5) (encL (h.wait++[g]))).set (b+6) (jx (h.iH.set g true))) ⟨h.grp,h.mem,h.wait++[g],h.iH.set g true⟩:=by
 have hl:=hs.len;have g0:∀i,i≠b+5->i≠b+6->((st.set (b+5) (encL (h.wait++[g]))).set (b+6) (jx (h.iH.set g true)))[i]?=st[i]?:=λi h1 h2=>by rw[Ve (Wg h2),Ve (Wg h1)]
 refine⟨by simpa using hl,hs.b0,by rw[g0 0 (by omega) (by omega)];exact hs.self,?_,by rw[g0 _ (by omega) (by omega)];exact hs.grp,by rw[g0 _ (by omega) (by omega)];exact hs.JR,hs.qv,λk hk=>?_,hs.Qk,?_,?_⟩;·obtain⟨outer,e1,e2,e3⟩:=hs.src;refine⟨outer,by rw[g0 _ (by omega) (by omega)];exact e1,e2,λa ha=>?_⟩;obtain⟨o,rows,f1,f2,f3,f4,f5⟩:=e3 a ha;refine⟨o,rows,f1,f2,f3,by rw[g0 _ (by omega) (by omega)];exact f4,λt ht=>?_⟩;obtain⟨l,q1,q2,q3,q4⟩:=f5 t ht;exact⟨l,q1,q2,q3,by rw[g0 _ (by omega) (by omega)];exact q4⟩
 ·obtain⟨a,e1,e2,e3,e4⟩:=hs.mem k hk;refine⟨a,e1,e2,by simpa using e3,?_⟩;rw[g0 _ (by rcases e2 with z|z|z<;>omega) (by rcases e2 with z|z|z<;>omega)];exact e4
 ·rw[Ve (by omega),VB (by omega)]
 ·rw[VB (by simp;omega)]
end
theorem FK{ss:List Nat}(h:s∈ss):ff (ss.map λ(s:Nat)=>((.inl (s:Int):Sum Int Str),P.d (.bl true))) (.inl (s:Int))=some (.d (.bl true)):=by
 unfold ff;induction ss with
 |nil=>cases h|cons x ss ih=>
  rw[Vo,Wy];by_cases e:x=s;·subst e;simp
  ·have:decide ((.inl (x:Int):Sum Int Str)=.inl (s:Int))=false:=by rw[decide_eq_false_iff_not];intro z;injection z with z;exact e (by omega)
   simp only[this];exact ih ((W4.mp h).resolve_left λz=>e z.symm)
theorem C3(ss:List Nat)(s:Nat):vg (ss.map λ(s:Nat)=>((.inl (s:Int):Sum Int Str),P.d (.bl true))) (.inl (s:Int))=(ss.filter λx=>decide (x≠s)).map λ(s:Nat)=>((.inl (s:Int):Sum Int Str),P.d (.bl true)):=by
 unfold vg;induction ss with
 |nil=>rfl|cons x ss ih=>
  rw[Vo];by_cases e:x=s;·subst e;rw[V0 (by simp),V0 (by simp)];exact ih
  ·rw[VR (by simp;omega),VR (by simp;exact e),Vo,ih]
theorem rD{κ:Type}[DecidableEq κ]{kvs:List (κ×P)}{k:κ}(h:∀kv∈kvs,kv.1≠k):lL kvs k v=kvs++[(k,v)]:=by
 unfold lL;have:(kvs.any λkv=>decide (kv.1=k))=false:=by rw[ZE];intro kv pU;simpa using h kv pU
 rw[this];simp
theorem FO(h:st[a]?=some (encM ss)):aX st (.obj a)=some (encM ss):=by unfold aX kC;simp[h,encM,gq]
theorem FP(h:st[a]?=some (encM ss))(hs:s∈ss):EJ (.obj a) (.d (nD s)) st=some (.d (.bl true),st.set a (encM (ss.filter λx=>decide (x≠s)))):=by have hk:keyOf (.d (nD s))=some (.inl (s:Int)):=rfl;unfold EJ;simp only[h,encM,hk,VS,FK hs,C3,VE]
theorem tF(h:st[a]?=some (encM ss))(hs:s∉ss)(hl:ss.length < av):oN (.obj a) (.d (nD s)) (.d (.bl true)) st=some (st.set a (encM (ss++[s]))):=by
 have hk:keyOf (.d (nD s))=some (.inl (s:Int)):=rfl;have hp:lL (ss.map λ(s:Nat)=>((.inl (s:Int):Sum Int Str),P.d (.bl true))) (.inl (s:Int)) (P.d (.bl true))=(ss++[s]).map λ(s:Nat)=>((.inl (s:Int):Sum Int Str),P.d (.bl true)):=by
  rw[rD,VU];·rfl
  ·intro kv pU;obtain⟨x,hx,rfl⟩:=W8.mp pU;intro z;injection z with z;exact hs ((show x=s by omega)▸hx)
 unfold oN;simp only[h,VS,encM,yd,Bn,Vg,hl,if_true,hk,VE,hp]
theorem zh{l:List Nat}{ss:List Nat}(h:ss[i]?=some s):((l.filter λx=>decide (x∉ss.take i)).filter λx=>decide (x≠s))=l.filter λx=>decide (x∉ss.take (i+1)):=by
 rw[List.filter_filter];congr 1;funext x;have e:ss.take (i+1)=ss.take i++[s]:=by rw[Wq,h];rfl
 rw[e];by_cases h1:x=s<;>by_cases h2:x∈ss.take i<;>simp[Xr,h1,h2]
theorem zi{fresh:Nat}{ss g:List Nat}(h:ss[i]?=some s):(putAll fresh (ss.take i) g).set s fresh=putAll fresh (ss.take (i+1)) g:=by
 have e:ss.take (i+1)=ss.take i++[s]:=by rw[Wq,h];rfl
 rw[e];unfold putAll;rw[XR];rfl
theorem zj{ss:List Nat}(hn:ss.Nodup)(h:ss[i]?=some s):s∉ss.take i:=by
 obtain⟨hi,e⟩:=List.getElem?_eq_some_iff.mp h;intro hm;obtain⟨j,hj,e2⟩:=List.getElem_of_mem hm;rw[List.getElem_take] at e2;have Q8:j < i:=by simp at hj;omega
 have:=w6 hn (i:=j) (j:=i) (by omega) hi (e2.trans e.symm);omega
abbrev JS:=Nat×List Nat×Nat
def t8(dl:List JS):List (Sum Int Str×P):=dl.map λt=>(.inl (t.1:Int),P.obj t.2.2)
structure GS(grp:List Nat)(D0:Nat)(st s:aI)(done:List Nat)(dl:List JS):Prop where
 proj:dl.map (λt=>(t.1,t.2.1))=b7 grp done
 t9:s[D0]?=some (.dK (t8 dl))
 at_:∀t∈dl,D0 < t.2.2/\t.2.2 < s.length/\s[t.2.2]?=some (encL t.2.1)
 nd:(dl.map λt=>t.2.2).Nodup
 pre:∀i,i < D0->s[i]?=st[i]?
 len:D0 < s.length
theorem vL:∀{dl:List JS},g∈dl.map (·.1)->∃l1 ss a l2,dl=l1++(g,ss,a)::l2/\∀t∈l1,t.1≠g
 |[],h=>by cases h|(k,ss,a)::dl,h=>by
  by_cases e:k=g;·subst e;exact⟨[],ss,a,dl,rfl,λ_ z=>nomatch z⟩
  ·rw[Vo] at h;obtain⟨l1,ID,a',l2,e2,h2⟩:=vL ((W4.mp h).resolve_left λz=>e z.symm);refine⟨(k,ss,a)::l1,ID,a',l2,by rw[e2];rfl,λt ht=>?_⟩;rcases W4.mp ht with z|z;·rw[z];exact e
   ·exact h2 t z
theorem p9:∀{l1 l2},(∀t∈l1,t.1≠g)->dA (l1++(g,ss)::l2) g x=l1++(g,ss++[x])::l2
 |[],l2,_=>by simp[dA]|(k,r)::l1,l2,h=>by have hk:k≠g:=h (k,r) Vh;rw[W0,dA,if_neg hk,p9 λt ht=>h t (Vb _ ht)];rfl
theorem tG:∀{l},(∀t∈l,t.1≠g)->dA l g x=l++[(g,[x])]
 |[],_=>by simp[dA]|(k,r)::l,h=>by have hk:k≠g:=h (k,r) Vh;rw[dA,if_neg hk,tG λt ht=>h t (Vb _ ht)];rfl
theorem C4{ss:List Nat}{l1 l2:List JS}(h:∀t∈l1,t.1≠g):ff (t8 (l1++(g,ss,a)::l2)) (.inl (g:Int))=some (.obj a):=by
 unfold ff t8;rw[VU,List.find?_append];have:(l1.map λt:JS=>((.inl (t.1:Int):Sum Int Str),P.obj t.2.2)).find? (λkv=>decide (kv.1=.inl (g:Int)))=none:=by rw[Zw];intro kv pU;obtain⟨t,ht,rfl⟩:=W8.mp pU;have:=h t ht;simp;omega
 rw[this];simp
theorem FQ{g:Nat}(h:g∉dl.map (·.1)):ff (t8 dl) (.inl (g:Int))=none:=by
 unfold ff t8;have:(dl.map λt:JS=>((.inl (t.1:Int):Sum Int Str),P.obj t.2.2)).find? (λkv=>decide (kv.1=.inl (g:Int)))=none:=by rw[Zw];intro kv pU;obtain⟨t,ht,rfl⟩:=W8.mp pU;have:t.1≠g:=λz=>h (W8.mpr ⟨t,ht,z⟩);simp;omega
 rw[this];rfl
theorem GS.next(G:GS grp D0 st s done dl)(hl:dl.length < av)(hd:done.length < av):
  ∃v its s1 s2 MI,pX (.obj D0) (.d (nD (grp.getD x 0))) (.obj s.length) (s++[O.lst []])=some (v,s1)/\aR s1 v=some its/\yc v (.d (nD x)) s1=some s2/\GS grp D0 st s2 (done++[x]) MI:=by
 have pJ:b7 grp (done++[x])=dA (b7 grp done) (grp.getD x 0) x:=by unfold b7;rw[XR];rfl
 have hk:keyOf (.d (nD (grp.getD x 0)))=some (.inl ((grp.getD x 0:Nat):Int)):=rfl;have hlen:=G.len;have hD:(s++[O.lst []])[D0]?=some (.dK (t8 dl)):=by rw[Vf hlen];exact G.t9
 have hkl:(t8 dl).length < av:=by unfold t8;simpa using hl
 generalize hg:grp.getD x 0=g at*;by_cases tH:g∈dl.map (·.1)
 ·obtain⟨l1,ss,a,l2,rfl,h1⟩:=vL tH;obtain⟨a1,a2,a3⟩:=G.at_ (g,ss,a) (by simp);dsimp only at a1 a2 a3;have ssl:ss.length<=done.length:=by
   have:(g,ss)∈b7 grp done:=by rw[<-G.proj];exact W8.mpr ⟨(g,ss,a),by simp,rfl⟩
   have:=((eh grp done).2.1 g ss this).1;rw[this];exact XE _ _
  have ha:(s++[O.lst []])[a]?=some (encL ss):=by rw[Vf a2];exact a3
  refine⟨.obj a,ss.map λs=>P.d (nD s),s++[O.lst []],(s++[O.lst []]).set a (encL (ss++[x])),l1++(g,ss++[x],a)::l2,?_,iU ha,?_,?_⟩;·unfold pX;simp only[hD,hkl,if_true,hk,VE,C4 h1]
  ·rw[fi ha (by simp;omega)];simp[encL]
  ·have C0:=G.nd;rw[VU,Vo,V5] at C0;refine⟨?_,?_,λt ht=>?_,by rw[VU,Vo,V5];exact C0,λi hi=>?_,by simp;omega⟩;·rw[pJ,<-G.proj,VU,Vo,VU,Vo,p9];intro t ht;obtain⟨t',vm,rfl⟩:=W8.mp ht;exact h1 t' vm
   ·rw[Ve (by omega),hD];unfold t8;simp
   ·by_cases ta:t.2.2=a
    ·have:t=(g,ss++[x],a):=by
      rcases Xr.mp ht with z|z;·exact absurd ta (C0.2.2 _ (W8.mpr ⟨t,z,rfl⟩) _ Vh)
      ·rcases W4.mp z with z|z;·exact z
       ·rw[WI] at C0;exact absurd (W8.mpr ⟨t,z,ta⟩) C0.2.1.1
     subst this;refine⟨a1,by simp;omega,?_⟩;rw[VB (by simp;omega)]
    ·have vm:t∈l1++(g,ss,a)::l2:=by
      rcases Xr.mp ht with z|z;·exact Wr _ z
      ·rcases W4.mp z with z|z;·rw[z] at ta;exact absurd rfl ta
       ·exact VN _ (Vb _ z)
     obtain⟨b1,b2,b3⟩:=G.at_ t vm;exact⟨b1,by simp;omega,by rw[Ve (Wg ta),Vf b2];exact b3⟩
   ·rw[Ve (by omega),Vf (by omega)];exact G.pre i hi
 ·have hm:∀t∈b7 grp done,t.1≠g:=λt ht z=>tH (by rw[<-G.proj] at ht;obtain⟨t',vm,rfl⟩:=W8.mp ht;exact W8.mpr ⟨t',vm,z⟩);have UG:lL (t8 dl) (.inl (g:Int)) (.obj s.length)=t8 (dl++[(g,[x],s.length)]):=by
   rw[rD];·unfold t8;simp
   ·intro kv pU;obtain⟨t,ht,rfl⟩:=W8.mp pU;intro z;injection z with z;exact tH (W8.mpr ⟨t,ht,by omega⟩)
  have JT:((s++[O.lst []]).set D0 (.dK (t8 (dl++[(g,[x],s.length)]))))[s.length]?=some (.lst []):=by rw[Ve (by omega)];simp
  refine⟨.obj s.length,[],(s++[O.lst []]).set D0 (.dK (t8 (dl++[(g,[x],s.length)]))),((s++[O.lst []]).set D0 (.dK (t8 (dl++[(g,[x],s.length)])))).set s.length (encL [x]),dl++[(g,[x],s.length)],?_,iU JT,?_,?_⟩;·unfold pX;simp only[hD,hkl,if_true,hk,VE,FQ tH,UG]
  ·rw[fi JT (by simp[av])];simp[encL]
  ·refine⟨?_,?_,λt ht=>?_,?_,λi hi=>?_,by simp;omega⟩;·rw[pJ,<-G.proj,tG (by rw[G.proj];exact hm),VU];rfl
   ·rw[Ve (by omega),VB (by simp;omega)]
   ·rcases Xr.mp ht with z|z;·obtain⟨b1,b2,b3⟩:=G.at_ t z;exact⟨b1,by simp;omega,by rw[Ve (by omega),Ve (by omega),Vf b2];exact b3⟩
    ·rw[Wc] at z;subst z;exact⟨hlen,by simp,by rw[VB (by simp)]⟩
   ·rw[VU,V5];refine⟨G.nd,by simp,λp hp q hq=>?_⟩;simp at hq;subst hq;obtain⟨t,ht,rfl⟩:=W8.mp hp;have:=(G.at_ t ht).2.1;omega
   ·rw[Ve (by omega),Ve (by omega),Vf (by omega)];exact G.pre i hi
structure Qm(α:Type)[DecidableEq α] where
 enc:α->D
 t9:List α->O
 Rt:∀ps,gq (t9 ps)=true
 lit:∀a,Lk (.d (enc a)) (.d (.int 0))=some (t9 [a])
 get:∀ps a,ps.Nodup->nB (t9 ps) (.d (enc a))=some (if a∈ps then some (.d (nD (ps.idxOf a))) else none)
 put:∀ps a,a∉ps->ps.length < av->Bn (t9 ps) (.d (enc a)) (.d (nD ps.length))=some (t9 (ps++[a]))
theorem zk{α κ:Type}[DecidableEq α][DecidableEq κ]{f:α->κ}(hf:∀a b,f a=f b->a=b):∀(ps:List α) (k) (a),ff (ps.zipIdx k |>.map λq=>(f q.1,P.d (nD q.2))) (f a)=if a∈ps then some (.d (nD (k+ps.idxOf a))) else none
 |[],k,a=>by simp[ff]|x::ps,k,a=>by
  have ih:=zk hf ps (k+1) a;unfold ff at ih ⊢;rw[ZV,Vo,Wy];by_cases e:x=a;·subst e;simp
  ·have h1:decide (f x=f a)=false:=decide_eq_false λz=>e (hf _ _ z);simp only[h1];rw[ih];have h2:(x==a)=false:=by simpa using e
   have h3:a≠x:=λz=>e z.symm;by_cases tH:a∈ps;·rw[if_pos tH,if_pos (Vb _ tH),aai,h2];simp only[cond_false];congr 3;omega
   ·rw[if_neg tH,if_neg (λz=>(W4.mp z).elim h3 tH)]
theorem IV{α κ:Type}[DecidableEq α][DecidableEq κ]{f:α->κ}(hf:∀a b,f a=f b->a=b){ps:List α}{a:α}(h:a∉ps):lL (ps.zipIdx.map λq=>(f q.1,P.d (nD q.2))) (f a) (.d (nD ps.length))=(ps++[a]).zipIdx.map λq=>(f q.1,P.d (nD q.2)):=by
 rw[rD];·rw[List.zipIdx_append,VU];simp
 ·intro kv pU;obtain⟨q,hq,rfl⟩:=W8.mp pU;intro z;have:=hf _ _ z;have vU:q.1∈ps:=by obtain⟨x,i⟩:=q;have:=List.mem_zipIdx' hq;rw[this.2];exact Wa _
  exact h (this▸vU)
def AV(n:Nat):Sum Int Str:=.inl (n:Int)
theorem zl a b(h:AV a=AV b):a=b:=by unfold AV at h;injection h with h;omega
def UH:Qm Nat where
 enc:=nD
 t9:=λps=>.dK (ps.zipIdx.map λq=>(AV q.1,P.d (nD q.2)))
 Rt:=λ_=>rfl
 lit:=λa=>rfl
 get:=λps a _=>by show(keyOf (.d (nD a))).map _=_;have:keyOf (.d (nD a))=some (AV a):=rfl;rw[this,VE];congr 1;have:=zk zl ps 0 a;simpa using this
 put:=λps a h hl=>by show(if(ps.zipIdx.map λq=>(AV q.1,P.d (nD q.2))).length < av then(keyOf (.d (nD a))).map _ else none)=_;have:keyOf (.d (nD a))=some (AV a):=rfl;rw[if_pos (by simpa using hl),this,VE,IV zl h]
theorem tI:∀(xs:List D) (a b),bb (((xs.map P.d).drop a).take b)=some ((xs.drop a).take b):=λxs a b=>by rw[<-aay,<-aax,fZ]
theorem Qn{a:Nat}{st:aI}(h:a<=xs.length):oM (.d (.pl xs)) none (some (.d (.int (a:Int)))) st=some (.d (.pl (xs.take a))):=by show((aR st (.d (.pl xs))).bind λys=>(bb (se ys none (some (a:Int)))).map λzs=>P.d (.pl zs))=_;simp only[aR,VS,se,cI,Vg];rw[if_neg (by omega),tI];simp only[VE,X5,YU,Nat.sub_zero];congr 3;rw[Nat.min_eq_left h]
theorem IW{a:Nat}{st:aI}(h:a<=xs.length):oM (.d (.pl xs)) (some (.d (.int (a:Int)))) none st=some (.d (.pl (xs.drop a))):=by show((aR st (.d (.pl xs))).bind λys=>(bb (se ys (some (a:Int)) none)).map λzs=>P.d (.pl zs))=_;simp only[aR,VS,se,cI,Vg];rw[if_neg (by omega),tI];simp only[VE,YU];congr 3;rw[Nat.min_eq_left h,V9 (by simp)]
theorem B0:∀ns:List Nat,intsOf ((ns.map nD).map P.d)=some (ns.map λ(n:Nat)=>(n:Int))
 |[]=>rfl|n::ns=>by rw[Vo,Vo];show(intsOf ((ns.map nD).map P.d)).map _=_;rw[B0 ns];rfl
theorem idx_int:∀(ns:List Nat) (q:Nat),(ns.map λ(n:Nat)=>(n:Int)).idxOf (q:Int)=ns.idxOf q
 |[],q=>rfl|n::ns,q=>by
  rw[Vo,aai,aai,idx_int ns q];by_cases e:n=q;·subst e;simp
  ·have h1:(n==q)=false:=by simpa using e
   have h2:((n:Int)==(q:Int))=false:=by rw[beq_eq_false_iff_ne];omega
   rw[h1,h2]
theorem FR{ns:List Nat}(h:q∈ns):si (.d (.pl (ns.map nD))) (.d (.int (q:Int))) st=some (.d (nD (ns.idxOf q))):=by unfold si;simp only[aR,VS,B0];rw[if_pos (W8.mpr ⟨q,h,rfl⟩),idx_int];rfl
theorem zo{i j:Nat}(h:aa C e r st=.ok (.d (.int (i:Int))) st)(h':aa C e' r st=.ok (.d (.int (j:Int))) st)(hi:i < 1000000)(hj:j < 1000000):cq C (.gG [e,e']) r st=.ok ((U8 (j - i)).map λk:Nat=>.d (.int ((i+k:Nat):Int))) st:=by
 have c1: -jn<=(i:Int)/\(i:Int) < jn/\ -jn<=(j:Int)/\(j:Int) < jn:=by unfold jn;omega
 have:qp [.d (.int (i:Int)),.d (.int (j:Int))]=some ((U8 (j - i)).map λk:Nat=>P.d (.int ((i+k:Nat):Int))):=by unfold qp;simp only[if_pos c1,CN];congr 1;rw[show((j:Int) - (i:Int)).toNat=j - i by omega];apply Zn;intro k _;simp
 rw[BN,aD,h,ae,aD,h',ae,aW,ae,ae,ae,this,aq]
end Y
namespace Y
section
variable{α:Type}[DecidableEq α]{step:α->List α}{good:α->Nat}
theorem zp(tY:∀p∈F,∀q∈step p,q∈F)(hl:∀p∈F,(step p).length=w):∀{u} {i} {p},F[i]?=some p->Wd w u->gd (fj step good F) (walk (fj step good F) i u)=good (uA step p u)
 |[],i,p,hp,_=>by show(row _ i).1=good p;rw[rB hp];rfl|a::u,i,p,hp,hu=>by
  have ha:=hu.head;have Qg:=VC hp;have hlp:=hl p Qg;have hq:(step p)[a]?=some ((step p)[a]'(by omega)):=Vc (by omega);have Qh:=tY p Qg _ (Wa (by omega:a < (step p).length));have es:aZ (fj step good F) i a=F.idxOf ((step p)[a]'(by omega)):=by unfold aZ;rw[rB hp];show((step p).map _).getD a 0=_;rw[Vd,Vi,hq];rfl
  show gd _ (walk _ (aZ _ i a) u)=good (uA step (((step p)[a]?).getD p) u);rw[es,hq];exact zp tY hl (by rw[Vc (Wm Qh),YC];rfl) hu.tail
end
theorem w8{f:Nat->Nat}(ok:dv w m)(hf:∀i,i < m.length->f i < m'.length)(hg:∀i,i < m.length->gd m i=gd m' (f i))(hs:∀i a,i < m.length->a < w->f (aZ m i a)=aZ m' (f i) a):∀{u} {i},i < m.length->Wd w u->gd m (walk m i u)=gd m' (walk m' (f i) u)
 |[],i,hi,_=>hg i hi|a::u,i,hi,hu=>by show gd m (walk m (aZ m i a) u)=gd m' (walk m' (aZ m' (f i) a) u);rw[w8 ok hf hg hs (ok.aZ hi hu.head) hu.tail,hs i a hi hu.head]
theorem FT(ok:dv w m):∀{u} {p},p < m.length->Wd w u->uA (λo=>(row m o).2) p u=walk m p u
 |[],p,_,_=>rfl|a::u,p,hp,hu=>by
  have hl:=ok.len _ (aS hp);have ha:=hu.head;have e:(((row m p).2)[a]?).getD p=aZ m p a:=by unfold aZ;rw[Vd,Vc (by omega)];rfl
  show uA _ ((((row m p).2)[a]?).getD p) u=walk m (aZ m p a) u;rw[e];exact FT ok (ok.aZ hp ha) hu.tail
def qa(l:List Nat)(a x:Nat):List Nat:=l.take a++[x]++l.drop a
def qw(x:Int):Nat->List Nat
 |0=>[0]|k+1=>qa (qw x k) (1+(drawn x (k+1) % ((k+1:Nat):Int)).toNat) (k+1)
theorem C5 l a x:(qa l a x).length=l.length+1:=by unfold qa;simp;omega
theorem lE x:∀k,(qw x k).length=k+1
 |0=>rfl|k+1=>by rw[qw,C5,lE x k]
theorem C6:y∈qa l a x↔y∈l\/y=x:=by
 unfold qa;have h:=Yg a l;rw[Xr,Xr,Wc];constructor
 ·rintro((z|z)|z);·exact .inl (List.mem_of_mem_take z)
  ·exact .inr z
  ·exact .inl (List.mem_of_mem_drop z)
 ·rintro(z|z)
  ·rw[<-h,Xr] at z;rcases z with z|z;·exact .inl (.inl z)
   ·exact .inr z
  ·exact .inl (.inr z)
theorem nW x:∀{k y},y∈qw x k↔y<=k
 |0,y=>by simp[qw]|k+1,y=>by rw[qw,C6,nW x];omega
theorem zq x:∀k,(qw x k)[0]?=some 0
 |0=>rfl|k+1=>by rw[qw];unfold qa;have hl:=lE x k;rw[V1,Vf (by rw[Wp];omega),List.getElem?_take,if_pos (by omega)];exact zq x k
def Gv(x:Int)(m:cM):cM:=fj (λo=>(row m o).2) (gd m) (qw x (m.length - 1))
theorem FU(ok:dv w m)x:∀p∈qw x (m.length - 1),∀q∈(row m p).2,q∈qw x (m.length - 1):=λp hp q hq=>by
 have Cu:p < m.length:=by have:=(nW x).mp hp;have:=ok.ne;omega
 have:=ok.lt _ (aS Cu) q hq;exact(nW x).mpr (by omega)
theorem MJ(ok:dv w m)x:dv w (Gv x m)/\gI w (Gv x m) 0 m 0/\(Gv x m).length=m.length:=by
 have fM:∀p∈qw x (m.length - 1),p < m.length:=λp hp=>by have:=(nW x).mp hp;have:=ok.ne;omega
 have hlen:(Gv x m).length=m.length:=by show(Yx _ _).length=_;rw[Vg,lE];have:=ok.ne;omega
 refine⟨⟨by rw[hlen];exact ok.ne,λs hs=>?_,λs hs=>?_,λs hs t ht=>?_⟩,λu hu=>?_,hlen⟩;·obtain⟨p,hp,rfl⟩:=W8.mp hs;exact ok.good (row m p) (aS (fM p hp))
 ·obtain⟨p,hp,rfl⟩:=W8.mp hs;show(Yx _ _).length=w;rw[Vg];exact ok.len _ (aS (fM p hp))
 ·obtain⟨p,hp,rfl⟩:=W8.mp hs;obtain⟨q,hq,rfl⟩:=W8.mp (show t∈((row m p).2).map λq=>(qw x (m.length - 1)).idxOf q from ht);have:=Wm (FU ok x p hp q hq);rw[hlen,lE] at*;have:=ok.ne;omega
 ·rw[show gd (Gv x m) (walk (Gv x m) 0 u)=gd m (uA (λo=>(row m o).2) 0 u) from zp (FU ok x) (λp hp=>ok.len _ (aS (fM p hp))) (zq x _) hu,FT ok ok.ne hu]
def twin(x:Int)(m:cM):Nat:=(x % (m.length:Int)).toNat
def xq(x:Int)(m:cM)(k l s:Nat):Nat:=if s=twin x m/\drawn x (9*k+l) % 2=1 then m.length else s
def Dv(x:Int)(m:cM)(k:Nat):Nat×List Nat:=((row (m++[row m (twin x m)]) k).1,((row (m++[row m (twin x m)]) k).2.zipIdx).map λq=>xq x m k q.2 q.1)
def C7(x:Int)(m:cM):cM:=(U8 (m.length+1)).map (Dv x m)
def Dw(x:Int)(m:cM)(i:Nat):Nat:=if i < m.length then i else twin x m
theorem MK(ok:dv w m)x:dv w (C7 x m)/\gI w (C7 x m) 0 m 0/\(C7 x m).length=m.length+1:=by
 have ne:=ok.ne;have tl:twin x m < m.length:=by have:=bE x (show(0:Int) < (m.length:Int) by omega);unfold twin;omega
 have hlen:(C7 x m).length=m.length+1:=by simp[C7]
 have JU:∀k,k < m.length+1->row (m++[row m (twin x m)]) k=row m (Dw x m k):=λk hk=>by
  unfold Dw;by_cases h:k < m.length;·rw[if_pos h];unfold row;rw[Vd,Vf h,<-Vd]
  ·rw[if_neg h];have:k=m.length:=by omega
   subst this
   conv=>lhs;unfold row
   rw[Vd,Vz (Vj _)];simp[row]
 have fl:∀k,Dw x m k < m.length:=λk=>by unfold Dw;split<;>omega
 have Qo:∀k,k < m.length+1->row (C7 x m) k=Dv x m k:=λk hk=>by unfold row C7;rw[Vd,Vi,WA hk];rfl
 have dsl:∀k l s,s < m.length->xq x m k l s < m.length+1/\Dw x m (xq x m k l s)=s:=λk l s hs=>by
  unfold xq;split;·rename_i h;refine⟨by omega,?_⟩;unfold Dw;rw[if_neg (by omega),h.1]
  ·refine⟨by omega,?_⟩;unfold Dw;rw[if_pos hs]
 have Rr:dv w (C7 x m):=by
  refine⟨by rw[hlen];omega,λs hs=>?_,λs hs=>?_,λs hs t ht=>?_⟩;·obtain⟨k,hk,rfl⟩:=W8.mp hs;show(row _ k).1<=1;rw[JU k (Wi.mp hk)];exact ok.good _ (aS (fl k))
  ·obtain⟨k,hk,rfl⟩:=W8.mp hs;show(Yx _ (aaS (row _ k).2)).length=w;rw[Vg,List.length_zipIdx,JU k (Wi.mp hk)];exact ok.len _ (aS (fl k))
  ·obtain⟨k,hk,rfl⟩:=W8.mp hs;obtain⟨q,hq,rfl⟩:=W8.mp (show t∈Yx _ (aaS (row _ k).2) from ht);rw[JU k (Wi.mp hk)] at hq;have h2:=List.mem_zipIdx' hq;have h3:q.1∈(row m (Dw x m k)).2:=by rw[h2.2];exact Wa _
   rw[hlen];exact(dsl k q.2 q.1 (ok.lt _ (aS (fl k)) _ h3)).1
 refine⟨Rr,λu hu=>?_,hlen⟩;have:=w8 (f:=Dw x m) Rr (λi hi=>fl i) (λi hi=>by
  rw[hlen] at hi;unfold gd;rw[Qo i hi];show(row _ i).1=_;rw[JU i hi]) (λi a hi ha=>by
  rw[hlen] at hi;have hl:=ok.len _ (aS (fl i));have e:aZ (C7 x m) i a=xq x m i a (aZ m (Dw x m i) a):=by unfold aZ;rw[Qo i hi];show(Yx _ (aaS (row _ i).2)).getD a 0=_;rw[JU i hi,Vd,Vi,List.getElem?_zipIdx,Vc (by omega)];simp only[VE,ZT,VO];rw[Vd,Vc (by omega)];rfl
  rw[e];exact(dsl i a _ (ok.aZ (fl i) ha)).2) (i:=0) (by rw[hlen];omega) hu
 rw[this];have:Dw x m 0=0:=by unfold Dw;rw[if_pos ne]
 rw[this]
def C8(w:Nat)(m:cM):cM:=m++(U8 (1+m.length % 3)).map λk=>(k % 2,V4 w k)
theorem ML(ok:dv w m):dv w (C8 w m)/\gI w (C8 w m) 0 m 0/\(C8 w m).length=m.length+(1+m.length % 3):=by
 have ne:=ok.ne;have hlen:(C8 w m).length=m.length+(1+m.length % 3):=by simp[C8]
 have JU:∀k,k < m.length->row (C8 w m) k=row m k:=λk hk=>by unfold row C8;rw[Vd,Vf hk,<-Vd]
 refine⟨⟨by rw[hlen];omega,λs hs=>?_,λs hs=>?_,λs hs t ht=>?_⟩,λu hu=>?_,hlen⟩
 ·rcases Xr.mp hs with z|z;·exact ok.good s z
  ·obtain⟨k,hk,rfl⟩:=W8.mp z;dsimp only;omega
 ·rcases Xr.mp hs with z|z;·exact ok.len s z
  ·obtain⟨k,hk,rfl⟩:=W8.mp z;simp
 ·rw[hlen];rcases Xr.mp hs with z|z;·have:=ok.lt s z t ht;omega
  ·obtain⟨k,hk,rfl⟩:=W8.mp z;rw[Wi] at hk;have:=(List.mem_replicate.mp ht).2;omega
 ·have:=w8 (w:=w) (m:=m) (m':=C8 w m) (f:=id) ok (λi hi=>by rw[hlen];simp;omega) (λi hi=>by unfold gd;rw[id,JU i hi]) (λi a hi ha=>by unfold aZ;rw[id,id,JU i hi]) ne hu;exact this.symm
def fk(w:Nat):Nat->List (List Nat)
 |0=>[[]]|k+1=>(fk w k).flatMap λu=>(U8 w).map λa=>u++[a]
def bN(w N:Nat):List (List Nat):=(U8 (N+1)).flatMap (fk w)
theorem lF:∀{k} {u},u∈fk w k↔Wd w u/\u.length=k
 |0,u=>by
  simp only[fk,Wc];constructor;·rintro rfl;exact⟨Wd.nil,rfl⟩
  ·rintro⟨_,h⟩;exact List.length_eq_zero_iff.mp h
 |k+1,u=>by
  simp only[fk,Y9,W8,Wi];constructor;·rintro⟨v,hv,a,ha,rfl⟩;obtain⟨h1,h2⟩:=lF.mp hv;exact⟨h1.app (Wd.nil.cons ha),by simp[h2]⟩
  ·rintro⟨h1,h2⟩;have fc:u≠[]:=λz=>by rw[z] at h2;simp at h2
   refine⟨u.dropLast,lF.mpr ⟨λb hb=>h1 b (List.dropLast_subset u hb),by simp[h2]⟩,u.getLast fc,h1 _ (List.getLast_mem fc),List.dropLast_concat_getLast fc⟩
theorem AW(h:u∈bN w N):Wd w u:=by obtain⟨k,_,hk⟩:=Y9.mp h;exact(lF.mp hk).1
theorem vM w:∀k,(fk w k).length=w ^ k
 |0=>rfl|k+1=>by
  rw[fk];have:∀l:List (List Nat),(l.flatMap λu=>(U8 w).map λa=>u++[a]).length=l.length*w:=λl=>by induction l with|nil=>simp|cons u l ih=>rw[Yk,Vy,ih];simp[YR,Nat.add_comm]
  rw[this,vM w k,Nat.pow_succ]
end Y
namespace Y
open PySem
mutual
theorem zr:∀x:D,lK x x=true
 |.bq=>by simp[lK]|.bl b=>by simp[lK]|.int i=>by simp[lK]|.str s=>by simp[lK]|.tup xs=>by rw[lK];exact o7 xs|.pl xs=>by rw[lK];exact o7 xs
theorem o7:∀xs:List D,fW xs xs=true
 |[]=>by simp[fW]|x::xs=>by rw[fW,zr x,o7 xs];rfl
end
theorem MM u:g9 (wD u)<=1:=by
 have:∀u:List Nat,gp (u.map nD)=0:=λu=>by induction u with|nil=>rfl|cons x u ih=>rw[Vo,gp,ih];rfl
 unfold wD;rw[g9,this];exact Vj _
theorem MN m:g9 (mD m)<=3:=by
 have:∀m:cM,gp (m.map bY)<=2:=λm=>by
  induction m with
  |nil=>simp[gp]|cons s m ih=>
   rw[Vo,gp];have h:=MM s.2;have h2:g9 (bY s)<=2:=by unfold bY;rw[g9,gp,gp,gp];have:g9 (nD s.1)=0:=rfl;omega
   omega
 unfold mD;rw[g9];have:=this m;omega
theorem MO m:qW (mD m) (mD m)=some true:=by unfold qW;rw[if_pos (by have:=MN m;omega),zr]
theorem zu:∀(k) {l} {r r1} {st st1} {res},ah C (l.take k) r st=.ok (.nx r1) st1->ah C (l.drop k) r1 st1=res->ah C l r st=res
 |0,l,r,r1,st,st1,res,h1,h2=>by rw[List.take_zero,ah] at h1;cases h1;exact h2|k+1,[],r,r1,st,st1,res,h1,h2=>by rw[List.take_nil,ah] at h1;cases h1;exact h2|k+1,s::l,r,r1,st,st1,res,h1,h2=>by rw[List.take_succ_cons,ah] at h1;rw[ah];cases hs:aE C s r st with|ex x s=>rw[hs] at h1;cases h1|no=>rw[hs] at h1;cases h1|ok f st2=>rw[hs,ae] at h1;rw[ae];cases f with|nx r2=>exact zu k h1 h2|bk r2=>cases h1|ct r2=>cases h1|rt v=>cases h1
end Y
namespace Qp
open PySem Y
def kQ:List S:=[.app (.ix (.var 2) (.ix (.ix (.var 4) (.cst (.int 1))) (.var 1))) (.var 3)]
def hZ:Fn:={np:=2,nn:=5,sh:=true,body:=[.set 2 (.lst true (.comp (.ex (.var 0)) 1 [] none (.lst true (.eY [])))),
  .fe (.two 3 4) (.enum (.var 0)) kQ,
  .ret (.var 2)]}
def jy:List S:=[.expr (.r9 (.var 2) (.var 4) (.var 3))]
def fm:Fn:={np:=1,nn:=5,body:=[.set 1 (.make 17 "Groups" [.var 0]),
  .expr (.qm 21 "Groups" "settle" 1 []),
  .set 2 (.oK false),
  .jM 3 4 (.attr "Groups" "group_of" 1) jy,
  .ret (.lst false (.cn (.attr "Groups" "group_of" 1) [2] none (.ix (.var 1) (.var 0))))]}
def dP:List S:=[.ifs (.cmp .nA (.var 8) (.var 3)) [.put (.var 3) (.var 8) (.bf .len [.var 4]),
  .app (.var 4) (.var 8)] []]
def jz:List S:=[.set 6 (.ix (.var 4) (.bf .len [.var 5])),
  .set 7 (.pV 1 [.var 6]),
  .fe (.nm 8) (.ex (.var 7)) dP,
  .app (.var 5) (.tup [.pV 2 [.var 6],.bf .tuple [.lst false (.comp (.ex (.var 7)) 1 [3] none (.ix (.var 1) (.var 0)))]])]
def cz:Fn:={np:=3,nn:=9,body:=[.set 3 (.CL (.var 0) (.int 0)),
  .set 4 (.lst true (.eY [.var 0])),
  .set 5 (.lst true (.eY [])),
  .mq (.cmp .lt (.bf .len [.var 5]) (.bf .len [.var 4])) jz,
  .ret (.bf .tuple [.var 5])]}
def nX:Fn:={np:=1,nn:=3,body:=[.set 1 (.iT 1 [.var 0] [(22,[1,0]),(23,[0])]),
  .oJ 2 22,
  .ret (.iT 2 [.ix (.var 1) (.cst (.int 0)),.var 2,.lam 23] [(22,[1,0]),(23,[0])])]}
def cA:Fn:={np:=2,nn:=2,body:=[.ifs (.cmp .lt (.var 1) (.bf .len [.var 0])) [.ret (.ix (.var 0) (.var 1))] [],
  .ret (.cst (.int 0))]}
def ft:Fn:={np:=2,nn:=3,body:=[.set 2 (.op .mod (.op .mul (.op .add (.op .add (.call 4 [.var 0,.var 1]) (.op .mul (.cst (.int 7919)) (.var 1))) (.cst (.int 1))) (.cst (.int 48271))) (.cst (.int 2147483647))),
  .ret (.op .mod (.op .add (.op .add (.op .mul (.var 2) (.var 2)) (.op .mul (.cst (.int 7)) (.var 2))) (.var 1)) (.cst (.int 2147483629)))]}
def fu:Fn:={np:=2,nn:=3,body:=[.set 2 (.op .mod (.op .mul (.op .add (.op .add (.var 0) (.op .mul (.cst (.int 104729)) (.var 1))) (.cst (.int 17))) (.cst (.int 69621))) (.cst (.int 2147483647))),
  .ret (.op .mod (.op .add (.op .add (.op .mul (.var 2) (.var 2)) (.op .mul (.cst (.int 3)) (.var 2))) (.var 1)) (.cst (.int 2147483629)))]}
def iC:List S:=[.set 4 (.op .add (.var 4) (.lst false (.comp (.gG [.var 0]) 1 [5] none (.op .add (.var 1) (.tup [.var 0])))))]
def kR:List S:=[.set 4 (.lst false (.eY [])),
  .fe (.nm 5) (.ex (.var 2)) iC,
  .set 2 (.var 4),
  .set 1 (.op .add (.var 1) (.var 2))]
def dQ:Fn:={np:=1,nn:=6,body:=[.set 1 (.lst false (.eY [.tup []])),
  .set 2 (.lst false (.eY [.tup []])),
  .fe (.nm 3) (.gG [.ix (.lst false (.eY [.cst (.int 0),.cst (.int 8),.cst (.int 5),.cst (.int 4)])) (.var 0)]) kR,
  .ret (.var 1)]}
def gf:List S:=[.set 6 (.bf .tuple [.lst false (.comp (.gG [.var 1]) 1 [3,0,5] none (.op .mod (.call 6 [.var 2,.op .add (.op .mul (.cst (.int 7)) (.var 3)) (.var 0)]) (.var 1)))]),
  .app (.var 4) (.tup [.op .mod (.op .mod (.call 6 [.var 0,.op .add (.op .mul (.cst (.int 7)) (.var 5)) (.cst (.int 5))]) (.cst (.int 3))) (.cst (.int 2)),.var 6])]
def cB:Fn:={np:=3,nn:=7,body:=[.set 3 (.op .add (.cst (.int 1)) (.op .mod (.var 0) (.var 2))),
  .set 4 (.lst true (.eY [])),
  .fe (.nm 5) (.gG [.var 3]) gf,
  .ret (.bf .tuple [.var 4])]}
def w9:List S:=[.set 2 (.ix (.ix (.ix (.var 0) (.var 2)) (.cst (.int 1))) (.var 3))]
def jS:Fn:={np:=2,nn:=4,body:=[.set 2 (.cst (.int 0)),
  .fe (.nm 3) (.ex (.var 1)) w9,
  .ret (.cmp .eq (.ix (.ix (.var 0) (.var 2)) (.cst (.int 0))) (.cst (.int 1)))]}
def eB:Fn:={np:=2,nn:=2,body:=[.ret (.and [.Gn (.var 0) "int",.not (.Gn (.var 0) "bool"),.chain .le .le (.cst (.int 0)) (.var 0) (.var 1)])]}
def cx:List S:=[.ifs (.or [.not (.Gn (.var 2) "tuple"),.cmp .ne (.bf .len [.var 2]) (.cst (.int 2)),.not (.call 10 [.ix (.var 2) (.cst (.int 0)),.cst (.int 1)])]) [.ret (.cst (.bl false))] [],
  .ifs (.or [.not (.Gn (.ix (.var 2) (.cst (.int 1))) "tuple"),.cmp .ne (.bf .len [.ix (.var 2) (.cst (.int 1))]) (.var 1)]) [.ret (.cst (.bl false))] [],
  .ifs (.cmp .ne (.lst false (.comp (.ex (.ix (.var 2) (.cst (.int 1)))) 1 [0] (some (.not (.call 10 [.var 0,.op .sub (.bf .len [.var 1]) (.cst (.int 1))]))) (.var 0))) (.lst false (.eY []))) [.ret (.cst (.bl false))] []]
def bg:Fn:={np:=2,nn:=3,body:=[.ifs (.or [.not (.Gn (.var 0) "tuple"),.cmp .eq (.var 0) (.tup [])]) [.ret (.cst (.bl false))] [],
  .fe (.nm 2) (.ex (.var 0)) cx,
  .ret (.cst (.bl true))]}
def gM:List S:=[.ifs (.cmp .ne (.ix (.ix (.var 0) (.var 3)) (.cst (.int 0))) (.ix (.ix (.var 0) (.var 4)) (.cst (.int 0)))) [.put (.var 2) (.tup [.var 3,.var 4]) (.cst (.bl true))] []]
def gN:List S:=[.fe (.nm 4) (.gG [.var 1]) gM]
def gO:List S:=[.set 6 (.lst false (.zip (.ix (.ix (.var 0) (.var 3)) (.cst (.int 1))) (.ix (.ix (.var 0) (.var 4)) (.cst (.int 1))))),
  .ifs (.bf .any [.lst false (.comp (.ex (.var 6)) 1 [2] none (.cmp .isin (.var 0) (.var 1)))]) [.put (.var 2) (.tup [.var 3,.var 4]) (.cst (.bl true))] []]
def gP:List S:=[.fe (.nm 4) (.gG [.var 1]) gO]
def gQ:List S:=[.fe (.nm 3) (.gG [.var 1]) gP]
def eD:Fn:={np:=1,nn:=7,sh:=true,body:=[.set 1 (.bf .len [.var 0]),
  .set 2 (.oK true),
  .fe (.nm 3) (.gG [.var 1]) gN,
  .fe (.nm 5) (.gG [.var 1]) gQ,
  .ret (.var 2)]}
def dq:List S:=[.ifs (.cmp .nA (.var 4) (.var 2)) [.app (.var 2) (.var 4)] []]
def bx:List S:=[.ifs (.cmp .ge (.var 3) (.bf .len [.var 2])) [.ret (.cst (.bl false))] [],
  .fe (.nm 4) (.ex (.ix (.ix (.var 0) (.ix (.var 2) (.var 3))) (.cst (.int 1)))) dq]
def eV:Fn:={np:=2,nn:=6,body:=[.ifs (.not (.call 11 [.var 0,.var 1])) [.ret (.cst (.bl false))] [],
  .set 2 (.lst true (.eY [.cst (.int 0)])),
  .fe (.nm 3) (.gG [.bf .len [.var 0]]) bx,
  .ifs (.cmp .ne (.var 2) (.lst false (.gG [.bf .len [.var 0]]))) [.ret (.cst (.bl false))] [],
  .set 5 (.call 12 [.var 0]),
  .ret (.cmp .eq (.bf .len [.var 5]) (.op .sub (.op .mul (.bf .len [.var 0]) (.bf .len [.var 0])) (.bf .len [.var 0])))]}
def kT:List S:=[.set 5 (.op .add (.cst (.int 1)) (.op .mod (.call 6 [.var 1,.var 4]) (.bf .len [.var 3]))),
  .set 3 (.op .add (.op .add (.slice (.var 3) none (some (.var 5))) (.lst false (.eY [.var 4]))) (.slice (.var 3) (some (.var 5)) none))]
def kU:List S:=[.app (.var 6) (.tup [.ix (.ix (.var 0) (.var 7)) (.cst (.int 0)),.bf .tuple [.lst false (.comp (.ex (.ix (.ix (.var 0) (.var 7)) (.cst (.int 1)))) 1 [3] none (.index (.var 1) (.var 0)))]])]
def fw:Fn:={np:=2,nn:=8,body:=[.set 2 (.bf .len [.var 0]),
  .set 3 (.lst false (.eY [.cst (.int 0)])),
  .fe (.nm 4) (.gG [.cst (.int 1),.var 2]) kT,
  .set 6 (.lst true (.eY [])),
  .fe (.nm 7) (.ex (.var 3)) kU,
  .ret (.bf .tuple [.var 6])]}
def jA:List S:=[.ifs (.and [.cmp .eq (.var 9) (.var 3),.cmp .eq (.op .mod (.call 6 [.var 1,.op .add (.op .mul (.cst (.int 9)) (.var 5)) (.var 8)]) (.cst (.int 2))) (.cst (.int 1))]) [.set 9 (.var 2)] [],
  .app (.var 7) (.var 9)]
def jB:List S:=[.set 7 (.lst true (.eY [])),
  .fe (.two 8 9) (.enum (.ix (.var 6) (.cst (.int 1)))) jA,
  .app (.var 4) (.tup [.ix (.var 6) (.cst (.int 0)),.bf .tuple [.var 7]])]
def cC:Fn:={np:=2,nn:=10,body:=[.set 2 (.bf .len [.var 0]),
  .set 3 (.op .mod (.var 1) (.var 2)),
  .set 4 (.lst true (.eY [])),
  .fe (.two 5 6) (.enum (.op .add (.var 0) (.tup [.ix (.var 0) (.var 3)]))) jB,
  .ret (.bf .tuple [.var 4])]}
def B1:List S:=[.ifs (.cmp .ne (.call 9 [.var 5,.var 6]) (.call 9 [.var 2,.var 6])) [.ret (.cst (.bl false))] []]
def nY:Fn:={np:=1,nn:=7,body:=[.set 1 (.op .add (.cst (.int 1)) (.op .mod (.call 5 [.var 0,.cst (.int 0)]) (.cst (.int 3)))),
  .set 2 (.call 8 [.call 5 [.var 0,.cst (.int 1)],.var 1,.cst (.int 6)]),
  .set 3 (.op .mod (.call 5 [.var 0,.cst (.int 2)]) (.cst (.int 3))),
  .set 4 (.op .add (.var 2) (.bf .tuple [.lst false (.comp (.gG [.op .add (.cst (.int 1)) (.op .mod (.bf .len [.var 2]) (.cst (.int 3)))]) 1 [1] none (.tup [.op .mod (.var 0) (.cst (.int 2)),.op .mul (.tup [.var 0]) (.var 1)]))])),
  .ifs (.cmp .eq (.var 3) (.cst (.int 1))) [.set 4 (.call 14 [.var 2,.call 5 [.var 0,.cst (.int 3)]])] [],
  .ifs (.cmp .eq (.var 3) (.cst (.int 2))) [.set 4 (.call 15 [.var 2,.call 5 [.var 0,.cst (.int 3)]])] [],
  .set 5 (.call 3 [.var 2]),
  .ifs (.or [.not (.call 13 [.var 5,.var 1]),.cmp .ne (.call 3 [.var 4]) (.var 5),.cmp .ne (.call 3 [.var 5]) (.var 5)]) [.ret (.cst (.bl false))] [],
  .fe (.nm 6) (.ex (.call 7 [.var 1])) B1,
  .ret (.cst (.bl true))]}
def gZ:List S:=[.put (.ix (.attr "Groups" "members" 0) (.ix (.var 3) (.cst (.int 0)))) (.var 2) (.cst (.bl true))]
def fz:Fn:={np:=2,nn:=4,sh:=true,body:=[.mr "Groups" "sources" 0 (.lst true (.comp (.gG [.bf .len [.ix (.ix (.var 1) (.cst (.int 0))) (.cst (.int 1))]]) 1 [1] none (.call 0 [.var 1,.var 0]))),
  .mr "Groups" "group_of" 0 (.lst true (.comp (.ex (.var 1)) 1 [] none (.ix (.var 0) (.cst (.int 0))))),
  .mr "Groups" "members" 0 (.lst true (.eY [.oK false,.oK false])),
  .fe (.two 2 3) (.enum (.var 1)) gZ,
  .mr "Groups" "waiting" 0 (.lst true (.eY [.cst (.int 0),.cst (.int 1)])),
  .mr "Groups" "waits" 0 (.lst true (.eY [.cst (.bl true),.cst (.bl true)]))]}
def b8:Fn:={np:=2,nn:=2,sh:=true,body:=[.app (.attr "Groups" "waiting" 0) (.var 1),
  .put (.attr "Groups" "waits" 0) (.var 1) (.cst (.bl true))]}
def gF:List S:=[.expr (.CH (.var 3) (.var 5)),
  .put (.ix (.attr "Groups" "members" 0) (.var 4)) (.var 5) (.cst (.bl true)),
  .put (.attr "Groups" "group_of" 0) (.var 5) (.var 4)]
def bp:Fn:={np:=3,nn:=6,sh:=true,body:=[.set 3 (.ix (.attr "Groups" "members" 0) (.var 1)),
  .ifs (.cmp .eq (.bf .len [.var 2]) (.bf .len [.var 3])) [.EG] [],
  .set 4 (.bf .len [.attr "Groups" "members" 0]),
  .app (.attr "Groups" "members" 0) (.oK false),
  .app (.attr "Groups" "waits" 0) (.cst (.bl false)),
  .jm (.nm 5) (.var 2) gF,
  .ifs (.or [.ix (.attr "Groups" "waits" 0) (.var 1),.cmp .le (.bf .len [.var 2]) (.bf .len [.var 3])]) [.expr (.qm 18 "Groups" "let_wait" 0 [.var 4])] [.expr (.qm 18 "Groups" "let_wait" 0 [.var 1])]]}
def cD:List S:=[.app (.r9 (.var 3) (.ix (.attr "Groups" "group_of" 0) (.var 5)) (.lst true (.eY []))) (.var 5)]
def cE:List S:=[.jm (.nm 5) (.ix (.ix (.attr "Groups" "sources" 0) (.var 2)) (.var 4)) cD]
def e8:List S:=[.expr (.qm 19 "Groups" "set_apart" 0 [.var 6,.var 7])]
def bT:Fn:={np:=3,nn:=8,sh:=true,body:=[.set 3 (.oK false),
  .fe (.nm 4) (.ex (.var 1)) cE,
  .CM 6 7 (.var 3) e8]}
def iX:List S:=[.expr (.qm 20 "Groups" "set_apart_by" 0 [.var 2,.var 3])]
def fA:List S:=[.set 1 (.CJ (.attr "Groups" "waiting" 0)),
  .put (.attr "Groups" "waits" 0) (.var 1) (.cst (.bl false)),
  .set 2 (.lst false (.keys (.ix (.attr "Groups" "members" 0) (.var 1)))),
  .fe (.nm 3) (.gG [.bf .len [.attr "Groups" "sources" 0]]) iX]
def gR:Fn:={np:=1,nn:=4,sh:=true,body:=[.mq (.cmp .gt (.bf .len [.attr "Groups" "waiting" 0]) (.cst (.int 0))) fA]}
def gg:Fn:={np:=3,nn:=3,body:=[.ret (.lst false (.comp (.ex (.ix (.ix (.var 2) (.var 0)) (.cst (.int 1)))) 1 [1] none (.ix (.var 1) (.var 0))))]}
def cW:Fn:={np:=2,nn:=2,body:=[.ret (.ix (.ix (.var 1) (.var 0)) (.cst (.int 0)))]}
def Fs:List Fn:=[hZ,fm,cz,nX,cA,ft,fu,dQ,cB,jS,eB,bg,eD,eV,fw,cC,nY,fz,b8,bp,bT,gR,gg,cW]
theorem uB:Fs[0]?=some hZ:=rfl
theorem qx:Fs[1]?=some fm:=rfl
theorem qy:Fs[2]?=some cz:=rfl
theorem FV:Fs[3]?=some nX:=rfl
theorem qz:Fs[4]?=some cA:=rfl
theorem uC:Fs[5]?=some ft:=rfl
theorem uD:Fs[6]?=some fu:=rfl
theorem uE:Fs[7]?=some dQ:=rfl
theorem qA:Fs[8]?=some cB:=rfl
theorem zv:Fs[9]?=some jS:=rfl
theorem tJ:Fs[10]?=some eB:=rfl
theorem mL:Fs[11]?=some bg:=rfl
theorem tK:Fs[12]?=some eD:=rfl
theorem o8:Fs[13]?=some eV:=rfl
theorem uF:Fs[14]?=some fw:=rfl
theorem qB:Fs[15]?=some cC:=rfl
theorem MP:Fs[16]?=some nY:=rfl
theorem mM:Fs[17]?=some fz:=rfl
theorem mN:Fs[18]?=some b8:=rfl
theorem g6:Fs[19]?=some bp:=rfl
theorem jT:Fs[20]?=some bT:=rfl
theorem o9:Fs[21]?=some gR:=rfl
theorem nZ:Fs[22]?=some gg:=rfl
theorem pd:Fs[23]?=some cW:=rfl
section
variable{w:Nat}{m:cM}(ok:dv w m)(hm:m.length<=100000)
def je(m:cM)(a k:Nat):aI:=(U8 m.length).map λt=>O.lst (((U8 k).filter λs=>decide (aZ m s a=t)).map λx=>P.d (nD x))
def lN(b n:Nat):O:=.lst ((U8 n).map λt=>P.obj (b+t))
theorem cX a k:(je m a k).length=m.length:=by simp[je]
theorem kW(ht:t < m.length):(je m a k)[t]?=some (O.lst (((U8 k).filter λs=>decide (aZ m s a=t)).map λx=>P.d (nD x))):=by simp[je,ht]
theorem C9:(je m a k).set (aZ m k a) (O.lst ((((U8 k).filter λs=>decide (aZ m s a=aZ m k a)).map λx=>P.d (nD x))++[P.d (nD k)]))=je m a (k+1):=by
 apply ZD;intro t;by_cases ht:t < m.length
 ·rw[kW ht,Wn,Ya,VU];by_cases e:aZ m k a=t;·subst e;rw[VB (by rw[cX];exact ht)];simp
  ·rw[Ve e,kW ht];simp[e]
 ·rw[VH (by rw[WJ,cX];omega),VH (by rw[cX];omega)]
include ok hm
theorem xa(n:Nat)(a:Nat)(ha:a < w)(st:aI):callC Fs (n+1) 0 [.d (mD m),.d (nD a)] st=.ok (.obj (st.length+m.length)) (st++je m a m.length++[lN st.length m.length]):=by
 refine wN uB rfl rfl ?_;have e1:aU (callC Fs n) (.comp (.ex (.var 0)) 1 [] none (.lst true (.eY []))) (ay 5 [.d (mD m),.d (nD a)]) st=.ok ((U8 m.length).map λt=>P.obj (st.length+t)) (st++je m a 0):=by
  rw[yI];have ew:cq (callC Fs n) (.ex (.var 0)) (ay 5 [.d (mD m),.d (nD a)]) st=.ok ((m.map bY).map .d) st:=by simp[ay,mD]
  rw[ew,ae,if_pos (by simp[av];omega)];obtain⟨zs,aJ,e,q⟩:=o4 (g:=λp=>some p::cK [] (ay 5 [.d (mD m),.d (nD a)])) (c:=bu (callC Fs n) none) (e:=λr' aJ=>aa (callC Fs n) (.lst true (.eY [])) r' aJ) (I:=λk ys s=>ys=(U8 k).map (λt=>P.obj (st.length+t))/\s=st++V4 k (O.lst [])) (ps:=(m.map bY).map .d) (k:=0) (ys:=[]) (st:=st)
   (λi p ys s ⟨h1,h2⟩ hp=>⟨.obj s.length,s++[.lst []],by simp,by simp[av],by
    rw[VO] at h1 h2 ⊢;subst h1 h2;refine⟨?_,?_⟩;·rw[Wn,VU];simp
    ·rw[V1,List.replicate_succ']⟩) ⟨by simp,by simp⟩
  obtain⟨q1,q2⟩:=q;rw[e];simp only[Xq,VO,Vg] at q1 q2;rw[q1,q2];congr 2;apply ZD;intro t;by_cases ht:t < m.length;·rw[kW ht];simp[ht]
  ·rw[VH (by simp;omega),VH (by rw[cX];omega)]
 refine ag (aV (v:=.obj (st.length+m.length)) (st1:=st++je m a 0++[lN st.length m.length]) ?_) ?_;·show aa (callC Fs n) (.lst true (.comp (.ex (.var 0)) 1 [] none (.lst true (.eY [])))) (ay 5 [.d (mD m),.d (nD a)]) st=_;rw[jP,e1,ae];simp[cX,lN]
 obtain⟨r',s',e,⟨y3,y4,q1⟩,q2⟩:=cV (g:=gU (.two 3 4)) (b:=ah (callC Fs n) kQ) (ps:=dg 0 (m.map bY)) (k:=0) (r:=[some (.d (mD m)),some (.d (nD a)),some (.obj (st.length+m.length)),none,none]) (st:=st++je m a 0++[lN st.length m.length])
  (I:=λk r s=>(∃y3 y4,r=[some (.d (mD m)),some (.d (nD a)),some (.obj (st.length+m.length)),y3,y4])/\s=st++je m a k++[lN st.length m.length])
  (λi p r s ⟨⟨y3,y4,h1⟩,h2⟩ hp=>by
   rw[VO] at h2 ⊢;subst h1 h2;rw[jr,Vi] at hp;have hi:i < m.length:=by
    by_cases z:i < m.length;·exact z
    ·rw[VH (by omega)] at hp;simp at hp
   rw[wR hi] at hp;simp only[VE,Yi,VO] at hp;subst hp;have ht:=ok.aZ hi ha;have hl:=ok.len _ (aS hi);have g1:(st++je m a i++[lN st.length m.length])[st.length+m.length]?=some (lN st.length m.length):=by rw[show st.length+m.length=(st++je m a i).length by simp[cX]];simp
   have g2:(st++je m a i++[lN st.length m.length])[st.length+aZ m i a]?=some (O.lst (((U8 i).filter λs=>decide (aZ m s a=aZ m i a)).map λx=>P.d (nD x))):=by rw[Iz (by rw[cX];exact ht),kW ht]
   refine⟨_,[some (.d (mD m)),some (.d (nD a)),some (.obj (st.length+m.length)),some (.d (nD i)),some (.d (bY (row m i)))],st++je m a (i+1)++[lN st.length m.length],rfl,?_,⟨⟨_,_,rfl⟩,rfl⟩⟩;refine ag (j0 (x:=.obj (st.length+aZ m i a)) (v:=.d (nD i)) (its:=((U8 i).filter λs=>decide (aZ m s a=aZ m i a)).map λx=>P.d (nD x)) (st1:=st++je m a i++[lN st.length m.length]) (st2:=st++je m a i++[lN st.length m.length]) ?_ (iU g2) (by simp[nD]) ?_) ak;·generalize st++je m a i++[lN st.length m.length]=S at g1 g2;have e1:om ((row m i).2.map nD) (a:Int)=some (nD (aZ m i a)):=Qc ok hi ha;simp[bY,wD,e1,nD,iy g1 (show((U8 m.length).map λt=>P.obj (st.length+t))[aZ m i a]?=some (.obj (st.length+aZ m i a)) by simp[ht])]
   ·rw[fi g2 (by
     have:((U8 i).filter λs=>decide (aZ m s a=aZ m i a)).length<=i:=by have:=XE (λs=>decide (aZ m s a=aZ m i a)) (U8 i);simpa using this
     unfold av;simp only[Vg];omega),Iy (by rw[cX];exact ht),C9]) ⟨⟨none,none,rfl⟩,rfl⟩
 rw[jt,Vg,VO] at q2;subst q1 q2;refine ag (cU (ps:=dg 0 (m.map bY)) (st1:=st++je m a 0++[lN st.length m.length]) (by simp[ay,hZ,mD]) e) ?_;exact aN (cT (by simp))
end
section
variable{m:cM}{w b:Nat}{mb:List Nat}{st aJ:aI}{h:mX}
theorem l6 n(hs:HS m w b mb st h)(hg:g < h.iH.length)(hw:h.wait.length < av):
  callC Fs (n+1) 18 [.obj 0,.d (nD g)] st=.ok (.d .bq) ((st.set (b+5) (encL (h.wait++[g]))).set (b+6) (jx (h.iH.set g true))):=by
 refine kL mN rfl rfl (r:=[some (.obj 0),some (.d (nD g))]) ?_;have hl:=hs.len;have e1:(st.set (b+5) (encL (h.wait++[g])))[b+6]?=some (jx h.iH):=by rw[Ve (by omega)];exact hs.iH
 have s1:(st.set (b+5) (encL (h.wait++[g])))[0]?=some (iB b):=by rw[Ve (by omega)];exact hs.self
 refine ag (j0 (x:=.obj (b+5)) (v:=.d (nD g)) (its:=h.wait.map λs=>P.d (nD s)) (st1:=st) (st2:=st) (cN rfl hs.self rfl) (iU hs.Nq) (by simp[ay,b8]) (st3:=st.set (b+5) (encL (h.wait++[g]))) ?_) ?_;·rw[fi hs.Nq (by simpa using hw)];simp[encL]
 ·refine ag (nL (x:=.obj (b+6)) (k:=.d (nD g)) (v:=.d (.bl true)) (st1:=st.set (b+5) (encL (h.wait++[g]))) (st2:=st.set (b+5) (encL (h.wait++[g]))) (st3:=st.set (b+5) (encL (h.wait++[g]))) (by simp) (cN rfl s1 rfl) (by simp[ay,b8]) ?_) (st1:=(st.set (b+5) (encL (h.wait++[g]))).set (b+6) (jx (h.iH.set g true))) ak;·rw[show nD g=.int (g:Int) from rfl,wQ e1 (by simpa using hg)];simp[jx,aaG]
end
section
variable{m:cM}{w b:Nat}{mb:List Nat}{st aJ:aI}{h:mX}
theorem tM n(hs:HS m w b mb st h)(hl:st[l]?=some (encL ss))(ho:Du b mb l)(hg:g < h.mem.length)(KW:∀s∈ss,s∈h.mem.getD g [])(C0:ss.Nodup)(Uo:∀s∈ss,s < h.grp.length)(Q1:h.iH.length=h.mem.length)(hw:h.wait.length < av)(hml:h.mem.length < 1000000)(hsl:ss.length < 1000000):
  ∃uc aJ,callC Fs (n+2) 19 [.obj 0,.d (nD g),.obj l] st=.ok (.d .bq) aJ/\HS m w b uc aJ (aB h g ss)/\st.length<=aJ.length/\∀i,i < st.length->Du b mb i->aJ[i]?=st[i]?/\Du b uc i:=by
 obtain⟨a,Qq,LN,ha3,ha4⟩:=hs.mem g hg;have hlen:=hs.len;have Ru:a≠l:=λz=>ho.2 (z▸VC Qq);have Rv:l < st.length:=(List.getElem?_eq_some_iff.mp hl).1;have hll2:=ho.1;have eN:ss.length=(ss.map λs=>P.d (nD s)).length:=by simp
 have e1:aa (callC Fs (n+1)) (.ix (.attr "Groups" "members" 0) (.var 1)) (ay 6 [.obj 0,.d (nD g),.obj l]) st=.ok (.obj a) st:=by rw[fQ,cN rfl hs.self rfl,ae];simp only[ay,aL,nD];simp[iy hs.JR (show(mb.map P.obj)[g]?=some (.obj a) by rw[Vi,Qq];rfl)]
 have el:lr .len [.obj l] st=some (.d (.int (ss.length:Nat))):=by rw[iV hl];simp
 have ea:lr .len [.obj a] st=some (.d (.int ((h.mem.getD g []).length:Nat))):=by have:=Fy (show st[a]?=some (.dK _) from ha4);rw[this];simp
 by_cases hc:ss.length=(h.mem.getD g []).length
 ·refine⟨mb,st,?_,?_,Vj _,λi _ hi=>⟨rfl,hi⟩⟩;·refine wN g6 rfl rfl (ag (aV e1) (aN (iw (st1:=st) ?_ (aN (by rw[aE])))));simp[ay,bp,el,ea];rw[Vd] at hc;omega
  ·unfold aB;rw[if_pos hc];exact hs
 ·
  let fr:=h.mem.length
  let nw:=st.length
  let J:Nat->aI->Prop:=λi s=>s.length=st.length+1/\(∀k,k < st.length->k≠a->k≠b+1->k≠b+4->k≠b+6->s[k]?=st[k]?)/\s[a]?=some (encM ((h.mem.getD g []).filter λx=>decide (x∉ss.take i)))/\s[st.length]?=some (encM (ss.take i))/\
   s[b+1]?=some (encL (putAll h.mem.length (ss.take i) h.grp))/\s[b+4]?=some (.lst ((mb++[st.length]).map P.obj))/\s[b+6]?=some (jx (h.iH++[false]))
  have ab:a≠b+1/\a≠b+4/\a≠b+5/\a≠b+6/\a≠b/\0 < a:=by rcases LN with z|z|z<;>omega
  have J0:J 0 (((st++[O.dK []]).set (b+4) (.lst ((mb++[st.length]).map P.obj))).set (b+6) (jx (h.iH++[false]))):=by
   refine⟨by simp,λk hk k1 k2 k3 k4=>?_,?_,?_,?_,?_,?_⟩;·rw[Ve (Wg k4),Ve (Wg k3),Vf hk]
   ·rw[Ve (by omega),Ve (by omega),Vf ha3,ha4,List.take_zero];congr 2;exact(List.filter_eq_self.mpr λx _=>by simp).symm
   ·rw[Ve (by omega),Ve (by omega)];simp[encM]
   ·rw[Ve (by omega),Ve (by omega),Vf (by omega),hs.grp];simp[putAll]
   ·rw[Ve (by omega),VB (by simp;omega)]
   ·rw[VB (by simp;omega)]
  obtain⟨r',s',e,⟨y5,q1⟩,q2⟩:=sQ (n:=l) (g:=gU (.nm 5)) (b:=ah (callC Fs (n+1)) gF) (xs:=ss.map λs=>P.d (nD s)) (I:=λi r s=>(∃y5,r=[some (.obj 0),some (.d (nD g)),some (.obj l),some (.obj a),some (.d (nD h.mem.length)),y5])/\J i s)
   (λi r s hi=>by rw[hi.2.2.1 l Rv (Wg Ru) (by omega) (by omega) (by omega),hl];rfl)
   (λi p r s ⟨⟨y5,h1⟩,j1,j2,j3,j4,j5,j6,j7⟩ hp=>by
    subst h1;rw[Vi] at hp;cases JV:ss[i]? with
    |none=>rw[JV] at hp;cases hp|some x=>
     rw[JV] at hp;cases hp;have hx:=VC JV;have s0:s[0]?=some (iB b):=by rw[j2 0 (by omega) (by omega) (by omega) (by omega) (by omega)];exact hs.self
     have xr:x∈(h.mem.getD g []).filter λy=>decide (y∉ss.take i):=by rw[Wo];exact⟨KW x hx,by simpa using zj C0 JV⟩
     have tl:(ss.take i).length < av:=by unfold av;simp;omega
     have p1:=FP j3 xr;have k4:(s.set a (encM (((h.mem.getD g []).filter λy=>decide (y∉ss.take i)).filter λy=>decide (y≠x))))[st.length]?=some (encM (ss.take i)):=by rw[Ve (by omega)];exact j4
     have k6:(s.set a (encM (((h.mem.getD g []).filter λy=>decide (y∉ss.take i)).filter λy=>decide (y≠x))))[b+4]?=some (.lst ((mb++[st.length]).map P.obj)):=by rw[Ve (by omega)];exact j6
     have k0:(s.set a (encM (((h.mem.getD g []).filter λy=>decide (y∉ss.take i)).filter λy=>decide (y≠x))))[0]?=some (iB b):=by rw[Ve (by omega)];exact s0
     have k5:(s.set a (encM (((h.mem.getD g []).filter λy=>decide (y∉ss.take i)).filter λy=>decide (y≠x))))[b+1]?=some (encL (putAll h.mem.length (ss.take i) h.grp)):=by rw[Ve (by omega)];exact j5
     have p2:=tF k4 (zj C0 JV) tl;generalize Rw:s.set a (encM (((h.mem.getD g []).filter λy=>decide (y∉ss.take i)).filter λy=>decide (y≠x)))=S1 at*;have S1l:S1.length=st.length+1:=by rw[<-Rw];simpa using j1
     have l5:(S1.set st.length (encM (ss.take i++[x])))[b+1]?=some (encL (putAll h.mem.length (ss.take i) h.grp)):=by rw[Ve (by omega)];exact k5
     have l0:(S1.set st.length (encM (ss.take i++[x])))[0]?=some (iB b):=by rw[Ve (by omega)];exact k0
     have p3:=wQ (v:=P.d (nD h.mem.length)) l5 (i:=x) (by simp only[Vg,mG];exact Uo x hx);refine⟨_,[some (.obj 0),some (.d (nD g)),some (.obj l),some (.obj a),some (.d (nD h.mem.length)),some (.d (nD x))],(S1.set st.length (encM (ss.take i++[x]))).set (b+1) (encL (putAll h.mem.length (ss.take (i+1)) h.grp)),rfl,?_,⟨_,rfl⟩,?_,λk hk k1 k2 k3 k4=>?_,?_,?_,?_,?_,?_⟩
     ·refine ag (mE (v:=.d (.bl true)) (st1:=S1) ?_) ?_;·rw[Iu];simp[FO j3,p1]
      refine ag (nL (x:=.obj st.length) (k:=.d (nD x)) (v:=.d (.bl true)) (st1:=S1) (st2:=S1) (st3:=S1) (by simp) ?_ (by simp) p2) ?_;·rw[fQ,cN rfl k0 rfl,ae];have:=iy k6 (i:=h.mem.length) (p:=.obj st.length) (by rw[Vi,Vz (by rw[hs.qv];exact Vj _),hs.qv];simp);simp[nD,this]
      refine ag (nL (x:=.obj (b+1)) (k:=.d (nD x)) (v:=.d (nD h.mem.length)) (st1:=S1.set st.length (encM (ss.take i++[x]))) (st2:=S1.set st.length (encM (ss.take i++[x]))) (st3:=S1.set st.length (encM (ss.take i++[x]))) (by simp) (cN rfl l0 rfl) (by simp) (show oN _ (.d (.int (x:Int))) _ _=_ from p3)) ?_;rw[ak];simp only[encL,<-aaG,zi JV];rfl
     ·simpa using S1l
     ·rw[Ve (by omega),Ve (by omega),<-Rw,Ve (by omega)];exact j2 k hk k1 k2 k3 k4
     ·rw[Ve (by omega),Ve (by omega),<-Rw,VB (by omega),zh JV]
     ·rw[Ve (by omega),VB (by omega)];have e:ss.take (i+1)=ss.take i++[x]:=by rw[Wq,JV];rfl
      rw[e]
     ·rw[VB (by simp;omega)]
     ·rw[Ve (by omega),Ve (by omega)];exact k6
     ·rw[Ve (by omega),Ve (by omega),<-Rw,Ve (by omega)];exact j7)
   fg (i:=0) ⟨⟨none,rfl⟩,J0⟩ (WE _) (by simp[fg];omega)
  subst q1;rw[Vg] at q2;obtain⟨j1,j2,j3,j4,j5,j6,j7⟩:=q2;rw[V9 (Vj _)] at j3 j4 j5;have s0:s'[0]?=some (iB b):=by rw[j2 0 (by omega) (by omega) (by omega) (by omega) (by omega)];exact hs.self
  have hS:HS m w b (mb++[st.length]) s' ⟨putAll h.mem.length ss h.grp,h.mem.set g ((h.mem.getD g []).filter λs=>decide (s∉ss))++[ss],h.wait,h.iH++[false]⟩:=by
   refine⟨by omega,hs.b0,s0,?_,j5,j6,by simp[hs.qv],λk hk=>?_,?_,?_,j7⟩
   ·obtain⟨outer,o1,o2,o3⟩:=hs.src;have hb0:=hs.b0;refine⟨outer,by rw[j2 b (by omega) (by omega) (by omega) (by omega) (by omega)];exact o1,o2,λa' Rg=>?_⟩;have ab':b+2<=a:=by rcases LN with z|z|z<;>omega
    obtain⟨o,rows,f1,f2,f3,f4,f5⟩:=o3 a' Rg;refine⟨o,rows,f1,f2,f3,by rw[j2 o (by omega) (by omega) (by omega) (by omega) (by omega)];exact f4,λt ht=>?_⟩;obtain⟨l',g1,g2,g3,g4⟩:=f5 t ht;exact⟨l',g1,g2,g3,by rw[j2 l' (by omega) (by omega) (by omega) (by omega) (by omega)];exact g4⟩
   ·by_cases uj:k < h.mem.length
    ·by_cases u7:k=g;·subst u7;refine⟨a,by rw[Vf (by rw[hs.qv];exact uj)];exact Qq,LN,by omega,?_⟩;rw[j3];show _=some (encM ((h.mem.set k _++[ss]).getD k []));rw[iA (by simpa using uj),e7 uj]
     ·obtain⟨a',c1,c2,c3,c4⟩:=hs.mem k uj;have:a'≠a:=λz=>u7 (by rw[z] at c1;obtain⟨x1,y1⟩:=List.getElem?_eq_some_iff.mp c1;obtain⟨x2,y2⟩:=List.getElem?_eq_some_iff.mp Qq;exact w6 hs.Qk x1 x2 (y1.trans y2.symm));refine⟨a',by rw[Vf (by rw[hs.qv];exact uj)];exact c1,c2,by omega,?_⟩;rw[j2 a' c3 this (by rcases c2 with z|z|z<;>omega) (by rcases c2 with z|z|z<;>omega) (by rcases c2 with z|z|z<;>omega),c4];show _=some (encM ((h.mem.set g _++[ss]).getD k []));rw[iA (by simpa using uj),dB (Wg u7)]
    ·have e2:k=h.mem.length:=by simp at hk;omega
     subst e2;refine⟨st.length,by rw[<-hs.qv];simp,.inr (.inr hlen),by omega,?_⟩;rw[j4];show _=some (encM ((h.mem.set g _++[ss]).getD h.mem.length []));congr 2;have:=iW (l:=h.mem.set g ((h.mem.getD g []).filter λs=>decide (s∉ss))) (x:=ss) (d:=[]);rw[WJ] at this;exact this.symm
   ·rw[V5];refine⟨hs.Qk,by simp,λx hx y hy=>?_⟩;simp at hy;subst hy;have:=(hs.mad hx).2;omega
   ·rw[j2 (b+5) (by omega) (by omega) (by omega) (by omega) (by omega)];exact hs.Nq
  have sl:s'[l]?=some (encL ss):=by rw[j2 l Rv (Wg Ru) (by omega) (by omega) (by omega)];exact hl
  have ll:lr .len [.obj l] s'=some (.d (.int (ss.length:Nat))):=by rw[iV sl];simp
  have la:lr .len [.obj a] s'=some (.d (.int (((h.mem.getD g []).filter λx=>decide (x∉ss)).length:Nat))):=by have:=Fy (show s'[a]?=some (.dK _) from j3);rw[this];simp
  have gw:g < h.iH.length:=by omega
  have wg:(h.iH++[false])[g]?=some (h.iH.getD g false):=by rw[Vf gw,Vd,Vc gw];rfl
  have wx:=iy j7 (i:=g) (p:=.d (.bl (h.iH.getD g false))) (by rw[Vi,wg];rfl);have fr2:∀(s2:aI) (x y:O),s2=(s'.set (b+5) x).set (b+6) y->st.length<=s2.length/\∀i,i < st.length->Du b mb i->s2[i]?=st[i]?/\Du b (mb++[st.length]) i:=λs2 x y e2=>by
   subst e2;refine⟨by simp;omega,λi hi Gw=>?_⟩;have:=Gw.1;have hia:i≠a:=λz=>Gw.2 (z▸VC Qq);refine⟨by rw[Ve (by omega),Ve (by omega)];exact j2 i hi hia (by omega) (by omega) (by omega),Gw.1,λz=>?_⟩;rcases Xr.mp z with z|z;·exact Gw.2 z
   ·simp at z;omega
  have fin:∃r2 s2,ah (callC Fs (n+1)) (bp.body.drop 6) [some (.obj 0),some (.d (nD g)),some (.obj l),some (.obj a),some (.d (nD h.mem.length)),y5] s'=.ok (.nx r2) s2/\HS m w b (mb++[st.length]) s2 (aB h g ss)/\st.length<=s2.length/\∀i,i < st.length->Du b mb i->s2[i]?=st[i]?/\Du b (mb++[st.length]) i:=by
   by_cases Ds:h.iH.getD g false=true\/ss.length<=((h.mem.getD g []).filter λx=>decide (x∉ss)).length
   ·have lw:=l6 n hS (g:=h.mem.length) (by simp;omega) hw;have hq:=hS.Ql h.mem.length;obtain⟨f1,f2⟩:=fr2 _ _ _ rfl;refine⟨_,_,ag (iw (st1:=s') ?_ (ag (mE (v:=.d .bq) (nU rfl s0 rfl (ps:=[.d (nD h.mem.length)]) (st1:=s') (by simp) lw)) ak)) ak,?_,f1,f2⟩;·rw[JP,BM,fQ,cN rfl s0 rfl];simp only[ae,aL,Vk,Vl,Vw,aq,nD,wx];cases UI:h.iH.getD g false with|true=>simp|false=>rw[UI] at Ds;have Qr:=Ds.resolve_left (by decide);simp[ll,la];rw[Vd] at Qr;simpa using Qr
    ·unfold aB;rw[if_neg hc];dsimp only;rw[if_pos Ds];exact hq
   ·have lw:=l6 n hS (g:=g) (by simp;omega) hw;have hq:=hS.Ql g;obtain⟨f1,f2⟩:=fr2 _ _ _ rfl;refine⟨_,_,ag (dZ (st1:=s') ?_ (ag (mE (v:=.d .bq) (nU rfl s0 rfl (ps:=[.d (nD g)]) (st1:=s') (by simp) lw)) ak)) ak,?_,f1,f2⟩
    ·rw[JP,BM,fQ,cN rfl s0 rfl];simp only[ae,aL,Vk,Vl,Vw,aq,nD,wx];have h1:h.iH.getD g false=false:=by cases UI:h.iH.getD g false with|true=>exact absurd (.inl UI) Ds|false=>rfl
     rw[h1];have h2:¬ss.length<=((h.mem.getD g []).filter λx=>decide (x∉ss)).length:=λz=>Ds (.inr z);simp[ll,la];rw[Vd] at h2;simpa using h2
    ·unfold aB;rw[if_neg hc];dsimp only;rw[if_neg Ds];exact hq
  obtain⟨r2,s2,f0,f1,f2,f3⟩:=fin;refine⟨mb++[st.length],s2,kL g6 rfl rfl (r:=r2) ?_,f1,f2,f3⟩;refine ag (aV e1) (ag (dZ (st1:=st) ?_ ak) (ag (aV (v:=.d (nD h.mem.length)) (st1:=st) ?_) ?_))
  ·have:((ss.length:Int)==((h.mem.getD g []).length:Int))=false:=by rw[beq_eq_false_iff_ne];omega
   simp[ay,bp,el,ea];rw[Vd] at hc;omega
  ·rw[gz,aD,cN rfl hs.self rfl];simp[iV hs.JR,nD,hs.qv]
  refine ag (j0 (x:=.obj (b+4)) (v:=.obj st.length) (its:=mb.map P.obj) (st1:=st) (st2:=st++[O.dK []]) (cN rfl hs.self rfl) (iU hs.JR) (by simp) (st3:=(st++[O.dK []]).set (b+4) (.lst ((mb++[st.length]).map P.obj))) ?_) ?_;·rw[fi (xs:=mb.map P.obj) (by rw[Vf (by omega)];exact hs.JR) (by simp[av,hs.qv];omega)];simp
  have t0:((st++[O.dK []]).set (b+4) (.lst ((mb++[st.length]).map P.obj)))[0]?=some (iB b):=by rw[Ve (by omega),Vf (by omega)];exact hs.self
  have t6:((st++[O.dK []]).set (b+4) (.lst ((mb++[st.length]).map P.obj)))[b+6]?=some (jx h.iH):=by rw[Ve (by omega),Vf (by omega)];exact hs.iH
  refine ag (j0 (x:=.obj (b+6)) (v:=.d (.bl false)) (its:=h.iH.map λb=>P.d (.bl b)) (st1:=(st++[O.dK []]).set (b+4) (.lst ((mb++[st.length]).map P.obj))) (st2:=(st++[O.dK []]).set (b+4) (.lst ((mb++[st.length]).map P.obj))) (cN rfl t0 rfl) (iU t6) (by simp) (st3:=((st++[O.dK []]).set (b+4) (.lst ((mb++[st.length]).map P.obj))).set (b+6) (jx (h.iH++[false]))) ?_) ?_;·rw[fi t6 (by simp[av];omega)];simp[jx]
  refine ag (Fv (n:=l) (st1:=((st++[O.dK []]).set (b+4) (.lst ((mb++[st.length]).map P.obj))).set (b+6) (jx (h.iH++[false]))) (by simp[ay,bp]) e) f0
end
section
variable{m:cM}{w b:Nat}{mb:List Nat}{st aJ:aI}{h:mX}{T:List Nat}{R:Nat->Prop}{a:Nat}
theorem zw n(ok:dv w m)(hm:m.length<=100000)(hs:HS m w b mb st h)(hi:jR w m T R h)(ha:a < w)(IT:T.Nodup)(UJ:∀t∈T,t < m.length)(hml:h.mem.length < 1000000):
  ∃y4 y5 s dl,forL (gU (.nm 4)) (ah (callC Fs n) cE) ((T.map nD).map .d) [some (.obj 0),some (.d (.pl (T.map nD))),some (.d (nD a)),some (.obj st.length),none,none,none,none] (st++[O.dK []])
   =.ok (.nx [some (.obj 0),some (.d (.pl (T.map nD))),some (.d (nD a)),some (.obj st.length),y4,y5,none,none]) s/\GS h.grp st.length st s (T.flatMap (dO m a)) dl:=by
 have hlen:=hs.len;have JW:∀(l:List Nat),l.Nodup->(∀x∈l,x < m.length)->l.length<=m.length:=λl h1 h2=>by
  have:=gb h1 (xs:=U8 m.length) λs hs=>by simpa using h2 s hs
  simpa using this
 have FN:=rm (m:=m) (a:=a) IT;have FL:∀x∈T.flatMap (dO m a),x < m.length:=λx hx=>(nS.mp hx).1;have flen:=JW _ FN FL;have one:∀(s:aI) (done:List Nat) (dl:List JS) (x:Nat) (y4 y5:Option P),GS h.grp st.length st s done dl->done.length < 1000000->(∀t∈dl,t.1 < h.mem.length)->x < m.length->
   ∃s2 MI,ah (callC Fs n) cD [some (.obj 0),some (.d (.pl (T.map nD))),some (.d (nD a)),some (.obj st.length),y4,some (.d (nD x)),none,none] s=.ok (.nx [some (.obj 0),some (.d (.pl (T.map nD))),some (.d (nD a)),some (.obj st.length),y4,some (.d (nD x)),none,none]) s2/\GS h.grp st.length st s2 (done++[x]) MI:=by
  intro s done dl x y4 y5 G hd hk hx;have s0:s[0]?=some (iB b):=by rw[G.pre 0 (by omega)];exact hs.self
  have s1:s[b+1]?=some (encL h.grp):=by rw[G.pre (b+1) (by omega)];exact hs.grp
  have knd:(dl.map (·.1)).Nodup:=by have:=(eh h.grp done).1;rw[<-G.proj,Xk] at this;exact this
  have Oz:dl.length < av:=by
   have:=gb knd (xs:=U8 h.mem.length) λg hg=>by obtain⟨t,ht,rfl⟩:=W8.mp hg;simpa using hk t ht
   simp at this;unfold av;omega
  obtain⟨v,its,s1',s2,MI,e1,e2,e3,G'⟩:=G.next (x:=x) Oz (by unfold av;omega);refine⟨s2,MI,?_,G'⟩;have hD:aX s (.obj st.length)=some (.dK (t8 dl)):=by unfold aX kC;simp[G.t9,gq]
  have gx:(h.grp.map λs=>P.d (nD s))[x]?=some (.d (nD (h.grp.getD x 0))):=by
   have:x < h.grp.length:=by rw[hi.qu];exact hx
   rw[Vi,Vc this,Vd,Vc this];rfl
  refine ag (j0 (x:=v) (v:=.d (nD x)) (its:=its) (st1:=s1') (st2:=s1') (st3:=s2) ?_ e2 (by simp) e3) ak;rw[yH];simp only[aL,Vl,Vk,Vw,aq,ae,hD];rw[fQ,cN rfl s0 rfl,ae];simp only[aL,Vl,Vk,Vw,aq,ae];rw[show nD x=.int (x:Int) from rfl,iy s1 gx,aq,ae,jP,kK,aW,ae];simp only[WK,WE,if_true,ae];rw[e1,aq,ae]
 obtain⟨outer,o1,o2,o3⟩:=hs.src;obtain⟨o,rows,f1,f2,f3,f4,f5⟩:=o3 a ha;have UK:∀{s:aI} {done:List Nat} {dl:List JS},GS h.grp st.length st s done dl->(∀x∈done,x < m.length)->∀t∈dl,t.1 < h.mem.length:=λ{s done dl} G hd t ht=>by
  have:(t.1,t.2.1)∈b7 h.grp done:=by rw[<-G.proj];exact W8.mpr ⟨t,ht,rfl⟩
  obtain⟨q1,q2⟩:=(eh h.grp done).2.1 _ _ this;cases z:t.2.1 with
  |nil=>exact absurd z q2|cons x r=>
   have hx:x∈t.2.1:=by rw[z];simp
   rw[q1,Wo,decide_eq_true_eq] at hx;rw[<-hx.2];exact hi.blt x (hd x hx.1)
 obtain⟨r',s',e,⟨y4,y5,q1⟩,dl,q2⟩:=cV (g:=gU (.nm 4)) (b:=ah (callC Fs n) cE) (ps:=(T.map nD).map .d) (k:=0) (r:=[some (.obj 0),some (.d (.pl (T.map nD))),some (.d (nD a)),some (.obj st.length),none,none,none,none]) (st:=st++[O.dK []])
  (I:=λk r s=>(∃y4 y5,r=[some (.obj 0),some (.d (.pl (T.map nD))),some (.d (nD a)),some (.obj st.length),y4,y5,none,none])/\∃dl,GS h.grp st.length st s ((T.take k).flatMap (dO m a)) dl)
  (λi p r s ⟨⟨y4,y5,h1⟩,dl,G⟩ hp=>by
   rw[VO] at G ⊢;subst h1;rw[Xk,Vi] at hp;cases Gx:T[i]? with
   |none=>rw[Gx] at hp;cases hp|some t=>
    rw[Gx] at hp;cases hp;have htT:=VC Gx;obtain⟨l,g1,g2,g3,g4⟩:=f5 t (UJ t htT);have Dc:(T.take (i+1)).flatMap (dO m a)=(T.take i).flatMap (dO m a)++dO m a t:=by rw[Wq,Gx,WQ];simp
    have UL:∀j,∃rest,T.flatMap (dO m a)=(T.take i).flatMap (dO m a)++(dO m a t).take j++rest:=λj=>by
     refine⟨(dO m a t).drop j++(T.drop (i+1)).flatMap (dO m a),?_⟩;have h1:T.flatMap (dO m a)=(T.take (i+1)).flatMap (dO m a)++(T.drop (i+1)).flatMap (dO m a):=by rw[<-WQ,Yg]
     rw[h1,Dc];simp only[V1];rw[<-V1 ((dO m a t).take j),Yg]
    obtain⟨r2,s2,e2,⟨MQ,z1⟩,dl2,G2⟩:=sQ (n:=l) (g:=gU (.nm 5)) (b:=ah (callC Fs n) cD) (xs:=(dO m a t).map λs=>P.d (nD s)) (I:=λj r s=>(∃y5,r=[some (.obj 0),some (.d (.pl (T.map nD))),some (.d (nD a)),some (.obj st.length),some (.d (nD t)),y5,none,none])/\∃dl,GS h.grp st.length st s ((T.take i).flatMap (dO m a)++(dO m a t).take j) dl)
     (λj r s ⟨_,dl,G⟩=>by rw[G.pre l (by omega)];exact g4)
     (λj p r s ⟨⟨y5,h1⟩,dl,G⟩ hp=>by
      subst h1;rw[Vi] at hp;cases hx:(dO m a t)[j]? with
      |none=>rw[hx] at hp;cases hp|some x=>
       rw[hx] at hp;cases hp;obtain⟨rest,hr⟩:=UL j;have UM:∀y∈(T.take i).flatMap (dO m a)++(dO m a t).take j,y < m.length:=λy hy=>FL y (by rw[hr];exact Wr _ hy);have UN:((T.take i).flatMap (dO m a)++(dO m a t).take j).length < 1000000:=by have:=congrArg ZC hr;simp only[Vy] at this ⊢;omega
       have hxm:x < m.length:=(kO.mp (VC hx)).1;obtain⟨s2,MI,e2,G2⟩:=one s _ dl x (some (.d (nD t))) none G UN (UK G UM) hxm;refine⟨_,_,s2,rfl,e2,⟨_,rfl⟩,MI,?_⟩;rw[Wq,hx];simpa using G2)
     fg (i:=0) (r:=[some (.obj 0),some (.d (.pl (T.map nD))),some (.d (nD a)),some (.obj st.length),some (.d (nD t)),y5,none,none]) (st:=s) ⟨⟨y5,rfl⟩,dl,by simpa using G⟩ (WE _) (by have:(dO m a t).length<=m.length:=JW _ ((Xj).filter _) λx hx=>(kO.mp hx).1;simp[fg];omega)
    subst z1;rw[Vg,V9 (Vj _),<-Dc] at G2;refine⟨_,[some (.obj 0),some (.d (.pl (T.map nD))),some (.d (nD a)),some (.obj st.length),some (.d (nD t)),MQ,none,none],s2,rfl,?_,⟨_,_,rfl⟩,dl2,G2⟩;have s0:s[0]?=some (iB b):=by rw[G.pre 0 (by omega)];exact hs.self
    refine ag (Fv (n:=l) (st1:=s) ?_ e2) ak;rw[fQ,fQ,cN rfl s0 rfl,ae];have h1:=iy (st:=s) (n:=b) (by rw[G.pre b (by omega)];exact o1) (i:=a) (p:=.obj o) (by rw[Vi,f1];rfl);have h2:=iy (st:=s) (n:=o) (by rw[G.pre o (by omega)];exact f4) (i:=t) (p:=.obj l) (by rw[Vi,g1];rfl);simp only[aL,XQ,Vl,Vk,Vw,aq,ae,nD,Function.comp,h1,h2]) ⟨⟨none,none,rfl⟩,[],by
   refine⟨rfl,by simp[t8],(λt h=>nomatch h),by simp,λi hi=>Vf hi,by simp⟩⟩
 subst q1;rw[Vg,Vg,VO,V9 (Vj _)] at q2;exact⟨y4,y5,s',dl,e,q2⟩
theorem n4 n(ok:dv w m)(hm:m.length<=100000)(hs:HS m w b mb st h)(hi:jR w m T R h)(hn:t7 h)(ha:a < w)(hT:∀x y,x < m.length->y < m.length->x∈T->y∉T->¬gI w m x m y)(IT:T.Nodup)(UJ:∀t∈T,t < m.length):
  ∃uc aJ,callC Fs (n+3) 20 [.obj 0,.d (.pl (T.map nD)),.d (nD a)] st=.ok (.d .bq) aJ/\HS m w b uc aJ (eK m h T a):=by
 have hlen:=hs.len;have bd:=t7.bound hi hn;obtain⟨y4,y5,s,dl,eg,G⟩:=zw (n+2) ok hm hs hi ha IT UJ (by omega);have FN:=rm (m:=m) (a:=a) IT;have L:=λs=>nS (m:=m) (T:=T) (a:=a) (s:=s);obtain⟨s1,s2,s3⟩:=eh h.grp (T.flatMap (dO m a));have knd:(dl.map (·.1)).Nodup:=by rw[<-G.proj,Xk] at s1;exact s1
 have rH:HS m w b mb s h:=hs.keep (by have:=G.len;omega) λi hi _=>G.pre i hi;have Hh:∀i,st.length<=i->Du b mb i:=λi hi=>⟨by omega,λz=>by have:=(hs.mad z).2;omega⟩;have Ha:HS m w b mb (s.set st.length .vf) h:=rH.put (Hh _ (Vj _)) _;have JX:∀t∈dl,t.1 < h.mem.length/\(∀x,x∈t.2.1↔x∈h.mem.getD t.1 []/\aZ m x a∈T)/\t.2.1.Nodup/\t.2.1≠[]:=λt ht=>by
  have hp:(t.1,t.2.1)∈b7 h.grp (T.flatMap (dO m a)):=by rw[<-G.proj];exact W8.mpr ⟨t,ht,rfl⟩
  obtain⟨e,fc⟩:=s2 _ _ hp;have uj:t.1 < h.mem.length:=by
   cases q:t.2.1 with
   |nil=>exact absurd q fc|cons x r=>
    have hx:x∈t.2.1:=by rw[q];simp
    rw[e,Wo,decide_eq_true_eq] at hx;rw[<-hx.2];exact hi.blt x ((L x).mp hx.1).1
  refine⟨uj,λx=>?_,by rw[e];exact FN.filter _,fc⟩;rw[e,Wo,decide_eq_true_eq,L,(hi.mem t.1 uj).2];constructor;·rintro⟨⟨p,q⟩,r⟩;exact⟨⟨p,r⟩,q⟩
  ·rintro⟨⟨p,r⟩,q⟩;exact⟨⟨p,q⟩,r⟩
 obtain⟨r',sF,eF,⟨y6,y7,z1⟩,Qs,hF,z2,z3,z4,z5,z6⟩:=yJ (x:=6) (y:=7) (b:=ah (callC Fs (n+2)) e8) (ps:=t8 dl) (k:=0) (r:=[some (.obj 0),some (.d (.pl (T.map nD))),some (.d (nD a)),some (.obj st.length),y4,y5,none,none]) (st:=s.set st.length .vf)
  (I:=λk r s'=>(∃y6 y7,r=[some (.obj 0),some (.d (.pl (T.map nD))),some (.d (nD a)),some (.obj st.length),y4,y5,y6,y7])/\∃uc h',h'=((dl.take k).map (λt=>(t.1,t.2.1))).foldl (λh e=>aB h e.1 e.2) h/\HS m w b uc s' h'/\jR w m T R h'/\t7 h'/\
   (st.length < s'.length/\Du b uc st.length/\∀t∈dl.drop k,Du b uc t.2.2/\s'[t.2.2]?=some (encL t.2.1)/\t.1 < h'.mem.length/\(∀x,x∈t.2.1↔x∈h'.mem.getD t.1 []/\aZ m x a∈T)))
  (λi kv r s' ⟨⟨y6,y7,h1⟩,uc,h',c1,c2,c3,c4,c5,c6,c7⟩ hp=>by
   rw[VO] at c1 c7 ⊢;subst h1;unfold t8 at hp;rw[Vi] at hp;cases Gx:dl[i]? with
   |none=>rw[Gx] at hp;cases hp|some t=>
    rw[Gx] at hp;cases hp;have htd:=VC Gx;obtain⟨Qt,UO⟩:=List.getElem?_eq_some_iff.mp Gx;have edr:dl.drop i=t::dl.drop (i+1):=by rw[V8 Qt,UO]
    obtain⟨d1,d2,d3,d4⟩:=c7 t (by rw[edr];exact Vh);obtain⟨_,_,d5,d6⟩:=JX t htd;have bd':=t7.bound c3 c4;have wl:h'.wait.length<=h'.mem.length:=by
     have:=gb c3.JQ (xs:=U8 h'.mem.length) λg hg=>by simpa using((c3.wt g).mp hg).1
     simpa using this
    have tl:t.2.1.length<=m.length:=by
     have:=gb d5 (xs:=U8 m.length) λx hx=>by simpa using(((c3.mem t.1 d3).2 x).mp ((d4 x).mp hx).1).1
     simpa using this
    obtain⟨Qu,st2,g1,g2,g3,g4⟩:=tM n c2 (g:=t.1) (l:=t.2.2) (ss:=t.2.1) d2 d1 d3 (λx hx=>((d4 x).mp hx).1) d5 (λx hx=>by rw[c3.qu];exact(((c3.mem t.1 d3).2 x).mp ((d4 x).mp hx).1).1) c3.mH (by unfold av;omega) (by omega) (by omega);obtain⟨i1,i2,i3,i4,i5,i6,i7⟩:=nR c3 d3 ha d4 d5 d6 hT ok;have n1:=p7 c3 c4 d3 (λx hx=>((d4 x).mp hx).1) d5 d6;have s0:=c2.self;refine⟨_,st2,ag (mE (v:=.d .bq) (nU rfl c2.self rfl (ps:=[.d (nD t.1),.obj t.2.2]) (st1:=s') (by simp[XQ,ye,nD]) g1)) ak,⟨_,_,rfl⟩,Qu,_,?_,g2,i1,n1,by omega,(g4 st.length c5 c6).2,λu hu=>?_⟩;·rw[Wq,Gx,VU,XR,<-c1];rfl
    ·obtain⟨u1,u2,u3,u4⟩:=c7 u (by rw[edr];exact Vb _ hu);have hul:u.2.2 < s'.length:=(List.getElem?_eq_some_iff.mp u2).1;obtain⟨v1,v2⟩:=g4 u.2.2 hul u1;have hut:u.1≠t.1:=λz=>by obtain⟨j,hj⟩:=Zh hu;rw[List.getElem?_drop] at hj;obtain⟨OO,hje⟩:=List.getElem?_eq_some_iff.mp hj;have:=w6 knd (i:=i) (j:=i+1+j) (by simpa using Qt) (by simpa using OO) (by simp only[List.getElem_map,UO,hje];exact z.symm);omega
     exact⟨v2,by rw[v1];exact u2,by omega,λx=>by rw[u4,i5 u.1 u3 hut]⟩)
  ⟨⟨none,none,rfl⟩,mb,h,by simp,Ha,hi,hn,by have:=G.len;simpa using this,Hh _ (Vj _),λt ht=>by rw[X5] at ht;obtain⟨q1,q2,q3⟩:=G.at_ t ht;obtain⟨p1,p2,_⟩:=JX t ht;exact⟨Hh _ (by omega),by rw[Ve (by omega)];exact q3,p1,p2⟩⟩
 subst z1;obtain⟨z6,z7,_⟩:=z6;refine⟨Qs,sF.set st.length (.dK (t8 dl)),kL jT rfl rfl (r:=[some (.obj 0),some (.d (.pl (T.map nD))),some (.d (nD a)),some (.obj st.length),y4,y5,y6,y7]) ?_,?_⟩;·refine ag (aV (v:=.obj st.length) (st1:=st++[O.dK []]) (by simp)) ?_;refine ag (cU (ps:=(T.map nD).map .d) (st1:=st++[O.dK []]) (by simp[ay,bT]) eg) ?_;exact ag (Mz (n:=st.length) (kvs:=t8 dl) (st1:=s) (by simp) G.t9 eF) ak
 ·have e:hF=eK m h T a:=by rw[z2];unfold eK;rw[<-G.proj,VO];unfold t8;rw[Vg,V9 (Vj _)]
  rw[<-e];exact z3.put z7 _
end
section
variable{m:cM}{w b:Nat}{mb:List Nat}{st aJ:aI}{h:mX}
theorem MR(hs:HS m w b mb st h)g:HS m w b mb ((st.set (b+5) (encL h.wait.dropLast)).set (b+6) (jx (h.iH.set g false))) (kP h g):=by
 have hl:=hs.len;have g0:∀i,i≠b+5->i≠b+6->((st.set (b+5) (encL h.wait.dropLast)).set (b+6) (jx (h.iH.set g false)))[i]?=st[i]?:=λi h1 h2=>by rw[Ve (Wg h2),Ve (Wg h1)]
 refine⟨by simpa using hl,hs.b0,by rw[g0 0 (by omega) (by omega)];exact hs.self,?_,by rw[g0 _ (by omega) (by omega)];exact hs.grp,by rw[g0 _ (by omega) (by omega)];exact hs.JR,hs.qv,λk hk=>?_,hs.Qk,?_,?_⟩;·obtain⟨outer,e1,e2,e3⟩:=hs.src;refine⟨outer,by rw[g0 _ (by omega) (by omega)];exact e1,e2,λa ha=>?_⟩;obtain⟨o,rows,f1,f2,f3,f4,f5⟩:=e3 a ha;refine⟨o,rows,f1,f2,f3,by rw[g0 _ (by omega) (by omega)];exact f4,λt ht=>?_⟩;obtain⟨l,q1,q2,q3,q4⟩:=f5 t ht;exact⟨l,q1,q2,q3,by rw[g0 _ (by omega) (by omega)];exact q4⟩
 ·obtain⟨a,e1,e2,e3,e4⟩:=hs.mem k hk;refine⟨a,e1,e2,by simpa using e3,?_⟩;rw[g0 _ (by rcases e2 with z|z|z<;>omega) (by rcases e2 with z|z|z<;>omega)];exact e4
 ·rw[Ve (by omega),VB (by omega)];rfl
 ·rw[VB (by simp;omega)];rfl
theorem Dd n(ok:dv w m)(hm:m.length<=100000)(hw:w<=1000)(hs:HS m w b mb st h)(hc:tq w m h)(fc:h.wait≠[])y1 y2 y3:
  ∃y1' y2' Rx uc aJ,ah (callC Fs (n+3)) fA [some (.obj 0),y1,y2,y3] st=.ok (.nx [some (.obj 0),y1',y2',Rx]) aJ/\HS m w b uc aJ (nT m w h):=by
 obtain⟨g,ew,eg,gl,gnd,glt,hT,ip,hn⟩:=IU ok hc fc;have hlen:=hs.len;obtain⟨a,a1,a2,a3,a4⟩:=hs.mem g gl;have wl:=hc.1.mH
 let s1:=st.set (b+5) (encL h.wait.dropLast)
 let s2:=s1.set (b+6) (jx (h.iH.set g false))
 have rH:HS m w b mb s2 (kP h g):=MR hs g;have p1:EK (.obj (b+5)) st=some (.d (nD g),s1):=by
  have hw5:st[b+5]?=some (.lst (h.wait.map λs=>P.d (nD s))):=hs.Nq;have hx:(h.wait.map λs=>P.d (nD s))[(h.wait.map λs=>P.d (nD s)).length - 1]?=some (.d (nD g)):=by rw[ew];simp
  unfold EK;simp only[hw5,hx,VE];congr 2;show st.set _ (O.lst _)=st.set _ (encL _);unfold encL;rw[List.map_dropLast]
 have Ot:s1[0]?=some (iB b):=by show(st.set _ _)[0]?=_;rw[Ve (by omega)];exact hs.self
 have s16:s1[b+6]?=some (jx h.iH):=by show(st.set _ _)[b+6]?=_;rw[Ve (by omega)];exact hs.iH
 have p2:oN (.obj (b+6)) (.d (nD g)) (.d (.bl false)) s1=some s2:=by rw[show nD g=.int (g:Int) from rfl,wQ s16 (by simp;omega)];simp[s2,jx,aaG]
 obtain⟨a',c1,c2,c3,c4⟩:=rH.mem g gl;have p3:aa (callC Fs (n+3)) (.lst false (.keys (.ix (.attr "Groups" "members" 0) (.var 1)))) [some (.obj 0),some (.d (nD g)),y2,y3] s2=.ok (.d (.pl ((h.mem.getD g []).map nD))) s2:=by
  rw[dn,Fw,fQ,cN rfl rH.self rfl,ae];have h1:=iy rH.JR (i:=g) (p:=.obj a') (by rw[Vi,c1];rfl);have h2:uq s2 (.obj a')=some (a',(h.mem.getD g []).map λ(s:Nat)=>((.inl (s:Int):Sum Int Str),P.d (.bl true))):=by have:s2[a']?=some (.dK ((h.mem.getD g []).map λ(s:Nat)=>((.inl (s:Int):Sum Int Str),P.d (.bl true)))):=c4;unfold uq;simp only[this]
  simp only[aL,Vl,Vk,Vw,aq,ae,nD,h1,h2];have h3:(((h.mem.getD g []).map λ(s:Nat)=>((.inl (s:Int):Sum Int Str),P.d (.bl true))).map λkv=>ye kv.1)=(h.mem.getD g []).map λs=>P.d (nD s):=by rw[Xk];rfl
  rw[h3,c0];rfl
 let T:=h.mem.getD g []
 obtain⟨outer,o1,o2,o3⟩:=rH.src;obtain⟨r',sF,eF,⟨Rx,z1⟩,Qs,hF,RF,z2,z3,z4,z5⟩:=cV (g:=gU (.nm 3)) (b:=ah (callC Fs (n+3)) iX) (ps:=(U8 w).map λk:Nat=>P.d (.int (k:Int))) (k:=0) (r:=[some (.obj 0),some (.d (nD g)),some (.d (.pl (T.map nD))),y3]) (st:=s2)
  (I:=λk r s=>(∃y3,r=[some (.obj 0),some (.d (nD g)),some (.d (.pl (T.map nD))),y3])/\∃uc h' R',h'=eQ m T (U8 k) (kP h g)/\HS m w b uc s h'/\jR w m T R' h'/\t7 h')
  (λi p r s ⟨⟨y3,h1⟩,uc,h',R',c1,c2,c3,c4⟩ hp=>by
   rw[VO] at c1 ⊢;subst h1;have hi:i < w:=by
    rw[Vi] at hp;by_cases z:i < w;·exact z
    ·rw[VH (by simpa using z)] at hp;cases hp
   have Cu:p=.d (.int (i:Int)):=by rw[Vi,WA hi] at hp;cases hp;rfl
   subst Cu;obtain⟨Qu,st2,e1,e2⟩:=n4 n ok hm c2 c3 c4 hi hT gnd glt;obtain⟨j1,j2,_,_⟩:=p8 ok hi hT gnd c3 c4;refine⟨_,[some (.obj 0),some (.d (nD g)),some (.d (.pl (T.map nD))),some (.d (.int (i:Int)))],st2,rfl,ag (mE (v:=.d .bq) (nU rfl c2.self rfl (ps:=[.d (.pl (T.map nD)),.d (nD i)]) (st1:=s) (by simp[nD]) e1)) ak,⟨_,rfl⟩,Qu,_,_,?_,e2,j1,j2⟩;rw[Wn];unfold eQ at c1 ⊢;rw[XR,<-c1];rfl)
  ⟨⟨y3,rfl⟩,mb,kP h g,_,by simp[eQ],rH,ip,hn⟩
 subst z1;rw[Vg,VQ,VO] at z2;refine⟨some (.d (nD g)),some (.d (.pl (T.map nD))),Rx,Qs,sF,?_,by
  have:hF=nT m w h:=by rw[z2];unfold nT;rw[eg]
  rw[<-this];exact z3⟩
 refine ag (aV (v:=.d (nD g)) (st1:=s1) ?_) ?_;·rw[Iv,cN rfl hs.self rfl,ae,p1,aq,ae]
 refine ag (nL (x:=.obj (b+6)) (k:=.d (nD g)) (v:=.d (.bl false)) (st1:=s1) (st2:=s1) (st3:=s1) (by simp) (cN rfl Ot rfl) (by simp) p2) ?_;refine ag (aV (v:=.d (.pl (T.map nD))) (st1:=s2) p3) ?_;refine ag (cU (ps:=(U8 w).map λk:Nat=>P.d (.int (k:Int))) (st1:=s2) (bR ?_ (by omega)) eF) ak;rw[gz,aD,cN rfl rH.self rfl,ae,aW,ae,ae,iV o1,aq];simp[o2]
theorem zx n(ok:dv w m)(hm:m.length<=100000)(hw:w<=1000)(hs:HS m w b mb st h)(hc:tq w m h)(hK:h.wait.length+(m.length+2 - h.mem.length)<=K)(hK2:K < 1000000):
  ∃uc aJ,callC Fs (n+4) 21 [.obj 0] st=.ok (.d .bq) aJ/\HS m w b uc aJ (settle m w K h):=by
 obtain⟨r',sF,eF,Qs,zF⟩:=oZ (c:=bV (aa (callC Fs (n+3)) (.cmp .gt (.bf .len [.attr "Groups" "waiting" 0]) (.cst (.int 0))))) (b:=ah (callC Fs (n+3)) fA)
  (I:=λk r s=>(∃y1 y2 y3,r=[some (.obj 0),y1,y2,y3])/\∃uc h',HS m w b uc s h'/\tq w m h'/\h'.wait.length+(m.length+2 - h'.mem.length)<=k/\settle m w k h'=settle m w K h)
  (E:=λr s=>∃uc,HS m w b uc s (settle m w K h))
  (λk r s ⟨⟨y1,y2,y3,h1⟩,uc,h',c1,c2,c3,c4⟩=>by
   subst h1;have ec:bV (aa (callC Fs (n+3)) (.cmp .gt (.bf .len [.attr "Groups" "waiting" 0]) (.cst (.int 0)))) [some (.obj 0),y1,y2,y3] s=.ok (decide (0 < h'.wait.length)) s:=by unfold bV;rw[fh,gz,aD,cN rfl c1.self rfl];simp[iV c1.Nq]
   by_cases Nr:h'.wait=[]
   ·refine .inl ⟨by rw[ec,Nr];rfl,uc,?_⟩;have:settle m w k h'=h':=by cases k with|zero=>rfl|succ k=>unfold Y.settle;rw[if_pos Nr]
    rw[<-c4,this];exact c1
   ·have LS:0 < h'.wait.length:=List.length_pos_iff.mpr Nr;obtain⟨j,rfl⟩:∃j,k=j+1:=⟨k - 1,by omega⟩;obtain⟨y1',y2',Rx,Qu,st2,e1,e2⟩:=Dd n ok hm hw c1 c2 Nr y1 y2 y3;obtain⟨t1,t2,t3⟩:=yZ ok c2 Nr;have b1:=t7.bound t1.1 t1.2;have b2:=t7.bound c2.1 c2.2;refine .inr ⟨j,rfl,by rw[ec,decide_eq_true LS],_,st2,e1,⟨_,_,_,rfl⟩,Qu,_,e2,t1,by omega,?_⟩;rw[<-c4]
    conv=>rhs;unfold Y.settle
    rw[if_neg Nr])
  fg (k:=K) (r:=[some (.obj 0),none,none,none]) (st:=st) ⟨⟨_,_,_,rfl⟩,mb,h,hs,hc,hK,rfl⟩ (by unfold fg;omega)
 exact⟨Qs,sF,kL o9 rfl rfl (r:=r') (ag (BQ eF) ak),zF⟩
end
theorem kX{α:Type}{f:Nat->List α}{L:Nat}(hL:∀a,(f a).length=L):∀w,((U8 w).flatMap f).length=w*L
 |0=>by simp|w+1=>by rw[Wn,WQ,Vy,kX hL w];simp[hL,YR]
theorem zy{α:Type}{f:Nat->List α}{L:Nat}(hL:∀a,(f a).length=L):∀(w a t),a < w->t < L->((U8 w).flatMap f)[a*L+t]?=(f a)[t]?
 |0,a,t,h,_=>absurd h (XI _)|w+1,a,t,h,ht=>by
  rw[Wn,WQ];by_cases e:a < w;·have:(a+1)*L<=w*L:=Zg L e;rw[YR] at this;rw[Vf (by rw[kX hL];omega)];exact zy hL w a t e ht
  ·have e':a=w:=by omega
   subst e';rw[Vz (by rw[kX hL];omega),kX hL,show a*L+t - a*L=t by omega];simp
section
variable{m:cM}{w:Nat}
def AX(m:cM)(a:Nat):aI:=je m a m.length++[lN (1+a*(m.length+1)) m.length]
theorem zA a:(AX m a).length=m.length+1:=by simp[AX,cX]
def xb(m:cM)(w:Nat):aI:=(U8 w).flatMap (AX m)
theorem iD:(xb m w).length=w*(m.length+1):=kX zA w
def outs(m:cM)(w:Nat):List Nat:=(U8 w).map λa=>1+a*(m.length+1)+m.length
abbrev stI(m:cM)(w:Nat)(fs:List (Str×P))(L:aI):aI:=O.ins "Groups" fs::(xb m w++L)
theorem gj{L:aI}(hb:b=1+w*(m.length+1)):(stI m w fs L)[b+k]?=L[k]?:=by subst hb;rw[show 1+w*(m.length+1)+k=w*(m.length+1)+k+1 by omega,Vk,Vz (by rw[iD];omega),iD];congr 1;omega
theorem B2{L:aI}(hb:b=1+w*(m.length+1)):(stI m w fs L).set (b+k) o=stI m w fs (L.set k o):=by subst hb;rw[show 1+w*(m.length+1)+k=w*(m.length+1)+k+1 by omega,List.set_cons_succ,Yh _ _ (by rw[iD];omega),iD,show w*(m.length+1)+k - w*(m.length+1)=k by omega]
theorem iY{L:aI}(hb:b=1+w*(m.length+1)):(stI m w fs L).length=b+L.length:=by subst hb;rw[Vt,Vy,iD];omega
theorem De n(ok:dv w m)(hm:m.length<=100000)(hw:w<=1000):∃aJ,callC Fs (n+2) 17 [.obj 0,.d (mD m)] [.ins "Groups" []]=.ok (.d .bq) aJ/\HS m w (1+w*(m.length+1)) [1+w*(m.length+1)+2,1+w*(m.length+1)+3] aJ (jd m):=by
 obtain⟨b,hb⟩:∃b,b=1+w*(m.length+1):=⟨_,rfl⟩;rw[<-hb];have eS:aU (callC Fs (n+1)) (.comp (.gG [.bf .len [.ix (.ix (.var 1) (.cst (.int 0))) (.cst (.int 1))]]) 1 [1] none (.call 0 [.var 1,.var 0])) [some (.obj 0),some (.d (mD m)),none,none] [.ins "Groups" []]
   =.ok ((outs m w).map P.obj) (stI m w [] []):=by
  rw[yI];have ew:cq (callC Fs (n+1)) (.gG [.bf .len [.ix (.ix (.var 1) (.cst (.int 0))) (.cst (.int 1))]]) [some (.obj 0),some (.d (mD m)),none,none] [.ins "Groups" []]=.ok ((U8 w).map λk:Nat=>P.d (.int (k:Int))) [.ins "Groups" []]:=by refine bR ?_ (by omega);have h0:om (m.map bY) 0=some (bY (row m 0)):=yN ok.ne;have hl:=ok.len _ (aS ok.ne);simp[mD,h0,bY,wD,hl]
  rw[ew,ae,if_pos (by simp[av];omega)];obtain⟨zs,aJ,e,q1,q2⟩:=o4 (g:=λp=>some p::cK [1] [some (.obj 0),some (.d (mD m)),none,none]) (c:=bu (callC Fs (n+1)) none) (e:=λr' aJ=>aa (callC Fs (n+1)) (.call 0 [.var 1,.var 0]) r' aJ)
   (I:=λk ys s=>ys=((U8 k).map λa=>1+a*(m.length+1)+m.length).map P.obj/\s=O.ins "Groups" []::xb m k) (ps:=(U8 w).map λk:Nat=>P.d (.int (k:Int))) (k:=0) (ys:=[]) (st:=[.ins "Groups" []])
   (λi p ys s ⟨h1,h2⟩ hp=>by
    rw[VO] at h1 h2 ⊢;subst h1 h2;have hi:i < w:=by
     rw[Vi] at hp;by_cases z:i < w;·exact z
     ·rw[VH (by simpa using z)] at hp;cases hp
    rw[Vi,WA hi] at hp;cases hp;have sl:(O.ins "Groups" []::xb m i).length=1+i*(m.length+1):=by rw[Vt,iD];omega
    have e1:=xa ok hm n i hi (O.ins "Groups" []::xb m i);rw[sl] at e1;refine⟨.obj (1+i*(m.length+1)+m.length),O.ins "Groups" []::xb m i++je m i m.length++[lN (1+i*(m.length+1)) m.length],by simp,?_,?_⟩;·show aa _ (.call _ [.var 1,.var 0]) [some (.d (.int (i:Int))),some (.d (mD m))] _=_;simp only[lD,aD,aW,aL,Vl,Vk,Vw,aq,ae];exact e1
    ·refine⟨by rw[Wn,VU,VU];rfl,?_⟩;unfold xb;rw[Wn,WQ];simp[AX]) ⟨by simp,by simp[xb]⟩
  rw[e];simp only[Xq,VO,Vg,VQ] at q1 q2;rw[q1,q2];show R.ok _ _=R.ok _ (O.ins "Groups" []::(xb m w++[]));rw[Wb];rfl
 let L1:aI:=[.lst ((outs m w).map P.obj)]
 let L2:aI:=L1++[encL (m.map (·.1))]
 let L3 (x y:List Nat):aI:=L2++[encM x,encM y,.lst [.obj (b+2),.obj (b+3)]]
 have f1:aE (callC Fs (n+1)) (.mr "Groups" "sources" 0 (.lst true (.comp (.gG [.bf .len [.ix (.ix (.var 1) (.cst (.int 0))) (.cst (.int 1))]]) 1 [1] none (.call 0 [.var 1,.var 0])))) [some (.obj 0),some (.d (mD m)),none,none] [.ins "Groups" []]
   =.ok (.nx [some (.obj 0),some (.d (mD m)),none,none]) (stI m w [("sources",.obj b)] L1):=by
  refine(sP (v:=.obj b) (x:=.obj 0) (st1:=stI m w [] L1) (n:=0) (fs:=[]) ?_ rfl rfl (by simp)).trans rfl;rw[jP,eS,ae,iY hb];simp[L1]
 have eG:aU (callC Fs (n+1)) (.comp (.ex (.var 1)) 1 [] none (.ix (.var 0) (.cst (.int 0)))) [some (.obj 0),some (.d (mD m)),none,none] (stI m w [("sources",.obj b)] L1)=.ok (m.map λs=>P.d (nD s.1)) (stI m w [("sources",.obj b)] L1):=by
  refine dy (g:=λs=>P.d (bY s)) (f:=λs=>nD s.1) (xs:=m) ?_ (by unfold av;omega) λs hs=>?_;·simp[mD]
  ·simp[bY,cK]
 have f2:aE (callC Fs (n+1)) (.mr "Groups" "group_of" 0 (.lst true (.comp (.ex (.var 1)) 1 [] none (.ix (.var 0) (.cst (.int 0)))))) [some (.obj 0),some (.d (mD m)),none,none] (stI m w [("sources",.obj b)] L1)
   =.ok (.nx [some (.obj 0),some (.d (mD m)),none,none]) (stI m w [("sources",.obj b),("group_of",.obj (b+1))] L2):=by
  refine(sP (v:=.obj (b+1)) (x:=.obj 0) (st1:=stI m w [("sources",.obj b)] L2) (n:=0) (fs:=[("sources",.obj b)]) ?_ rfl rfl (by simp)).trans rfl;rw[jP,eG,ae,iY hb];simp[L1,L2,encL,Wj]
 have f3:aE (callC Fs (n+1)) (.mr "Groups" "members" 0 (.lst true (.eY [.oK false,.oK false]))) [some (.obj 0),some (.d (mD m)),none,none] (stI m w [("sources",.obj b),("group_of",.obj (b+1))] L2)
   =.ok (.nx [some (.obj 0),some (.d (mD m)),none,none]) (stI m w [("sources",.obj b),("group_of",.obj (b+1)),("members",.obj (b+4))] (L3 [] [])):=by
  refine(sP (v:=.obj (b+4)) (x:=.obj 0) (st1:=stI m w [("sources",.obj b),("group_of",.obj (b+1))] (L3 [] [])) (n:=0) (fs:=[("sources",.obj b),("group_of",.obj (b+1))]) ?_ rfl rfl (by simp)).trans rfl;have l1:=iY (fs:=[("sources",P.obj b),("group_of",.obj (b+1))]) (L:=L2) hb;have l2:L2.length=2:=rfl;rw[jP,kK,aD,BJ,ae,aD,BJ,ae,aW,ae,ae];simp only[VY,if_false,Vy,l1,l2,Vt,WK,ae,av,ZO,Nat.reduceLeDiff,if_true];show R.ok (P.obj (b+2+1+1)) _=_;congr 1;·show _=stI m w _ (L3 [] []);simp[L3,encM,stI]
 obtain⟨r',sF,eF,⟨y2,y3,z1⟩,z2⟩:=cV (g:=gU (.two 2 3)) (b:=ah (callC Fs (n+1)) gZ) (ps:=dg 0 (m.map bY)) (k:=0) (r:=[some (.obj 0),some (.d (mD m)),none,none]) (st:=stI m w [("sources",.obj b),("group_of",.obj (b+1)),("members",.obj (b+4))] (L3 [] []))
  (I:=λk r s=>(∃y2 y3,r=[some (.obj 0),some (.d (mD m)),y2,y3])/\s=stI m w [("sources",.obj b),("group_of",.obj (b+1)),("members",.obj (b+4))] (L3 ((U8 k).filter λs=>decide (gd m s=0)) ((U8 k).filter λs=>decide (gd m s=1))))
  (λi p r s ⟨⟨y2,y3,h1⟩,h2⟩ hp=>by
   rw[VO] at h2 ⊢;subst h1 h2;rw[jr,Vi] at hp;have hi:i < m.length:=by
    by_cases z:i < m.length;·exact z
    ·rw[VH (by omega)] at hp;simp at hp
   rw[wR hi] at hp;simp only[VE,Yi,VO] at hp;subst hp;have hg:gd m i=0\/gd m i=1:=by have:gd m i<=1:=ok.good _ (aS hi);omega
   have nin:∀g,i∉(U8 i).filter λs=>decide (gd m s=g):=λg z=>by rw[Wo,Wi] at z;omega
   have fl:∀g,((U8 i).filter λs=>decide (gd m s=g)).length < av:=λg=>by have:=XE (λs=>decide (gd m s=g)) (U8 i);rw[VQ] at this;unfold av;omega
   have nx:∀g,(U8 (i+1)).filter (λs=>decide (gd m s=g))=(U8 i).filter (λs=>decide (gd m s=g))++if gd m i=g then[i] else[]:=λg=>by rw[Wn,Ya];congr 1;by_cases e:gd m i=g<;>simp[e]
   generalize UP:(U8 i).filter (λs=>decide (gd m s=0))=X0 at*;generalize IG:(U8 i).filter (λs=>decide (gd m s=1))=X1 at*;have n0:=nin 0;rw[UP] at n0;have n1:=nin 1;rw[IG] at n1;have l0:=fl 0;rw[UP] at l0;have l1:=fl 1;rw[IG] at l1;have x0:=nx 0;rw[UP] at x0;have x1:=nx 1;rw[IG] at x1;have g2:(stI m w [("sources",.obj b),("group_of",.obj (b+1)),("members",.obj (b+4))] (L3 X0 X1))[b+2]?=some (encM X0):=by rw[gj hb];rfl
   have g3:(stI m w [("sources",.obj b),("group_of",.obj (b+1)),("members",.obj (b+4))] (L3 X0 X1))[b+3]?=some (encM X1):=by rw[gj hb];rfl
   have g4:(stI m w [("sources",.obj b),("group_of",.obj (b+1)),("members",.obj (b+4))] (L3 X0 X1))[b+4]?=some (.lst [.obj (b+2),.obj (b+3)]):=by rw[gj hb];rfl
   have ea:∀(r:bU),(r[0]?).join=some (.obj 0)->aa (callC Fs (n+1)) (.attr "Groups" "members" 0) r (stI m w [("sources",.obj b),("group_of",.obj (b+1)),("members",.obj (b+4))] (L3 X0 X1))=.ok (.obj (b+4)) (stI m w [("sources",.obj b),("group_of",.obj (b+1)),("members",.obj (b+4))] (L3 X0 X1)):=λr hr=>by rw[BP,hr,aq,ae];rfl
   have ss0:∀o,(stI m w [("sources",.obj b),("group_of",.obj (b+1)),("members",.obj (b+4))] (L3 X0 X1)).set (b+2) (encM o)=stI m w [("sources",.obj b),("group_of",.obj (b+1)),("members",.obj (b+4))] (L3 o X1):=λo=>by rw[B2 hb];rfl
   have ss1:∀o,(stI m w [("sources",.obj b),("group_of",.obj (b+1)),("members",.obj (b+4))] (L3 X0 X1)).set (b+3) (encM o)=stI m w [("sources",.obj b),("group_of",.obj (b+1)),("members",.obj (b+4))] (L3 X0 o):=λo=>by rw[B2 hb];rfl
   have er:bY (row m i)=.tup [nD (gd m i),wD (row m i).2]:=rfl;generalize hS:stI m w [("sources",.obj b),("group_of",.obj (b+1)),("members",.obj (b+4))] (L3 X0 X1)=S at*;refine⟨_,[some (.obj 0),some (.d (mD m)),some (.d (nD i)),some (.d (bY (row m i)))],_,rfl,?_,⟨_,_,rfl⟩,rfl⟩;rcases hg with hg|hg
   ·have p:=tF g2 n0 l0;refine ag (nL (x:=.obj (b+2)) (k:=.d (nD i)) (v:=.d (.bl true)) (st1:=S) (st2:=S) (st3:=S) (by simp) ?_ (by simp[nD]) p) ?_;·rw[fQ,ea _ rfl,ae];have hx:=iy g4 (i:=0) (p:=.obj (b+2)) rfl;simp[er,hg,nD];exact congrArg (λo=>R.of o S) hx
    ·rw[ak,ss0,x0,x1,if_pos hg,if_neg (by omega),Wb];rfl
   ·have p:=tF g3 n1 l1;refine ag (nL (x:=.obj (b+3)) (k:=.d (nD i)) (v:=.d (.bl true)) (st1:=S) (st2:=S) (st3:=S) (by simp) ?_ (by simp[nD]) p) ?_;·rw[fQ,ea _ rfl,ae];have hx:=iy g4 (i:=1) (p:=.obj (b+3)) rfl;simp[er,hg,nD];exact congrArg (λo=>R.of o S) hx
    ·rw[ak,ss1,x0,x1,if_neg (by omega),if_pos hg,Wb];rfl)
  ⟨⟨none,none,rfl⟩,by simp⟩
 subst z1;rw[jt,Vg,VO] at z2;generalize hX0:(U8 m.length).filter (λs=>decide (gd m s=0))=X0 at*;generalize hX1:(U8 m.length).filter (λs=>decide (gd m s=1))=X1 at*;subst z2
 let L4:aI:=L3 X0 X1++[encL [0,1]]
 let L5:aI:=L4++[jx [true,true]]
 have f4:aE (callC Fs (n+1)) (.mr "Groups" "waiting" 0 (.lst true (.eY [.cst (.int 0),.cst (.int 1)]))) [some (.obj 0),some (.d (mD m)),y2,y3] (stI m w [("sources",.obj b),("group_of",.obj (b+1)),("members",.obj (b+4))] (L3 X0 X1))
   =.ok (.nx [some (.obj 0),some (.d (mD m)),y2,y3]) (stI m w [("sources",.obj b),("group_of",.obj (b+1)),("members",.obj (b+4)),("waiting",.obj (b+5))] L4):=by
  refine(sP (v:=.obj (b+5)) (x:=.obj 0) (st1:=stI m w [("sources",.obj b),("group_of",.obj (b+1)),("members",.obj (b+4))] L4) (n:=0) (fs:=[("sources",.obj b),("group_of",.obj (b+1)),("members",.obj (b+4))]) ?_ rfl rfl (by simp)).trans rfl;rw[jP,kK,aD,iu,ae,aD,iu,ae,aW,ae,ae,ae,if_pos (by decide),ae,iY hb];show R.ok (P.obj (b+5)) _=_;congr 1;simp[L4,stI,encL,nD]
 have f5:aE (callC Fs (n+1)) (.mr "Groups" "waits" 0 (.lst true (.eY [.cst (.bl true),.cst (.bl true)]))) [some (.obj 0),some (.d (mD m)),y2,y3] (stI m w [("sources",.obj b),("group_of",.obj (b+1)),("members",.obj (b+4)),("waiting",.obj (b+5))] L4)
   =.ok (.nx [some (.obj 0),some (.d (mD m)),y2,y3]) (stI m w (qt b) L5):=by
  refine(sP (v:=.obj (b+6)) (x:=.obj 0) (st1:=stI m w [("sources",.obj b),("group_of",.obj (b+1)),("members",.obj (b+4)),("waiting",.obj (b+5))] L5) (n:=0) (fs:=[("sources",.obj b),("group_of",.obj (b+1)),("members",.obj (b+4)),("waiting",.obj (b+5))]) ?_ rfl rfl (by simp)).trans rfl;rw[jP,kK,aD,iu,ae,aD,iu,ae,aW,ae,ae,ae,if_pos (by decide),ae,iY hb];show R.ok (P.obj (b+6)) _=_;congr 1;simp[L5,stI,jx]
 refine⟨stI m w (qt b) L5,kL mM rfl rfl (r:=[some (.obj 0),some (.d (mD m)),y2,y3]) ?_,?_⟩;·refine ag f1 (ag f2 (ag f3 (ag (cU (ps:=dg 0 (m.map bY)) (st1:=stI m w [("sources",.obj b),("group_of",.obj (b+1)),("members",.obj (b+4))] (L3 [] [])) ?_ eF) (ag f4 (ag f5 ak)))));simp[mD]
 ·refine⟨by rw[iY hb];simp[L5,L4,L3,L2,L1],by omega,rfl,?_,by rw[gj hb];rfl,by rw[gj hb];rfl,rfl,λg hg=>?_,by simp,by rw[gj hb];rfl,by rw[gj hb];rfl⟩
  ·refine⟨outs m w,by have:=gj (fs:=qt b) (L:=L5) (k:=0) hb;rw[Nat.add_zero] at this;rw[this];rfl,by simp[outs],λa ha=>?_⟩;have Ru:(a+1)*(m.length+1)<=w*(m.length+1):=Zg _ ha;rw[YR] at Ru;have gA:∀t,t < m.length+1->(stI m w (qt b) L5)[1+a*(m.length+1)+t]?=(AX m a)[t]?:=λt ht=>by rw[show 1+a*(m.length+1)+t=a*(m.length+1)+t+1 by omega,Vk,Vf (by rw[iD];omega)];exact zy zA w a t ha ht
   refine⟨1+a*(m.length+1)+m.length,(U8 m.length).map λt=>1+a*(m.length+1)+t,by simp[outs,ha],by omega,by omega,?_,λt ht=>⟨1+a*(m.length+1)+t,by simp[ht],by omega,by omega,?_⟩⟩;·rw[gA _ (by omega)];unfold AX;rw[Vz (by rw[cX];exact Vj _),cX];simp[lN,Wj]
   ·rw[gA _ (by omega)];unfold AX;rw[Vf (by rw[cX];exact ht),kW ht];rfl
  ·have HD:g=0\/g=1:=by have:g < 2:=hg;omega
   rcases HD with e|e<;>subst e;·refine⟨b+2,rfl,.inl rfl,by rw[iY hb];simp[L5,L4,L3,L2,L1],?_⟩;rw[gj hb];show some (encM X0)=some (encM ((U8 m.length).filter _));rw[hX0]
   ·refine⟨b+3,rfl,.inr (.inl rfl),by rw[iY hb];simp[L5,L4,L3,L2,L1],?_⟩;rw[gj hb];show some (encM X1)=some (encM ((U8 m.length).filter _));rw[hX1]
end
def qC(grp:List Nat)(gs:List Nat):List (Sum Int Str×P):=gs.map λ(g:Nat)=>(.inl (g:Int),P.d (nD (grp.idxOf g)))
theorem FW{g:Nat}(h:g∈gs):ff (qC grp gs) (.inl (g:Int))=some (.d (nD (grp.idxOf g))):=by
 unfold ff qC;induction gs with
 |nil=>cases h|cons x gs ih=>
  rw[Vo,Wy];by_cases e:x=g;·subst e;simp
  ·have:decide ((.inl (x:Int):Sum Int Str)=.inl (g:Int))=false:=by rw[decide_eq_false_iff_not];intro z;injection z with z;exact e (by omega)
   simp only[this];exact ih ((W4.mp h).resolve_left λz=>e z.symm)
theorem fd_none{g:Nat}(h:g∉gs):ff (qC grp gs) (.inl (g:Int))=none:=by
 unfold ff qC;have:(gs.map λ(g:Nat)=>((.inl (g:Int):Sum Int Str),P.d (nD (grp.idxOf g)))).find? (λkv=>decide (kv.1=.inl (g:Int)))=none:=by rw[Zw];intro kv pU;obtain⟨x,hx,rfl⟩:=W8.mp pU;have:x≠g:=λz=>h (z▸hx);simp;omega
 rw[this];rfl
theorem zB n(ok:dv w m)(hm:m.length<=100000)(hw:w<=1000)st:callC Fs (n+5) 1 [.d (mD m)] st=.ok (.d (.pl ((U8 m.length).map λs=>nD (fst w m s)))) st:=by
 obtain⟨st1,e1,h1⟩:=De (n+2) ok hm hw;have bK:(jd m).wait.length+(m.length+2 - (jd m).mem.length)<=m.length+2:=by simp[jd];have:=ok.ne;omega
 obtain⟨mb,st2,e2,h2⟩:=zx n ok hm hw h1 (tz ok) (K:=m.length+2) bK (by omega);obtain⟨calm,_⟩:=vJ ok;have qT:HS m w (1+w*(m.length+1)) mb st2 (iK w m):=h2;generalize hb:1+w*(m.length+1)=b at*;have gl:(iK w m).grp.length=m.length:=calm.1.qu;have UE:=qT.len
 let grp:=(iK w m).grp
 have Qv:∀k,(bG [] (grp.take k)).length < av:=λk=>by
  have h1:(bG ([]:List Nat) (grp.take k)).Nodup:=rn (by simp);have h2:=gb h1 (xs:=grp.take k) λx hx=>by
   rcases dD.mp hx with z|z;·cases z
   ·exact z
  have h3:(grp.take k).length<=grp.length:=by rw[Wp];omega
  have h4:grp.length=m.length:=gl;unfold av;omega
 obtain⟨r',sF,eF,⟨y3,y4,z1⟩,z2⟩:=yK (n:=b+1) (x:=3) (y:=4) (b:=ah (callC Fs (n+4)) jy) (xs:=grp.map λs=>P.d (nD s))
  (I:=λk r s=>(∃y3 y4,r=[some (.d (mD m)),some (.obj 0),some (.obj st2.length),y3,y4])/\s=st2++[O.dK (qC grp (bG [] (grp.take k)))])
  (λi r s ⟨_,hs⟩=>by subst hs;rw[Vf (by omega)];exact qT.grp)
  (λi p r s ⟨⟨y3,y4,er⟩,hs⟩ hp=>by
   subst er hs;rw[Vi] at hp;cases Ry:grp[i]? with
   |none=>rw[Ry] at hp;cases hp|some g=>
    rw[Ry] at hp;cases hp;have Dc:grp.take (i+1)=grp.take i++[g]:=by rw[Wq,Ry];rfl
    have Qw:bG ([]:List Nat) (grp.take (i+1))=if g∈bG [] (grp.take i) then bG [] (grp.take i) else bG [] (grp.take i)++[g]:=by rw[Dc];unfold bG;rw[XR];rfl
    have hD:(st2++[O.dK (qC grp (bG [] (grp.take i)))])[st2.length]?=some (.dK (qC grp (bG [] (grp.take i)))):=by simp
    have MS:aX (st2++[O.dK (qC grp (bG [] (grp.take i)))]) (.obj st2.length)=some (.dK (qC grp (bG [] (grp.take i)))):=by unfold aX kC;simp[gq]
    have hl:(qC grp (bG [] (grp.take i))).length < av:=by unfold qC;rw[Vg];exact Qv i
    have hk:keyOf (.d (nD g))=some (.inl (g:Int)):=rfl;have MT:∃v,pX (.obj st2.length) (.d (nD g)) (.d (.int (i:Int))) (st2++[O.dK (qC grp (bG [] (grp.take i)))])=some (v,st2++[O.dK (qC grp (bG [] (grp.take (i+1))))]):=by
     unfold pX;simp only[hD,hl,if_true,hk,VE];by_cases tH:g∈bG [] (grp.take i);·rw[Qw,if_pos tH,FW tH];exact⟨_,rfl⟩
     ·rw[Qw,if_neg tH,fd_none tH];have hni:g∉grp.take i:=λz=>tH (dD.mpr (.inr z));have hix:grp.idxOf g=i:=by
       obtain⟨Qt,UO⟩:=List.getElem?_eq_some_iff.mp Ry;have e:grp=grp.take i++[g]++grp.drop (i+1):=by rw[<-Dc,Yg]
       conv=>lhs;rw[e]
       rw[BX hni,Wp];omega
      refine⟨.d (.int (i:Int)),?_⟩;dsimp only;rw[rD (λkv pU=>by obtain⟨x,hx,rfl⟩:=W8.mp pU;intro z;injection z with z;exact tH ((show x=g by omega)▸hx))];congr 2;rw[Yh _ _ (by omega)];simp[qC,hix,nD]
    obtain⟨v,MT⟩:=MT;refine⟨[some (.d (mD m)),some (.obj 0),some (.obj st2.length),some (.d (.int (i:Int))),some (.d (nD g))],st2++[O.dK (qC grp (bG [] (grp.take (i+1))))],?_,⟨_,_,rfl⟩,rfl⟩;refine ag (mE (v:=v) (st1:=st2++[O.dK (qC grp (bG [] (grp.take (i+1))))]) ?_) ak;rw[yH];simp only[XQ,aL,Vl,Vk,Vw,aq,ae,MS,MT])
  fg (i:=0) (r:=[some (.d (mD m)),some (.obj 0),some (.obj st2.length),none,none]) (st:=st2++[O.dK []]) ⟨⟨_,_,rfl⟩,by simp[qC,bG]⟩ (WE _) (by have:grp.length=m.length:=gl;rw[Vg];unfold fg;omega)
 subst z1;rw[Vg,V9 (Vj _)] at z2;subst z2
 let G:=bG ([]:List Nat) grp
 have s0:(st2++[O.dK (qC grp G)])[0]?=some (iB b):=by rw[Vf (by omega)];exact qT.self
 have sg:(st2++[O.dK (qC grp G)])[b+1]?=some (.lst (grp.map λs=>P.d (nD s))):=by rw[Vf (by omega)];exact qT.grp
 have Qx:∀(r:bU) (s:aI) (f:P) (s':aI),aa (callC Fs (n+4)) (.ix (.var 1) (.var 0)) r s=.ok f s'->s'=s:=λr s f s' h=>by rw[fQ,aL] at h;cases h1:(r[1]?).join with|none=>rw[h1] at h;cases h|some x=>rw[h1,aq,ae,aL] at h;cases h2:(r[0]?).join with|none=>rw[h2] at h;cases h|some y=>rw[h2,aq,ae] at h;cases h3:xm x y s with|none=>rw[h3] at h;cases h|some z=>rw[h3] at h;cases h;rfl
 have eC:aU (callC Fs (n+4)) (.cn (.attr "Groups" "group_of" 1) [2] none (.ix (.var 1) (.var 0))) [some (.d (mD m)),some (.obj 0),some (.obj st2.length),y3,y4] (st2++[O.dK (qC grp G)])=.ok (grp.map λg=>P.d (nD (grp.idxOf g))) (st2++[O.dK (qC grp G)]):=by
  rw[CW,cN rfl s0 rfl,ae];dsimp only;rw[sO (xs:=grp.map λs=>P.d (nD s)) (λr s f s' h1 h2=>by rw[Fx] at h2;cases h2;exact h1) (λr s f s' h1 h2=>by rw[Qx r s f s' h2];exact h1) av 0 _ sg (by have:grp.length=m.length:=gl;rw[Vg];unfold av;omega),X5];refine mC (g:=λs=>P.d (nD s)) (f:=λg=>nD (grp.idxOf g)) (λx hx=>by simp) λx hx=>?_;have xi:x∈G:=dD.mpr (.inr hx);have hD:xm (.obj st2.length) (.d (.int (x:Int))) (st2++[O.dK (qC grp G)])=some (.d (nD (grp.idxOf x))):=by
   have MS:aX (st2++[O.dK (qC grp G)]) (.obj st2.length)=some (.dK (qC grp G)):=by unfold aX kC;simp[gq]
   unfold xm;rw[MS];show((keyOf (.d (.int (x:Int)))).map _).bind id=_;simp only[keyOf,VE,VS,id];exact FW xi
  show aa _ (.ix (.var 1) (.var 0)) [some (.d (nD x)),some (.obj st2.length)] _=_;simp only[fQ,aL,Vl,Vk,Vw,aq,ae,nD,hD]
 refine call_of qx rfl (dz (p:=.d (.pl ((U8 m.length).map λs=>nD (fst w m s)))) (st:=st2++[O.dK (qC grp G)]) rfl ?_ rfl);refine ag (aV (v:=.obj 0) (st1:=st1) ?_) ?_;·rw[Ir];simp only[ay,fm,aD,aW,aL,Vo,W9,W0,Vl,Vw,aq,ae,WK,Xq];rw[e1,ae]
 refine ag (mE (v:=.d .bq) (st1:=st2) (nU rfl h1.self rfl (ps:=[]) (st1:=st1) (by simp) e2)) ?_;refine ag (aV (v:=.obj st2.length) (st1:=st2++[O.dK []]) (by simp)) ?_;refine ag (MA (n:=b+1) (st1:=st2++[O.dK []]) (cN rfl (by rw[Vf (by omega)];exact qT.self) rfl) eF) ?_;refine aN (cT ?_);rw[dn,eC,ae,c0,aq,ae];congr 3;apply ZD;intro i;by_cases hi:i < m.length
 ·have u6:i < grp.length:=by have:grp.length=m.length:=gl;omega
  rw[Vi,Vc u6,Vi,WA hi];show some (nD (grp.idxOf grp[i]))=some (nD (fst w m i));unfold fst Qi;rw[Vd,Vc (show i < (iK w m).grp.length from u6)];rfl
 ·rw[VH (by have:grp.length=m.length:=gl;simp;omega),VH (by simp;omega)]
section
variable{α:Type}[DecidableEq α](K:Qm α){step:α->List α}{good:α->Nat}{S:List α}{start:α}
abbrev aO(ps:List α)(rows:cM):aI:=[K.t9 ps,.lst (ps.map λp=>P.d (K.enc p)),.lst ((rows.map bY).map .d)]
theorem MU(hn:ps.Nodup):kD .nA (.d (K.enc a)) (.obj 0) (aO K ps rows)=some (!decide (a∈ps)):=by
 have h1:aX (aO K ps rows) (.obj 0)=some (K.t9 ps):=by unfold aX kC;simp[K.Rt]
 show(EI (.d (K.enc a)) (.obj 0) (aO K ps rows)).map not=_;unfold EI;rw[h1];simp only[K.get ps a hn,VE];by_cases h:a∈ps<;>simp[h]
theorem AJ(hn:ps.Nodup)(ha:a∈ps):xm (.obj 0) (.d (K.enc a)) (aO K ps rows)=some (.d (nD (ps.idxOf a))):=by
 have h1:aX (aO K ps rows) (.obj 0)=some (K.t9 ps):=by unfold aX kC;simp[K.Rt]
 unfold xm;rw[h1];simp[K.get ps a hn,ha]
theorem IX(ha:a∉ps)(hl:ps.length < av):oN (.obj 0) (.d (K.enc a)) (.d (nD ps.length)) (aO K ps rows)=some ([K.t9 (ps++[a]),.lst (ps.map λp=>P.d (K.enc p)),.lst ((rows.map bY).map .d)]):=by
 have h1:yd (K.t9 ps) (.d (K.enc a)) (.d (nD ps.length))=some (K.t9 (ps++[a])):=by have hp:=K.put ps a ha hl;have hd:=K.Rt ps;unfold yd;cases e:K.t9 ps with|lst xs=>rw[e] at hd;cases hd|_=>rw[e] at hp;exact hp
 unfold oN;simp[h1]
theorem Df n(pS:bZ cS=true)(pG:bZ cG=true)(hs:start∈S)(hS:∀p∈S,∀q∈step p,q∈S)(hSl:S.length<=900000)(hlen:∀p∈S,(step p).length<=1000)(eS:∀p∈S,∀st,callC Fs n kS (.d (K.enc p)::cS) st=.ok (.d (.pl ((step p).map K.enc))) st)(eG:∀p∈S,∀st,callC Fs n kG (.d (K.enc p)::cG) st=.ok (.d (nD (good p))) st)st:
  callC Fs (n+1) 2 [.d (K.enc start),.fn kS cS,.fn kG cG] st=.ok (.d (mD (fj step good (places step 1000000 start)))) st:=by
 let F:=places step 1000000 start
 let rw_:=tB step good F
 have b0:tD step S [start] 0:=⟨by simp,λp hp=>by simp at hp;rw[hp];exact hs,by simp,λi p hi=>by omega⟩
 let r0 (y6 y7 y8:Option P):bU:=[some (.d (K.enc start)),some (.fn kS cS),some (.fn kG cG),some (.obj 0),some (.obj 1),some (.obj 2),y6,y7,y8]
 obtain⟨r',sF,eF,⟨y6,y7,y8,z1⟩,z2⟩:=oZ (c:=bV (aa (callC Fs n) (.cmp .lt (.bf .len [.var 5]) (.bf .len [.var 4])))) (b:=ah (callC Fs n) jz)
  (I:=λk r s=>(∃y6 y7 y8,r=r0 y6 y7 y8)/\∃ps j f,tD step S ps j/\xp step f ps j=F/\S.length+1<=f+j/\k=S.length - j/\s=aO K ps ((ps.take j).map rw_))
  (E:=λr s=>(∃y6 y7 y8,r=r0 y6 y7 y8)/\s=aO K F (F.map rw_))
  (λk r s ⟨⟨y6,y7,y8,h1⟩,ps,j,f,bi,Qy,hf,hk,pJ⟩=>by
   subst h1 pJ;have bl:=bi.len;have jl:=bi.le;have tl:((ps.take j).map rw_).length=j:=by rw[Vg,Wp];omega
   have l2:(aO K ps ((ps.take j).map rw_))[2]?=some (.lst ((((ps.take j).map rw_).map bY).map .d)):=rfl;have l1:(aO K ps ((ps.take j).map rw_))[1]?=some (.lst (ps.map λp=>P.d (K.enc p))):=rfl;have n2:lr .len [.obj 2] (aO K ps ((ps.take j).map rw_))=some (.d (.int (j:Int))):=by rw[iV l2];simp;omega
   have n1:lr .len [.obj 1] (aO K ps ((ps.take j).map rw_))=some (.d (.int (ps.length:Int))):=by rw[iV l1];simp
   have ec:bV (aa (callC Fs n) (.cmp .lt (.bf .len [.var 5]) (.bf .len [.var 4]))) (r0 y6 y7 y8) (aO K ps ((ps.take j).map rw_))=.ok (decide (j < ps.length)) (aO K ps ((ps.take j).map rw_)):=by
    unfold bV;simp only[fh,gz,aD,aW,aL,r0,Vl,Vk,Vw,aq,ae,n1,n2,Mw,Mv];congr 1;by_cases h:j < ps.length;·rw[decide_eq_true h,decide_eq_true (by omega)]
    ·rw[decide_eq_false h,decide_eq_false (by omega)]
   by_cases hj:j < ps.length
   ·
    obtain⟨p,hp⟩:∃p,ps[j]?=some p:=⟨ps[j],Vc hj⟩;have Rz:=bi.sub p (VC hp);obtain⟨f',rfl⟩:∃f',f=f'+1:=⟨f - 1,by omega⟩;have Qz:xp step f' (bG ps (step p)) (j+1)=F:=by rw[xp,hp] at Qy;exact Qy
    have bn:=bi.next hS hp;obtain⟨t1,et1⟩:=rA step f' (bG ps (step p)) (j+1);obtain⟨t2,et2⟩:=gD (step p) ps;have bnl:=bn.len;have loop:∀(ss qs:List α) (y8:Option P),qs.Nodup->(∀q∈qs,q∈S)->(∀q∈ss,q∈S)->∃FX,forL (gU (.nm 8)) (ah (callC Fs n) dP) ((ss.map K.enc).map .d) (r0 (some (.d (K.enc p))) (some (.d (.pl ((step p).map K.enc)))) y8) (aO K qs ((ps.take j).map rw_))
      =.ok (.nx (r0 (some (.d (K.enc p))) (some (.d (.pl ((step p).map K.enc)))) FX)) (aO K (bG qs ss) ((ps.take j).map rw_)):=by
     intro ss;induction ss with
     |nil=>intro qs y8 _ _ _;exact⟨y8,rfl⟩|cons s ss ih=>
      intro qs y8 hq UQ tp;have ql:=gb hq UQ;rw[Vo,Vo,forL,gU,aq,ae,jw];have en:=MU K (rows:=(ps.take j).map rw_) (a:=s) hq;by_cases tH:s∈qs
      ·rw[if_pos tH];obtain⟨FX,e⟩:=ih qs (some (.d (K.enc s))) hq UQ λq vU=>tp q (Vb _ vU);refine⟨FX,?_⟩;have eb:ah (callC Fs n) dP ((r0 (some (.d (K.enc p))) (some (.d (.pl ((step p).map K.enc)))) y8).set 8 (some (.d (K.enc s)))) (aO K qs ((ps.take j).map rw_))=.ok (.nx (r0 (some (.d (K.enc p))) (some (.d (.pl ((step p).map K.enc)))) (some (.d (K.enc s))))) (aO K qs ((ps.take j).map rw_)):=by refine ag (dZ (st1:=aO K qs ((ps.take j).map rw_)) ?_ ak) ak;simp only[fh,aL,r0,XQ,Vl,Vk,Vw,aq,ae,en];simp[tH]
       rw[eb,ae];exact e
      ·rw[if_neg tH];have sS:=tp s Vh;have vU:(qs++[s]).Nodup:=by rw[V5];exact⟨hq,by simp,λa ha b hb=>by simp at hb;subst hb;exact λz=>tH (z▸ha)⟩
       obtain⟨FX,e⟩:=ih (qs++[s]) (some (.d (K.enc s))) vU (λq hq2=>by
        rcases Xr.mp hq2 with z|z;·exact UQ q z
        ·simp at z;rw[z];exact sS) λq vU=>tp q (Vb _ vU)
       refine⟨FX,?_⟩;have hp1:=IX K (ps:=qs) (rows:=(ps.take j).map rw_) tH (by unfold av;omega);have nl:lr .len [.obj 1] (aO K qs ((ps.take j).map rw_))=some (.d (nD qs.length)):=by rw[iV (show(aO K qs ((ps.take j).map rw_))[1]?=some (.lst (qs.map λp=>P.d (K.enc p))) from rfl)];simp[nD]
       have eb:ah (callC Fs n) dP ((r0 (some (.d (K.enc p))) (some (.d (.pl ((step p).map K.enc)))) y8).set 8 (some (.d (K.enc s)))) (aO K qs ((ps.take j).map rw_))=.ok (.nx (r0 (some (.d (K.enc p))) (some (.d (.pl ((step p).map K.enc)))) (some (.d (K.enc s))))) (aO K (qs++[s]) ((ps.take j).map rw_)):=by
        refine ag (iw (st1:=aO K qs ((ps.take j).map rw_)) ?_ (ag (nL (x:=.obj 0) (k:=.d (K.enc s)) (v:=.d (nD qs.length)) (st1:=aO K qs ((ps.take j).map rw_)) (st2:=aO K qs ((ps.take j).map rw_)) (st3:=aO K qs ((ps.take j).map rw_)) ?_ ?_ ?_ hp1) (ag (j0 (x:=.obj 1) (v:=.d (K.enc s)) (its:=qs.map λp=>P.d (K.enc p)) (st1:=[K.t9 (qs++[s]),.lst (qs.map λp=>P.d (K.enc p)),.lst ((((ps.take j).map rw_).map bY).map .d)]) (st2:=[K.t9 (qs++[s]),.lst (qs.map λp=>P.d (K.enc p)),.lst ((((ps.take j).map rw_).map bY).map .d)]) (st3:=aO K (qs++[s]) ((ps.take j).map rw_)) ?_ rfl ?_ ?_) ak))) ak;·simp only[fh,aL,r0,XQ,Vl,Vk,Vw,aq,ae,en];simp[tH]
        ·simp only[gz,aD,aW,aL,r0,XQ,Vl,Vk,Vw,aq,ae,nl]
        ·simp[r0]
        ·simp[r0]
        ·simp[r0]
        ·simp[r0]
        ·rw[fi (n:=1) (xs:=qs.map λp=>P.d (K.enc p)) rfl (by rw[Vg];unfold av;omega)];simp[aO]
       rw[eb,ae];exact e
    obtain⟨FX,el⟩:=loop (step p) ps y8 bi.nd bi.sub (hS p Rz);have UR:bY (rw_ p)=.tup [nD (good p),.tup ((step p).map λq=>nD ((bG ps (step p)).idxOf q))]:=by show D.tup [nD (good p),wD ((step p).map λq=>F.idxOf q)]=_;unfold wD;rw[Xk];congr 4;apply Zn;intro q hq;have vU:q∈bG ps (step p):=dD.mpr (.inr hq);show nD (F.idxOf q)=_;rw[<-Qz,et1,w4 vU]
    have Dc:(bG ps (step p)).take (j+1)=ps.take j++[p]:=by rw[et2,List.take_append_of_le_length (by omega),Wq,hp];rfl
    refine .inr ⟨S.length - (j+1),by omega,by rw[ec,decide_eq_true hj],r0 (some (.d (K.enc p))) (some (.d (.pl ((step p).map K.enc)))) FX,aO K (bG ps (step p)) (((bG ps (step p)).take (j+1)).map rw_),?_,⟨_,_,_,rfl⟩,bG ps (step p),j+1,f',bn,Qz,by omega,rfl,rfl⟩;have hpx:=iy l1 (i:=j) (p:=.d (K.enc p)) (by rw[Vi,hp];rfl);refine ag (aV (v:=.d (K.enc p)) (st1:=aO K ps ((ps.take j).map rw_)) ?_) ?_;·simp only[fQ,gz,aD,aW,aL,r0,Vl,Vk,Vw,aq,ae,n2,hpx]
    refine ag (aV (v:=.d (.pl ((step p).map K.enc))) (st1:=aO K ps ((ps.take j).map rw_)) ?_) ?_;·rw[yF];simp only[r0,XQ,aD,aW,aL,Vl,Vk,Vw,aq,ae,W0,Xq];exact eS p Rz _
    refine ag (cU (ps:=((step p).map K.enc).map .d) (st1:=aO K ps ((ps.take j).map rw_)) (by simp[r0]) el) ?_;refine ag (j0 (x:=.obj 2) (v:=.d (bY (rw_ p))) (its:=(((ps.take j).map rw_).map bY).map .d) (st1:=aO K (bG ps (step p)) ((ps.take j).map rw_)) (st2:=aO K (bG ps (step p)) ((ps.take j).map rw_)) (st3:=aO K (bG ps (step p)) (((bG ps (step p)).take (j+1)).map rw_)) (by simp[r0]) rfl ?_ ?_) ak
    ·have e1:aa (callC Fs n) (.pV 2 [.var 6]) (r0 (some (.d (K.enc p))) (some (.d (.pl ((step p).map K.enc)))) FX) (aO K (bG ps (step p)) ((ps.take j).map rw_))=.ok (.d (nD (good p))) (aO K (bG ps (step p)) ((ps.take j).map rw_)):=by rw[yF];simp only[r0,aD,aW,aL,Vl,Vk,Vw,aq,ae,W0,Xq];exact eG p Rz _
     have e2:aU (callC Fs n) (.comp (.ex (.var 7)) 1 [3] none (.ix (.var 1) (.var 0))) (r0 (some (.d (K.enc p))) (some (.d (.pl ((step p).map K.enc)))) FX) (aO K (bG ps (step p)) ((ps.take j).map rw_))=.ok ((step p).map λq=>P.d (nD ((bG ps (step p)).idxOf q))) (aO K (bG ps (step p)) ((ps.take j).map rw_)):=by
      have xh:=hlen p Rz;refine dy (g:=λq=>P.d (K.enc q)) (f:=λq=>nD ((bG ps (step p)).idxOf q)) (xs:=step p) ?_ (by unfold av;omega) λq hq=>?_;·simp[r0]
      ·have:=AJ K (rows:=(ps.take j).map rw_) (a:=q) bn.nd (dD.mpr (.inr hq));show aa _ (.ix (.var 1) (.var 0)) [some (.d (K.enc q)),some (.obj 0)] _=_;simp only[fQ,aL,Vl,Vk,Vw,aq,ae,this]
     rw[UR,wO,aD,e1,ae,aD,gz,aD,dn,e2,ae,c0];simp[av]
    ·rw[Dc,VU];have hl3:((((ps.take j).map rw_).map bY).map P.d).length < av:=by rw[Vg,Vg,tl];unfold av;omega
     rw[fi (n:=2) (xs:=(((ps.take j).map rw_).map bY).map .d) rfl hl3];simp[aO]
   ·have ej:j=ps.length:=by omega
    refine .inl ⟨by rw[ec,decide_eq_false hj],⟨_,_,_,rfl⟩,?_⟩;have:F=ps:=by cases f with|zero=>exact Qy.symm|succ f=>rw[xp,VH (by omega)] at Qy;exact Qy.symm
    rw[this,ej,V9 (Vj _)])
  fg (k:=S.length - 0) (r:=r0 none none none) (st:=aO K [start] []) ⟨⟨_,_,_,rfl⟩,[start],0,1000000,b0,rfl,by omega,rfl,by simp⟩ (by unfold fg;omega)
 subst z1 z2;refine call_of qy (by simp[AN,pS,pG]) (dz (p:=.d (mD (fj step good F))) (st:=aO K F (F.map rw_)) rfl ?_ rfl);refine ag (aV (v:=.obj 0) (st1:=[K.t9 [start]]) ?_) ?_;·rw[Iw];simp only[ay,cz,aL,Vo,W9,W0,Vl,Vw,aq,ae,K.lit];rfl
 refine ag (aV (v:=.obj 1) (st1:=[K.t9 [start],.lst [.d (K.enc start)]]) (by simp[ay,cz,av])) ?_;refine ag (aV (v:=.obj 2) (st1:=[K.t9 [start],.lst [.d (K.enc start)],.lst []]) (by simp[ay,cz,av])) ?_;refine ag (BQ eF) ?_;refine aN (cT ?_);have l2:bD (aO K F (F.map rw_)) (.obj 2)=some (((F.map rw_).map bY).map .d):=rfl;simp only[gz,aD,aW,aL,r0,Vl,Vk,Vw,aq,ae,lr,l2,VS,fZ,VE];rfl
end
section
variable{w:Nat}{m:cM}(ok:dv w m)(hm:m.length<=100000)(hw:w<=1000)
include ok hm hw
theorem uG(n:Nat){p:Nat}(hp:p < m.length)(st:aI):callC Fs (n+1) 22 [.d (nD p),.d (.pl ((U8 m.length).map λs=>nD (fst w m s))),.d (mD m)] st=.ok (.d (.pl ((eA w m p).map nD))) st:=by
 refine call_of nZ rfl (dz (p:=.d (.pl ((eA w m p).map nD))) (st:=[]) rfl (aN (cT ?_)) rfl);have hl:=ok.len _ (aS hp);have eL:aU (callC Fs n) (.comp (.ex (.ix (.ix (.var 2) (.var 0)) (.cst (.int 1)))) 1 [1] none (.ix (.var 1) (.var 0))) (ay 3 [.d (nD p),.d (.pl ((U8 m.length).map λs=>nD (fst w m s))),.d (mD m)]) []=.ok ((row m p).2.map λq=>P.d (nD (fst w m q))) []:=by
  refine dy (g:=λq=>P.d (nD q)) (f:=λq=>nD (fst w m q)) (xs:=(row m p).2) ?_ (by unfold av;omega) λq hq=>?_;·have h0:om (m.map bY) (p:Int)=some (bY (row m p)):=yN hp;simp[ay,mD,nD,h0,bY,wD]
  ·have vU:=ok.lt _ (aS hp) q hq;have h1:om ((U8 m.length).map λs=>nD (fst w m s)) (q:Int)=some (nD (fst w m q)):=dN (by simp[vU]);show aa _ (.ix (.var 1) (.var 0)) [some (.d (nD q)),some (.d (.pl ((U8 m.length).map λs=>nD (fst w m s))))] _=_;simp only[fQ,aL,Vl,Vk,Vw,aq,ae,nD,Qa];simp only[nD] at h1;rw[h1];rfl
 rw[dn];show(aU (callC Fs n) _ (ay 3 _) []).bind _=_;rw[eL,ae,c0];simp[eA,Wj]
theorem xc(n:Nat){p:Nat}(hp:p < m.length)(st:aI):callC Fs (n+1) 23 [.d (nD p),.d (mD m)] st=.ok (.d (nD (gd m p))) st:=by refine call_of pd rfl (dz (p:=.d (nD (gd m p))) (st:=[]) rfl (aN (cT ?_)) rfl);exact nM hp (by simp[ay,cW]) (by simp[ay,cW,nD])
theorem mO(n:Nat)(st:aI):callC Fs (n+6) 3 [.d (mD m)] st=.ok (.d (mD (bX w m))) st:=by
 refine call_of FV rfl (dz (p:=.d (mD (bX w m))) (st:=[]) rfl ?_ rfl);have e1:=zB n ok hm hw [];refine ag (aV (v:=.d (.pl ((U8 m.length).map λs=>nD (fst w m s)))) (st1:=[]) ?_) ?_;·rw[yG];simp only[ay,nX,aD,aW,aL,Vo,W9,W0,Vl,Vw,aq,ae];show lX (callC Fs (n+5) 1) (some [.d (mD m)]) []=_;unfold lX;simp only[e1,ae]
 refine ag (My _ _) ?_;refine aN (cT ?_);have f0:om ((U8 m.length).map λs=>nD (fst w m s)) (0:Int)=some (nD (fst w m 0)):=dN (k:=0) (by simp[ok.ne]);have e2:=Df UH (n+4) (step:=eA w m) (good:=gd m) (S:=U8 m.length) (start:=fst w m 0) (kS:=22) (kG:=23) (cS:=[.d (.pl ((U8 m.length).map λs=>nD (fst w m s))),.d (mD m)]) (cG:=[.d (mD m)]) rfl rfl
  (Wi.mpr (gE ok ok.ne).1) (ze ok) (by rw[VQ];omega) (λp hp=>by rw[o6 ok p hp];exact hw)
  (λp hp st=>uG ok hm hw (n+3) (Wi.mp hp) st) (λp hp st=>xc ok hm hw (n+3) (Wi.mp hp) st) []
 rw[yG];simp only[aD,aW,fQ,aL,iu,Mx,ay,nX,XQ,Vo,W9,W0,Xq,Vt,WK,ZO,Nat.reduceSub,V4,Vl,Vk,Vw,aq,ae,Qa,f0,VE];show lX (callC Fs (n+5) 2) (List.mapM _ [P.d (nD (fst w m 0)),P.lf 22,P.lf 23]) []=_;rw[show List.mapM (conv [(22,[1,0]),(23,[0])] [some (P.d (mD m)),some (P.d (.pl ((U8 m.length).map λs=>nD (fst w m s)))),some (P.lf 22)] 3) [P.d (nD (fst w m 0)),P.lf 22,P.lf 23]
  =some [.d (nD (fst w m 0)),.fn 22 [.d (.pl ((U8 m.length).map λs=>nD (fst w m s))),.d (mD m)],.fn 23 [.d (mD m)]] from rfl]
 unfold lX;have e2':callC Fs (n+5) 2 [.d (nD (fst w m 0)),.fn 22 [.d (.pl ((U8 m.length).map λs=>nD (fst w m s))),.d (mD m)],.fn 23 [.d (mD m)]] []=.ok (.d (mD (fj (eA w m) (gd m) (places (eA w m) 1000000 (fst w m 0))))) []:=e2;simp only[e2',ae];rw[gc];rfl
end
theorem Dg n ns(k:Nat)st:callC Fs (n+1) 4 [.fV ns,.d (.int k)] st=.ok (.d (.int (cell ns k))) st:=by
 refine call_of qz rfl (dz (p:=.d (.int (cell ns k))) (st:=[]) rfl ?_ rfl);by_cases h:k < ns.length
 ·have h1:(k:Int) < (ns.length:Int):=by omega
  have h2:om ns (k:Int)=some (cell ns k):=dN (by unfold cell;rw[Vd,Vc h];rfl);exact aN (iw (st1:=[]) (by simp[ay,cA,h]) (aN (cT (by simp[ay,cA,h2]))))
 ·have h1:cell ns k=0:=by unfold cell;rw[Vd,VH (by omega)];rfl
  rw[h1];exact ag (dZ (st1:=[]) (by simp[ay,cA];omega) ak) (aN (cT (by simp)))
theorem AY n ns(k:Nat)st:callC Fs (n+2) 5 [.fV ns,.d (.int k)] st=.ok (.d (.int (mixed ns k))) st:=by
 refine call_of uC rfl (dz (p:=.d (.int (mixed ns k))) (st:=[]) rfl ?_ rfl);obtain⟨m1,m2⟩:=bE ((cell ns k+7919*k+1)*48271) (show(0:Int) < 2147483647 by decide);have c1:∀z:Int,lh .mul 7919 z=some (7919*z):=λz=>eJ (.inl (by decide));have c2:∀z:Int,lh .mul z 48271=some (z*48271):=λz=>eJ (.inr (by decide));have c3:∀z:Int,lh .mul 7 z=some (7*z):=λz=>eJ (.inl (by decide));refine ag (aV (v:=.d (.int (yL ns k))) (st1:=[]) (by simp[ay,ft,Dg,c1,c2,cL,yL])) ?_;have b: -mv < yL ns k/\yL ns k < mv:=by unfold mv yL;omega
 exact aN (cT (by simp[ay,ft,eJ,c3,cL,b,mixed]))
theorem AZ n x(k:Nat)st:callC Fs (n+1) 6 [.d (.int x),.d (.int k)] st=.ok (.d (.int (drawn x k))) st:=by
 refine call_of uD rfl (dz (p:=.d (.int (drawn x k))) (st:=[]) rfl ?_ rfl);obtain⟨m1,m2⟩:=bE ((x+104729*k+17)*69621) (show(0:Int) < 2147483647 by decide);have c1:∀z:Int,lh .mul 104729 z=some (104729*z):=λz=>eJ (.inl (by decide));have c2:∀z:Int,lh .mul z 69621=some (z*69621):=λz=>eJ (.inr (by decide));have c3:∀z:Int,lh .mul 3 z=some (3*z):=λz=>eJ (.inl (by decide));refine ag (aV (v:=.d (.int (yM x k))) (st1:=[]) (by simp[ay,fu,c1,c2,cL,yM])) ?_;have b: -mv < yM x k/\yM x k < mv:=by unfold mv yM;omega
 exact aN (cT (by simp[ay,fu,eJ,c3,cL,b,drawn]))
theorem iZ n x(k:Nat)(hz:z=(k:Int))st:callC Fs (n+1) 6 [.d (.int x),.d (.int z)] st=.ok (.d (.int (drawn x k))) st:=by rw[hz];exact AZ n x k st
theorem i0 n ns(k:Nat)(hz:z=(k:Int))st:callC Fs (n+2) 5 [.fV ns,.d (.int z)] st=.ok (.d (.int (mixed ns k))) st:=by rw[hz];exact AY n ns k st
theorem A0 n x(w c:Nat)(hw:w<=3)(hc:0 < c)(k:Nat)(h1:oO r 1=some (.d (.int (w:Int))))(hb:cK [3,0,5] r=[some (.d (.int (c:Int))),some (.d (.int x)),some (.d (.int (k:Int)))]):
  aU (callC Fs (n+1)) (.comp (.gG [.var 1]) 1 [3,0,5] none (.op .mod (.call 6 [.var 2,.op .add (.op .mul (.cst (.int 7)) (.var 3)) (.var 0)]) (.var 1))) r st
   =.ok ((U8 w).map λl=>.d (nD (drawn x (7*k+l) % (c:Int)).toNat)) st:=by
 have c1:∀z:Int,lh .mul 7 z=some (7*z):=λz=>eJ (.inl (by decide));have c2:∀z:Int,lh .mod z (c:Int)=some (z % (c:Int)):=λz=>cL (by omega);refine dy (g:=λk:Nat=>P.d (.int (k:Int))) (f:=λl=>nD (drawn x (7*k+l) % (c:Int)).toNat) ?_ (by rw[VQ];unfold av;omega) λl hl=>?_;·have h1':(r[1]?).join=some (.d (.int (w:Int))):=h1;exact bR (by rw[aL,h1',aq]) (by omega)
 ·rw[hb];have:=bE (drawn x (7*k+l)) (show(0:Int) < (c:Int) by omega);have e:=iZ n x (z:=7*(k:Int)+(l:Int)) (7*k+l) (by simp) st;have e2:((drawn x (7*k+l) % (c:Int)).toNat:Int)=drawn x (7*k+l) % (c:Int):=Int.toNat_of_nonneg this.1;simp only[jZ,lD,aD,aW,aL,iu,Vl,Vk,Vw,aq,ae,sN,c1,rl,VE,e,c2,nD,e2]
theorem vN n x(w c:Nat)(hw:w<=3)(hc:0 < c)a:∀(ks:List Nat) (ys) (u v),ys.length+ks.length<=1000->
  ∃u' v',forL (gU (.nm 5)) (ah (callC Fs (n+1)) gf) (ks.map λk:Nat=>.d (.int (k:Int))) [some (.d (.int x)),some (.d (.int (w:Int))),a,some (.d (.int (c:Int))),some (.obj 0),u,v] [.lst (ys.map .d)]
   =.ok (.nx [some (.d (.int x)),some (.d (.int (w:Int))),a,some (.d (.int (c:Int))),some (.obj 0),u',v'])
    [.lst ((ys++ks.map λk=>bY ((drawn x (7*k+5) % 3 % 2).toNat,(U8 w).map λl=>(drawn x (7*k+l) % (c:Int)).toNat)).map .d)]
 |[],ys,u,v,_=>⟨u,v,by simp[forL]⟩|k::ks,ys,u,v,hl=>by
  obtain⟨u',v',ih⟩:=vN n x w c hw hc a ks (ys++[bY ((drawn x (7*k+5) % 3 % 2).toNat,(U8 w).map λl=>(drawn x (7*k+l) % (c:Int)).toNat)]) (some (.d (.int (k:Int)))) (some (.d (wD ((U8 w).map λl=>(drawn x (7*k+l) % (c:Int)).toNat)))) (by simp at hl ⊢;omega);refine⟨u',v',?_⟩;have c1:∀z:Int,lh .mul 7 z=some (7*z):=λz=>eJ (.inl (by decide));have c2:∀z:Int,lh .mod z 3=some (z % 3):=λz=>cL (by omega);have c3:∀z:Int,lh .mod z 2=some (z % 2):=λz=>cL (by omega);have e5:=λst=>iZ n x (z:=7*(k:Int)+5) (7*k+5) (by simp) st;have r5:=bE (drawn x (7*k+5) % 3) (show(0:Int) < 2 by decide);have es:aU (callC Fs (n+1)) (.comp (.gG [.var 1]) 1 [3,0,5] none (.op .mod (.call 6 [.var 2,.op .add (.op .mul (.cst (.int 7)) (.var 3)) (.var 0)]) (.var 1))) [some (.d (.int x)),some (.d (.int (w:Int))),a,some (.d (.int (c:Int))),some (.obj 0),some (.d (.int (k:Int))),v] [.lst (ys.map .d)]
    =.ok ((U8 w).map λl=>.d (nD (drawn x (7*k+l) % (c:Int)).toNat)) [.lst (ys.map .d)]:=A0 n x w c hw hc k rfl rfl
  have Rv:ys.length < av:=by unfold av;simp at hl;omega
  rw[Vo,forL,gU,aq,ae];have e:ah (callC Fs (n+1)) gf [some (.d (.int x)),some (.d (.int (w:Int))),a,some (.d (.int (c:Int))),some (.obj 0),some (.d (.int (k:Int))),v] [.lst (ys.map .d)]
    =.ok (.nx [some (.d (.int x)),some (.d (.int (w:Int))),a,some (.d (.int (c:Int))),some (.obj 0),some (.d (.int (k:Int))),some (.d (wD ((U8 w).map λl=>(drawn x (7*k+l) % (c:Int)).toNat)))])
     [.lst ((ys++[bY ((drawn x (7*k+5) % 3 % 2).toNat,(U8 w).map λl=>(drawn x (7*k+l) % (c:Int)).toNat)]).map .d)]:=by
   refine ag (aV (v:=.d (wD ((U8 w).map λl=>(drawn x (7*k+l) % (c:Int)).toNat))) (st1:=[.lst (ys.map .d)]) ?_) ?_;·rw[gz,aD,dn,es];simp[wD,Wj]
   ·refine ag (j0 (x:=.obj 0) (v:=.d (bY ((drawn x (7*k+5) % 3 % 2).toNat,(U8 w).map λl=>(drawn x (7*k+l) % (c:Int)).toNat))) (its:=ys.map .d) (st1:=[.lst (ys.map .d)]) (st2:=[.lst (ys.map .d)]) ?_ rfl ?_ ?_) ak;·simp
    ·simp[c1,c2,c3,e5,bY,nD,Int.toNat_of_nonneg r5.1,av]
    ·simp[yc,Rv]
  rw[show([some (.d (.int x)),some (.d (.int (w:Int))),a,some (.d (.int (c:Int))),some (.obj 0),u,v]:bU).set 5 (some (.d (.int (k:Int))))=[some (.d (.int x)),some (.d (.int (w:Int))),a,some (.d (.int (c:Int))),some (.obj 0),some (.d (.int (k:Int))),v] from rfl,e,ae];dsimp only;rw[ih];simp
theorem Dh n x(w:Nat)most(c:Nat)(hw:w<=3)(hm:0 < most)(hc:1+x % most=(c:Int))(hc1:c<=900)st:
  callC Fs (n+2) 8 [.d (.int x),.d (.int (w:Int)),.d (.int most)] st=.ok (.d (mD (Gu x w c))) st:=by
 have hx:=bE x hm;have c1:∀z:Int,lh .mod z most=some (z % most):=λz=>cL hm;obtain⟨u',v',e⟩:=vN n x w c hw (by omega) (some (.d (.int most))) (U8 c) [] none none (by simp;omega);refine call_of qA rfl (dz (p:=.d (mD (Gu x w c))) (st:=[.lst (([]++(U8 c).map λk=>bY ((drawn x (7*k+5) % 3 % 2).toNat,(U8 w).map λl=>(drawn x (7*k+l) % (c:Int)).toNat)).map .d)]) rfl ?_ rfl);refine ag (aV (v:=.d (.int (c:Int))) (st1:=[]) (by simp[ay,cB,c1,hc])) ?_;refine ag (aV (v:=.obj 0) (st1:=[.lst []]) (by simp[ay,cB,av])) ?_;refine ag (cU (ps:=(U8 c).map λk:Nat=>.d (.int (k:Int))) (st1:=[.lst []]) (bR (by simp[ay,cB]) (by omega)) e) ?_;refine aN (cT ?_);simp[lr,bD,aR,mD,Gu,Wj]
theorem vO n(k:dv w m)u(hu:∀a∈u,a < w)st:callC Fs (n+1) 9 [.d (mD m),.d (wD u)] st=.ok (.d (.bl (CY m u))) st:=by refine call_of zv rfl (dz (p:=.d (.bl (CY m u))) (st:=[]) rfl ?_ rfl);obtain⟨y,e⟩:=vE (C:=callC Fs n) (st:=[]) (r:=[some (.d (mD m)),some (.d (wD u)),none,none]) (iM:=0) (iS:=2) (iL:=3) k rfl (by decide) (by decide) (by decide) (by simp) (by simp) u 0 none k.ne hu;refine ag (aV (v:=.d (.int 0)) (st1:=[]) (by simp)) ?_;refine ag (cU (ps:=(u.map nD).map .d) (st1:=[]) (by simp[ay,jS,wD]) e) ?_;refine aN (cT ?_);rw[fh,nM (m:=m) (s:=walk m 0 u) (k.walk k.ne hu) (by simp) (by simp)];simp[CY,UA]
theorem pf n x h st:callC Fs (n+1) 10 [.d x,.d (.int h)] st=.ok (.d (.bl (lM x h))) st:=by refine call_of tJ rfl (dz (p:=.d (.bl (lM x h))) (st:=[]) rfl (aN (cT ?_)) rfl);cases x with|int i=>by_cases hi:0<=i<;>simp[eB,ay,fK,lM,hi]|_=>simp[eB,ay,fK,lM]
theorem A1 n x w(hx:∀xs,x=.tup xs->xs.length<=100000/\∀y∈xs,∀ys,y=.tup ys->∀z∈ys,∀zs,z=.tup zs->zs.length<=100000)st:callC Fs (n+2) 11 [.d x,.d (.int w)] st=.ok (.d (.bl (p6 x w))) st:=by
 refine call_of mL rfl (dz (p:=.d (.bl (p6 x w))) (st:=[]) rfl ?_ rfl);cases x with
 |tup xs=>
  obtain⟨hl,hy⟩:=hx xs rfl;have body:∀y∈xs,ah (callC Fs (n+1)) cx (([some (.d (.tup xs)),some (.d (.int w)),none]:bU).set 2 (some (.d y))) []=if iz w ((xs.length:Int) - 1) y=true then .ok (.nx (([some (.d (.tup xs)),some (.d (.int w)),none]:bU).set 2 (some (.d y)))) [] else .ok (.rt (.d (.bl false))) []:=by
   intro y hyx;have ret:∀{c:E} {rest:List S} {r:bU},aa (callC Fs (n+1)) c r []=.ok (.d (.bl true)) []->ah (callC Fs (n+1)) (.ifs c [.ret (.cst (.bl false))] []::rest) r []=.ok (.rt (.d (.bl false))) []:=λh=>aN (iw h (aN (cT (by simp))));have go:∀{c:E} {rest:List S} {r:bU} {res:R Fl},aa (callC Fs (n+1)) c r []=.ok (.d (.bl false)) []->ah (callC Fs (n+1)) rest r []=res->ah (callC Fs (n+1)) (.ifs c [.ret (.cst (.bl false))] []::rest) r []=res:=λh h2=>ag (dZ h ak) h2;unfold cx;cases y with
   |tup ys=>
    match ys,hy _ hyx with
    |[],_=>simp only[iz,VY,if_false];exact ret (by simp[fK])|[a],_=>simp only[iz,VY,if_false];exact ret (by simp[fK])|a::b::c::r,_=>
     simp only[iz,VY,if_false];refine ret ?_;have:((r.length:Int)+1+1+1==2)=false:=by rw[beq_eq_false_iff_ne];omega
     simp[fK,this]
    |[a,b],hb=>
     simp only[iz];rcases Yy (lM a 1) with h1|h1
     case inr=>simp only[h1,YW,VY,if_false];exact ret (by simp[fK,pf,h1])
     case inl=>
      simp only[h1,aaz];refine go (by simp[fK,pf,h1]) ?_;cases b with
      |tup ss=>
       have tp:=hb _ rfl (.tup ss) (by simp) ss rfl;unfold wW;dsimp only;by_cases h2:(ss.length:Int)=w
       ·refine go (by simp[fK,h2]) ?_;simp only[h2,decide_true,aaz];have hc:aU (callC Fs (n+1)) (.comp (.ex (.ix (.var 2) (.cst (.int 1)))) 1 [0] (some (.not (.call 10 [.var 0,.op .sub (.bf .len [.var 1]) (.cst (.int 1))]))) (.var 0)) [some (.d (.tup xs)),some (.d (.int w)),some (.d (.tup [a,.tup ss]))] []
          =.ok ((ss.filter λs=>!lM s ((xs.length:Int) - 1)).map λs=>.d s) []:=
         wM (f:=λs=>s) (p:=λs=>!lM s ((xs.length:Int) - 1)) (by simp) (by unfold av;omega) (λs _=>by simp[cK,pf]) (λs _=>by simp)
        rcases Yy (ss.all λs=>lM s ((xs.length:Int) - 1)) with h3|h3
        case inl=>
         have e:(ss.filter λs=>!lM s ((xs.length:Int) - 1))=[]:=by rw[Xv];intro s hs;rw[W2] at h3;simp[h3 s hs]
         rw[e] at hc;simp only[h3,if_true];refine go ?_ ak;have A6:aU (callC Fs (n+1)) (.comp (.ex (.ix (.var 2) (.cst (.int 1)))) 1 [0] (some (.not (.call 10 [.var 0,.op .sub (.bf .len [.var 1]) (.cst (.int 1))]))) (.var 0)) (([some (.d (.tup xs)),some (.d (.int w)),none]:bU).set 2 (some (.d (.tup [a,.tup ss])))) []=.ok [] []:=hc;rw[fh,dn,A6];simp[av]
        case inr=>
         have e:(ss.filter λs=>!lM s ((xs.length:Int) - 1))≠[]:=by intro z;rw[Xv] at z;rw[List.all_eq_false] at h3;obtain⟨s,hs,hf⟩:=h3;exact z s hs (by simpa using hf)
         obtain⟨f0,fr,ef⟩:∃f0 fr,(ss.filter λs=>!lM s ((xs.length:Int) - 1))=f0::fr:=by cases q:(ss.filter λs=>!lM s ((xs.length:Int) - 1)) with|nil=>exact absurd q e|cons a b=>exact⟨a,b,rfl⟩
         rw[ef] at hc;simp only[h3,VY,if_false];refine ret ?_;have A6:aU (callC Fs (n+1)) (.comp (.ex (.ix (.var 2) (.cst (.int 1)))) 1 [0] (some (.not (.call 10 [.var 0,.op .sub (.bf .len [.var 1]) (.cst (.int 1))]))) (.var 0)) (([some (.d (.tup xs)),some (.d (.int w)),none]:bU).set 2 (some (.d (.tup [a,.tup ss])))) []=.ok ((f0::fr).map λs=>.d s) []:=hc;rw[fh,dn,A6];simp[av]
       ·simp only[h2,decide_false,YW,VY,if_false];exact ret (by simp[fK,h2])
      |_=>simp only[wW,VY,if_false];exact ret (by simp[fK])
   |_=>simp only[iz,VY,if_false];exact ret (by simp[fK])
  by_cases he:xs=[];·subst he;exact aN (iw (st1:=[]) (by simp[ay,bg,fK,av]) (aN (cT (by simp[p6]))))
  ·have JF:xs.isEmpty=false:=by cases xs with|nil=>exact absurd rfl he|cons a b=>rfl
   refine ag (dZ (st1:=[]) (by simp[ay,bg,fK,av,JF]) ak) ?_;obtain⟨u2,e2⟩:=BI (i:=2) (r:=[some (.d (.tup xs)),some (.d (.int w)),none]) (st:=[]) (f:=λy=>iz w ((xs.length:Int) - 1) y) (v:=.d (.bl false)) (b:=ah (callC Fs (n+1)) cx) (xs:=xs) (u:=none) body;have em:p6 (.tup xs) w=xs.all λy=>iz w ((xs.length:Int) - 1) y:=by unfold p6;simp[JF]
   rw[em];cases h3:xs.all λy=>iz w ((xs.length:Int) - 1) y with|true=>rw[h3,if_pos rfl] at e2;exact ag (cU (ps:=xs.map .d) (st1:=[]) (by simp[ay,bg]) e2) (aN (cT (by simp)))|false=>rw[h3,if_neg (by simp)] at e2;exact aN (cU (ps:=xs.map .d) (st1:=[]) (by simp[ay,bg]) e2)
 |_=>exact aN (iw (st1:=[]) (by simp[ay,bg,fK]) (aN (cT (by simp[p6]))))
section
variable{w:Nat}{m:cM}(ok:dv w m)(hn:m.length<=4000)(n:Nat)(bJ:aI)
include ok hn
theorem FY{ps:o5}(h:bF w m ps):ps.length < av:=by have:=h.len;have:m.length*m.length<=4000*4000:=Nat.mul_le_mul hn hn;unfold av;omega
theorem IY{i j:Nat}(hi:i < m.length)(hj:j < m.length){ps:o5}(hs:bF w m ps)(nV x5 x6:Option P):
  ah (callC Fs n) gM [some (.d (mD m)),nV,some (.obj bJ.length),some (.d (.int (i:Int))),some (.d (.int (j:Int))),x5,x6] (bJ++[bA ps])
   =.ok (.nx [some (.d (mD m)),nV,some (.obj bJ.length),some (.d (.int (i:Int))),some (.d (.int (j:Int))),x5,x6]) (bJ++[bA (p1 m i ps j)]):=by
 have e1:=nM (C:=callC Fs n) (r:=[some (.d (mD m)),nV,some (.obj bJ.length),some (.d (.int (i:Int))),some (.d (.int (j:Int))),x5,x6]) (st:=bJ++[bA ps]) (em:=.var 0) (es:=.var 3) hi (by simp) (by simp);have e2:=nM (C:=callC Fs n) (r:=[some (.d (mD m)),nV,some (.obj bJ.length),some (.d (.int (i:Int))),some (.d (.int (j:Int))),x5,x6]) (st:=bJ++[bA ps]) (em:=.var 0) (es:=.var 4) hj (by simp) (by simp);unfold p1;by_cases h:gd m i=gd m j;·rw[if_neg (by simpa using h)];refine ag (dZ (st1:=bJ++[bA ps]) ?_ ak) ak;rw[fh,e1,ae,e2,ae,Ft,nK,h];simp
 ·rw[if_pos h];refine ag (iw (st1:=bJ++[bA ps]) ?_ (ag (nL (v:=.d (.bl true)) (x:=.obj bJ.length) (k:=.d (.tup [nD i,nD j])) (st1:=bJ++[bA ps]) (st2:=bJ++[bA ps]) (st3:=bJ++[bA ps]) (by simp) (by simp) (by simp[nD,av]) ?_) ak)) ak
  ·rw[fh,e1,ae,e2,ae,Ft,nK];have:((gd m i:Int)==(gd m j:Int))=false:=by rw[beq_eq_false_iff_ne];omega
   simp[this]
  ·rw[yW (FH bJ _) (FY ok hn hs),FI]
theorem IZ{i j:Nat}(hi:i < m.length)(hj:j < m.length){ps:o5}(hs:bF w m ps)(hw:w<=1000)(nV x5 x6:Option P):
  ∃y6,ah (callC Fs n) gO [some (.d (mD m)),nV,some (.obj bJ.length),some (.d (.int (i:Int))),some (.d (.int (j:Int))),x5,x6] (bJ++[bA ps])
   =.ok (.nx [some (.d (mD m)),nV,some (.obj bJ.length),some (.d (.int (i:Int))),some (.d (.int (j:Int))),x5,y6]) (bJ++[bA (p2 m i ps j)]):=by
 have r1:∀(s:Nat) (v:Nat) (rr:bU) (hs:s < m.length),(rr[0]?).join=some (.d (mD m))->(rr[v]?).join=some (.d (.int (s:Int)))->aa (callC Fs n) (.ix (.ix (.var 0) (.var v)) (.cst (.int 1))) rr (bJ++[bA ps])=.ok (.d (wD (row m s).2)) (bJ++[bA ps]):=λs v rr hs h1 h2=>by simp[h1,h2,mD,yN hs,bY]
 refine⟨some (.d (.pl (((row m i).2.zip (row m j).2).map λq=>D.tup [nD q.1,nD q.2]))),?_⟩;refine ag (aV (v:=.d (.pl (((row m i).2.zip (row m j).2).map λq=>D.tup [nD q.1,nD q.2]))) (st1:=bJ++[bA ps]) ?_) ?_;·rw[dn,Ik,r1 i 3 _ hi rfl rfl,ae,r1 j 4 _ hj rfl rfl,ae,ME];simp[Wj]
 have lz:((row m i).2.zip (row m j).2).length<=av:=by rw[Zl,ok.len _ (aS hi)];unfold av;omega
 have hc:aU (callC Fs n) (.comp (.ex (.var 6)) 1 [2] none (.cmp .isin (.var 0) (.var 1))) (([some (.d (mD m)),nV,some (.obj bJ.length),some (.d (.int (i:Int))),some (.d (.int (j:Int))),x5,x6]:bU).set 6 (some (.d (.pl (((row m i).2.zip (row m j).2).map λq=>D.tup [nD q.1,nD q.2]))))) (bJ++[bA ps])
   =.ok (((row m i).2.zip (row m j).2).map λq=>.d (.bl (decide (q∈ps)))) (bJ++[bA ps]):=
  dy (g:=λq:Nat×Nat=>P.d (D.tup [nD q.1,nD q.2])) (f:=λq=>.bl (decide (q∈ps))) (by simp[Wj]) lz λq _=>by have:=IM (FH bJ (bA ps)) q.1 q.2;simp[cK,this]
 have ha:aa (callC Fs n) (.bf .any [.lst false (.comp (.ex (.var 6)) 1 [2] none (.cmp .isin (.var 0) (.var 1)))]) (([some (.d (mD m)),nV,some (.obj bJ.length),some (.d (.int (i:Int))),some (.d (.int (j:Int))),x5,x6]:bU).set 6 (some (.d (.pl (((row m i).2.zip (row m j).2).map λq=>D.tup [nD q.1,nD q.2]))))) (bJ++[bA ps])
   =.ok (.d (.bl (hit m ps i j))) (bJ++[bA ps]):=by
  rw[gz,aD,dn,hc];simp[lr,aR,hit,Wj]
 unfold p2;rcases Yy (hit m ps i j) with h|h;·rw[if_pos h];rw[h] at ha;refine ag (iw (st1:=bJ++[bA ps]) ha (ag (nL (v:=.d (.bl true)) (x:=.obj bJ.length) (k:=.d (.tup [nD i,nD j])) (st1:=bJ++[bA ps]) (st2:=bJ++[bA ps]) (st3:=bJ++[bA ps]) (by simp) (by simp) (by simp[nD,av]) ?_) ak)) ak;rw[yW (FH bJ _) (FY ok hn hs),FI]
 ·rw[if_neg (by simp[h])];rw[h] at ha;exact ag (dZ (st1:=bJ++[bA ps]) ha ak) ak
theorem Ja{i:Nat}(hi:i < m.length){ps:o5}(hs:bF w m ps)(x4 x5 x6:Option P):
  ∃y4,ah (callC Fs n) gN [some (.d (mD m)),some (.d (.int (m.length:Nat))),some (.obj bJ.length),some (.d (.int (i:Int))),x4,x5,x6] (bJ++[bA ps])
   =.ok (.nx [some (.d (mD m)),some (.d (.int (m.length:Nat))),some (.obj bJ.length),some (.d (.int (i:Int))),y4,x5,x6]) (bJ++[bA ((U8 m.length).foldl (p1 m i) ps)]):=by
 obtain⟨r',e,⟨y4,i'⟩,j'⟩:=jv (g:=gU (.nm 4)) (b:=ah (callC Fs n) gM) (enc:=λk:Nat=>P.d (.int (k:Int))) (f:=p1 m i) (S:=λps=>bJ++[bA ps]) (I:=λr=>∃y4,r=[some (.d (mD m)),some (.d (.int (m.length:Nat))),some (.obj bJ.length),some (.d (.int (i:Int))),y4,x5,x6]) (J:=bF w m) (xs:=U8 m.length)
  (λj hj s r js ⟨y4,er⟩=>by subst er;exact⟨_,_,rfl,IY ok hn n bJ hi (by simpa using hj) js _ x5 x6,⟨_,rfl⟩,FD js hi (by simpa using hj)⟩) hs ⟨x4,rfl⟩
 subst i';exact⟨y4,ag (cU (bR (by simp) (by omega)) e) ak⟩
theorem Jb{i:Nat}(hi:i < m.length){ps:o5}(hs:bF w m ps)(hw:w<=1000)(x4 x5 x6:Option P):
  ∃y4 y6,ah (callC Fs n) gP [some (.d (mD m)),some (.d (.int (m.length:Nat))),some (.obj bJ.length),some (.d (.int (i:Int))),x4,x5,x6] (bJ++[bA ps])
   =.ok (.nx [some (.d (mD m)),some (.d (.int (m.length:Nat))),some (.obj bJ.length),some (.d (.int (i:Int))),y4,x5,y6]) (bJ++[bA ((U8 m.length).foldl (p2 m i) ps)]):=by
 obtain⟨r',e,⟨y4,y6,i'⟩,j'⟩:=jv (g:=gU (.nm 4)) (b:=ah (callC Fs n) gO) (enc:=λk:Nat=>P.d (.int (k:Int))) (f:=p2 m i) (S:=λps=>bJ++[bA ps]) (I:=λr=>∃y4 y6,r=[some (.d (mD m)),some (.d (.int (m.length:Nat))),some (.obj bJ.length),some (.d (.int (i:Int))),y4,x5,y6]) (J:=bF w m) (xs:=U8 m.length)
  (λj hj s r js ⟨y4,y6,er⟩=>by subst er;obtain⟨z6,ez⟩:=IZ ok hn n bJ hi (j:=j) (by simpa using hj) js hw (some (.d (.int (m.length:Nat)))) x5 y6;exact⟨_,_,rfl,ez,⟨_,_,rfl⟩,BV ok js hi (by simpa using hj)⟩) hs ⟨x4,x6,rfl⟩
 subst i';exact⟨y4,y6,ag (cU (bR (by simp) (by omega)) e) ak⟩
theorem Jc{ps:o5}(hs:bF w m ps)(hw:w<=1000)(x3 x4 x5 x6:Option P):
  ∃y3 y4 y6,ah (callC Fs n) gQ [some (.d (mD m)),some (.d (.int (m.length:Nat))),some (.obj bJ.length),x3,x4,x5,x6] (bJ++[bA ps])
   =.ok (.nx [some (.d (mD m)),some (.d (.int (m.length:Nat))),some (.obj bJ.length),y3,y4,x5,y6]) (bJ++[bA (j8 (p2 m) m.length ps)]):=by
 obtain⟨r',e,⟨y3,y4,y6,i'⟩,j'⟩:=jv (g:=gU (.nm 3)) (b:=ah (callC Fs n) gP) (enc:=λk:Nat=>P.d (.int (k:Int))) (f:=λps i=>(U8 m.length).foldl (p2 m i) ps) (S:=λps=>bJ++[bA ps]) (I:=λr=>∃y3 y4 y6,r=[some (.d (mD m)),some (.d (.int (m.length:Nat))),some (.obj bJ.length),y3,y4,x5,y6]) (J:=bF w m) (xs:=U8 m.length)
  (λi hi s r js ⟨y3,y4,y6,er⟩=>by
   have u6:i < m.length:=by simpa using hi
   subst er;obtain⟨z4,z6,ez⟩:=Jb ok hn n bJ u6 js hw y4 x5 y6;exact⟨_,_,rfl,ez,⟨_,_,_,rfl⟩,dc js λs j hj hs=>BV ok hs u6 (by simpa using hj)⟩) hs ⟨x3,x4,x6,rfl⟩
 subst i';exact⟨y3,y4,y6,ag (cU (bR (by simp) (by omega)) e) ak⟩
theorem zC(hw:w<=1000):callC Fs (n+1) 12 [.d (mD m)] bJ=.ok (.obj bJ.length) (bJ++[bA (cu m)]):=by
 have s0:bF w m []:=⟨by simp,(λ_ h=>nomatch h),(λ_ h=>nomatch h)⟩;refine wN tK rfl rfl ?_;refine ag (aV (v:=.d (.int (m.length:Nat))) (st1:=bJ) (by simp[ay,eD,mD])) ?_;refine ag (aV (v:=.obj bJ.length) (st1:=bJ++[bA []]) (by simp[bA])) ?_;obtain⟨r1,e1,⟨y3,y4,i1⟩,j1⟩:=jv (g:=gU (.nm 3)) (b:=ah (callC Fs n) gN) (enc:=λk:Nat=>P.d (.int (k:Int))) (f:=λps i=>(U8 m.length).foldl (p1 m i) ps) (S:=λps=>bJ++[bA ps]) (I:=λr=>∃y3 y4,r=[some (.d (mD m)),some (.d (.int (m.length:Nat))),some (.obj bJ.length),y3,y4,none,none]) (J:=bF w m) (xs:=U8 m.length)
  (λi hi s r js ⟨y3,y4,er⟩=>by
   have u6:i < m.length:=by simpa using hi
   subst er;obtain⟨z4,ez⟩:=Ja ok hn n bJ u6 js y4 none none;exact⟨_,_,rfl,ez,⟨_,_,rfl⟩,dc js λs j hj hs=>FD hs u6 (by simpa using hj)⟩) (s:=[]) s0 ⟨none,none,rfl⟩
 subst i1;refine ag (cU (bR (j:=m.length) (by simp[ay,eD]) (by omega)) e1) ?_;obtain⟨r2,e2,⟨z3,z4,z5,z6,i2⟩,j2⟩:=jv (g:=gU (.nm 5)) (b:=ah (callC Fs n) gQ) (enc:=λk:Nat=>P.d (.int (k:Int))) (f:=λps _=>j8 (p2 m) m.length ps) (S:=λps=>bJ++[bA ps]) (I:=λr=>∃y3 y4 y5 y6,r=[some (.d (mD m)),some (.d (.int (m.length:Nat))),some (.obj bJ.length),y3,y4,y5,y6]) (J:=bF w m) (xs:=U8 m.length)
  (λi hi s r js ⟨y3,y4,y5,y6,er⟩=>by subst er;obtain⟨z3,z4,z6,ez⟩:=Jc ok hn n bJ js hw y3 y4 (some (.d (.int (i:Int)))) y6;exact⟨_,_,rfl,ez,⟨_,_,_,_,rfl⟩,sW (J:=bF w m) (λps i j hi hj h=>BV ok h hi hj) js⟩) (s:=j8 (p1 m) m.length []) j1 ⟨y3,y4,none,none,rfl⟩
 subst i2;refine ag (cU (bR (j:=m.length) (by simp) (by omega)) e2) ?_;exact aN (cT (by simp[cu]))
end
section
variable{w:Nat}{m:cM}(ok:dv w m)(hn:m.length<=4000)(n:Nat)
abbrev gh(o:List Nat):aI:=[.lst (o.map λk=>P.d (nD k))]
theorem ph(hl:∀s∈([]:List Nat),True)mV wV kV x5:∀(ss o) (x4),o.length+ss.length<=100000000->o.length+ss.length < av->
  ∃y4,forL (gU (.nm 4)) (ah (callC Fs n) dq) ((ss.map nD).map .d) [mV,wV,some (.obj 0),kV,x4,x5] (gh o)=.ok (.nx [mV,wV,some (.obj 0),kV,y4,x5]) (gh (iJ o ss))
 |[],o,x4,_,_=>⟨x4,rfl⟩|s::ss,o,x4,hb,vd=>by
  have e1:=IL (o:=o) (s:=s) (st:=gh o) (k:=0) rfl;rw[Vo,Vo,forL,gU,aq,ae];simp only[XQ];by_cases h:s∈o
  ·obtain⟨y4,ih⟩:=ph hl mV wV kV x5 ss o (some (.d (nD s))) (by simp at hb ⊢;omega) (by simp at vd ⊢;omega);refine⟨y4,?_⟩;have e:ah (callC Fs n) dq [mV,wV,some (.obj 0),kV,some (.d (nD s)),x5] (gh o)=.ok (.nx [mV,wV,some (.obj 0),kV,some (.d (nD s)),x5]) (gh o):=
    ag (dZ (st1:=gh o) (by simp[e1,h]) ak) ak
   rw[e,ae];have eo:iJ o (s::ss)=iJ o ss:=by unfold iJ;rw[Xs,if_pos h]
   rw[eo];exact ih
  ·obtain⟨y4,ih⟩:=ph hl mV wV kV x5 ss (o++[s]) (some (.d (nD s))) (by simp at hb ⊢;omega) (by simp at vd ⊢;omega);refine⟨y4,?_⟩;have e:ah (callC Fs n) dq [mV,wV,some (.obj 0),kV,some (.d (nD s)),x5] (gh o)=.ok (.nx [mV,wV,some (.obj 0),kV,some (.d (nD s)),x5]) (gh (o++[s])):=by
    refine ag (iw (st1:=gh o) (by simp[e1,h]) (ag (j0 (x:=.obj 0) (v:=.d (nD s)) (its:=o.map λk=>P.d (nD k)) (st1:=gh o) (st2:=gh o) (by simp) rfl (by simp) ?_) ak)) ak;have:o.length < av:=by simp at vd;omega
    simp[yc,gh,this]
   rw[e,ae];have eo:iJ o (s::ss)=iJ (o++[s]) ss:=by unfold iJ;rw[Xs,if_neg h]
   rw[eo];exact ih
include ok hn
theorem FZ{o ss:List Nat}(ho:∀s∈o,s < m.length)(tp:∀s∈ss,s < m.length)(hd:o.Nodup):(∀s∈iJ o ss,s < m.length)/\(iJ o ss).Nodup:=by
 unfold iJ;refine dc (J:=λo=>(∀s∈o,s < m.length)/\o.Nodup) ⟨ho,hd⟩ λo s hs ⟨h1,h2⟩=>?_;split;·exact⟨h1,h2⟩
 ·rename_i h;refine⟨λt ht=>?_,?_⟩
  ·rcases Xr.mp ht with z|z;·exact h1 t z
   ·rw[Wc] at z;rw[z];exact tp s hs
  ·rw[V5];exact⟨h2,by simp,λa ha b hb=>by simp at hb;subst hb;exact λz=>h (z▸ha)⟩
theorem Jd{o:List Nat}(ho:∀s∈o,s < m.length)(hd:o.Nodup):o.length<=m.length:=by
 have:=gb hd (xs:=U8 m.length) λs hs=>by simpa using ho s hs
 simpa using this
theorem vP(hw:w<=1000)(wV x5:Option P):∀(ks o:List Nat) (x3 x4:Option P),(∀s∈o,s < m.length)->o.Nodup->
  match uy m ks o with|some o'=>(∀s∈o',s < m.length)/\o'.Nodup/\∃y3 y4,forL (gU (.nm 3)) (ah (callC Fs n) bx) (ks.map λk:Nat=>.d (.int (k:Int))) [some (.d (mD m)),wV,some (.obj 0),x3,x4,x5] (gh o)=.ok (.nx [some (.d (mD m)),wV,some (.obj 0),y3,y4,x5]) (gh o')|none=>∃aJ,forL (gU (.nm 3)) (ah (callC Fs n) bx) (ks.map λk:Nat=>.d (.int (k:Int))) [some (.d (mD m)),wV,some (.obj 0),x3,x4,x5] (gh o)=.ok (.rt (.d (.bl false))) aJ
 |[],o,x3,x4,ho,hd=>⟨ho,hd,x3,x4,rfl⟩|k::ks,o,x3,x4,ho,hd=>by
  have ol:=Jd ok hn ho hd;have el:lr .len [.obj 0] (gh o)=some (.d (.int (o.length:Nat))):=by simp[lr,aX,kC,gq,bD,aR]
  simp only[uy];by_cases h:o.length<=k
  ·rw[if_pos h];refine⟨gh o,?_⟩;have e:ah (callC Fs n) bx [some (.d (mD m)),wV,some (.obj 0),some (.d (.int (k:Int))),x4,x5] (gh o)=.ok (.rt (.d (.bl false))) (gh o):=
    aN (iw (st1:=gh o) (by simp[el];omega) (aN (cT (by simp))))
   rw[Vo,forL,gU,aq,ae];simp only[XQ];rw[e,ae]
  ·rw[if_neg h];have hk:o[k]?=some (o.getD k 0):=by rw[Vd,Vc (by omega)];rfl
   have hs:o.getD k 0 < m.length:=ho _ (VC hk);have hr:=aS hs;have hlen:=ok.len _ hr;obtain⟨y4,e1⟩:=ph n (λ_ _=>trivial) (some (.d (mD m))) wV (some (.d (.int (k:Int)))) x5 (row m (o.getD k 0)).2 o x4 (by omega) (by unfold av;omega);have eix:xm (.obj 0) (.d (.int (k:Int))) (gh o)=some (.d (nD (o.getD k 0))):=by
    have:aX (gh o) (.obj 0)=none:=by simp[aX,kC,gq]
    unfold xm;rw[this];dsimp only[Lj];show(bD (gh o) (.obj 0)).bind _=_;have e2:bD (gh o) (.obj 0)=some (o.map λk=>P.d (nD k)):=rfl;rw[e2,VS];exact dN (by rw[Vi,hk];rfl)
   have e:ah (callC Fs n) bx [some (.d (mD m)),wV,some (.obj 0),some (.d (.int (k:Int))),x4,x5] (gh o)=.ok (.nx [some (.d (mD m)),wV,some (.obj 0),some (.d (.int (k:Int))),y4,x5]) (gh (iJ o (row m (o.getD k 0)).2)):=by refine ag (dZ (st1:=gh o) (by simp[el];omega) ak) ?_;refine ag (cU (ps:=((row m (o.getD k 0)).2.map nD).map .d) (st1:=gh o) ?_ e1) ak;rw[Mu];simp only[fQ,aL,iu,Vl,Vk,Vw,aq,ae,eix,nD];rw[mD,P9,yN hs];simp[bY,wD,nD]
   have a:=FZ ok hn (o:=o) (ss:=(row m (o.getD k 0)).2) ho (λs h=>ok.lt _ hr s h) hd;have ih:=vP hw wV x5 ks (iJ o (row m (o.getD k 0)).2) (some (.d (.int (k:Int)))) y4 a.1 a.2;have step:forL (gU (.nm 3)) (ah (callC Fs n) bx) ((k::ks).map λk:Nat=>.d (.int (k:Int))) [some (.d (mD m)),wV,some (.obj 0),x3,x4,x5] (gh o)
     =forL (gU (.nm 3)) (ah (callC Fs n) bx) (ks.map λk:Nat=>.d (.int (k:Int))) [some (.d (mD m)),wV,some (.obj 0),some (.d (.int (k:Int))),y4,x5] (gh (iJ o (row m (o.getD k 0)).2)):=by
    rw[Vo,forL,gU,aq,ae];simp only[XQ];rw[e,ae]
   rw[step];exact ih
end
theorem MV n{w:Nat}(hn:m.length<=4000)o y3 y4:aa (callC Fs (n+2)) (.lst false (.gG [.bf .len [.var 0]])) [some (.d (mD m)),some (.d (.int (w:Int))),some (.obj 0),y3,y4,none] (gh o)=.ok (.d (.pl ((U8 m.length).map nD))) (gh o):=by
 have e2:qp [.d (.int (m.length:Nat))]=some ((U8 m.length).map λk:Nat=>.d (.int (k:Int))):=Qd (by omega);have e1:az (callC Fs (n+2)) [.bf .len [.var 0]] [some (.d (mD m)),some (.d (.int (w:Int))),some (.obj 0),y3,y4,none] (gh o)=.ok [.d (.int (m.length:Nat))] (gh o):=by simp[mD]
 have hl:((U8 m.length).map λk:Nat=>(P.d (.int (k:Int)))).length<=av:=by rw[Vg,VQ];unfold av;omega
 rw[dn,Ij,e1,ae,e2,aq,ae,if_pos hl,ae];have:bb ((U8 m.length).map λk:Nat=>(P.d (.int (k:Int))))=some ((U8 m.length).map nD):=c0 nD _;rw[this];rfl
theorem MW{m:cM}o:kD .ne (.obj 0) (.d (.pl ((U8 m.length).map nD))) (gh o)=some (!decide (o=U8 m.length)):=by
 have f1:jN (gh o) (.obj 0)=some (.pl (o.map nD)):=by simp[jN,gh]
 show(jN (gh o) (.obj 0)).bind _=_;rw[f1,VS];show(some (D.pl ((U8 m.length).map nD))).bind _=_;rw[VS];have:qW (.pl (o.map nD)) (.pl ((U8 m.length).map nD))=some (decide (o=U8 m.length)):=by unfold qW;rw[if_pos (by simp[g9,FE]),lK,BW]
 rw[this];rfl
open Classical in
theorem zD n(ok:dv w m)(hn:m.length<=4000)(hw:w<=1000)st:callC Fs (n+3) 13 [.d (mD m),.d (.int (w:Int))] st=.ok (.d (.bl (decide (lZ w m)))) st:=by
 have em:∀st,callC Fs (n+2) 11 [.d (mD m),.d (.int (w:Int))] st=.ok (.d (.bl true)) st:=λst=>by
  rw[A1 n (mD m) w (λxs e=>by
   injection e with e;refine⟨by rw[<-e,Vg];omega,λy hy ys e2 z hz zs e3=>?_⟩;rw[<-e,W8] at hy;obtain⟨s,hs,rfl⟩:=hy;injection e2 with e2;rw[<-e2] at hz;simp only[W4,WM,or_false] at hz;rcases hz with z1|z1;·rw[z1] at e3;cases e3
   ·rw[z1] at e3;injection e3 with e3;rw[<-e3,Vg,ok.len s hs];omega) st,FC ok]
 have body:∃st1,ah (callC Fs (n+2)) eV.body (ay 6 [.d (mD m),.d (.int (w:Int))]) []=.ok (.rt (.d (.bl (decide (lZ w m))))) st1:=by
  have out:=vP ok hn (n+2) hw (some (.d (.int (w:Int)))) none (U8 m.length) [0] none none (by simpa using ok.ne) (by simp);cases ho:uy m (U8 m.length) [0] with
  |none=>
   rw[ho] at out;obtain⟨aJ,e⟩:=out;have hf:decide (lZ w m)=false:=decide_eq_false λL=>by have:=wY.mpr L.ord;rw[ho] at this;cases this
   refine⟨aJ,?_⟩;rw[hf];refine ag (dZ (st1:=[]) (by simp[ay,em]) ak) ?_;refine ag (aV (v:=.obj 0) (st1:=gh [0]) (by simp[av,nD])) ?_;exact aN (cU (bR (j:=m.length) (by simp[mD,ay]) (by omega)) e)
  |some o=>
   rw[ho] at out;obtain⟨o1,o2,y3,y4,e⟩:=out;have er:=MV n (w:=w) hn o y3 y4;have ec:=MW (m:=m) o;by_cases hr:o=U8 m.length
   ·have sc:gB m 0 1=some m.length:=wY.mp (by rw[ho,hr]);have ep:callC Fs (n+2) 12 [.d (mD m)] (gh o)=.ok (.obj 1) (gh o++[bA (cu m)]):=zC ok hn (n+1) (gh o) hw;have hd:decide (lZ w m)=decide (Red w m):=by rw[decide_eq_decide];exact⟨λL=>L.red,λR=>⟨ok,R,sc⟩⟩
    refine⟨gh o++[bA (cu m)],?_⟩;rw[hd];refine ag (dZ (st1:=[]) (by simp[ay,em]) ak) ?_;refine ag (aV (v:=.obj 0) (st1:=gh [0]) (by simp[av,nD])) ?_;refine ag (cU (bR (j:=m.length) (by simp[mD,ay]) (by omega)) e) ?_;refine ag (dZ (st1:=gh o) (by rw[fh,show aa (callC Fs (n+2)) (.var 2) [some (.d (mD m)),some (.d (.int (w:Int))),some (.obj 0),y3,y4,none] (gh o)=.ok (.obj 0) (gh o) by simp,ae,er,ae,ec];simp[hr]) ak) ?_;refine ag (aV (v:=.obj 1) (st1:=gh o++[bA (cu m)]) (by simp only[lD,aD,aW,aL,Vl,Vw,aq,ae,ep])) ?_;refine aN (cT ?_);have el:=MF (st:=gh o++[bA (cu m)]) (k:=1) (ps:=cu m) rfl;have cm:lh .mul (m.length:Int) (m.length:Int)=some ((m.length:Int)*(m.length:Int)):=eJ (.inl (by unfold mv;omega));have lm:∀st,lr .len [.d (mD m)] st=some (.d (.int (m.length:Nat))):=λst=>by rw[mD,Im,Vg]
    generalize hR:([some (.d (mD m)),some (.d (.int (w:Int))),some (.obj 0),y3,y4,none]:bU).set 5 (some (.obj 1))=r5;generalize hS:gh o++[bA (cu m)]=s5 at el;have r0:(r5[0]?).join=some (.d (mD m)):=by rw[<-hR];rfl
    have r1:(r5[5]?).join=some (.obj 1):=by rw[<-hR];rfl
    have h1:aa (callC Fs (n+2)) (.bf .len [.var 5]) r5 s5=.ok (.d (.int ((cu m).length:Nat))) s5:=by rw[gz,aD,aL,r1,aq,ae,aW,ae,ae,el,aq]
    have h2:aa (callC Fs (n+2)) (.bf .len [.var 0]) r5 s5=.ok (.d (.int (m.length:Nat))) s5:=by rw[gz,aD,aL,r0,aq,ae,aW,ae,ae,lm,aq]
    have US:(((cu m).length:Int)==(m.length:Int)*(m.length:Int) - (m.length:Int))=decide (Red w m):=by
     rw[XM,beq_iff_eq,decide_eq_true_eq,<-AR ok];have:((m.length*m.length:Nat):Int)=(m.length:Int)*(m.length:Int):=by simp
     omega
    rw[fh,h1,ae,jZ,jZ,h2,ae,h2,ae,sN,cm,VE,aq,ae,h2,ae,sN,Il,VE,aq,ae,AO,nK,US,aq,ae]
   ·have hf:decide (lZ w m)=false:=decide_eq_false λL=>by have:=wY.mpr L.ord;rw[ho] at this;injection this with this;exact hr this
    refine⟨gh o,?_⟩;rw[hf];refine ag (dZ (st1:=[]) (by simp[ay,em]) ak) ?_;refine ag (aV (v:=.obj 0) (st1:=gh [0]) (by simp[av,nD])) ?_;refine ag (cU (bR (j:=m.length) (by simp[mD,ay]) (by omega)) e) ?_;exact aN (iw (st1:=gh o) (by rw[fh,show aa (callC Fs (n+2)) (.var 2) [some (.d (mD m)),some (.d (.int (w:Int))),some (.obj 0),y3,y4,none] (gh o)=.ok (.obj 0) (gh o) by simp,ae,er,ae,ec];simp[hr]) (aN (cT (by simp))))
 obtain⟨st1,e⟩:=body;exact call_of o8 rfl (dz rfl e rfl)
def qD(w:Nat):Nat:=[0,8,5,4].getD w 0
theorem Je w:qD w<=8:=by
 match w with|0=>decide|1=>decide|2=>decide|3=>decide|w+4=>simp[qD]
theorem kY(hw:w<=3)(hk:k<=8):(fk w k).length<=6561:=by
 rw[vM]
 calc w ^ k<=3 ^ k:=Nat.pow_le_pow_left hw k
  _<=3 ^ 8:=Nat.pow_le_pow_right (by decide) hk
  _=6561:=by decide
theorem l7(hw:w<=3):∀{k},k<=8->(bN w k).length<=(k+1)*6561
 |0,_=>by simp[bN,fk]|k+1,hk=>by
  have ih:=l7 hw (k:=k) (by omega);have e:bN w (k+1)=bN w k++fk w (k+1):=by unfold bN;rw[Wn (n:=k+1),WQ];simp
  rw[e,Vy];have:=kY hw hk;omega
theorem MX{w:Nat}(hw:w<=3):om [D.int 0,.int 8,.int 5,.int 4] (w:Int)=some (.int (qD w:Nat)):=by
 rcases(by omega:w=0\/w=1\/w=2\/w=3) with h|h|h|h<;>subst h;·exact dN (k:=0) rfl
 ·exact dN (k:=1) rfl
 ·exact dN (k:=2) rfl
 ·exact dN (k:=3) rfl
theorem zE n{w:Nat}(hw:w<=3)st:callC Fs (n+1) 7 [.d (.int (w:Int))] st=.ok (.d (.pl ((bN w (qD w)).map wD))) st:=by
 let r0 (F R:List (List Nat)) (y3 y4 y5:Option P):bU:=[some (.d (.int (w:Int))),some (.d (.pl (F.map wD))),some (.d (.pl (R.map wD))),y3,y4,y5]
 have top8:=Je w;have fl:∀(l:List (List Nat)),(l.flatMap λu=>(U8 w).map λa=>u++[a]).length=l.length*w:=λl=>by induction l with|nil=>simp|cons u l ih=>rw[Yk,Vy,ih];simp[YR,Nat.add_comm]
 have UT:∀(F R:List (List Nat)) (y3 y5:Option P),R.length<=6561->(∀u∈R,u.length<=100)->∃MQ,forL (gU (.nm 5)) (ah (callC Fs n) iC) ((R.map wD).map .d) (r0 F R y3 (some (.d (.pl []))) y5) []=.ok (.nx (r0 F R y3 (some (.d (.pl ((R.flatMap λu=>(U8 w).map λa=>u++[a]).map wD)))) MQ)) []:=by
  intro F R y3 y5 hR hu;obtain⟨r',s',e,⟨MQ,z1⟩,z2⟩:=cV (g:=gU (.nm 5)) (b:=ah (callC Fs n) iC) (ps:=(R.map wD).map .d) (k:=0) (r:=r0 F R y3 (some (.d (.pl []))) y5) (st:=[])
   (I:=λk r s=>(∃y5,r=r0 F R y3 (some (.d (.pl (((R.take k).flatMap λu=>(U8 w).map λa=>u++[a]).map wD)))) y5)/\s=[])
   (λi p r s ⟨⟨y5,h1⟩,h2⟩ hp=>by
    rw[VO] at h1 ⊢;subst h1 h2;rw[Xk,Vi] at hp;cases Jf:R[i]? with
    |none=>rw[Jf] at hp;cases hp|some u=>
     rw[Jf] at hp;cases hp;obtain⟨Qt,_⟩:=List.getElem?_eq_some_iff.mp Jf;have hul:=hu u (VC Jf);have Dc:R.take (i+1)=R.take i++[u]:=by rw[Wq,Jf];rfl
     refine⟨_,r0 F R y3 (some (.d (.pl (((R.take (i+1)).flatMap λu=>(U8 w).map λa=>u++[a]).map wD)))) (some (.d (wD u))),[],rfl,?_,⟨_,rfl⟩,rfl⟩;refine ag (aV (v:=.d (.pl (((R.take (i+1)).flatMap λu=>(U8 w).map λa=>u++[a]).map wD))) (st1:=[]) ?_) ak;have eL:aU (callC Fs n) (.comp (.gG [.var 0]) 1 [5] none (.op .add (.var 1) (.tup [.var 0]))) (r0 F R y3 (some (.d (.pl (((R.take i).flatMap λu=>(U8 w).map λa=>u++[a]).map wD)))) (some (.d (wD u)))) []=.ok ((U8 w).map λa=>P.d (wD (u++[a]))) []:=by
      refine dy (g:=λk:Nat=>P.d (.int (k:Int))) (f:=λa=>wD (u++[a])) (bR (by simp[r0]) (by omega)) (by rw[VQ];unfold av;omega) λa ha=>?_;show aa _ (.op .add (.var 1) (.tup [.var 0])) [some (.d (.int (a:Int))),some (.d (wD u))] []=_;have h3:u.length<=16777215:=by omega
      simp[wD,nD,av,h3]
     show aa _ (.op .add (.var 4) (.lst false _)) (r0 F R y3 _ (some (.d (wD u)))) []=_;have e4:aa (callC Fs n) (.var 4) (r0 F R y3 (some (.d (.pl (((R.take i).flatMap λu=>(U8 w).map λa=>u++[a]).map wD)))) (some (.d (wD u)))) []=.ok (.d (.pl (((R.take i).flatMap λu=>(U8 w).map λa=>u++[a]).map wD))) []:=by simp[r0]
     rw[jZ,e4,ae,dn,eL,ae,c0];have h4:((R.take i).flatMap λu=>(U8 w).map λa=>u++[a]).length+w<=av:=by rw[fl,Wp];have:min i R.length*w<=6561*3:=Nat.mul_le_mul (by omega) hw;unfold av;omega
     simp only[aL,r0,Vl,Vk,Vw,aq,ae,Fq,Vg,VQ];rw[if_pos h4,Dc,WQ];simp[Wj]) ⟨⟨y5,by simp⟩,rfl⟩
  subst z1 z2;rw[Vg,Vg,VO,V9 (Vj _)] at e;exact⟨MQ,e⟩
 obtain⟨r',s',e,⟨y3,y4,y5,z1⟩,z2⟩:=cV (g:=gU (.nm 3)) (b:=ah (callC Fs n) kR) (ps:=(U8 (qD w)).map λk:Nat=>P.d (.int (k:Int))) (k:=0) (r:=r0 [[]] [[]] none none none) (st:=[])
  (I:=λk r s=>(∃y3 y4 y5,r=r0 (bN w k) (fk w k) y3 y4 y5)/\s=[])
  (λi p r s ⟨⟨y3,y4,y5,h1⟩,h2⟩ hp=>by
   rw[VO] at h1 ⊢;subst h1 h2;have hi:i < qD w:=by
    rw[Vi] at hp;by_cases z:i < qD w;·exact z
    ·rw[VH (by simpa using z)] at hp;cases hp
   rw[Vi,WA hi] at hp;cases hp;have e1:bN w (i+1)=bN w i++fk w (i+1):=by unfold bN;rw[Wn (n:=i+1),WQ];simp
   obtain⟨MQ,el⟩:=UT (bN w i) (fk w i) (some (.d (.int (i:Int)))) y5 (kY hw (by omega)) (λu hu=>by rw[(lF.mp hu).2];omega);refine⟨_,r0 (bN w (i+1)) (fk w (i+1)) (some (.d (.int (i:Int)))) (some (.d (.pl ((fk w (i+1)).map wD)))) MQ,[],rfl,?_,⟨_,_,_,rfl⟩,rfl⟩;refine ag (aV (v:=.d (.pl [])) (st1:=[]) (by simp)) ?_;refine ag (cU (ps:=((fk w i).map wD).map .d) (st1:=[]) (by simp[r0]) el) ?_;refine ag (aV (v:=.d (.pl ((fk w (i+1)).map wD))) (st1:=[]) (by simp[r0,fk])) ?_;refine ag (aV (v:=.d (.pl ((bN w (i+1)).map wD))) (st1:=[]) ?_) ak;have l1:=kY (k:=i+1) hw (by omega);have l2:=l7 (k:=i) hw (by omega);have l3:(bN w i).length+(fk w (i+1)).length<=av:=by have:(i+1)*6561<=8*6561:=Zg _ (by omega);unfold av;omega
   simp only[jZ,aL,r0,XQ,Vl,Vk,Vw,aq,ae,Fq,Vg];rw[if_pos l3,e1,VU];rfl) ⟨⟨none,none,none,rfl⟩,rfl⟩
 subst z1 z2;rw[Vg,VQ,VO] at e;refine call_of uE rfl (dz (p:=.d (.pl ((bN w (qD w)).map wD))) (st:=[]) rfl ?_ rfl);refine ag (aV (v:=.d (.pl [wD []])) (st1:=[]) (by simp[ay,dQ,av,wD])) ?_;refine ag (aV (v:=.d (.pl [wD []])) (st1:=[]) (by simp[ay,dQ,av,wD])) ?_;refine ag (cU (ps:=(U8 (qD w)).map λk:Nat=>P.d (.int (k:Int))) (st1:=[]) (bR ?_ (by omega)) e) ?_;·have:=MX hw;simp[ay,dQ,av,this]
 ·exact aN (cT (by simp[r0]))
section
variable{w:Nat}{m:cM}(ok:dv w m)(hm:m.length<=100)(hw:w<=3)
include ok hm hw
theorem A2(n:Nat)(x:Int)(st:aI):callC Fs (n+2) 14 [.d (mD m),.d (.int x)] st=.ok (.d (mD (Gv x m))) st:=by
 have ne:=ok.ne
 let r0 (pl:List Nat) (y4 y5:Option P):bU:=[some (.d (mD m)),some (.d (.int x)),some (.d (.int (m.length:Int))),some (.d (.pl (pl.map nD))),y4,y5,none,none]
 obtain⟨r1,s1,e1,⟨y4,y5,z1⟩,z2⟩:=cV (g:=gU (.nm 4)) (b:=ah (callC Fs (n+1)) kT) (ps:=(U8 (m.length - 1)).map λk:Nat=>P.d (.int ((1+k:Nat):Int))) (k:=0) (r:=r0 [0] none none) (st:=[])
  (I:=λk r s=>(∃y4 y5,r=r0 (qw x k) y4 y5)/\s=[])
  (λi p r s ⟨⟨y4,y5,h1⟩,h2⟩ hp=>by
   rw[VO] at h1 ⊢;subst h1 h2;have hi:i < m.length - 1:=by
    rw[Vi] at hp;by_cases z:i < m.length - 1;·exact z
    ·rw[VH (by simpa using z)] at hp;cases hp
   rw[Vi,WA hi] at hp;cases hp;have hl:=lE x i
   let a:=1+(drawn x (i+1) % ((i+1:Nat):Int)).toNat
   have hmr:=bE (drawn x (i+1)) (show(0:Int) < ((i+1:Nat):Int) by omega);have ha:a<=(qw x i).length:=by show 1+_<=_;omega
   have ed:=iZ n x (z:=((1+i:Nat):Int)) (i+1) (by omega) [];refine⟨_,r0 (qw x (i+1)) (some (.d (.int ((1+i:Nat):Int)))) (some (.d (.int (a:Int)))),[],rfl,?_,⟨_,_,rfl⟩,rfl⟩;refine ag (aV (v:=.d (.int (a:Int))) (st1:=[]) ?_) ?_;·have c2:lh .mod (drawn x (i+1)) ((i+1:Nat):Int)=some (drawn x (i+1) % ((i+1:Nat):Int)):=cL (by omega);simp only[jZ,iu,lD,gz,aD,aW,aL,r0,XQ,Vl,Vk,Vw,aq,ae,ed,Io,Vg,hl,sN,c2,VE,rl];congr 3;show _=((1+(drawn x (i+1) % ((i+1:Nat):Int)).toNat:Nat):Int);omega
   ·refine ag (aV (v:=.d (.pl ((qw x (i+1)).map nD))) (st1:=[]) ?_) ak;have l1:a<=((qw x i).map nD).length:=by rw[Vg];exact ha
    have e1:=Qn (st:=[]) l1;have e2:=IW (st:=[]) l1;have l2:((qw x i).map nD).length=i+1:=by rw[Vg];exact hl
    have q1:(((qw x i).map nD).take a).length+1<=av:=by rw[Wp];unfold av;omega
    have q2:(((qw x i).map nD).take a++[D.int ((1+i:Nat):Int)]).length+(((qw x i).map nD).drop a).length<=av:=by rw[Vy,Wp,ZW];unfold av;simp;omega
    have q3:(1:Nat)<=av:=by decide
    simp only[jZ,Fi,Fm,Fo,dn,kK,aD,aW,aL,r0,XQ,Vl,Vk,Vw,aq,ae,e1,e2,Vt,WK,VO,q3,if_true,BO,Fu,VE,Fq,q1,q2];congr 3;show _=(qa (qw x i) a (i+1)).map nD;unfold qa;rw[VU,VU,aax,aay];simp[nD,Int.add_comm]) ⟨⟨none,none,rfl⟩,rfl⟩
 subst z1 z2;rw[Vg,VQ,VO] at e1
 let F:=qw x (m.length - 1)
 let rw_:=tB (λo=>(row m o).2) (gd m) F
 have hF:∀p∈F,p < m.length:=λp hp=>by have:=(nW x).mp hp;omega
 have Fl:F.length=m.length:=by show(qw x _).length=_;rw[lE];omega
 let r2 (y7:Option P):bU:=[some (.d (mD m)),some (.d (.int x)),some (.d (.int (m.length:Int))),some (.d (.pl (F.map nD))),y4,y5,some (.obj 0),y7]
 obtain⟨r3,s3,e3,⟨y7,z3⟩,z4⟩:=cV (g:=gU (.nm 7)) (b:=ah (callC Fs (n+1)) kU) (ps:=(F.map nD).map .d) (k:=0) (r:=r2 none) (st:=[O.lst []])
  (I:=λk r s=>(∃y7,r=r2 y7)/\s=[O.lst ((((F.take k).map rw_).map bY).map .d)])
  (λi p r s ⟨⟨y7,h1⟩,h2⟩ hp=>by
   rw[VO] at h2 ⊢;subst h1 h2;rw[Xk,Vi] at hp;cases Gw:F[i]? with
   |none=>rw[Gw] at hp;cases hp|some o=>
    rw[Gw] at hp;cases hp;obtain⟨Qt,_⟩:=List.getElem?_eq_some_iff.mp Gw;have hoF:=VC Gw;have ho:=hF o hoF;have hlo:=ok.len _ (aS ho);have Dc:F.take (i+1)=F.take i++[o]:=by rw[Wq,Gw];rfl
    have h0:om (m.map bY) (o:Int)=some (bY (row m o)):=yN ho;generalize hS:([O.lst ((((F.take i).map rw_).map bY).map .d)]:aI)=S at*;have eL:aU (callC Fs (n+1)) (.comp (.ex (.ix (.ix (.var 0) (.var 7)) (.cst (.int 1)))) 1 [3] none (.index (.var 1) (.var 0))) (r2 (some (.d (nD o)))) S=.ok ((row m o).2.map λq=>P.d (nD (F.idxOf q))) S:=by
     refine dy (g:=λq=>P.d (nD q)) (f:=λq=>nD (F.idxOf q)) (xs:=(row m o).2) ?_ (by unfold av;omega) λq hq=>?_;·simp[r2,mD,nD,h0,bY,wD]
     ·have Qh:q∈F:=FU ok x o hoF q hq;have:=FR (st:=S) Qh;show aa _ (.index (.var 1) (.var 0)) [some (.d (nD q)),some (.d (.pl (F.map nD)))] S=_;rw[Fj];simp only[aL,Vl,Vk,Vw,aq,ae,aR,nD];simp only[nD] at this;rw[this,aq]
    refine⟨_,r2 (some (.d (nD o))),[O.lst ((((F.take (i+1)).map rw_).map bY).map .d)],rfl,?_,⟨_,rfl⟩,rfl⟩;refine ag (j0 (x:=.obj 0) (v:=.d (bY (rw_ o))) (its:=(((F.take i).map rw_).map bY).map .d) (st1:=S) (st2:=S) ?_ (by rw[<-hS];rfl) ?_ ?_) ak;·simp[r2]
    ·show aa _ _ (r2 (some (.d (nD o)))) S=_;rw[wO,aD,nM ho (by simp[r2]) (by simp[r2,nD]),ae,aD,gz,aD,dn,eL,ae,c0];simp[av,rw_,tB,bY,wD,nD,Wj]
    ·rw[<-hS,fi (n:=0) (xs:=(((F.take i).map rw_).map bY).map .d) rfl (by simp[av];omega)];simp[Dc]) ⟨⟨none,rfl⟩,by simp⟩
 subst z3 z4;rw[Vg,Vg,VO,V9 (Vj _)] at e3;refine call_of uF rfl (dz (p:=.d (mD (Gv x m))) (st:=[O.lst (((F.map rw_).map bY).map .d)]) rfl ?_ rfl);refine ag (aV (v:=.d (.int (m.length:Int))) (st1:=[]) (by simp[ay,fw,mD])) ?_;refine ag (aV (v:=.d (.pl [nD 0])) (st1:=[]) (by simp[av,nD])) ?_;refine ag (cU (ps:=(U8 (m.length - 1)).map λk:Nat=>P.d (.int ((1+k:Nat):Int))) (st1:=[]) (zo (i:=1) (j:=m.length) (by simp) (by simp[ay,fw]) (by omega) (by omega)) e1) ?_;refine ag (aV (v:=.obj 0) (st1:=[O.lst []]) (by simp[av])) ?_;refine ag (cU (ps:=(F.map nD).map .d) (st1:=[O.lst []]) (by simp[r0,F]) e3) ?_;refine aN (cT ?_);have l2:bD ([O.lst (((F.map rw_).map bY).map .d)]:aI) (.obj 0)=some (((F.map rw_).map bY).map .d):=rfl;simp only[gz,aD,aW,aL,r2,Vl,Vk,Vw,aq,ae,lr,l2,VS,fZ,VE];rfl
theorem xf(n:Nat)(x:Int)(st:aI):callC Fs (n+2) 15 [.d (mD m),.d (.int x)] st=.ok (.d (mD (C7 x m))) st:=by
 have ne:=ok.ne
 let tw:=twin x m
 have hmr:=bE x (show(0:Int) < (m.length:Int) by omega);have htw:((tw:Nat):Int)=x % (m.length:Int):=by show((x % (m.length:Int)).toNat:Int)=_;omega
 have tl:tw < m.length:=by omega
 let M2:=m++[row m tw]
 have RA:M2.length=m.length+1:=by simp[M2]
 let r2 (y5 y6 y7 y8 y9:Option P):bU:=[some (.d (mD m)),some (.d (.int x)),some (.d (nD m.length)),some (.d (nD tw)),some (.obj 0),y5,y6,y7,y8,y9]
 have QA:∀k,k < m.length+1->(row M2 k)∈m:=λk hk=>by
  have:row M2 k∈M2:=aS (by rw[RA];exact hk);rcases Xr.mp this with z|z;·exact z
  ·rw[Wc] at z;rw[z];exact aS tl
 obtain⟨r3,s3,e3,⟨y5,y6,y7,y8,y9,z3⟩,more,z4⟩:=cV (g:=gU (.two 5 6)) (b:=ah (callC Fs (n+1)) jB) (ps:=dg 0 (M2.map bY)) (k:=0) (r:=r2 none none none none none) (st:=[O.lst []])
  (I:=λk r s=>(∃y5 y6 y7 y8 y9,r=r2 y5 y6 y7 y8 y9)/\∃more:aI,s=O.lst ((((U8 k).map (Dv x m)).map bY).map .d)::more)
  (λi p r s ⟨⟨y5,y6,y7,y8,y9,h1⟩,more,h2⟩ hp=>by
   rw[VO] at h2 ⊢;subst h1 h2;rw[jr,Vi] at hp;have hi:i < m.length+1:=by
    by_cases z:i < m.length+1;·exact z
    ·rw[VH (by rw[RA];omega)] at hp;simp at hp
   rw[wR (show i < M2.length by rw[RA];exact hi)] at hp;simp only[VE,Yi,VO] at hp;subst hp;have hl:=ok.len _ (QA i hi)
   let A:O:=O.lst ((((U8 i).map (Dv x m)).map bY).map .d)
   let L:=(A::more).length
   let ss:=(row M2 i).2
   obtain⟨r4,s4,e4,⟨FX,y9',z5⟩,z6⟩:=cV (g:=gU (.two 8 9)) (b:=ah (callC Fs (n+1)) jA) (ps:=dg 0 (ss.map nD)) (k:=0) (r:=r2 (some (.d (nD i))) (some (.d (bY (row M2 i)))) (some (.obj L)) y8 y9) (st:=A::more++[O.lst []])
    (I:=λk r s=>(∃y8 y9,r=r2 (some (.d (nD i))) (some (.d (bY (row M2 i)))) (some (.obj L)) y8 y9)/\s=A::more++[O.lst (((ss.zipIdx.take k).map λq=>P.d (nD (xq x m i q.2 q.1))))])
    (λj p r s ⟨⟨y8,y9,h1⟩,h2⟩ hp=>by
     rw[VO] at h2 ⊢;subst h1 h2;rw[jr,Vi] at hp;cases RB:ss[j]? with
     |none=>rw[RB] at hp;cases hp|some t=>
      rw[RB] at hp;simp only[VE,Yi,VO] at hp;subst hp;have OO:j < ss.length:=(List.getElem?_eq_some_iff.mp RB).1;have Dc:ss.zipIdx.take (j+1)=ss.zipIdx.take j++[(t,j)]:=by rw[Wq,List.getElem?_zipIdx,RB];simp
      generalize hS:(A::more++[O.lst ((ss.zipIdx.take j).map λq=>P.d (nD (xq x m i q.2 q.1)))]:aI)=S at*;have gL:S[L]?=some (O.lst ((ss.zipIdx.take j).map λq=>P.d (nD (xq x m i q.2 q.1)))):=by rw[<-hS];simp[L]
      have sL:∀o,S.set L o=A::more++[o]:=λo=>by rw[<-hS,Yh _ _ (Vj _)];simp[L]
      have ed:=iZ n x (z:=9*(i:Int)+(j:Int)) (9*i+j) (by simp) S;have c1:lh .mul 9 (i:Int)=some (9*(i:Int)):=eJ (.inl (by decide));have c2:lh .mod (drawn x (9*i+j)) 2=some (drawn x (9*i+j) % 2):=cL (by decide);have fin:∀(y9:Nat),y9=xq x m i j t->ah (callC Fs (n+1)) [.app (.var 7) (.var 9)] (r2 (some (.d (nD i))) (some (.d (bY (row M2 i)))) (some (.obj L)) (some (.d (nD j))) (some (.d (nD y9)))) S=.ok (.nx (r2 (some (.d (nD i))) (some (.d (bY (row M2 i)))) (some (.obj L)) (some (.d (nD j))) (some (.d (nD y9))))) (A::more++[O.lst ((ss.zipIdx.take (j+1)).map λq=>P.d (nD (xq x m i q.2 q.1)))]):=λy9 hy=>by refine ag (j0 (x:=.obj L) (v:=.d (nD y9)) (its:=(ss.zipIdx.take j).map λq=>P.d (nD (xq x m i q.2 q.1))) (st1:=S) (st2:=S) (by simp[r2]) (iU gL) (by simp[r2]) ?_) ak;rw[fi gL (by rw[Vg,Wp,List.length_zipIdx,show ss.length=w from hl];unfold av;omega),sL,Dc,VU,hy];rfl
      by_cases hc:t=tw/\drawn x (9*i+j) % 2=1
      ·refine⟨_,r2 (some (.d (nD i))) (some (.d (bY (row M2 i)))) (some (.obj L)) (some (.d (nD j))) (some (.d (nD m.length))),_,rfl,?_,⟨_,_,rfl⟩,rfl⟩;refine ag (iw (st1:=S) ?_ (ag (aV (v:=.d (nD m.length)) (st1:=S) (by simp[r2])) ak)) (fin m.length ?_);·show aa _ _ (r2 (some (.d (nD i))) (some (.d (bY (row M2 i)))) (some (.obj L)) (some (.d (nD j))) (some (.d (nD t)))) S=_;simp only[Fh,BL,BK,fh,jZ,lD,iu,aD,aW,aL,r2,nD,Vl,Vk,Vw,aq,ae,AO,nK,sN,c1,VE,rl,ed,c2];simp[hc.1,hc.2]
       ·unfold xq;rw[if_pos hc]
      ·refine⟨_,r2 (some (.d (nD i))) (some (.d (bY (row M2 i)))) (some (.obj L)) (some (.d (nD j))) (some (.d (nD t))),_,rfl,?_,⟨_,_,rfl⟩,rfl⟩;refine ag (dZ (st1:=S) ?_ ak) (fin t ?_)
       ·show aa _ _ (r2 (some (.d (nD i))) (some (.d (bY (row M2 i)))) (some (.obj L)) (some (.d (nD j))) (some (.d (nD t)))) S=_;simp only[Fh,BL,BK,fh,jZ,lD,iu,aD,aW,aL,r2,nD,Vl,Vk,Vw,aq,ae,AO,nK,sN,c1,VE,rl,ed,c2];by_cases h1:t=tw;·have h2:¬drawn x (9*i+j) % 2=1:=λz=>hc ⟨h1,z⟩;simp[h1,h2]
        ·have h2:((t:Int)==(tw:Int))=false:=by rw[beq_eq_false_iff_ne];omega
         simp[h2]
       ·unfold xq;rw[if_neg hc]) ⟨⟨_,_,rfl⟩,by simp⟩
   subst z5 z6;rw[jt,Vg,VO,V9 (by simp)] at e4;have eR:bY (Dv x m i)=.tup [nD (row M2 i).1,.tup ((ss.zipIdx).map λq=>nD (xq x m i q.2 q.1))]:=by unfold Dv bY wD;simp[ss,M2,tw,Wj]
   generalize hS:(A::more++[O.lst (ss.zipIdx.map λq=>P.d (nD (xq x m i q.2 q.1)))]:aI)=S at*;have gL:S[L]?=some (O.lst (ss.zipIdx.map λq=>P.d (nD (xq x m i q.2 q.1)))):=by rw[<-hS];simp[L]
   have g0:S[0]?=some A:=by rw[<-hS];rfl
   refine⟨_,r2 (some (.d (nD i))) (some (.d (bY (row M2 i)))) (some (.obj L)) FX y9',S.set 0 (O.lst ((((U8 (i+1)).map (Dv x m)).map bY).map .d)),rfl,?_,⟨_,_,_,_,_,rfl⟩,more++[O.lst (ss.zipIdx.map λq=>P.d (nD (xq x m i q.2 q.1)))],by rw[<-hS];rfl⟩;refine ag (aV (v:=.obj L) (st1:=A::more++[O.lst []]) (by simp[av,L,A])) ?_;refine ag (cU (ps:=dg 0 (ss.map nD)) (st1:=A::more++[O.lst []]) (by simp[r2,bY,wD,ss]) e4) ?_;refine ag (j0 (x:=.obj 0) (v:=.d (bY (Dv x m i))) (its:=(((U8 i).map (Dv x m)).map bY).map .d) (st1:=S) (st2:=S) (by simp[r2]) (iU g0) ?_ ?_) ak
   ·have l2:bD S (.obj L)=some (ss.zipIdx.map λq=>P.d (nD (xq x m i q.2 q.1))):=by unfold bD aR;simp[gL]
    rw[eR];simp[r2,bY,lr,l2,av,c0]
   ·rw[fi g0 (by simp[av];omega),Wn];simp) ⟨⟨none,none,none,none,none,rfl⟩,[],by simp⟩
 subst z3;rw[jt,Vg,RA,VO] at z4;subst z4;refine call_of qB rfl (dz (p:=.d (mD (C7 x m))) (st:=O.lst ((((U8 (m.length+1)).map (Dv x m)).map bY).map .d)::more) rfl ?_ rfl);have h0:om (m.map bY) (tw:Int)=some (bY (row m tw)):=yN tl;have c1:lh .mod x (m.length:Int)=some (tw:Int):=by rw[cL (by omega),htw]
 refine ag (aV (v:=.d (nD m.length)) (st1:=[]) (by simp[ay,cC,mD,nD])) ?_;refine ag (aV (v:=.d (nD tw)) (st1:=[]) (by simp[ay,cC,nD,c1])) ?_;refine ag (aV (v:=.obj 0) (st1:=[O.lst []]) (by simp[av])) ?_;refine ag (cU (ps:=dg 0 (M2.map bY)) (st1:=[O.lst []]) ?_ e3) ?_
 ·have:m.length+1<=av:=by unfold av;omega
  simp only[Fp,jZ,wO,fQ,aD,aW,ay,cC,aL,XQ,Vo,W9,W0,Xq,Vt,WK,ZO,Nat.reduceSub,V4,Vl,Vk,Vw,aq,ae,mD,P9,nD,h0,VE];simp[av] at this ⊢;simp[this,M2]
 refine aN (cT ?_);have l2:bD (O.lst ((((U8 (m.length+1)).map (Dv x m)).map bY).map .d)::more) (.obj 0)=some ((((U8 (m.length+1)).map (Dv x m)).map bY).map .d):=rfl;simp only[gz,aD,aW,aL,r2,Vl,Vk,Vw,aq,ae,lr,l2,VS,fZ,VE];rfl
end
theorem MY{k w:Nat}(h1:1<=w)(h3:w<=3):ya .mul (.d (.tup [nD k])) (.d (.int (w:Int))) st=some (.d (wD (V4 w k))):=by
 rcases(by omega:w=1\/w=2\/w=3) with h|h|h<;>subst h;·exact P7 _
 ·exact(P6 _).trans rfl
 ·exact(P8 _).trans rfl
theorem MZ(ok:dv w m)(hm:m.length<=100)(h1:1<=w)(h3:w<=3)sV kV:aa (callC Fs 59) (.op .add (.var 2) (.bf .tuple [.lst false (.comp (.gG [.op .add (.cst (.int 1)) (.op .mod (.bf .len [.var 2]) (.cst (.int 3)))]) 1 [1] none (.tup [.op .mod (.var 0) (.cst (.int 2)),.op .mul (.tup [.var 0]) (.var 1)]))])) [sV,some (.d (.int (w:Int))),some (.d (mD m)),kV,none,none,none] []=.ok (.d (mD (C8 w m))) []:=by
 have eL:aU (callC Fs 59) (.comp (.gG [.op .add (.cst (.int 1)) (.op .mod (.bf .len [.var 2]) (.cst (.int 3)))]) 1 [1] none (.tup [.op .mod (.var 0) (.cst (.int 2)),.op .mul (.tup [.var 0]) (.var 1)])) [sV,some (.d (.int (w:Int))),some (.d (mD m)),kV,none,none,none] []
   =.ok ((U8 (1+m.length % 3)).map λk=>P.d (bY (k % 2,V4 w k))) []:=by
  refine dy (g:=λk:Nat=>P.d (.int (k:Int))) (f:=λk=>bY (k % 2,V4 w k)) (bR ?_ (by omega)) (by rw[VQ];unfold av;omega) λk hk=>?_;·have c3:lh .mod (m.length:Int) 3=some ((m.length:Int) % 3):=cL (by decide);simp[mD,c3]
  ·have c3:lh .mod (k:Int) 2=some ((k % 2:Nat):Int):=by rw[cL (by decide)];simp
   have hr:=MY (k:=k) (st:=[]) h1 h3;simp only[nD] at hr;show aa _ (.tup [.op .mod (.var 0) (.cst (.int 2)),.op .mul (.tup [.var 0]) (.var 1)]) [some (.d (.int (k:Int))),some (.d (.int (w:Int)))] []=_;have q2:(2:Nat)<=av:=by decide
   have q1:(1:Nat)<=av:=by decide
   simp only[wO,aD,aW,jZ,aL,iu,Vl,Vk,Vw,aq,ae,sN,c3,VE,Vt,WK,VO,ZO,q1,q2,if_true,BO,Fu,hr];rfl
 have e2:aa (callC Fs 59) (.var 2) [sV,some (.d (.int (w:Int))),some (.d (mD m)),kV,none,none,none] []=.ok (.d (mD m)) []:=by simp
 rw[jZ,e2,ae,gz,aD,dn,eL,ae,c0];have q:m.length+(1+m.length % 3)<=av:=by unfold av;omega
 rw[aq,ae,ae,aW,ae,ae,Ip,aq,ae];show R.of (ya .add (.d (.tup (m.map bY))) (.d (.tup ((U8 (1+m.length % 3)).map λk=>bY (k % 2,V4 w k)))) []) []=_;have e:(m.map bY).length+((U8 (1+m.length % 3)).map λk=>bY (k % 2,V4 w k)).length<=av:=by rw[Vg,Vg,VQ];exact q
 rw[P5,if_pos e,aq];unfold mD C8;rw[VU,Xk];rfl
theorem Ga ns(hl:ns.length<=63):callC Fs 60 16 [.fV ns] []=.ok (.d (.bl true)) []:=by
 obtain⟨w,hw⟩:∃w:Nat,1+mixed ns 0 % 3=(w:Int):=⟨(1+mixed ns 0 % 3).toNat,by have:=bE (mixed ns 0) (show(0:Int) < 3 by decide);omega⟩;have w1:1<=w/\w<=3:=by have:=bE (mixed ns 0) (show(0:Int) < 3 by decide);omega
 obtain⟨c,hc⟩:∃c:Nat,1+mixed ns 1 % 6=(c:Int):=⟨(1+mixed ns 1 % 6).toNat,by have:=bE (mixed ns 1) (show(0:Int) < 6 by decide);omega⟩;have c1:1<=c/\c<=6:=by have:=bE (mixed ns 1) (show(0:Int) < 6 by decide);omega
 let m:=Gu (mixed ns 1) w c
 have ok:dv w m:=MB _ _ (by omega);have ml:m.length=c:=IC _ _ _;have eM:∀st,callC Fs 59 8 [.d (.int (mixed ns 1)),.d (.int (w:Int)),.d (.int 6)] st=.ok (.d (mD m)) st:=λst=>Dh 57 (mixed ns 1) w 6 c w1.2 (by decide) hc (by omega) st;have eX0:∀st,callC Fs 59 5 [.fV ns,.d (.int 0)] st=.ok (.d (.int (mixed ns 0))) st:=λst=>i0 57 ns 0 rfl st;have eX1:∀st,callC Fs 59 5 [.fV ns,.d (.int 1)] st=.ok (.d (.int (mixed ns 1))) st:=λst=>i0 57 ns 1 rfl st;have eX2:∀st,callC Fs 59 5 [.fV ns,.d (.int 2)] st=.ok (.d (.int (mixed ns 2))) st:=λst=>i0 57 ns 2 rfl st;have eX3:∀st,callC Fs 59 5 [.fV ns,.d (.int 3)] st=.ok (.d (.int (mixed ns 3))) st:=λst=>i0 57 ns 3 rfl st;obtain⟨xk,xs,xl⟩:=ML ok;obtain⟨vk,vs,vl⟩:=MJ ok (mixed ns 3);obtain⟨dk,ds,dl⟩:=MK ok (mixed ns 3);obtain⟨ll,ls⟩:=hW ok (by omega);have llen:=AU ok (by omega);obtain⟨o,ko,so,lo,eO⟩:∃o:cM,dv w o/\gI w o 0 m 0/\o.length<=100/\∃r4,ah (callC Fs 59) (nY.body.take 6) (ay 7 [.fV ns]) []=.ok (.nx [some (.fV ns),some (.d (.int (w:Int))),some (.d (mD m)),r4,some (.d (mD o)),none,none]) []:=by
  have m2:=bE (mixed ns 2) (show(0:Int) < 3 by decide);have s3:∀(res:R Fl),ah (callC Fs 59) (nY.body.drop 4 |>.take 2) [some (.fV ns),some (.d (.int (w:Int))),some (.d (mD m)),some (.d (.int (mixed ns 2 % 3))),some (.d (mD (C8 w m))),none,none] []=res->ah (callC Fs 59) (nY.body.take 6) (ay 7 [.fV ns]) []=res:=λres h=>by
   refine ag (aV (v:=.d (.int (w:Int))) (st1:=[]) ?_) ?_;·have c3:lh .mod (mixed ns 0) 3=some (mixed ns 0 % 3):=cL (by decide);simp[ay,nY,eX0,c3,hw]
   refine ag (aV (v:=.d (mD m)) (st1:=[]) (by simp[ay,nY,eX1,eM])) ?_;refine ag (aV (v:=.d (.int (mixed ns 2 % 3))) (st1:=[]) ?_) ?_;·have c3:lh .mod (mixed ns 2) 3=some (mixed ns 2 % 3):=cL (by decide);simp[ay,nY,eX2,c3]
   refine ag (aV (v:=.d (mD (C8 w m))) (st1:=[]) ?_) h;exact MZ ok (by omega) w1.1 w1.2 _ _
  have d3:mixed ns 2 % 3=0\/mixed ns 2 % 3=1\/mixed ns 2 % 3=2:=by omega
  rcases d3 with h|h|h;·refine⟨C8 w m,xk,xs,by omega,some (.d (.int (mixed ns 2 % 3))),s3 _ ?_⟩;exact ag (dZ (st1:=[]) (by simp[h]) ak) (ag (dZ (st1:=[]) (by simp[h]) ak) ak)
  ·refine⟨Gv (mixed ns 3) m,vk,vs,by omega,some (.d (.int (mixed ns 2 % 3))),s3 _ ?_⟩;have e:=A2 ok (by omega) w1.2 57 (mixed ns 3) [];exact ag (iw (st1:=[]) (by simp[h]) (ag (aV (v:=.d (mD (Gv (mixed ns 3) m))) (st1:=[]) (by simp[eX3,e])) ak)) (ag (dZ (st1:=[]) (by simp[h]) ak) ak)
  ·refine⟨C7 (mixed ns 3) m,dk,ds,by omega,some (.d (.int (mixed ns 2 % 3))),s3 _ ?_⟩;have e:=xf ok (by omega) w1.2 57 (mixed ns 3) [];exact ag (dZ (st1:=[]) (by simp[h]) ak) (ag (iw (st1:=[]) (by simp[h]) (ag (aV (v:=.d (mD (C7 (mixed ns 3) m))) (st1:=[]) (by simp[eX3,e])) ak)) ak)
 obtain⟨r4,eO⟩:=eO;have eLm:∀st,callC Fs 59 3 [.d (mD m)] st=.ok (.d (mD (bX w m))) st:=λst=>mO ok (by omega) (by omega) 53 st;have eLo:∀st,callC Fs 59 3 [.d (mD o)] st=.ok (.d (mD (bX w m))) st:=λst=>by rw[mO ko (by omega) (by omega) 53 st,C2 ko ok (by omega) (by omega) so]
 have eLl:∀st,callC Fs 59 3 [.d (mD (bX w m))] st=.ok (.d (mD (bX w m))) st:=λst=>by rw[mO ll.ok (by omega) (by omega) 53 st,zf ll (by omega)]
 have eIs:∀st,callC Fs 59 13 [.d (mD (bX w m)),.d (.int (w:Int))] st=.ok (.d (.bl true)) st:=λst=>by rw[zD 56 ll.ok (by omega) (by omega) st];simp only[ll,decide_true]
 have eW:=zE 58 w1.2 [];have eH:∀(u:List Nat),Wd w u->CY (bX w m) u=CY m u:=λu hu=>by unfold CY;rw[ls u hu]
 obtain⟨r5,s5,e5,⟨y6,z5⟩,z6⟩:=cV (g:=gU (.nm 6)) (b:=ah (callC Fs 59) B1) (ps:=((bN w (qD w)).map wD).map .d) (k:=0) (r:=[some (.fV ns),some (.d (.int (w:Int))),some (.d (mD m)),r4,some (.d (mD o)),some (.d (mD (bX w m))),none]) (st:=[])
  (I:=λk r s=>(∃y6,r=[some (.fV ns),some (.d (.int (w:Int))),some (.d (mD m)),r4,some (.d (mD o)),some (.d (mD (bX w m))),y6])/\s=[])
  (λi p r s ⟨⟨y6,h1⟩,h2⟩ hp=>by
   subst h1 h2;rw[Xk,Vi] at hp;cases Jf:(bN w (qD w))[i]? with
   |none=>rw[Jf] at hp;cases hp|some u=>rw[Jf] at hp;cases hp;have hu:=AW (VC Jf);have e1:=vO 58 ll.ok u hu [];have e2:=vO 58 ok u hu [];refine⟨_,[some (.fV ns),some (.d (.int (w:Int))),some (.d (mD m)),r4,some (.d (mD o)),some (.d (mD (bX w m))),some (.d (wD u))],[],rfl,?_,⟨_,rfl⟩,rfl⟩;refine ag (dZ (st1:=[]) ?_ ak) ak;show aa _ _ [some (.fV ns),some (.d (.int (w:Int))),some (.d (mD m)),r4,some (.d (mD o)),some (.d (mD (bX w m))),some (.d (wD u))] []=_;simp[e1,e2,eH u hu]) ⟨⟨none,rfl⟩,rfl⟩
 subst z5 z6;refine call_of MP rfl (dz (p:=.d (.bl true)) (st:=[]) rfl (zu 6 eO ?_) rfl);refine ag (aV (v:=.d (mD (bX w m))) (st1:=[]) (by simp[eLm])) ?_;refine ag (dZ (st1:=[]) ?_ ak) ?_;·simp[eIs,eLo,eLl,MO]
 refine ag (cU (ps:=((bN w (qD w)).map wD).map .d) (st1:=[]) (by simp[eW]) e5) ?_;exact aN (cT (by simp))
end Qp
namespace Qp
open PySem L2 Y
def top(i:Nat):Stmt:=PySem.Challenge.pw_wordyard_k11_whole_least.main.body.getD i (.Pass ⟨0,0,0,0⟩)
def zG(j:Nat):Stmt->Stmt
 |.ClassDef _ _ _ body _ _ _ _ _ _ _=>body.getD j (.Pass ⟨0,0,0,0⟩)|_=>.Pass ⟨0,0,0,0⟩
abbrev n6:Stmt:=top 1
def fB:Info:={name:="sources_by",st:=n6,N:=["machine","letter","sources","number","state"],ps:=["machine","letter"],F:=hZ}
abbrev kZ:Stmt:=top 3
def dE:Info:={name:="firsts_alike",st:=kZ,N:=["machine","groups","firsts","state","group"],ps:=["machine"],F:=fm}
abbrev k7:Stmt:=top 5
def dF:Info:={name:="machine_from",st:=k7,N:=["start","steps_of","good_of","numbers","places","states","place","steps","step"],ps:=["start","steps_of","good_of"],F:=cz}
abbrev B3:Stmt:=top 6
def jU:Info:={name:="least",st:=B3,N:=["machine","firsts","steps_of"],ps:=["machine"],F:=nX}
abbrev k8:Stmt:=top 8
def dG:Info:={name:="_law_cell_at",st:=k8,N:=["_law_script","_law_k"],ps:=["_law_script","_law_k"],F:=cA}
abbrev n8:Stmt:=top 9
def fD:Info:={name:="_law_mixed",st:=n8,N:=["_law_script","_law_k","_law_drawn_here"],ps:=["_law_script","_law_k"],F:=ft}
abbrev n9:Stmt:=top 10
def fE:Info:={name:="_law_drawn",st:=n9,N:=["_law_number_here","_law_k","_law_drawn_here"],ps:=["_law_number_here","_law_k"],F:=fu}
abbrev oa:Stmt:=top 11
def fF:Info:={name:="_law_words",st:=oa,N:=["_law_wide","_law_found","_law_rows","_law_k","_law_longer","_law_row"],ps:=["_law_wide"],F:=dQ}
abbrev k9:Stmt:=top 12
def dH:Info:={name:="_law_machine",st:=k9,N:=["_law_number_here","_law_wide","_law_most","_law_count","_law_states","_law_k","_law_steps"],ps:=["_law_number_here","_law_wide","_law_most"],F:=cB}
abbrev tN:Stmt:=top 13
def iE:Info:={name:="_law_has",st:=tN,N:=["_law_machine_here","_law_word","_law_at","_law_letter"],ps:=["_law_machine_here","_law_word"],F:=jS}
abbrev l8:Stmt:=top 14
def eE:Info:={name:="_law_number",st:=l8,N:=["_law_thing","_law_high"],ps:=["_law_thing","_law_high"],F:=eB}
abbrev i8:Stmt:=top 15
def b9:Info:={name:="_law_is_machine",st:=i8,N:=["_law_thing","_law_wide","_law_state"],ps:=["_law_thing","_law_wide"],F:=bg}
abbrev l9:Stmt:=top 16
def eI:Info:={name:="_law_parted",st:=l9,N:=["_law_machine_here","_law_count","_law_apart_ones","_law_one","_law_other","_law_k","_law_pairs"],ps:=["_law_machine_here"],F:=eD}
abbrev j9:Stmt:=top 17
def cY:Info:={name:="_law_is_least",st:=j9,N:=["_law_machine_here","_law_wide","_law_order","_law_k","_law_step","_law_apart_ones"],ps:=["_law_machine_here","_law_wide"],F:=eV}
abbrev oi:Stmt:=top 18
def fG:Info:={name:="_law_moved",st:=oi,N:=["_law_machine_here","_law_number_here","_law_count","_law_place","_law_k","_law_at","_law_found","_law_old"],ps:=["_law_machine_here","_law_number_here"],F:=fw}
abbrev lg:Stmt:=top 19
def dI:Info:={name:="_law_doubled",st:=lg,N:=["_law_machine_here","_law_number_here","_law_count","_law_twin","_law_found","_law_k","_law_state","_law_steps","_law_letter","_law_step"],ps:=["_law_machine_here","_law_number_here"],F:=cC}
abbrev JY:Stmt:=top 20
def zH:Info:={name:="law",st:=JY,N:=["_law_script","_law_wide","_law_machine_here","_law_kind","_law_other","_law_found","_law_word"],ps:=["_law_script"],F:=nY}
abbrev i9:Stmt:=zG 0 (top 2)
def cb:Info:={name:="Groups.__init__",st:=i9,N:=["self","machine","number","state"],ps:=["self","machine"],F:=fz}
abbrev ja:Stmt:=zG 1 (top 2)
def cf:Info:={name:="Groups.let_wait",st:=ja,N:=["self","group"],ps:=["self","group"],F:=b8}
abbrev iF:Stmt:=zG 2 (top 2)
def bS:Info:={name:="Groups.set_apart",st:=iF,N:=["self","group","states","rest","fresh","state"],ps:=["self","group","states"],F:=bp}
abbrev fR:Stmt:=zG 3 (top 2)
def bB:Info:={name:="Groups.set_apart_by",st:=fR,N:=["self","targets","letter","stepping","target","state","group","states"],ps:=["self","targets","letter"],F:=bT}
abbrev ke:Stmt:=zG 4 (top 2)
def cZ:Info:={name:="Groups.settle",st:=ke,N:=["self","group","targets","letter"],ps:=["self"],F:=gR}
def pw:CI:={lam:=false,qual:="least.<locals>.steps_of",N:=["state","firsts","machine"],ps:=["state"],fr:=["firsts","machine"],F:=gg}
def qE:CI:={lam:=true,qual:="least.<locals>.<lambda>",N:=["state","machine"],ps:=["state"],fr:=["machine"],F:=cW}
def tx:TX:={is:=[(fB,[]),(dE,[]),(dF,[]),(jU,[(22,⟨77,4,78,59⟩),(23,⟨79,45,79,76⟩)]),(dG,[]),(fD,[]),(fE,[]),(fF,[]),(dH,[]),(iE,[]),(eE,[]),(b9,[]),(eI,[]),(cY,[]),(fG,[]),(dI,[]),(zH,[]),(cb,[]),(cf,[]),(bS,[]),(bB,[]),(cZ,[])],Ue:=[pw,qE],cs:=[],ts:=[],nf:=17,ks:=[{name:="Groups",qt:=["sources","group_of","members","waiting","waits"],E6:=[("__init__",17),("let_wait",18),("set_apart",19),("set_apart_by",20),("settle",21)]}]}
theorem is_Fs:tx.Fs=Fs:=rfl
theorem uH:be fB.N fB.ps (ax fB.st):=⟨rfl,rfl,rfl,by decide+kernel,rfl,by decide+kernel,by decide+kernel⟩
theorem uI:gK tx (fB,[])=true:=by decide+kernel
theorem qF:be dE.N dE.ps (ax dE.st):=⟨rfl,rfl,rfl,by decide+kernel,rfl,by decide+kernel,by decide+kernel⟩
theorem qG:gK tx (dE,[])=true:=by decide+kernel
theorem qH:be dF.N dF.ps (ax dF.st):=⟨rfl,rfl,rfl,by decide+kernel,rfl,by decide+kernel,by decide+kernel⟩
theorem qI:gK tx (dF,[])=true:=by decide+kernel
theorem Gb:be jU.N jU.ps (ax jU.st):=⟨rfl,rfl,rfl,by decide+kernel,rfl,by decide+kernel,by decide+kernel⟩
theorem Gc:gK tx (jU,[(22,⟨77,4,78,59⟩),(23,⟨79,45,79,76⟩)])=true:=by decide+kernel
theorem qJ:be dG.N dG.ps (ax dG.st):=⟨rfl,rfl,rfl,by decide+kernel,rfl,by decide+kernel,by decide+kernel⟩
theorem qK:gK tx (dG,[])=true:=by decide+kernel
theorem uJ:be fD.N fD.ps (ax fD.st):=⟨rfl,rfl,rfl,by decide+kernel,rfl,by decide+kernel,by decide+kernel⟩
theorem uK:gK tx (fD,[])=true:=by decide+kernel
theorem uL:be fE.N fE.ps (ax fE.st):=⟨rfl,rfl,rfl,by decide+kernel,rfl,by decide+kernel,by decide+kernel⟩
theorem uM:gK tx (fE,[])=true:=by decide+kernel
theorem uN:be fF.N fF.ps (ax fF.st):=⟨rfl,rfl,rfl,by decide+kernel,rfl,by decide+kernel,by decide+kernel⟩
theorem uO:gK tx (fF,[])=true:=by decide+kernel
theorem qL:be dH.N dH.ps (ax dH.st):=⟨rfl,rfl,rfl,by decide+kernel,rfl,by decide+kernel,by decide+kernel⟩
theorem qM:gK tx (dH,[])=true:=by decide+kernel
theorem zI:be iE.N iE.ps (ax iE.st):=⟨rfl,rfl,rfl,by decide+kernel,rfl,by decide+kernel,by decide+kernel⟩
theorem zJ:gK tx (iE,[])=true:=by decide+kernel
theorem tP:be eE.N eE.ps (ax eE.st):=⟨rfl,rfl,rfl,by decide+kernel,rfl,by decide+kernel,by decide+kernel⟩
theorem tQ:gK tx (eE,[])=true:=by decide+kernel
theorem mP:be b9.N b9.ps (ax b9.st):=⟨rfl,rfl,rfl,by decide+kernel,rfl,by decide+kernel,by decide+kernel⟩
theorem mQ:gK tx (b9,[])=true:=by decide+kernel
theorem tR:be eI.N eI.ps (ax eI.st):=⟨rfl,rfl,rfl,by decide+kernel,rfl,by decide+kernel,by decide+kernel⟩
theorem tU:gK tx (eI,[])=true:=by decide+kernel
theorem pz:be cY.N cY.ps (ax cY.st):=⟨rfl,rfl,rfl,by decide+kernel,rfl,by decide+kernel,by decide+kernel⟩
theorem pA:gK tx (cY,[])=true:=by decide+kernel
theorem uP:be fG.N fG.ps (ax fG.st):=⟨rfl,rfl,rfl,by decide+kernel,rfl,by decide+kernel,by decide+kernel⟩
theorem uQ:gK tx (fG,[])=true:=by decide+kernel
theorem qN:be dI.N dI.ps (ax dI.st):=⟨rfl,rfl,rfl,by decide+kernel,rfl,by decide+kernel,by decide+kernel⟩
theorem qO:gK tx (dI,[])=true:=by decide+kernel
theorem M0:be zH.N zH.ps (ax zH.st):=⟨rfl,rfl,rfl,by decide+kernel,rfl,by decide+kernel,by decide+kernel⟩
theorem M3:gK tx (zH,[])=true:=by decide+kernel
theorem mR:be cb.N cb.ps (ax cb.st):=⟨rfl,rfl,rfl,by decide+kernel,rfl,by decide+kernel,by decide+kernel⟩
theorem mS:gK tx (cb,[])=true:=by decide+kernel
theorem mT:be cf.N cf.ps (ax cf.st):=⟨rfl,rfl,rfl,by decide+kernel,rfl,by decide+kernel,by decide+kernel⟩
theorem mU:gK tx (cf,[])=true:=by decide+kernel
theorem lO:be bS.N bS.ps (ax bS.st):=⟨rfl,rfl,rfl,by decide+kernel,rfl,by decide+kernel,by decide+kernel⟩
theorem lQ:gK tx (bS,[])=true:=by decide+kernel
theorem jV:be bB.N bB.ps (ax bB.st):=⟨rfl,rfl,rfl,by decide+kernel,rfl,by decide+kernel,by decide+kernel⟩
theorem jW:gK tx (bB,[])=true:=by decide+kernel
theorem pB:be cZ.N cZ.ps (ax cZ.st):=⟨rfl,rfl,rfl,by decide+kernel,rfl,by decide+kernel,by decide+kernel⟩
theorem pD:gK tx (cZ,[])=true:=by decide+kernel
def RC(K:Vm)(x:Str):Addr:=((Xy K x).map (·.2)).getD 0
theorem M4(h:(Xy K x).map (·.1)=some c):Xy K x=some (c,RC K x):=by unfold RC;cases e:Xy K x with|none=>rw[e] at h;cases h|some p=>rw[e] at h;cases h;rfl
def xs:List Str:=["least"]
def QB:List (List (Pos×Str)):=[dj tx (jU,[(22,⟨77,4,78,59⟩),(23,⟨79,45,79,76⟩)])]
def mW(pt:List (Addr×Addr)):List (Addr×List (Pos×Str)):=(pt.zip QB).map λp=>(p.1.2,p.2)
theorem Gd:L2.Apart (dj tx (jU,[(22,⟨77,4,78,59⟩),(23,⟨79,45,79,76⟩)])):=by unfold L2.Apart;decide+kernel
set_option maxHeartbeats 0 in
theorem all_mk{l:aag}{w:World}{K:Vm}{h:Heap}{mg:Str->Option Value}{fa f0 f1 f2 f3 f4 f5 f6 f7 f8 f9 UU UW UX UY UZ U0 f16 RD RE RG RI RJ bC M5:Addr}{d0 d1 d2 d3 d4 d5 d6 d7 d8 d9 d10 d11 d12 d13 d14 d15 RK d17 d18 d19 d20 d21:Xg}(X:K.In h)(G:h.Ns Vu mg)(hfa:mg "law"=some (.ref fa))
  (zK:VA K Vu "Groups"=some (some (.ref bC)))
  (Di:Yq K bC Str.empty=true)
  (Dj:YL K bC=true)
  (Dk:Zz K bC=true)
  (Dl:VZ K (.ref bC) "__setattr__"=some (some (.builtin "object.__setattr__")))
  (Dm:aaf K bC=true)
  (Dp:XC K (.ref bC)=true)
  (pE:VZ K (.ref bC) "sources"=some none)
  (oj:VZ K (.ref bC) "group_of"=some none)
  (pF:VZ K (.ref bC) "members"=some none)
  (pH:VZ K (.ref bC) "waiting"=some none)
  (tV:VZ K (.ref bC) "waits"=some none)
  (a0:VA K Vu "sources_by"=some (some (.ref f0)))
  (F0:oE K "sources_by" "sources_by" n6 f0 d0)
  (a1:VA K Vu "firsts_alike"=some (some (.ref f1)))
  (F1:oE K "firsts_alike" "firsts_alike" kZ f1 d1)
  (a2:VA K Vu "machine_from"=some (some (.ref f2)))
  (F2:oE K "machine_from" "machine_from" k7 f2 d2)
  (a3:VA K Vu "least"=some (some (.ref f3)))
  (F3:oE K "least" "least" B3 f3 d3)
  (q3:d3.code=.ref M5)
  (t3:(Xy K "least").map (·.1)=some M5)
  (a4:VA K Vu "_law_cell_at"=some (some (.ref f4)))
  (F4:oE K "_law_cell_at" "_law_cell_at" k8 f4 d4)
  (a5:VA K Vu "_law_mixed"=some (some (.ref f5)))
  (F5:oE K "_law_mixed" "_law_mixed" n8 f5 d5)
  (a6:VA K Vu "_law_drawn"=some (some (.ref f6)))
  (F6:oE K "_law_drawn" "_law_drawn" n9 f6 d6)
  (a7:VA K Vu "_law_words"=some (some (.ref f7)))
  (F7:oE K "_law_words" "_law_words" oa f7 d7)
  (a8:VA K Vu "_law_machine"=some (some (.ref f8)))
  (F8:oE K "_law_machine" "_law_machine" k9 f8 d8)
  (a9:VA K Vu "_law_has"=some (some (.ref f9)))
  (F9:oE K "_law_has" "_law_has" tN f9 d9)
  (a10:VA K Vu "_law_number"=some (some (.ref UU)))
  (F10:oE K "_law_number" "_law_number" l8 UU d10)
  (a11:VA K Vu "_law_is_machine"=some (some (.ref UW)))
  (F11:oE K "_law_is_machine" "_law_is_machine" i8 UW d11)
  (a12:VA K Vu "_law_parted"=some (some (.ref UX)))
  (F12:oE K "_law_parted" "_law_parted" l9 UX d12)
  (a13:VA K Vu "_law_is_least"=some (some (.ref UY)))
  (F13:oE K "_law_is_least" "_law_is_least" j9 UY d13)
  (a14:VA K Vu "_law_moved"=some (some (.ref UZ)))
  (F14:oE K "_law_moved" "_law_moved" oi UZ d14)
  (a15:VA K Vu "_law_doubled"=some (some (.ref U0)))
  (F15:oE K "_law_doubled" "_law_doubled" lg U0 d15)
  (a16:VA K Vu "law"=some (some (.ref f16)))
  (U1:oE K "law" "law" JY f16 RK)
  (a17:VZ K (.ref bC) "__init__"=some (some (.ref RD)))
  (U2:oE K "__init__" "Groups.__init__" i9 RD d17)
  (n17:X8 K (.ref RD)=true)
  (a18:VZ K (.ref bC) "let_wait"=some (some (.ref RE)))
  (U3:oE K "let_wait" "Groups.let_wait" ja RE d18)
  (n18:X8 K (.ref RE)=true)
  (a19:VZ K (.ref bC) "set_apart"=some (some (.ref RG)))
  (U4:oE K "set_apart" "Groups.set_apart" iF RG d19)
  (n19:X8 K (.ref RG)=true)
  (a20:VZ K (.ref bC) "set_apart_by"=some (some (.ref RI)))
  (U5:oE K "set_apart_by" "Groups.set_apart_by" fR RI d20)
  (n20:X8 K (.ref RI)=true)
  (a21:VZ K (.ref bC) "settle"=some (some (.ref RJ)))
  (U6:oE K "settle" "Groups.settle" ke RJ d21)
  (n21:X8 K (.ref RJ)=true)
  (nt:YK K=true)
  (nd:decide [RC K "least"].Nodup=true)
  (QC:VA K Vu "len"=some none)
  (QD:VA K Vu "min"=some none)
  (QE:VA K Vu "max"=some none)
  (QF:VA K Vu "all"=some none)
  (QG:VA K Vu "any"=some none)
  (QH:VA K Vu "sum"=some none)
  (QI:VA K Vu "str"=some none)
  (Jg:VA K Vu "tuple"=some none)
  (M6:VA K Vu "list"=some none)
  (QJ:VA K Vu "int"=some none)
  (M7:VA K Vu "bool"=some none)
  (xg:VA K Vu "isinstance"=some none)
  (Jh:VA K Vu "range"=some none)
  (QK:VA K Vu "zip"=some none)
  (zL:VA K Vu "enumerate"=some none)
  (Ge:VA K Vu "sorted"=some none)
  :(xs≠[]->YK K=true)/\∃(tabs:List (Addr×Addr)) (fd:Xg),xs.map (Xy K)=tabs.map some/\(∀(s:Vv) (v:Value),aab s fd ⟨[v],[]⟩ [("_law_script",v)])/\
   (∀base:Heap,K.In base->base.Ns Vu mg->(∀q∈tabs,Xo base q.1 q.2)->BMain mg base->gJ l.prog w K mg base tX (lv 60) fa fd ["_law_script"] (AF (mz tx K base (mW tabs)) (callC Fs 60 16) 1))/\tabs.length=QB.length:=by
 have e:=hfa.symm.trans (V6 X G a16);cases e;replace nd:=of_decide_eq_true nd;replace t3:=M4 t3;generalize RC K "least"=QL at*;have T:wK K mg tx (mW [(M5,QL)]) (λk=>match k with|0=>f0|1=>f1|2=>f2|3=>f3|4=>f4|5=>f5|6=>f6|7=>f7|8=>f8|9=>f9|10=>UU|11=>UW|12=>UX|13=>UY|14=>UZ|15=>U0|16=>fa|17=>RD|18=>RE|19=>RG|20=>RI|21=>RJ|_=>0) (λk=>match k with|0=>d0|1=>d1|2=>d2|3=>d3|4=>d4|5=>d5|6=>d6|7=>d7|8=>d8|9=>d9|10=>d10|11=>d11|12=>d12|13=>d13|14=>d14|15=>d15|16=>RK|17=>d17|18=>d18|19=>d19|20=>d20|21=>d21|_=>RK) (λk=>match k with|3=>(M5,QL)|_=>(0,0)):=by
  refine⟨λk i hk=>?_,λx hx=>?_,λx i hx=>?_,λx t hx=>?_,λq hq=>?_,λk i hk hi=>?_⟩
  ·match k,hk with|0,hk=>cases hk;exact⟨⟨_,F0⟩,λ_=>V6 X G a0,F0.binds λ_ _ _ _ _ _ us hl=>match us,hl with|[_,_],_=>rfl,uH,uI⟩|1,hk=>cases hk;exact⟨⟨_,F1⟩,λ_=>V6 X G a1,F1.binds λ_ _ _ _ _ _ us hl=>match us,hl with|[_],_=>rfl,qF,qG⟩|2,hk=>cases hk;exact⟨⟨_,F2⟩,λ_=>V6 X G a2,F2.binds λ_ _ _ _ _ _ us hl=>match us,hl with|[_,_,_],_=>rfl,qH,qI⟩|3,hk=>cases hk;exact⟨⟨_,F3⟩,λ_=>V6 X G a3,F3.binds λ_ _ _ _ _ _ us hl=>match us,hl with|[_],_=>rfl,Gb,Gc⟩|4,hk=>cases hk;exact⟨⟨_,F4⟩,λ_=>V6 X G a4,F4.binds λ_ _ _ _ _ _ us hl=>match us,hl with|[_,_],_=>rfl,qJ,qK⟩|5,hk=>cases hk;exact⟨⟨_,F5⟩,λ_=>V6 X G a5,F5.binds λ_ _ _ _ _ _ us hl=>match us,hl with|[_,_],_=>rfl,uJ,uK⟩|6,hk=>cases hk;exact⟨⟨_,F6⟩,λ_=>V6 X G a6,F6.binds λ_ _ _ _ _ _ us hl=>match us,hl with|[_,_],_=>rfl,uL,uM⟩|7,hk=>cases hk;exact⟨⟨_,F7⟩,λ_=>V6 X G a7,F7.binds λ_ _ _ _ _ _ us hl=>match us,hl with|[_],_=>rfl,uN,uO⟩|8,hk=>cases hk;exact⟨⟨_,F8⟩,λ_=>V6 X G a8,F8.binds λ_ _ _ _ _ _ us hl=>match us,hl with|[_,_,_],_=>rfl,qL,qM⟩|9,hk=>cases hk;exact⟨⟨_,F9⟩,λ_=>V6 X G a9,F9.binds λ_ _ _ _ _ _ us hl=>match us,hl with|[_,_],_=>rfl,zI,zJ⟩|10,hk=>cases hk;exact⟨⟨_,F10⟩,λ_=>V6 X G a10,F10.binds λ_ _ _ _ _ _ us hl=>match us,hl with|[_,_],_=>rfl,tP,tQ⟩|11,hk=>cases hk;exact⟨⟨_,F11⟩,λ_=>V6 X G a11,F11.binds λ_ _ _ _ _ _ us hl=>match us,hl with|[_,_],_=>rfl,mP,mQ⟩|12,hk=>cases hk;exact⟨⟨_,F12⟩,λ_=>V6 X G a12,F12.binds λ_ _ _ _ _ _ us hl=>match us,hl with|[_],_=>rfl,tR,tU⟩|13,hk=>cases hk;exact⟨⟨_,F13⟩,λ_=>V6 X G a13,F13.binds λ_ _ _ _ _ _ us hl=>match us,hl with|[_,_],_=>rfl,pz,pA⟩|14,hk=>cases hk;exact⟨⟨_,F14⟩,λ_=>V6 X G a14,F14.binds λ_ _ _ _ _ _ us hl=>match us,hl with|[_,_],_=>rfl,uP,uQ⟩|15,hk=>cases hk;exact⟨⟨_,F15⟩,λ_=>V6 X G a15,F15.binds λ_ _ _ _ _ _ us hl=>match us,hl with|[_,_],_=>rfl,qN,qO⟩|16,hk=>cases hk;exact⟨⟨_,U1⟩,λ_=>V6 X G a16,U1.binds λ_ _ _ _ _ _ us hl=>match us,hl with|[_],_=>rfl,M0,M3⟩|17,hk=>cases hk;exact⟨⟨_,U2⟩,λz=>absurd z (by decide),U2.binds λ_ _ _ _ _ _ us hl=>match us,hl with|[_,_],_=>rfl,mR,mS⟩|18,hk=>cases hk;exact⟨⟨_,U3⟩,λz=>absurd z (by decide),U3.binds λ_ _ _ _ _ _ us hl=>match us,hl with|[_,_],_=>rfl,mT,mU⟩|19,hk=>cases hk;exact⟨⟨_,U4⟩,λz=>absurd z (by decide),U4.binds λ_ _ _ _ _ _ us hl=>match us,hl with|[_,_,_],_=>rfl,lO,lQ⟩|20,hk=>cases hk;exact⟨⟨_,U5⟩,λz=>absurd z (by decide),U5.binds λ_ _ _ _ _ _ us hl=>match us,hl with|[_,_,_],_=>rfl,jV,jW⟩|21,hk=>cases hk;exact⟨⟨_,U6⟩,λz=>absurd z (by decide),U6.binds λ_ _ _ _ _ _ us hl=>match us,hl with|[_],_=>rfl,pB,pD⟩|k+22,hk=>exact absurd hk (by simp[tx])
  ·simp only[nF,W4,WM,or_false] at hx;rcases hx with rfl|rfl|rfl|rfl|rfl|rfl|rfl|rfl|rfl|rfl|rfl|rfl|rfl|rfl|rfl|rfl;·exact VX X G QC
   ·exact VX X G QD
   ·exact VX X G QE
   ·exact VX X G QF
   ·exact VX X G QG
   ·exact VX X G QH
   ·exact VX X G QI
   ·exact VX X G Jg
   ·exact VX X G M6
   ·exact VX X G QJ
   ·exact VX X G M7
   ·exact VX X G xg
   ·exact VX X G Jh
   ·exact VX X G QK
   ·exact VX X G zL
   ·exact VX X G Ge
  ·exact absurd hx (by simp[tx])
  ·exact absurd hx (by simp[tx])
  ·simp only[tx,W4,WM,or_false] at hq;rcases hq with rfl
   ·refine⟨bC,zK,V6 X G zK,⟨Di,Dj,Dk,Dl⟩,λf hf=>?_,λm k hm=>?_,λk hm=>?_⟩
    ·simp only[W4,WM,or_false] at hf;rcases hf with rfl|rfl|rfl|rfl|rfl;·exact pE
     ·exact oj
     ·exact pF
     ·exact pH
     ·exact tV
    ·simp only[VG,List.lookup_nil] at hm;split at hm;·rename_i hq;have hq:=eq_of_beq hq;subst hq;cases hm;exact⟨a17,n17,U2.kp⟩
     ·
      split at hm;·rename_i hq;have hq:=eq_of_beq hq;subst hq;cases hm;exact⟨a18,n18,U3.kp⟩
      ·
       split at hm;·rename_i hq;have hq:=eq_of_beq hq;subst hq;cases hm;exact⟨a19,n19,U4.kp⟩
       ·
        split at hm;·rename_i hq;have hq:=eq_of_beq hq;subst hq;cases hm;exact⟨a20,n20,U5.kp⟩
        ·
         split at hm;·rename_i hq;have hq:=eq_of_beq hq;subst hq;cases hm;exact⟨a21,n21,U6.kp⟩
         ·cases hm
    ·have HZ:(17:Nat)=k:=VT ((by rfl:Xc ("__init__":Str) _=some 17).symm.trans hm);subst HZ;exact⟨Dm,a17,n17,Dp⟩
  ·match k,hk with
   |0,hk=>cases hk;exact absurd rfl hi|1,hk=>cases hk;exact absurd rfl hi|2,hk=>cases hk;exact absurd rfl hi
   |3,hk=>cases hk;exact⟨q3,by simp[mW,QB],Gd,λt ht hz=>by simp only[mW,QB,X9,List.zip_nil_left,Vo,W9,W4,WM,or_false] at ht;simp only[WI,W4,WM,or_false,not_or,List.nodup_nil,not_false_eq_true,and_true] at nd;rcases ht with rfl<;>first|rfl|(exfalso;simp_all)⟩|4,hk=>cases hk;exact absurd rfl hi|5,hk=>cases hk;exact absurd rfl hi|6,hk=>cases hk;exact absurd rfl hi|7,hk=>cases hk;exact absurd rfl hi|8,hk=>cases hk;exact absurd rfl hi|9,hk=>cases hk;exact absurd rfl hi|10,hk=>cases hk;exact absurd rfl hi|11,hk=>cases hk;exact absurd rfl hi|12,hk=>cases hk;exact absurd rfl hi|13,hk=>cases hk;exact absurd rfl hi|14,hk=>cases hk;exact absurd rfl hi|15,hk=>cases hk;exact absurd rfl hi|16,hk=>cases hk;exact absurd rfl hi|17,hk=>cases hk;exact absurd rfl hi|18,hk=>cases hk;exact absurd rfl hi|19,hk=>cases hk;exact absurd rfl hi|20,hk=>cases hk;exact absurd rfl hi|21,hk=>cases hk;exact absurd rfl hi|k+22,hk=>exact absurd hk (by simp[tx])
 refine⟨λ_=>nt,[(M5,QL)],RK,by simp only[xs,Vo,W9,t3],λs v=>?_,λbase kb nb pI bm=>?_,rfl⟩;·obtain⟨_,_,_,_,_,_,_,_,_,rfl,_⟩:=U1.ex;exact .of_eq rfl
 have bo:jO mg tx (λk=>match k with|3=>(M5,QL)|_=>(0,0)) base:=by
  refine⟨λk i hk hi=>?_,bm⟩
  match k,hk with|0,hk=>cases hk;exact absurd rfl hi|1,hk=>cases hk;exact absurd rfl hi|2,hk=>cases hk;exact absurd rfl hi|3,hk=>exact pI (M5,QL) (by simp)|4,hk=>cases hk;exact absurd rfl hi|5,hk=>cases hk;exact absurd rfl hi|6,hk=>cases hk;exact absurd rfl hi|7,hk=>cases hk;exact absurd rfl hi|8,hk=>cases hk;exact absurd rfl hi|9,hk=>cases hk;exact absurd rfl hi|10,hk=>cases hk;exact absurd rfl hi|11,hk=>cases hk;exact absurd rfl hi|12,hk=>cases hk;exact absurd rfl hi|13,hk=>cases hk;exact absurd rfl hi|14,hk=>cases hk;exact absurd rfl hi|15,hk=>cases hk;exact absurd rfl hi|16,hk=>cases hk;exact absurd rfl hi|17,hk=>cases hk;exact absurd rfl hi|18,hk=>cases hk;exact absurd rfl hi|19,hk=>cases hk;exact absurd rfl hi|20,hk=>cases hk;exact absurd rfl hi|21,hk=>cases hk;exact absurd rfl hi|k+22,hk=>exact absurd hk (by simp[tx])
 exact(BH (P:=l.prog) (w:=w) T 60).1 base bo 16 _ rfl
theorem walk{l:aag}{K:Params->Vm}(hn:l.most=some 63)(Og:d.params.defaults=[])(hY:∀(w:World) (h:Heap),YP w h->(K w.params).In h)(wj:∀y∈xs,((PyProof.Rows.recsOf q).find? (λe=>e.name==y)).isSome=true)(F:∀(w:World) (mg:Str->Option Value) (fa:Addr) (h:Heap),(K w.params).In h->h.Ns Vu mg->mg d.name=some (.ref fa)->
   (xs≠[]->YK (K w.params)=true)/\∃(tabs:List (Addr×Addr)) (fd:Xg),xs.map (Xy (K w.params))=tabs.map some/\(∀(s:Vv) (u:Value),aab s fd ⟨[u],[]⟩ [("_law_script",u)])/\
    (∀base:Heap,(K w.params).In base->base.Ns Vu mg->(∀q∈tabs,Xo base q.1 q.2)->BMain mg base->gJ l.prog w (K w.params) mg base tX (lv 60) fa fd ["_law_script"] (AF (mz tx (K w.params) base (mW tabs)) (callC Fs 60 16) 1))/\tabs.length=QB.length):
  PySem.W.WalkO q loose XP YP l.row.toRowW d [] (λf vs=>aaY f vs):=
 L2.Ez (n:=63) (k:=lv 60) (x:="_law_script") (CX:=λ_=>tX) (sp:=λw _ pt base=>AF (mz tx (K w.params) base (mW pt)) (callC Fs 60 16) 1) xs hn (by decide) Og ⟨rfl,by decide,by decide⟩ hY (λy hy=>by obtain⟨dr,h⟩:=Option.isSome_iff_exists.mp (wj y hy);exact⟨dr,h⟩) (λw mg fa h X N m=>by obtain⟨h1,tabs,fd,h2,h3,h4,h5⟩:=F w mg fa h X N m;refine⟨h1,tabs,fd,h2,h3,h4,λbase H a ns hl _ _ ho hS=>Ii (λt ht=>?_) (Ga ns hl) ho hS⟩;unfold mW at ht;obtain⟨p,hp,rfl⟩:=W8.mp ht;exact W8.mpr ⟨p.1,(Yc hp).1,rfl⟩) λ_ _ _ _ _ z=>z
end Qp
open PySem PySem.W PyProof.Rows
set_option maxRecDepth 100000 in
set_option maxHeartbeats 0 in
theorem PySem.Challenge.cw_wordyard_k11_whole_least_holds : PySem.Challenge.rw_wordyard_k11_whole_least.Holds := by
 w_on;o_law;k_head;(case hw=>w_witness2)
 k_fill
 refine Qp.walk (l:=PySem.Challenge.rw_wordyard_k11_whole_least) rfl rfl (λw h Y=>by first|exact PySem.W.kIn_of Y|exact PySem.W.km_in_of Y) (by decide+kernel) ?F
 case F=>intro w mg fa h KX G Oh;refine' Qp.all_mk KX G Oh ?_ ?_ ?_ ?_ ?_ ?_ ?_ ?_ ?_ ?_ ?_ ?_ ?_ ?_ ?_ ?_ ?_ ?_ ?_ ?_ ?_ ?_ ?_ ?_ ?_ ?_ ?_ ?_ ?_ ?_ ?_ ?_ ?_ ?_ ?_ ?_ ?_ ?_ ?_ ?_ ?_ ?_ ?_ ?_ ?_ ?_ ?_ ?_ ?_ ?_ ?_ ?_ ?_ ?_ ?_ ?_ ?_ ?_ ?_ ?_ ?_ ?_ ?_ ?_ ?_ ?_ ?_ ?_ ?_ ?_ ?_ ?_ ?_ ?_ ?_ ?_ ?_ ?_ ?_ ?_ ?_;all_goals try first|k_is|(refine' L2.KL ?l ?c ?k;(case l=>k_is);(case c=>k_is);(case k=>k_is))|rfl|kernel_rfl
