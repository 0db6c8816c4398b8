import PyProof.Rows.All
import Wide.All
import OpenK.AllK
import Wide.FinOn
import Lean
import PyProof.EqAt
import PyProof.EqKinds
import PyProof.TupleCall
import PyProof.NeKinds
import PyProof.StationsW
import PyProof.ExcClass3
import KE.KTryDeep
import OpenK.KOwn
import KE.KTryMore
import PyProof.ExcBaseAll.ValueError
import PySem.Challenge.RW_wordyard_k03_written
set_option Elab.async false
set_option linter.all false
set_option maxRecDepth 100000
set_option maxHeartbeats 4000000
noncomputable section
open Option renaming some->Δ,none->Θ
open Bool renaming true->Λ,false->Ξ
open PySem renaming wpAny_bind->PY,wpAny_pure->P4,mainGlobals->Qa,Shared->Qd,sizeLine->Qi,starEach->Qo,Program->QE,mem_of_lookup->QG,wpAny_newObj_type->QH,wpAny_callSpecial?_slot->QI,wpAny_field->QM,wpAny_Call_Name_kw->QN,wpAny_mono->QS,wpAny_call_entry->QW,FuncData->QX,Around->QY,compareOp->QZ,sizeLine_eq->Q0,wpAny_loadPart'->Rg,sysModules->Ri,wpAny_truthy_bool->Rn,backTo->Rx,wpAny_setField_rec->RA,wpAny_seqItems->RC,rawInt->RD,wpAny_execs_nil->RL,wpAny_holding->RQ,wpAny_pyIter_tuple->RS,binaryOp->RT,IsPair->RU,wpAny_passesOwn->R0,Arguments->R4,bootBuiltins->R5,NameKind->R7,attributeBase->R9,Spec->Sb,swapsWith->Se,codeAmong->Sf,keywordEach->Sn,wpAny_newFunctionEnv->Sy,wpAny_execs_cons->SF,codeAny_mono->SG,wpAny_binaryOp_repeat_ref->SJ,getItem->SR,tupleKind_room_in1->SS,call_meets->SV,sliceBounds->S2,wpAny_pyIter_enum->S8,Builtin->Tj,wpAny_rule->Tq,typeIs_int->Tr,qualnameIn->Ts,codeAny->TC,wpAny_updateSeq_pair->TF,backToKw->TH,wpAny_updateSeq->TJ,letOwnedTupleGo->TK,wpAny_typeOf->TU,call_meetsIn->TV,BindsTo->T3,TriplesOk->T5,closureFor->T7,wpAny_sequenceKey->Ug,wpAny_letGo->Uh,wpAny_Call_method->Ui,foldedSetIterable->Uj,Keyword->Um,wpAny_onRaise->Uo,wpAny_attempt->Up,pyNext->Uq,annotationsOf->Ur,Comprehension->Uv,wpAny_isInstance->Uw,tupleKind->Ux,noFill_tuple_add->Uy,getMethod->Uz,wpAny_call->UK,valueAt->UL,standAt->UM,builtinsNs->UN,assignEach->UO,IsPart->UP,ExcBaseFacts->UQ,wpAny_specialOf->UR,wpAny_Expr_any->UX,subscripted->UY,isSubtype_stop->UZ,holding->U4,callerA->U5,wpAny_standAt->U9,seq_tuple_add->Vb,evalPart_none->Vc,behindInMarks->Vd,Paired->Vf,seqIndex_neg->Vg,concat_meets->Vh,callWith->Vi,Within->Vj,updateSeq->Vo,isTrue->Vp,cellOf->Vq,seqIndex_of->Vr,wpAny_Name->Vv,typeLookup->Vw,bindArgs->Vx,assign->Vy,call->Vz
open Bool renaming and_eq_true->PZ,not_eq_true'->Qq,false_ne_true->QF,false_eq_true->Rj,or_eq_true->R3,false_and->U3,or_false->Ve
open PySem.Heap renaming get?_push_of_some->P0,lt_size->Qc,get?_push_size->Qe,get?_update_other->QU,size_push->Q3,get?_update_self->Rz,SameBut->RO,size_update->Tz,IsTuple->Vl
open PySem.W renaming Frag->P5,nsIn->Qf,mg_of->Qw,mg_none_of->Qz,kia_one->QV,emptyDict->Q9,findIn->Ro,kitOne->RE,CodeHd->RF,instObj->RM,tabIn->Sa,tabObj->Sg,keepIn->Sh,callWith_K->SY,fnOf->S9,methodCall_KW->Tn,plainGet->Tw,plainGet_of->TR,noTabs->T9,lookIn->Ua,methodObj->Uk,hasDictIn->Ul,excIn->Us,takerIn->UT,OpenLaw->UU,kla_fn->U0,exmOne->U1,codeIn->U2,isFn->Vk,fnX->Vu
open List renaming mem_cons_of_mem->P6,mem_cons_self->P7,size_toArray->P9,isEmpty_iff->Qb,getElem?_eq_getElem->Qh,mem_append_right->Qk,lookup_cons->Ql,length_cons->Qm,getElem?_append_left->Qn,length_append->Qp,getElem?_append_right->Qu,length_map->Qv,getElem?_map->QA,map_cons->QD,append_nil->QK,mem_of_getElem?->Q2,getElem?_set_self->Q6,replicate->Rb,all_cons->Rc,all_eq_true->Rl,range->Rq,getD_eq_getElem?_getD->Rr,filterMap_cons->Ru,find?_cons->Rw,mem_append_left->RG,lookup->RI,getElem?_set_ne->RJ,getElem?_replicate->RK,any_cons->RR,forIn_cons->R1,filter_cons_of_pos->Sl,filter_cons_of_neg->Sm,of_mem_zip->Sq,length_set->Sr,length_replicate->Sv,length_range->Sw,forIn_nil->SA,length_take->SH,any_eq_true->SI,drop_eq_getElem_cons->SK,mem_map_of_mem->SN,zip_cons_cons->S1,reverse_cons->Tf,map_nil->Th,append_assoc->Ti,not_mem_nil->Tx,length_nil->TN,foldl->Ub,drop_zero->Uc,mem_cons->Uu,length_drop->UD,getElem_mem->UE,drop_length->UG
open Nat renaming le_refl->P8,lt_of_lt_of_le->Qj,ne_of_lt->Qt,le_trans->QJ,ne_of_gt->QT,le_succ->Q1,lt_succ_self->Rk,lt_irrefl->Rm,zero_le->R6,min_le_right->Sj,le_add_right->Sk,lt_of_sub_eq_succ->Su,sub_succ_lt_self->Sz,lt_of_le_of_lt->S0,le_of_lt->Te,min_le_left->TM,lt_trans->TY,le_of_eq->TZ,log2_le_self->UC
open PySem.NameKind renaming free->Qg,cell->Ra
open PySem.Value renaming ref->Qr,none->RB,type->So,bool->SX,str->S3,int->Tv,float->Vs
open PySem.Str renaming ofString->Qs,join->UA
open Option.some renaming inj->Qx
open PySem.Builtin.SmallTypes renaming nextOf->Qy,ownedTupleIsFree->Rf
open False renaming elim->QB
open PySem.Builtin.Tuple renaming tupleExact->QC,tupleTooMany->Q4,tupleItemsOf->SD
open PySem.Builtin.Slice renaming slicePlaces->QL,sliceAdjust->Q7,sliceApplied->RX
open PyProof.Rows renaming callWith_type1->QO,slot_tuple_getitem->QP,envOfC->SU,kindOf->Tu,subscriptTail->TB,entry_tuple_getitem->TQ,AllBare->T4,slicePart_none->T6,args_tuple_getitem->T8,boot_isinstance->US,boot_list->U6,tupleItemsOf_->Va
open Option renaming isNone_iff_eq_none->QQ,isSome_map->Td,getD_none->UB
open Classical renaming byContradiction->QR
open Ne renaming symm->Q5
open True renaming intro->Q8
open ForInStep renaming yield->Rh
open PySem.F renaming slot_tuple_iterator_next->Rp,slot_int_rmul->Ry,slot_enumerate_next->RN,plain_extend_loop->RY,plainAttrs_dict->Si,slot_zip_next->Ss,args_tuple_mul_2->SO,args_tuple_add_2->SQ,entry_tuple_mul->S4,entry_tuple_add->S5,args_int_rmul_2->S6,slot_tuple_mul->Ta,slot_tuple_add->Tb,entry_int_rmul->Tc,fills_int_mul->To
open PySem.Calls renaming callWith_builtin->Rt,spliced_cons->RV,Name_function_global->RW,evalArgs_plain->R8,spliced_nil->Sx,loadGlobal_global->S7
open Array renaming length_toList->Rv,getElem?_toList->Tp,append_assoc->Ue
open PySem.Builtin.List renaming listExtendWith->RP
open PyProof.Rows.KTD.Dat renaming flat->RZ
open PySem.Obj renaming mapSeq->Sd
open PySem.PassesOwn renaming never->TL
open Int renaming emod_lt_of_pos->Ud,toNat->UI,emod_nonneg->UW
open PySem.Paired renaming length->Ut
open PyProof.Rows.IsTup renaming new->UH
open PySem.AutoSeq1 renaming idx_int->UJ
open Sum renaming inr->U7,inl->U8
open PySem.Code renaming isFrame->Vm
open PySem.Around renaming under->Vn
open PySem.Shared renaming heap->Vt
namespace PySem.W.Fast
def tw7975376508839753673:=0
def tw14567751011437126946:=0
def tw15837484386556435984:=0
def tw6164224353927844673:=0
def tw9027305418200969991:=0
def tw10813904462803661165:=0
def tw9701831647017142127:=0
def tw14945901368665358862:=0
def tw13416665282173468649:=0
def tw5967528485860439736:=0
def tw2660032063643349387:=0
def tw8075029682207066440:=0
def tw524350220738431957:=0
def tw18402387128709607185:=0
def tw5882506185203727338:=0
def tw11502619721255425131:=0
def tw6505582852212014411:=0
def tw8437184020547538921:=0
def tw16677045967621793212:=0
def tw9421458391211894578:=0
def tw9497141668471513288:=0
def tw3372205664683779236:=0
def tw9883002918145657644:=0
def tw6118622717389047807:=0
def tw1975837598086936721:=0
def tw4822467924315073729:=0
def tw13249232871104981116:=0
def tw16565470178245849209:=0
def tw10123001640884022432:=0
def tw8201770846105290380:=0
def tw17639742664271287633:=0
def tw1499560829411458608:=0
def tw13508488036338403180:=0
def tw16428048457858501228:=0
def tw12331540821418388311:=0
def tw7240948889841492117:=0
def tw11842090200190313313:=0
def tw439646930255642561:=0
def tw4351274282275722079:=0
def tw16816719496430792102:=0
def tw904260284507395351:=0
def tw3830332563530609642:=0
end PySem.W.Fast
theorem qqq{p:Prop}[Decidable p]:(decide p=Bool.true)=p:=decide_eq_true_eq
theorem qqz{A:Type u}{l:List A}{i:Nat}{a:A}(h:l[i]?=Option.some a):∃h:i<l.length,l[i]=a:=List.getElem?_eq_some_iff.mp h
theorem ft{g:Prop}(h:Ξ=Λ):g:=Bool.noConfusion h
namespace L2
open PySem PySem.Spec PyProof.Rows
abbrev Key:=Sum Int Str
noncomputable def pw:Key->Value->Bool
 |.inl k,v=>Value.isInt k v|.inr x,v=>Value.isStrOf x v
noncomputable def ME(w:World):Key->Int
 |.inl k=>hashInt k|.inr x=>hashStr w x
theorem bQ:∀{k} {v},pw k v=Λ->(∃i t,k=U8 i/\v=Tv i t)\/(∃x t,k=U7 x/\v=S3 x t)
 |.inl i,v,h=>by obtain⟨t,e⟩:=Value.isInt_shape (k:=i) (v:=v) h;exact .inl ⟨i,t,rfl,e⟩|.inr x,v,h=>by obtain⟨t,e⟩:=Value.isStrOf_shape (x:=x) (v:=v) h;exact .inr ⟨x,t,rfl,e⟩
theorem xo i t:pw (.inl i) (.int i t)=Λ:=by simp[pw,Value.isInt]
theorem xp x t:pw (.inr x) (.str x t)=Λ:=by simp[pw,Value.isStrOf]
theorem Eg a b:decide ((U8 a:Key)=U8 b)=(a==b):=by
 by_cases e:a=b;·subst e;simp
 ·have h:¬(U8 a:Key)=U8 b:=λq=>e (U8.inj q);rw[decide_eq_false h];exact(beq_eq_false_iff_ne.mpr e).symm
theorem Eh a b:decide ((U7 a:Key)=U7 b)=decide (a=b):=by
 by_cases e:a=b;·subst e;simp
 ·have h:¬(U7 a:Key)=U7 b:=λq=>e (U7.inj q);rw[decide_eq_false h,decide_eq_false e]
theorem Ei a b:decide ((U8 a:Key)=U7 b)=Ξ:=decide_eq_false (λq=>nomatch q)
theorem Ej a b:decide ((U7 a:Key)=U8 b)=Ξ:=decide_eq_false (λq=>nomatch q)
def aZ(prog:QE)(w:World):PySem.KeyKind prog w Key where
 is:=pw
 hash:=ME w
 inj:=λv a b ha hb=>by
  rcases bQ ha with ⟨i,t,rfl,rfl⟩|⟨x,t,rfl,rfl⟩
  ·rcases bQ hb with ⟨j,u,rfl,e⟩|⟨y,u,rfl,e⟩
   ·injection e with e1 _;rw[e1]
   ·exact nomatch e
  ·rcases bQ hb with ⟨j,u,rfl,e⟩|⟨y,u,rfl,e⟩
   ·exact nomatch e
   ·injection e with e1 _;rw[e1]
 byValue:=λk v h=>by rcases bQ h with ⟨i,t,rfl,rfl⟩|⟨x,t,rfl,rfl⟩<;>rfl
 pyHash:=λhv h=>by
  rcases bQ hv with ⟨i,t,rfl,rfl⟩|⟨x,t,rfl,rfl⟩
  ·exact wpAny_pyHash_int h
  ·exact wpAny_pyHash_str h
 eqBool:=λhu hv h=>by
  rcases bQ hu with ⟨i,t,rfl,rfl⟩|⟨x,t,rfl,rfl⟩
  ·rcases bQ hv with ⟨j,u,rfl,rfl⟩|⟨y,u,rfl,rfl⟩
   ·rw[Eg] at h;exact wpAny_eqBool_int h
   ·rw[Ei] at h;exact SeqAt.EqAt.int_str i t y u _ _ _ _ h
  ·rcases bQ hv with ⟨j,u,rfl,rfl⟩|⟨y,u,rfl,rfl⟩
   ·rw[Ej] at h;exact SeqAt.EqAt.str_int x t j u _ _ _ _ h
   ·rw[Eh] at h;exact wpAny_eqBool_str h
 «strs»:=λk x t v h=>by
  rcases bQ h with ⟨i,u,rfl,e⟩|⟨y,u,rfl,e⟩
  ·exact nomatch e
  ·injection e with e1 _;subst e1;cases v<;>rfl
theorem rZ prog w i t:(aZ prog w).is (.inl i) (.int i t)=Λ:=xo i t
theorem r6 prog w x t:(aZ prog w).is (.inr x) (.str x t)=Λ:=xp x t
inductive V where
 |bu|bl (b:Bool)|int (i:Int)|str (x:Str)|Hy (b:Array UInt8)|Ek (b:UInt64)|ref (a:Addr)|ty (n:String)
 deriving DecidableEq
noncomputable def RelV:V->Value->Prop
 |.bu,u=>u=RB|.bl b,u=>u=SX b|.int i,u=>∃t,u=Tv i t|.str x,u=>∃t,u=S3 x t|.Hy b,u=>∃t,u=Value.bytes b t|.Ek b,u=>∃t,u=Vs b t|.ref a,u=>u=Qr a|.ty n,u=>u=So n
abbrev aM:List V->List Value->Prop:=Vf RelV
theorem aM.length(r:aM xs us):xs.length=us.length:=Ut r
theorem aM.get:∀{xs} {us} {i:Nat} {x},aM xs us->xs[i]?=Δ x->∃u,us[i]?=Δ u/\RelV x u
 |_,_,_,_,.nil,e=>by simp at e|_,_,0,_,.cons r _,e=>by simp at e;subst e;exact⟨_,rfl,r⟩|_,_,i+1,x,.cons _ t,e=>by obtain⟨u,h1,h2⟩:=aM.get (i:=i) (x:=x) t (by simpa using e);exact⟨u,by simpa using h1,h2⟩
theorem aM.set(r:RelV x u):∀{xs} {us} (i),aM xs us->aM (xs.set i x) (us.set i u)
 |_,_,_,.nil=>.nil|_,_,0,.cons _ t=>.cons r t|_,_,i+1,.cons q t=>.cons q (aM.set r i t)
theorem aM.append:∀{xs ys} {us ws},aM xs us->aM ys ws->aM (xs++ys) (us++ws)
 |_,_,_,_,.nil,s=>s|_,_,_,_,.cons r t,s=>.cons r (aM.append t s)
theorem aM.take:∀{xs} {us} (n),aM xs us->aM (xs.take n) (us.take n)
 |_,_,0,_=>.nil|_,_,_+1,.nil=>.nil|_,_,n+1,.cons r t=>.cons r (aM.take n t)
theorem aM.drop:∀{xs} {us} (n),aM xs us->aM (xs.drop n) (us.drop n)
 |_,_,0,r=>r|_,_,_+1,.nil=>.nil|_,_,n+1,.cons _ t=>aM.drop n t
def gN:Option V->Option Value->Prop
 |some v,Δ u=>RelV v u|none,Θ=>True|_,_=>False
def KV{κ:Type}:List (κ×V)->List (κ×Value)->Prop:=Vf λ(p:κ×V) (q:κ×Value)=>p.1=q.1/\RelV p.2 q.2
def kV:Key->V
 |.inl i=>.int i|.inr x=>.str x
inductive HO where
 |lst (xs:List V)
 |tup (xs:List V)
 |dK (kvs:List (Key×V))|dT (kvs:List (List Key×V))
 |set (S:Int->Bool) (n:Nat)
 |ins (C dx:Addr) (fs:List (Str×V))
 |own (x:Addr)
 |xd (fs:List (Str×V))
 |met (f x:Addr)
 |jx (lo hi:Int)
 |cF (o:Obj) (u:HO)
 |dc (ps:Array Value)
 |ext (φ:Heap->Prop)
abbrev Hp:=Addr->Option HO
noncomputable def upd(H:Hp)(a:Addr)(o:HO):Hp:=λb=>if b=a then Δ o else H b
theorem aA:upd H a o a=Δ o:=by unfold upd;rw[if_pos rfl]
theorem av(h:b≠a):upd H a o b=H b:=by unfold upd;rw[if_neg h]
theorem we:upd (upd H a o) a u=upd H a u:=by funext b;unfold upd;split<;>rfl
theorem Dv{H:Hp}(h:H a=Δ o)(h':H b=Δ u)(d:o≠u):a≠b:=by intro e;subst e;rw[h] at h';exact d (Qx h')
theorem aL{H:Hp}(h:H a=Δ o)(h':H b=Θ):a≠b:=by intro e;subst e;rw[h] at h';cases h'
section
variable(P:QE)(w:World)
def bF(H:Hp)(h:Heap)(a:Addr):HO->Prop
 |.lst xs=>xs.length<=Qi/\∃(aC:List Value) (n:Nat),aM xs aC/\h.get? a=Δ {cls:=.type "list",data:=.seq aC.toArray n}|.tup xs=>xs.length<=Qi/\∃aC:List Value,aM xs aC/\IsTup h a aC.toArray|.dK kvs=>kvs.length<=Qi/\(a==Ri)=Ξ/\∃vs,KV kvs vs/\h.DictOf (aZ P w) a vs
 |.dT kvs=>kvs.length<=Qi/\(a==Ri)=Ξ/\∃xs:List (List Key×Addr×Value),
   Vf (λ(p:List Key×V) (q:List Key×Addr×Value)=>p.1=q.1/\H q.2.1=Δ (.tup (p.1.map kV))/\RelV p.2 q.2.2) kvs xs/\
   ∃o es ep,h.get? a=Δ o/\o.ExactDict/\o.data=.dict es ep/\es.toList=xs.map (entryOfKey (Ux (aZ P w)))/\(xs.map (·.1)).Nodup
 |.set S n=>h.SetOf (intKind P w) a S n
 |.ins C dx fs=>H dx=Δ (.own a)/\fs.length<=1000/\dx≠a/\h.get? a=Δ (RM C dx)/\
   ∃mA,h.Ns1 dx mA/\(∀f,gN (fs.lookup f) (mA f))/\Vj mA (fs.map (·.1))
 |.own _=>∃o,h.get? a=Δ o|.xd fs=>∃mA,h.Ns1 a mA/\∀f,gN (fs.lookup f) (mA f)|.jx lo hi=>∃t u v,h.get? a=Δ {cls:=.type "range",data:=.fields #[.int lo t,.int hi u,.int 1 v]}|.cF o u=>h.get? a=Δ o/\bF H h a u|.dc ps=>h.get? a=Δ {cls:=.none,data:=.fields ps}|.met f x=>h.get? a=Δ (Uk (.ref f) (.ref x))|.ext φ=>φ h/\(∃o,h.get? a=Δ o)/\∀h1 h2:Heap,φ h1->(∀o,h1.get? a=Δ o->h2.get? a=Δ o)->φ h2
def gi(H:Hp)(h:Heap):Prop:=∀a o,H a=Δ o->bF P w H h a o
end
section
variable{P:QE}{w:World}{H H':Hp}{h h':Heap}{a:Addr}{o:HO}
theorem bF.lt(x:bF P w H h a o):a < h.objs.size:=by cases o with|lst xs=>obtain⟨_,_,_,_,e⟩:=x;exact Qc e|tup xs=>obtain⟨_,_,_,p⟩:=x;exact p.lt|dK kvs=>obtain⟨_,_,_,_,o,_,_,e,_⟩:=x;exact Qc e|dT kvs=>obtain⟨_,_,_,_,o,_,_,e,_⟩:=x;exact Qc e|set S n=>obtain⟨o,_,_,_,e,_⟩:=x;exact Qc e|ins C dx fs=>obtain⟨_,_,_,e,_⟩:=x;exact Qc e|own y=>obtain⟨_,e⟩:=x;exact Qc e|xd fs=>obtain⟨_,⟨_,_,_,e,_⟩,_⟩:=x;exact Qc e|jx lo hi=>obtain⟨_,_,_,e⟩:=x;exact Qc e|cF ob u=>obtain⟨e,_⟩:=x;exact Qc e|dc ps=>exact Qc (show h.get? a=Δ _ from x)|met f y=>exact Qc (show h.get? a=Δ _ from x)|ext φ=>obtain⟨_,⟨_,e⟩,_⟩:=x;exact Qc e
theorem Vf.El:∀{yR} {yS},Vf F yR yS->(∀a b,F a b->G a b)->Vf G yR yS
 |_,_,.nil,_=>.nil|_,_,.cons r t,f=>.cons (f _ _ r) (Vf.El t f)
theorem bF.iK(x:bF P w H h a o)(k:∀b u,(b=a\/H b=Δ (.own a))->h.get? b=Δ u->h'.get? b=Δ u)
  (ho:∀b,H b=Δ (.own a)->H' b=Δ (.own a)) (ht:∀b xs,H b=Δ (.tup xs)->H' b=Δ (.tup xs)):bF P w H' h' a o:=by
 induction o with
 |lst xs=>obtain⟨z,aC,n,r,e⟩:=x;exact⟨z,aC,n,r,k _ _ (.inl rfl) e⟩|tup xs=>obtain⟨z,aC,r,ob,e,c⟩:=x;exact⟨z,aC,r,ob,k _ _ (.inl rfl) e,c⟩|dK kvs=>obtain⟨z,y,vs,r,ob,es,ep,e,c⟩:=x;exact⟨z,y,vs,r,ob,es,ep,k _ _ (.inl rfl) e,c⟩|dT kvs=>obtain⟨z,y,xs,r,ob,es,ep,e,c⟩:=x;exact⟨z,y,xs,Vf.El r λp q z=>⟨z.1,ht _ _ z.2.1,z.2.2⟩,ob,es,ep,k _ _ (.inl rfl) e,c⟩
 |set S n=>obtain⟨ob,es,ep,t,e,c⟩:=x;exact⟨ob,es,ep,t,k _ _ (.inl rfl) e,c⟩|ins C dx fs=>obtain⟨d,z,ne,e,mA,⟨od,es,ep,e2,c⟩,r⟩:=x;exact⟨ho _ d,z,ne,k _ _ (.inl rfl) e,mA,⟨od,es,ep,k _ _ (.inr d) e2,c⟩,r⟩
 |own y=>obtain⟨ob,e⟩:=x;exact⟨ob,k _ _ (.inl rfl) e⟩|xd fs=>obtain⟨mA,⟨od,es,ep,e,c⟩,r⟩:=x;exact⟨mA,⟨od,es,ep,k _ _ (.inl rfl) e,c⟩,r⟩|jx lo hi=>obtain⟨t,u,v,e⟩:=x;exact⟨t,u,v,k _ _ (.inl rfl) e⟩|cF ob u ih=>obtain⟨e,q⟩:=x;exact⟨k _ _ (.inl rfl) e,ih q⟩|dc ps=>have e:h.get? a=Δ {cls:=.none,data:=.fields ps}:=x;show h'.get? a=Δ {cls:=.none,data:=.fields ps};exact k a _ (.inl rfl) e
 |met f y=>have e:h.get? a=Δ (Uk (.ref f) (.ref y)):=x;show h'.get? a=Δ (Uk (.ref f) (.ref y));exact k a _ (.inl rfl) e|ext φ=>obtain⟨p,⟨o,e⟩,st⟩:=x;exact⟨st _ _ p λo q=>k _ _ (.inl rfl) q,⟨o,k _ _ (.inl rfl) e⟩,st⟩
theorem gi.lt(x:gi P w H h)(e:H a=Δ o):a < h.objs.size:=(x a o e).lt
theorem gi.fresh(x:gi P w H h)(e:h.objs.size<=a):H a=Θ:=by cases q:H a with|none=>rfl|some u=>exact absurd (Qj (x.lt q) e) (Rm _)
theorem gi.kept(x:gi P w H h)(k:∀b u,h.get? b=Δ u->h'.get? b=Δ u):gi P w H h':=λa o e=>(x a o e).iK (λb u _ q=>k b u q) (λ_ q=>q) λ_ _ q=>q
theorem gi.laid(x:gi P w H h)(k:∀b u,h.get? b=Δ u->h'.get? b=Δ u)(hp:h.objs.size<=a)(new:bF P w (upd H a o) h' a o):gi P w (upd H a o) h':=λb u e=>by
 have hn:=x.fresh hp;by_cases hb:b=a;·subst hb;rw[aA] at e;cases e;exact new
 ·rw[av hb] at e;exact(x b u e).iK (λc v _ q=>k c v q) (λc q=>by rw[av (aL q hn)];exact q) λc xs q=>by rw[av (aL q hn)];exact q
end
noncomputable def Rd(H:Hp)(a:Addr)(u:HO):Prop:=H a=Δ u\/∃o,H a=Δ (.cF o u)
theorem Rd.ok(r:Rd H a u)(x:gi P w H h):bF P w H h a u:=by
 rcases r with r|⟨o,r⟩;·exact x a u r
 ·obtain⟨_,q⟩:=x a _ r;exact q
noncomputable def Ij:Option HO->Prop
 |some (.lst _)=>True|some (.dK _)=>True|some (.dT _)=>True|some (.set _ _)=>True|some (.ins _ _ _)=>True|some (.ext _)=>True|_=>False
section
variable{P:QE}{w:World}{H:Hp}{h h':Heap}{x e:Addr}{o':HO}
theorem gi.write(ok:gi P w H h)(mu:Ij (H x))(he:e=x\/H e=Δ (.own x))(k:∀b u,b≠e->h.get? b=Δ u->h'.get? b=Δ u)(Hz:∃u,h'.get? e=Δ u)
  (new:bF P w (upd H x o') h' x o'):gi P w (upd H x o') h':=λb u q=>by
 have Ik:∀c y,H c=Δ (.own y)->c≠x:=λc y r z=>by subst z;rw[r] at mu;exact mu
 have MF:∀c xs,H c=Δ (.tup xs)->c≠x:=λc xs r z=>by subst z;rw[r] at mu;exact mu
 by_cases hb:b=x;·subst hb;rw[aA] at q;cases q;exact new
 ·rw[av hb] at q;by_cases Em:b=e
  ·have q':H b=Δ (.own x):=by
    rcases he with z|z;·exact absurd (Em.trans z) hb
    ·rw[Em];exact z
   rw[q] at q';cases q';obtain⟨v,hv⟩:=Hz;exact⟨v,by rw[Em];exact hv⟩
  ·refine(ok b u q).iK (λc v hc r=>k c v ?_ r) (λc r=>by rw[av (Ik c b r)];exact r) λc xs r=>by rw[av (MF c xs r)];exact r
   rcases hc with rfl|hc;·exact Em
   ·rintro rfl;rcases he with z|z;·exact Ik c b hc z
    ·rw[hc] at z;cases z;exact hb rfl
end
structure Un(fs ex:List Addr)(H H':Hp)(h h':Heap):Prop where
 keep:∀b o,h.get? b=Δ o->H b=Θ->b∉fs->b∉ex->h'.get? b=Δ o
 slot:∀b o,h.get? b=Δ o->H b=Θ->b∈fs->b∉ex->∃sl,h'.get? b=Δ {o with slots:=sl}
 free:∀b o,h.get? b=Δ o->H b=Θ->b∉ex->H' b=Θ
 there:∀b o,h.get? b=Δ o->b∉ex->∃o',h'.get? b=Δ o'
 ku:∀b xs,H b=Δ (.tup xs)->H' b=Δ (.tup xs)
 i5:∀b o u,H b=Δ (.cF o u)->H' b=Δ (.cF o u)
 jy:∀b ps,H b=Δ (.dc ps)->∃more,H' b=Δ (.dc (ps++more))
section
variable{fs fs' ex ex':List Addr}{H H1 H2:Hp}{h h1 h2 h':Heap}{a x e:Addr}{o:HO}
theorem Un.any(u:Un fs ex H H1 h h1)(q:h.get? b=Δ ob)(n:H b=Θ)(hx:b∉ex):∃sl,h1.get? b=Δ {ob with slots:=sl}:=by
 by_cases hb:b∈fs;·exact u.slot b ob q n hb hx
 ·exact⟨ob.slots,u.keep b ob q n hb hx⟩
theorem Un.kept(k:∀b u,h.get? b=Δ u->h'.get? b=Δ u):Un fs ex H H h h':=
 ⟨λb ob q _ _ _=>k b ob q,λb ob q _ _ _=>⟨ob.slots,k b ob q⟩,λ_ _ _ n _=>n,λb ob q _=>⟨ob,k b ob q⟩,λ_ _ q=>q,λ_ _ _ q=>q,λ_ ps q=>⟨#[],by rw[q];simp⟩⟩
theorem Un.refl:Un fs ex H H h h:=Un.kept λ_ _ q=>q
theorem Un.laid(k:∀b u,h.get? b=Δ u->h'.get? b=Δ u)(hp:h.objs.size<=a)(hn:H a=Θ):Un fs ex H (upd H a o) h h' where
 keep:=λb u q _ _ _=>k b u q
 slot:=λb u q _ _ _=>⟨u.slots,k b u q⟩
 free:=λb u q n _=>by rw[av (Qt (Qj (Qc q) hp))];exact n
 there:=λb u q _=>⟨u,k b u q⟩
 ku:=λb xs q=>by rw[av (aL q hn)];exact q
 i5:=λb u xs q=>by rw[av (aL q hn)];exact q
 jy:=λb ps q=>⟨#[],by rw[av (aL q hn),q];simp⟩
theorem Un.write(mu:Ij (H x))(he:e=x\/H e=Δ (.own x))(k:∀b u,b≠e->h.get? b=Δ u->h'.get? b=Δ u)(Hz:∃u,h'.get? e=Δ u):Un fs ex H (upd H x o) h h':=by
 have hx:∀b,H b=Θ->b≠x:=λb n z=>by subst z;rw[n] at mu;exact mu
 have hb:∀b,H b=Θ->b≠e:=λb n z=>by
  subst z;rcases he with r|r;·exact hx b n r
  ·rw[n] at r;cases r
 have hm:∀b u,H b=Δ u->¬Ij (Δ u)->b≠x:=λb u q nm z=>by subst z;rw[q] at mu;exact nm mu
 refine⟨λb u q n _ _=>k b u (hb b n) q,λb u q n _ _=>⟨u.slots,k b u (hb b n) q⟩,λb u q n _=>by rw[av (hx b n)];exact n,λb u q _=>?_,
  λb xs q=>by rw[av (hm b _ q λz=>z)];exact q,λb u xs q=>by rw[av (hm b _ q λz=>z)];exact q,λb ps q=>⟨#[],by rw[av (hm b _ q λz=>z),q];simp⟩⟩
 by_cases Em:b=e;·subst Em;exact Hz
 ·exact⟨u,k b u Em q⟩
end
noncomputable def lW(h:Heap)(H:Hp):List Addr:=(Rq h.objs.size).filter λa=>(H a).isSome
def lX(h:Heap)(H:Hp):Heap:=PySem.W.hideAll h (lW h H)
theorem pz h H:(lX h H).objs.size=h.objs.size:=PySem.W.hideAll_size _ _
theorem r8(e:h.get? b=Δ o)(n:H b=Θ):(lX h H).get? b=Δ o:=
 PySem.W.hideAll_get _ e λhm=>by have q:(H b).isSome=Λ:=(List.mem_filter.mp hm).2;rw[n] at q;simp at q
theorem wg(e:(lX h H).get? b=Δ o):h.get? b=Δ o/\H b=Θ:=by have e':h.get? b=Δ o:=PySem.W.of_hideAll (lW h H) e;refine⟨e',?_⟩;cases q:H b with|none=>rfl|some x=>have hm:b∈lW h H:=List.mem_filter.mpr ⟨List.mem_range.mpr (Qc e'),by simp[q]⟩;have z:(lX h H).get? b=Θ:=PySem.W.hideAll_none (lW h H) hm;rw[z] at e;cases e
structure Mod(K:P5)(mg:Str->Option Value)(base:Heap):Prop where
 wj:K.In base
 glob:base.Ns Qa mg
 blt:∃mb,base.Ns UN mb/\∀x:Str,x≠"__name__"->mb x=R5 x
 nolimit:base.NoLimit
structure Cx where
 prog:QE
 w:World
 K:P5
 mg:Str->Option Value
 base:Heap
 A:QY
 N:List Str
 dA:Qd
 oH:Hp
 env:Env
 outer:List Env
 stack:List Env
 ex:List Addr
 fn:Str->Bool
 calm:Bool
 pn:List (Addr×Obj)
 xe:Value->Qd->Prop
def dz(l:List Env):List Addr:=l.filterMap (·.frame)
abbrev Cx.fs(X:Cx):List Addr:=dz X.outer
def Il(sc:Scope)(x:Str):Prop:=sc.names.lookup x=Δ .local\/sc.names.lookup x=Δ .cell\/sc.names.lookup x=Δ .free
def Loc(sc:Scope)(x:Str):Prop:=sc.names.lookup x=Δ .local\/sc.names.lookup x=Δ .cell
def Look(env:Env)(h:Heap)(m:Str->Option Value)(x:Str)(u:Value):Prop:=
 (env.kindOf x=Δ .local/\m x=Δ u)\/((env.kindOf x=Δ .cell\/env.kindOf x=Δ .free)/\∃c,env.cells.lookup x=Δ c/\h.IsCell c (Δ u))
structure Cx.Ok(X:Cx):Prop where
 mod:Mod X.K X.mg X.base
 kind:X.env.scope.kind=.function
 glob:X.env.globals=Qa
 blt:X.env.builtins=UN
 above:X.dA.heap.objs.size<=X.env.locals
 inj:∀x y c,X.env.cells.lookup x=Δ c->X.env.cells.lookup y=Δ c->x=y
 has:∀x,(X.env.kindOf x=Δ .cell\/X.env.kindOf x=Δ .free)->∃c,X.env.cells.lookup x=Δ c
 Dw:∀x c,X.fn x=Λ->X.env.cells.lookup x=Δ c->X.dA.heap.objs.size<=c
 hd:X.calm=Λ->X.A.handled=Θ
 frames:X.A.frames=Δ X.stack
 HA:X.stack=X.outer\/(X.stack=X.env::X.outer/\X.env.frame=Δ X.env.locals)
 LL:∀b∈X.ex,b≠X.env.locals/\∀x c,X.env.cells.lookup x=Δ c->c≠b
 bs:∀b o,X.base.get? b=Δ o->X.dA.heap.get? b=Δ o/\X.oH b=Θ
 xq:X.base.objs.size<=X.dA.heap.objs.size
 uA:∀b o,X.base.get? b=Δ o->b∉X.ex
 xr:∀b∈X.ex,b∉X.fs
 fO:X.dA.heap.FunFrames X.base X.outer
 xt:∀b∈X.fs,X.oH b=Θ
structure Inv(X:Cx)(η:List (Addr×Obj))(σ:List (Option V))(H:Hp)(s:Qd):Prop where
 ok:X.Ok
 os:s.os=X.dA.os
 bare:T4 s.gens
 base:Un X.fs X.ex X.oH H X.dA.heap s.heap
 loc:∃m,s.heap.Ns X.env.locals m/\∀(i:Nat) (x:Str) (v:V),X.N[i]?=Δ x->σ[i]?=Δ (Δ v)->Il X.env.scope x->∃u,RelV v u/\Look X.env s.heap m x u
 cell:∀x c,X.env.cells.lookup x=Δ c->∃v,s.heap.IsCell c v
 free:H X.env.locals=Θ
 eZ:∀x c,X.env.cells.lookup x=Δ c->H c=Θ
 pin:∀p∈X.pn++η,s.heap.get? p.1=Δ p.2/\H p.1=Θ/\p.1≠X.env.locals/\p.1∉X.fs/\∀v,p.2.data≠.cell v
 aJ:gi X.prog X.w H s.heap
 len:σ.length=X.N.length
section
variable{X:Cx}{η:List (Addr×Obj)}{σ:List (Option V)}{H H':Hp}{s:Qd}{h':Heap}
theorem Cx.Ok.BB(ok:X.Ok)(e:X.base.get? b=Δ o):b∉X.fs:=λhb=>by have:=(ok.fO.mem hb).1;rw[e] at this;cases this
theorem Inv.bs(I:Inv X η σ H s):∀b o,X.base.get? b=Δ o->s.heap.get? b=Δ o/\H b=Θ:=λb o e=>⟨I.base.keep b o (I.ok.bs b o e).1 (I.ok.bs b o e).2 (I.ok.BB e) (I.ok.uA b o e),I.base.free b o (I.ok.bs b o e).1 (I.ok.bs b o e).2 (I.ok.uA b o e)⟩
theorem Inv.bk(I:Inv X η σ H s):∀b o,X.base.get? b=Δ o->s.heap.get? b=Δ o:=λb o e=>(I.bs b o e).1
theorem Inv.mod(I:Inv X η σ H s):Mod X.K X.mg X.base:=I.ok.mod
theorem Inv.gM(I:Inv X η σ H s):X.K.In s.heap:=I.ok.mod.wj.keeps I.bk
theorem Inv.lt(I:Inv X η σ H s):X.env.locals < s.heap.objs.size:=let ⟨_,hn,_⟩:=I.loc;hn.lt
theorem Inv.sz(I:Inv X η σ H s):X.dA.heap.objs.size<=s.heap.objs.size:=QJ I.ok.above (Te I.lt)
theorem Inv.MG(I:Inv X η σ H s)(h:s.heap.objs.size<=a):a∉X.fs:=λhb=>by obtain⟨_,o,ho,_⟩:=I.ok.fO.mem hb;exact absurd (Qj (Qc ho) (QJ I.sz h)) (Rm _)
theorem Inv.BC(I:Inv X η σ H s):∀x c,X.env.cells.lookup x=Δ c->c≠X.env.locals:=λx c e z=>by obtain⟨v,o,ho,hd⟩:=I.cell x c e;obtain⟨m,⟨o',es,ep,ky,xu,_⟩,_⟩:=I.loc;rw[z,ky] at ho;cases ho;rw[xu] at hd;cases hd
theorem Inv.fO(I:Inv X η σ H s):s.heap.FunFrames X.base X.outer:=by
 have all:∀(l:List Env),(∀b∈dz l,b∈X.fs)->X.dA.heap.FunFrames X.base l->s.heap.FunFrames X.base l:=by intro l;induction l with|nil=>intro _ _;trivial|cons env r ih=>intro hs hl;obtain⟨hk,⟨L,o,hf,hn,ho,hd⟩,hr⟩:=hl;have hL:L∈X.fs:=hs L (by unfold dz;rw[Ru,hf];exact P7);obtain⟨sl,e⟩:=I.base.slot L o ho (I.ok.xt L hL) hL λz=>I.ok.xr L z hL;exact⟨hk,⟨L,_,hf,hn,e,hd⟩,ih (λb hb=>hs b (by unfold dz;rw[Ru,hf];exact P6 _ hb)) hr⟩
 exact all X.outer (λ_ hb=>hb) I.ok.fO
theorem Inv.stack(I:Inv X η σ H s):s.heap.FunFrames X.base X.stack:=by
 rcases I.ok.HA with e|⟨e,hf⟩;·rw[e];exact I.fO
 ·rw[e];obtain⟨m,hn,_⟩:=I.loc;refine .cons (by rw[I.ok.kind];decide) hf hn ?_ I.fO;exact Heap.get?_none_of_le (QJ I.ok.xq I.ok.above)
theorem Inv.kz(I:Inv X η σ H s):∀b∈dz X.stack,b∈X.env.locals::X.fs:=λb hb=>by
 rcases I.ok.HA with e|⟨e,hf⟩;·rw[e] at hb;exact P6 _ hb
 ·rw[e] at hb;unfold dz at hb;rw[Ru,hf] at hb;exact hb
theorem Inv.jz(I:Inv X η σ H s):∀b∈dz X.stack,H b=Θ:=λb hb=>by
 rcases Uu.mp (I.kz b hb) with e|hb;·rw[e];exact I.free
 ·obtain⟨_,o,ho,_⟩:=I.ok.fO.mem hb;exact I.base.free b o ho (I.ok.xt b hb) λz=>I.ok.xr b z hb
theorem Inv.step{ch:List Addr}(I:Inv X η σ H s)(Bk:∀b∈ch,(b∈X.ex\/X.dA.heap.objs.size<=b)/\b≠X.env.locals/\(∀x c,X.env.cells.lookup x=Δ c->c≠b)/\∀p∈X.pn++η,p.1≠b)(keep:∀b o,b≠X.env.locals->b∉X.fs->b∉ch->s.heap.get? b=Δ o->H b=Θ->h'.get? b=Δ o)(slot:∀b o,b≠X.env.locals->b∈X.fs->b∉ch->s.heap.get? b=Δ o->H b=Θ->∃sl,h'.get? b=Δ {o with slots:=sl})(free:∀b o,b∉ch->s.heap.get? b=Δ o->H b=Θ->H' b=Θ)(there:∀b o,b∉ch->s.heap.get? b=Δ o->∃o',h'.get? b=Δ o')(ku:∀b xs,H b=Δ (.tup xs)->H' b=Δ (.tup xs))(i5:∀b o u,H b=Δ (.cF o u)->H' b=Δ (.cF o u))(jy:∀b ps,H b=Δ (.dc ps)->∃more,H' b=Δ (.dc (ps++more)))(ns:∀m,s.heap.Ns X.env.locals m->h'.Ns X.env.locals m)(aJ:gi X.prog X.w H' h')(hg:T4 g'):
  Inv X η σ H' {s with heap:=h',gens:=g',drawn:=d',toks:=t'}:=by
 have neL:∀b o,X.dA.heap.get? b=Δ o->b≠X.env.locals:=λb o e=>Qt (Qj (Qc e) I.ok.above);have LM:∀b o,X.dA.heap.get? b=Δ o->b∉X.ex->b∉ch:=λb o e hx hb=>by
  rcases(Bk b hb).1 with z|z;·exact hx z
  ·exact absurd (Qj (Qc e) z) (Rm _)
 have cellK:∀x c,X.env.cells.lookup x=Δ c->∀v,s.heap.IsCell c v->h'.IsCell c v:=λx c e v ⟨o,ho,hd⟩=>by
  have Im:c∉ch:=λz=>(Bk c z).2.2.1 x c e rfl;by_cases hc:c∈X.fs;·obtain⟨sl,q⟩:=slot c o (I.BC x c e) hc Im ho (I.eZ x c e);exact⟨_,q,hd⟩
  ·exact⟨o,keep c o (I.BC x c e) hc Im ho (I.eZ x c e),hd⟩
 refine⟨I.ok,I.os,hg,⟨λb o e n hb hx=>?_,λb o e n hb hx=>?_,λb o e n hx=>?_,λb o e hx=>?_,λb xs e=>ku b xs (I.base.ku b xs e),λb o xs e=>i5 b o xs (I.base.i5 b o xs e),λb ps e=>?_⟩,?_,λx c e=>?_,?_,λx c e=>?_,λp hp=>?_,aJ,I.len⟩;·exact keep b o (neL b o e) hb (LM b o e hx) (I.base.keep b o e n hb hx) (I.base.free b o e n hx)
 ·obtain⟨sl,e1⟩:=I.base.slot b o e n hb hx;obtain⟨sl',e2⟩:=slot b _ (neL b o e) hb (LM b o e hx) e1 (I.base.free b o e n hx);exact⟨sl',e2⟩
 ·obtain⟨o',e1⟩:=I.base.there b o e hx;exact free b o' (LM b o e hx) e1 (I.base.free b o e n hx)
 ·obtain⟨o',e1⟩:=I.base.there b o e hx;exact there b o' (LM b o e hx) e1
 ·obtain⟨m1,e1⟩:=I.base.jy b ps e;obtain⟨m2,e2⟩:=jy b _ e1;exact⟨m1++m2,by rw[e2,Ue]⟩
 ·obtain⟨m,hn,hl⟩:=I.loc;refine⟨m,ns m hn,λi x v e1 e2 e3=>?_⟩;obtain⟨u,r,l⟩:=hl i x v e1 e2 e3;refine⟨u,r,?_⟩;rcases l with l|⟨k,c,e,z⟩;·exact .inl l
  ·exact .inr ⟨k,c,e,cellK x c e _ z⟩
 ·obtain⟨v,z⟩:=I.cell x c e;exact⟨v,cellK x c e v z⟩
 ·obtain⟨m,⟨o,_,_,ho,_⟩,_⟩:=I.loc;exact free _ o (λz=>(Bk _ z).2.1 rfl) ho I.free
 ·obtain⟨v,o,ho,hd⟩:=I.cell x c e;exact free c o (λz=>(Bk c z).2.2.1 x c e rfl) ho (I.eZ x c e)
 ·obtain⟨e,n,ne,nf,d⟩:=I.pin p hp;have Im:p.1∉ch:=λz=>(Bk p.1 z).2.2.2 p hp rfl;exact⟨keep p.1 p.2 ne nf Im e n,free p.1 p.2 Im e n,ne,nf,d⟩
theorem Inv.un(I:Inv X η σ H s)(u:Un X.fs [] H H' s.heap h')(aJ:gi X.prog X.w H' h'):Inv X η σ H' {s with heap:=h',toks:=t'}:=by obtain⟨m,⟨o,es,ep,ho,r⟩,_⟩:=id I.loc;obtain⟨sl,hL⟩:=u.any ho I.free (by simp);exact I.step (g':=s.gens) (d':=s.drawn) (ch:=[]) (λ_ z=>nomatch z) (λb o _ hb _ e n=>u.keep b o e n hb (by simp)) (λb o _ hb _ e n=>u.slot b o e n hb (by simp)) (λb o _ e n=>u.free b o e n (by simp)) (λb o _ e=>u.there b o e (by simp)) u.ku u.i5 u.jy (λm' hm=>by obtain⟨o',LN,LO,ky,r'⟩:=hm;rw[ho] at ky;cases ky;exact⟨_,LN,LO,hL,r'⟩) aJ I.bare
theorem Inv.call(I:Inv X η σ H s)(u:Un (dz X.stack) ch H H' s.heap h')(aJ:gi X.prog X.w H' h')(hg:T4 g')(Bk:∀b∈ch,(b∈X.ex\/X.dA.heap.objs.size<=b)/\b≠X.env.locals/\(∀x c,X.env.cells.lookup x=Δ c->c≠b)/\∀p∈X.pn++η,p.1≠b):
  Inv X η σ H' {s with heap:=h',gens:=g',drawn:=d',toks:=t'}:=by
 obtain⟨m,⟨o,es,ep,ho,r⟩,_⟩:=id I.loc;obtain⟨sl,hL⟩:=u.any ho I.free λz=>(Bk _ z).2.1 rfl;exact I.step (ch:=ch) Bk (λb o hL hb hc e n=>u.keep b o e n (λz=>(Uu.mp (I.kz b z)).elim hL hb) hc) (λb o _ _ hc e n=>u.any e n hc) (λb o hc e n=>u.free b o e n hc) (λb o hc e=>u.there b o e hc) u.ku u.i5 u.jy (λm' hm=>by obtain⟨o',LN,LO,ky,r'⟩:=hm;rw[ho] at ky;cases ky;exact⟨_,LN,LO,hL,r'⟩) aJ hg
theorem Inv.turned(I:Inv X η σ H s)(k:∀b o,b≠it->s.heap.get? b=Δ o->h'.get? b=Δ o)(hn:H it=Θ)(hL:it≠X.env.locals)(h1:it∈X.ex\/X.dA.heap.objs.size<=it)(h2:∀x c,X.env.cells.lookup x=Δ c->c≠it)(h3:∀p∈X.pn++η,p.1≠it):Inv X η σ H {s with heap:=h',toks:=t'}:=by
 have yT:∀b u,H b=Δ u->b≠it:=λb u e z=>by rw[z,hn] at e;cases e
 refine I.step (g':=s.gens) (d':=s.drawn) (ch:=[it]) (λb hb=>?_) (λb o _ _ hc e _=>k b o (λz=>hc (by simp[z])) e) (λb o _ _ hc e _=>⟨o.slots,k b o (λz=>hc (by simp[z])) e⟩) (λ_ _ _ _ n=>n)
  (λb o hc e=>⟨o,k b o (λz=>hc (by simp[z])) e⟩) (λ_ _ e=>e) (λ_ _ _ e=>e) (λb ps e=>⟨#[],by rw[e];simp⟩) (λm hm=>?_) (λb u e=>?_) I.bare
 ·have e:b=it:=by simpa using hb
  subst e;exact⟨h1,hL,h2,h3⟩
 ·obtain⟨o,es,ep,ho,r⟩:=hm;exact⟨o,es,ep,k _ o (Q5 hL) ho,r⟩
 ·refine(I.aJ b u e).iK (λc v hc q=>k c v ?_ q) (λ_ q=>q) λ_ _ q=>q;rcases hc with z|z;·rw[z];exact yT b u e
  ·exact yT c _ z
theorem Inv.tok(I:Inv X η σ H s)t:Inv X η σ H {s with toks:=t}:=I.un (h':=s.heap) (t':=t) Un.refl I.aJ
theorem Inv.kept(I:Inv X η σ H s)(k:∀b u,s.heap.get? b=Δ u->h'.get? b=Δ u):Inv X η σ H {s with heap:=h',toks:=t'}:=I.un (Un.kept k) (I.aJ.kept k)
theorem Inv.laid(I:Inv X η σ H s)(k:∀b u,s.heap.get? b=Δ u->h'.get? b=Δ u)(hp:s.heap.objs.size<=a)(new:bF X.prog X.w (upd H a o) h' a o):
  Inv X η σ (upd H a o) {s with heap:=h',toks:=t'}:=I.un (Un.laid k hp (I.aJ.fresh hp)) (I.aJ.laid k hp new)
theorem Inv.write(I:Inv X η σ H s)(mu:Ij (H x))(he:e=x\/H e=Δ (.own x))(k:∀b u,b≠e->s.heap.get? b=Δ u->h'.get? b=Δ u)(Hz:∃u,h'.get? e=Δ u)(new:bF X.prog X.w (upd H x o) h' x o):Inv X η σ (upd H x o) {s with heap:=h',toks:=t'}:=I.un (Un.write mu he k Hz) (I.aJ.write mu he k Hz new)
theorem Inv.qk(I:Inv X η σ H s)(h:∀p∈Io,s.heap.get? p.1=Δ p.2/\H p.1=Θ/\p.1≠X.env.locals/\p.1∉X.fs/\∀v,p.2.data≠.cell v):Inv X Io σ H s:=
 ⟨I.ok,I.os,I.bare,I.base,I.loc,I.cell,I.free,I.eZ,λp hp=>(List.mem_append.mp hp).elim (λz=>I.pin p (RG _ z)) (h p),I.aJ,I.len⟩
theorem gO{N:List Str}(hN:N.Nodup){i j:Nat}(a:N[i]?=Δ x)(b:N[j]?=Δ x):i=j:=by obtain⟨h1,e1⟩:=qqz a;obtain⟨h2,e2⟩:=qqz b;exact(List.getElem_inj hN).mp (e1.trans e2.symm)
theorem xw(I:Inv X η σ H s)(hN:X.N.Nodup)(hi:X.N[i]?=Δ x)(hx:Loc X.env.scope x)(r:RelV v u)(h:∀s',Inv X η (σ.set i (Δ v)) H s'->(∃a,RO a s.heap s'.heap/\(a=X.env.locals\/X.env.cells.lookup x=Δ a))->Q () s')(hf:X.fn x=Λ\/X.env.scope.names.lookup x=Δ .local:=by first|exact .inl rfl|exact .inr rfl|assumption):wpAny M A (storeName X.env x u) Q E s:=by
 obtain⟨m,hn,hl⟩:=id I.loc;have MH:(X.env.scope.kind==.class||(X.env.scope.kind==.module&&X.env.locals !=X.env.globals))=Ξ:=by rw[I.ok.kind];rfl
 have Ip:i < σ.length:=by rw[I.len];exact(qqz hi).1
 have BC:=I.BC;have tracked:∀{a:Addr} {h':Heap},(∃o,s.heap.get? a=Δ o/\H a=Θ)->RO a s.heap h'->gi X.prog X.w H h':=λ{a h'} ha hs b ob e=>by
  obtain⟨_,_,r9⟩:=ha;refine(I.aJ b ob e).iK (λc w' hc q=>(hs.2 c ?_).trans q) (λ_ q=>q) λ_ _ q=>q;rintro rfl;rcases hc with rfl|hc;·rw[r9] at e;cases e
  ·rw[r9] at hc;cases hc
 rcases hx with hk|hk
 ·refine wpAny_storeName_local hk hn (λh' uB hs=>?_) MH;obtain⟨oL,_,_,hoL,_⟩:=id hn;refine h _ ⟨I.ok,I.os,I.bare,⟨λb o e n hb hx=>?_,λb o e n hb hx=>?_,I.base.free,λb o e hx=>?_,I.base.ku,I.base.i5,I.base.jy⟩,⟨_,uB,λj y v' e1 e2 e3=>?_⟩,λy c e=>?_,I.free,I.eZ,λp hp=>?_,tracked ⟨oL,hoL,I.free⟩ hs,by simpa using I.len⟩ ⟨_,hs,.inl rfl⟩;·exact(hs.2 b (Qt (Qj (Qc e) I.ok.above))).trans (I.base.keep b o e n hb hx)
  ·obtain⟨sl,e1⟩:=I.base.slot b o e n hb hx;exact⟨sl,(hs.2 b (Qt (Qj (Qc e) I.ok.above))).trans e1⟩
  ·obtain⟨o',e1⟩:=I.base.there b o e hx;exact⟨o',(hs.2 b (Qt (Qj (Qc e) I.ok.above))).trans e1⟩
  ·by_cases hj:j=i;·subst hj;rw[hi] at e1;cases e1;rw[Q6 Ip] at e2;cases e2;exact⟨u,r,.inl ⟨hk,by simp⟩⟩
   ·rw[RJ (Q5 hj)] at e2;obtain⟨u',r',q⟩:=hl j y v' e1 e2 e3;refine⟨u',r',?_⟩;rcases q with ⟨k,e⟩|⟨k,c,e,z⟩
    ·refine .inl ⟨k,?_⟩;have:y≠x:=λe=>hj (gO hN e1 (e▸hi));simp[this,e]
    ·exact .inr ⟨k,c,e,z.sameBut hs (BC y c e)⟩
  ·obtain⟨w',z⟩:=I.cell y c e;exact⟨w',z.sameBut hs (BC y c e)⟩
  ·obtain⟨e,n,ne,nf,d⟩:=I.pin p hp;exact⟨(hs.2 p.1 ne).trans e,n,ne,nf,d⟩
 ·have wm:X.fn x=Λ:=by
   rcases hf with z|z;·exact z
   ·rw[z] at hk;cases hk
  obtain⟨c,hc⟩:=I.ok.has x (.inl hk);obtain⟨w',z⟩:=I.cell x c hc;refine wpAny_storeName_cell I.ok.kind hk hc z (λh' Bl hs=>?_);obtain⟨oc,En,MI⟩:=id z;refine h {s with heap:=h'} ⟨I.ok,I.os,I.bare,⟨λb o e n hb hx=>?_,λb o e n hb hx=>?_,I.base.free,λb o e hx=>?_,I.base.ku,I.base.i5,I.base.jy⟩,⟨m,hn.sameBut hs (Q5 (BC x c hc)),λj y v' e1 e2 e3=>?_⟩,λy c' e=>?_,I.free,I.eZ,λp hp=>?_,tracked ⟨oc,En,I.eZ x c hc⟩ hs,by simpa using I.len⟩ ⟨c,hs,.inr hc⟩;·exact(hs.2 b (Qt (Qj (Qc e) (I.ok.Dw x c wm hc)))).trans (I.base.keep b o e n hb hx)
  ·obtain⟨sl,e1⟩:=I.base.slot b o e n hb hx;exact⟨sl,(hs.2 b (Qt (Qj (Qc e) (I.ok.Dw x c wm hc)))).trans e1⟩
  ·obtain⟨o',e1⟩:=I.base.there b o e hx;exact⟨o',(hs.2 b (Qt (Qj (Qc e) (I.ok.Dw x c wm hc)))).trans e1⟩
  ·by_cases hj:j=i;·subst hj;rw[hi] at e1;cases e1;rw[Q6 Ip] at e2;cases e2;exact⟨u,r,.inr ⟨.inl hk,c,hc,Bl⟩⟩
   ·rw[RJ (Q5 hj)] at e2;obtain⟨u',r',q⟩:=hl j y v' e1 e2 e3;refine⟨u',r',?_⟩;rcases q with q|⟨k,c',e,z'⟩;·exact .inl q
    ·refine .inr ⟨k,c',e,z'.sameBut hs ?_⟩;rintro rfl;exact hj (gO hN e1 (I.ok.inj _ _ _ e hc▸hi))
  ·by_cases Iq:c'=c;·subst Iq;exact⟨_,Bl⟩
   ·obtain⟨w2,z2⟩:=I.cell y c' e;exact⟨w2,z2.sameBut hs Iq⟩
  ·obtain⟨e,n,ne,nf,d⟩:=I.pin p hp;refine⟨(hs.2 p.1 ?_).trans e,n,ne,nf,d⟩;intro q;rw[q,En] at e;have q':oc=p.2:=Qx e;exact d w' (by rw[<-q'];exact MI)
theorem gP(I:Inv X η σ H s)(hN:X.N.Nodup)(hi:X.N[i]?=Δ x)(hx:Loc X.env.scope x)(r:RelV v u)(h:∀s',Inv X η (σ.set i (Δ v)) H s'->Q () s')(hf:X.fn x=Λ\/X.env.scope.names.lookup x=Δ .local:=by first|exact .inl rfl|exact .inr rfl|assumption):wpAny M A (storeName X.env x u) Q E s:=
 xw I hN hi hx r (λs' I' _=>h s' I') hf
theorem Inv.yU(I:Inv X η σ H s)(ho:s'.os=s.os)(u:Un (dz X.stack) ch H H' s.heap s'.heap)(aJ:gi X.prog X.w H' s'.heap)(hg:T4 s'.gens)(Bk:∀b∈ch,(b∈X.ex\/X.dA.heap.objs.size<=b)/\b≠X.env.locals/\(∀x c,X.env.cells.lookup x=Δ c->c≠b)/\∀p∈X.pn++η,p.1≠b):Inv X η σ H' s':=by obtain⟨h',g',d',t',o'⟩:=s';have e:o'=s.os:=ho;subst e;exact I.call (g':=g') (t':=t') (d':=d') u aJ hg Bk
end
abbrev XK:=Value->Option Addr->Hp->Prop
abbrev St:=List (Option V)
abbrev VK:=V->Hp->Prop
abbrev TE:=St->Hp->VK->Prop
abbrev TT:=St->Hp->(Bool->Hp->Prop)->Prop
abbrev TA:=St->Hp->(List V->Hp->Prop)->Prop
structure Ends where
 nx:St->Hp->Prop
 rt:VK
 bk:St->Hp->Prop:=λ_ _=>False
 ct:St->Hp->Prop:=λ_ _=>False
abbrev TS:=Ends->St->Hp->Prop
inductive EP (X:Cx) (η:List (Addr×Obj)) (σ:St) (Q:VK) (u:Value) (s':Qd):Prop
 |mk (v:V) (H':Hp) (a:Inv X η σ H' s') (b:RelV v u) (c:Q v H'):EP X η σ Q u s'
inductive TP (X:Cx) (η:List (Addr×Obj)) (σ:St) (Q:Bool->Hp->Prop) (b:Bool) (s':Qd):Prop
 |mk (H':Hp) (a:Inv X η σ H' s') (c:Q b H'):TP X η σ Q b s'
inductive AP (X:Cx) (η:List (Addr×Obj)) (σ:St) (Q:List V->Hp->Prop) (us:List Value) (s':Qd):Prop
 |mk (vs:List V) (H':Hp) (a:Inv X η σ H' s') (b:aM vs us) (c:Q vs H'):AP X η σ Q us s'
def SP(X:Cx)(η:List (Addr×Obj))(D:Ends)(f:Flow)(s':Qd):Prop:=
 match f with|.next=>∃cn H',Inv X η cn H' s'/\D.nx cn H'|.brk=>∃cn H',Inv X η cn H' s'/\D.bk cn H'|.cont=>∃cn H',Inv X η cn H' s'/\D.ct cn H'|.ret u=>∃v cn H',Inv X η cn H' s'/\RelV v u/\D.rt v H'
noncomputable def PE(X:Cx)(e:Expr)(t:TE):Prop:=
 ∀(η:List (Addr×Obj)) (s:Qd) (σ:St) (H:Hp) (Q:VK),Inv X η σ H s->t σ H Q->wpAny (model X.prog X.w) X.A (eval e X.env) (EP X η σ Q) X.xe s
noncomputable def PT(X:Cx)(e:Expr)(t:TT):Prop:=
 ∀(η:List (Addr×Obj)) (s:Qd) (σ:St) (H:Hp) (Q:Bool->Hp->Prop),Inv X η σ H s->t σ H Q->wpAny (model X.prog X.w) X.A (Vp e X.env (eval e X.env)) (TP X η σ Q) X.xe s
noncomputable def PW(X:Cx)(e:Expr)(t:TT):Prop:=
 ∀(whole:Sem Value) (η:List (Addr×Obj)) (s:Qd) (σ:St) (H:Hp) (Q:Bool->Hp->Prop),Inv X η σ H s->t σ H Q->wpAny (model X.prog X.w) X.A (Vp e X.env whole) (TP X η σ Q) X.xe s
theorem PW.pt(h:PW X e t):PT X e t:=h _
noncomputable def PA(X:Cx)(es:List Expr)(t:TA):Prop:=
 ∀(pos:Pos) (η:List (Addr×Obj)) (s:Qd) (σ:St) (H:Hp) (Q:List V->Hp->Prop),Inv X η σ H s->t σ H Q->wpAny (model X.prog X.w) X.A (spliced (Rx pos (Qo es X.env))) (AP X η σ Q) X.xe s
def PS(X:Cx)(st:Stmt)(t:TS):Prop:=
 ∀(η:List (Addr×Obj)) (s:Qd) (σ:St) (H:Hp) (D:Ends),Inv X η σ H s->t D σ H->wpAny (model X.prog X.w) X.A (exec st X.env) (SP X η D) X.xe s
def iq(X:Cx)(st:List Stmt)(t:TS):Prop:=
 ∀(η:List (Addr×Obj)) (s:Qd) (σ:St) (H:Hp) (D:Ends),Inv X η σ H s->t D σ H->wpAny (model X.prog X.w) X.A (execs st X.env) (SP X η D) X.xe s
theorem bG(h:wpAny M A t Q E s)(hQ:∀a s,Q a s->Q' a s):wpAny M A t Q' E s:=QS h hQ λ_ _ x=>x
section
variable{X:Cx}
theorem bin(ha:PE X a ta)(hb:PE X b tb){R:V->V->Hp->Prop}(I:Inv X η σ H s)(h:ta σ H λx H1=>tb σ H1 λy H2=>R x y H2){α:Type}{Q:α->Qd->Prop}{f:Value->Value->Sem α}(hf:∀v u s2 x y H2,Inv X η σ H2 s2->RelV x v->RelV y u->R x y H2->wpAny (model X.prog X.w) X.A (f v u) Q X.xe s2):
  wpAny (model X.prog X.w) X.A (eval a X.env) (λv bC=>wpAny (model X.prog X.w) X.A (eval b X.env) (λu jA=>wpAny (model X.prog X.w) X.A (f v u) Q X.xe jA) X.xe bC) X.xe s:=by
 refine bG (ha η s σ H _ I h) λv s1 ⟨x,H1,I1,r1,q1⟩=>?_;refine bG (hb η s1 σ H1 _ I1 q1) λu s2 ⟨y,H2,I2,r2,q2⟩=>?_;exact hf v u s2 x y H2 I2 r1 r2 q2
def MJ(i:Nat):TE:=λσ H Q=>∃v,σ[i]?=Δ (Δ v)/\Q v H
def tC(v:V):TE:=λ_ H Q=>Q v H
theorem mJ(hN:X.N[i]?=Δ x)(hv:Il X.env.scope x)(hd:(x==("__debug__":Str))=Ξ:=by decide)(iR:(x==("__classdict__":Str))=Ξ:=by decide):PE X (.Name x pos) (MJ i):=by
 intro η s σ H Q I h;obtain⟨v,e,h⟩:=h;obtain⟨m,hn,hl⟩:=I.loc;obtain⟨u,r,l⟩:=hl i x v hN e hv;have fin:EP X η σ Q u s:=⟨v,H,I,r,h⟩;rcases l with ⟨hk,hm⟩|⟨hk,c,hc,jB⟩
 ·exact Vv (wpAny_loadName_local I.ok.kind hk hn hm fin) hd
 ·rcases hk with hk|hk;·exact Vv (wpAny_loadName_cell I.ok.kind hk hc jB fin) hd
  ·exact Vv (wpAny_loadName_free I.ok.kind hk hc jB fin iR) hd
theorem uC{i j pos}:PE X (.Constant (.int i) j pos) (tC (.int i)):=λ_ _ _ H _ I h=>wpAny_Constant_int ⟨.int i,H,I.tok _,⟨_,rfl⟩,h⟩
theorem wo{b j pos}:PE X (.Constant (.bool b) j pos) (tC (.bl b)):=λ_ _ _ H _ I h=>Constant_bool ⟨.bl b,H,I,rfl,h⟩
theorem yV{j pos}:PE X (.Constant .none j pos) (tC .bu):=λ_ _ _ H _ I h=>Constant_none ⟨.bu,H,I,rfl,h⟩
theorem uD{x j pos}:PE X (.Constant (.str x) j pos) (tC (.str x)):=λ_ _ _ H _ I h=>Calls.Constant_str ⟨.str x,H,I.tok _,⟨_,rfl⟩,h⟩
def Gl(X:Cx)(x:Str):Prop:=X.env.kindOf x=Δ .globalImplicit
theorem fz(I:Inv X η σ H s)(hg:Gl X x)(hm:X.mg x=Δ u)(h:Q u s)(hd:(x==("__debug__":Str))=Ξ:=by decide):wpAny (model X.prog X.w) X.A (eval (.Name x pos) X.env) Q E s:=
 RW I.ok.kind hg (S7 (by rw[I.ok.glob];exact I.mod.glob.keeps I.bk) hm h) hd
theorem gk(I:Inv X η σ H s)(hg:Gl X x)(hm:X.mg x=Θ)(hv:R5 x=Δ u)(h:Q u s)(hn:x≠"__name__":=by decide)(hd:(x==("__debug__":Str))=Ξ:=by decide):wpAny (model X.prog X.w) X.A (eval (.Name x pos) X.env) Q E s:=by obtain⟨mb,h1,h2⟩:=I.mod.blt;exact RW I.ok.kind hg (Calls.loadGlobal_builtin (by rw[I.ok.glob];exact I.mod.glob.keeps I.bk) hm (by rw[I.ok.blt];exact h1.keeps I.bk) ((h2 x hn).trans hv) h) hd
theorem ql(hg:Gl X x)(hm:X.mg x=Δ u)(r:RelV v u)(hd:(x==("__debug__":Str))=Ξ:=by decide):PE X (.Name x pos) (tC v):=
 λ_ _ _ H _ I h=>fz I hg hm ⟨v,H,I,r,h⟩ hd
theorem wq(hg:Gl X x)(hm:X.mg x=Θ)(hv:R5 x=Δ u)(r:RelV v u)(hn:x≠"__name__":=by decide)(hd:(x==("__debug__":Str))=Ξ:=by decide):PE X (.Name x pos) (tC v):=
 λ_ _ _ H _ I h=>gk I hg hm hv ⟨v,H,I,r,h⟩ hn hd
variable{a b:Expr}{ta tb:TE}{pos:Pos}
variable{tA LP:TT}{rest:List Expr}
noncomputable def MK(t u:TT):TT:=λσ H Q=>t σ H λc H1=>if c=Λ then u σ H1 Q else Q Ξ H1
noncomputable def tOr(t u:TT):TT:=λσ H Q=>t σ H λc H1=>if c=Λ then Q Λ H1 else u σ H1 Q
def ML(t:TT):TT:=λσ H Q=>t σ H λc H1=>Q (!c) H1
theorem pw_and1(ha:PT X a tA):PW X (.BoolOp .And [a] pos) tA:=by intro wh η s σ H Q I h;refine isTrue_and (bG (ha η s σ H Q I h) λc s1 e=>?_);cases c with|true=>exact isTrue_and_nil e|false=>exact e
theorem pw_or1(ha:PT X a tA):PW X (.BoolOp .Or [a] pos) tA:=by intro wh η s σ H Q I h;refine isTrue_or (bG (ha η s σ H Q I h) λc s1 e=>?_);cases c with|false=>exact isTrue_or_nil e|true=>exact e
theorem pw_and(ha:PT X a tA)(hb:PW X (.BoolOp .And (b::rest) pos) LP):PW X (.BoolOp .And (a::b::rest) pos) (MK tA LP):=by intro wh η s σ H Q I h;refine isTrue_and (bG (ha η s σ H _ I h) λc s1 ⟨H1,I1,q1⟩=>?_);cases c with|true=>exact hb wh η s1 σ H1 Q I1 q1|false=>exact⟨H1,I1,q1⟩
theorem pw_or(ha:PT X a tA)(hb:PW X (.BoolOp .Or (b::rest) pos) LP):PW X (.BoolOp .Or (a::b::rest) pos) (tOr tA LP):=by intro wh η s σ H Q I h;refine isTrue_or (bG (ha η s σ H _ I h) λc s1 ⟨H1,I1,q1⟩=>?_);cases c with|true=>exact⟨H1,I1,q1⟩|false=>exact hb wh η s1 σ H1 Q I1 q1
theorem Eo(ha:PT X a tA):PT X (.UnaryOp .Not a pos) (ML tA):=by intro η s σ H Q I h;exact isTrue_not (bG (ha η s σ H (λc H1=>Q (!c) H1) I h) λc s1 ⟨H1,I1,q⟩=>⟨H1,I1,q⟩)
def Ir(ta tb:TE):TE:=λσ H Q=>ta σ H λx H1=>∃c,x=.bl c/\if c=Λ then tb σ H1 Q else Q (.bl Ξ) H1
def MM(ta tb:TE):TE:=λσ H Q=>ta σ H λx H1=>∃c,x=.bl c/\if c=Λ then Q (.bl Λ) H1 else tb σ H1 Q
theorem uE{op}(h:PE X a t):PE X (.BoolOp op [a] pos) t:=λη s σ H Q I hw=>BoolOp_one (h η s σ H Q I hw)
theorem yW(ha:PE X a ta)(hb:PE X (.BoolOp .And (b::rest) pos) tb):PE X (.BoolOp .And (a::b::rest) pos) (Ir ta tb):=by intro η s σ H Q I h;refine BoolOp_and (bG (ha η s σ H _ I h) λv s1 ⟨x,H1,I1,r1,q1⟩=>?_);obtain⟨c,rfl,q1⟩:=q1;cases r1;refine Rn ?_;cases c with|true=>exact hb η s1 σ H1 Q I1 q1|false=>exact⟨.bl Ξ,H1,I1,rfl,q1⟩
theorem Iu(ha:PE X a ta)(hb:PE X (.BoolOp .Or (b::rest) pos) tb):PE X (.BoolOp .Or (a::b::rest) pos) (MM ta tb):=by intro η s σ H Q I h;refine BoolOp_or (bG (ha η s σ H _ I h) λv s1 ⟨x,H1,I1,r1,q1⟩=>?_);obtain⟨c,rfl,q1⟩:=q1;cases r1;refine Rn ?_;cases c with|false=>exact hb η s1 σ H1 Q I1 q1|true=>exact⟨.bl Λ,H1,I1,rfl,q1⟩
def tIf(t:TT)(ta tb:TE):TE:=λσ H Q=>t σ H λc H1=>if c=Λ then ta σ H1 Q else tb σ H1 Q
theorem yX(hc:PT X c tA)(ha:PE X a ta)(hb:PE X b tb):PE X (.IfExp c a b pos) (tIf tA ta tb):=by intro η s σ H Q I h;refine wpAny_IfExp (bG (hc η s σ H _ I h) λd s1 ⟨H1,I1,q1⟩=>?_);cases d with|true=>exact ha η s1 σ H1 Q I1 q1|false=>exact hb η s1 σ H1 Q I1 q1
end
def ir(K:P5)(H:Hp)(a:Addr)(xs:List V):Prop:=
 Rd H a (.lst xs)\/
  ∃(o:Obj) (aC:Array Value) (n:Nat),K.lookup a=Δ o/\o.cls=.type "list"/\o.dict=Θ/\o.data=.seq aC n/\aC.size<=Qi/\aM xs aC.toList
def de(K:P5)(H:Hp)(a:Addr)(xs:List V):Prop:=
 Rd H a (.tup xs)\/
  ∃(o:Obj) (aC:Array Value) (n:Nat),K.lookup a=Δ o/\o.cls=.type "tuple"/\o.data=.seq aC n/\aC.size<=Qi/\aM xs aC.toList
noncomputable def MN:Value->Option V
 |.none=>Δ .bu|.bool b=>Δ (.bl b)|.int i _=>Δ (.int i)|.str x _=>Δ (.str x)|.bytes b _=>Δ (.Hy b)|.float b _=>Δ (.Ek b)|.ref a=>Δ (.ref a)|.type n=>Δ (.ty n)|_=>Θ
theorem RelV.abs(r:RelV x u):MN u=Δ x:=by cases x with|bu=>cases r;rfl|bl _=>cases r;rfl|int _=>obtain⟨t,rfl⟩:=r;rfl|str _=>obtain⟨t,rfl⟩:=r;rfl|Hy _=>obtain⟨t,rfl⟩:=r;rfl|Ek _=>obtain⟨t,rfl⟩:=r;rfl|ref _=>cases r;rfl|ty _=>cases r;rfl
theorem RelV.inj(r:RelV x u)(q:RelV y u):x=y:=Qx (r.abs.symm.trans q.abs)
theorem aM.inj:∀{xs ys} {us},aM xs us->aM ys us->xs=ys
 |_,_,_,.nil,.nil=>rfl|_,_,_,.cons r t,.cons r' t'=>by rw[r.inj r',aM.inj t t']
section
variable{X:Cx}{η:List (Addr×Obj)}{σ:St}{H:Hp}{s:Qd}{a:Addr}{xs ys:List V}
theorem de.of{K:P5}(h:H a=Δ (.tup xs)):de K H a xs:=.inl (.inl h)
theorem Inv.list(I:Inv X η σ H s)(h:ir X.K H a xs):∃aC,aM xs aC/\PlainL s.heap a aC.toArray/\xs.length<=Qi:=by
 rcases h with h|⟨o,aC,n,hk,hc,hd,hs,hz,r⟩;·obtain⟨z,aC,n,r,e⟩:=h.ok I.aJ;exact⟨aC,r,⟨_,n,e,rfl,rfl,rfl⟩,z⟩
 ·refine⟨aC.toList,r,⟨o,n,I.gM a o hk,hc,hd,by simpa using hs⟩,?_⟩;have e:=r.length;simp only[Rv] at e
  lia
theorem Inv.tuple(I:Inv X η σ H s)(h:de X.K H a xs):∃aC,aM xs aC/\IsTup s.heap a aC.toArray/\xs.length<=Qi:=by
 rcases h with h|⟨o,aC,n,hk,hc,hs,hz,r⟩;·obtain⟨z,aC,r,p⟩:=h.ok I.aJ;exact⟨aC,r,p,z⟩
 ·refine⟨aC.toList,r,⟨o,I.gM a o hk,hc,n,by simpa using hs⟩,?_⟩;have e:=r.length;simp only[Rv] at e
  lia
theorem Inv.se(I:Inv X η σ H s)(h:ir X.K H a xs)(h':ir X.K H a ys):xs=ys:=by
 obtain⟨aC,r,⟨o,n,e,_,_,d⟩,_⟩:=I.list h;obtain⟨its',r',⟨o',n',e',_,_,d'⟩,_⟩:=I.list h';rw[e] at e';cases e';rw[d] at d';injection d' with d1 _;have:aC=its':=by simpa using congrArg Array.toList d1
 subst this;exact r.inj r'
theorem Inv.pA(I:Inv X η σ H s)(h:de X.K H a xs)(h':de X.K H a ys):xs=ys:=by
 obtain⟨aC,r,⟨o,e,_,n,d⟩,_⟩:=I.tuple h;obtain⟨its',r',⟨o',e',_,n',d'⟩,_⟩:=I.tuple h';rw[e] at e';cases e';rw[d] at d';injection d' with d1 _;have:aC=its':=by simpa using congrArg Array.toList d1
 subst this;exact r.inj r'
end
abbrev Cx.jC(X:Cx)(E:Value->Qd->Prop):Cx:={X with xe:=E}
abbrev Cx.oI(X:Cx):Cx:=X.jC λ_ _=>False
theorem Cx.Ok.jC{X:Cx}(ok:X.Ok)E:(X.jC E).Ok:=
 ⟨ok.mod,ok.kind,ok.glob,ok.blt,ok.above,ok.inj,ok.has,ok.Dw,ok.hd,ok.frames,ok.HA,ok.LL,ok.bs,ok.xq,ok.uA,ok.xr,ok.fO,ok.xt⟩
theorem Cx.Ok.eB{X:Cx}(ok:(X.jC E).Ok):X.Ok:=
 ⟨ok.mod,ok.kind,ok.glob,ok.blt,ok.above,ok.inj,ok.has,ok.Dw,ok.hd,ok.frames,ok.HA,ok.LL,ok.bs,ok.xq,ok.uA,ok.xr,ok.fO,ok.xt⟩
section
variable{X:Cx}{η:List (Addr×Obj)}{σ:St}{H:Hp}{s:Qd}{E:Value->Qd->Prop}
theorem Inv.jC(I:Inv X η σ H s)E:Inv (X.jC E) η σ H s:=⟨I.ok.jC E,I.os,I.bare,I.base,I.loc,I.cell,I.free,I.eZ,I.pin,I.aJ,I.len⟩
theorem Inv.eB(I:Inv (X.jC E) η σ H s):Inv X η σ H s:=⟨I.ok.eB,I.os,I.bare,I.base,I.loc,I.cell,I.free,I.eZ,I.pin,I.aJ,I.len⟩
theorem SP.eB(h:SP (X.jC E) η D f s'):SP X η D f s':=by cases f with|next=>obtain⟨cn,H',I,q⟩:=h;exact⟨cn,H',I.eB,q⟩|brk=>obtain⟨cn,H',I,q⟩:=h;exact⟨cn,H',I.eB,q⟩|cont=>obtain⟨cn,H',I,q⟩:=h;exact⟨cn,H',I.eB,q⟩|ret u=>obtain⟨v,cn,H',I,r,q⟩:=h;exact⟨v,cn,H',I.eB,r,q⟩
theorem PE.oI(h:PE X.oI e t):PE X e t:=λη s σ H Q I hw=>QS (h η s σ H Q (I.jC _) hw) (λ_ _ ⟨v,H',I',r,q⟩=>⟨v,H',I'.eB,r,q⟩) λ_ _ z=>QB z
theorem PT.oI(h:PT X.oI e t):PT X e t:=λη s σ H Q I hw=>QS (h η s σ H Q (I.jC _) hw) (λ_ _ ⟨H',I',q⟩=>⟨H',I'.eB,q⟩) λ_ _ z=>QB z
theorem iq.oI{st:List Stmt}(h:iq X.oI st t):iq X st t:=λη s σ H D I hw=>QS (h η s σ H D (I.jC _) hw) (λ_ _ q=>q.eB) λ_ _ z=>QB z
end
section
variable{X:Cx}{st:Stmt}{rest:List Stmt}{t u:TS}{e:Expr}{te:TE}{pos:Pos}
def Iv:TS:=λD σ H=>D.nx σ H
def MO(t u:TS):TS:=λD σ H=>t {D with nx:=u D} σ H
theorem iu:iq X [] Iv:=λ_ _ σ H _ I h=>RL ⟨σ,H,I,h⟩
theorem dS(h1:PS X st t)(h2:iq X rest u):iq X (st::rest) (MO t u):=by intro η s σ H D I h;refine SF (bG (h1 η s σ H {D with nx:=u D} I h) λf s1 q=>?_);cases f with|next=>obtain⟨cn,H',I',q⟩:=q;exact h2 η s1 cn H' D I' q|ret v=>exact q|brk=>exact q|cont=>exact q
theorem BD(h1:PS X st t):iq X [st] t:=by intro η s σ H D I h;refine SF (bG (h1 η s σ H D I h) λf s1 q=>?_);cases f with|next=>exact RL q|ret v=>exact q|brk=>exact q|cont=>exact q
theorem Inv.quiet(I:Inv X η σ H s):interactive X.env=Ξ:=by simp[interactive,I.ok.kind]
def Iw(te:TE):TS:=λD σ H=>te σ H λ_ H1=>D.nx σ H1
theorem wt(he:PE X e te)(hs:Se e Θ pos.line X.env=pure Ξ:=by rfl):PS X (.Expr e pos) (Iw te):=by intro η s σ H D I h;exact UX (bG (he η s σ H _ I h) λv s1 ⟨x,H1,I1,r1,q1⟩=>⟨σ,H1,I1,q1⟩) I.quiet hs
def MP(te:TE):TS:=λD σ H=>te σ H D.rt
theorem mK(he:PE X e te):PS X (.Return (Δ e) pos) (MP te):=by intro η s σ H D I h;exact wpAny_Return_some (bG (he η s σ H _ I h) λv s1 ⟨x,H1,I1,r1,q1⟩=>⟨x,σ,H1,I1,r1,q1⟩)
def Iy:TS:=λD _ H=>D.rt .bu H
theorem BE:PS X (.Return Θ pos) Iy:=λ_ _ σ H _ I h=>wpAny_Return_none ⟨.bu,σ,H,I,rfl,h⟩
noncomputable def MQ(c:TT)(t u:TS):TS:=λD σ H=>c σ H λb H1=>if b=Λ then t D σ H1 else u D σ H1
theorem Dx(hc:PT X c tc)(ha:iq X a t)(hb:iq X b u):PS X (.If c a b pos) (MQ tc t u):=by intro η s σ H D I h;refine wpAny_If (bG (hc η s σ H _ I h) λd s1 ⟨H1,I1,q1⟩=>?_);cases d with|true=>exact ha η s1 σ H1 D I1 q1|false=>exact hb η s1 σ H1 D I1 q1
end
abbrev TG:=V->St->Hp->(St->Hp->Prop)->Prop
abbrev Iz:=List V->St->Hp->(St->Hp->Prop)->Prop
def PG(X:Cx)(target:Expr)(t:TG):Prop:=
 ∀(η:List (Addr×Obj)) (s:Qd) (σ:St) (H:Hp) (v:V) (u:Value) (Q:St->Hp->Prop),Inv X η σ H s->RelV v u->t v σ H Q->
  wpAny (model X.prog X.w) X.A (Vy target X.env u) (λ_ s'=>∃cn H',Inv X η cn H' s'/\Q cn H') X.xe s
noncomputable def LR(X:Cx)(ts:List Expr)(t:Iz):Prop:=
 ∀(η:List (Addr×Obj)) (s:Qd) (σ:St) (H:Hp) (vs:List V) (us:List Value) (Q:St->Hp->Prop),Inv X η σ H s->aM vs us->t vs σ H Q->
  wpAny (model X.prog X.w) X.A (assignInOrder ((UO ts X.env).map (·.2)) us) (λ_ s'=>∃cn H',Inv X η cn H' s'/\Q cn H') X.xe s
abbrev IA:=V->V->V->Hp->(Hp->Prop)->Prop
def xx(X:Cx)(t:IA):Prop:=
 ∀(η:List (Addr×Obj)) (s:Qd) (σ:St) (H:Hp) (o i v:V) (ov iv u:Value) (Q:Hp->Prop),Inv X η σ H s->RelV o ov->RelV i iv->RelV v u->t o i v H Q->
  wpAny (model X.prog X.w) X.A (setItem ov iv u) (λ_ s'=>∃H',Inv X η σ H' s'/\Q H') X.xe s
section
variable{X:Cx}{pos:Pos}
def mL(i:Nat):TG:=λv σ H Q=>Q (σ.set i (Δ v)) H
theorem dg(hN:X.N.Nodup)(hi:X.N[i]?=Δ x)(hx:Loc X.env.scope x)(hf:X.fn x=Λ\/X.env.scope.names.lookup x=Δ .local:=by first|exact .inl rfl|exact .inr rfl|assumption):PG X (.Name x pos) (mL i):=by intro η s σ H v u Q I r h;exact wpAny_assign_Name (gP I hN hi hx r (λs' I'=>⟨_,H,I',h⟩) hf)
def MR:Iz:=λvs σ H Q=>vs=[]/\Q σ H
noncomputable def IC(t:TG)(u:Iz):Iz:=λvs σ H Q=>∃v r,vs=v::r/\t v σ H λcn H'=>u r cn H' Q
theorem qm:LR X [] MR:=by intro η s σ H vs us Q I r h;obtain⟨e,h⟩:=h;subst e;cases r;exact assignInOrder_nil ⟨σ,H,I,h⟩
theorem fP(h1:PG X e t)(h2:LR X es u)(hs:(UO (e::es) X.env).map (·.2)=Vy e X.env::(UO es X.env).map (·.2):=by rfl):LR X (e::es) (IC t u):=by intro η s σ H vs us Q I r h;obtain⟨v,vr,e1,h⟩:=h;subst e1;cases r with|cons r rr=>rw[hs];refine assignInOrder_cons (bG (h1 η s σ H _ _ _ I r h) λ_ s1 ⟨HB,H1,I1,q1⟩=>?_);exact h2 η s1 HB H1 _ _ Q I1 rr q1
def MS(K:P5)(n:Nat)(t:Iz):TG:=λv σ H Q=>∃a xs,v=.ref a/\de K H a xs/\xs.length=n/\t xs σ H Q
theorem uF(hc:X.calm=Λ)(h:LR X es t)(hn:(UO es X.env).length=n:=by rfl)(qo:(UO es X.env).findIdx? (·.1)=Θ:=by rfl):PG X (.Tuple es k pos) (MS X.K n t):=by intro η s σ H v u Q I r hw;obtain⟨a,xs,e1,hq,hl,hw⟩:=hw;subst e1;cases r;obtain⟨aC,rv,ht,hz⟩:=I.tuple hq;refine assign_Tuple_tuple (I.ok.hd hc) ht (by simp[hn,<-hl,rv.length]) qo λh' hx=>?_;have I1:Inv X η σ H {s with heap:=h'}:=I.kept (t':=s.toks) λb o e=>hx b o (Qt (Qc e)) e;exact h η _ σ H xs _ Q I1 (by simpa using rv) hw
noncomputable def MT(te:TE)(g:TG):TS:=λD σ H=>te σ H λx H1=>g x σ H1 D.nx
theorem yY(hN:X.N.Nodup)(hi:X.N[i]?=Δ x)(hx:Loc X.env.scope x)(he:PE X e te)(hs:Se e (Δ (.Name x pos')) pos.line X.env=pure Ξ:=by rfl)(hf:X.fn x=Λ\/X.env.scope.names.lookup x=Δ .local:=by first|exact .inl rfl|exact .inr rfl|assumption):
  PS X (.Assign [.Name x pos'] e pos) (MT te (mL i)):=by
 intro η s σ H D I h;refine wpAny_Assign_Name (bG (he η s σ H _ I h) λv s1 ⟨y,H1,I1,r1,q1⟩=>?_) hs;exact gP I1 hN hi hx r1 (λs2 I2=>⟨_,H1,I2,q1⟩) hf
end
section
variable{X:Cx}{pos:Pos}
def Ep(c:TT)(tb:TS):TS:=λD σ H=>∃W:Nat->St->Hp->Prop,(∃m,W m σ H)/\∀m σ H,W m σ H->
 c σ H λb H1=>if b=Λ then ∃N:St->Hp->Prop,(∀cn H',N cn H'->∃m',m' < m/\W m' cn H')/\tb {D with nx:=N,ct:=N,bk:=D.nx} σ H1 else D.nx σ H1
theorem yZ(hp:PassesOwn (model X.prog X.w) X.A X.env X.xe)(hc:PT X c tc)(hb:iq X body tb):PS X (.While c body [] pos) (Ep tc tb):=by
 intro η s σ H D I h;obtain⟨W,⟨m0,w0⟩,turn⟩:=h;refine wpAny_While (codeAny_whileLoop (λn s'=>∃cn H',Inv X η cn H' s'/\W n cn H') ?_ m0 ⟨σ,H,I,w0⟩);rintro n s1 ⟨HB,H1,I1,w1⟩;refine R0 hp (bG (hc η s1 HB H1 _ I1 (turn n HB H1 w1)) λb s2 ⟨H2,I2,q2⟩=>?_);cases b with
 |true=>obtain⟨N,hN,q2⟩:=q2;rw[if_pos rfl];refine R0 hp (bG (hb η s2 HB H2 _ I2 q2) λf s3 q3=>?_);cases f with|next=>obtain⟨y2,H3,I3,n3⟩:=q3;obtain⟨m',hm,w3⟩:=hN y2 H3 n3;exact⟨m',hm,y2,H3,I3,w3⟩|cont=>obtain⟨y2,H3,I3,n3⟩:=q3;obtain⟨m',hm,w3⟩:=hN y2 H3 n3;exact⟨m',hm,y2,H3,I3,w3⟩|brk=>exact q3|ret v=>exact q3
 |false=>rw[if_neg QF];exact RL ⟨HB,H2,I2,q2⟩
end
structure It where
 go:Nat->Hp->Prop
 ID:Nat->Hp->V->Hp->Prop
 stop:Nat->Hp->Prop
noncomputable def i6(X:Cx)(η:List (Addr×Obj))(H:Hp)(b:Addr):Prop:=
 H b=Θ/\b≠X.env.locals/\b∉X.fs/\(b∈X.ex\/X.dA.heap.objs.size<=b)/\(∀x c,X.env.cells.lookup x=Δ c->c≠b)/\∀p∈X.pn++η,p.1≠b
theorem Inv.qp(I:Inv X η σ H s)(hb:s.heap.objs.size<=b)(hn:H' b=Θ):i6 X η H' b:=by
 refine⟨hn,QT (Qj I.lt hb),I.MG hb,.inr (QJ I.sz hb),λx c e z=>?_,λp hp z=>?_⟩;·obtain⟨v,q⟩:=I.cell x c e;exact absurd (Qj q.lt (by rw[z];exact hb)) (Rm _)
 ·exact absurd (Qj (Qc (I.pin p hp).1) (by rw[z];exact hb)) (Rm _)
structure Turn(P:QE)(w:World)(K:P5)(tg:Expr)(J:It)(fp:List Addr)(it:Addr)(tn:Nat->Heap->Prop):Prop where
 mem:it∈fp
 obj:∀i h,tn i h->∀b∈fp,∃o,h.get? b=Δ o/\∀v,o.data≠.cell v
 keep:∀i h h',tn i h->(∀b∈fp,∀o,h.get? b=Δ o->h'.get? b=Δ o)->tn i h'
 item:∀(X:Cx),X.prog=P->X.w=w->X.K=K->X.calm=Λ->∀(i:Nat) (η:List (Addr×Obj)) (s:Qd) (σ:St) (H:Hp) (E:Value->Qd->Prop),Inv X η σ H s->(∀b∈fp,i6 X η H b)->tn i s.heap->J.go i H->
  wpAny (model P w) X.A (Uq (.ref it)) (λr s1=>∃u,r=Δ u/\
   wpAny (model P w) X.A (TK tg (.ref it) u) (λ_ s2=>∃x H',Inv X η σ H' s2/\RelV x u/\J.ID i H x H'/\tn (i+1) s2.heap/\∀b∈fp,H' b=Θ) E s1) E s
 done:∀(X:Cx),X.prog=P->X.w=w->X.K=K->X.calm=Λ->∀(i:Nat) (η:List (Addr×Obj)) (s:Qd) (σ:St) (H:Hp) (E:Value->Qd->Prop),Inv X η σ H s->(∀b∈fp,i6 X η H b)->tn i s.heap->J.stop i H->
  wpAny (model P w) X.A (Uq (.ref it)) (λr s1=>r=Θ/\Inv X η σ H s1) E s
 self:∀(A:QY) (i:Nat) (s:Qd) (Q:Value->Qd->Prop) (E:Value->Qd->Prop),tn i s.heap->Q (.ref it) s->wpAny (model P w) A (pyIter (.ref it)) Q E s
abbrev TI:=St->Hp->(It->Hp->Prop)->Prop
def PIE(X:Cx)(η:List (Addr×Obj))(σ:St)(tg:Expr)(R:It->Hp->Prop)(LS:Value)(s2:Qd):Prop:=
 ∃(it:Addr) (fp:List Addr) (tn:Nat->Heap->Prop) (J:It) (H':Hp),LS=.ref it/\Inv X η σ H' s2/\Turn X.prog X.w X.K tg J fp it tn/\tn 0 s2.heap/\(∀b∈fp,i6 X η H' b)/\R J H'
def PI(X:Cx)(tg iter:Expr)(wi:TI):Prop:=
 ∀(η:List (Addr×Obj)) (s:Qd) (σ:St) (H:Hp) (R:It->Hp->Prop),Inv X η σ H s->wi σ H R->
  wpAny (model X.prog X.w) X.A (eval iter X.env) (λv s1=>wpAny (model X.prog X.w) X.A (pyIter v) (PIE X η σ tg R) X.xe s1) X.xe s
theorem y3(ho:s.heap.get? it=Δ o)(hc:o.cls=.type n)(hd:o.data=.fields vs)(hn:["enumerate","zip","dict_itemiterator","dict_reverseitemiterator","odict_iterator","itertools.zip_longest","itertools.pairwise"].contains n=Ξ)(hQ:Q () s):wpAny M A (TK tg (.ref it) u) Q E s:=by
 unfold TK;cases tg<;>first
  |exact P4 hQ
  |(cases u<;>first
    |exact P4 hQ
    |(refine PY (wpAny_load ho ?_)
      rw[hc,hd];show wpAny M A (if(["enumerate","zip","dict_itemiterator","dict_reverseitemiterator","odict_iterator","itertools.zip_longest","itertools.pairwise"].contains n&&vs[0]?==Δ (RD _))=Λ then _ else _) Q E s;rw[if_neg (by intro h;rw[hn,U3] at h;cases h)];exact P4 hQ))
def MU(K:P5)(a:Addr):It:=
 ⟨λi H=>∃xs x,ir K H a xs/\xs[i]?=Δ x,λi H x H'=>H'=H/\∀xs,ir K H a xs->xs[i]?=Δ x,λi H=>∃xs,ir K H a xs/\xs.length<=i⟩
def MV(K:P5)(a:Addr):It:=
 ⟨λi H=>∃xs x,de K H a xs/\xs[i]?=Δ x,λi H x H'=>H'=H/\∀xs,de K H a xs->xs[i]?=Δ x,λi H=>∃xs,de K H a xs/\xs.length<=i⟩
noncomputable def Er(lo:Int)(n:Nat):It:=⟨λi _=>i < n,λi H x H'=>H'=H/\x=.int (lo+i),λi _=>n<=i⟩
theorem xy{P:QE}{w:World}{K:P5}{tg:Expr}(a it:Addr):Turn P w K tg (MU K a) [it] it (λi h=>h.IsListIter it a i) where
 mem:=by simp
 obj:=λi h st b hb=>by
  have e:b=it:=by simpa using hb
  subst e;obtain⟨o,e,c,d⟩:=st;exact⟨o,e,λv z=>by rw[d] at z;cases z⟩
 keep:=λi h h' st k=>st.at λo e=>k it (by simp) o e
 item:=by intro X hP hw hK hc i η s σ H E I hf st hg;subst hP hw hK;obtain⟨xs,x,hq,hx⟩:=hg;obtain⟨aC,rv,p,hz⟩:=I.list hq;obtain⟨u,hu,ru⟩:=rv.get hx;obtain⟨f0,f1,f2,f3,f4,f5⟩:=hf it (by simp);refine wpAny_pyNext_list_item st p.isList (x:=u) (by simpa using hu) λh' bw sb=>?_;have I1:Inv X η σ H {s with heap:=h'}:=I.turned (t':=s.toks) (λb o hb e=>(sb.2 b hb).trans e) f0 f1 f3 f4 f5;obtain⟨o,e,c,d⟩:=id bw;exact⟨u,rfl,y3 (s:={s with heap:=h'}) e c d (by decide) ⟨x,H,I1,ru,⟨rfl,λys hy=>by rw[I.se hy hq];exact hx⟩,bw,λb hb=>(hf b hb).1⟩⟩
 done:=by intro X hP hw hK hc i η s σ H E I hf st hg;subst hP hw hK;obtain⟨xs,hq,hx⟩:=hg;obtain⟨aC,rv,p,hz⟩:=I.list hq;obtain⟨f0,f1,f2,f3,f4,f5⟩:=hf it (by simp);have hl:=rv.length;exact wpAny_pyNext_list_end (I.ok.hd hc) st p.isList (by simp;lia) λh' eb=>⟨rfl,I.turned (t':=s.toks) (λb o hb e=>eb b o hb e) f0 f1 f3 f4 f5⟩
 self:=λ_ _ _ _ _ st h=>wpAny_pyIter_listiter st h
theorem uG{P:QE}{w:World}{K:P5}{tg:Expr}(a it:Addr):Turn P w K tg (MV K a) [it] it (λi h=>h.IsTupleIter it a i) where
 mem:=by simp
 obj:=λi h st b hb=>by
  have e:b=it:=by simpa using hb
  subst e;obtain⟨o,e,c,d⟩:=st;exact⟨o,e,λv z=>by rw[d] at z;cases z⟩
 keep:=λi h h' st k=>st.at λo e=>k it (by simp) o e
 item:=by intro X hP hw hK hc i η s σ H E I hf st hg;subst hP hw hK;obtain⟨xs,x,hq,hx⟩:=hg;obtain⟨aC,rv,p,hz⟩:=I.tuple hq;obtain⟨u,hu,ru⟩:=rv.get hx;obtain⟨f0,f1,f2,f3,f4,f5⟩:=hf it (by simp);refine wpAny_pyNext_tuple_item st (show s.heap.IsTuple a aC.toArray from p) (x:=u) (by simpa using hu) λh' bw sb=>?_;have I1:Inv X η σ H {s with heap:=h'}:=I.turned (t':=s.toks) (λb o hb e=>(sb.2 b hb).trans e) f0 f1 f3 f4 f5;obtain⟨o,e,c,d⟩:=id bw;exact⟨u,rfl,y3 (s:={s with heap:=h'}) e c d (by decide) ⟨x,H,I1,ru,⟨rfl,λys hy=>by rw[I.pA hy hq];exact hx⟩,bw,λb hb=>(hf b hb).1⟩⟩
 done:=by intro X hP hw hK hc i η s σ H E I hf st hg;subst hP hw hK;obtain⟨xs,hq,hx⟩:=hg;obtain⟨aC,rv,p,hz⟩:=I.tuple hq;obtain⟨f0,f1,f2,f3,f4,f5⟩:=hf it (by simp);have hl:=rv.length;exact wpAny_pyNext_tuple_end (I.ok.hd hc) st (show s.heap.IsTuple a aC.toArray from p) (by simp;lia) λh' eb=>⟨rfl,I.turned (t':=s.toks) (λb o hb e=>eb b o hb e) f0 f1 f3 f4 f5⟩
 self:=λ_ _ _ _ _ st h=>wpAny_pyIter_tupleiter st h
theorem uH{P:QE}{w:World}{K:P5}{tg:Expr}(it:Addr)(lo:Int)(n:Nat):Turn P w K tg (Er lo n) [it] it (λi h=>IsRangeIter h it (lo+(i:Nat)*1) ((n:Int) - (i:Nat)) 1) where
 mem:=by simp
 obj:=λi h st b hb=>by
  have e:b=it:=by simpa using hb
  subst e;exact⟨_,st,λv z=>by have z':Data.fields _=Data.cell v:=z;cases z'⟩
 keep:=λi h h' st k=>k it (by simp) _ st
 item:=by intro X hP hw hK hc i η s σ H E I hf st hg;subst hP hw hK;obtain⟨f0,f1,f2,f3,f4,f5⟩:=hf it (by simp);have W:=Walks.range (prog:=X.prog) (w:=X.w) (I.ok.hd hc) it lo 1 n;refine W.item i s _ _ hg st λv h' tk hv bw kk=>?_;obtain⟨t,rfl⟩:=hv;have I1:Inv X η σ H {s with heap:=h',toks:=tk}:=I.turned (λb o hb e=>kk b o (by simpa using hb) e) f0 f1 f3 f4 f5;refine⟨_,rfl,y3 (s:={s with heap:=h',toks:=tk}) (n:="range_iterator") bw rfl rfl (by decide) ⟨.int (lo+i),H,I1,⟨t,?_⟩,⟨rfl,rfl⟩,bw,λb hb=>(hf b hb).1⟩⟩;rw[Int.mul_one]
 done:=by intro X hP hw hK hc i η s σ H E I hf st hg;subst hP hw hK;obtain⟨f0,f1,f2,f3,f4,f5⟩:=hf it (by simp);exact wpAny_pyNext_range_end (I.ok.hd hc) st (by have:n<=i:=hg;lia) λh' eb=>⟨rfl,I.turned (t':=s.toks) (λb o hb e=>eb b o hb e) f0 f1 f3 f4 f5⟩
 self:=λ_ _ _ _ _ st h=>wpAny_pyIter_rangeiter st h
section
variable{X:Cx}{tg:Expr}
def Dy(K:P5)(tl:TE):TI:=λσ H R=>tl σ H λx H1=>∃a,x=.ref a/\(∃xs,ir K H1 a xs)/\R (MU K a) H1
def MW(K:P5)(tl:TE):TI:=λσ H R=>tl σ H λx H1=>∃a,x=.ref a/\(∃xs,de K H1 a xs)/\R (MV K a) H1
theorem mj(hl:PE X l tl):PI X tg l (Dy X.K tl):=by
 intro η s σ H R I h;refine bG (hl η s σ H _ I h) λv s1 ⟨x,H1,I1,r1,q1⟩=>?_;obtain⟨a,e,⟨xs,hq⟩,q⟩:=q1;subst e;cases r1;obtain⟨aC,rv,p,hz⟩:=I1.list hq;refine wpAny_pyIter_list p.isList ?_;refine⟨s1.heap.objs.size,[s1.heap.objs.size],_,_,H1,rfl,I1.kept (t':=s1.toks) λb o e=>P0 _ e,xy a _,⟨_,Qe _ rfl,rfl,rfl⟩,λb hb=>?_,q⟩;have e:b=s1.heap.objs.size:=by simpa using hb
 subst e;exact I1.qp (P8 _) (I1.aJ.fresh (P8 _))
theorem Es(hl:PE X l tl):PI X tg l (MW X.K tl):=by
 intro η s σ H R I h;refine bG (hl η s σ H _ I h) λv s1 ⟨x,H1,I1,r1,q1⟩=>?_;obtain⟨a,e,⟨xs,hq⟩,q⟩:=q1;subst e;cases r1;obtain⟨aC,rv,p,hz⟩:=I1.tuple hq;refine RS (show s1.heap.IsTuple a aC.toArray from p) ?_;refine⟨s1.heap.objs.size,[s1.heap.objs.size],_,_,H1,rfl,I1.kept (t':=s1.toks) λb o e=>P0 _ e,uG a _,⟨_,Qe _ rfl,rfl,rfl⟩,λb hb=>?_,q⟩;have e:b=s1.heap.objs.size:=by simpa using hb
 subst e;exact I1.qp (P8 _) (I1.aJ.fresh (P8 _))
theorem sf{lo hi:Int}(I:Inv X η σ H s)(h1: -(2 ^ 62)<=lo)(h2:lo < 2 ^ 62)(h3: -(2 ^ 62)<=hi)(h4:hi < 2 ^ 62)(q:R (Er lo (hi - lo).toNat) H):wpAny (model X.prog X.w) X.A (pyIter (.ref s.heap.objs.size)) (PIE X η σ tg R) E {s with heap:=s.heap.push {cls:=.type "range",data:=.fields #[.int lo t,.int hi u,.int 1 v]},toks:=tk}:=by
 refine wpAny_pyIter_range (IsRange.new ..) (small_one h1 h2 h3 h4) ?_;have I1:Inv X η σ H {s with heap:=s.heap.push {cls:=.type "range",data:=.fields #[.int lo t,.int hi u,.int 1 v]},toks:=tk}:=I.kept λb o e=>P0 _ e;refine⟨(s.heap.push {cls:=.type "range",data:=.fields #[.int lo t,.int hi u,.int 1 v]}).objs.size,[(s.heap.push {cls:=.type "range",data:=.fields #[.int lo t,.int hi u,.int 1 v]}).objs.size],_,_,H,rfl,
  I1.kept (t':=tk) λb o e=>P0 _ e,uH _ lo (hi - lo).toNat,?_,λb hb=>?_,q⟩
 ·have e1:lo+((0:Nat):Int)*1=lo:=by simp
  have e2:(((hi - lo).toNat:Nat):Int) - ((0:Nat):Int)=Tj.Range.rangeSize lo hi 1:=by rw[rangeSize_one];split<;>lia
  show IsRangeIter _ _ (lo+((0:Nat):Int)*1) ((((hi - lo).toNat:Nat):Int) - ((0:Nat):Int)) 1;rw[e1,e2];exact Qe _ rfl
 ·have e:b=(s.heap.push {cls:=.type "range",data:=.fields #[.int lo t,.int hi u,.int 1 v]}).objs.size:=by simpa using hb
  subst e;exact I1.qp (P8 _) (I1.aJ.fresh (P8 _))
def IE(ta:TA):TI:=λσ H R=>ta σ H λvs H1=>∃j:Int,vs=[.int j]/\ -(2 ^ 62)<=j/\j < 2 ^ 62/\R (Er 0 j.toNat) H1
def IF(ta:TA):TI:=λσ H R=>ta σ H λvs H1=>∃i j:Int,vs=[.int i,.int j]/\(-(2 ^ 62)<=i/\i < 2 ^ 62/\ -(2 ^ 62)<=j/\j < 2 ^ 62)/\R (Er i (j - i).toNat) H1
theorem xA(hg:Gl X "range")(hm:X.mg "range"=Θ)(ha:PA X [a] ta)(hs:Qo [a] X.env=[(Ξ,eval a X.env)]:=by rfl):PI X tg (.Call (.Name "range" p) [a] [] pos) (IE ta):=by intro η s σ H R I h;refine Call_ (gk I hg hm boot_range (QO (bG (ha pos η s σ H _ I h) λus s1 ⟨vs,H1,I1,r1,q1⟩=>?_) hs rfl));obtain⟨j,e,q1,q2,q⟩:=q1;subst e;cases r1 with|cons r rr=>cases rr;obtain⟨t,rfl⟩:=r;exact call_range_1 (sf I1 (by lia) (by lia) q1 q2 (by simpa using q))
theorem xB(hg:Gl X "range")(hm:X.mg "range"=Θ)(ha:PA X [a,b] ta)(hs:Qo [a,b] X.env=[(Ξ,eval a X.env),(Ξ,eval b X.env)]:=by rfl)(y4:Qo [b] X.env=[(Ξ,eval b X.env)]:=by rfl):
  PI X tg (.Call (.Name "range" p) [a,b] [] pos) (IF ta):=by
 intro η s σ H R I h;refine Call_ (gk I hg hm boot_range (QO (bG (ha pos η s σ H _ I h) λus s1 ⟨vs,H1,I1,r1,q1⟩=>?_) (by rw[hs,y4]) (by rw[y4];rfl)));obtain⟨i,j,e,⟨q1,q2,q3,q4⟩,q⟩:=q1;subst e;cases r1 with|cons r rr=>cases rr with|cons r' rr=>cases rr;obtain⟨t,rfl⟩:=r;obtain⟨t',rfl⟩:=r';exact call_range_2 (sf I1 q1 q2 q3 q4 q)
def MX(wi:TI)(g:TG)(tb:TS):TS:=λD σ H=>wi σ H λJ H1=>∃W:Nat->Nat->St->Hp->Prop,(∃m,W 0 m σ H1)/\∀i m σ H,W i m σ H->
 (J.stop i H/\D.nx σ H)\/(J.go i H/\∃N:St->Hp->Prop,(∀cn H',N cn H'->∃m',m' < m/\W (i+1) m' cn H')/\∀x H',J.ID i H x H'->g x σ H' λHC H2=>tb {D with nx:=N,ct:=N,bk:=D.nx} HC H2)
noncomputable def kA(fp:List Addr)(h:Heap):List (Addr×Obj):=fp.filterMap λb=>(h.get? b).map λo=>(b,o)
theorem cU(hb:b∈fp)(e:h.get? b=Δ o):(b,o)∈kA fp h:=List.mem_filterMap.mpr ⟨b,hb,by rw[e];rfl⟩
theorem xC(hp:p∈kA fp h):p.1∈fp/\h.get? p.1=Δ p.2:=by obtain⟨b,hb,e⟩:=List.mem_filterMap.mp hp;cases q:h.get? b with|none=>rw[q] at e;cases e|some o=>rw[q] at e;have e':(b,o)=p:=Qx e;subst e';exact⟨hb,q⟩
theorem Inv.pinned(I:Inv X η σ H s)(hf:∀b∈fp,i6 X η H b)(ho:∀b∈fp,∃o,s.heap.get? b=Δ o/\∀v,o.data≠.cell v):Inv X (η++kA fp s.heap) σ H s:=
 I.qk λp hp=>(List.mem_append.mp hp).elim (λz=>I.pin p (Qk _ z)) λz=>by obtain⟨hb,e⟩:=xC z;obtain⟨f0,f1,f2,_⟩:=hf p.1 hb;obtain⟨o,e',d⟩:=ho p.1 hb;rw[e] at e';cases e';exact⟨e,f0,f1,f2,d⟩
theorem Inv.fQ(I:Inv X (η++pl) σ H s):Inv X η σ H s:=I.qk λp hp=>I.pin p (Qk _ (RG _ hp))
theorem qr(hp:PassesOwn (model X.prog X.w) X.A X.env X.xe)(hc:X.calm=Λ)(hi:PI X tg iter wi)(hg:PG X tg g)(hb:iq X body tb)(hs:∀x,Uj iter X.env x=pure x:=by intro _;rfl):PS X (.For tg iter body [] pos) (MX wi g tb):=by
 intro η s σ H D I h;refine wpAny_For (bG (hi η s σ H _ I h) λv s1 h1=>bG h1 λLS s2 h2=>?_) hs;obtain⟨it,fp,tn,J,H2,e,I2,T,aF,f2,W,⟨m0,w0⟩,turn⟩:=h2;subst e;have mM:∀{H':Hp},(∀b∈fp,H' b=Θ)->∀b∈fp,i6 X η H' b:=λhn b hb=>⟨hn b hb,(f2 b hb).2⟩;refine codeAny_forLoop_any (λn s'=>∃i cn H',Inv X η cn H' s'/\tn i s'.heap/\(∀b∈fp,H' b=Θ)/\W i n cn H') ?_ m0 ⟨0,σ,H2,I2,aF,λb hb=>(f2 b hb).1,w0⟩;rintro n s3 ⟨i,y2,H3,I3,cq,fr3,w3⟩;rcases turn i n y2 H3 w3 with ⟨stop,qn⟩|⟨go,N,hN,step⟩
 ·refine R0 hp (bG (T.done X rfl rfl rfl hc i η s3 y2 H3 X.xe I3 (mM fr3) cq stop) λr s4 ⟨hr,I4⟩=>?_);subst hr;exact RL ⟨y2,H3,I4,qn⟩
 ·refine R0 hp (bG (T.item X rfl rfl rfl hc i η s3 y2 H3 X.xe I3 (mM fr3) cq go) λr s4 ⟨u,hr,h4⟩=>?_);subst hr;refine R0 hp (bG h4 λ_ s5 ⟨x,H5,I5,r5,y5,uI,Et⟩=>?_);have I5':=I5.pinned (mM Et) (T.obj _ _ uI);refine R0 hp (bG (hg _ s5 y2 H5 x u _ I5' r5 (step x H5 y5)) λ_ s6 ⟨σ6,H6,I6,q6⟩=>?_);refine R0 hp (bG (hb _ s6 σ6 H6 _ I6 q6) λf s7 q7=>?_);have again:∀{y6:St} {H7:Hp},Inv X (η++kA fp s5.heap) y6 H7 s7->N y6 H7->∃m,m < n/\∃i cn H',Inv X η cn H' s7/\tn i s7.heap/\(∀b∈fp,H' b=Θ)/\W i m cn H':=λ{y6 H7} I7 n7=>by obtain⟨m',hm,w7⟩:=hN y6 H7 n7;refine⟨m',hm,i+1,y6,H7,I7.fQ,T.keep _ _ _ uI λb hb o e=>(I7.pin (b,o) (Qk _ (Qk _ (cU hb e)))).1,λb hb=>?_,w7⟩;obtain⟨o,e,d⟩:=T.obj _ _ uI b hb;exact(I7.pin (b,o) (Qk _ (Qk _ (cU hb e)))).2.1
  cases f with|next=>obtain⟨y6,H7,I7,n7⟩:=q7;exact again I7 n7|cont=>obtain⟨y6,H7,I7,n7⟩:=q7;exact again I7 n7|brk=>obtain⟨y6,H7,I7,q7⟩:=q7;exact⟨y6,H7,I7.fQ,q7⟩|ret v=>obtain⟨x7,y6,H7,I7,r7,q7⟩:=q7;exact⟨x7,y6,H7,I7.fQ,r7,q7⟩
end
abbrev R2:=V->V->Hp->VK->Prop
def gI(X:Cx)(f:Value->Value->Sem Value)(r:R2):Prop:=
 ∀(η:List (Addr×Obj)) (s:Qd) (σ:St) (H:Hp) (x y:V) (v u:Value) (Q:VK),Inv X η σ H s->RelV x v->RelV y u->r x y H Q->
  wpAny (model X.prog X.w) X.A (f v u) (EP X η σ Q) X.xe s
def MY(X:Cx)(f:Value->Sem Value)(r:V->Hp->VK->Prop):Prop:=
 ∀(η:List (Addr×Obj)) (s:Qd) (σ:St) (H:Hp) (x:V) (v:Value) (Q:VK),Inv X η σ H s->RelV x v->r x H Q->
  wpAny (model X.prog X.w) X.A (f v) (EP X η σ Q) X.xe s
def dD(X:Cx)(f:Value)(r:List V->Hp->VK->Prop):Prop:=
 ∀(η:List (Addr×Obj)) (s:Qd) (σ:St) (H:Hp) (xs:List V) (us:List Value) (Q:VK),Inv X η σ H s->aM xs us->r xs H Q->
  wpAny (model X.prog X.w) X.A (call f us) (EP X η σ Q) X.xe s
def MZ(X:Cx)(r:V->Hp->(Bool->Hp->Prop)->Prop):Prop:=
 ∀(η:List (Addr×Obj)) (s:Qd) (σ:St) (H:Hp) (x:V) (v:Value) (Q:Bool->Hp->Prop),Inv X η σ H s->RelV x v->r x H Q->
  wpAny (model X.prog X.w) X.A (truthy v) (TP X η σ Q) X.xe s
def IG(r:R2)(ta tb:TE):TE:=λσ H Q=>ta σ H λx H1=>tb σ H1 λy H2=>r x y H2 Q
noncomputable def tUn(r:V->Hp->VK->Prop)(ta:TE):TE:=λσ H Q=>ta σ H λx H1=>r x H1 Q
noncomputable def rI(C:Int->Int->Prop)(g:Int->Int->V):R2:=λx y H Q=>∃i j,x=.int i/\y=.int j/\C i j/\Q (g i j) H
noncomputable def wu(g:Int->Int->V):R2:=λx y H Q=>∃i j,x=.int i/\y=.int j/\Q (g i j) H
noncomputable def rU(g:Int->V):V->Hp->VK->Prop:=λx H Q=>∃i,x=.int i/\Q (g i) H
section
variable{X:Cx}{a b c:Expr}{ta tb tc:TE}{pos:Pos}
theorem Eu(ha:PE X a ta)(hb:PE X b tb){R:V->V->Hp->Prop}(I:Inv X η σ H s)(h:ta σ H λx H1=>tb σ H1 λy H2=>R x y H2){f:Value->Value->Sem Value}(hf:∀v u s2 x y H2,Inv X η σ H2 s2->RelV x v->RelV y u->R x y H2->wpAny (model X.prog X.w) X.A (f v u) Q X.xe s2):
  wpAny (model X.prog X.w) X.A (eval a X.env) (λv bC=>wpAny (model X.prog X.w) X.A (eval b X.env) (λu jA=>wpAny (model X.prog X.w) X.A (f v u) Q X.xe jA) X.xe bC) X.xe s:=by
 refine bG (ha η s σ H _ I h) λv s1 ⟨x,H1,I1,r1,q1⟩=>?_;refine bG (hb η s1 σ H1 _ I1 q1) λu s2 ⟨y,H2,I2,r2,q2⟩=>?_;exact hf v u s2 x y H2 I2 r1 r2 q2
theorem IH(ho:gI X (RT op) r)(ha:PE X a ta)(hb:PE X b tb):PE X (.BinOp a op b pos) (IG r ta tb):=by intro η s σ H Q I h;exact wpAny_BinOp (Eu ha hb I h λv u s2 x y H2 I2 rx ry q=>ho η s2 σ H2 x y v u Q I2 rx ry q)
theorem Dz(ho:MY X (unaryOp op) r)(ha:PE X a ta):PE X (.UnaryOp op a pos) (tUn r ta):=by intro η s σ H Q I h;exact UnaryOp_ (bG (ha η s σ H _ I h) λv s1 ⟨x,H1,I1,r1,q1⟩=>ho η s1 σ H1 x v Q I1 r1 q1)
theorem lY{g:Int->Int->Int}(rule:∀(i j:Int) (t u:Tok) (s:Qd) (Q:Value->Qd->Prop) (E:Value->Qd->Prop),C i j->Q (.int (g i j) s.toks) {s with toks:=s.toks+1}->wpAny (model X.prog X.w) X.A (f (.int i t) (.int j u)) Q E s):
  gI X f (rI C λi j=>.int (g i j)):=by
 intro η s σ H x y v u Q I rx ry h;obtain⟨i,j,rfl,rfl,hc,q⟩:=h;obtain⟨t,rfl⟩:=rx;obtain⟨t',rfl⟩:=ry;exact rule i j t t' s _ _ hc ⟨.int (g i j),H,I.tok _,⟨_,rfl⟩,q⟩
theorem II{g:Int->Int->Int}(rule:∀(i j:Int) (t u:Tok) (s:Qd) (Q:Value->Qd->Prop) (E:Value->Qd->Prop),Q (.int (g i j) s.toks) {s with toks:=s.toks+1}->wpAny (model X.prog X.w) X.A (f (.int i t) (.int j u)) Q E s):
  gI X f (wu λi j=>.int (g i j)):=by
 intro η s σ H x y v u Q I rx ry h;obtain⟨i,j,rfl,rfl,q⟩:=h;obtain⟨t,rfl⟩:=rx;obtain⟨t',rfl⟩:=ry;exact rule i j t t' s _ _ ⟨.int (g i j),H,I.tok _,⟨_,rfl⟩,q⟩
theorem BF{g:Int->Int->Bool}(rule:∀(i j:Int) (t u:Tok) (s:Qd) (Q:Value->Qd->Prop) (E:Value->Qd->Prop),Q (.bool (g i j)) s->wpAny (model X.prog X.w) X.A (f (.int i t) (.int j u)) Q E s):
  gI X f (wu λi j=>.bl (g i j)):=by
 intro η s σ H x y v u Q I rx ry h;obtain⟨i,j,rfl,rfl,q⟩:=h;obtain⟨t,rfl⟩:=rx;obtain⟨t',rfl⟩:=ry;exact rule i j t t' s _ _ ⟨.bl (g i j),H,I,rfl,q⟩
def IJ(i j:Int):Prop:=0 < j/\j < 1073741824
noncomputable def BG(i j:Int):Prop:=(-(2 ^ 64) < i/\i < 2 ^ 64)\/(-(2 ^ 64) < j/\j < 2 ^ 64)
theorem BG.ok(h:BG i j):IntMulOk i j:=by
 rcases h with ⟨h1,h2⟩|⟨h1,h2⟩
 ·exact .of_left (intBits_le_64 h1 h2)
 ·exact .of_right (intBits_le_64 h1 h2)
theorem Ew:gI X (RT .Add) (wu λi j=>.int (i+j)):=II λ_ _ _ _ _ _ _ q=>add_int q
theorem Ex:gI X (RT .Sub) (wu λi j=>.int (i - j)):=II λ_ _ _ _ _ _ _ q=>sub_int q
theorem Ey:gI X (RT .Mult) (rI BG λi j=>.int (i*j)):=lY λ_ _ _ _ _ _ _ hc q=>mul_int q hc.ok
theorem BH:gI X (RT .FloorDiv) (rI IJ λi j=>.int (i / j)):=lY λi j _ _ _ _ _ hc q=>by have h1:(0:Int) < j:=hc.1;have h2:j < 1073741824:=hc.2;exact floordiv_int (by lia) (by rw[Int.fdiv_eq_ediv_of_nonneg i (by lia)];exact q) (.inl (PyProof.noPylong_small (by lia)))
theorem Ez:gI X (RT .Mod) (rI (λ_ j=>0 < j) λi j=>.int (i % j)):=lY λi j _ _ _ _ _ hc q=>by have h1:(0:Int) < j:=hc;exact mod_int' (by lia) (by rw[Int.fmod_eq_emod_of_nonneg i (by lia)];exact q)
theorem unI{g:Int->Int}(rule:∀(i:Int) (t:Tok) (s:Qd) (Q:Value->Qd->Prop) (E:Value->Qd->Prop),Q (.int (g i) s.toks) {s with toks:=s.toks+1}->wpAny (model X.prog X.w) X.A (f (.int i t)) Q E s):
  MY X f (rU λi=>.int (g i)):=by
 intro η s σ H x v Q I rx h;obtain⟨i,rfl,q⟩:=h;obtain⟨t,rfl⟩:=rx;exact rule i t s _ _ ⟨.int (g i),H,I.tok _,⟨_,rfl⟩,q⟩
theorem y8:MY X (unaryOp .USub) (rU λi=>.int (-i)):=unI λ_ _ _ _ _ q=>neg_int q
end
section
variable{X:Cx}{a b c:Expr}{ta tb tc:TE}{pos:Pos}
theorem IK:gI X (QZ .Lt) (wu λi j=>.bl (decide (i < j))):=BF λ_ _ _ _ _ _ _ q=>lt_int q
theorem IL:gI X (QZ .LtE) (wu λi j=>.bl (decide (i<=j))):=BF λ_ _ _ _ _ _ _ q=>le_int q
theorem IM:gI X (QZ .Gt) (wu λi j=>.bl (decide (j < i))):=BF λ_ _ _ _ _ _ _ q=>gt_int q
theorem IP:gI X (QZ .GtE) (wu λi j=>.bl (decide (j<=i))):=BF λ_ _ _ _ _ _ _ q=>ge_int q
theorem gI.or(h:gI X f r)(h':gI X f r'):gI X f (λx y H Q=>r x y H Q\/r' x y H Q):=by
 intro η s σ H x y v u Q I rx ry q;rcases q with q|q;·exact h η s σ H x y v u Q I rx ry q
 ·exact h' η s σ H x y v u Q I rx ry q
theorem BI(ho:gI X (QZ op) r)(ha:PE X a ta)(hb:PE X b tb)(hm:Vd op b=Ξ):PE X (.Compare a [op] [b] pos) (IG r ta tb):=by intro η s σ H Q I h;exact wpAny_Compare1 (Eu ha hb I h λv u s2 x y H2 I2 rx ry q=>ho η s2 σ H2 x y v u Q I2 rx ry q) hm
noncomputable def DA(t:TE):TT:=λσ H Q=>t σ H λx H'=>∃k,x=.bl k/\Q k H'
theorem BJ(ho:gI X (QZ op) r)(ha:PE X a ta)(hb:PE X b tb)(hm:Vd op b=Ξ):PT X (.Compare a [op] [b] pos) (DA (IG r ta tb)):=by intro η s σ H Q I h;refine wpAny_isTrue_Compare1 (bG (ha η s σ H _ I h) λv s1 ⟨x,H1,I1,r1,q1⟩=>bG (hb η s1 σ H1 _ I1 q1) λu s2 ⟨y,H2,I2,r2,q2⟩=>bG (ho η s2 σ H2 x y v u _ I2 r1 r2 q2) λc s3 ⟨z,H3,I3,r3,k,e,q3⟩=>?_) hm;subst e;cases r3;exact Rn ⟨H3,I3,q3⟩
def uJ(r r':R2)(ta tb tc:TE):TE:=λσ H Q=>ta σ H λx H1=>tb σ H1 λy H2=>r x y H2 λz H3=>∃k,z=.bl k/\
 (if k=Λ then tc σ H3 λw' H4=>r' y w' H4 Q else Q (.bl Ξ) H3)
theorem y9(ho:gI X (QZ op) r)(ky:gI X (QZ IQ) r')(ha:PE X a ta)(hb:PE X b tb)(hc:PE X c tc)(hm:lastMarks [op,IQ] [b,c]=Ξ:=by with_unfolding_all rfl):PE X (.Compare a [op,IQ] [b,c] pos) (uJ r r' ta tb tc):=by intro η s σ H Q I h;refine Compare_chain (bG (ha η s σ H _ I h) λv s1 ⟨x,H1,I1,r1,q1⟩=>chain_link (bG (hb η s1 σ H1 _ I1 q1) λu s2 ⟨y,H2,I2,r2,q2⟩=>bG (ho η s2 σ H2 x y v u _ I2 r1 r2 q2) λd s3 ⟨z,H3,I3,r3,k,e,q3⟩=>?_)) hm;subst e;cases r3;refine Rn ?_;cases k with|false=>exact ite_ff ⟨.bl Ξ,H3,I3,rfl,q3⟩|true=>exact ite_tt (chain_last (bG (hc η s3 σ H3 _ I3 q3) λw' s4 ⟨z',H4,I4,r4,q4⟩=>ky η s4 σ H4 y z' u w' Q I4 r2 r4 q4))
theorem zc(ho:gI X (QZ op) r)(ky:gI X (QZ IQ) r')(ha:PE X a ta)(hb:PE X b tb)(hc:PE X c tc)(hm:lastMarks [op,IQ] [b,c]=Ξ:=by with_unfolding_all rfl):PT X (.Compare a [op,IQ] [b,c] pos) (DA (uJ r r' ta tb tc)):=by intro η s σ H Q I h;refine isTrue_chain (bG (ha η s σ H _ I h) λv s1 ⟨x,H1,I1,r1,q1⟩=>test_link (bG (hb η s1 σ H1 _ I1 q1) λu s2 ⟨y,H2,I2,r2,q2⟩=>bG (ho η s2 σ H2 x y v u _ I2 r1 r2 q2) λd s3 ⟨z,H3,I3,r3,k,e,q3⟩=>?_)) hm;subst e;cases r3;refine Rn ?_;cases k with|false=>obtain⟨k',e',q'⟩:=q3;cases e';exact ite_ff ⟨H3,I3,q'⟩|true=>refine ite_tt (test_last (bG (hc η s3 σ H3 _ I3 q3) λw' s4 ⟨z',H4,I4,r4,q4⟩=>bG (ky η s4 σ H4 y z' u w' _ I4 r2 r4 q4) λd' s5 ⟨z2,H5,I5,r5,k2,e2,q5⟩=>?_));subst e2;cases r5;exact Rn ⟨H5,I5,q5⟩
def xD(K:P5)(x:V)(H:Hp)(k:Bool):Prop:=
 match x with|.bu=>k=Ξ|.bl b=>k=b|.int i=>k=(i !=0)|.str y=>y.length<=Qi/\k=((y.length:Int)!=0)|.Hy y=>y.size<=Qi/\k=((y.size:Int)!=0)|.ref p=>(∃xs,ir K H p xs/\k=!xs.isEmpty)\/(∃xs,de K H p xs/\k=!xs.isEmpty)\/∃kvs,H p=Δ (.dK kvs)/\k=!kvs.isEmpty|_=>False
theorem uK(r:KV kvs vs):(!vs.isEmpty)=!kvs.isEmpty:=by cases r<;>rfl
theorem mO(r:aM xs aC):(!aC.toArray.isEmpty)=!xs.isEmpty:=by cases r<;>simp
theorem kB:(Qi:Nat) < 2 ^ 63:=by rw[Q0];decide
theorem zd:MZ X (λx H Q=>∃k,xD X.K x H k/\Q k H):=by
 intro η s σ H x v Q I rx h;obtain⟨k,e,q⟩:=h;have hl:=kB;have hs:Qi=16777216:=Q0;cases x with
 |bu=>cases rx;have e':k=Ξ:=e;subst e';exact truthy_none ⟨H,I,q⟩|bl b=>cases rx;have e':k=b:=e;subst e';exact Rn ⟨H,I,q⟩|int i=>obtain⟨t,rfl⟩:=rx;have e':k=(i !=0):=e;subst e';exact PySem.P.truthy_int ⟨H,I,q⟩|str y=>obtain⟨t,rfl⟩:=rx;obtain⟨hy,e'⟩:y.length<=Qi/\k=((y.length:Int)!=0):=e;subst e';exact PySem.P.truthy_str (by lia) ⟨H,I.tok _,q⟩|Hy y=>obtain⟨t,rfl⟩:=rx;obtain⟨hy,e'⟩:y.size<=Qi/\k=((y.size:Int)!=0):=e;subst e';exact PySem.W.truthy_bytes (by lia) ⟨H,I.tok _,q⟩|ref p=>
  cases rx;have e':(∃xs,ir X.K H p xs/\k=!xs.isEmpty)\/(∃xs,de X.K H p xs/\k=!xs.isEmpty)\/∃kvs,H p=Δ (.dK kvs)/\k=!kvs.isEmpty:=e;rcases e' with ⟨xs,hx,e'⟩|⟨xs,hx,e'⟩|⟨kvs,hx,e'⟩
  ·subst e';obtain⟨aC,r,pl,hz⟩:=I.list hx;have hlen:=r.length;exact wpAny_truthy_list pl.isList (by simp only[P9];lia) ⟨H,I.tok _,by rw[mO r];exact q⟩
  ·subst e';obtain⟨aC,r,pl,hz⟩:=I.tuple hx;have hlen:=r.length;exact truthy_tuple pl (by simp only[P9];lia) ⟨H,I.tok _,by rw[mO r];exact q⟩
  ·subst e';obtain⟨hz,hS,vs,r,m⟩:kvs.length<=Qi/\(p==Ri)=Ξ/\∃vs,KV kvs vs/\s.heap.DictOf (aZ X.prog X.w) p vs:=I.aJ p _ hx;have hlen:kvs.length=vs.length:=Ut r;exact wpAny_truthy_dict hS m (by lia) ⟨H,I.tok _,by rw[uK r];exact q⟩
 |_=>exact(show False from e).elim
theorem ze(ha:PE X a ta)(he:∀whole,Vp a X.env whole=(do let v<-whole;UM a.pos;U4 [v] (truthy v))):
  PT X a (λσ H Q=>ta σ H λx H'=>∃k,xD X.K x H' k/\Q k H'):=by
 intro η s σ H Q I h;exact isTrue_plain (bG (ha η s σ H _ I h) λv s1 ⟨x,H1,I1,r1,q1⟩=>zd η s1 σ H1 x v Q I1 r1 q1) (he _)
theorem uL:gI X (RT .Add) (λx y H Q=>∃i j,x=.str i/\y=.str j/\i.length+j.length<=Qi/\Q (.str (i++j)) H):=by intro η s σ H x y v u Q I rx ry h;obtain⟨i,j,rfl,rfl,hz,q⟩:=h;obtain⟨t,rfl⟩:=rx;obtain⟨t',rfl⟩:=ry;exact add_str (λt' tk=>⟨.str (i++j),H,I.tok _,⟨_,rfl⟩,q⟩) hz
theorem vals1(r:aM [x] us):∃u,us=[u]/\RelV x u:=by cases r with|cons r1 r2=>cases r2;exact⟨_,rfl,r1⟩
theorem vals2(r:aM [x,y] us):∃u w',us=[u,w']/\RelV x u/\RelV y w':=by cases r with|cons r1 r2=>cases r2 with|cons r3 r4=>cases r4;exact⟨_,_,rfl,r1,r3⟩
theorem qt:dD X (.type "str") (λxs H Q=>∃i,xs=[.int i]/\i.natAbs.log2 < 1920/\Q (.str (toString i)) H):=by intro η s σ H xs us Q I r h;obtain⟨i,rfl,hz,q⟩:=h;obtain⟨u,rfl,t,rfl⟩:=vals1 r;exact PySem.P.str_of_int hz ⟨.str _,H,I.tok _,⟨_,rfl⟩,q⟩
end
structure uM(h:Heap)(x dx C:Addr)(mA:Str->Option Value):Prop where
 obj:h.get? x=Δ (RM C dx)
 ns:h.Ns1 dx mA
 ne:dx≠x
theorem xE{h:Heap}(n:h.Ns1 dx mA):∃od,h.get? dx=Δ od/\∀name,Ua name od=Δ (mA name):=by
 obtain⟨o,es,ep,ho,hd,hk,_,hm⟩:=n;refine⟨o,ho,λname=>?_⟩;have e:=hm name;unfold nsFind findBy at e;rw[<-Array.find?_toList] at e;unfold Ua;rw[hd];dsimp only;split;·rename_i y q;rw[q] at e;exact congrArg Δ e
 ·rename_i q;rw[q] at e;have a:es.toList.any (·.refKey)=Ξ:=by rw[List.any_eq_false];intro y hy;obtain⟨z,t,M0⟩:=hk y (Array.mem_toList_iff.mp hy);simp[DictEntry.refKey,M0]
  have a':¬es.toList.any (·.refKey)=Λ:=by rw[a];exact QF
  rw[if_neg a'];exact congrArg Δ e
theorem uM.look(I:uM h x dx C mA):∃od,PySem.W.InstAt h x (RM C dx) C (Δ od)/\∀name,Ua name od=Δ (mA name):=
 let ⟨od,ho,hl⟩:=xE I.ns
 ⟨od,⟨I.obj,rfl,rfl,ho⟩,hl⟩
section
variable{prog:QE}{w:World}{A:QY}{E:Value->Qd->Prop}{s:Qd}{K:P5}{x dx C f:Addr}{mA:Str->Option Value}{name:Str}{v:Value}
theorem get_map(X:K.In s.heap)(I:uM s.heap x dx C mA)(hg:Tw K C name=Λ)(hh:Ul K C=Λ)(ha:Ro K (.ref C) name=Δ Θ)(hv:mA name=Δ v)(LU:PySem.W.handedIn v=Λ)(h:Q v {s with toks:=s.toks+1}):
  wpAny (model prog w) A (getAttr (.ref x) name expr) Q E s:=by
 obtain⟨od,J,hl⟩:=I.look;exact PySem.W.get_value X J (TR hg).1 (PySem.W.findObj_own hh ha rfl (by rw[hl,hv])) LU h
theorem zf(X:K.In s.heap)(I:uM s.heap x dx C mA)(hg:Tw K C name=Λ)(hf:Ro K (.ref C) name=Δ (Δ (.ref f)))(ht:Vk K (.ref f)=Λ)(hv:mA name=Θ)(h:Q (.ref f,[.ref x]) s):
  wpAny (model prog w) A (Uz (.ref x) name pl) Q E s:=by
 obtain⟨od,J,hl⟩:=I.look;exact PySem.W.method_fn X J (TR hg).1 (TR hg).2 hf (beq_iff_eq.mp ht) (by show(Ua name od).map (·.isSome)=Δ Ξ;rw[hl,hv];rfl) h
theorem BK(X:K.In s.heap)(I:uM s.heap x dx C mA)(hs:Ro K (.ref C) "__setattr__"=Δ (Δ (.builtin "object.__setattr__")))(hp:PySem.W.plainOver K C=Λ)(ht:UT K C name=Δ Θ)(hh:Ul K C=Λ)(hw:Vj mA ns)(hsz:ns.length<=Qi)(h:∀h',uM h' x dx C (λy=>if y=name then Δ v else mA y)->RO dx s.heap h'->Q () {s with heap:=h',toks:=s.toks+2}):
  wpAny (model prog w) A (setAttr (.ref x) name v) Q E s:=by
 obtain⟨od,J,hl⟩:=I.look;refine PySem.W.set_plain X J hs (PySem.W.osa_open (s:={s with toks:=s.toks+1}) (r:=Θ) X J hp ht λb=>?_);obtain⟨cd,hc,xu⟩:=PySem.W.any_some hh;have hx:s.heap.get? x=Δ ⟨.ref C,Δ dx,.plain,#[]⟩:=I.obj;refine PY (P4 (PY (PY (wpAny_loadPart hx (PY (PySem.W.Looks.here (s:={s with toks:=s.toks+1}) (PySem.W.looks_clsIn X hc) ?_))))));rw[xu];refine P4 (a:=Δ dx) (PY (P4 (PY ?_)));refine wpAny_nsSet1 (s:={s with toks:=s.toks+1}) I.ns λh' LV y4=>?_;obtain⟨oD,esD,epD,hoD,hdD,hcD⟩:=LV.count (Vj.cons name v hw);refine PY (wpAny_lookBehind hoD (by rw[hdD];exact pastItsLine_dict (QJ hcD (by rw[Qm];lia))) ?_);exact P4 (h _ ⟨(y4.2 _ (Q5 I.ne)).trans I.obj,LV,I.ne⟩ y4)
theorem zg(X:K.In s.heap)(hm:PySem.W.makesIn K C=Λ)(hi:Ro K (.ref C) "__init__"=Δ (Δ (.ref f)))(hf:PySem.W.typeIn K (.ref f)=Δ (.type "function"))(h:TC (model prog w) (A.under (.builtin "type.__call__" ⟨.ref C::vs,kw⟩)) (.call (.ref f) ⟨.ref (s.heap.objs.size+1)::vs,kw⟩) (PySem.W.InitBack (s.heap.objs.size+1) R)
   {s with heap:=(s.heap.push Q9).push (RM C s.heap.objs.size)}):
  TC (model prog w) A (.call (.ref C) ⟨vs,kw⟩) R s:=by
 obtain⟨hh,g,d,t,os⟩:=s;exact PySem.W.make_core (PySem.W.makes_of X hm) (PySem.W.looks_findIn X hi) (λself=>PySem.W.bind_fn X self hf) (.inl rfl) h
end
noncomputable def gm(f:Str)(v:V):List (Str×V)->List (Str×V)
 |[]=>[(f,v)]|(g,x)::r=>if g=f then(g,v)::r else(g,x)::gm f v r
theorem lz f g v:∀fs:List (Str×V),(gm f v fs).lookup g=if g=f then Δ v else fs.lookup g
 |[]=>by
  show RI g [(f,v)]=_;by_cases h:g=f;·have hb:(g==f)=Λ:=beq_iff_eq.mpr h;simp only[RI,hb,if_pos h]
  ·have hb:(g==f)=Ξ:=beq_eq_false_iff_ne.mpr h;simp only[RI,hb,if_neg h]
 |(k,x)::r=>by
  have ih:=lz f g v r;rw[show gm f v ((k,x)::r)=(if k=f then(k,v)::r else(k,x)::gm f v r) from rfl];by_cases hk:k=f
  ·rw[if_pos hk];by_cases h:g=k;·have hb:(g==k)=Λ:=beq_iff_eq.mpr h;simp only[RI,hb,if_pos (h.trans hk)]
   ·have hb:(g==k)=Ξ:=beq_eq_false_iff_ne.mpr h;simp only[RI,hb,if_neg (λe:g=f=>h (e.trans hk.symm))]
  ·rw[if_neg hk];by_cases h:g=k;·have hb:(g==k)=Λ:=beq_iff_eq.mpr h;simp only[RI,hb,if_neg (λe:g=f=>hk (h.symm.trans e))]
   ·have hb:(g==k)=Ξ:=beq_eq_false_iff_ne.mpr h;simp only[RI,hb];exact ih
theorem kC f v:∀fs:List (Str×V),f∈(gm f v fs).map (·.1)/\∀g,g∈fs.map (·.1)->g∈(gm f v fs).map (·.1)
 |[]=>⟨by simp[gm],λg h=>by simp at h⟩|(k,x)::r=>by
  obtain⟨i1,i2⟩:=kC f v r;rw[show gm f v ((k,x)::r)=(if k=f then(k,v)::r else(k,x)::gm f v r) from rfl];by_cases hk:k=f;·rw[if_pos hk];subst hk;exact⟨by simp,λg h=>by simpa using h⟩
  ·rw[if_neg hk];refine⟨?_,λg h=>?_⟩;·rw[QD];exact P6 _ i1
   ·rw[QD] at h ⊢;rcases Uu.mp h with e|e;·exact Uu.mpr (.inl e)
    ·exact P6 _ (i2 g e)
theorem lA f v:∀fs:List (Str×V),(gm f v fs).length<=fs.length+1
 |[]=>by simp[gm]|(k,x)::r=>by
  have ih:=lA f v r;rw[show gm f v ((k,x)::r)=(if k=f then(k,v)::r else(k,x)::gm f v r) from rfl];by_cases hk:k=f;·rw[if_pos hk,Qm,Qm];lia
  ·rw[if_neg hk,Qm,Qm];lia
theorem gN.some_of(r:gN (Δ v) o):∃u,o=Δ u/\RelV v u:=by cases o with|none=>exact(show False from r).elim|some u=>exact⟨u,rfl,r⟩
theorem gN.none_of(r:gN Θ o):o=Θ:=by cases o with|none=>rfl|some u=>exact(show False from r).elim
theorem xF(r:RelV v u):PySem.W.handedIn u=Λ:=by cases v with|bu=>cases (show u=RB from r);rfl|bl b=>cases (show u=SX b from r);rfl|int i=>obtain⟨t,e⟩:=(show ∃t,u=Tv i t from r);cases e;rfl|str x=>obtain⟨t,e⟩:=(show ∃t,u=S3 x t from r);cases e;rfl|Hy b=>obtain⟨t,e⟩:=(show ∃t,u=Value.bytes b t from r);cases e;rfl|Ek b=>obtain⟨t,e⟩:=(show ∃t,u=Vs b t from r);cases e;rfl|ref a=>cases (show u=Qr a from r);rfl|ty n=>cases (show u=So n from r);rfl
section
variable{P:QE}{w:World}{H H':Hp}{h h':Heap}{a C dx:Addr}{fs fs':List (Str×V)}
theorem ml(aJ:gi P w H h)(e:H a=Δ (.ins C dx fs)):∃mA,uM h a dx C mA/\(∀f,gN (fs.lookup f) (mA f))/\Vj mA (fs.map (·.1))/\fs.length<=1000/\H dx=Δ (.own a):=by obtain⟨d,z,ne,ob,mA,n,r,q⟩:=(show bF P w H h a (.ins C dx fs) from aJ a _ e);exact⟨mA,⟨ob,n,ne⟩,r,q,z,d⟩
end
structure uw(K:P5)(C:Addr):Prop where
 pg:Tw K C Str.empty=Λ
 hd:Ul K C=Λ
 po:PySem.W.plainOver K C=Λ
 sa:Ro K (.ref C) "__setattr__"=Δ (Δ (.builtin "object.__setattr__"))
theorem uw.get{K:P5}(c:uw K C)f:Tw K C f=Λ:=c.pg
noncomputable def gn(K:P5)(C:Addr)(f:Str):Prop:=Ro K (.ref C) f=Δ Θ
theorem gn.IS{K:P5}(n:gn K C f):UT K C f=Δ Θ:=by unfold UT;rw[show Ro K (.ref C) f=Δ Θ from n];rfl
structure uN(K:P5)(C:Addr)(m:Str)(f:Addr):Prop where
 at_:Ro K (.ref C) m=Δ (Δ (.ref f))
 fn:Vk K (.ref f)=Λ
 kp:Sh K (.ref f)=Λ
section
variable{X:Cx}{η:List (Addr×Obj)}{σ:St}{H:Hp}{s:Qd}{a C dx:Addr}{fs:List (Str×V)}{f:Str}{v:V}{A:QY}{E:Value->Qd->Prop}
theorem uO(I:Inv X η σ H s)(e:H a=Δ (.ins C dx fs))(c:uw X.K C)(n:gn X.K C f)(l:fs.lookup f=Δ v)(h:∀u s',Inv X η σ H s'->RelV v u->Q u s'):wpAny (model X.prog X.w) A (getAttr (.ref a) f b) Q E s:=by obtain⟨mA,O,r,_,_,_⟩:=ml I.aJ e;obtain⟨u,hu,ru⟩:=gN.some_of (v:=v) (o:=mA f) (by rw[<-l];exact r f);exact get_map I.gM O (c.get f) c.hd n hu (xF ru) (h u _ (I.tok _) ru)
theorem i7(I:Inv X η σ H s)(e:H a=Δ (.ins C dx fs))(c:uw X.K C)(k:uN X.K C m g)(l:fs.lookup m=Θ)(h:Q (.ref g,[.ref a]) s):wpAny (model X.prog X.w) A (Uz (.ref a) m pl) Q E s:=by obtain⟨mA,O,r,_,_,_⟩:=ml I.aJ e;have hn:mA m=Θ:=gN.none_of (by rw[<-l];exact r m);exact zf I.gM O (c.get m) k.at_ k.fn hn h
theorem uP(I:Inv X η σ H s)(e:H a=Δ (.ins C dx fs))(c:uw X.K C)(n:gn X.K C f)(hl:fs.length < 1000)(ry:RelV y u)(h:∀s',Inv X η σ (upd H a (.ins C dx (gm f y fs))) s'->Q () s'):wpAny (model X.prog X.w) A (setAttr (.ref a) f u) Q E s:=by
 obtain⟨mA,O,r,wi,_,ho⟩:=ml I.aJ e;have hz:(fs.map (·.1)).length<=Qi:=by rw[Qv,Q0];lia
 refine BK I.gM O c.sa c.po n.IS c.hd wi hz λh' O' sb=>h _ ?_;have hd:∃o,h'.get? dx=Δ o:=let ⟨o,_,_,e',_⟩:=O'.ns;⟨o,e'⟩
 refine I.write (x:=a) (e:=dx) (by rw[e];exact Q8) (.inr ho) (λb q hb z=>(sb.2 b hb).trans z) hd ?_;refine⟨by rw[av O.ne];exact ho,?_,O.ne,O'.obj,_,O'.ns,λg=>?_,λg hg=>?_⟩;·have:=lA f y fs;lia
 ·show gN ((gm f y fs).lookup g) (if g=f then Δ u else mA g);rw[lz];by_cases q:g=f;·rw[if_pos q,if_pos q];exact ry
  ·rw[if_neg q,if_neg q];exact r g
 ·by_cases q:g=f;·rw[q];exact(kC f y fs).1
  ·refine(kC f y fs).2 g (wi g λz=>hg ?_);show(if g=f then Δ u else mA g)=Θ;rw[if_neg q];exact z
theorem Inv.made(I:Inv X η σ H s):Inv X η σ (upd (upd H s.heap.objs.size (.own (s.heap.objs.size+1))) (s.heap.objs.size+1) (.ins C s.heap.objs.size []))
  {s with heap:=(s.heap.push Q9).push (RM C s.heap.objs.size)}:=by
 have e1:(s.heap.push Q9).get? s.heap.objs.size=Δ Q9:=Qe s.heap rfl;have e2:((s.heap.push Q9).push (RM C s.heap.objs.size)).get? (s.heap.objs.size+1)=Δ (RM C s.heap.objs.size):=by have:=Qe (s.heap.push Q9) (o:=RM C s.heap.objs.size) rfl;rwa [Q3] at this
 have e3:(s.heap.push Q9).Ns s.heap.objs.size (λ_=>Θ):=⟨Q9,#[],_,e1,rfl,(λe he=>absurd he (by simp)),λ_=>rfl⟩;have I1:=I.laid (a:=s.heap.objs.size) (o:=.own (s.heap.objs.size+1)) (h':=s.heap.push Q9) (t':=s.toks) (λb u q=>P0 _ q) (P8 _) ⟨_,e1⟩;refine I1.laid (a:=s.heap.objs.size+1) (o:=.ins C s.heap.objs.size []) (t':=s.toks) (λb u q=>P0 _ q) (TZ (Q3 _ _)) ?_;have ne:s.heap.objs.size≠s.heap.objs.size+1:=Qt (Rk _);refine⟨by rw[av ne,aA],R6 _,ne,e2,λ_=>Θ,(Heap.Ns1.of_empty e3).at λo q=>P0 _ q,λ_=>Q8,λy hy=>absurd rfl hy⟩
theorem BL(hb:R9 e f env (eval e env)=eval e env)(h:wpAny (model prog w) A (eval e env) (λo bC=>wpAny (model prog w) A (getAttr o f Λ) Q E bC) E s):wpAny (model prog w) A (eval (.Attribute e f pos) env) Q E s:=
 Attribute_any_ h (by rw[arm_eval_Attribute,hb])
end
def M3(K:P5)(ta:TE)(f:Str):TE:=λσ H Q=>ta σ H λx H1=>∃a C dx fs v,x=.ref a/\H1 a=Δ (.ins C dx fs)/\uw K C/\gn K C f/\fs.lookup f=Δ v/\Q v H1
def M4(K:P5)(ta tv:TE)(f:Str):TS:=λD σ H=>tv σ H λy H1=>ta σ H1 λx H2=>∃a C dx fs,x=.ref a/\H2 a=Δ (.ins C dx fs)/\uw K C/\gn K C f/\fs.length < 1000/\
 D.nx σ (upd H2 a (.ins C dx (gm f y fs)))
section
variable{X:Cx}{o e value:Expr}{f:Str}{pos pos' IT:Pos}{ta tv:TE}
theorem EA(he:PE X e ta)(hb:R9 e f X.env (eval e X.env)=eval e X.env):PE X (.Attribute e f pos) (M3 X.K ta f):=by intro η s σ H Q I h;refine BL hb (bG (he η s σ H _ I h) λu s1 ⟨x,H1,I1,rx,a,C,dx,fs,v,ex,ea,c,n,l,q⟩=>?_);subst ex;obtain rfl:u=Qr a:=rx;exact uO I1 ea c n l λu' s2 I2 ru=>⟨v,H1,I2,ru,q⟩
theorem EB(ha:PE X o ta)(hv:PE X value tv)(hs:Se value (Δ (.Attribute o f pos')) pos.line X.env=pure Ξ):PS X (.Assign [.Attribute o f pos'] value pos) (M4 X.K ta tv f):=by intro η s σ H D I h;refine plainObj_wpAny_Assign_Attribute (bG (hv η s σ H _ I h) λu s1 ⟨y,H1,I1,ry,q⟩=>bG (ha η s1 σ H1 _ I1 q) λov s2 ⟨x,H2,I2,rx,a,C,dx,fs,ex,ea,c,n,l,q2⟩=>?_) hs;subst ex;obtain rfl:ov=Qr a:=rx;exact uP I2 ea c n l ry λs3 I3=>⟨σ,_,I3,q2⟩
theorem DB(he:PE X e te)(I:Inv X η σ H s)(h:te σ H λx H1=>∃a C dx fs g,x=.ref a/\H1 a=Δ (.ins C dx fs)/\uw X.K C/\uN X.K C m g/\fs.lookup m=Θ/\
   ∀s1,Inv X η σ H1 s1->wpAny (model X.prog X.w) X.A (Vi pos (.ref g) [.ref a] (Rx pos (Qo args X.env)) (TH pos (Sn [] X.env))) Q X.xe s1)(ht:eval (.Call (.Attribute e m apos) args [] pos) X.env=(do
   let ov<-eval e X.env
   UM apos.atName
   let (f,first)<-U4 [ov] (Uz ov m pl)
   Vi pos f first (Rx pos (Qo args X.env)) (TH pos (Sn [] X.env)))):
  wpAny (model X.prog X.w) X.A (eval (.Call (.Attribute e m apos) args [] pos) X.env) Q X.xe s:=by
 refine Tn (pl:=pl) (bG (he η s σ H _ I h) λu s1 ⟨x,H1,I1,rx,a,C,dx,fs,g,ex,ea,c,k,l,q⟩=>?_) ht;subst ex;obtain rfl:u=Qr a:=rx;exact i7 I1 ea c k l (q s1 I1)
end
section
variable{X:Cx}{η:List (Addr×Obj)}{σ:St}{H:Hp}{s:Qd}{A:QY}{E:Value->Qd->Prop}{Q:Value->Qd->Prop}{c:Value}{b:Bool}
inductive i8 (K:P5) (H:Hp):V->Value->Prop where
 |bu:i8 K H .bu (.type "NoneType")
 |bl (x:Bool):i8 K H (.bl x) (.type "bool")
 |int (i:Int):i8 K H (.int i) (.type "int")
 |str (x:Str):i8 K H (.str x) (.type "str")
 |Ek (x:UInt64):i8 K H (.Ek x) (.type "float")
 |lst {a:Addr} {xs:List V} (e:H a=Δ (.lst xs)):i8 K H (.ref a) (.type "list")
 |cF {a:Addr} {o:Obj} {xs:List V} (e:H a=Δ (.cF o (.lst xs))):i8 K H (.ref a) (.type "list")
 |tup {a:Addr} {xs:List V} (e:H a=Δ (.tup xs)):i8 K H (.ref a) (.type "tuple")
 |dK {a:Addr} {kvs:List (Key×V)} (e:H a=Δ (.dK kvs)):i8 K H (.ref a) (.type "dict")
 |dT {a:Addr} {kvs:List (List Key×V)} (e:H a=Δ (.dT kvs)):i8 K H (.ref a) (.type "dict")
 |ins {a C dx:Addr} {fs:List (Str×V)} (e:H a=Δ (.ins C dx fs)) (cl:uw K C) (ha:Ro K (.ref C) "__class__"=Δ (Δ (.builtin "object.__class__")))
   (hn:PySem.W.specialIn K (.builtin "object.__class__") "__get__"=Δ (Δ (.builtin "getset_descriptor.__get__"))) (htk:PySem.W.takesIn K (.builtin "object.__class__")=Δ Λ)
   (hm:PySem.W.mroIn K C (.type "object")=Δ Λ):i8 K H (.ref a) (.ref C)
theorem kD(I:Inv X η σ H s)(rx:RelV x u)(ty:i8 X.K H x t)(e:RE X.K t c=Δ b)(h:∀tk,Q (.bool b) {s with toks:=tk}):
  wpAny (model X.prog X.w) A (call (.builtin "isinstance") [u,c]) Q E s:=by
 cases ty with
 |bu=>cases (show u=RB from rx);exact QV PySem.W.kitx_none I.gM Q8 e (λz=>nomatch z) h|bl y=>cases (show u=SX y from rx);exact QV PySem.W.kitx_bool I.gM Q8 e (λz=>nomatch z) h|int i=>obtain⟨t,q⟩:=(show ∃t,u=Tv i t from rx);cases q;exact QV PySem.W.kitx_int I.gM Q8 e (λz=>nomatch z) h|str y=>obtain⟨t,q⟩:=(show ∃t,u=S3 y t from rx);cases q;exact QV PySem.W.kitx_str I.gM Q8 e (λz=>nomatch z) h|Ek y=>obtain⟨t,q⟩:=(show ∃t,u=Vs y t from rx);cases q;exact QV PySem.W.kitx_float I.gM Q8 e (λz=>nomatch z) h|@lst a xs ea=>cases (show u=Qr a from rx);obtain⟨_,_,n,_,h1⟩:=(show bF X.prog X.w H s.heap a (.lst xs) from I.aJ a _ ea);exact QV PySem.W.kitx_list I.gM ⟨_,h1,rfl⟩ e (λz=>nomatch z) h
 |@cF a ob xs ea=>cases (show u=Qr a from rx);obtain⟨_,_,_,n,_,h1⟩:=(show bF X.prog X.w H s.heap a (.cF ob (.lst xs)) from I.aJ a _ ea);exact QV PySem.W.kitx_list I.gM ⟨_,h1,rfl⟩ e (λz=>nomatch z) h|@tup a xs ea=>cases (show u=Qr a from rx);obtain⟨_,_,_,p⟩:=(show bF X.prog X.w H s.heap a (.tup xs) from I.aJ a _ ea);obtain⟨o,h1,h2,_⟩:=p;exact QV PySem.W.kitx_tuple I.gM ⟨o,h1,h2⟩ e (λz=>nomatch z) h|@dK a kvs ea=>cases (show u=Qr a from rx);obtain⟨_,_,vs,_,p⟩:=(show bF X.prog X.w H s.heap a (.dK kvs) from I.aJ a _ ea);obtain⟨o,es,ep,h1,h2,_⟩:=p;exact QV PySem.W.kitx_dict I.gM ⟨o,h1,h2.1⟩ e (λz=>nomatch z) h|@dT a kvs ea=>cases (show u=Qr a from rx);obtain⟨_,_,xs,_,o,es,ep,h1,h2,_⟩:=(show bF X.prog X.w H s.heap a (.dT kvs) from I.aJ a _ ea);exact QV PySem.W.kitx_dict I.gM ⟨o,h1,h2.1⟩ e (λz=>nomatch z) h|@ins a C dx fs ea cl ha hn htk hm=>cases (show u=Qr a from rx);obtain⟨mA,O,_⟩:=ml I.aJ ea;obtain⟨od,J,_⟩:=O.look;exact QV (PySem.W.kitx_own (cl.get _) cl.hd ha hn htk hm) I.gM J e (λz=>nomatch z) h
end
structure cb(k:Nat)(A:QY):Prop where
 hd:A.handled=Θ
 dp:A.depth+3*k+5 < recursionLimit
 un:A.units+16*k+200 < cLine
theorem cb.mono(r:cb k A)(h:j<=k):cb j A:=⟨r.hd,by have:=r.dp;lia,by have:=r.un;lia⟩
theorem cb.deeper(r:cb (k+1) A)env:cb k (A.deeper env):=
 ⟨r.hd,by have:=r.dp;show A.depth+1+3*k+5 < _;lia,by have:=r.un;show A.units+3+16*k+200 < _;lia⟩
theorem uQ{A:QY}:(A.under (.builtin "type.__call__" ⟨.ref C::us,kw⟩)).depth=A.depth+1:=by first|rfl|simp[Vn,Code.weight,Code.isCreation,Code.isGuard,Code.isCaller,Code.frames,Vm,guardIds]
theorem uR{A:QY}:(A.under (.builtin "type.__call__" ⟨.ref C::us,kw⟩)).units=A.units+1:=by first|rfl|simp[Vn,Code.cUnits,Code.frames,Vm]
theorem cb.make(r:cb (k+1) A)C us kw:cb k (A.under (.builtin "type.__call__" ⟨.ref C::us,kw⟩)):=
 ⟨r.hd,by have:=r.dp;rw[uQ];lia,by have:=r.un;rw[uR];lia⟩
theorem cb.depth(r:cb k A):A.depth < recursionLimit:=by have:=r.dp;lia
def EC:TA:=λ_ H Q=>Q [] H
def IU(ta:TE)(tr:TA):TA:=λσ H Q=>ta σ H λx H1=>tr σ H1 λxs H2=>Q (x::xs) H2
section
variable{X:Cx}{e:Expr}{es:List Expr}{te:TE}{t:TA}{pos:Pos}
theorem kE:PA X [] EC:=λ_ _ _ _ H Q I h=>Sx ⟨[],H,I,.nil,h⟩
theorem eM(ha:PE X e te)(hr:PA X es t)(hs:Qo (e::es) X.env=(Ξ,eval e X.env)::Qo es X.env:=by rfl):PA X (e::es) (IU te t):=by intro pos η s σ H Q I h;rw[hs];show wpAny _ _ (spliced ((Ξ,eval e X.env)::Rx pos (Qo es X.env))) _ _ s;refine RV (bG (ha η s σ H _ I h) λu s1 ⟨x,H1,I1,r1,q1⟩=>?_);exact bG (hr pos η s1 σ H1 _ I1 q1) λus s2 ⟨xs,H2,I2,r2,q2⟩=>⟨x::xs,H2,I2,.cons r1 r2,q2⟩
def M5(t:TA):TE:=λσ H Q=>t σ H λxs H1=>xs.length<=Qi/\∀p,H1 p=Θ->Q (.ref p) (upd H1 p (.tup xs))
def M6(t:TA):TE:=λσ H Q=>t σ H λxs H1=>xs.length<=Qi/\∀p,H1 p=Θ->Q (.ref p) (upd H1 p (.lst xs))
theorem ED{x1}(h:PA X es t):PE X (.Tuple es x1 pos) (M5 t):=by intro η s σ H Q I hq;refine wpAny_Tuple_spliced (bG (h pos η s σ H _ I hq) λus s1 ⟨xs,H1,I1,r,z,q⟩=>⟨by rw[<-r.length];exact z,?_⟩);have hf:H1 s1.heap.objs.size=Θ:=I1.aJ.fresh (P8 _);refine⟨.ref s1.heap.objs.size,upd H1 s1.heap.objs.size (.tup xs),I1.laid (t':=s1.toks) (λb u e=>P0 _ e) (P8 _) ?_,rfl,q _ hf⟩;exact⟨z,us,r,⟨_,Qe _ rfl,rfl,_,rfl⟩⟩
theorem EF(h:PA X es t):PE X (.List es pos) (M6 t):=by intro η s σ H Q I hq;refine wpAny_List_spliced (bG (h pos η s σ H _ I hq) λus s1 ⟨xs,H1,I1,r,z,q⟩=>⟨by rw[<-r.length];exact z,?_⟩);have hf:H1 s1.heap.objs.size=Θ:=I1.aJ.fresh (P8 _);refine⟨.ref s1.heap.objs.size,upd H1 s1.heap.objs.size (.lst xs),I1.laid (t':=s1.toks) (λb u e=>P0 _ e) (P8 _) ?_,rfl,q _ hf⟩;exact⟨z,us,0,r,Qe _ rfl⟩
end
abbrev Sp:=List V->Hp->VK->XK->Prop
abbrev zh:=List Env->Hp->Qd->XK->Value->Qd->Prop
structure qu(P:QE)(w:World)(K:P5)(mg:Str->Option Value)(base:Heap)(A:QY)(outer:List Env)(s:Qd)(H:Hp):Prop where
 frames:A.frames=Δ outer
 mod:Mod K mg base
 bs:∀b o,base.get? b=Δ o->s.heap.get? b=Δ o/\H b=Θ
 xq:base.objs.size<=s.heap.objs.size
 fO:s.heap.FunFrames base outer
 xt:∀b∈dz outer,H b=Θ
 aJ:gi P w H s.heap
 bare:T4 s.gens
def CE(outer:List Env)(P:QE)(w:World)(H:Hp)(s:Qd)(Q:VK)(u:Value)(s':Qd):Prop:=
 ∃v H',s'.os=s.os/\T4 s'.gens/\Un (dz outer) [] H H' s.heap s'.heap/\gi P w H' s'.heap/\RelV v u/\Q v H'
def CR(CX:zh)(outer:List Env)(P:QE)(w:World)(H:Hp)(s:Qd)(Q:VK)(E:XK)(r:Result)(s':Qd):Prop:=
 match r with|.ok (.ret u)=>CE outer P w H s Q u s'|.ok _=>False|.error e=>CX outer H s E e s'
structure cz(P:QE)(w:World)(K:P5)(mg:Str->Option Value)(base:Heap)(CX:zh)(k:Nat)(f:Addr)(fd:QX)(ps:List Str)(sp:Sp):Prop where
 len:∀vs H Q E,sp vs H Q E->vs.length=ps.length
 run:∀(A:QY) (outer:List Env) (s:Qd) (H:Hp) (args:Args) (us:List Value) (vs:List V) (Q:VK) (E:XK),cb k A->qu P w K mg base A outer s H->T3 s fd args (ps.zip us)->aM vs us->sp vs H Q E->
  TC (model P w) A (.call (.ref f) args) (CR CX outer P w H s Q E) s
theorem cz.mono{K:P5}(F:cz P w K mg base CX j f fd ps sp)(h:j<=k):
  cz P w K mg base CX k f fd ps sp:=⟨F.len,λA outer s H args us vs Q E hr=>F.run A outer s H args us vs Q E (hr.mono h)⟩
theorem qu.make{K:P5}(e:qu P w K mg base A outer s H)C us kw:
  qu P w K mg base (A.under (.builtin "type.__call__" ⟨.ref C::us,kw⟩)) outer s H:=⟨by first|exact e.frames|(simpa[Vn,Code.envs,Vm,pushEnvs] using e.frames),e.mod,e.bs,e.xq,e.fO,e.xt,e.aJ,e.bare⟩
section
variable{X:Cx}{η:List (Addr×Obj)}{σ:St}{H:Hp}{s s':Qd}
theorem Inv.uS(I:Inv X η σ H s):qu X.prog X.w X.K X.mg X.base X.A X.stack s H:=
 ⟨I.ok.frames,I.ok.mod,I.bs,QJ I.ok.xq I.sz,I.stack,I.jz,I.aJ,I.bare⟩
theorem Inv.after(I:Inv X η σ H s)(h:CE X.stack X.prog X.w H s Q u s'):EP X η σ Q u s':=by obtain⟨v,H',os,bare,un,aJ,r,q⟩:=h;obtain⟨hh,g,d,t,os'⟩:=s';obtain rfl:os'=s.os:=os;exact⟨v,H',I.call (h':=hh) (g':=g) (d':=d) (t':=t) (ch:=[]) un aJ bare (λb z=>absurd z (by simp)),r,q⟩
end
noncomputable def zi(sp:Sp)(dvs:List V)(E:XK)(t:TA):TE:=λσ H Q=>t σ H λvs H1=>sp (vs++dvs) H1 Q E
noncomputable def wx(C:Addr)(m:Str)(sp:Sp)(dvs:List V)(E:XK)(ta:TE)(t:TA):TE:=λσ H Q=>ta σ H λx H1=>∃a dx fs,x=.ref a/\H1 a=Δ (.ins C dx fs)/\fs.lookup m=Θ/\
 t σ H1 λvs H2=>sp (x::(vs++dvs)) H2 Q E
def IV(C:Addr)(sp:Sp)(dvs:List V)(E:XK)(t:TA):TE:=λσ H Q=>t σ H λvs H1=>∀x dx,H1 x=Θ->H1 dx=Θ->dx≠x->
 sp (.ref x::(vs++dvs)) (upd (upd H1 dx (.own x)) x (.ins C dx [])) (λv H2=>v=.bu/\Q (.ref x) H2) E
noncomputable def Binds(K:P5)(fd:QX)(ps:List Str)(ds:List Value):Prop:=
 ∀(s:Qd) (us:List Value),K.In s.heap->(us++ds).length=ps.length->T3 s fd ⟨us,[]⟩ (ps.zip (us++ds))
theorem Binds.all{K:P5}(h:∀us:List Value,us.length=ps.length->Vx fd ⟨us,[]⟩=pure (ps.zip us)):Binds K fd ps []:=λs us _ hl=>by rw[QK] at hl ⊢;exact .of_eq (h us hl)
noncomputable def gQ(CX:zh)(X:Cx)(E:XK):Prop:=∀(η:List (Addr×Obj)) (σ:St) (H:Hp) (s:Qd) (e:Value) (s':Qd),Inv X η σ H s->CX X.stack H s E e s'->X.xe e s'
section
variable{X:Cx}{CX:zh}{k:Nat}{f C:Addr}{fd:QX}{ps:List Str}{sp:Sp}{dvs:List V}{ds:List Value}{E:XK}{x m:Str}{p pos apos:Pos}{e o:Expr}{es:List Expr}{ta:TE}{t:TA}
theorem mP(F:cz X.prog X.w X.K X.mg X.base CX k f fd ps sp)(hr:cb k X.A)(hb:Binds X.K fd ps ds)(hd:aM dvs ds)(hx:gQ CX X E)(I:Inv X η σ H s)(r:aM vs us)(h:sp (vs++dvs) H Q E):wpAny (model X.prog X.w) X.A (call (.ref f) us) (EP X η σ Q) X.xe s:=by
 have r2:aM (vs++dvs) (us++ds):=r.append hd;have hl:(us++ds).length=ps.length:=by rw[<-r2.length];exact F.len _ _ _ _ h
 refine UK (SG (F.run X.A X.stack s H ⟨us,[]⟩ (us++ds) (vs++dvs) Q E hr I.uS (hb s us I.gM hl) r2 h) λr s' hq=>?_);cases r with|error e=>exact hx η σ H s e s' I hq|ok fl=>cases fl with|ret u=>exact I.after hq|next=>exact QB hq|brk=>exact QB hq|cont=>exact QB hq
theorem BM(F:cz X.prog X.w X.K X.mg X.base CX k f fd ps sp)(hr:cb k X.A)(hg:Gl X x)(hm:X.mg x=Δ (.ref f))(hk:Sh X.K (.ref f)=Λ)(hb:Binds X.K fd ps ds)(hd:aM dvs ds)(hx:gQ CX X E)
  (ha:PA X (e::es) t) (BN:(x==("__debug__":Str))=Ξ:=by decide) (he:Qo (e::es) X.env=(Ξ,eval e X.env)::Qo es X.env:=by rfl) (oJ:(Rx pos (Qo es X.env)).any (·.1)=Ξ:=by rfl):
  PE X (.Call (.Name x p) (e::es) [] pos) (zi sp dvs E t):=by
 intro η s σ H Q I h;refine QN (fz I hg hm ?_ BN);refine SY (h₀:=X.base) I.ok.mod.wj hk (bG (ha pos η s σ H _ I h) λus s1 ⟨vs,H1,I1,r,q⟩=>⟨I1.gM,?_⟩) he oJ;exact mP F hr hb hd hx I1 r q
theorem zj(F:cz X.prog X.w X.K X.mg X.base CX k f fd ps sp)(hr:cb k X.A)(hg:Gl X x)(hm:X.mg x=Δ (.ref f))(hk:Sh X.K (.ref f)=Λ)(hb:Binds X.K fd ps ds)(hd:aM dvs ds)(hx:gQ CX X E)
  (BN:(x==("__debug__":Str))=Ξ:=by decide):PE X (.Call (.Name x p) [] [] pos) (zi sp dvs E EC):=by
 intro η s σ H Q I h;refine QN (fz I hg hm ?_ BN);exact PySem.W.callWith_K0 I.gM hk (mP (us:=[]) F hr hb hd hx I .nil h)
theorem BO(he:PE X o ta)(c:uw X.K C)(hm:uN X.K C m f)(F:cz X.prog X.w X.K X.mg X.base CX k f fd ps sp)(hr:cb k X.A)(hb:Binds X.K fd ps ds)(hd:aM dvs ds)(hx:gQ CX X E)(ha:PA X (e::es) t)(qo:Qo (e::es) X.env=(Ξ,eval e X.env)::Qo es X.env:=by rfl)(oJ:(Rx pos (Qo es X.env)).any (·.1)=Ξ:=by rfl)(ht:eval (.Call (.Attribute o m apos) (e::es) [] pos) X.env=(do
   let ov<-eval o X.env
   UM apos.atName
   let (f,first)<-U4 [ov] (Uz ov m pl)
   Vi pos f first (Rx pos (Qo (e::es) X.env)) (TH pos (Sn [] X.env))):=by rfl):
  PE X (.Call (.Attribute o m apos) (e::es) [] pos) (wx C m sp dvs E ta t):=by
 intro η s σ H Q I h;refine Tn (pl:=pl) (bG (he η s σ H _ I h) λu s1 ⟨x,H1,I1,rx,a,dx,fs,ex,ea,l,q⟩=>?_) ht;subst ex;obtain rfl:u=Qr a:=rx;refine i7 I1 ea c hm l ?_;refine SY (first:=[.ref a]) (h₀:=X.base) I.ok.mod.wj hm.kp (bG (ha pos η s1 σ H1 _ I1 q) λus s2 ⟨vs,H2,I2,r,q2⟩=>⟨I2.gM,?_⟩) qo oJ;exact mP (us:=.ref a::us) (vs:=.ref a::vs) F hr hb hd hx I2 (.cons rfl r) q2
theorem zk(he:PE X o ta)(c:uw X.K C)(hm:uN X.K C m f)(F:cz X.prog X.w X.K X.mg X.base CX k f fd ps sp)(hr:cb k X.A)(hb:Binds X.K fd ps ds)(hd:aM dvs ds)(hx:gQ CX X E)(ht:eval (.Call (.Attribute o m apos) [] [] pos) X.env=(do
   let ov<-eval o X.env
   UM apos.atName
   let (f,first)<-U4 [ov] (Uz ov m pl)
   Vi pos f first (Rx pos (Qo [] X.env)) (TH pos (Sn [] X.env))):=by rfl):
  PE X (.Call (.Attribute o m apos) [] [] pos) (wx C m sp dvs E ta EC):=by
 intro η s σ H Q I h;refine Tn (pl:=pl) (bG (he η s σ H _ I h) λu s1 ⟨x,H1,I1,rx,a,dx,fs,ex,ea,l,q⟩=>?_) ht;subst ex;obtain rfl:u=Qr a:=rx;refine i7 I1 ea c hm l ?_;exact PySem.W.callWith_K0 (first:=[.ref a]) I1.gM hm.kp (mP (us:=[.ref a]) (vs:=[.ref a]) F hr hb hd hx I1 (.cons rfl .nil) q)
structure Mk(K:P5)(C f:Addr):Prop where
 makes:PySem.W.makesIn K C=Λ
 init:Ro K (.ref C) "__init__"=Δ (Δ (.ref f))
 fn:Vk K (.ref f)=Λ
 kp:Sh K (.ref C)=Λ
theorem zl(M:Mk X.K C f)(F:cz X.prog X.w X.K X.mg X.base CX k f fd ps sp)(hr:cb (k+1) X.A)(hb:Binds X.K fd ps ds)(hd:aM dvs ds)(hx:gQ CX X E)(I:Inv X η σ H s)(r:aM vs us)(h:∀x dx,H x=Θ->H dx=Θ->dx≠x->sp (.ref x::(vs++dvs)) (upd (upd H dx (.own x)) x (.ins C dx [])) (λv H2=>v=.bu/\Q (.ref x) H2) E):
  wpAny (model X.prog X.w) X.A (call (.ref C) us) (EP X η σ Q) X.xe s:=by
 have hq:=h (s.heap.objs.size+1) s.heap.objs.size (I.aJ.fresh (Q1 _)) (I.aJ.fresh (P8 _)) (Qt (Rk _));have I2:=Inv.made (C:=C) I;have r2:aM (V.ref (s.heap.objs.size+1)::(vs++dvs)) (Qr (s.heap.objs.size+1)::(us++ds)):=.cons rfl (r.append hd);have hl:(Qr (s.heap.objs.size+1)::us++ds).length=ps.length:=by have e:=r2.length;rw[F.len _ _ _ _ hq] at e;exact e.symm
 refine UK (zg (f:=f) I.gM M.makes M.init (beq_iff_eq.mp M.fn) (SG (F.run _ X.stack _ _ ⟨Qr (s.heap.objs.size+1)::us,[]⟩ (Qr (s.heap.objs.size+1)::(us++ds)) _ _ E (hr.make C us [])
  (I2.uS.make C us []) (hb _ (Qr (s.heap.objs.size+1)::us) I2.gM hl) r2 hq) λr s' IW=>?_))
 cases r with|error e=>exact hx η σ _ _ e s' I2 IW|ok fl=>cases fl with|ret u=>obtain⟨v,H',I3,rv,ev,q3⟩:=I2.after IW;subst ev;exact⟨rv,⟨V.ref (s.heap.objs.size+1),H',I3,rfl,q3⟩⟩|next=>exact QB IW|brk=>exact QB IW|cont=>exact QB IW
theorem BP(M:Mk X.K C f)(F:cz X.prog X.w X.K X.mg X.base CX k f fd ps sp)(hr:cb (k+1) X.A)(hg:Gl X x)(hm:X.mg x=Δ (.ref C))(hb:Binds X.K fd ps ds)(hd:aM dvs ds)(hx:gQ CX X E)
  (ha:PA X (e::es) t) (BN:(x==("__debug__":Str))=Ξ:=by decide) (he:Qo (e::es) X.env=(Ξ,eval e X.env)::Qo es X.env:=by rfl) (oJ:(Rx pos (Qo es X.env)).any (·.1)=Ξ:=by rfl):
  PE X (.Call (.Name x p) (e::es) [] pos) (IV C sp dvs E t):=by
 intro η s σ H Q I h;refine QN (fz I hg hm ?_ BN);refine SY (h₀:=X.base) I.ok.mod.wj M.kp (bG (ha pos η s σ H _ I h) λus s1 ⟨vs,H1,I1,r,q⟩=>⟨I1.gM,?_⟩) he oJ;exact zl M F hr hb hd hx I1 r q
end
section
variable{X:Cx}{CX:zh}{k:Nat}{f C:Addr}{fd:QX}{ps ks:List Str}{sp:Sp}{E:XK}{x m:Str}{p pos apos kpos:Pos}{e o:Expr}{es:List Expr}{eN:List Um}{te ta:TE}{t tk:TA}{nm:Option Str}
variable{g:List Value->List Value->List Value}{gV:List V->List V->List V}
end
structure gp(N P:List Str)(sc:Scope):Prop where
 kind:sc.kind=.function
 co:sc.isCoroutine=Ξ
 gen:sc.isGenerator=Ξ
 nd:N.Nodup
 pre:N.take P.length=P
 par:∀x∈P,sc.names.lookup x=Δ .local\/sc.names.lookup x=Δ .cell
 EG:∀y∈sc.names,y.2≠.free
theorem pB{Tu:Str->Option R7}:∀{binds} {m},(∀v,(x,v)∉binds)->bindL Tu binds m x=m x
 |[],_,_=>rfl|(n,v)::r,m,h=>by
  unfold bindL;rw[pB λw hw=>h w (P6 _ hw)];split
  ·have:x≠n:=by rintro rfl;exact h v P7
   simp[this]
  ·rfl
theorem pD{Tu:Str->Option R7}:∀{binds} {m},(∀v,(x,v)∉binds)->bindC Tu binds m x=m x
 |[],_,_=>rfl|(n,v)::r,m,h=>by
  unfold bindC;rw[pD λw hw=>h w (P6 _ hw)];split;·rfl
  ·have:x≠n:=by rintro rfl;exact h v P7
   simp[this]
theorem pE{Tu:Str->Option R7}:∀{P:List Str} {vs} {i:Nat} {m},P.Nodup->P[i]?=Δ x->vs[i]?=Δ v->Tu x=Δ .local->
  bindL Tu (P.zip vs) m x=Δ v
 |[],_,_,_,_,h,_,_=>by simp at h|_::_,[],_,_,_,_,h,_=>by simp at h|p::P,w::vs,0,m,nd,h1,h2,hk=>by simp at h1 h2;subst h1;subst h2;show bindL Tu ((p,w)::P.zip vs) m p=_;unfold bindL;rw[pB λv hv=>(List.nodup_cons.mp nd).1 (Sq hv).1,if_pos hk];simp
 |p::P,w::vs,i+1,m,nd,h1,h2,hk=>by show bindL Tu ((p,w)::P.zip vs) m x=_;unfold bindL;exact pE (i:=i) (List.nodup_cons.mp nd).2 (by simpa using h1) (by simpa using h2) hk
theorem pF{Tu:Str->Option R7}:∀{P:List Str} {vs} {i:Nat} {m},P.Nodup->P[i]?=Δ x->vs[i]?=Δ v->Tu x≠Δ .local->
  bindC Tu (P.zip vs) m x=Δ v
 |[],_,_,_,_,h,_,_=>by simp at h|_::_,[],_,_,_,_,h,_=>by simp at h|p::P,w::vs,0,m,nd,h1,h2,hk=>by simp at h1 h2;subst h1;subst h2;show bindC Tu ((p,w)::P.zip vs) m p=_;unfold bindC;rw[pD λv hv=>(List.nodup_cons.mp nd).1 (Sq hv).1,if_neg hk];simp
 |p::P,w::vs,i+1,m,nd,h1,h2,hk=>by show bindC Tu ((p,w)::P.zip vs) m x=_;unfold bindC;exact pF (i:=i) (List.nodup_cons.mp nd).2 (by simpa using h1) (by simpa using h2) hk
noncomputable def start(N:List Str)(vs:List V):St:=vs.map Δ++Rb (N.length - vs.length) Θ
noncomputable def kF(CX:zh)(P:QE)(w:World)(K:P5)(mg:Str->Option Value)(base:Heap)(N:List Str)(qual:Str)(scope:Scope)(f:Addr)(cd:Value)(A:QY)(outer:List Env)(s:Qd)(H:Hp)(E:XK):Cx where
 prog:=P
 w:=w
 K:=K
 mg:=mg
 base:=base
 A:=A.deeper (SU qual scope s.heap.objs.size f cd)
 N:=N
 dA:=s
 oH:=H
 env:=SU qual scope s.heap.objs.size f cd
 outer:=outer
 stack:=SU qual scope s.heap.objs.size f cd::outer
 ex:=[]
 calm:=Λ
 fn:=λ_=>Λ
 pn:=[]
 xe:=λe s'=>wpAny (model P w) (A.deeper (SU qual scope s.heap.objs.size f cd)) (leaving (SU qual scope s.heap.objs.size f cd) e) (λ_ BQ=>CX outer H s E e BQ) (λe' BQ=>CX outer H s E e' BQ) s'
theorem mQ{sc:Scope}(h:sc.names.lookup x=Δ .cell):∃c,(cellsFrom n sc.names []).lookup x=Δ c:=by have q:=PySem.W.cellsFrom_some sc.names n [] (.inl h);exact Option.isSome_iff_exists.mp q
theorem xG{K:P5}(S:gp N ps scope)(hd:A.handled=Θ)(e0:qu P w K mg base A outer s H)(hl:vs.length=ps.length)(r:aM vs us)(x:InCallC s s.heap.objs.size (bindL (SU qual scope s.heap.objs.size f cd).kindOf (ps.zip us) λ_=>Θ) (cellsFrom (s.heap.objs.size+1) scope.names []) (bindC (SU qual scope s.heap.objs.size f cd).kindOf (ps.zip us) λ_=>Θ) s1):
  Inv (kF CX P w K mg base N qual scope f cd A outer s H E) [] (start N vs) H s1:=by
 have oJ:ps.length<=N.length:=by have:=congrArg List.length S.pre;rw[SH] at this;lia
 obtain⟨h1,tk,rfl,hk⟩:=x.done;have Bm:∀b:Addr,b∉(kF CX P w K mg base N qual scope f cd A outer s H E).ex:=λb z=>absurd (show b∈([]:List Addr) from z) (by simp);refine⟨⟨e0.mod,S.kind,rfl,rfl,P8 _,λy z c h1 h2=>?_,λy hy=>?_,λy c _ h=>?_,λ_=>hd,QY.frames_deeper e0.frames,.inr ⟨rfl,rfl⟩,λb z=>absurd z (Bm b),e0.bs,e0.xq,λb _ _=>Bm b,λb z=>absurd z (Bm b),e0.fO,e0.xt⟩,
  rfl,e0.bare,Un.kept hk,⟨_,x.toInCall.ns,λi y v h1 h2 h3=>?_⟩,λy c h=>⟨_,x.cell y c h⟩,e0.aJ.fresh (P8 _),λy c h=>?_,λp hp=>absurd (show p∈([]:List (Addr×Obj)) from hp) (by simp),e0.aJ.kept hk,?_⟩
 ·exact name_of_addr x.apart (QG h1) (QG h2)
 ·have hy:scope.names.lookup y=Δ .cell\/scope.names.lookup y=Δ .free:=hy;rcases hy with hy|hy;·exact mQ hy
  ·exact absurd rfl (S.EG _ (QG hy))
 ·exact Te (x.above y c (QG h))
 ·have hi:i < vs.length:=by
   unfold start at h2;by_cases hi:i < vs.length;·exact hi
   ·rw[Qu (by simpa using hi)] at h2;rw[RK] at h2;split at h2<;>cases h2
  have ha:vs[i]?=Δ v:=by unfold start at h2;rw[Qn (by simpa using hi),QA] at h2;cases e:vs[i]? with|none=>rw[e] at h2;cases h2|some a=>rw[e] at h2;cases h2;rfl
  obtain⟨u,hu,rv⟩:=r.get ha;have hp:ps[i]?=Δ y:=by rw[<-S.pre,List.getElem?_take_of_lt (by lia)];exact h1
  have LW:ps.Nodup:=by rw[<-S.pre];exact S.nd.sublist (List.take_sublist _ _)
  refine⟨u,rv,?_⟩;rcases S.par y (Q2 hp) with k|k;·exact .inl ⟨k,pE LW hp hu k⟩
  ·obtain⟨c,e⟩:=mQ (n:=s.heap.objs.size+1) k;refine .inr ⟨.inl k,c,e,?_⟩;have q:=x.cell y c e;rw[pF LW hp hu (by show scope.names.lookup y≠_;rw[k];decide)] at q;exact q
 ·exact e0.aJ.fresh (Te (x.above y c (QG h)))
 ·unfold start;show _=N.length;rw[Qp,Qv,Sv]
  lia
theorem DC{K:P5}{dV kV doc pm gK ct oc:Value}(lk:K.lookup f=Δ ⟨oc,od,.func (S9 name qual params body scope dV kV doc pm an gK ct),Bo⟩)(iR:U2 K gK qual=Λ)(S:gp N ps scope)(len:∀vs H Q E,sp vs H Q E->vs.length=ps.length)(e7:∀(A:QY) (outer:List Env) (s:Qd) (H:Hp) (vs:List V) (Q:VK) (E:XK),cb k (A.deeper (SU qual scope s.heap.objs.size f gK))->sp vs H Q E->
   ∃t,iq (kF CX P w K mg base N qual scope f gK A outer s H E) body t/\t {nx:=λ_ H'=>Q .bu H',rt:=Q} (start N vs) H):
  cz P w K mg base CX (k+1) f (S9 name qual params body scope dV kV doc pm an gK ct) ps sp:=by
 refine⟨len,λA outer s H args us vs Q E hr e0 hb r qv=>?_⟩;have hl:=len _ _ _ _ qv;have KX:K.In s.heap:=e0.mod.wj.keeps λb o e=>(e0.bs b o e).1;have lim:s.heap.NoLimit:=e0.mod.nolimit.keeps λb o e=>(e0.bs b o e).1;have zo:∀y∈ps.zip us,scope.names.lookup y.1=Δ .local\/(scope.names.lookup y.1=Δ .cell/\((cellsFrom (s.heap.objs.size+1) scope.names []).lookup y.1).isSome=Λ):=λ⟨n,v⟩ hy=>by
  rcases S.par n (Sq hy).1 with q|q;·exact .inl q
  ·exact .inr ⟨q,PySem.W.cellsFrom_some _ _ _ (.inl q)⟩
 refine codeAny_call_function hr.depth (KX _ _ lk) rfl S.co S.gen rfl (PySem.W.codeRec_of KX iR) (hb _ _ _ _ ?_);refine wpAny_newFunctionEnv_cells S.kind zo λenv he s1 x=>?_;subst he;refine⟨lim.keeps x.toInCall.keep,codeAny_func ?_⟩;obtain⟨t,ht,hq⟩:=e7 A outer s H vs Q E (hr.deeper _) qv;have I:Inv (kF CX P w K mg base N qual scope f gK A outer s H E) [] (start N vs) H s1:=xG S hr.hd e0 hl r x;refine QS (ht [] s1 (start N vs) H _ I hq) (λfl s' hs=>?_) λe s' hs=>hs;have fin:∀{cn:St} {H':Hp} {v:V} {u:Value},Inv (kF CX P w K mg base N qual scope f gK A outer s H E) [] cn H' s'->RelV v u->Q v H'->CE outer P w H s Q u s':=
  λ{cn H' v u} J rv q=>⟨v,H',J.os,J.bare,J.base,J.aJ,rv,q⟩
 cases fl with|ret u=>obtain⟨v,cn,H',J,rv,q⟩:=hs;exact fin J rv q|next=>obtain⟨cn,H',J,q⟩:=hs;exact fin (v:=V.bu) (u:=RB) J rfl q|brk=>obtain⟨_,_,_,q⟩:=hs;exact QB q|cont=>obtain⟨_,_,_,q⟩:=hs;exact QB q
section
variable{X:Cx}{x:Str}{p pos:Pos}{e:Expr}{es:List Expr}{t:TA}{id T:String}{r:List V->Hp->VK->Prop}
noncomputable def M7(r:List V->Hp->VK->Prop)(t:TA):TE:=λσ H Q=>t σ H λvs H1=>r vs H1 Q
theorem gR(hc:dD X (.builtin id) r)(hg:Gl X x)(hm:X.mg x=Θ)(hv:R5 x=Δ (.builtin id))(ha:PA X (e::es) t)(hn:x≠"__name__":=by decide)(BN:(x==("__debug__":Str))=Ξ:=by decide)
  (he:Qo (e::es) X.env=(Ξ,eval e X.env)::Qo es X.env:=by rfl) (oJ:(Rx pos (Qo es X.env)).any (·.1)=Ξ:=by rfl):PE X (.Call (.Name x p) (e::es) [] pos) (M7 r t):=by
 intro η s σ H Q I h;refine QN (gk I hg hm hv ?_ hn BN);exact PyProof.Rows.callWith_builtin1 (bG (ha pos η s σ H _ I h) λus s1 ⟨vs,H1,I1,r1,q1⟩=>hc η s1 σ H1 vs us Q I1 r1 q1) he oJ
theorem eU(hc:dD X (.type T) r)(hg:Gl X x)(hm:X.mg x=Θ)(hv:R5 x=Δ (.type T))(ha:PA X (e::es) t)(hn:x≠"__name__":=by decide)(BN:(x==("__debug__":Str))=Ξ:=by decide)
  (he:Qo (e::es) X.env=(Ξ,eval e X.env)::Qo es X.env:=by rfl) (oJ:(Rx pos (Qo es X.env)).any (·.1)=Ξ:=by rfl):PE X (.Call (.Name x p) (e::es) [] pos) (M7 r t):=by
 intro η s σ H Q I h;refine QN (gk I hg hm hv ?_ hn BN);exact QO (bG (ha pos η s σ H _ I h) λus s1 ⟨vs,H1,I1,r1,q1⟩=>hc η s1 σ H1 vs us Q I1 r1 q1) he oJ
end
end L2
namespace HT
open PySem PyProof.Rows
section
open PySem.SeqAt
open PySem.AutoSeq1 (wpAny_loadPart')
open PySem.MeetsSeq PySem.MeetsSeq2 PySem.MeetsSeq3
end
section
variable{prog:QE}{w:World}{A:QY}{E:Value->Qd->Prop}{s:Qd}
theorem BR(ht:IsTup s.heap t vs.toArray)(hb:IsTup s.heap b ws.toArray)(hv:vs≠[])(h1:ws=[]->Q (.ref t) s)(h2:ws≠[]->Q (.ref s.heap.objs.size) {s with heap:=s.heap.push {cls:=.type "tuple",data:=.seq (vs++ws).toArray}})(hsz:vs.length+ws.length<=Qi):wpAny (model prog w) A (RT .Add (.ref t) (.ref b)) Q E s:=by
 obtain⟨⟨cls,dd,data,sl⟩,ho,hc,n,hd⟩:=id ht;obtain⟨⟨M8,LX,data2,LY⟩,Bp,IX,n2,hd2⟩:=id hb;simp only at hc hd IX hd2;subst hc hd IX hd2;have e:vs.toArray++ws.toArray=(vs++ws).toArray:=by simp
 by_cases hw:ws=[]
 ·exact Vh ⟨_,ho,rfl⟩ ⟨_,Bp,rfl⟩ Uy Vb Tb S5 (SQ _ _)
   (tuple_addW1 t b vs.toArray ws.toArray n n2 dd LX sl LY (by simpa using hv) (by simp[hw])) ⟨ho,Bp,h1 hw⟩
 ·refine Vh ⟨_,ho,rfl⟩ ⟨_,Bp,rfl⟩ Uy Vb Tb S5 (SQ _ _)
   (tuple_addW2 t b vs.toArray ws.toArray n n2 dd LX sl LY (by simpa using hv) (by simpa using hw) (by rw[P9,P9];exact hsz)) ⟨ho,Bp,?_⟩
  rw[e];exact h2 hw
noncomputable def cw(n d:Nat):Option Int->Nat
 |none=>d|some v=>if v < 0 then(v+(n:Int)).toNat else min v.toNat n
theorem EH n d(hd:d<=n)o:cw n d o<=n:=by
 cases o with
 |none=>exact hd|some v=>
  show(if v < 0 then(v+(n:Int)).toNat else min v.toNat n)<=n;by_cases hv:v < 0;·rw[if_pos hv];lia
  ·rw[if_neg hv];exact Sj _ _
theorem wy v(n d:Nat):(if v < 0 then max (v+(n:Int)) 0 else min v (n:Int))=((cw n d (Δ v):Nat):Int):=by
 show(if v < 0 then max (v+(n:Int)) 0 else min v (n:Int))=(((if v < 0 then(v+(n:Int)).toNat else min v.toNat n):Nat):Int);by_cases hv:v < 0;·simp only[if_pos hv];lia
 ·simp only[if_neg hv];lia
theorem uT lo hi(n:Nat):Q7 lo hi 1 (n:Int)=(((cw n 0 lo:Nat):Int),((cw n n hi:Nat):Int)):=by
 have h1:¬((1:Int) < 0):=by lia
 unfold Q7;simp only[h1,if_false];refine Prod.ext ?_ ?_;·cases lo with|none=>rfl|some v=>exact wy v n 0
 ·cases hi with|none=>rfl|some v=>exact wy v n n
theorem uU(i j:Nat):QL (i:Int) (j) 1=j - i:=by
 unfold QL;have h1:(1:Int) > 0:=by lia
 simp only[h1,if_true,Int.ediv_one];split<;>lia
theorem mR(p:UP v o)(h:Q o s):wpAny (model prog w) A (Tj.Slice.slicePartIndex v) Q E s:=by cases p with|none=>exact T6 h|int i t=>exact slicePart_int h
theorem fR{vl vu:Value}{lo hi:Option Int}{n:Nat}{Q:Int×Int×Nat->Qd->Prop}(hs:s.heap.IsSliceOf sl vl vu .none)(pl:UP vl lo)(pu:UP vu hi)(h:Q (((cw n 0 lo:Nat):Int),1,cw n n hi - cw n 0 lo) s):wpAny (model prog w) A (RX (.ref sl) (pure (n:Int))) Q E s:=by obtain⟨os,xH,EI,Bq⟩:=id hs;unfold RX Tj.Slice.sliceFields;refine PY (PY (QM xH Bq (x:=vl) rfl (PY (QM xH Bq (x:=vu) rfl (PY (QM xH Bq (x:=.none) rfl (P4 ?_)))))));refine PY (T6 ?_);show wpAny _ _ (if((1:Int)==0)=Λ then _ else _) _ _ s;rw[if_neg (by decide)];refine PY (mR pl (PY (mR pu (PY (P4 ?_)))));show wpAny _ _ (match Q7 lo hi 1 (n:Int) with|(lo,hi)=>pure (lo,(1:Int),QL lo hi 1)) _ _ s;rw[uT lo hi n];show wpAny _ _ (pure (((cw n 0 lo:Nat):Int),(1:Int),QL ((cw n 0 lo:Nat):Int) ((cw n n hi:Nat):Int) 1)) _ _ s;rw[uU];exact P4 h
theorem zp(xs:Array Value)(i k:Nat):((Rq k).filterMap λ(m:Nat)=>xs[((i:Int)+(m:Int)*1).toNat]?).toArray=((xs.toList.drop i).take k).toArray:=by
 have e:(λ(m:Nat)=>xs[((i:Int)+(m:Int)*1).toNat]?)=λm=>xs[i+m]?:=by
  funext m;have:((i:Int)+(m:Int)*1).toNat=i+m:=by lia
  rw[this]
 rw[e];have:=pick_run xs i k;rw[List.filterMap_map] at this;have e2:((λx=>xs[x]?)∘λx=>i+x)=λm=>xs[i+m]?:=rfl;rw[e2] at this;rw[this]
theorem jD{lo hi:Option Int}(ht:IsTup s.heap t items)(hs:s.heap.IsSliceOf sl vl vu .none)(pl:UP vl lo)(pu:UP vu hi)(hw:¬(cw items.size 0 lo=0/\cw items.size items.size hi=items.size))(h:Q (.ref s.heap.objs.size) {s with heap:=s.heap.push {cls:=.type "tuple",data:=.seq ((items.toList.drop (cw items.size 0 lo)).take (cw items.size items.size hi - cw items.size 0 lo)).toArray}})(hsz:items.size<=Qi):wpAny (model prog w) A (SR (.ref t) (.ref sl)) Q E s:=by
 have jE:sizeOk (.seq ((items.toList.drop (cw items.size 0 lo)).take (cw items.size items.size hi - cw items.size 0 lo)).toArray):=by
  show((items.toList.drop (cw items.size 0 lo)).take (cw items.size items.size hi - cw items.size 0 lo)).toArray.size<=Qi;rw[P9,SH,UD,Rv]
  lia
 have hj:cw items.size items.size hi<=items.size:=EH _ _ (P8 _) hi;obtain⟨os,xH,EI,Bq⟩:=id hs;have IY:s.TypeIs (.ref sl) "slice":=⟨os,xH,EI⟩;unfold SR;try with_reducible refine RQ ?_
 first|refine PY (P4 ?_)|skip
 refine PY (Ug ht.typeIs (by decide) ?_);refine PY (QI (name:=Qs "__getitem__") ht.typeIs QP
  (QW QP ht.typeIs TQ ?_ (T8 _ _)))
 show wpAny _ _ (SD (.ref t) >>=_) _ _ s;refine PY (Va ht ?_);refine PY (TU IY ?_);rw[if_pos (by decide)];refine PY (fR hs pl pu ?_);have EJ:¬((((cw items.size 0 lo:Nat):Int)==0&&(1:Int)==1&&(cw items.size items.size hi - cw items.size 0 lo)==items.size)=Λ):=by intro q;rw[PZ,PZ] at q;have q1:((cw items.size 0 lo:Nat):Int)=0:=eq_of_beq q.1.1;have q2:cw items.size items.size hi - cw items.size 0 lo=items.size:=eq_of_beq q.2;exact hw ⟨by lia,by lia⟩
 show wpAny _ _ (if(((cw items.size 0 lo:Nat):Int)==0&&(1:Int)==1&&(cw items.size items.size hi - cw items.size 0 lo)==items.size)=Λ then _ else _) _ _ s;rw[if_neg EJ,zp];first
  |exact PY (m:=QC _) (QH (P4 ⟨_,rfl,P4 h⟩) jE)
  |exact PY (m:=QC _) (QH (PY (P4 (P4 ⟨_,rfl,P4 h⟩))) jE)
  |exact PY (PY (m:=QC _) (QH (P4 (P4 ⟨_,rfl,P4 h⟩)) jE))
  |exact PY (PY (m:=QC _) (QH (P4 ⟨_,rfl,P4 h⟩) jE))
end
end HT
namespace L2
open PySem PySem.Spec PyProof.Rows
abbrev TO:=St->Hp->(Option Int->Hp->Prop)->Prop
noncomputable def PO(X:Cx)(e:Option Expr)(t:TO):Prop:=
 ∀(η:List (Addr×Obj)) (s:Qd) (σ:St) (H:Hp) (Q:Option Int->Hp->Prop),Inv X η σ H s->t σ H Q->
  wpAny (model X.prog X.w) X.A (evalPart e X.env) (λu s'=>∃o H',Inv X η σ H' s'/\UP u o/\Q o H') X.xe s
def BS:TO:=λ_ H Q=>Q Θ H
noncomputable def IZ(t:TE):TO:=λσ H Q=>t σ H λx H1=>∃i,x=.int i/\Q (Δ i) H1
section
variable{X:Cx}{e:Expr}{te:TE}{lo hi:Option Expr}{tl th:TO}{pos p2:Pos}
theorem BU:PO X Θ BS:=by intro η s σ H Q I h;rw[Vc];exact P4 ⟨Θ,H,I,.none,h⟩
theorem BV(h:PE X e te):PO X (Δ e) (IZ te):=by intro η s σ H Q I hw;rw[evalPart_some];refine bG (h η s σ H _ I hw) λu s1 ⟨x,H1,I1,r1,q1⟩=>?_;obtain⟨i,rfl,q⟩:=q1;obtain⟨t,rfl⟩:=r1;exact⟨Δ i,H1,I1,.int i t,q⟩
def DD(X:Cx)(r:V->Option Int->Option Int->Hp->VK->Prop):Prop:=
 ∀(η:List (Addr×Obj)) (s:Qd) (σ:St) (H:Hp) (x:V) (v vl vu:Value) (lo hi:Option Int) (sl:Addr) (Q:VK),Inv X η σ H s->RelV x v->s.heap.IsSliceOf sl vl vu .none->UP vl lo->UP vu hi->r x lo hi H Q->
  ∃T id,Vw (.type T) "__getitem__"=pure (Δ (.builtin id))/\s.TypeIs v T/\wpAny (model X.prog X.w) X.A (SR v (.ref sl)) (EP X η σ Q) X.xe s
theorem DD.or(h:DD X r)(h':DD X r'):DD X (λx lo hi H Q=>r x lo hi H Q\/r' x lo hi H Q):=by
 intro η s σ H x v vl vu lo hi sl Q I rx hs pl pu q;rcases q with q|q;·exact h η s σ H x v vl vu lo hi sl Q I rx hs pl pu q
 ·exact h' η s σ H x v vl vu lo hi sl Q I rx hs pl pu q
noncomputable def tSl(r:V->Option Int->Option Int->Hp->VK->Prop)(te:TE)(tl th:TO):TE:=λσ H Q=>te σ H λx H1=>tl σ H1 λl H2=>th σ H2 λu H3=>r x l u H3 Q
theorem zq(hr:DD X r)(he:PE X e te)(hl:PO X lo tl)(hu:PO X hi th):PE X (.Subscript e (.Slice lo hi Θ p2) pos) (tSl r te tl th):=by intro η s σ H Q I h;refine Subscript_ (bG (he η s σ H _ I h) λv s1 ⟨x,H1,I1,r1,q1⟩=>?_);refine wpAny_Slice (bG (hl η s1 σ H1 _ I1 q1) λvl s2 ⟨l,H2,I2,pl,q2⟩=>bG (hu η s2 σ H2 _ I2 q2) λvu s3 ⟨u,H3,I3,pu,q3⟩=>?_);rw[Vc];refine P4 ?_;have I4:Inv X η σ H3 {s3 with heap:=s3.heap.push {cls:=.type "slice",data:=.fields #[vl,vu,.none]}}:=I3.kept (t':=s3.toks) λb ob q=>P0 _ q;obtain⟨T,id,hT,ht,hg⟩:=hr η {s3 with heap:=s3.heap.push {cls:=.type "slice",data:=.fields #[vl,vu,.none]}} σ H3 x v vl vu l u s3.heap.objs.size Q I4 r1 (Heap.IsSliceOf.new ..) pl pu q3;show wpAny (model X.prog X.w) X.A (TB e (.Slice lo hi Θ p2) v (.ref s3.heap.objs.size)) (EP X η σ Q) X.xe {s3 with heap:=s3.heap.push {cls:=.type "slice",data:=.fields #[vl,vu,.none]}};exact tail_any (ops:=[.ref s3.heap.objs.size,v]) ht hT hg (by with_unfolding_all rfl)
def kG(xs:List V)(lo hi:Option Int):List V:=(xs.drop (HT.cw xs.length 0 lo)).take (HT.cw xs.length xs.length hi - HT.cw xs.length 0 lo)
theorem lB xs lo hi:(kG xs lo hi).length<=xs.length:=by
 unfold kG;rw[SH,UD]
 lia
def M9(K:P5):V->Option Int->Option Int->Hp->VK->Prop:=λx lo hi H Q=>∃a xs,x=.ref a/\de K H a xs/\
 ¬(HT.cw xs.length 0 lo=0/\HT.cw xs.length xs.length hi=xs.length)/\∀p,H p=Θ->Q (.ref p) (upd H p (.tup (kG xs lo hi)))
theorem EK:DD X (M9 X.K):=by
 intro η s σ H x v vl vu lo hi sl Q I rx hs pl pu h;obtain⟨a,xs,rfl,hx,hw,q⟩:=h;cases rx;obtain⟨aC,r,ht,hz⟩:=I.tuple hx;have hlen:aC.toArray.size=xs.length:=by rw[P9];exact r.length.symm
 refine⟨"tuple",_,QP.lookup,ht.typeIs,?_⟩;refine HT.jD ht hs pl pu (by rw[hlen];exact hw) ?_ (by rw[hlen];exact hz);rw[hlen];refine⟨.ref s.heap.objs.size,_,I.laid (t':=s.toks) (o:=.tup (kG xs lo hi)) (λb ob q=>P0 _ q) (P8 _) ?_,rfl,q _ (I.aJ.fresh (P8 _))⟩;exact⟨QJ (lB xs lo hi) hz,_,(r.drop (HT.cw xs.length 0 lo)).take (HT.cw xs.length xs.length hi - HT.cw xs.length 0 lo),UH _ _⟩
def Ja(K:P5):R2:=λx y H Q=>∃a b xs ys,x=.ref a/\y=.ref b/\de K H a xs/\de K H b ys/\xs≠[]/\xs.length+ys.length<=Qi/\
 (ys=[]->Q (.ref a) H)/\(ys≠[]->∀p,H p=Θ->Q (.ref p) (upd H p (.tup (xs++ys))))
theorem aM.jF(r:aM xs us):us=[]↔xs=[]:=by cases r with|nil=>simp|cons _ _=>simp
theorem BW:gI X (RT .Add) (Ja X.K):=by intro η s σ H x y v u Q I rx ry h;obtain⟨a,b,xs,ys,rfl,rfl,ha,hb,hx,hz,q1,q2⟩:=h;cases rx;cases ry;obtain⟨aC,r1,p1,_⟩:=I.tuple ha;obtain⟨zr,r2,p2,_⟩:=I.tuple hb;refine HT.BR p1 p2 (λz=>hx (r1.jF.mp z)) (λz=>⟨.ref a,H,I,rfl,q1 (r2.jF.mp z)⟩) (λz=>?_) (by rw[<-r1.length,<-r2.length];exact hz);refine⟨.ref s.heap.objs.size,_,I.laid (t':=s.toks) (o:=.tup (xs++ys)) (λb ob q=>P0 _ q) (P8 _) ?_,rfl,q2 (λw=>z (r2.jF.mpr w)) _ (I.aJ.fresh (P8 _))⟩;exact⟨by rw[Qp];exact hz,_,r1.append r2,UH _ _⟩
end
noncomputable def xI(n:Nat)(i:Int):Option Nat:=if 0<=i then(if i < n then Δ i.toNat else Θ) else if -(n:Int)<=i then Δ (i+n).toNat else Θ
def oE{α:Type}(xs:List α)(i:Int):Option α:=(xI xs.length i).bind λj=>xs[j]?
theorem wz(h:xI n i=Δ j):seqIndex? i n=Δ j/\j < n/\ -(n:Int)<=i/\i < n:=by
 unfold xI at h;by_cases h0:0<=i
 ·rw[if_pos h0] at h;by_cases h1:i < n;·rw[if_pos h1] at h;have e:i.toNat=j:=Qx h;exact⟨by rw[Vr h0 h1,e],by lia,by lia,h1⟩
  ·rw[if_neg h1] at h;cases h
 ·rw[if_neg h0] at h;by_cases h1: -(n:Int)<=i;·rw[if_pos h1] at h;have e:(i+n).toNat=j:=Qx h;exact⟨by rw[Vg (by lia) h1,e],by lia,h1,by lia⟩
  ·rw[if_neg h1] at h;cases h
theorem wA(h:oE xs i=Δ v):∃j,seqIndex? i xs.length=Δ j/\xs[j]?=Δ v/\j < xs.length/\ -(xs.length:Int)<=i/\i < xs.length:=by unfold oE at h;cases e:xI xs.length i with|none=>rw[e] at h;cases h|some j=>rw[e] at h;obtain⟨h1,h2,h3,h4⟩:=wz e;exact⟨j,h1,h,h2,h3,h4⟩
noncomputable def wB(b:Expr):Prop:=∀o i,UY b Ξ o i=operate [o,i] (SR o i)
def DE(X:Cx)(r:R2):Prop:=
 ∀(value slice:Expr) (η:List (Addr×Obj)) (s:Qd) (σ:St) (H:Hp) (x y:V) (v u:Value) (Q:VK),Inv X η σ H s->RelV x v->RelV y u->r x y H Q->
  UY slice Ξ v u=operate [v,u] (SR v u)->wpAny (model X.prog X.w) X.A (TB value slice v u) (EP X η σ Q) X.xe s
def MtR(X:Cx)(id:String)(r:V->List V->Hp->VK->Prop):Prop:=
 ∀(η:List (Addr×Obj)) (s:Qd) (σ:St) (H:Hp) (x:V) (xs:List V) (v:Value) (us:List Value) (Q:VK),Inv X η σ H s->RelV x v->aM xs us->r x xs H Q->
  wpAny (model X.prog X.w) X.A (call (.builtin id) (v::us)) (EP X η σ Q) X.xe s
section
variable{X:Cx}{a b:Expr}{ta tb:TE}{pos:Pos}
theorem DE.or(h:DE X r)(h':DE X r'):DE X (λx y H Q=>r x y H Q\/r' x y H Q):=by
 intro value slice η s σ H x y v u Q I rx ry q hs;rcases q with q|q;·exact h value slice η s σ H x y v u Q I rx ry q hs
 ·exact h' value slice η s σ H x y v u Q I rx ry q hs
theorem Jb(hr:DE X r)(ha:PE X a ta)(hb:PE X b tb)(hs:wB b):PE X (.Subscript a b pos) (IG r ta tb):=by intro η s σ H Q I h;exact Subscript_ (Eu ha hb I h λv u s2 x y H2 I2 rx ry q=>hr a b η s2 σ H2 x y v u Q I2 rx ry q (hs _ _))
def Na(K:P5):R2:=λx y H Q=>∃p xs i v,x=.ref p/\y=.int i/\ir K H p xs/\oE xs i=Δ v/\Q v H
def Nb(K:P5):R2:=λx y H Q=>∃p xs i v,x=.ref p/\y=.int i/\de K H p xs/\oE xs i=Δ v/\Q v H
theorem BX:DE X (Na X.K):=by
 intro value slice η s σ H x y v u Q I rx ry h hs;obtain⟨p,xs,i,z,rfl,rfl,hq,he,q⟩:=h;cases rx;obtain⟨t,rfl⟩:=ry;obtain⟨aC,r,pl,hz⟩:=I.list hq;obtain⟨j,h1,h2,h3,h4,h5⟩:=wA he;obtain⟨w,ew,i9⟩:=r.get h2;have hl:=r.length;have hn:=kB;have fin:EP X η σ Q w s:=⟨z,H,I,i9,q⟩;by_cases h0:0<=i
 ·have hj:i.toNat=j:=by rw[Vr h0 h5] at h1;exact Qx h1
  exact item_listR pl.isList h0 (by lia) (by rw[hj];simpa using ew) fin hs
 ·have hj:(i+(aC.toArray.size:Int)).toNat=j:=by rw[Vg (by lia) h4] at h1;rw[P9,<-hl];exact Qx h1
  exact subscriptTail_builtinR (x:=w) pl.isList.typeIs slot_list_getitem.lookup
   (wpAny_getItem_list_neg (Q:=λr s'=>r=w/\EP X η σ Q r s') pl.isList (by lia) (by rw[P9]<;>lia) (by lia) (by rw[hj];simpa using ew) ⟨rfl,fin⟩) hs
theorem EL:DE X (Nb X.K):=by
 intro value slice η s σ H x y v u Q I rx ry h hs;obtain⟨p,xs,i,z,rfl,rfl,hq,he,q⟩:=h;cases rx;obtain⟨t,rfl⟩:=ry;obtain⟨aC,r,pl,hz⟩:=I.tuple hq;obtain⟨j,h1,h2,h3,h4,h5⟩:=wA he;obtain⟨w,ew,i9⟩:=r.get h2;have hl:=r.length;have hn:=kB;have fin:EP X η σ Q w s:=⟨z,H,I,i9,q⟩;exact subscriptTail_builtinR (x:=w) pl.typeIs slot_tuple_getitem.lookup
  (getItem_tuple (j:=j) (Q:=λr s'=>r=w/\EP X η σ Q r s') pl (by lia) (by lia) (by rw[P9,<-hl];exact h1) (by simpa using ew) ⟨rfl,fin⟩) hs
theorem uV(aC:List Value)n j u:Sd (·.setIfInBounds j u) {cls:=.type "list",data:=.seq aC.toArray n}={cls:=.type "list",data:=.seq (aC.set j u).toArray n}:=by simp[Sd]
theorem Inv.lst(I:Inv X η σ H s)(h:H p=Δ (.lst xs)):
  ∃(aC:List Value) (n:Nat),aM xs aC/\s.heap.get? p=Δ {cls:=.type "list",data:=.seq aC.toArray n}/\xs.length<=Qi:=by
 obtain⟨z,aC,n,r,e⟩:=I.aJ p _ h;exact⟨aC,n,r,e,z⟩
theorem Inv.EM{aC its':List Value}(I:Inv X η σ H s)(h:H p=Δ (.lst xs))(ho:s.heap.get? p=Δ {cls:=.type "list",data:=.seq aC.toArray n})(hf:f {cls:=.type "list",data:=.seq aC.toArray n}={cls:=.type "list",data:=.seq its'.toArray n'})(r:aM ys its')(hz:ys.length<=Qi)t:
  Inv X η σ (upd H p (.lst ys)) {s with heap:=s.heap.update p f,toks:=t}:=by
 have e:(s.heap.update p f).get? p=Δ {cls:=.type "list",data:=.seq its'.toArray n'}:=by rw[Rz f ho (by rw[hf]<;>rfl),hf]
 refine I.write (x:=p) (e:=p) (by rw[h];trivial) (.inl rfl) (λb u hb q=>(QU _ _ (Q5 hb)).trans q) ⟨_,e⟩ ?_;exact⟨hz,its',n',r,e⟩
def Jc:V->V->V->Hp->(Hp->Prop)->Prop:=λo i v H Q=>∃p xs k j,o=.ref p/\i=.int k/\H p=Δ (.lst xs)/\xI xs.length k=Δ j/\Q (upd H p (.lst (xs.set j v)))
theorem set_list:xx X Jc:=by
 intro η s σ H o i v ov iv u Q I ro ri rv h;obtain⟨p,xs,k,j,rfl,rfl,hp,hj,q⟩:=h;cases ro;obtain⟨t,rfl⟩:=ri;obtain⟨aC,n,r,ho,hz⟩:=I.lst hp;obtain⟨h1,h2,h3,h4⟩:=wz hj;have hl:=r.length;have hn:=kB;have I':Inv X η σ (upd H p (.lst (xs.set j v))) {s with heap:=s.heap.update p (Sd (·.setIfInBounds j u))}:=
  I.EM hp ho (uV aC n j u) (r.set rv j) (by rw[Sr];exact hz) s.toks
 by_cases h0:0<=k
 ·have hk:k.toNat=j:=by rw[Vr h0 h4] at h1;exact Qx h1
  exact PySem.W.ki_setAt ho h0 (by lia) (by rw[P9,<-hl];exact h4) (by rw[hk];exact⟨_,I',q⟩)
 ·have hk:(k+(aC.toArray.size:Int)).toNat=j:=by rw[Vg (by lia) h3] at h1;rw[P9,<-hl];exact Qx h1
  exact PySem.W.ki_setBack ho (by lia) (by rw[P9,<-hl];exact h3) (by lia) (by rw[hk];exact⟨_,I',q⟩)
theorem qw lo hi n:(S2 lo hi Θ n).1=((HT.cw n 0 lo:Nat):Int)/\(S2 lo hi Θ n).2.1=((HT.cw n n hi:Nat):Int)/\(S2 lo hi Θ n).2.2=1:=by
 refine⟨?_,?_,rfl⟩
 ·cases lo with
  |none=>simp[S2,HT.cw]|some i=>
   simp only[S2,HT.cw,UB,show(1:Int) > 0 by decide,if_true];by_cases h:i < 0;·simp only[h,if_true]<;>lia
   ·simp only[h,if_false]<;>lia
 ·cases hi with
  |none=>simp[S2,HT.cw]|some i=>
   simp only[S2,HT.cw,UB,show(1:Int) > 0 by decide,if_true];by_cases h:i < 0;·simp only[h,if_true]<;>lia
   ·simp only[h,if_false]<;>lia
theorem oK(aC:List Value)lo hi:slicePick aC.toArray lo hi Θ=((aC.drop (HT.cw aC.length 0 lo)).take (HT.cw aC.length aC.length hi - HT.cw aC.length 0 lo)).toArray:=by obtain⟨h1,h2,h3⟩:=qw lo hi aC.toArray.size;unfold slicePick;rw[h1,h2,h3];simp only[sliceRange_one,pick_run,P9]<;>rfl
def Jd(K:P5):V->Option Int->Option Int->Hp->VK->Prop:=λx lo hi H Q=>∃a xs,x=.ref a/\ir K H a xs/\∀p,H p=Θ->Q (.ref p) (upd H p (.lst (kG xs lo hi)))
theorem BY:DD X (Jd X.K):=by intro η s σ H x v vl vu lo hi sl Q I rx hs pl pu h;obtain⟨a,xs,rfl,hx,q⟩:=h;cases rx;obtain⟨aC,r,ht,hz⟩:=I.list hx;have hlen:=r.length;refine⟨"list",_,slot_list_getitem.lookup,ht.isList.typeIs,?_⟩;refine wpAny_getItem_list_slice ht.isList hs pl pu .none (by simp) ?_ (by rw[P9]<;>lia);rw[oK,<-hlen];refine⟨.ref s.heap.objs.size,_,I.laid (t':=s.toks) (o:=.lst (kG xs lo hi)) (λb ob q=>P0 _ q) (P8 _) ?_,rfl,q _ (I.aJ.fresh (P8 _))⟩;exact⟨QJ (lB xs lo hi) hz,_,0,(r.drop (HT.cw xs.length 0 lo)).take (HT.cw xs.length xs.length hi - HT.cw xs.length 0 lo),Qe _ rfl⟩
noncomputable def iS:V->Bool
 |.bu=>Λ|.bl _=>Λ|.int _=>Λ|.str _=>Λ|_=>Ξ
noncomputable def BZ:V->V->Bool
 |.bu,.bu=>Λ|.bl a,.bl b=>a==b|.bl a,.int b=>(if a then 1 else 0)==b|.int a,.bl b=>a==(if b then 1 else 0)|.int a,.int b=>a==b|.str a,.str b=>a==b|_,_=>Ξ
theorem EN(ry:RelV y u)(rx:RelV x v)(fy:iS y=Λ)(fx:iS x=Λ):SeqAt.EqAt A s u v (BZ y x):=by
 cases y with
 |bu=>cases ry;cases x with|bu=>cases rx;exact SeqAt.EqAt.same _|bl b=>cases rx;exact SeqAt.EqAt.none_bool b|int b=>obtain⟨t,rfl⟩:=rx;exact SeqAt.EqAt.none_int b t|str b=>obtain⟨t,rfl⟩:=rx;exact SeqAt.EqAt.none_str b t|_=>exact absurd (show Ξ=Λ from fx) QF
 |bl a=>cases ry;cases x with|bu=>cases rx;exact SeqAt.EqAt.bool_none a|bl b=>cases rx;exact SeqAt.EqAt.bool_bool a b|int b=>obtain⟨t,rfl⟩:=rx;exact SeqAt.EqAt.bool_int a b t|str b=>obtain⟨t,rfl⟩:=rx;exact SeqAt.EqAt.bool_str a b t|_=>exact absurd (show Ξ=Λ from fx) QF
 |int a=>obtain⟨t',rfl⟩:=ry;cases x with|bu=>cases rx;exact SeqAt.EqAt.int_none a t'|bl b=>cases rx;exact SeqAt.EqAt.int_bool a t' b|int b=>obtain⟨t,rfl⟩:=rx;exact SeqAt.EqAt.int_int a t' b t|str b=>obtain⟨t,rfl⟩:=rx;exact SeqAt.EqAt.int_str a t' b t|_=>exact absurd (show Ξ=Λ from fx) QF
 |str a=>obtain⟨t',rfl⟩:=ry;cases x with|bu=>cases rx;exact SeqAt.EqAt.str_none a t'|bl b=>cases rx;exact SeqAt.EqAt.str_bool a t' b|int b=>obtain⟨t,rfl⟩:=rx;exact SeqAt.EqAt.str_int a t' b t|str b=>obtain⟨t,rfl⟩:=rx;exact SeqAt.EqAt.str_str a t' b t|_=>exact absurd (show Ξ=Λ from fx) QF
 |_=>exact absurd (show Ξ=Λ from fy) QF
def uW(x:V)(u:Value):Bool:=match u with|.none=>BZ .bu x|.bool b=>BZ (.bl b) x|.int i _=>BZ (.int i) x|.str z _=>BZ (.str z) x|_=>Ξ
theorem zu(r:RelV y u)(f:iS y=Λ):uW x u=BZ y x:=by cases y with|bu=>cases r;rfl|bl b=>cases r;rfl|int i=>obtain⟨t,rfl⟩:=r;rfl|str z=>obtain⟨t,rfl⟩:=r;rfl|_=>exact absurd (show Ξ=Λ from f) QF
theorem jG:∀{xs} {us},aM xs us->xs.all iS=Λ->us.any (uW x)=xs.any λy=>BZ y x
 |_,_,.nil,_=>rfl|y::xs,u::us,.cons r t,f=>by rw[Rc,PZ] at f;rw[RR,RR,zu r f.1,jG t f.2]
theorem gS(rx:RelV x v)(fx:iS x=Λ):∀{xs} {us},aM xs us->xs.all iS=Λ->∀u∈us,SeqAt.EqAt A s u v (uW x u)
 |_,_,.nil,_=>λu hu=>by cases hu|y::xs,u::us,.cons r t,f=>λu' hu=>by
  rw[Rc,PZ] at f;rcases Uu.mp hu with rfl|hu;·rw[zu r f.1];exact EN r rx f.1 fx
  ·exact gS rx fx t f.2 u' hu
def LZ(x:V)(xs:List V):Bool:=xs.any λy=>BZ y x
def Je(K:P5)(neg:Bool):R2:=λx y H Q=>∃p xs,y=.ref p/\(ir K H p xs\/de K H p xs)/\iS x=Λ/\xs.all iS=Λ/\Q (.bl (if neg then !LZ x xs else LZ x xs)) H
theorem xJ:gI X (QZ .In) (Je X.K Ξ):=by
 intro η s σ H x y v u Q I rx ry h;obtain⟨p,xs,rfl,hq,fx,fs,q⟩:=h;cases ry;rcases hq with hq|hq;·obtain⟨aC,r,pl,hz⟩:=I.list hq;refine SeqAt.in_listAt (uW x) pl.isList (λw hw=>gS rx fx r fs w (by simpa using hw)) ⟨.bl _,H,I,rfl,?_⟩;rw[show aC.toArray.any (uW x)=aC.any (uW x) by simp,jG r fs];exact q
 ·obtain⟨aC,r,pl,hz⟩:=I.tuple hq;refine SeqAt.in_tupleAt (uW x) pl (λw hw=>gS rx fx r fs w (by simpa using hw)) ⟨.bl _,H,I,rfl,?_⟩;rw[show aC.toArray.any (uW x)=aC.any (uW x) by simp,jG r fs];exact q
theorem qx:gI X (QZ .NotIn) (Je X.K Λ):=by
 intro η s σ H x y v u Q I rx ry h;obtain⟨p,xs,rfl,hq,fx,fs,q⟩:=h;cases ry;rcases hq with hq|hq;·obtain⟨aC,r,pl,hz⟩:=I.list hq;refine SeqAt.notIn_listAt (uW x) pl.isList (λw hw=>gS rx fx r fs w (by simpa using hw)) ⟨.bl _,H,I,rfl,?_⟩;rw[show aC.toArray.any (uW x)=aC.any (uW x) by simp,jG r fs];exact q
 ·obtain⟨aC,r,pl,hz⟩:=I.tuple hq;refine SeqAt.notIn_tupleAt (uW x) pl (λw hw=>gS rx fx r fs w (by simpa using hw)) ⟨.bl _,H,I,rfl,?_⟩;rw[show aC.toArray.any (uW x)=aC.any (uW x) by simp,jG r fs];exact q
theorem qy:dD X (.builtin "len") (λxs H Q=>∃p ys,xs=[.ref p]/\(ir X.K H p ys\/de X.K H p ys)/\Q (.int ys.length) H):=by
 intro η s σ H xs us Q I r h;obtain⟨p,ys,rfl,hq,q⟩:=h;obtain⟨u,rfl,rx⟩:=vals1 r;cases rx;have hn:=kB;rcases hq with hq|hq;·obtain⟨aC,r',pl,hz⟩:=I.list hq;have hlen:=r'.length;exact Calls.call_len_list pl.isList (by simp only[P9]<;>lia) ⟨.int ys.length,H,I.tok _,⟨s.toks+1,by rw[P9,hlen]⟩,q⟩
 ·obtain⟨aC,r',pl,hz⟩:=I.tuple hq;have hlen:=r'.length;exact len_tuple pl (by simp only[P9]<;>lia) ⟨.int ys.length,H,I.tok _,⟨s.toks+1,by rw[P9,hlen]⟩,q⟩
theorem qz:dD X (.builtin "len") (λxs H Q=>∃z,xs=[.str z]/\z.length<=Qi/\Q (.int z.length) H):=by intro η s σ H xs us Q I r h;obtain⟨z,rfl,hz,q⟩:=h;obtain⟨u,rfl,t,rfl⟩:=vals1 r;have hn:=kB;exact len_str (by lia) ⟨.int z.length,H,I.tok _,⟨_,rfl⟩,q⟩
theorem qA:dD X (.type "list") (λxs H Q=>∃p ys,xs=[.ref p]/\(ir X.K H p ys\/de X.K H p ys)/\∀l,H l=Θ->Q (.ref l) (upd H l (.lst ys))):=by
 intro η s σ H xs us Q I r h;obtain⟨p,ys,rfl,hq,q⟩:=h;obtain⟨u,rfl,rx⟩:=vals1 r;cases rx;have fin:∀(aC:List Value),aM ys aC->ys.length<=Qi->∀(h':Heap) (c':Nat),(∀b o',s.heap.get? b=Δ o'->h'.get? b=Δ o')->
   h'.get? s.heap.objs.size=Δ {cls:=.type "list",dict:=Θ,data:=.seq aC.toArray c',slots:=#[]}->EP X η σ Q (.ref s.heap.objs.size) {s with heap:=h'}:=λaC r' hz h' c' kp e=>
  ⟨.ref s.heap.objs.size,_,I.laid (t':=s.toks) kp (P8 _) (show bF X.prog X.w _ h' _ (.lst ys) from⟨hz,aC,c',r',e⟩),rfl,q _ (I.aJ.fresh (P8 _))⟩
 rcases hq with hq|hq;·obtain⟨aC,r',pl,hz⟩:=I.list hq;have hlen:=r'.length;obtain⟨o,ho,hc,n,hd⟩:=pl.isList;exact call_list_seq p (.inl rfl) ho hc hd (λh' c' kp e=>fin aC r' hz h' c' kp e) (by simp only[P9]<;>lia)
 ·obtain⟨aC,r',pl,hz⟩:=I.tuple hq;have hlen:=r'.length;obtain⟨o,ho,hc,n,hd⟩:=pl;exact call_list_seq p (.inr rfl) ho hc hd (λh' c' kp e=>fin aC r' hz h' c' kp e) (by simp only[P9]<;>lia)
theorem oM:dD X (.type "tuple") (λxs H Q=>∃p ys,xs=[.ref p]/\((ir X.K H p ys/\∀l,H l=Θ->Q (.ref l) (upd H l (.tup ys)))\/(de X.K H p ys/\Q (.ref p) H))):=by
 intro η s σ H xs us Q I r h;obtain⟨p,ys,rfl,h⟩:=h;obtain⟨u,rfl,rx⟩:=vals1 r;cases rx;rcases h with ⟨hq,q⟩|⟨hq,q⟩
 ·obtain⟨aC,r',pl,hz⟩:=I.list hq;have hlen:=r'.length;refine call_tuple_list pl.isList (λh' kp=>?_) (by simp only[P9]<;>lia);have I1:Inv X η σ H {s with heap:=h'}:=I.kept (t':=s.toks) kp;have I2:Inv X η σ (upd H h'.objs.size (.tup ys)) {s with heap:=h'.push {cls:=.type "tuple",data:=.seq aC.toArray}}:=
   I1.laid (t':=s.toks) (λb o e=>P0 _ e) (P8 _) (show bF X.prog X.w _ _ _ (.tup ys) from⟨hz,aC,r',UH _ _⟩)
  exact⟨.ref h'.objs.size,_,I2,rfl,q _ (I1.aJ.fresh (P8 _))⟩
 ·obtain⟨aC,r',pl,hz⟩:=I.tuple hq;exact call_tuple_same pl ⟨.ref p,H,I,rfl,q⟩
def Nc(K:P5)(T:String)(x:V)(H:Hp):Prop:=match x with
 |.str _=>T="str"|.int _=>T="int"
 |.ref p=>(T="list"/\∃xs,ir K H p xs)\/(T="tuple"/\∃o,K.lookup p=Δ o/\o.cls=.type "tuple"/\o.dict=Θ)\/
   (T="dict"/\((∃kvs,H p=Δ (.dK kvs))\/∃kvs,H p=Δ (.dT kvs)))\/(T="set"/\∃S n,H p=Δ (.set S n))
 |_=>False
theorem zv(I:Inv X η σ H s)(r:RelV x v)(ty:Nc X.K T x H):
  s.TypeIs v T/\∀a,v=.ref a->∃ob,s.heap.get? a=Δ ob/\ob.dict=Θ:=by
 cases x with
 |str z=>obtain⟨t,rfl⟩:=r;cases (show T="str" from ty);exact⟨typeIs_str s z t,λ_ e=>nomatch e⟩|int i=>obtain⟨t,rfl⟩:=r;cases (show T="int" from ty);exact⟨Tr s i t,λ_ e=>nomatch e⟩|ref p=>
  cases r;rcases ty with ⟨rfl,xs,hq⟩|⟨rfl,o,hk,hc,hd⟩|⟨rfl,hk⟩|⟨rfl,S,n,hk⟩
  ·obtain⟨aC,_,pl,_⟩:=I.list hq;refine⟨pl.isList.typeIs,λa e=>?_⟩;cases e;obtain⟨o,n,e,c,hd,_⟩:=pl;exact⟨o,e,hd⟩
  ·refine⟨⟨o,I.gM p o hk,hc⟩,λa e=>?_⟩;cases e;exact⟨o,I.gM _ o hk,hd⟩
  ·have z:∃o,s.heap.get? p=Δ o/\o.ExactDict:=by
    rcases hk with ⟨kvs,hk⟩|⟨kvs,hk⟩
    ·obtain⟨_,_,_,_,o,_,_,e,ex,_⟩:=I.aJ p _ hk;exact⟨o,e,ex⟩
    ·obtain⟨_,_,_,_,o,_,_,e,ex,_⟩:=I.aJ p _ hk;exact⟨o,e,ex⟩
   obtain⟨o,e,ex⟩:=z;refine⟨⟨o,e,ex.1⟩,λa e2=>?_⟩;cases e2;exact⟨o,e,ex.2.1⟩
  ·obtain⟨o,_,_,_,e,ex,_⟩:=I.aJ p _ hk;refine⟨⟨o,e,ex.1⟩,λa e2=>?_⟩;cases e2;exact⟨o,e,ex.2.1⟩
 |_=>exact QB ty
def Nd(K:P5)(T:String)(r:V->List V->Hp->VK->Prop)(to:TE):TE:=λσ H Q=>to σ H λx H1=>Nc K T x H1/\r x [] H1 Q
def tBM(K:P5)(T:String)(r:V->List V->Hp->VK->Prop)(to:TE)(t:TA):TE:=λσ H Q=>to σ H λx H1=>Nc K T x H1/\t σ H1 λxs H2=>r x xs H2 Q
variable{o e:Expr}{es:List Expr}{to:TE}{t:TA}{name:Str}{apos cf:Pos}{T id:String}{r:V->List V->Hp->VK->Prop}
theorem EO(pa:PlainAttrs T)(slot:Slot T name id)(Nf:typeOf (.builtin id)=pure (.type "method_descriptor"))(hm:MtR X id r)(ho:PE X o to)
  (gT:R9 o name X.env (eval o X.env)=eval o X.env:=by rfl) (iT:(apos.endLine==cf.line)=Λ:=by rfl):PE X (.Call (.Attribute o name apos) [] [] cf) (Nd X.K T r to):=by
 intro η s σ H Q I h;refine wpAny_Call_method0_late gT iT (bG (ho η s σ H _ I h) λv s1 ⟨x,H1,I1,r1,ty,q1⟩=>?_);obtain⟨h1,h2⟩:=zv I1 r1 ty;exact⟨T,id,pa,slot,Nf,h1,h2,Rt rfl (PySem.evalArgs_none (hm η s1 σ H1 x [] v [] Q I1 r1 .nil q1))⟩
theorem DF(pa:PlainAttrs T)(slot:Slot T name id)(Nf:typeOf (.builtin id)=pure (.type "method_descriptor"))(hm:MtR X id r)(ho:PE X o to)(ha:PA X (e::es) t)
  (gT:R9 o name X.env (eval o X.env)=eval o X.env:=by rfl)
  (Ng:((Rx cf (Qo (e::es) X.env)).all (λx=>!x.1)&&(TH cf (Sn [] X.env)).all (λx=>x.1.isSome)
   &&decide ((e::es).length+([]:List Um).length+(if([]:List Um).isEmpty then 0 else 1) < 30))=Λ:=by rfl)
  (iT:(apos.endLine==cf.line)=Λ:=by rfl) (hs:Qo (e::es) X.env=(Ξ,eval e X.env)::Qo es X.env:=by rfl) (ER:(Rx cf (Qo es X.env)).any (·.1)=Ξ:=by rfl):
  PE X (.Call (.Attribute o name apos) (e::es) [] cf) (tBM X.K T r to t):=by
 intro η s σ H Q I h;refine wpAny_Call_method_late gT Ng iT rfl (bG (ho η s σ H _ I h) λv s1 ⟨x,H1,I1,r1,ty,q1⟩=>?_);obtain⟨h1,h2⟩:=zv I1 r1 ty;refine⟨T,id,pa,slot,Nf,h1,h2,?_⟩;have hA:=ha cf η s1 σ H1 _ I1 q1;rw[hs] at hA ⊢;refine Rt (by show(Ξ||(Rx cf (Qo es X.env)).any (·.1))=Ξ;rw[ER]<;>rfl) (R8 ?_);exact bG hA λus s2 ⟨vs,H2,I2,r2,q2⟩=>hm η s2 σ H2 x vs v us Q I2 r1 r2 q2
end
def Nh(X:Cx)(id:String)(r:V->List V->Hp->VK->Prop):Prop:=
 ∀(η:List (Addr×Obj)) (s:Qd) (σ:St) (H:Hp) (x:V) (xs:List V) (v:Value) (us:List Value) (Q:VK),Inv X η σ H s->RelV x v->aM xs us->r x xs H Q->
  wpAny (model X.prog X.w) X.A (call (.builtin id) (v::us)) (EP X η σ Q) X.xe s
theorem aM.one:∀{x} {us},aM [x] us->∃u,us=[u]/\RelV x u:=by intro x us h;cases h with|cons r t=>cases t with|nil=>exact⟨_,rfl,r⟩
theorem aM.two:∀{x y} {us},aM [x,y] us->∃u v,us=[u,v]/\RelV x u/\RelV y v:=by intro x y us h;cases h with|cons r t=>obtain⟨u,hu⟩:=aM.one t;obtain⟨rfl,q⟩:=hu;exact⟨_,_,rfl,r,q⟩
theorem aM.zero:∀{us},aM [] us->us=[]
 |_,.nil=>rfl
theorem aM.dropLast(h:aM xs us):aM xs.dropLast us.dropLast:=by induction h with|nil=>exact .nil|cons r t ih=>cases t with|nil=>exact .nil|cons q t'=>exact .cons r ih
theorem aM.reverse(h:aM xs us):aM xs.reverse us.reverse:=by induction h with|nil=>exact .nil|cons r t ih=>rw[Tf,Tf];exact aM.append ih (.cons r .nil)
theorem uX{α:Type}(l:List α):l.eraseIdx (l.length - 1)=l.dropLast:=by
 induction l with
 |nil=>rfl|cons a r ih=>
  cases r with
  |nil=>rfl|cons b r=>
   have e:(a::b::r).length - 1=((b::r).length - 1)+1:=by
    have h1:(a::b::r).length=r.length+2:=rfl;have h2:(b::r).length=r.length+1:=rfl
    lia
   rw[e,List.eraseIdx_cons_succ,ih];all_goals rfl
section
variable{X:Cx}{η:List (Addr×Obj)}{σ:St}{H:Hp}{s:Qd}{l b:Addr}{xs ys zs:List V}
theorem Inv.Jf{aC its':List Value}(I:Inv X η σ H s)(hH:H l=Δ (.lst xs))(e:s.heap.get? l=Δ {cls:=.type "list",data:=.seq aC.toArray n})(hf:f aC.toArray=its'.toArray)(hv:aM ys its')(hz:ys.length<=Qi):
  Inv X η σ (upd H l (.lst ys)) {s with heap:=s.heap.update l (Sd f),toks:=t'}:=by
 have q:=PySem.IsL.update e f;rw[hf] at q;refine I.write (x:=l) (e:=l) (by rw[hH];exact trivial) (.inl rfl) (λb' u hb hu=>(QU s.heap (Sd f) (Q5 hb)).trans hu) ⟨_,q⟩ ?_;exact⟨hz,its',_,hv,q⟩
theorem Inv.Ni(I:Inv X η σ H s)(hv:aM ys aC)(hz:ys.length<=Qi):
  Inv X η σ (upd H s.heap.objs.size (.lst ys)) {s with heap:=s.heap.push {cls:=.type "list",data:=.seq aC.toArray},toks:=t'}:=
 I.laid (λ_ _ q=>P0 _ q) (P8 _) ⟨hz,aC,0,hv,Qe _ rfl⟩
theorem Inv.fresh(I:Inv X η σ H s):H s.heap.objs.size=Θ:=I.aJ.fresh (P8 _)
theorem Inv.Jg(I:Inv X η σ H s)(hH:H l=Δ (.lst xs)):xs.length<=Qi/\∃(aC:List Value) (n:Nat),aM xs aC/\xs.length=aC.length/\s.heap.get? l=Δ {cls:=.type "list",data:=.seq aC.toArray n}:=by obtain⟨z,aC,n,r,e⟩:=I.aJ l _ hH;exact⟨z,aC,n,r,r.length,e⟩
end
section
variable{X:Cx}
def B0:V->List V->Hp->VK->Prop:=λx vs H Q=>∃l xs y,x=.ref l/\vs=[y]/\H l=Δ (.lst xs)/\xs.length < Qi/\Q .bu (upd H l (.lst (xs++[y])))
theorem kH:Nh X "list.append" B0:=by
 intro η s σ H x vs v us Q I rx rv h;obtain⟨l,xs,y,rfl,rfl,hH,hz,q⟩:=h;cases rx;obtain⟨u,rfl,ru⟩:=rv.one;obtain⟨z,aC,n,r,hl,e⟩:=I.Jg hH;refine SV F.slot_list_append ⟨_,e,rfl⟩ F.entry_list_append (F.args_list_append_2 _ _) (PySem.list_append l aC.toArray n u (by rw[P9];lia)) ⟨e,?_⟩;refine⟨.bu,_,I.Jf (its':=aC++[u]) hH e (by simp) (r.append (.cons ru .nil)) ?_,rfl,q⟩;rw[Qp,List.length_singleton]
 lia
def Nj:V->List V->Hp->VK->Prop:=λx vs H Q=>∃l xs y,x=.ref l/\vs=[]/\H l=Δ (.lst xs)/\xs[xs.length - 1]?=Δ y/\Q y (upd H l (.lst xs.dropLast))
theorem ES:Nh X "list.pop" Nj:=by
 intro η s σ H x vs v us Q I rx rv h;obtain⟨l,xs,y,rfl,rfl,hH,hy,q⟩:=h;cases rx;have hus:=rv.zero;subst hus;obtain⟨z,aC,n,r,hl,e⟩:=I.Jg hH;obtain⟨u,hu,ru⟩:=r.get hy;have hy':aC.toArray[aC.toArray.size - 1]?=Δ u:=by show aC.toArray[aC.length - 1]?=Δ u;rw[<-Tp,<-hl];exact hu
 refine SV F.slot_list_pop ⟨_,e,rfl⟩ F.entry_list_pop (F.args_list_pop_1 _) (MeetsSeq.list_pop_last l aC.toArray n u hy' (by rw[P9];lia)) ⟨e,?_⟩;refine⟨y,_,I.Jf (its':=aC.dropLast) hH e ?_ r.dropLast ?_,ru,q⟩;·show aC.toArray.eraseIdxIfInBounds (aC.toArray.size - 1)=aC.dropLast.toArray;rw[P9,List.eraseIdxIfInBounds_toArray,uX]
 ·rw[List.length_dropLast]
  lia
end
section
variable{prog:QE}{w:World}{A:QY}{E:Value->Qd->Prop}{s:Qd}
end
section
variable{X:Cx}
end
section
variable{κ:Type}[DecidableEq κ]
noncomputable def dB(kvs:List (κ×V))(k:κ):Option V:=(kvs.find? λkv=>decide (kv.1=k)).map (·.2)
noncomputable def putK(kvs:List (κ×V))(k:κ)(v:V):List (κ×V):=
 if(kvs.any λkv=>decide (kv.1=k))=Λ then kvs.map (λkv=>if kv.1=k then(kv.1,v) else kv) else kvs++[(k,v)]
noncomputable def jH(kvs:List (κ×V))(k:κ):List (κ×V):=kvs.filter λkv=>decide (kv.1≠k)
theorem jI{r:List (κ×V)}{k:κ}(e:p.1=k):dB (p::r) k=Δ p.2:=by simp[dB,Rw,e]
theorem jJ{r:List (κ×V)}{k:κ}(e:¬p.1=k):dB (p::r) k=dB r k:=by simp[dB,Rw,e]
theorem mS(k:κ):∀kvs:List (κ×V),(kvs.any λkv=>decide (kv.1=k))=(dB kvs k).isSome
 |[]=>rfl|p::r=>by
  rw[RR];by_cases e:p.1=k;·simp only[jI e,decide_eq_true e,Bool.true_or,Option.isSome_some]
  ·rw[jJ e,decide_eq_false e,Bool.false_or];exact mS k r
theorem fA kvs(k:κ)v:(putK kvs k v).length<=kvs.length+1:=by
 unfold putK;split;·rw[Qv];lia
 ·rw[Qp,Qm,TN];lia
theorem gN.eV(r:gN o u):o.isSome=u.isSome:=by
 cases o with
 |none=>cases u with|none=>rfl|some _=>exact(show False from r).elim
 |some _=>cases u with|none=>exact(show False from r).elim|some _=>rfl
theorem KV.val(r:KV kvs vs)(k:κ):gN (dB kvs k) (UL vs k):=by
 unfold KV at r;induction r with
 |nil=>exact Q8|@cons p q ps qs h t ih=>
  obtain⟨h1,h2⟩:=h;by_cases e:p.1=k
  ·have e':q.1=k:=h1.symm.trans e;have b:UL (q::qs) k=Δ q.2:=by simp[UL,Rw,e']
   rw[jI e,b];exact h2
  ·have e':¬q.1=k:=λz=>e (h1.trans z);have b:UL (q::qs) k=UL qs k:=by simp[UL,Rw,e']
   rw[jJ e,b];exact ih
theorem KV.any(r:KV kvs vs)(k:κ):(kvs.any λkv=>decide (kv.1=k))=vs.any λkv=>decide (kv.1=k):=by unfold KV at r;induction r with|nil=>rfl|cons h t ih=>rw[RR,RR,ih,h.1]
theorem KV.xK(r:KV kvs vs)(k:κ)(ry:RelV y u):
  KV (kvs.map λkv=>if kv.1=k then(kv.1,y) else kv) (vs.map λkv=>if kv.1=k then(kv.1,u) else kv):=by
 unfold KV at r ⊢;induction r with
 |nil=>exact .nil|@cons p q ps qs h t ih=>
  rw[QD,QD];refine .cons ?_ ih;obtain⟨h1,h2⟩:=h;by_cases e:p.1=k;·rw[if_pos e,if_pos (h1.symm.trans e)];exact⟨h1,ry⟩
  ·rw[if_neg e,if_neg (λz=>e (h1.trans z))];exact⟨h1,h2⟩
theorem KV.put(r:KV kvs vs)(k:κ)(ry:RelV y u):KV (putK kvs k y) (stored vs k u):=by
 unfold putK stored;rw[r.any k];by_cases e:(vs.any λkv=>decide (kv.1=k))=Λ;·rw[if_pos e,if_pos e];exact r.xK k ry
 ·rw[if_neg e,if_neg e];exact Vf.snoc r ⟨rfl,ry⟩
theorem KV.drop(r:KV kvs vs)(k:κ):KV (jH kvs k) (without vs k):=by
 unfold KV at r ⊢;unfold jH without;induction r with
 |nil=>exact .nil|@cons p q ps qs h t ih=>
  obtain⟨h1,h2⟩:=h;rw[List.filter_cons,List.filter_cons];by_cases e:p.1=k
  ·have a:¬decide (p.1≠k)=Λ:=by simp[e]
   have b:¬decide (q.1≠k)=Λ:=by simp[h1.symm.trans e]
   rw[if_neg a,if_neg b];exact ih
  ·have e':¬q.1=k:=λz=>e (h1.trans z);have a:decide (p.1≠k)=Λ:=by simp[e]
   have b:decide (q.1≠k)=Λ:=by simp[e']
   rw[if_pos a,if_pos b];exact .cons ⟨h1,h2⟩ ih
theorem KV.length{vs:List (κ×Value)}(r:KV kvs vs):kvs.length=vs.length:=Ut r
theorem sg kvs(k:κ):(jH kvs k).length<=kvs.length:=List.length_filter_le _ _
end
theorem jK(r:RelV (kV k) u):(aZ P w).is k u=Λ:=by cases k with|inl i=>obtain⟨t,e⟩:=(show ∃t,u=Tv i t from r);subst e;exact rZ P w i t|inr x=>obtain⟨t,e⟩:=(show ∃t,u=S3 x t from r);subst e;exact r6 P w x t
theorem pG:∀{ks} {us},aM (ks.map kV) us->ItemsAre (aZ P w) ks us
 |[],_,r=>by rw[Th] at r;cases r;exact .nil|k::ks,_,r=>by rw[QD] at r;cases r with|cons h t=>exact .cons (jK h) (pG t)
abbrev KT(H:Hp):List (List Key×V)->List (List Key×Addr×Value)->Prop:=Vf λp q=>p.1=q.1/\H q.2.1=Δ (.tup (p.1.map kV))/\RelV p.2 q.2.2
theorem KT.val(r:KT H kvs xs)k:gN (dB kvs k) ((atKey xs k).map (·.2)):=by
 induction r with
 |nil=>exact Q8|@cons p q ps qs h t ih=>
  obtain⟨h1,_,h2⟩:=h;by_cases e:p.1=k
  ·have e':q.1=k:=h1.symm.trans e;have b:atKey (q::qs) k=Δ q.2:=by simp[atKey,Rw,e']
   rw[jI e,b];exact h2
  ·have e':¬q.1=k:=λz=>e (h1.trans z);have b:atKey (q::qs) k=atKey qs k:=by simp[atKey,Rw,e']
   rw[jJ e,b];exact ih
theorem KT.xK(r:KT H kvs xs)k(ry:RelV y u):
  KT H (kvs.map λkv=>if kv.1=k then(kv.1,y) else kv) (xs.map (putAt k u)):=by
 induction r with
 |nil=>exact .nil|@cons p q ps qs h t ih=>
  rw[QD,QD];refine .cons ?_ ih;obtain⟨h1,h2,h3⟩:=h;unfold putAt;by_cases e:p.1=k;·rw[if_pos e,if_pos (h1.symm.trans e)];exact⟨h1,h2,ry⟩
  ·rw[if_neg e,if_neg (λz=>e (h1.trans z))];exact⟨h1,h2,h3⟩
theorem KT.put(r:KT H kvs xs)k(hb:H b=Δ (.tup (k.map kV)))(ry:RelV y u):
  KT H (putK kvs k y) (storedH xs k b u):=by
 have e:(kvs.any λkv=>decide (kv.1=k))=(atKey xs k).isSome:=by rw[mS,(r.val k).eV,Td]
 unfold putK storedH;rw[e];by_cases q:(atKey xs k).isSome=Λ;·rw[if_pos q,if_pos q];exact r.xK k ry
 ·rw[if_neg q,if_neg q];exact Vf.snoc r ⟨rfl,hb,ry⟩
theorem KT.keeps(r:KT H kvs xs)(ht:∀b ys,H b=Δ (.tup ys)->H' b=Δ (.tup ys)):KT H' kvs xs:=
 Vf.El r λ_ _ z=>⟨z.1,ht _ _ z.2.1,z.2.2⟩
section
variable{P:QE}{w:World}{H:Hp}{h:Heap}{a:Addr}
theorem DG(ok:gi P w H h)(e:Rd H a u):bF P w H h a u:=e.ok ok
theorem lC(ok:gi P w H h)(e:Rd H a (.dK kvs)):kvs.length<=Qi/\(a==Ri)=Ξ/\∃vs,KV kvs vs/\h.DictOf (aZ P w) a vs:=
 show bF P w H h a (.dK kvs) from DG ok e
theorem pH(ok:gi P w H h)(e:H a=Δ (.dK kvs)):kvs.length<=Qi/\(a==Ri)=Ξ/\∃vs,KV kvs vs/\h.DictOf (aZ P w) a vs:=lC ok (.inl e)
theorem kI(ok:gi P w H h)(e:H a=Δ (.tup (ks.map kV))):(Ux (aZ P w)).is h ks a:=by obtain⟨_,aC,r,o,h1,h2,n,h3⟩:=(show bF P w H h a (.tup (ks.map kV)) from ok a _ e);exact⟨o,aC.toArray,n,h1,h2,h3,by simpa using pG r⟩
theorem lD(ok:gi P w H h)(e:Rd H a (.dT kvs)):kvs.length<=Qi/\(a==Ri)=Ξ/\
  ∃xs,KT H kvs xs/\h.DictOfH (Ux (aZ P w)) a xs:=by
 obtain⟨z,y,xs,r,o,es,ep,h1,h2,h3,h4,h5⟩:=(show bF P w H h a (.dT kvs) from DG ok e);refine⟨z,y,xs,r,o,es,ep,h1,h2,h3,h4,λx hx=>?_,h5⟩;have all:∀{l:List (List Key×V)} {m:List (List Key×Addr×Value)},KT H l m->∀x∈m,(Ux (aZ P w)).is h x.1 x.2.1:=by
  intro l m q;induction q with
  |nil=>intro x hx;exact nomatch hx|@cons p q ps qs hq t ih=>
   intro x hx;rcases Uu.mp hx with e|hx;·subst e;exact kI ok (by rw[<-hq.1];exact hq.2.1)
   ·exact ih x hx
 exact all r x hx
theorem DH(ok:gi P w H h)(e:H a=Δ (.dT kvs)):kvs.length<=Qi/\(a==Ri)=Ξ/\
  ∃xs,KT H kvs xs/\h.DictOfH (Ux (aZ P w)) a xs:=lD ok (.inl e)
end
def jL(H:Hp)(a:Addr)(y:V)(r:Option V):Prop:=
 (∃kvs k,Rd H a (.dK kvs)/\y=kV k/\r=dB kvs k)\/∃kvs k b,Rd H a (.dT kvs)/\y=.ref b/\H b=Δ (.tup (k.map kV))/\r=dB kvs k
def si(H:Hp)(a:Addr)(y v:V)(H':Hp):Prop:=
 (∃kvs k,H a=Δ (.dK kvs)/\y=kV k/\kvs.length < Qi/\H'=upd H a (.dK (putK kvs k v)))\/
 ∃kvs k b,H a=Δ (.dT kvs)/\y=.ref b/\H b=Δ (.tup (k.map kV))/\kvs.length < Qi/\H'=upd H a (.dT (putK kvs k v))
theorem jL.k{k:Key}(e:H a=Δ (.dK kvs)):jL H a (kV k) (dB kvs k):=.inl ⟨kvs,k,.inl e,rfl,rfl⟩
theorem jL.t{k:List Key}(e:H a=Δ (.dT kvs))(eb:H b=Δ (.tup (k.map kV))):jL H a (.ref b) (dB kvs k):=.inr ⟨kvs,k,b,.inl e,rfl,eb,rfl⟩
theorem si.k{k:Key}(e:H a=Δ (.dK kvs))(hl:kvs.length < Qi):si H a (kV k) v (upd H a (.dK (putK kvs k v))):=.inl ⟨kvs,k,e,rfl,hl,rfl⟩
theorem si.t{k:List Key}(e:H a=Δ (.dT kvs))(eb:H b=Δ (.tup (k.map kV)))(hl:kvs.length < Qi):
  si H a (.ref b) v (upd H a (.dT (putK kvs k v))):=.inr ⟨kvs,k,b,e,rfl,eb,hl,rfl⟩
section
variable{X:Cx}{η:List (Addr×Obj)}{σ:St}{H:Hp}{s:Qd}{a:Addr}{y v:V}{u r:Value}{o:Option V}{A:QY}{E:Value->Qd->Prop}
theorem Inv.L0(I:Inv X η σ H s):Ri < s.heap.objs.size:=by have h:Qa < s.heap.objs.size:=(I.mod.glob.keeps I.bk).lt;exact TY (by decide) h
theorem xM(hu:A.units+1 < cLine)(I:Inv X η σ H s)(g:jL H a y (Δ v))(ry:RelV y u)(h:∀w' s',Inv X η σ H s'->RelV v w'->Q w' s'):
  wpAny (model X.prog X.w) A (SR (.ref a) u) Q E s:=by
 rcases g with ⟨kvs,k,e,ey,l⟩|⟨kvs,k,b,e,ey,eb,l⟩
 ·subst ey;obtain⟨z,hd,vs,rel,dd⟩:=lC I.aJ e;obtain⟨w',hw,i9⟩:=gN.some_of (v:=v) (o:=UL vs k) (by rw[l];exact rel.val k);exact wpAny_getItem_of (jK ry) dd.mapOf hw (h w' _ (I.tok _) i9)
 ·subst ey;cases (show u=Qr b from ry);obtain⟨z,hd,xs,rel,dd⟩:=lD I.aJ e;obtain⟨w',hw,i9⟩:=gN.some_of (v:=v) (o:=(atKey xs k).map (·.2)) (by rw[l];exact rel.val k);obtain⟨p,hp,hp2⟩:=Option.map_eq_some_iff.mp hw;refine wpAny_getItem_heap (SS hu) (kI I.aJ eb) dd hp ?_;rw[hp2];exact h w' _ (I.tok _) i9
theorem Nk(hu:A.units+1 < cLine)(I:Inv X η σ H s)(g:jL H a y o)(ry:RelV y u)(h:∀s',Inv X η σ H s'->Q (.bool o.isSome) s'):
  wpAny (model X.prog X.w) A (QZ .In u (.ref a)) Q E s:=by
 rcases g with ⟨kvs,k,e,ey,l⟩|⟨kvs,k,b,e,ey,eb,l⟩
 ·subst ey;obtain⟨z,hd,vs,rel,dd⟩:=lC I.aJ e;refine wpAny_in_of (jK ry) hd dd.mapOf ?_;rw[<-(rel.val k).eV,<-l];exact h _ (I.tok _)
 ·subst ey;cases (show u=Qr b from ry);obtain⟨z,hd,xs,rel,dd⟩:=lD I.aJ e;refine wpAny_in_heap (SS hu) (kI I.aJ eb) hd dd ?_;have q:=(rel.val k).eV;rw[Td] at q;rw[<-q,<-l];exact h _ (I.tok _)
theorem B1(hu:A.units+1 < cLine)(I:Inv X η σ H s)(g:jL H a y o)(ry:RelV y u)(h:∀s',Inv X η σ H s'->Q (.bool (!o.isSome)) s'):
  wpAny (model X.prog X.w) A (QZ .NotIn u (.ref a)) Q E s:=by
 rcases g with ⟨kvs,k,e,ey,l⟩|⟨kvs,k,b,e,ey,eb,l⟩
 ·subst ey;obtain⟨z,hd,vs,rel,dd⟩:=lC I.aJ e;refine wpAny_notIn_of (jK ry) hd dd.mapOf ?_;rw[<-(rel.val k).eV,<-l];exact h _ (I.tok _)
 ·subst ey;cases (show u=Qr b from ry);obtain⟨z,hd,xs,rel,dd⟩:=lD I.aJ e;refine wpAny_notIn_heap (SS hu) (kI I.aJ eb) hd dd ?_;have q:=(rel.val k).eV;rw[Td] at q;rw[<-q,<-l];exact h _ (I.tok _)
theorem gq(I:Inv X η σ H s)(mu:Ij (H a))(hs:RO a s.heap h')(he:∃q,h'.get? a=Δ q)(new:bF X.prog X.w (upd H a ob) h' a ob):
  Inv X η σ (upd H a ob) {s with heap:=h',toks:=t'}:=
 I.write (x:=a) (e:=a) mu (.inl rfl) (λb q hb z=>(hs.2 b hb).trans z) he new
theorem mT(z:kvs.length<=Qi)(hd:(a==Ri)=Ξ)(rel:KV kvs vs)(dd:h'.DictOf (aZ P w) a vs):
  bF P w H' h' a (.dK kvs):=⟨z,hd,vs,rel,dd⟩
theorem xN(hu:A.units+1 < cLine)(I:Inv X η σ H s)(g:si H a y v H')(ry:RelV y u)(rv:RelV v r)(h:∀s',Inv X η σ H' s'->Q () s'):
  wpAny (model X.prog X.w) A (setItem (.ref a) u r) Q E s:=by
 rcases g with ⟨kvs,k,e,ey,l,eH⟩|⟨kvs,k,b,e,ey,eb,l,eH⟩
 ·subst ey eH;obtain⟨z,hd,vs,rel,dd⟩:=pH I.aJ e;have hz:vs.length<=Qi:=by rw[<-rel.length];exact z
  have hl:(putK kvs k v).length<=Qi:=by have:=fA kvs k v;lia
  refine wpAny_setItem_pairs (hsz:=hz) (jK ry) dd λh' rR hs=>h _ ?_;have he:∃q,h'.get? a=Δ q:=let ⟨q,_,_,hq,_⟩:=rR;⟨q,hq⟩
  exact gq I (by rw[e];exact Q8) hs he (mT hl hd (rel.put k rv) rR)
 ·subst ey eH;cases (show u=Qr b from ry);obtain⟨z,hd,xs,rel,dd⟩:=DH I.aJ e;have hz:xs.length<=Qi:=by rw[<-Ut rel];exact z
  have hl:(putK kvs k v).length<=Qi:=by have:=fA kvs k v;lia
  refine wpAny_setItem_heap (hsz:=hz) (SS hu) (kI I.aJ eb) dd λh' rR hs=>h _ ?_;obtain⟨q,es,ep,hq,h2,h3,h4,_,h5⟩:=rR;refine gq I (by rw[e];exact Q8) hs ⟨q,hq⟩ ⟨hl,hd,_,(rel.put k eb rv).keeps λc ys ec=>?_,q,es,ep,hq,h2,h3,h4,h5⟩;rw[av (Dv ec e (λz=>nomatch z))];exact ec
end
section
variable{X:Cx}{η:List (Addr×Obj)}{σ:St}{H:Hp}{s:Qd}{a:Addr}{kvs:List (Key×V)}{k:Key}{u:Value}{A:QY}{E:Value->Qd->Prop}
theorem HD(I:Inv X η σ H s)(e:H a=Δ (.dK kvs))(ry:RelV (kV k) u)(l:(dB kvs k).isSome=Λ)(h:∀s',Inv X η σ (upd H a (.dK (jH kvs k))) s'->Q () s'):
  wpAny (model X.prog X.w) A (delItem (.ref a) u) Q E s:=by
 obtain⟨z,hd,vs,rel,dd⟩:=pH I.aJ e;refine wpAny_delItem_slot dd.typeIs (by decide) PySem.F.slot_dict_delitem
  (TV PySem.F.slot_dict_delitem dd.typeIs PySem.F.entry_dict_delitem (PySem.F.args_dict_delitem_2 _ _) (meets_dict_delitem_pairs (aZ X.prog X.w) a (jK ry)) ⟨vs,dd,by rw[<-rel.length];exact z,by rw[<-(rel.val k).eV];exact l,λh' rR hs=>h _ ?_⟩)
 have he:∃q,h'.get? a=Δ q:=let ⟨q,_,_,hq,_⟩:=rR;⟨q,hq⟩
 exact gq I (by rw[e];exact Q8) hs he (mT (QJ (sg kvs k) z) hd (rel.drop k) rR)
theorem Jh(I:Inv X η σ H s)(e:H a=Δ (.dK kvs))(ry:RelV (kV k) u)(l:dB kvs k=Δ v)(hm:more=[]\/∃x,more=[x])(h:∀w' s',Inv X η σ (upd H a (.dK (jH kvs k))) s'->RelV v w'->Q w' s'):wpAny (model X.prog X.w) A (call (.builtin "dict.pop") (.ref a::u::more)) Q E s:=by
 obtain⟨z,hd,vs,rel,dd⟩:=pH I.aJ e;obtain⟨w',hw,i9⟩:=gN.some_of (v:=v) (o:=UL vs k) (by rw[<-l];exact rel.val k);have hp:(keyPart u).isSome=Λ:=by cases k with|inl i=>obtain⟨t,q⟩:=(show ∃t,u=Tv i t from ry);subst q;rfl|inr x=>obtain⟨t,q⟩:=(show ∃t,u=S3 x t from ry);subst q;rfl
 have ha:argsOk "dict.pop" ⟨.ref a::u::more,[]⟩:=by
  rcases hm with q|⟨x,q⟩;·subst q;exact PySem.F.args_dict_pop_2 _ _
  ·subst q;exact PySem.F.args_dict_pop_3 _ _ _
 refine TV PySem.F.slot_dict_pop dd.typeIs PySem.F.entry_dict_pop ha (meets_dict_pop_there (aZ X.prog X.w) a (jK ry) more hm hp)
  ⟨vs,w',dd,by rw[<-rel.length];exact z,hw,λh' rR hs=>h w' _ ?_ i9⟩
 have he:∃q,h'.get? a=Δ q:=let ⟨q,_,_,hq,_⟩:=rR;⟨q,hq⟩
 exact gq I (by rw[e];exact Q8) hs he (mT (QJ (sg kvs k) z) hd (rel.drop k) rR)
theorem Ji(I:Inv X η σ H s)(e:Rd H a (.dK kvs))(h:∀t s',Inv X η σ H s'->Q (.int kvs.length t) s'):wpAny (model X.prog X.w) A (call (.builtin "len") [.ref a]) Q E s:=by obtain⟨z,hd,vs,rel,dd⟩:=lC I.aJ e;refine call_len_dict hd dd (by rw[<-rel.length];rw[Q0] at z;lia) ?_;rw[<-rel.length];exact h _ _ (I.tok _)
end
theorem sj(I:Inv X η σ H s)(g:jL H a y o):s.TypeIs (.ref a) "dict":=by
 rcases g with ⟨kvs,k,e,_,_⟩|⟨kvs,k,b,e,_,_,_⟩
 ·obtain⟨_,_,vs,_,dd⟩:=lC I.aJ e;exact dd.typeIs
 ·obtain⟨_,_,xs,_,dd⟩:=lD I.aJ e;exact dd.typeIs
theorem sk(I:Inv X η σ H s)(g:jL H a y o):
  ∀b,Qr a=.ref b->∃ob,s.heap.get? b=Δ ob/\ob.dict=Θ:=λb q=>by
 cases q;rcases g with ⟨kvs,k,e,_,_⟩|⟨kvs,k,b,e,_,_,_⟩
 ·obtain⟨_,_,vs,_,ob,_,_,h1,h2,_⟩:=lC I.aJ e;exact⟨ob,h1,h2.2.1⟩
 ·obtain⟨_,_,xs,_,ob,_,_,h1,h2,_⟩:=lD I.aJ e;exact⟨ob,h1,h2.2.1⟩
section
variable{X:Cx}{o i e value:Expr}{pos pos' IT:Pos}{td ty tv:TE}
end
theorem so(h:Heap)(hb:Ri < h.objs.size):bF P w H (h.push {cls:=.type "dict",data:=.dict #[]}) h.objs.size (.dK []):=
 ⟨R6 _,beq_eq_false_iff_ne.mpr (Q5 (Qt hb)),[],.nil,Heap.DictOf.new h⟩
theorem sr(h:Heap)(hb:Ri < h.objs.size):bF P w H (h.push {cls:=.type "dict",data:=.dict #[]}) h.objs.size (.dT []):=
 ⟨R6 _,beq_eq_false_iff_ne.mpr (Q5 (Qt hb)),[],.nil,_,#[],0,Qe _ rfl,⟨rfl,rfl,rfl⟩,rfl,rfl,List.nodup_nil⟩
def ET:TE:=λ_ H Q=>∀p,H p=Θ->Q (.ref p) (upd H p (.dK []))
def EU:TE:=λ_ H Q=>∀p,H p=Θ->Q (.ref p) (upd H p (.dT []))
section
variable{X:Cx}{pos:Pos}
theorem zw:PE X (.Dict [] [] pos) ET:=λη s σ H Q I h=>wpAny_Dict_empty ⟨.ref s.heap.objs.size,_,I.laid (a:=s.heap.objs.size) (o:=.dK []) (t':=s.toks) (λ_ _ q=>P0 _ q) (P8 _) (so s.heap I.L0),rfl,h _ (I.aJ.fresh (P8 _))⟩
theorem zx:PE X (.Dict [] [] pos) EU:=λη s σ H Q I h=>wpAny_Dict_empty ⟨.ref s.heap.objs.size,_,I.laid (a:=s.heap.objs.size) (o:=.dT []) (t':=s.toks) (λ_ _ q=>P0 _ q) (P8 _) (sr s.heap I.L0),rfl,h _ (I.aJ.fresh (P8 _))⟩
end
noncomputable def uY:List (TE×TE)->St->Hp->(List (V×V)->Hp->Prop)->Prop
 |[],_,H,Q=>Q [] H|(tk,tv)::r,σ,H,Q=>tk σ H λx H1=>tv σ H1 λy H2=>uY r σ H2 λps H3=>Q ((x,y)::ps) H3
abbrev VV:List (V×V)->List (Value×Value)->Prop:=Vf λp q=>RelV p.1 q.1/\RelV p.2 q.2
def L1(X:Cx)(pos:Pos)(keys:List (Option Expr))(values:List Expr)(EV:List (TE×TE)):Prop:=
 ∀(η:List (Addr×Obj)) (s:Qd) (σ:St) (H:Hp) (Q:List (V×V)->Hp->Prop),Inv X η σ H s->uY EV σ H Q->
  wpAny (model X.prog X.w) X.A (evalPairs (pairTrees keys values X.env pos)) (λvs s'=>∃ps H',Inv X η σ H' s'/\VV ps vs/\Q ps H') X.xe s
theorem wC:L1 X pos [] [] []:=λη s σ H Q I h=>pairTrees_nil_walk ⟨[],H,I,.nil,h⟩
theorem su(hk:PE X k tk)(hv:PE X v tv)(hr:L1 X pos ks vs EV):
  L1 X pos (Δ k::ks) (v::vs) ((tk,tv)::EV):=λη s σ H Q I h=>
 pairTrees_cons_walk (bG (hk η s σ H _ I h) λu s1 ⟨x,H1,I1,rx,q1⟩=>bG (hv η s1 σ H1 _ I1 q1) λw2 s2 ⟨y,H2,I2,ry,q2⟩=>bG (hr η s2 σ H2 _ I2 q2) λws s3 ⟨ps,H3,I3,rel,q3⟩=>⟨(x,y)::ps,H3,I3,.cons ⟨rx,ry⟩ rel,q3⟩)
def kJ(kvs more:List (Key×V)):List (Key×V):=more.foldl (λacc kv=>putK acc kv.1 kv.2) kvs
theorem KV.merge:∀{more} {rs} {kvs} {vs},KV more rs->KV kvs vs->KV (kJ kvs more) (merged vs rs):=by
 intro more rs kvs vs r;unfold KV at r;induction r generalizing kvs vs with
 |nil=>intro q;exact q|@cons p q ps qs h t ih=>
  intro r0;have e:KV (putK kvs p.1 p.2) (stored vs q.1 q.2):=by have:=r0.put p.1 h.2;rw[<-h.1];exact this
  exact ih e
theorem iU:∀(more kvs),(kJ kvs more).length<=kvs.length+more.length
 |[],kvs=>by show kvs.length<=kvs.length+0;lia|p::r,kvs=>by have h1:=iU r (putK kvs p.1 p.2);have h2:=fA kvs p.1 p.2;show(kJ (putK kvs p.1 p.2) r).length<=_;rw[Qm];lia
theorem mW:∀{kvs} {ws},VV (kvs.map λkv=>(kV kv.1,kv.2)) ws->∃rs,Carries (aZ P w) ws rs/\KV kvs rs
 |[],_,r=>by rw[Th] at r;cases r;exact⟨[],Q8,.nil⟩|p::kvs,_,r=>by rw[QD] at r;cases r with|@cons a b as bs h t=>obtain⟨rs,c,q⟩:=mW (P:=P) (w:=w) t;obtain⟨b1,b2⟩:=b;exact⟨(p.1,b2)::rs,⟨jK h.1,rfl,c⟩,.cons ⟨rfl,h.2⟩ q⟩
def Jj(EV:List (TE×TE)):TE:=λσ H Q=>∀p,H p=Θ->uY EV σ (upd H p (.dK [])) λps H2=>H2 p=Δ (.dK [])/\∃kvs:List (Key×V),ps=kvs.map (λkv=>(kV kv.1,kv.2))/\kvs.length<=15/\Q (.ref p) (upd H2 p (.dK (kJ [] kvs)))
theorem B2(h:L1 X pos keys values EV)(oN:keys.all (·.isSome)=Λ)(hl:keys.length=values.length)(h0:keys≠[])(h15:keys.length<=15):PE X (.Dict keys values pos) (Jj EV):=by
 intro η s σ H Q I q;have hn:=I.aJ.fresh (P8 s.heap.objs.size);have I1:=I.laid (a:=s.heap.objs.size) (o:=.dK []) (h':=s.heap.push {cls:=.type "dict",data:=.dict #[]}) (t':=s.toks) (λ_ _ q=>P0 _ q) (P8 _) (so s.heap I.L0);refine wpAny_Dict_walk (knd:=aZ X.prog X.w) oN hl h0 h15 (bG (h η _ σ _ _ I1 (q _ hn)) λws s2 ⟨ps,H2,I2,rel,e,kvs,ep,lk,q2⟩=>?_);subst ep;obtain⟨rs,c,rk⟩:=mW (P:=X.prog) (w:=X.w) rel;obtain⟨z,hd,vs0,r0,dd⟩:=pH I2.aJ e;cases r0;refine⟨rs,c,dd,λh' rR hs=>⟨.ref s.heap.objs.size,_,?_,rfl,q2⟩⟩;have hz:(kJ [] kvs).length<=Qi:=by have h1:=iU kvs [];rw[TN] at h1;rw[Q0];lia
 have he:∃q,h'.get? s.heap.objs.size=Δ q:=let ⟨q,_,_,hq,_⟩:=rR;⟨q,hq⟩
 exact gq I2 (by rw[e];exact Q8) hs he (mT hz hd (rk.merge .nil) rR)
structure M1(X:Cx)(o:Expr)(m:Str)(apos:Pos)(e:Expr)(cf:Pos):Prop where
 base:R9 o m X.env (eval o X.env)=eval o X.env
 L3:((Rx cf (Qo [e] X.env)).all (λx=>!x.1)&&(TH cf (Sn [] X.env)).all (λx=>x.1.isSome)
  &&decide (([e]:List Expr).length+([]:List Um).length+(if([]:List Um).isEmpty then 0 else 1) < 30))=Λ
 line:(apos.endLine==cf.line)=Λ
 trees:Rx cf (Qo [e] X.env)=[(Ξ,eval e X.env)]
structure M2(X:Cx)(o:Expr)(m:Str)(apos:Pos)(e f:Expr)(cf:Pos):Prop where
 base:R9 o m X.env (eval o X.env)=eval o X.env
 L3:((Rx cf (Qo [e,f] X.env)).all (λx=>!x.1)&&(TH cf (Sn [] X.env)).all (λx=>x.1.isSome)
  &&decide (([e,f]:List Expr).length+([]:List Um).length+(if([]:List Um).isEmpty then 0 else 1) < 30))=Λ
 line:(apos.endLine==cf.line)=Λ
 trees:Rx cf (Qo [e,f] X.env)=[(Ξ,eval e X.env),(Ξ,eval f X.env)]
def L4(H:Hp)(a:Addr):Prop:=(∃kvs,Rd H a (.dK kvs))\/∃kvs,Rd H a (.dT kvs)
theorem uZ(I:Inv X η σ H s)(d:L4 H a):
  s.TypeIs (.ref a) "dict"/\(∀b,Qr a=.ref b->∃ob,s.heap.get? b=Δ ob/\ob.dict=Θ)/\(a==Ri)=Ξ:=by
 rcases d with ⟨kvs,e⟩|⟨kvs,e⟩
 ·obtain⟨_,hd,vs,_,dd⟩:=lC I.aJ e;refine⟨dd.typeIs,λb q=>?_,hd⟩;cases q;obtain⟨ob,_,_,h1,h2,_⟩:=dd;exact⟨ob,h1,h2.2.1⟩
 ·obtain⟨_,hd,xs,_,dd⟩:=lD I.aJ e;refine⟨dd.typeIs,λb q=>?_,hd⟩;cases q;obtain⟨ob,_,_,h1,h2,_⟩:=dd;exact⟨ob,h1,h2.2.1⟩
section
variable{X:Cx}{η:List (Addr×Obj)}{σ:St}{H:Hp}{s:Qd}{a:Addr}{y d:V}{u r:Value}{o:Option V}{A:QY}{E:Value->Qd->Prop}
end
def EW(td ty:TE):TE:=λσ H Q=>td σ H λx H1=>∃a,x=.ref a/\L4 H1 a/\ty σ H1 λy H2=>∃kvs k v,H2 a=Δ (.dK kvs)/\y=kV k/\dB kvs k=Δ v/\Q v (upd H2 a (.dK (jH kvs k)))
section
variable{X:Cx}{o e f:Expr}{apos cf:Pos}{td ty tx:TE}
theorem zy(ho:PE X o td)(he:PE X e ty)(m:M1 X o "pop" apos e cf):PE X (.Call (.Attribute o "pop" apos) [e] [] cf) (EW td ty):=by intro η s σ H Q I h;refine Ui m.base m.L3 m.line Si PySem.F.slot_dict_pop PySem.F.type_dict_pop (bG (ho η s σ H _ I h) λu s1 ⟨x,H1,I1,rx,a,ex,d,q1⟩=>?_);subst ex;obtain rfl:u=Qr a:=rx;obtain⟨t1,t2,_⟩:=uZ I1 d;refine⟨t1,t2,?_⟩;rw[m.trees];refine Rt rfl (R8 (RV (bG (he η s1 σ H1 _ I1 q1) λiv s2 ⟨y,H2,I2,ry,kvs,k,v,ea,ey,l,q2⟩=>Sx ?_)));subst ey;exact Jh I2 ea ry l (.inl rfl) λw' s3 I3 i9=>⟨v,_,I3,i9,q2⟩
end
section
variable{X:Cx}{η:List (Addr×Obj)}{σ:St}{H:Hp}{s:Qd}{a:Addr}{kvs:List (Key×V)}{A:QY}{E:Value->Qd->Prop}
end
section
variable{X:Cx}{η:List (Addr×Obj)}{σ:St}{H:Hp}{s:Qd}{a:Addr}{y:V}{u:Value}{A:QY}{E:Value->Qd->Prop}
end
end L2
namespace Att
open PySem PySem.W PySem.Calls PyProof.Rows
theorem lZ:∀(ns) (vs),WellAll P h vs (ns.map WData.int)->IntsAre vs ns:=by intro ns;induction ns with|nil=>intro vs w;rw[Th] at w;cases w;exact .nil|cons n ns ih=>intro vs w;rw[QD] at w;cases w with|cons a b=>cases a;exact .cons _ _ (ih _ b)
theorem xO{l:OpenLaw}(hn:l.most=Δ n)(B3:l.row.toRowW.claim.pre args=Λ)(Nl:WellAll P h vals args):
  ∃a vs ns,vals=[Qr a]/\args=[WData.list (ns.map WData.int)]/\h.get? a=Δ {cls:=.type "list",data:=.seq vs.toArray}/\IntsAre vs ns/\ns.length<=n:=by
 have wD:WShape.hasAll [] args [.list .int]=Λ:=(pre_splitW B3).1;have hc:l.pre.holds [] {args:=args}=Λ:=(pre_splitW B3).2;obtain⟨d,r,rfl,h1,h2⟩:=hasAllW_cons wD;obtain rfl:=hasAllW_nil h2;obtain⟨xs,rfl,h3⟩:=hasW_list h1;obtain⟨ns,rfl⟩:=items_int h3;have hlen:ns.length<=n:=by
  unfold OpenLaw.pre at hc;have h4:(WTm.not (.lt (.lit (.int (n:Int))) (.len (.arg 0)))).holds [] {args:=[.list (ns.map .int)]}=Λ:=by have h4:=(holds_andW hc).1;rw[hn] at h4;exact h4
  have h5:=condW_of h4 (w_not (w_lt w_lit (w_len_list (w_arg rfl))));rw[Qv] at h5;refine Nat.le_of_not_lt λq=>?_;have q':(n:Int) < ((ns.length:Nat):Int):=by lia
  first
   |(rw[decide_eq_true q'] at h5;exact absurd h5 (by decide))
   |(simp at h5;lia)
 cases Nl with|cons w1 w2=>cases w2;cases w1 with|list ho oN=>exact⟨_,_,ns,rfl,rfl,ho,lZ ns _ oN,hlen⟩
theorem xP(l:OpenLaw)args:l.row.toRowW.claim.post args (.bool Λ) args=Λ:=
 postW_of (r:=l.row.toRowW) (X:=(Λ==Λ))
  (show WShape.has [] (.bool Λ) .bool=Λ by first|rfl|decide|simp[WShape.has,WShape.arms,WShape.armsAll])
  (show(WTm.eq .res (.lit (.bool Λ))).value [] {args:=args,res:=Δ (.bool Λ),after:=args}=Δ (.bool (Λ==Λ)) from w_eq_bool (w_res rfl) w_lit) rfl
theorem sv{l:OpenLaw}(hn:l.most=Δ n)(xQ:d.params.defaults=[])(call:∀(w:World) (dA bC:Qd) (mg mb:Str->Option Value) (fa:Addr) (o:Obj) (pm cd doc:Value) (a:Addr) (vs:List Value) (ns:List Int),
   Ground q loose [] XP w dA mg mb bC.heap->YP w bC.heap->
   bC.heap.get? fa=Δ o->o.data=.func (docDef d.name d.params d.body d.scope pm cd doc)->bC.heap.CodeRec cd d.name->mg d.name=Δ (.ref fa)->
   bC.heap.get? a=Δ {cls:=.type "list",data:=.seq vs.toArray}->IntsAre vs ns->ns.length<=n->bC.gens=#[]->
   TC (model l.prog w) U5 (.call (.ref fa) ⟨[.ref a],[]⟩) (λr s'=>r=.ok (.ret (.bool Λ))/\OldK bC.heap s'.heap/\s'.os=bC.os/\T4 s'.gens) bC):
  WalkO q loose XP YP l.row.toRowW d [] (λf vs=>Vz f vs):=by
 intro w dA bC mg mb G Y fa o pm cd doc dV kV ho hd iR hD Jk hg args vals as B3 hlay hrd Nl hlo;obtain rfl:dV=.none:=Dflts.none hD xQ;obtain rfl:kV=.none:=Dflts.noKw hD;obtain⟨a,vs,ns,rfl,rfl,xR,hints,hlen⟩:=xO hn B3 Nl;refine enter_call (SG (call w dA bC mg mb fa o pm cd doc a vs ns G Y ho (fd_plain hd) iR Jk xR hints hlen hg) λr s' hq=>?_);obtain⟨rfl,h2,h3,h4⟩:=hq;exact⟨.inl ⟨.bool Λ,.bool Λ,[],rfl,λ_=>rfl,.bool Λ,xP l _,λ_=>⟨List.Pairwise.nil,λ_ hm=>(nomatch hm)⟩⟩,h2,h3,h4⟩
section
variable{prog:QE}{w:World}{A:QY}{E:Value->Qd->Prop}{s:Qd}{K:Frag}
end
end Att
namespace L2
open PySem PySem.Spec PyProof.Rows
theorem pI:∀{vs} {ns},IntsAre vs ns->aM (ns.map V.int) vs
 |_,_,.nil=>.nil|_,_,.cons n t h=>.cons ⟨t,rfl⟩ (pI h)
noncomputable def mn(s:Stmt):R4:=match s with|.FunctionDef _ a _ _ _ _ _ _ _ _=>a|_=>{posonlyargs:=[],args:=[],vararg:=Θ,kwonlyargs:=[],kw_defaults:=[],kwarg:=Θ,defaults:=[]}
noncomputable def dP(s:Stmt):List Stmt:=match s with|.FunctionDef _ _ b _ _ _ _ _ _ _=>b|_=>[]
noncomputable def aq(s:Stmt):Scope:=match s with|.FunctionDef _ _ _ _ _ _ sc _ _ _=>sc|_=>{kind:=.function,names:=[],isGenerator:=Ξ,isCoroutine:=Ξ}
abbrev ju:zh:=λ_ _ _ _ _ _=>False
abbrev E0:XK:=λ_ _ _=>False
theorem sx:gQ ju X E0:=λ_ _ _ _ _ _ _ h=>h.elim
structure kK(K:P5)(x qual:Str)(st:Stmt)(f:Addr)(fd:QX):Prop where
 ex:∃(oc:Value) (od:Option Addr) (kV doc pm:Value) (an:Option Addr) (gK ct:Value) (Bo:Array (Option Value)),
  fd=S9 x qual (mn st) (dP st) (aq st) .none kV doc pm an gK ct/\K.lookup f=Δ ⟨oc,od,.func fd,Bo⟩/\U2 K gK qual=Λ
 kp:Sh K (.ref f)=Λ
section
variable{P:QE}{w:World}{K:P5}{mg:Str->Option Value}{base:Heap}
theorem kK.binds{st:Stmt}(F:kK K x qual st f fd)(h:∀(kV doc pm:Value) (an:Option Addr) (gK ct:Value) (us:List Value),us.length=ps.length->Vx (S9 x qual (mn st) (dP st) (aq st) .none kV doc pm an gK ct) ⟨us,[]⟩=pure (ps.zip us)):Binds K fd ps []:=by obtain⟨oc,od,kV,doc,pm,an,gK,ct,Bo,rfl,lk,iR⟩:=F.ex;exact .all (h kV doc pm an gK ct)
theorem EX{st:Stmt}{kV doc pm gK ct:Value}(l:K.lookup f=Δ ⟨oc,od,.func (S9 x qual (mn st) (dP st) (aq st) .none kV doc pm an gK ct),Bo⟩)(c:U2 K gK qual=Λ)(k:Sh K (.ref f)=Λ):kK K x qual st f (S9 x qual (mn st) (dP st) (aq st) .none kV doc pm an gK ct):=⟨⟨oc,od,kV,doc,pm,an,gK,ct,Bo,rfl,l,c⟩,k⟩
end
section
variable{X:Cx}
end
def fS(H H':Hp):Prop:=∀b o,H b=Δ o->H' b=Δ o
theorem fS.refl H:fS H H:=λ_ _ h=>h
section
variable{κ:Type}[DecidableEq κ]
end
noncomputable def cN(env:Env):List (Str×R7)->List (Str×Addr)->List (Str×Addr)
 |[],cs=>cs|(n,k)::r,cs=>cN env r (if(k==Qg)=Λ then(n,(env.cells.lookup n).getD 0)::cs else cs)
theorem mX(h:∀x∈sc.names,x.2=.free->∃c,env.cells.lookup x.1=Δ c):T7 sc env=pure (cN env sc.names []):=by
 have go:∀(l:List (Str×R7)) (cs:List (Str×Addr)),(∀x∈l,x.2=.free->∃c,env.cells.lookup x.1=Δ c)->
   (forIn l cs (λ(x:Str×R7) (r:List (Str×Addr))=>if(x.2==Qg)=Λ then do let a<-Vq env x.1;pure (Rh ((x.1,a)::r)) else pure (Rh r)):Sem (List (Str×Addr)))=pure (cN env l cs):=by
  intro l;induction l with
  |nil=>intro cs _;rfl|cons x r ih=>
   intro cs hx;obtain⟨n,k⟩:=x;have hr:∀y∈r,y.2=.free->∃c,env.cells.lookup y.1=Δ c:=λy hy=>hx y (P6 _ hy);rw[R1];by_cases hk:(k==Qg)=Λ
   ·obtain⟨c,hc⟩:=hx (n,k) P7 (by simpa using hk);have e:Vq env n=pure c:=by unfold Vq;simp only at hc;rw[hc]
    simp only[hk,if_true,e];show _=pure (cN env r (if(k==Qg)=Λ then(n,(env.cells.lookup n).getD 0)::cs else cs));rw[if_pos hk];simp only at hc;rw[hc];exact ih _ hr
   ·simp only[hk];show _=pure (cN env r (if(k==Qg)=Λ then(n,(env.cells.lookup n).getD 0)::cs else cs));rw[if_neg hk];exact ih _ hr
 have q:=go sc.names [] h;unfold T7;show((forIn sc.names [] (λ(x:Str×R7) (r:List (Str×Addr))=>if(x.2==Qg)=Λ then do let a<-Vq env x.1;pure (Rh ((x.1,a)::r)) else pure (Rh r)):Sem (List (Str×Addr))) >>=λcs=>pure cs)=_;rw[q];rfl
theorem gU:∀{l} {cs},((x,Qg)∈l\/∃c,cs.lookup x=Δ c)->∃c,(cN env l cs).lookup x=Δ c
 |[],cs,h=>by
  rcases h with h|h;·exact nomatch h
  ·exact h
 |(n,k)::r,cs,h=>by
  show ∃c,(cN env r (if(k==Qg)=Λ then(n,(env.cells.lookup n).getD 0)::cs else cs)).lookup x=Δ c;refine gU ?_;rcases h with h|⟨c,h⟩
  ·rcases Uu.mp h with e|e;·injection e with e1 e2;subst e1 e2;right;rw[if_pos (by rfl)];exact⟨_,by rw[Ql];simp;rfl⟩
   ·exact .inl e
  ·right;by_cases hk:(k==Qg)=Λ
   ·rw[if_pos hk,Ql];split;·exact⟨_,rfl⟩
    ·exact⟨c,h⟩
   ·rw[if_neg hk];exact⟨c,h⟩
theorem lE:∀{l} {cs},(∀y∈l,y.2=.free->∃d,env.cells.lookup y.1=Δ d)->
  (cN env l cs).lookup x=Δ c->cs.lookup x=Δ c\/((x,Qg)∈l/\env.cells.lookup x=Δ c)
 |[],cs,_,h=>.inl h|(n,k)::r,cs,hx,h=>by
  have h':(cN env r (if(k==Qg)=Λ then(n,(env.cells.lookup n).getD 0)::cs else cs)).lookup x=Δ c:=h;rcases lE (λy hy=>hx y (P6 _ hy)) h' with q|⟨q1,q2⟩
  ·by_cases hk:(k==Qg)=Λ
   ·rw[if_pos hk,Ql] at q;split at q
    ·rename_i e;have e':x=n:=by simpa using e
     subst e';have Jl:k=.free:=by simpa using hk
     subst Jl;obtain⟨d,hd⟩:=hx (x,.free) P7 rfl;simp only at hd;rw[hd] at q;simp only[Option.getD_some] at q;exact .inr ⟨P7,by rw[hd];exact q⟩
    ·exact .inl q
   ·rw[if_neg hk] at q;exact .inl q
  ·exact .inr ⟨P6 _ q1,q2⟩
section
variable{prog:QE}{w:World}{A:QY}{R:Result->Qd->Prop}{s:Qd}
theorem pJ(I:Nat->Qd->Prop)(turn:∀n s,I n s->wpAny (model prog w) A (Uq it) (λr bC=>match r with
   |none=>R (.ok .next) bC
   |some v=>wpAny (model prog w) A (TK target it v) (λ_ DI=>wpAny (model prog w) A (Vy target env v) (λ_ jA=>
     wpAny (model prog w) A (forIn ifs Λ λc r=>if r=Λ then do let ok<-Vp c env (eval c env);pure (Rh ok) else pure (Rh r)) (λok oO=>
      if ok=Λ then wpAny (model prog w) A (eval elt env) (λx Jm=>wpAny (model prog w) A (call (.builtin "list.append") [acc,x]) (λ_ Jn=>∃m,m < n/\I m Jn) (λ_ _=>False) Jm) (λ_ _=>False) oO
      else ∃m,m < n/\I m oO) (λ_ _=>False) jA) (λ_ _=>False) DI) (λ_ _=>False) bC) (λ_ _=>False) s)n(h:I n s):
  TC (model prog w) A (.compLoop (.ListComp elt [⟨target,iter,ifs,0⟩] scope pos) 0 it acc env) R s:=by
 refine codeAny_loop rfl I (λn s hI=>?_) n h;show wpAny _ A ((compTurn (.ListComp elt [⟨target,iter,ifs,0⟩] scope pos) 0 it acc env).onRaise (λx=>do noteFrame x env;theTreesLotGoes x)) _ _ s;refine wpAny_noted ?_;rw[compTurn_list];refine PY (U9 (PY (QS (turn n s hI) (λr bC cI=>?_) λ_ _ h'=>h'.elim)));cases r with|none=>exact P4 cI|some v=>refine PY (QS cI (λ_ DI Jo=>?_) λ_ _ h'=>h'.elim);refine PY (QS Jo (λ_ jA gW=>PY (QS gW (λok oO fK=>?_) λ_ _ h'=>h'.elim)) λ_ _ h'=>h'.elim);cases ok with|false=>exact P4 ⟨rfl,fK⟩|true=>exact PY (PY (QS fK (λx Jm xS=>PY (QS xS (λ_ Jn iL=>P4 (P4 ⟨rfl,iL⟩)) λ_ _ h'=>h'.elim)) λ_ _ h'=>h'.elim))
end
theorem gs{env:Env}:∀{names:List (Str×R7)} {x},names.lookup x=Δ .free->
  (names.map λ(n,k)=>if(k==Qg&&env.scope.kind==.function&&env.kindOf n==Δ .cell) then(n,Ra) else(n,k)).lookup x=Δ .cell\/
  (names.map λ(n,k)=>if(k==Qg&&env.scope.kind==.function&&env.kindOf n==Δ .cell) then(n,Ra) else(n,k)).lookup x=Δ .free
 |[],_,h=>by simp at h|(n,k)::r,x,h=>by
  have ih:=@gs env r x;show RI x ((if(k==Qg&&env.scope.kind==.function&&env.kindOf n==Δ .cell)=Λ then(n,Ra) else(n,k))::_)=_\/RI x ((if(k==Qg&&env.scope.kind==.function&&env.kindOf n==Δ .cell)=Λ then(n,Ra) else(n,k))::_)=_;cases hx:x==n with
  |true=>
   simp only[Ql,hx] at h;cases h;by_cases hc:(Qg==Qg&&env.scope.kind==.function&&env.kindOf n==Δ .cell)=Λ;·rw[if_pos hc];simp[Ql,hx]
   ·rw[if_neg hc];simp[Ql,hx]
  |false=>
   simp only[Ql,hx] at h;by_cases hc:(k==Qg&&env.scope.kind==.function&&env.kindOf n==Δ .cell)=Λ;·rw[if_pos hc];simp only[Ql,hx];exact ih h
   ·rw[if_neg hc];simp only[Ql,hx];exact ih h
theorem lF{env:Env}:∀{names:List (Str×R7)} {x} {q},q=.cell\/q=.free->
  (names.map λ(n,k)=>if(k==Qg&&env.scope.kind==.function&&env.kindOf n==Δ .cell) then(n,Ra) else(n,k)).lookup x=Δ q->∃k,(x,k)∈names/\(k=.free\/k=.cell)
 |[],_,_,_,h=>by simp at h|(n,k)::r,x,q,hq,h=>by
  have h':RI x ((if(k==Qg&&env.scope.kind==.function&&env.kindOf n==Δ .cell)=Λ then(n,Ra) else(n,k))::(r.map λ(n,k)=>if(k==Qg&&env.scope.kind==.function&&env.kindOf n==Δ .cell) then(n,Ra) else(n,k)))=Δ q:=h;cases hx:x==n with
  |true=>
   have e:x=n:=by simpa using hx
   by_cases hc:(k==Qg&&env.scope.kind==.function&&env.kindOf n==Δ .cell)=Λ
   ·have hk:k=.free:=by simp only[PZ] at hc;simpa using hc.1.1
    exact⟨k,by rw[e];exact P7,.inl hk⟩
   ·rw[if_neg hc] at h';simp only[Ql,hx] at h';cases h';exact⟨k,by rw[e];exact P7,hq.symm⟩
  |false=>
   have h2:RI x (r.map λ(n,k)=>if(k==Qg&&env.scope.kind==.function&&env.kindOf n==Δ .cell) then(n,Ra) else(n,k))=Δ q:=by
    by_cases hc:(k==Qg&&env.scope.kind==.function&&env.kindOf n==Δ .cell)=Λ;·rw[if_pos hc] at h';simpa only[Ql,hx] using h'
    ·rw[if_neg hc] at h';simpa only[Ql,hx] using h'
   obtain⟨k',m,z⟩:=lF hq h2;exact⟨k',P6 _ m,z⟩
def ja(X:Cx)(η:List (Addr×Obj))(N:List Str)(sc:Scope)(fp:List Addr)(C:Addr)(s:Qd)(H:Hp):Cx where
 prog:=X.prog
 w:=X.w
 K:=X.K
 mg:=X.mg
 base:=X.base
 A:=X.A
 N:=N
 dA:=s
 oH:=H
 env:=compEnvC sc (cN X.env sc.names []) C X.env
 outer:=X.stack
 stack:=X.stack
 ex:=fp
 calm:=X.calm
 fn:=λ_=>Ξ
 pn:=X.pn++η
 xe:=λ_ _=>False
structure gu(X:Cx)(N:List Str)(ts:Nat)(js:List Nat)(sc:Scope):Prop where
 kind:sc.kind=.function
 len:N.length=ts+js.length
 dH:∀x∈sc.names,x.2≠.cell
 names:∀x∈sc.names,x.2=.local->sc.names.lookup x.1=Δ .local
 frees:∀x∈sc.names,x.2=.free->X.env.kindOf x.1=Δ .cell\/X.env.kindOf x.1=Δ .free
 slots:∀(i:Nat) (y:Str) (j:Nat),N[ts+i]?=Δ y->js[i]?=Δ j->X.N[j]?=Δ y/\sc.names.lookup y=Δ .free
noncomputable def fB(ts:Nat)(js:List Nat)(σ:St):St:=Rb ts Θ++js.map λj=>(σ[j]?).join
section
variable{X:Cx}{η:List (Addr×Obj)}{σ:St}{H:Hp}{s:Qd}{N:List Str}{ts:Nat}{js:List Nat}{sc:Scope}{fp:List Addr}
theorem gu.cl(B:gu X N ts js sc)(ok:X.Ok):∀x∈sc.names,x.2=.free->∃c,X.env.cells.lookup x.1=Δ c:=λx hx hk=>ok.has x.1 (B.frees x hx hk)
theorem gu.get(B:gu X N ts js sc)(ok:X.Ok)(h:(cN X.env sc.names []).lookup x=Δ c):X.env.cells.lookup x=Δ c:=by
 rcases lE (B.cl ok) h with q|⟨_,q⟩;·cases q
 ·exact q
theorem Inv.Nm(I:Inv X η σ H s)(f:i6 X η H b):b∉dz X.stack:=λz=>by
 rcases Uu.mp (I.kz b z) with e|e;·exact f.2.1 e
 ·exact f.2.2.1 e
theorem Inv.okB(I:Inv X η σ H s)(B:gu X N ts js sc)(hf:∀b∈fp,i6 X η H b)(ho:∀b∈fp,b < s.heap.objs.size):(ja X η N sc fp s.heap.objs.size s H).Ok where
 mod:=I.ok.mod
 kind:=B.kind
 glob:=I.ok.glob
 blt:=I.ok.blt
 above:=P8 _
 inj:=λx y c h1 h2=>I.ok.inj x y c (B.get I.ok h1) (B.get I.ok h2)
 has:=λx hx=>by
  have ux:∃q,(q=Ra\/q=.free)/\(sc.names.map λ(n,k)=>if(k==Qg&&X.env.scope.kind==.function&&X.env.kindOf n==Δ .cell) then(n,Ra) else(n,k)).lookup x=Δ q:=by
   rcases hx with h|h;·exact⟨_,.inl rfl,h⟩
   ·exact⟨_,.inr rfl,h⟩
  obtain⟨q,hq,hl⟩:=ux;obtain⟨k,hm,hk⟩:=lF hq hl;have Jl:k=.free:=hk.resolve_right (B.dH _ hm);subst Jl;exact gU (.inl hm)
 Dw:=λx c h=>absurd (show Ξ=Λ from h) QF
 hd:=I.ok.hd
 frames:=I.ok.frames
 HA:=.inl rfl
 LL:=λb hb=>⟨Qt (ho b hb),λx c h=>(hf b hb).2.2.2.2.1 x c (B.get I.ok h)⟩
 bs:=I.bs
 xq:=QJ I.ok.xq I.sz
 uA:=λb o e hb=>by
  rcases(hf b hb).2.2.2.1 with z|z;·exact I.ok.uA b o e z
  ·exact absurd (Qj (Qc e) (QJ I.ok.xq z)) (Rm _)
 xr:=λb hb=>I.Nm (hf b hb)
 fO:=I.stack
 xt:=I.jz
theorem Inv.block(I:Inv X η σ H s)(B:gu X N ts js sc)(hf:∀b∈fp,i6 X η H b)(ho:∀b∈fp,b < s.heap.objs.size)(hn:h'.Ns s.heap.objs.size m)(k:∀b o,s.heap.get? b=Δ o->h'.get? b=Δ o):Inv (ja X η N sc fp s.heap.objs.size s H) [] (fB ts js σ) H {s with heap:=h',toks:=tk}:=by
 refine⟨I.okB B hf ho,rfl,I.bare,Un.kept k,⟨m,hn,λi y v h1 h2 h3=>?_⟩,λx c h=>?_,I.aJ.fresh (P8 _),λx c h=>I.eZ x c (B.get I.ok h),λp hp=>?_,I.aJ.kept k,?_⟩
 ·have hi:ts<=i:=by
   by_cases hi:ts<=i;·exact hi
   ·unfold fB at h2;rw[Qn (by simpa using hi),RK] at h2;split at h2<;>cases h2
  obtain⟨d,rfl⟩:∃d,i=ts+d:=⟨i - ts,by lia⟩;have rS:(js.map λj=>(σ[j]?).join)[d]?=Δ (Δ v):=by unfold fB at h2;rw[Qu (by simp)] at h2;simpa using h2
  rw[QA] at rS;cases ej:js[d]? with
  |none=>rw[ej] at rS;cases rS|some j=>
   rw[ej] at rS;have h4:(σ[j]?).join=Δ v:=by simpa using rS
   have h5:σ[j]?=Δ (Δ v):=by cases e:σ[j]? with|none=>rw[e] at h4;cases h4|some o=>rw[e] at h4;simp at h4;rw[h4]
   obtain⟨g1,g2⟩:=B.slots d y j h1 ej;have hm:(y,Qg)∈sc.names:=QG g2;have hk:=B.frees _ hm rfl;obtain⟨m0,hn0,hl0⟩:=I.loc;have hv:Il X.env.scope y:=by
    rcases hk with z|z;·exact .inr (.inl z)
    ·exact .inr (.inr z)
   obtain⟨u,ru,lk⟩:=hl0 j y v g1 h5 hv;refine⟨u,ru,.inr ⟨gs g2,?_⟩⟩;rcases lk with ⟨z,_⟩|⟨_,c,hc,jB⟩
   ·rcases hk with z'|z'<;>(rw[z] at z';cases z')
   ·obtain⟨c',Bl⟩:=gU (env:=X.env) (l:=sc.names) (cs:=[]) (.inl hm);have e:=B.get I.ok Bl;rw[hc] at e;cases e;obtain⟨o,ky,xu⟩:=jB;exact⟨c,Bl,o,k _ _ ky,xu⟩
 ·obtain⟨v,o,ky,xu⟩:=I.cell x c (B.get I.ok h);exact⟨v,o,k _ _ ky,xu⟩
 ·have L5:p∈X.pn++η:=by simpa[ja] using hp
  obtain⟨e,n,ne,nf,d⟩:=I.pin p L5;refine⟨k _ _ e,n,Qt (Qc e),λz=>?_,d⟩;rcases Uu.mp (I.kz p.1 z) with q|q;·exact ne q
  ·exact nf q
 ·show(fB ts js σ).length=N.length;unfold fB;rw[Qp,Sv,Qv,B.len]
end
noncomputable def zA(X:Cx)(ifs:List Expr)(t:TT):Prop:=
 ∀(η:List (Addr×Obj)) (s:Qd) (σ:St) (H:Hp) (Q:Bool->Hp->Prop),Inv X η σ H s->t σ H Q->
  wpAny (model X.prog X.w) X.A (forIn ifs Λ λc r=>if r=Λ then do let ok<-Vp c X.env (eval c X.env);pure (Rh ok) else pure (Rh r)) (TP X η σ Q) X.xe s
def Nn:TT:=λ_ H Q=>Q Λ H
theorem B4:zA X [] Nn:=λ_ _ _ H _ I h=>wpAny_tests_nil ⟨H,I,h⟩
theorem B5(h:PT X c t):zA X [c] t:=λη s σ H Q I q=>wpAny_tests_one (h η s σ H Q I q)
def sA(wi:TI)(g:TG)(tc:TT)(te:TE)(ts:Nat)(js:List Nat):TE:=λσ H Q=>wi σ H λJ H1=>∀acc,H1 acc=Θ->
 ∃W:Nat->Nat->St->Hp->Prop,(∃m,W 0 m (fB ts js σ) (upd H1 acc (.lst [])))/\∀i m τ H,W i m τ H->
  (J.stop i H/\Q (.ref acc) H)\/(J.go i H/\∀x H',J.ID i H x H'->g x τ H' λL6 H2=>tc L6 H2 λb H3=>
   if b=Λ then te L6 H3 λy H4=>∃ys,H4 acc=Δ (.lst ys)/\ys.length < Qi/\∃m',m' < m/\W (i+1) m' L6 (upd H4 acc (.lst (ys++[y])))
   else ∃m',m' < m/\W (i+1) m' L6 H3)
section
variable{X:Cx}{elt iter tg:Expr}{ifs:List Expr}{sc:Scope}{pos:Pos}{N:List Str}{ts:Nat}{js:List Nat}{wi:TI}{g:TG}{tc:TT}{te:TE}
theorem Inv.sC(I:Inv X η σ H s)(hf:∀b∈fp,i6 X η H b)(J:Inv (ja X η N sc fp s.heap.objs.size s H) [] τ H' s')(sb:RO s.heap.objs.size s'.heap h''):Inv X η σ H' {s' with heap:=h''}:=by
 have hC:H' s.heap.objs.size=Θ:=J.free;have k:∀b o,b≠s.heap.objs.size->s'.heap.get? b=Δ o->h''.get? b=Δ o:=λb o hb e=>sb.extBut b o hb e;have ne:∀b o,s.heap.get? b=Δ o->b≠s.heap.objs.size:=λb o e=>Qt (Qc e);have u:Un (dz X.stack) fp H H' s.heap h'':=
  ⟨λb o e n hb hx=>k b o (ne b o e) (J.base.keep b o e n hb hx),
   λb o e n hb hx=>by
   obtain⟨sl,q⟩:=J.base.slot b o e n hb hx;exact⟨sl,k b _ (ne b o e) q⟩,
   J.base.free,
   λb o e hx=>by
   obtain⟨o',q⟩:=J.base.there b o e hx;exact⟨o',k b _ (ne b o e) q⟩,
   J.base.ku,J.base.i5,J.base.jy⟩
 have aJ:gi X.prog X.w H' h'':=λb ob e=>by
  refine(J.aJ b ob e).iK (λc v hc q=>k c v ?_ q) (λ_ q=>q) λ_ _ q=>q;rintro rfl;rcases hc with z|z;·rw[z] at hC;rw[hC] at e;cases e
  ·rw[hC] at z;cases z
 exact I.yU (s':={s' with heap:=h''}) (ch:=fp) J.os u aJ J.bare λb hb=>⟨(hf b hb).2.2.2.1,(hf b hb).2.1,(hf b hb).2.2.2.2.1,(hf b hb).2.2.2.2.2⟩
theorem wF(hc:X.calm=Λ)(B:gu X N ts js sc)(hi:PI X tg iter wi)
  (hg:∀η fp C s H,PG (ja X η N sc fp C s H) tg g) (ht:∀η fp C s H,zA (ja X η N sc fp C s H) ifs tc) (he:∀η fp C s H,PE (ja X η N sc fp C s H) elt te)
  (hs:∀x,Uj iter X.env x=pure x:=by intro _;rfl):PE X (.ListComp elt [⟨tg,iter,ifs,0⟩] sc pos) (sA wi g tc te ts js):=by
 intro η s σ H Q I h;rw[eval_ListComp];refine wpAny_comprehension_free (use:=Θ) rfl hs (mX (B.cl I.ok)) B.kind B.names (bG (hi η s σ H _ I h) λv s1 h1=>bG h1 λLS s2 h2=>?_);obtain⟨it,fp,tn,J,H2,e,I2,T,aF,f2,rS⟩:=h2;subst e;have xT:H2 s2.heap.objs.size=Θ:=I2.aJ.fresh (P8 _);obtain⟨W,⟨m0,w0⟩,turn⟩:=rS s2.heap.objs.size xT;refine QH (Sy B.dH (by intro y hy;simp at hy) (λcI u0 u4=>?_) B.kind);obtain⟨s3,EY⟩:∃s3:Qd,({s2 with heap:=s2.heap.push {cls:=.type "list",dict:=Θ,data:=.seq ([]:List Value).toArray}}:Qd)=s3:=⟨_,rfl⟩;have e3:s3.heap=s2.heap.push {cls:=.type "list",dict:=Θ,data:=.seq ([]:List Value).toArray}:=by rw[<-EY]
 have u5:cI.Ns s3.heap.objs.size λx=>([]:List (Str×Value)).reverse.lookup x:=by rw[e3];exact u0
 have u6:RO s3.heap.objs.size (s3.heap.push {cls:=.type (if(Δ X.env).isSome then "dict" else "frame"),data:=.dict #[]}) cI:=by rw[e3];exact u4
 have I3:Inv X η σ (upd H2 s2.heap.objs.size (.lst [])) s3:=by rw[<-EY];exact I2.laid (t':=s2.toks) (λb u e=>P0 _ e) (P8 _) ⟨R6 _,[],0,.nil,Qe _ rfl⟩
 have Jp:∀b∈fp,b < s2.heap.objs.size:=λb hb=>by obtain⟨o,e,_⟩:=T.obj _ _ aF b hb;exact Qc e
 have f3:∀b∈fp,i6 X η (upd H2 s2.heap.objs.size (.lst [])) b:=λb hb=>⟨by rw[av (Qt (Jp b hb))];exact(f2 b hb).1,(f2 b hb).2⟩;have Np:s2.heap.objs.size < s3.heap.objs.size:=by rw[e3,Q3];exact Rk _
 have Jq:∀b∈fp,b < s3.heap.objs.size:=λb hb=>TY (Jp b hb) Np;have k1:∀b o,s3.heap.get? b=Δ o->cI.get? b=Δ o:=λb o e=>u6.extBut b o (Qt (Qc e)) (P0 _ e);have IB:=I3.block (tk:=s3.toks+([]:List (Str×Value)).length) (N:=N) B f3 Jq u5 k1;have jv:tn 0 cI:=T.keep _ _ _ aF λb hb o e=>k1 b o (by rw[e3];exact P0 _ e);have mM:∀{H':Hp},(∀b∈fp,H' b=Θ)->∀b∈fp,i6 (ja X η N sc fp s3.heap.objs.size s3 (upd H2 s2.heap.objs.size (.lst []))) [] H' b:=λhn b hb=>⟨hn b hb,Qt (Jq b hb),I3.Nm (f3 b hb),.inl hb,λx c h=>(f3 b hb).2.2.2.2.1 x c (B.get I3.ok h),λp hp=>(f3 b hb).2.2.2.2.2 p (by simpa[ja] using hp)⟩;have loop:TC (model X.prog X.w) X.A (.compLoop (.ListComp elt [⟨tg,iter,ifs,0⟩] sc pos) 0 (.ref it) (.ref s2.heap.objs.size) (compEnvC sc (cN X.env sc.names []) s3.heap.objs.size X.env))
   (compPost (model X.prog X.w) X.A X.xe Θ (EP X η σ Q) (.ref s2.heap.objs.size) s3.heap.objs.size) {s3 with heap:=cI,toks:=s3.toks+([]:List (Str×Value)).length}:=by
  refine pJ (λn s'=>∃i τ H',Inv (ja X η N sc fp s3.heap.objs.size s3 (upd H2 s2.heap.objs.size (.lst []))) [] τ H' s'/\tn i s'.heap/\(∀b∈fp,H' b=Θ)/\W i n τ H') ?_ m0
   ⟨0,fB ts js σ,_,IB,jv,λb hb=>(f3 b hb).1,w0⟩
  rintro n s5 ⟨i,τ,H5,I5,uI,Et,w5⟩;rcases turn i n τ H5 w5 with ⟨stop,qn⟩|⟨go,step⟩
  ·refine bG (T.done (ja X η N sc fp s3.heap.objs.size s3 (upd H2 s2.heap.objs.size (.lst []))) rfl rfl rfl hc i [] s5 τ H5 (λ_ _=>False) I5 (mM Et) uI stop) λr s6 ⟨hr,I6⟩=>?_;subst hr;obtain⟨m,hn,_⟩:=I6.loc;exact⟨m,hn,λh' Br=>⟨.ref s2.heap.objs.size,H5,I3.sC f3 I6 Br,rfl,qn⟩⟩
  ·refine bG (T.item (ja X η N sc fp s3.heap.objs.size s3 (upd H2 s2.heap.objs.size (.lst []))) rfl rfl rfl hc i [] s5 τ H5 (λ_ _=>False) I5 (mM Et) uI go) λr s6 ⟨u,hr,h6⟩=>?_;subst hr;refine bG h6 λ_ s7 ⟨x,H7,I7,r7,y7,EZ,Nq⟩=>?_;have Nr:=I7.pinned (mM Nq) (T.obj _ _ EZ);refine bG (hg _ _ _ _ _ _ s7 τ H7 x u _ Nr r7 (step x H7 y7)) λ_ s8 ⟨B6,H8,I8,q8⟩=>?_;refine bG (ht _ _ _ _ _ _ s8 B6 H8 _ I8 q8) λok s9 ⟨H9,I9,q9⟩=>?_;have again:∀{s':Qd} {B7:St} {H':Hp},Inv (ja X η N sc fp s3.heap.objs.size s3 (upd H2 s2.heap.objs.size (.lst []))) ([]++kA fp s7.heap) B7 H' s'->(∃m',m' < n/\W (i+1) m' B7 H')->
     ∃m,m < n/\∃i τ H',Inv (ja X η N sc fp s3.heap.objs.size s3 (upd H2 s2.heap.objs.size (.lst []))) [] τ H' s'/\tn i s'.heap/\(∀b∈fp,H' b=Θ)/\W i m τ H':=λ{s' B7 H'} I' ⟨m',hm,w'⟩=>by
    refine⟨m',hm,i+1,B7,H',I'.fQ,T.keep _ _ _ EZ λb hb o e=>(I'.pin (b,o) (Qk _ (Qk _ (cU hb e)))).1,λb hb=>?_,w'⟩;obtain⟨o,e,d⟩:=T.obj _ _ EZ b hb;exact(I'.pin (b,o) (Qk _ (Qk _ (cU hb e)))).2.1
   cases ok with|false=>exact again I9 q9|true=>refine bG (he _ _ _ _ _ _ s9 B6 H9 _ I9 q9) λxv Nt ⟨y,Nu,Nv,Nw,ys,ha,hz,Nx⟩=>?_;refine bG (kH _ Nt B6 Nu (.ref s2.heap.objs.size) [y] (.ref s2.heap.objs.size) [xv] (λ_ H'=>∃m',m' < n/\W (i+1) m' B6 H') Nv rfl (.cons Nw .nil) ⟨_,ys,y,rfl,rfl,ha,hz,Nx⟩) λ_ s11 ⟨_,H11,Ny,_,Nz⟩=>?_;exact again Ny Nz
 subst EY;exact codeAny_compStart_list loop (T.self _ 0 _ _ _ jv loop)
end
end L2
namespace L2
open PySem
end L2
namespace L2
open PySem PySem.Spec PyProof.Rows PySem.SeqAt
open PySem.AutoSeq1 (wpAny_loadPart')
def bO(t T:String):Bool:=t==T||(t=="bool"&&T=="int")
noncomputable def Jr(H:Hp):V->Option String
 |.bu=>Δ "NoneType"|.bl _=>Δ "bool"|.int _=>Δ "int"|.str _=>Δ "str"|.ref a=>match H a with|some (.lst _)=>Δ "list"|some (.tup _)=>Δ "tuple"|_=>Θ
 |_=>Θ
theorem E1(h:Jr H v=Δ t):t="NoneType"\/t="bool"\/t="int"\/t="str"\/t="list"\/t="tuple":=by
 cases v with
 |ref a=>
  unfold Jr at h;simp only at h;split at h<;>first
   |(cases h;simp)
   |cases h
 |_=>first
  |(cases h;simp)
  |cases h
theorem B8{K:P5}(h:Jr H v=Δ t):i8 K H v (.type t):=by
 cases v with
 |bu=>cases h;exact .bu|bl b=>cases h;exact .bl b|int i=>cases h;exact .int i|str x=>cases h;exact .str x|ref a=>
  unfold Jr at h;simp only at h;split at h;·rename_i xs e;cases h;exact .lst e
  ·rename_i xs e;cases h;exact .tup e
  ·cases h
 |_=>cases h
theorem mo K(ht:t="NoneType"\/t="bool"\/t="int"\/t="str"\/t="list"\/t="tuple")(hT:T="int"\/T="bool"\/T="tuple"\/T="str"\/T="list"):
  RE K (.type t) (.type T)=Δ (bO t T):=by
 rcases ht with rfl|rfl|rfl|rfl|rfl|rfl<;>rcases hT with rfl|rfl|rfl|rfl|rfl<;>first
  |rfl
  |kernel_rfl
section
variable{X:Cx}
theorem aW(h:H p=Θ)o:fS H (upd H p o):=λb u q=>by rw[av (aL q h)];exact q
def DJ:R2:=λx y H Q=>∃a b xs ys,x=.ref a/\y=.ref b/\H a=Δ (.tup xs)/\H b=Δ (.tup ys)/\xs.length+ys.length<=Qi/\∀r H',fS H H'->H' r=Δ (.tup (xs++ys))->Q (.ref r) H'
theorem B9:gI X (RT .Add) DJ:=by
 intro η s σ H x y v u Q I rx ry h;obtain⟨a,b,xs,ys,rfl,rfl,ha,hb,hz,q⟩:=h;cases rx;cases ry;obtain⟨aC,r1,p1,_⟩:=I.tuple (de.of ha);obtain⟨zr,r2,p2,_⟩:=I.tuple (de.of hb);by_cases hx:xs=[]
 ·subst hx;cases r1;obtain⟨⟨cls,dd,data,sl⟩,ho,hc,n,hd⟩:=id p1;obtain⟨⟨M8,LX,data2,LY⟩,Bp,IX,n2,hd2⟩:=id p2;simp only at hc hd IX hd2;subst hc hd IX hd2;exact Vh ⟨_,ho,rfl⟩ ⟨_,Bp,rfl⟩ Uy Vb Tb S5 (SQ _ _)
   (tuple_addW0 a b ([]:List Value).toArray zr.toArray n n2 dd LX sl LY (by simp)) ⟨ho,Bp,⟨.ref b,H,I,rfl,q b H (fS.refl H) hb⟩⟩
 ·refine BW η s σ H (.ref a) (.ref b) _ _ Q I rfl rfl ⟨a,b,xs,ys,rfl,rfl,de.of ha,de.of hb,hx,hz,λe=>?_,λe p hp=>?_⟩;·subst e;exact q a H (fS.refl H) (by rw[QK];exact ha)
  ·exact q p _ (aW hp _) aA
theorem iM{lo hi:Option Int}(ht:IsTup s.heap t items)(hs:s.heap.IsSliceOf sl vl vu .none)(pl:UP vl lo)(pu:UP vu hi)(hw:HT.cw items.size 0 lo=0/\HT.cw items.size items.size hi=items.size)(h:Q (.ref t) s):wpAny (model prog w) A (SR (.ref t) (.ref sl)) Q E s:=by
 obtain⟨os,xH,EI,Bq⟩:=id hs;have IY:s.TypeIs (.ref sl) "slice":=⟨os,xH,EI⟩;unfold SR;try with_reducible refine RQ ?_
 first|refine PY (P4 ?_)|skip
 refine PY (Ug ht.typeIs (by decide) ?_);refine PY (QI (name:=Qs "__getitem__") ht.typeIs QP
  (QW QP ht.typeIs TQ ?_ (T8 _ _)))
 show wpAny _ _ (SD (.ref t) >>=_) _ _ s;refine PY (Va ht ?_);refine PY (TU IY ?_);rw[if_pos (by decide)];refine PY (HT.fR hs pl pu ?_);have NA:(((HT.cw items.size 0 lo:Nat):Int)==0&&(1:Int)==1&&(HT.cw items.size items.size hi - HT.cw items.size 0 lo)==items.size)=Λ:=by rw[hw.1,hw.2];simp
 show wpAny _ _ (if(((HT.cw items.size 0 lo:Nat):Int)==0&&(1:Int)==1&&(HT.cw items.size items.size hi - HT.cw items.size 0 lo)==items.size)=Λ then _ else _) _ _ s;rw[if_pos NA];refine PY ?_;unfold Tj.Tuple.tupleIsExact;refine PY (TU ht.typeIs (P4 ?_));rw[if_pos (by decide)];first
  |exact PY (Tq (PY (P4 (P4 ⟨_,rfl,P4 h⟩))))
  |exact PY (Tq (P4 ⟨_,rfl,P4 h⟩))
  |exact PY (Tq (P4 (P4 ⟨_,rfl,P4 h⟩)))
def Js:V->Option Int->Option Int->Hp->VK->Prop:=λx lo hi H Q=>∃a xs,x=.ref a/\H a=Δ (.tup xs)/\∀r H',fS H H'->H' r=Δ (.tup (kG xs lo hi))->Q (.ref r) H'
theorem Ca:DD X Js:=by
 intro η s σ H x v vl vu lo hi sl Q I rx hs pl pu h;obtain⟨a,xs,rfl,ha,q⟩:=h;cases rx;by_cases hw:HT.cw xs.length 0 lo=0/\HT.cw xs.length xs.length hi=xs.length
 ·obtain⟨aC,r,ht,hz⟩:=I.tuple (de.of ha);have hlen:aC.toArray.size=xs.length:=by rw[P9];exact r.length.symm
  refine⟨"tuple",_,QP.lookup,ht.typeIs,?_⟩;refine iM ht hs pl pu (by rw[hlen];exact hw) ⟨.ref a,H,I,rfl,q a H (fS.refl H) ?_⟩;have e:kG xs lo hi=xs:=by unfold kG;rw[hw.1,hw.2];simp
  rw[e];exact ha
 ·exact EK η s σ H (.ref a) _ vl vu lo hi sl Q I rfl hs pl pu ⟨a,xs,rfl,de.of ha,hw,λp hp=>q p _ (aW hp _) aA⟩
theorem kL{n:Nat}(hs:s.heap.IsSliceOf sl .none .none (.int (-1) tk))(h:Q ((n:Int) - 1, -1,n) s):wpAny (model prog w) A (RX (.ref sl) (pure (n:Int))) Q E s:=by
 obtain⟨os,xH,EI,Bq⟩:=id hs;unfold RX Tj.Slice.sliceFields;refine PY (PY (QM xH Bq (x:=.none) rfl (PY (QM xH Bq (x:=.none) rfl (PY (QM xH Bq (x:=.int (-1) tk) rfl (P4 ?_)))))));refine PY (slicePart_int ?_);show wpAny _ _ (if((-1:Int)==0)=Λ then _ else _) _ _ s;rw[if_neg (by decide)];refine PY (T6 (PY (T6 (PY (P4 ?_)))));have e1:Q7 Θ Θ (-1) (n:Int)=((n:Int) - 1, -1):=by unfold Q7;simp
 have e2:QL ((n:Int) - 1) (-1) (-1)=n:=by
  unfold QL;have h1:¬((-1:Int) > 0):=by decide
  simp only[h1,if_false];have h2:(-(-1):Int)=1:=by decide
  rw[h2,Int.ediv_one];split<;>lia
 show wpAny _ _ (match Q7 Θ Θ (-1) (n:Int) with|(lo,hi)=>pure (lo,(-1:Int),QL lo hi (-1))) _ _ s;rw[e1];show wpAny _ _ (pure ((n:Int) - 1,(-1:Int),QL ((n:Int) - 1) (-1) (-1))) _ _ s;rw[e2];exact P4 h
theorem sD{α β:Type}{f g:α->Option β}:∀{l:List α},(∀x∈l,f x=g x)->l.filterMap f=l.filterMap g
 |[],_=>rfl|a::r,h=>by rw[Ru,Ru,h a P7,sD λx hx=>h x (P6 _ hx)]
theorem zB(xs:Array Value):((Rq xs.size).filterMap λ(m:Nat)=>xs[((xs.size:Int) - 1+(m:Int)*(-1)).toNat]?).toArray=xs.toList.reverse.toArray:=by
 congr 1;have e:((Rq xs.size).filterMap λ(m:Nat)=>xs[((xs.size:Int) - 1+(m:Int)*(-1)).toNat]?)=((Rq xs.size).map λk=>xs.size - 1 - k).filterMap λm=>xs[m]?:=by
  rw[List.filterMap_map];refine sD λm hm=>?_;have hm':=List.mem_range.mp hm;have:((xs.size:Int) - 1+(m:Int)*(-1)).toNat=xs.size - 1 - m:=by lia
  rw[this];rfl
 rw[e,PySem.W.krv_range,List.filterMap_reverse,PySem.W.krv_all]
theorem jM(ht:IsTup s.heap t items)(hs:s.heap.IsSliceOf sl .none .none (.int (-1) tk))(hsz:items.size<=Qi)(h:Q (.ref s.heap.objs.size) {s with heap:=s.heap.push {cls:=.type "tuple",data:=.seq items.toList.reverse.toArray}}):wpAny (model prog w) A (SR (.ref t) (.ref sl)) Q E s:=by
 have jE:sizeOk (.seq items.toList.reverse.toArray):=by show items.toList.reverse.toArray.size<=Qi;rw[P9,List.length_reverse,Rv];exact hsz
 obtain⟨os,xH,EI,Bq⟩:=id hs;have IY:s.TypeIs (.ref sl) "slice":=⟨os,xH,EI⟩;unfold SR;try with_reducible refine RQ ?_
 first|refine PY (P4 ?_)|skip
 refine PY (Ug ht.typeIs (by decide) ?_);refine PY (QI (name:=Qs "__getitem__") ht.typeIs QP
  (QW QP ht.typeIs TQ ?_ (T8 _ _)))
 show wpAny _ _ (SD (.ref t) >>=_) _ _ s;refine PY (Va ht ?_);refine PY (TU IY ?_);rw[if_pos (by decide)];refine PY (kL hs ?_);show wpAny _ _ (if((((items.size:Nat):Int) - 1)==0&&(-1:Int)==1&&items.size==items.size)=Λ then _ else _) _ _ s;rw[if_neg (by simp),zB];first
  |exact PY (m:=QC _) (QH (P4 ⟨_,rfl,P4 h⟩) jE)
  |exact PY (m:=QC _) (QH (PY (P4 (P4 ⟨_,rfl,P4 h⟩))) jE)
  |exact PY (PY (m:=QC _) (QH (P4 (P4 ⟨_,rfl,P4 h⟩)) jE))
  |exact PY (PY (m:=QC _) (QH (P4 ⟨_,rfl,P4 h⟩) jE))
def NB(te tk:TE):TE:=λσ H Q=>te σ H λx H1=>tk σ H1 λk H2=>∃a xs,x=.ref a/\k=.int (-1)/\H2 a=Δ (.tup xs)/\∀p,H2 p=Θ->Q (.ref p) (upd H2 p (.tup xs.reverse))
theorem Cb{e st:Expr}(he:PE X e te)(hk:PE X st tk):PE X (.Subscript e (.Slice Θ Θ (Δ st) p2) pos) (NB te tk):=by
 intro η s σ H Q I h;refine Subscript_ (bG (he η s σ H _ I h) λv s1 ⟨x,H1,I1,r1,q1⟩=>?_);refine wpAny_Slice ?_;rw[Vc,evalPart_some];refine P4 (P4 (bG (hk η s1 σ H1 _ I1 q1) λkv s3 ⟨k,H3,I3,rk,a,xs,ex,ek,ha,q⟩=>?_));subst ex ek;obtain⟨L7,rfl⟩:=rk;cases r1;have I4:Inv X η σ H3 {s3 with heap:=s3.heap.push {cls:=.type "slice",data:=.fields #[.none,.none,.int (-1) L7]}}:=I3.kept (t':=s3.toks) λb ob q=>P0 _ q;obtain⟨aC,r,ht,hz⟩:=I4.tuple (de.of ha);have hlen:aC.toArray.size=xs.length:=by rw[P9];exact r.length.symm
 show wpAny (model X.prog X.w) X.A (TB e (.Slice Θ Θ (Δ st) p2) (.ref a) (.ref s3.heap.objs.size)) (EP X η σ Q) X.xe {s3 with heap:=s3.heap.push {cls:=.type "slice",data:=.fields #[.none,.none,.int (-1) L7]}};refine tail_any (ops:=[.ref a,.ref s3.heap.objs.size]) ht.typeIs QP.lookup (jM ht (Heap.IsSliceOf.new ..) (by rw[hlen];exact hz) ?_) (by with_unfolding_all rfl);refine⟨.ref _,_,I4.laid (t':=s3.toks) (o:=.tup xs.reverse) (λb ob q=>P0 _ q) (P8 _) ?_,rfl,q _ (I4.aJ.fresh (P8 _))⟩;exact⟨by rw[List.length_reverse];exact hz,_,r.reverse,UH _ _⟩
theorem dI:fillsNumberSlot (.type "tuple") "mul"=pure Ξ:=
 PySem.fillsNumberSlot_seq (id:="tuple.__mul__") (r:=Δ (.builtin "tuple.__rmul__")) Ta.lookup (by decide+kernel) PySem.F.slot_tuple_rmul.lookup (by decide+kernel)
theorem gv:seqRepeat? (.type "tuple")=pure (Δ (.builtin "tuple.__mul__")):=by unfold seqRepeat?;rw[PySem.seqSlot_of (T:="tuple") (name:="__mul__") (id:="tuple.__mul__") Ta.lookup (by decide+kernel),PySem.seqSlot_of (T:="tuple") (name:="__rmul__") (id:="tuple.__rmul__") PySem.F.slot_tuple_rmul.lookup (by decide+kernel)];rfl
theorem e8 a t l items n d sl:
  Meets (Tj.«int.__rmul__» ⟨[.int a t,.ref l],[]⟩) (λ_ R s=>s.heap.get? l=Δ {cls:=.type "tuple",dict:=d,data:=.seq items n,slots:=sl}/\R (.ok (.ret Value.notImplemented)) s):=
 .of_wp λprog w A R s h=>by obtain⟨hp,g,d,tk,os⟩:=s;obtain⟨hl,h⟩:=h;wp_walk;exact⟨_,rfl,h⟩
theorem u7 l items n d sl u(mY:¬items.isEmpty=Λ)(hz:items.size*2<=1000000):
  Meets (Tj.«tuple.__mul__» ⟨[.ref l,.int 2 u],[]⟩) (λ_ R s=>s.heap.get? l=Δ {cls:=.type "tuple",dict:=d,data:=.seq items n,slots:=sl}/\
   R (.ok (.ret (Qr s.heap.objs.size))) {s with heap:=s.heap.push {cls:=So "tuple",data:=Data.seq (#[]++items++items)},toks:=s.toks}):=
 .of_wp λprog w A R s h=>by
  obtain⟨hp,g,dr,tk,os⟩:=s;obtain⟨hl,h⟩:=h;have f1:=UJ;have h1:¬((items.size:Int)*2 > (2 ^ 63 - 1) / 8):=by lia
  have h2:¬Q4 ((items.size:Int)*2)=Λ:=by
   unfold Q4;simp[Qi]
   lia
  have h3:(items.isEmpty||(2:Int)==1)=Ξ:=by simpa using mY
  have h4:((2:Int)<=0||items.isEmpty)=Ξ:=by simpa using mY
  wp_walk using Rg hl
  rw[if_neg h1];show wpAny _ _ (if Q4 ((items.size:Int)*2)=Λ then _ else _) _ _ _;rw[if_neg h2];have hsz:sizeOk (.seq (Ub (λx1 x2=>x1++x2) #[] (Rb (UI 2) items))):=by
   show(Ub (λx1 x2=>x1++x2) #[] (Rb (UI 2) items)).size<=Qi;show(#[]++items++items).size<=Qi;simp[Qi]
   lia
  show wpAny _ _ (QC (Ub (λx1 x2=>x1++x2) #[] (Rb (UI 2) items)) >>=λv=>ret v) _ _ _;exact PY (m:=QC _) (QH (P4 ⟨_,rfl,h⟩) hsz)
def DK:R2:=λx y H Q=>∃a xs,x=.ref a/\y=.int 2/\H a=Δ (.tup xs)/\xs≠[]/\xs.length<=100000/\∀p,H p=Θ->Q (.ref p) (upd H p (.tup (xs++xs)))
theorem zC:gI X (RT .Mult) DK:=by
 intro η s σ H x y v u Q I rx ry h;obtain⟨a,xs,rfl,rfl,ha,mY,hz,q⟩:=h;cases rx;obtain⟨t,rfl⟩:=ry;obtain⟨aC,r,ht,HE⟩:=I.tuple (de.of ha);have hl:=r.length;obtain⟨⟨cls,dd,data,sl⟩,ho,hc,n,hd⟩:=id ht;simp only at hc hd;subst hc hd;have E2:¬aC.toArray.isEmpty=Λ:=by
  intro z;have:aC=[]:=by simpa using z
  exact mY (r.jF.mp this)
 refine SJ (T:="tuple") (U:="int") (by decide) ⟨_,ho,rfl⟩ (λs'=>Tr s' 2 t) dI To Ry gv PySem.F.slot_int_index.lookup
  (SV Ry (Tr s 2 t) Tc (S6 _ _) (e8 2 t a aC.toArray n dd sl)
   ⟨ho,rfl,⟨_,ho,rfl⟩,SV Ta ⟨_,ho,rfl⟩ S4 (SO _ _)
    (u7 a aC.toArray n dd sl t E2 (by rw[P9];lia)) ⟨ho,?_⟩⟩)
 refine⟨.ref s.heap.objs.size,_,I.laid (t':=s.toks) (o:=.tup (xs++xs)) (λb ob q=>P0 _ q) (P8 _) ?_,rfl,q _ (I.aJ.fresh (P8 _))⟩;refine⟨by rw[Qp,Q0];lia,aC++aC,r.append r,?_⟩;have e:(#[]++aC.toArray++aC.toArray:Array Value)=(aC++aC).toArray:=by simp
 rw[e];exact UH _ _
noncomputable def lG:List (Str×Int)->Str->Option Int
 |[],_=>Θ|(y,i)::r,x=>if x=y then Δ i else lG r x
noncomputable def sE:List DictEntry->Option (List (Str×Int))
 |[]=>Δ []|⟨_,.str x _,.int i _⟩::r=>(sE r).map λD=>(x,i)::D|_=>Θ
def E3(o:Obj):Option (List (Str×Int)):=match o with|⟨.type t,Θ,.dict es _,sl⟩=>if t="dict"/\sl=#[] then sE es.toList else Θ|_=>Θ
open PyProof.Rows.KTD in
theorem mZ:∀{es} {D},sE es=Δ D->PyProof.Rows.KTD.Rows (Dat.At h) es (D.map λp=>(p.1,Dat.flat (.int p.2)))
 |[],D,e=>by cases e;exact .nil|⟨hs,k,v⟩::r,D,e=>by
  cases k<;>first
   |(cases e;done)
   |skip
  rename_i x t;cases v<;>first
   |(cases e;done)
   |skip
  rename_i i u;have e':(sE r).map (λD=>(x,i)::D)=Δ D:=e;cases hr:sE r with|none=>rw[hr] at e';cases e'|some D'=>rw[hr] at e';cases e';exact .cons rfl (PyProof.V.Flat.int i u) (mZ hr)
structure zD(K:P5)(a:Addr)(D:List (Str×Int)):Prop where
 low:(a==Ri)=Ξ
 at_:∃o,K.lookup a=Δ o/\E3 o=Δ D
theorem zD.text{K:P5}(T:zD K a D)(X:K.In h):PyProof.Rows.KTD.TextTab h a (D.map λp=>(p.1,RZ (.int p.2))):=by
 obtain⟨lo,o,lk,e⟩:=T;refine⟨lo,o,?_⟩;obtain⟨c,d,dt,sl⟩:=o;unfold E3 at e;split at e
 ·rename_i t es ep sl' he;injection he with h1 h2 h3 h4;subst h1 h2 h3 h4;split at e;·rename_i hc;obtain⟨rfl,rfl⟩:=hc;exact⟨es,ep,X _ _ lk,⟨rfl,rfl,rfl⟩,rfl,mZ e⟩
  ·cases e
 ·cases e
theorem wG:∀{D},(match lG D k with|some i=>∀t,P (.int i t)|none=>els)->PyProof.Rows.KTD.Each h k P els (D.map λp=>(p.1,RZ (.int p.2)))
 |[],q=>q|(y,i)::r,q=>by
  show if decide (k=y)=Λ then _ else _
  unfold lG at q;by_cases e:k=y;·rw[if_pos e] at q;rw[decide_eq_true e,if_pos rfl];exact q
  ·rw[if_neg e] at q;rw[decide_eq_false e,if_neg QF];exact wG q
def Cd(a:Addr)(D:List (Str×Int))(td ty:TE):TE:=λσ H Q=>td σ H λx H1=>x=.ref a/\ty σ H1 λy H2=>∃k,y=.str k/\Q (match lG D k with|some i=>.int i|none=>.bu) H2
theorem xU(tb:zD X.K a D)(ho:PE X o td)(he:PE X e ty)(m:M1 X o "get" apos e cf:=by exact⟨rfl,rfl,rfl,rfl⟩):PE X (.Call (.Attribute o "get" apos) [e] [] cf) (Cd a D td ty):=by intro η s σ H Q I h;refine Ui m.base m.L3 m.line Si PySem.F.slot_dict_get PySem.F.type_dict_get (bG (ho η s σ H _ I h) λu s1 ⟨x,H1,I1,rx,ex,q1⟩=>?_);subst ex;obtain rfl:u=Qr a:=rx;have T1:PyProof.Rows.KTD.Here X.base s1.heap a (D.map λp=>(p.1,RZ (.int p.2))):=⟨tb.text I1.mod.wj,I1.bk⟩;refine⟨T1.typeIs,T1.noDict,?_⟩;rw[m.trees];refine Rt rfl (R8 (RV (bG (he η s1 σ H1 _ I1 q1) λiv s2 ⟨y,H2,I2,ry,k,ek,q2⟩=>Sx ?_)));subst ek;obtain⟨tk,rfl⟩:=ry;have T2:PyProof.Rows.KTD.Here X.base s2.heap a (D.map λp=>(p.1,RZ (.int p.2))):=⟨tb.text I2.mod.wj,I2.bk⟩;refine PyProof.Rows.KTD.get1_text T2 (wG ?_);cases hk:lG D k with|none=>rw[hk] at q2;exact⟨.bu,H2,I2.tok _,rfl,q2⟩|some i=>rw[hk] at q2;exact λt=>⟨.int i,H2,I2.tok _,⟨t,rfl⟩,q2⟩
end
end L2
namespace L2
open PySem PySem.Spec PyProof.Rows PySem.SeqAt
open PySem.AutoSeq1 (wpAny_loadPart')
section
variable{X:Cx}
theorem any_range(bs:List Bool):(Rq bs.length).any (λi=>bs.getD i Λ)=bs.any id:=by
 rw[Bool.eq_iff_iff];simp only[SI,List.mem_range,id];constructor;·rintro⟨i,hi,h⟩;rw[Rr,Qh hi] at h;exact⟨bs[i],UE hi,by simpa using h⟩
 ·rintro⟨b,hb,h⟩;obtain⟨i,hi,e⟩:=List.mem_iff_getElem.mp hb;refine⟨i,hi,?_⟩;rw[Rr,Qh hi];simpa[e] using h
theorem xV(hc:X.calm=Λ):dD X (.builtin "any") (λxs H Q=>∃(p:Addr) (bs:List Bool),xs=[.ref p]/\ir X.K H p (bs.map V.bl)/\Q (.bl (bs.any id)) H):=by
 intro η s σ H xs us Q I r h;obtain⟨p,bs,rfl,hq,q⟩:=h;obtain⟨u,rfl,rx⟩:=vals1 r;cases rx;obtain⟨aC,rv,pl,hz⟩:=I.list hq;have hl:=rv.length;rw[Qv] at hl;have fD:p < s.heap.objs.size:=by obtain⟨o,n,e,_⟩:=pl;exact Qc e
 refine call_any_walk (wpAny_pyIter_list pl.isList ?_);refine⟨s.heap.objs.size,_,_,aC.toArray.size,_,_,λi=>bs.getD i Λ,rfl,Walks.list (A:=X.A.in1) (show X.A.in1.handled=Θ from I.ok.hd hc) s.heap.objs.size p (Qt fD) aC.toArray,⟨⟨_,Qe _ rfl,rfl,rfl⟩,?_⟩,?_,?_⟩;·obtain⟨o,e,c⟩:=pl.isList;exact⟨o,P0 _ e,c⟩
 ·intro i v s' Q' E' hP hQ;have hP':aC[i]?=Δ v:=by simpa using hP
  have hi:i < aC.length:=(qqz hP').1;have hb:(bs.map V.bl)[i]?=Δ (V.bl (bs.getD i Λ)):=by rw[QA,Qh (by lia),Rr,Qh (by lia)];rfl
  obtain⟨u,hu,ru⟩:=rv.get hb;rw[hP'] at hu;cases hu;cases ru;exact Rn hQ
 ·intro h' tk hk;refine⟨.bl (bs.any id),H,I.kept (t':=tk) (λb o e=>hk b o (by simpa using Qt (Qc e)) (P0 _ e)),?_,q⟩;show SX _=SX _;rw[P9,<-hl,any_range]
theorem l0(hd:(d==Ri)=Ξ)(ho:∀s:Qd,s.heap.get? d=Δ o->True):
  MeetsIn prog w (Tj.«dict.__len__» ⟨[.ref d],[]⟩) (λ_ R s=>(s.heap.get? d=Δ o/\o.ExactDict/\o.data=.dict es ep)/\R (.ok (.ret (.int es.size s.toks))) {s with toks:=s.toks+1}):=
 .of_wp λA R s ⟨⟨ho,hc,E4⟩,h⟩=>by show wpAny _ _ (dictSize d >>=_) _ _ s;unfold dictSize;refine PY (PY (wpAny_dictEntries ho E4 (P4 ?_)));show wpAny _ _ (Tj.Dict.pendingCount d >>=_) _ _ s;refine PY (wpAny_pendingCount_other hd ?_);refine wpAny_ret_mkInt ?_;rw[Nat.add_zero];exact h
theorem qB(hd:(d==Ri)=Ξ)(ho:s.heap.get? d=Δ o)(hc:o.ExactDict)(E4:o.data=.dict es ep)(hfit:(es.size:Int) < 2 ^ 63)(h:Q (.int es.size (s.toks+1)) {s with toks:=s.toks+1+1}):wpAny (model prog w) A (call (.builtin "len") [.ref d]) Q E s:=by
 have hT:s.TypeIs (.ref d) "dict":=⟨o,ho,hc.1⟩;refine Calls.call_function_entry kind_len plain_len entry_len (args_len1 _) ?_;unfold Tj.«len»;refine PY (m:=oneArg "len" _) (P4 ?_);refine PY (m:=callSpecial? (.ref d) (Qs "__len__")) (QI (name:=Qs "__len__") hT F.slot_dict_len
  (TV F.slot_dict_len hT F.entry_dict_len (F.args_dict_len_1 _) (l0 (o:=o) (es:=es) (ep:=ep) hd λ_ _=>trivial) ⟨⟨ho,hc,E4⟩,?_⟩))
 show wpAny _ _ _ _ _ {s with toks:=s.toks+1};refine PY (RQ (P4 ?_));refine PY (Uh ?_);show wpAny _ _ (if((es.size:Nat):Int) < 0 then _ else _) _ _ _;rw[if_neg (by lia)];show wpAny _ _ (if((es.size:Nat):Int)>=2 ^ 63 then _ else _) _ _ _;rw[if_neg (by lia)];exact PY (wpAny_mkInt (P4 ⟨_,rfl,h⟩))
def Jt(H:Hp)(a:Addr)(n:Nat):Prop:=(∃kvs,Rd H a (.dK kvs)/\kvs.length=n)\/∃kvs,Rd H a (.dT kvs)/\kvs.length=n
theorem qC:dD X (.builtin "len") (λxs H Q=>∃p n,xs=[.ref p]/\Jt H p n/\Q (.int n) H):=by
 intro η s σ H xs us Q I r h;obtain⟨p,n,rfl,hd,q⟩:=h;obtain⟨u,rfl,rx⟩:=vals1 r;cases rx;rcases hd with ⟨kvs,e,rfl⟩|⟨kvs,e,rfl⟩
 ·exact Ji I e λt s' I'=>⟨.int kvs.length,H,I',⟨t,rfl⟩,q⟩
 ·obtain⟨z,hd,xs,rel,o,es,ep,h1,h2,h3,h4,_⟩:=lD I.aJ e;have hl:es.size=kvs.length:=by
   have:es.toList.length=xs.length:=by rw[h4,Qv]
   rw[<-Rv,this,<-rel.length]
  refine qB hd h1 h2 h3 (by rw[Q0] at z;lia) ?_;rw[hl];exact⟨.int kvs.length,H,I.tok _,⟨_,rfl⟩,q⟩
theorem jN(hT:jA.TypeIs o "dict")(gW:wpAny (model prog w) A (SR o i) Q E jA)(hs:UY slice Ξ o i=operate [o,i] (SR o i)):wpAny (model prog w) A (TB value slice o i) Q E jA:=by
 unfold TB;refine PY ?_;rw[getitemInPython_of_ne hT.not_modules];refine PY (UR hT PySem.F.slot_dict_getitem.lookup ?_);have fin:wpAny (model prog w) A (UY slice Ξ o i) (λr oO=>wpAny (model prog w) A (letTemporaryGo value o r >>=λ_=>pure r) Q E oO) E jA:=by rw[hs];exact wpAny_operating (QS gW (λr oO fK=>PY (wpAny_letTemporaryGo (P4 fK))) λ_ _ x=>x)
 first
  |exact P4 (PY fin)
  |exact PY (P4 (PY fin))
  |exact PY fin
theorem sF:dD X (.type "range") (λxs H Q=>∃lo hi,(xs=[.int lo,.int hi]\/(lo=0/\xs=[.int hi]))/\∀p,H p=Θ->Q (.ref p) (upd H p (.jx lo hi))):=by
 intro η s σ H xs us Q I r h;obtain⟨lo,hi,hx,q⟩:=h;rcases hx with rfl|⟨rfl,rfl⟩;·obtain⟨u,w',rfl,rx,ry⟩:=vals2 r;obtain⟨t,rfl⟩:=rx;obtain⟨t',rfl⟩:=ry;refine call_range_2 ⟨.ref s.heap.objs.size,_,I.laid (a:=s.heap.objs.size) (o:=.jx lo hi) (λb o e=>P0 _ e) (P8 _) ⟨_,_,_,Qe _ rfl⟩,rfl,q _ (I.aJ.fresh (P8 _))⟩
 ·obtain⟨u,rfl,rx⟩:=vals1 r;obtain⟨t,rfl⟩:=rx;refine call_range_1 ⟨.ref s.heap.objs.size,_,I.laid (a:=s.heap.objs.size) (o:=.jx 0 hi) (λb o e=>P0 _ e) (P8 _) ⟨_,_,_,Qe _ rfl⟩,rfl,q _ (I.aJ.fresh (P8 _))⟩
noncomputable def u9(lo:Int)(n:Nat):List V:=(Rq n).map λk=>.int (lo+(k:Nat))
theorem zE{lo:Int}:∀{acc} {n},acc.length=n->(∀(j:Nat) v,acc[j]?=Δ v->∃t,v=.int (lo+j*1) t)->aM (u9 lo n) acc:=by
 intro acc n hl h
 suffices ∀(k:Nat) (eO:List Value),eO.length+k=n->(∀(j:Nat) v,eO[j]?=Δ v->∃t,v=.int (lo+((k+j:Nat):Int)) t)->aM ((List.range' k eO.length).map λi=>V.int (lo+(i:Nat))) eO by
  have q:=this 0 acc (by lia) λj v hj=>by obtain⟨t,e⟩:=h j v hj;exact⟨t,by rw[e];congr 1<;>simp⟩
  unfold u9;rw[List.range_eq_range',<-hl];exact q
 intro k eO;induction eO generalizing k with
 |nil=>intro _ _;exact .nil|cons x xs ih=>
  intro hn hx;rw[Qm,List.range'_succ,QD];refine .cons ?_ ?_;·obtain⟨t,e⟩:=hx 0 x rfl;exact⟨t,by rw[e];simp⟩
  ·refine ih (k+1) (by rw[Qm] at hn;lia) λj v hj=>?_;obtain⟨t,e⟩:=hx (j+1) v (by simpa using hj);exact⟨t,by rw[e];congr 1;lia⟩
theorem oP(hc:X.calm=Λ):dD X (.type "list") (λxs H Q=>∃p lo hi,xs=[.ref p]/\H p=Δ (.jx lo hi)/\(-(2 ^ 62)<=lo/\lo < 2 ^ 62/\ -(2 ^ 62)<=hi/\hi < 2 ^ 62)/\(hi - lo).toNat<=Qi/\
  ∀l,H l=Θ->Q (.ref l) (upd H l (.lst (u9 lo (hi - lo).toNat)))):=by
 intro η s σ H xs us Q I r h;obtain⟨p,lo,hi,rfl,hp,⟨h1,h2,h3,h4⟩,hz,q⟩:=h;obtain⟨u,rfl,rx⟩:=vals1 r;cases rx;obtain⟨t,u,v,e⟩:=(show bF X.prog X.w H s.heap p (.jx lo hi) from I.aJ p _ hp);refine call_list_range (n:=(hi - lo).toNat) (I.ok.hd hc) (show IsRange s.heap p lo hi 1 t u v from e) (small_one h1 h2 h3 h4) (by rw[rangeSize_one];split<;>lia) (by rw[Q0] at hz;lia) λh' tk eO c' hk hS E5=>?_;obtain⟨i1,i2⟩:=E5;have hv:aM (u9 lo (hi - lo).toNat) eO.toList:=zE (by rw[Rv];exact i1) λj v hj=>i2 j v (by simpa using hj);have hlen:=hv.length;refine⟨.ref s.heap.objs.size,_,I.laid (a:=s.heap.objs.size) (o:=.lst (u9 lo (hi - lo).toNat)) (t':=tk) hk (P8 _) ⟨by unfold u9;rw[Qv,Sw];exact hz,eO.toList,c',hv,by simpa using hS⟩,rfl,q _ (I.aJ.fresh (P8 _))⟩
theorem vc l items n d sl u(mY:¬items.isEmpty=Λ)(hz:items.size*3<=1000000):
  Meets (Tj.«tuple.__mul__» ⟨[.ref l,.int 3 u],[]⟩) (λ_ R s=>s.heap.get? l=Δ {cls:=.type "tuple",dict:=d,data:=.seq items n,slots:=sl}/\
   R (.ok (.ret (Qr s.heap.objs.size))) {s with heap:=s.heap.push {cls:=So "tuple",data:=Data.seq (#[]++items++items++items)},toks:=s.toks}):=
 .of_wp λprog w A R s h=>by
  obtain⟨hp,g,dr,tk,os⟩:=s;obtain⟨hl,h⟩:=h;have f1:=UJ;have h1:¬((items.size:Int)*3 > (2 ^ 63 - 1) / 8):=by lia
  have h2:¬Q4 ((items.size:Int)*3)=Λ:=by
   unfold Q4;simp[Qi]
   lia
  have h3:(items.isEmpty||(3:Int)==1)=Ξ:=by simpa using mY
  have h4:((3:Int)<=0||items.isEmpty)=Ξ:=by simpa using mY
  wp_walk using Rg hl
  rw[if_neg h1];show wpAny _ _ (if Q4 ((items.size:Int)*3)=Λ then _ else _) _ _ _;rw[if_neg h2];have hsz:sizeOk (.seq (Ub (λx1 x2=>x1++x2) #[] (Rb (UI 3) items))):=by
   show(Ub (λx1 x2=>x1++x2) #[] (Rb (UI 3) items)).size<=Qi;show(#[]++items++items++items).size<=Qi;simp[Qi]
   lia
  show wpAny _ _ (QC (Ub (λx1 x2=>x1++x2) #[] (Rb (UI 3) items)) >>=λv=>ret v) _ _ _;exact PY (m:=QC _) (QH (P4 ⟨_,rfl,h⟩) hsz)
def DM:R2:=λx y H Q=>∃a xs,x=.ref a/\y=.int 3/\H a=Δ (.tup xs)/\xs≠[]/\xs.length<=100000/\∀p,H p=Θ->Q (.ref p) (upd H p (.tup (xs++xs++xs)))
theorem zF:gI X (RT .Mult) DM:=by
 intro η s σ H x y v u Q I rx ry h;obtain⟨a,xs,rfl,rfl,ha,mY,hz,q⟩:=h;cases rx;obtain⟨t,rfl⟩:=ry;obtain⟨aC,r,ht,HE⟩:=I.tuple (de.of ha);have hl:=r.length;obtain⟨⟨cls,dd,data,sl⟩,ho,hc,n,hd⟩:=id ht;simp only at hc hd;subst hc hd;have E2:¬aC.toArray.isEmpty=Λ:=by
  intro z;have:aC=[]:=by simpa using z
  exact mY (r.jF.mp this)
 refine SJ (T:="tuple") (U:="int") (by decide) ⟨_,ho,rfl⟩ (λs'=>Tr s' 3 t) dI To Ry gv PySem.F.slot_int_index.lookup
  (SV Ry (Tr s 3 t) Tc (S6 _ _) (e8 3 t a aC.toArray n dd sl)
   ⟨ho,rfl,⟨_,ho,rfl⟩,SV Ta ⟨_,ho,rfl⟩ S4 (SO _ _)
    (vc a aC.toArray n dd sl t E2 (by rw[P9];lia)) ⟨ho,?_⟩⟩)
 refine⟨.ref s.heap.objs.size,_,I.laid (t':=s.toks) (o:=.tup (xs++xs++xs)) (λb ob q=>P0 _ q) (P8 _) ?_,rfl,q _ (I.aJ.fresh (P8 _))⟩;refine⟨by rw[Qp,Qp,Q0];lia,aC++aC++aC,(r.append r).append r,?_⟩;have e:(#[]++aC.toArray++aC.toArray++aC.toArray:Array Value)=(aC++aC++aC).toArray:=by simp
 rw[e];exact UH _ _
theorem vd l items n d sl u:
  Meets (Tj.«tuple.__mul__» ⟨[.ref l,.int 1 u],[]⟩) (λ_ R s=>s.heap.get? l=Δ {cls:=.type "tuple",dict:=d,data:=.seq items n,slots:=sl}/\R (.ok (.ret (Qr l))) s):=
 .of_wp λprog w A R s h=>by
  obtain⟨hp,g,dr,tk,os⟩:=s;obtain⟨hl,h⟩:=h;have f1:=UJ;have h3:(items.isEmpty||(1:Int)==1)=Λ:=by simp
  wp_walk using Rg hl
  all_goals exact⟨_,rfl,h⟩
def DN:R2:=λx y H Q=>∃a xs,x=.ref a/\y=.int 1/\H a=Δ (.tup xs)/\Q (.ref a) H
theorem zG:gI X (RT .Mult) DN:=by
 intro η s σ H x y v u Q I rx ry h;obtain⟨a,xs,rfl,rfl,ha,q⟩:=h;cases rx;obtain⟨t,rfl⟩:=ry;obtain⟨aC,r,ht,HE⟩:=I.tuple (de.of ha);obtain⟨⟨cls,dd,data,sl⟩,ho,hc,n,hd⟩:=id ht;simp only at hc hd;subst hc hd;refine SJ (T:="tuple") (U:="int") (by decide) ⟨_,ho,rfl⟩ (λs'=>Tr s' 1 t) dI To Ry gv PySem.F.slot_int_index.lookup
  (SV Ry (Tr s 1 t) Tc (S6 _ _) (e8 1 t a aC.toArray n dd sl)
   ⟨ho,rfl,⟨_,ho,rfl⟩,SV Ta ⟨_,ho,rfl⟩ S4 (SO _ _)
    (vd a aC.toArray n dd sl t) ⟨ho,?_⟩⟩)
 exact⟨.ref a,H,I,rfl,q⟩
end
end L2
namespace L2
open PySem PySem.Spec PyProof.Rows
section
variable{X:Cx}{elt iter tg:Expr}{ifs:List Expr}{sc:Scope}{pos:Pos}{N:List Str}{ts:Nat}{js:List Nat}{wi:TI}{g:TG}{tc:TT}{te:TE}
theorem m5(hc:X.calm=Λ)(B:gu X N ts js sc)(hi:PI X tg iter wi)(hg:∀η fp C s H,PG (ja X η N sc fp C s H) tg g)(ht:∀η fp C s H,zA (ja X η N sc fp C s H) ifs tc)(he:∀η fp C s H,PE (ja X η N sc fp C s H) elt te)(hs:∀x,Uj iter X.env x=pure x)(Ju:X.Ok->Se (.ListComp elt [⟨tg,iter,ifs,0⟩] sc pos) (Δ (.Name y py)) NC.line X.env=pure Λ)(Jv:PG X (.Name y py) gt):
  PS X (.Assign [.Name y py] (.ListComp elt [⟨tg,iter,ifs,0⟩] sc pos) NC) (λD σ H=>sA wi g tc te ts js σ H λv H1=>gt v σ H1 D.nx):=by
 intro η s σ H D I h;rw[exec_Assign_Name_used _ _ _ _ (Ju I.ok)];refine PY (U9 (PY ?_));show wpAny _ X.A (do let _<-comprehension (.ListComp elt [⟨tg,iter,ifs,0⟩] sc pos) sc X.env _ (newList []) Ξ (eval iter X.env) (Δ (Vy (.Name y py) X.env))) _ _ s;refine PY (QS (wpAny_comprehension_free (use:=Δ (Vy (.Name y py) X.env)) (Q:=λ_ s'=>SP X η D .next s') rfl hs (mX (B.cl I.ok)) B.kind B.names
  (bG (hi η s σ H _ I h) λv s1 h1=>bG h1 λLS s2 h2=>?_)) (λ_ s' hq=>P4 (P4 hq)) λ_ _ e=>e)
 obtain⟨it,fp,tn,J,H2,e,I2,T,aF,f2,rS⟩:=h2;subst e;have xT:H2 s2.heap.objs.size=Θ:=I2.aJ.fresh (P8 _);obtain⟨W,⟨m0,w0⟩,turn⟩:=rS s2.heap.objs.size xT;refine QH (Sy B.dH (by intro y hy;simp at hy) (λcI u0 u4=>?_) B.kind);obtain⟨s3,EY⟩:∃s3:Qd,({s2 with heap:=s2.heap.push {cls:=.type "list",dict:=Θ,data:=.seq ([]:List Value).toArray}}:Qd)=s3:=⟨_,rfl⟩;have e3:s3.heap=s2.heap.push {cls:=.type "list",dict:=Θ,data:=.seq ([]:List Value).toArray}:=by rw[<-EY]
 have u5:cI.Ns s3.heap.objs.size λx=>([]:List (Str×Value)).reverse.lookup x:=by rw[e3];exact u0
 have u6:RO s3.heap.objs.size (s3.heap.push {cls:=.type (if(Δ X.env).isSome then "dict" else "frame"),data:=.dict #[]}) cI:=by rw[e3];exact u4
 have I3:Inv X η σ (upd H2 s2.heap.objs.size (.lst [])) s3:=by rw[<-EY];exact I2.laid (t':=s2.toks) (λb u e=>P0 _ e) (P8 _) ⟨R6 _,[],0,.nil,Qe _ rfl⟩
 have Jp:∀b∈fp,b < s2.heap.objs.size:=λb hb=>by obtain⟨o,e,_⟩:=T.obj _ _ aF b hb;exact Qc e
 have f3:∀b∈fp,i6 X η (upd H2 s2.heap.objs.size (.lst [])) b:=λb hb=>⟨by rw[av (Qt (Jp b hb))];exact(f2 b hb).1,(f2 b hb).2⟩;have Np:s2.heap.objs.size < s3.heap.objs.size:=by rw[e3,Q3];exact Rk _
 have Jq:∀b∈fp,b < s3.heap.objs.size:=λb hb=>TY (Jp b hb) Np;have k1:∀b o,s3.heap.get? b=Δ o->cI.get? b=Δ o:=λb o e=>u6.extBut b o (Qt (Qc e)) (P0 _ e);have IB:=I3.block (tk:=s3.toks+([]:List (Str×Value)).length) (N:=N) B f3 Jq u5 k1;have jv:tn 0 cI:=T.keep _ _ _ aF λb hb o e=>k1 b o (by rw[e3];exact P0 _ e);have mM:∀{H':Hp},(∀b∈fp,H' b=Θ)->∀b∈fp,i6 (ja X η N sc fp s3.heap.objs.size s3 (upd H2 s2.heap.objs.size (.lst []))) [] H' b:=λhn b hb=>⟨hn b hb,Qt (Jq b hb),I3.Nm (f3 b hb),.inl hb,λx c h=>(f3 b hb).2.2.2.2.1 x c (B.get I3.ok h),λp hp=>(f3 b hb).2.2.2.2.2 p (by simpa[ja] using hp)⟩;have loop:TC (model X.prog X.w) X.A (.compLoop (.ListComp elt [⟨tg,iter,ifs,0⟩] sc pos) 0 (.ref it) (.ref s2.heap.objs.size) (compEnvC sc (cN X.env sc.names []) s3.heap.objs.size X.env))
   (compPost (model X.prog X.w) X.A X.xe (Δ (Vy (.Name y py) X.env)) (λ_ s'=>SP X η D .next s') (.ref s2.heap.objs.size) s3.heap.objs.size) {s3 with heap:=cI,toks:=s3.toks+([]:List (Str×Value)).length}:=by
  refine pJ (λn s'=>∃i τ H',Inv (ja X η N sc fp s3.heap.objs.size s3 (upd H2 s2.heap.objs.size (.lst []))) [] τ H' s'/\tn i s'.heap/\(∀b∈fp,H' b=Θ)/\W i n τ H') ?_ m0
   ⟨0,fB ts js σ,_,IB,jv,λb hb=>(f3 b hb).1,w0⟩
  rintro n s5 ⟨i,τ,H5,I5,uI,Et,w5⟩;rcases turn i n τ H5 w5 with ⟨stop,qn⟩|⟨go,step⟩
  ·refine bG (T.done (ja X η N sc fp s3.heap.objs.size s3 (upd H2 s2.heap.objs.size (.lst []))) rfl rfl rfl hc i [] s5 τ H5 (λ_ _=>False) I5 (mM Et) uI stop) λr s6 ⟨hr,I6⟩=>?_;subst hr;obtain⟨m,hn,_⟩:=I6.loc;have IO:Inv X η σ H5 s6:=I3.sC (h'':=s6.heap) f3 I6 ⟨rfl,λ_ _=>rfl⟩;have fC:i6 X η H5 s3.heap.objs.size:=I3.qp (P8 _) I6.free;obtain⟨oC,esC,epC,eC,dC,rC⟩:=id hn;have IOp:=IO.pinned (fp:=[s3.heap.objs.size]) (λb hb=>by rw[List.mem_singleton.mp hb];exact fC) λb hb=>by rw[List.mem_singleton.mp hb];exact⟨oC,eC,λv z=>by rw[dC] at z;cases z⟩
   refine bG (Jv _ s6 σ H5 (.ref s2.heap.objs.size) (.ref s2.heap.objs.size) D.nx IOp rfl qn) λ_ s8 ⟨σ8,H8,I8,q8⟩=>?_;obtain⟨pC,fC8,_⟩:=I8.pin (s3.heap.objs.size,oC) (Qk _ (Qk _ (cU (by simp) eC)));refine⟨m,hn.at' λo e=>?_,λh' Br=>⟨σ8,H8,?_,q8⟩⟩;·rw[eC] at e;cases e;exact pC
   ·exact(I8.fQ).turned (it:=s3.heap.objs.size) (t':=s8.toks) (λb o hb e=>Br.extBut b o hb e) fC8 fC.2.1 fC.2.2.2.1 fC.2.2.2.2.1 fC.2.2.2.2.2
  ·refine bG (T.item (ja X η N sc fp s3.heap.objs.size s3 (upd H2 s2.heap.objs.size (.lst []))) rfl rfl rfl hc i [] s5 τ H5 (λ_ _=>False) I5 (mM Et) uI go) λr s6 ⟨u,hr,h6⟩=>?_;subst hr;refine bG h6 λ_ s7 ⟨x,H7,I7,r7,y7,EZ,Nq⟩=>?_;have Nr:=I7.pinned (mM Nq) (T.obj _ _ EZ);refine bG (hg _ _ _ _ _ _ s7 τ H7 x u _ Nr r7 (step x H7 y7)) λ_ s8 ⟨B6,H8,I8,q8⟩=>?_;refine bG (ht _ _ _ _ _ _ s8 B6 H8 _ I8 q8) λok s9 ⟨H9,I9,q9⟩=>?_;have again:∀{s':Qd} {B7:St} {H':Hp},Inv (ja X η N sc fp s3.heap.objs.size s3 (upd H2 s2.heap.objs.size (.lst []))) ([]++kA fp s7.heap) B7 H' s'->(∃m',m' < n/\W (i+1) m' B7 H')->
     ∃m,m < n/\∃i τ H',Inv (ja X η N sc fp s3.heap.objs.size s3 (upd H2 s2.heap.objs.size (.lst []))) [] τ H' s'/\tn i s'.heap/\(∀b∈fp,H' b=Θ)/\W i m τ H':=λ{s' B7 H'} I' ⟨m',hm,w'⟩=>by
    refine⟨m',hm,i+1,B7,H',I'.fQ,T.keep _ _ _ EZ λb hb o e=>(I'.pin (b,o) (Qk _ (Qk _ (cU hb e)))).1,λb hb=>?_,w'⟩;obtain⟨o,e,d⟩:=T.obj _ _ EZ b hb;exact(I'.pin (b,o) (Qk _ (Qk _ (cU hb e)))).2.1
   cases ok with|false=>exact again I9 q9|true=>refine bG (he _ _ _ _ _ _ s9 B6 H9 _ I9 q9) λxv Nt ⟨y,Nu,Nv,Nw,ys,ha,hz,Nx⟩=>?_;refine bG (kH _ Nt B6 Nu (.ref s2.heap.objs.size) [y] (.ref s2.heap.objs.size) [xv] (λ_ H'=>∃m',m' < n/\W (i+1) m' B6 H') Nv rfl (.cons Nw .nil) ⟨_,ys,y,rfl,rfl,ha,hz,Nx⟩) λ_ s11 ⟨_,H11,Ny,_,Nz⟩=>?_;exact again Ny Nz
 subst EY;exact codeAny_compStart_list loop (T.self _ 0 _ _ _ jv loop)
end
section
variable{prog:QE}{w:World}{A:QY}{E:Value->Qd->Prop}{s:Qd}
theorem jO{items}(hit:s.heap.IsTupleIter it t i)(ht:s.heap.IsTuple t items)(hx:items[i]?=Δ x)(hQ:∀h',h'.IsTupleIter it t (i+1)->RO it s.heap h'->Q x {s with heap:=h'}):
  wpAny (model prog w) A (Qy (.ref it)) Q E s:=by
 obtain⟨o,ho,hc,hd⟩:=id hit;obtain⟨ol,ND,_,nl,NG⟩:=ht;unfold Qy;refine PY (QI (name:=Qs "__next__") hit.typeIs Rp
  (QW Rp hit.typeIs PySem.F.entry_tuple_iterator_next ?_ (PySem.F.args_tuple_iterator_next_1 _)))
 show wpAny _ _ (field (.ref it) 0 >>=_) _ _ s;refine PY (QM ho hd (x:=.ref t) rfl ?_);show wpAny _ _ (if(Qr t==RB)=Λ then _ else _) _ _ s;rw[if_neg (show ¬((Qr t==RB)=Λ) from QF)];show wpAny _ _ (field (.ref it) 1 >>=_) _ _ s;refine PY (QM ho hd (x:=.int i 0) rfl ?_);show wpAny _ _ (seqItems? (.ref t) >>=_) _ _ s;refine PY (RC ND NG ?_);simp only[Int.toNat_natCast,hx];refine PY (wpAny_setField ho hd (by simp) (P4 ⟨x,rfl,P4 (hQ _ ?_ (RO.update ..))⟩));exact⟨_,Rz _ ho (Obj.isFreed_of_fields (Obj.data_mapFields hd _)),(Obj.cls_mapFields ..).trans hc,by rw[Obj.data_mapFields hd];simp[RD]⟩
theorem fT{items}(hh:A.handled=Θ)(hit:s.heap.IsTupleIter it t i)(ht:s.heap.IsTuple t items)(hx:items[i]?=Θ)(hE:∀h' e,Heap.ExtBut it s.heap h'->(∃o,h'.get? e=Δ o/\o.cls=.type "StopIteration")->E (.ref e) {s with heap:=h'}):
  wpAny (model prog w) A (Qy (.ref it)) Q E s:=by
 obtain⟨o,ho,hc,hd⟩:=id hit;obtain⟨ol,ND,_,nl,NG⟩:=ht;unfold Qy;refine PY (QI (name:=Qs "__next__") hit.typeIs Rp
  (QW Rp hit.typeIs PySem.F.entry_tuple_iterator_next ?_ (PySem.F.args_tuple_iterator_next_1 _)))
 show wpAny _ _ (field (.ref it) 0 >>=_) _ _ s;refine PY (QM ho hd (x:=.ref t) rfl ?_);show wpAny _ _ (if(Qr t==RB)=Λ then _ else _) _ _ s;rw[if_neg (show ¬((Qr t==RB)=Λ) from QF)];show wpAny _ _ (field (.ref it) 1 >>=_) _ _ s;refine PY (QM ho hd (x:=.int i 0) rfl ?_);show wpAny _ _ (seqItems? (.ref t) >>=_) _ _ s;refine PY (RC ND NG ?_);simp only[Int.toNat_natCast,hx];refine PY (Tq (PY (wpAny_setField ho hd (by simp) ?_)));show wpAny _ _ (newExc (.type "StopIteration") [] >>=_) _ _ _;refine PY ?_;simp only[newExc,newTuple];refine PY (QH ?_ (by size_fits));refine PY (m:=firstArgMember _ _) (wpAny_of_eq (a:=RB) (by first|rfl|(simp only[firstArgMember];rfl)) ?_);refine QH ?_ (by size_fits);simp only[raiseNew];refine PY (wpAny_handled ?_);first|rw[show A.in1.handled=Θ from hh]|rw[hh]
 refine PY (P4 (wpAny_throw ?_));exact hE _ _ (((RO.update ..).extBut.push _).push _) ⟨_,Qe _ rfl,rfl⟩
end
theorem gX{prog:QE}{w:World}{A:QY}(hh:A.handled=Θ)(it l:Addr)(mY:l≠it)(items:Array Value):
  Draws prog w A it [it,l] items.size (λi v=>items[i]?=Δ v) (λi h=>h.IsTupleIter it l i/\h.IsTuple l items) where
 live:=λ_ _ st=>let ⟨o,ho,_⟩:=st.1;⟨o,ho⟩
 frame:=λ_ _ _ st hk=>⟨st.1.at λo e=>hk it (by simp) o e,let ⟨o,ho,r⟩:=st.2;⟨o,hk l (by simp) o ho,r⟩⟩
 item:=λi s Q E hi st hQ=>by refine jO st.1 st.2 (x:=items[i]) (by simp[hi]) λh' NH Br=>?_;exact hQ _ h' s.toks (by simp[hi]) ⟨NH,st.2.extBut Br.extBut mY⟩ Br
 done:=λs Q E st hE=>fT hh st.1 st.2 (by simp) hE
abbrev rT(h:Heap)(z TI TO:Addr)(f0 f1:Value):Prop:=
 h.get? z=Δ {cls:=.type "zip",dict:=Θ,data:=.fields #[f0,f1,.bool Ξ,.ref TI,.ref TO],slots:=#[]}
noncomputable def ZF(f0 f1:Value):Prop:=(f0=.none\/∃(T:Int) (t:Tok),f0=.int T t)/\∃b,f1=.bool b
structure Ce(z TI TO i1 i2:Addr)(kM kN:List Addr):Prop where
 TIz:TI≠z
 TOz:TO≠z
 i1z:i1≠z
 i2z:i2≠z
 TITO:TI≠TO
 TIi1:TI≠i1
 TIi2:TI≠i2
 TOi1:TO≠i1
 TOi2:TO≠i2
 i12:i1≠i2
 z1:z∉kM
 z2:z∉kN
 T1:TO∉kM
 T2:TO∉kN
 x1:i2∉kM
 x2:i1∉kN
section
variable{prog:QE}{w:World}{A:QY}{E:Value->Qd->Prop}{s:Qd}{z TI TO i1 i2:Addr}{kM kN:List Addr}{n1 n2:Nat}{P1 P2:Nat->Value->Prop}{oQ oR:Nat->Heap->Prop}
theorem sG(h:Q (s.heap.get? a) s):wpAny M A (loadIfAlive a) Q E s:=λΓ p _=>by unfold loadIfAlive;rw[Sem.wp_loadIfAlive];exact P4 (M:=M) (A:=A) (E:=E) (Q:=Q) h Γ p (by assumption)
theorem DO(hf:ZF f0 f1)(hz:rT s.heap z TI TO f0 f1)(h1:Q Λ s)(h2:∀h',rT h' z TI TO f0 (.bool Λ)->RO z s.heap h'->Q Ξ {s with heap:=h'}):
  wpAny (model prog w) A (Rf (.ref z)) Q E s:=by
 unfold Rf;refine PY (QM hz rfl (x:=f0) rfl ?_);obtain⟨hf0,b,rfl⟩:=hf;rcases hf0 with rfl|⟨T,t,rfl⟩;·exact P4 h1
 ·dsimp only;refine PY (sG ?_);cases s.heap.get? T.toNat with|none=>exact P4 h1|some o=>show wpAny _ _ (field (.ref z) 1 >>=_) _ _ _;refine PY (QM hz rfl (x:=.bool b) rfl ?_);cases b with|true=>exact P4 (h2 s.heap hz ⟨rfl,λ_ _=>rfl⟩)|false=>show wpAny _ _ (setField (.ref z) 1 (.bool Λ) >>=_) _ _ _;exact PY (RA hz (by simp) λcI fU cR=>P4 (h2 cI fU cR))
theorem zH(D1:Draws prog w A i1 kM n1 P1 oQ)(D2:Draws prog w A i2 kN n2 P2 oR)(ap:Ce z TI TO i1 i2 kM kN){Q:Value->Qd->Prop}(hf:ZF f0 f1)(hz:rT s.heap z TI TO f0 f1)(E6:RU s.heap TI (.ref i1) (.ref i2))(DP:RU s.heap TO a b)(Bs:k < n1)(HF:k < n2)(h1:oQ k s.heap)(h2:oR k s.heap)(hQ:∀h' tk T x y f0 f1 a b,ZF f0 f1->rT h' z TI TO f0 f1->RU h' TO a b->oQ (k+1) h'->oR (k+1) h'->P1 k x->P2 k y->s.heap.objs.size<=T->RU h' T x y->
   (∀c o,c≠z->c≠TO->c≠i1->c≠i2->s.heap.get? c=Δ o->h'.get? c=Δ o)->Q (.ref T) {s with heap:=h',toks:=tk}):
  wpAny (model prog w) A (Tj.«zip.__next__» ⟨[.ref z],[]⟩) (λfin s'=>∃v,fin=.done (.ret v)/\Q v s') E s:=by
 show wpAny _ _ (field (.ref z) 2 >>=_) _ _ _;refine PY (QM hz rfl (x:=.bool Ξ) rfl ?_);show wpAny _ _ (field (.ref z) 3 >>=_) _ _ _;refine PY (QM hz rfl (x:=.ref TI) rfl ?_);refine PY (RC E6 rfl ?_);show wpAny _ _ (Rf (.ref z) >>=_) _ _ _;refine PY (DO hf hz ?_ ?_)
 ·simp only[if_true];refine PY (Tq ?_);refine PY (QM hz rfl (x:=.ref TO) rfl ?_);refine PY (RA hz (by simp) λcI fU cR=>?_);replace fU:rT cI z TI TO .ellipsis f1:=fU;refine PY ?_;simp only[List.zipIdx_cons,List.zipIdx_nil,R1,SA];refine PY (PY (Uo ?_));show wpAny _ _ (Qy (.ref i1) >>=_) _ _ _;refine PY (D1.item k _ _ _ Bs (D1.frame k _ cI h1 λc hc o e=>cR.extBut _ _ (λx=>ap.z1 (x▸hc)) e) λx gW Jw px sH cS=>P4 ?_);have m6:RU gW TO a b:=cS.extBut _ _ ap.TOi1 (cR.extBut _ _ ap.TOz DP);refine PY (RC m6 rfl ?_);refine PY (TF m6 λfK qD dE=>?_);replace qD:RU fK TO x b:=qD;refine PY (Uh (P4 ?_));refine PY (PY (Uo ?_));show wpAny _ _ (Qy (.ref i2) >>=_) _ _ _;have k3:∀c o,c≠z->c≠TO->c≠i1->s.heap.get? c=Δ o->fK.get? c=Δ o:=λc o c1 c2 c3 e=>dE.extBut _ _ c2 (cS.extBut _ _ c3 (cR.extBut _ _ c1 e));refine PY (D2.item k _ _ _ HF (D2.frame k _ fK h2 λc hc o e=>k3 c o (λx=>ap.z2 (x▸hc)) (λx=>ap.T2 (x▸hc)) (λx=>ap.x2 (x▸hc)) e) λy xS tk4 py Jx lH=>P4 ?_);have zI:RU xS TO x b:=lH.extBut _ _ ap.TOi2 qD;refine PY (RC zI rfl ?_);refine PY (TF zI λiL qE lI=>?_);replace qE:RU iL TO x y:=qE;refine PY (Uh (P4 (P4 ?_)));refine PY (RC qE rfl ?_);refine PY (wpAny_newTuple ?_);have hsz:iL.objs.size=s.heap.objs.size:=by rw[lI.1,lH.1,dE.1,cS.1,cR.1]
  have DQ:rT iL z TI TO .ellipsis f1:=lI.extBut _ _ ap.TOz.symm (lH.extBut _ _ ap.i2z.symm (dE.extBut _ _ ap.TOz.symm (cS.extBut _ _ ap.i1z.symm fU)));have Jy:∀c o,c≠z->c≠TO->c≠i1->c≠i2->s.heap.get? c=Δ o->iL.get? c=Δ o:=λc o c1 c2 c3 c4 e=>lI.extBut _ _ c2 (lH.extBut _ _ c4 (k3 c o c1 c2 c3 e));have Jz:z < iL.objs.size:=Qc DQ;show wpAny _ _ (Tj.SmallTypes.ownedTupleHandOut (.ref z) (.ref iL.objs.size) >>=_) _ _ _;refine PY ?_;unfold Tj.SmallTypes.ownedTupleHandOut;have JA:rT (iL.push {cls:=.type "tuple",data:=.seq #[x,y]}) z TI TO .ellipsis f1:=P0 _ DQ;refine PY (RA JA (by simp) λNI zJ DR=>?_);replace zJ:rT NI z TI TO (RD iL.objs.size) f1:=zJ;refine RA zJ (by simp) λxW zK DS=>?_;replace zK:rT xW z TI TO (RD iL.objs.size) (.bool Ξ):=zK;have up:∀c o,c≠z->iL.get? c=Δ o->xW.get? c=Δ o:=λc o c1 e=>DS.extBut _ _ c1 (DR.extBut _ _ c1 (P0 _ e));have JB:RU xW iL.objs.size x y:=DS.extBut _ _ (QT Jz) (DR.extBut _ _ (QT Jz) (Qe _ rfl));refine P4 ⟨_,rfl,?_⟩;refine hQ xW _ iL.objs.size x y _ _ x y ⟨.inr ⟨_,_,rfl⟩,Ξ,rfl⟩ zK (up _ _ ap.TOz qE) (D1.frame _ gW xW sH λc hc o e=>?_) (D2.frame _ xS xW Jx λc hc o e=>?_) px py (by rw[hsz];exact P8 _) JB λc o c1 c2 c3 c4 e=>up c o c1 (Jy c o c1 c2 c3 c4 e);·exact up c o (λx=>ap.z1 (x▸hc)) (lI.extBut _ _ (λx=>ap.T1 (x▸hc)) (lH.extBut _ _ (λx=>ap.x1 (x▸hc)) (dE.extBut _ _ (λx=>ap.T1 (x▸hc)) e)))
  ·exact up c o (λx=>ap.z2 (x▸hc)) (lI.extBut _ _ (λx=>ap.T2 (x▸hc)) e)
 ·intro cI fU cR;simp only[Rj,if_false,List.forIn_toArray,R1,SA];refine PY ?_;refine PY ?_;refine PY ?_;refine RQ ?_;show wpAny _ _ (Qy (.ref i1) >>=_) _ _ _;refine PY (D1.item k _ _ _ Bs (D1.frame k _ cI h1 λc hc o e=>cR.extBut _ _ (λx=>ap.z1 (x▸hc)) e) λx gW Jw px sH cS=>P4 ?_);refine P4 ?_;refine PY ?_;refine PY ?_;refine RQ ?_;show wpAny _ _ (Qy (.ref i2) >>=_) _ _ _;refine PY (D2.item k _ _ _ HF (D2.frame k _ gW h2 λc hc o e=>cS.extBut _ _ (λx=>ap.x2 (x▸hc)) (cR.extBut _ _ (λx=>ap.z2 (x▸hc)) e)) λy fK tk3 py JC dE=>P4 ?_);refine P4 ?_;refine P4 ?_;show wpAny _ _ (newTuple [x,y] >>=_) _ _ _;refine PY (wpAny_newTuple (items:=[x,y]) ?_);have hsz:fK.objs.size=s.heap.objs.size:=by rw[dE.1,cS.1,cR.1]
  have up:∀c o,fK.get? c=Δ o->(fK.push {cls:=.type "tuple",data:=.seq #[x,y]}).get? c=Δ o:=λc o e=>P0 _ e;refine P4 ⟨_,rfl,?_⟩;refine hQ _ _ fK.objs.size x y f0 (.bool Λ) a b ⟨hf.1,Λ,rfl⟩ (up _ _ (dE.extBut _ _ ap.i2z.symm (cS.extBut _ _ ap.i1z.symm fU))) (up _ _ (dE.extBut _ _ ap.TOi2 (cS.extBut _ _ ap.TOi1 (cR.extBut _ _ ap.TOz DP))))
   (D1.frame _ gW _ sH λc hc o e=>up _ _ (dE.extBut _ _ (λx=>ap.x1 (x▸hc)) e)) (D2.frame _ fK _ JC λc hc o e=>up _ _ e) px py (by rw[hsz];exact P8 _) (Qe _ rfl) λc o c1 c2 c3 c4 e=>up _ _ (dE.extBut _ _ c4 (cS.extBut _ _ c3 (cR.extBut _ _ c1 e)))
theorem zL(D1:Draws prog w A i1 kM n1 P1 oQ)(D2:Draws prog w A i2 kN n2 P2 oR)(ap:Ce z TI TO i1 i2 kM kN)(hf:ZF f0 f1)(hz:rT s.heap z TI TO f0 f1)(E6:RU s.heap TI (.ref i1) (.ref i2))(DP:RU s.heap TO a b)(hk:k=n1\/(k < n1/\k=n2))(h1:oQ k s.heap)(h2:oR k s.heap)(hE:∀h' tk e,(∀c o,c≠z->c≠TO->c≠i1->c≠i2->s.heap.get? c=Δ o->h'.get? c=Δ o)->(∃o,h'.get? e=Δ o/\o.cls=.type "StopIteration")->E (.ref e) {s with heap:=h',toks:=tk}):
  wpAny (model prog w) A (Tj.«zip.__next__» ⟨[.ref z],[]⟩) Q E s:=by
 show wpAny _ _ (field (.ref z) 2 >>=_) _ _ _;refine PY (QM hz rfl (x:=.bool Ξ) rfl ?_);show wpAny _ _ (field (.ref z) 3 >>=_) _ _ _;refine PY (QM hz rfl (x:=.ref TI) rfl ?_);refine PY (RC E6 rfl ?_);show wpAny _ _ (Rf (.ref z) >>=_) _ _ _;refine PY (DO hf hz ?_ ?_)
 ·simp only[if_true];refine PY (Tq ?_);refine PY (QM hz rfl (x:=.ref TO) rfl ?_);refine PY (RA hz (by simp) λcI fU cR=>?_);replace fU:rT cI z TI TO .ellipsis f1:=fU;refine PY ?_;simp only[List.zipIdx_cons,List.zipIdx_nil,R1,SA];refine PY (PY (Uo ?_));show wpAny _ _ (Qy (.ref i1) >>=_) _ _ _;have sI:=D1.frame k _ cI h1 λc hc o e=>cR.extBut _ _ (λx=>ap.z1 (x▸hc)) e;rcases hk with rfl|⟨hk,rfl⟩
  ·refine PY (D1.done _ _ _ sI λgW e cS he=>?_);obtain⟨oe,E7,JD⟩:=he;have DT:rT gW z TI TO .ellipsis f1:=cS _ _ ap.i1z.symm fU;have NJ:e≠z:=λx=>by subst x;rw[DT] at E7;cases E7;simp at JD
   exact RA DT (by simp) λfK _ dE=>hE fK s.toks e (λc o c1 _ c3 _ x=>dE.extBut _ _ c1 (cS _ _ c3 (cR.extBut _ _ c1 x))) ⟨oe,dE.extBut _ _ NJ E7,JD⟩
  ·refine PY (D1.item k _ _ _ hk sI λx gW Jw px sH cS=>P4 ?_);have m6:RU gW TO a b:=cS.extBut _ _ ap.TOi1 (cR.extBut _ _ ap.TOz DP);refine PY (RC m6 rfl ?_);refine PY (TF m6 λfK qD dE=>?_);refine PY (Uh (P4 ?_));refine PY (PY (Uo ?_));show wpAny _ _ (Qy (.ref i2) >>=_) _ _ _;have k3:∀c o,c≠z->c≠TO->c≠i1->s.heap.get? c=Δ o->fK.get? c=Δ o:=λc o c1 c2 c3 e=>dE.extBut _ _ c2 (cS.extBut _ _ c3 (cR.extBut _ _ c1 e));refine PY (D2.done _ _ _ (D2.frame k _ fK h2 λc hc o e=>k3 c o (λx=>ap.z2 (x▸hc)) (λx=>ap.T2 (x▸hc)) (λx=>ap.x2 (x▸hc)) e) λxS e lH he=>?_);obtain⟨oe,E7,JD⟩:=he;have DU:rT xS z TI TO .ellipsis f1:=lH _ _ ap.i2z.symm (dE.extBut _ _ ap.TOz.symm (cS.extBut _ _ ap.i1z.symm fU));have NJ:e≠z:=λx=>by subst x;rw[DU] at E7;cases E7;simp at JD
   exact RA DU (by simp) λiL _ lI=>hE iL Jw e (λc o c1 c2 c3 c4 x=>lI.extBut _ _ c1 (lH _ _ c4 (k3 c o c1 c2 c3 x))) ⟨oe,lI.extBut _ _ NJ E7,JD⟩
 ·intro cI fU cR;simp only[Rj,if_false,List.forIn_toArray,R1,SA];refine PY ?_;refine PY ?_;refine PY ?_;refine RQ ?_;show wpAny _ _ (Qy (.ref i1) >>=_) _ _ _;have sI:=D1.frame k _ cI h1 λc hc o e=>cR.extBut _ _ (λx=>ap.z1 (x▸hc)) e;rcases hk with rfl|⟨hk,rfl⟩;·exact PY (D1.done _ _ _ sI λgW e cS he=>hE gW s.toks e (λc o c1 _ c3 _ x=>cS _ _ c3 (cR.extBut _ _ c1 x)) he)
  ·refine PY (D1.item k _ _ _ hk sI λx gW Jw px sH cS=>P4 ?_);refine P4 ?_;refine PY ?_;refine PY ?_;refine RQ ?_;show wpAny _ _ (Qy (.ref i2) >>=_) _ _ _;exact PY (D2.done _ _ _ (D2.frame k _ gW h2 λc hc o e=>cS.extBut _ _ (λx=>ap.x2 (x▸hc)) (cR.extBut _ _ (λx=>ap.z2 (x▸hc)) e)) λfK e dE he=>hE fK Jw e (λc o c1 _ c3 c4 x=>dE _ _ c4 (cS.extBut _ _ c3 (cR.extBut _ _ c1 x))) he)
theorem l4(D1:Draws prog w A.in1 i1 kM n1 P1 oQ)(D2:Draws prog w A.in1 i2 kN n2 P2 oR)(ap:Ce z TI TO i1 i2 kM kN)(hf:ZF f0 f1)(hz:rT s.heap z TI TO f0 f1)(E6:RU s.heap TI (.ref i1) (.ref i2))(DP:RU s.heap TO a b)(Bs:k < n1)(HF:k < n2)(h1:oQ k s.heap)(h2:oR k s.heap)(hQ:∀h' tk T x y f0 f1 a b,ZF f0 f1->rT h' z TI TO f0 f1->RU h' TO a b->oQ (k+1) h'->oR (k+1) h'->P1 k x->P2 k y->s.heap.objs.size<=T->RU h' T x y->
   (∀c o,c≠z->c≠TO->c≠i1->c≠i2->s.heap.get? c=Δ o->h'.get? c=Δ o)->Q (Δ (.ref T)) {s with heap:=h',toks:=tk}):wpAny (model prog w) A (Uq (.ref z)) Q E s:=by
 have hT:s.TypeIs (.ref z) "zip":=⟨_,hz,rfl⟩;unfold Uq;exact PY (Up (QI (name:=Qs "__next__") hT Ss
  (QW Ss hT PySem.F.entry_zip_next
   (zH D1 D2 ap hf hz E6 DP Bs HF h1 h2 λh' tk T x y f0 f1 a b c1 c2 c3 c4 c5 c6 c7 c8 c9 c10=>P4 (hQ h' tk T x y f0 f1 a b c1 c2 c3 c4 c5 c6 c7 c8 c9 c10)) (PySem.F.args_zip_next_1 _))))
theorem l5(D1:Draws prog w A.in1 i1 kM n1 P1 oQ)(D2:Draws prog w A.in1 i2 kN n2 P2 oR)(ap:Ce z TI TO i1 i2 kM kN)(hf:ZF f0 f1)(hz:rT s.heap z TI TO f0 f1)(E6:RU s.heap TI (.ref i1) (.ref i2))(DP:RU s.heap TO a b)(hk:k=n1\/(k < n1/\k=n2))(h1:oQ k s.heap)(h2:oR k s.heap)(hQ:∀h' tk,(∀c o,c≠z->c≠TO->c≠i1->c≠i2->s.heap.get? c=Δ o->h'.get? c=Δ o)->Q Θ {s with heap:=h',toks:=tk}):wpAny (model prog w) A (Uq (.ref z)) Q E s:=by
 have hT:s.TypeIs (.ref z) "zip":=⟨_,hz,rfl⟩;unfold Uq;refine PY (Up (QI (name:=Qs "__next__") hT Ss
  (QW Ss hT PySem.F.entry_zip_next (zL D1 D2 ap hf hz E6 DP hk h1 h2 λh' tk e xX he=>?_) (PySem.F.args_zip_next_1 _))))
 obtain⟨o,ho,hc⟩:=he;refine PY (Uw (T:="StopIteration") (b:=Λ) ⟨o,ho,hc⟩ UZ ?_);exact P4 (hQ _ _ xX)
def ZI(z TI TO i1 i2:Addr)(oQ oR:Nat->Heap->Prop)(k:Nat)(h:Heap):Prop:=∃f0 f1 a b,ZF f0 f1/\rT h z TI TO f0 f1/\RU h TI (.ref i1) (.ref i2)/\RU h TO a b/\oQ k h/\oR k h
theorem ZI.frame(ap:Ce z TI TO i1 i2 kM kN)(D1:Draws prog w A i1 kM n1 P1 oQ)(D2:Draws prog w A i2 kN n2 P2 oR)(x:ZI z TI TO i1 i2 oQ oR k h)(hk:∀b,(b=z\/b=TI\/b=TO\/b∈kM\/b∈kN)->∀o,h.get? b=Δ o->h'.get? b=Δ o):ZI z TI TO i1 i2 oQ oR k h':=by obtain⟨f0,f1,a,b,c1,c2,c3,c4,c5,c6⟩:=x;exact⟨f0,f1,a,b,c1,hk _ (.inl rfl) _ c2,hk _ (.inr (.inl rfl)) _ c3,hk _ (.inr (.inr (.inl rfl))) _ c4,D1.frame _ _ _ c5 λb hb=>hk b (.inr (.inr (.inr (.inl hb)))),D2.frame _ _ _ c6 λb hb=>hk b (.inr (.inr (.inr (.inr hb))))⟩
noncomputable def ZP(B:Nat)(bad:List Addr)(P1 P2:Nat->Value->Prop)(acc:Array Value)(k:Nat)(h:Heap):Prop:=acc.size=k/\(∀j v,acc[j]?=Δ v->∃T x y,v=.ref T/\B<=T/\T∉bad/\RU h T x y/\P1 j x/\P2 j y)/\∀(i j:Nat) (v:Value),acc[i]?=Δ v->acc[j]?=Δ v->i=j
theorem ZP.frame(x:ZP B bad P1 P2 acc k h)(hk:∀b o,b∉bad->h.get? b=Δ o->h'.get? b=Δ o):ZP B bad P1 P2 acc k h':=by refine⟨x.1,λj v hj=>?_,x.2.2⟩;obtain⟨T,a,b,e,c1,c2,c3,c4,c5⟩:=x.2.1 j v hj;exact⟨T,a,b,e,c1,c2,hk _ _ c2 c3,c4,c5⟩
theorem ZP.push(x:ZP B bad P1 P2 acc k h)(c1:B<=T)(c2:T∉bad)(c3:RU h T a b)(c4:P1 k a)(c5:P2 k b)(c6:∀j:Nat,acc[j]?≠Δ (Qr T)):ZP B bad P1 P2 (acc.push (.ref T)) (k+1) h:=by
 refine⟨by rw[Array.size_push,x.1],λj v hj=>?_,λi j v hi hj=>?_⟩
 ·rw[Array.getElem?_push] at hj;split at hj;·rename_i e;rw[x.1] at e;cases hj;exact⟨T,a,b,rfl,c1,c2,c3,by rw[e];exact c4,by rw[e];exact c5⟩
  ·exact x.2.1 j v hj
 ·rw[Array.getElem?_push] at hi hj;split at hi
  ·split at hj
   ·lia
   ·cases hi;exact absurd hj (c6 j)
  ·split at hj;·cases hj;exact absurd hi (c6 i)
   ·exact x.2.2 i j v hi hj
theorem ve(ap:Ce z TI TO i1 i2 kM kN)(D1:Draws prog w A.in1.in1 i1 kM n1 P1 oQ)(D2:Draws prog w A.in1.in1 i2 kN n2 P2 oR)(hn:n1<=Qi)(qF:S≠z/\S≠TI/\S≠TO/\S∉kM/\S∉kN)(JE:i1∈kM)(xY:i2∈kN):
  ∀(m k) (s) (acc) (c),min n1 n2 - k=m->k<=n1->k<=n2->B<=s.heap.objs.size->ZI z TI TO i1 i2 oQ oR k s.heap->s.heap.get? S=Δ {cls:=.type "list",dict:=Θ,data:=.seq acc c,slots:=#[]}->
  ZP B [z,TO,i1,i2,S] P1 P2 acc k s.heap->
  (∀h' tk eO c',(∀b o,b∉[z,TO,i1,i2,S]->s.heap.get? b=Δ o->h'.get? b=Δ o)->h'.get? S=Δ {cls:=.type "list",dict:=Θ,data:=.seq eO c',slots:=#[]}->ZP B [z,TO,i1,i2,S] P1 P2 eO (min n1 n2) h'->
   R (.ok (.ret res)) {s with heap:=h',toks:=tk})->
  TC (model prog w) A (.builtin "list.extend.loop" ⟨[.ref S,.ref z,res],[]⟩) R s:=by
 have JF:S≠i1:=λe=>qF.2.2.2.1 (e▸JE);have JG:S≠i2:=λe=>qF.2.2.2.2 (e▸xY);intro m;induction m with
 |zero=>
  intro k s acc c hm Bs HF hB DV hS c0 hR;refine codeAny_builtin PySem.F.entry_extend_loop ?_;rw[QY.under_plainId RY _];show wpAny _ A.in1 (Uq (.ref z) >>=_) _ _ s;obtain⟨f0,f1,a,b,c1,c2,c3,c4,c5,c6⟩:=DV;have NK:min n1 n2=k:=by lia
  refine PY (l5 D1 D2 ap c1 c2 c3 c4 (k:=k) (by lia) c5 c6 λh' tk hk=>P4 ?_);refine hR h' tk acc c (λb o hb e=>hk b o (λx=>hb (by simp[x])) (λx=>hb (by simp[x])) (λx=>hb (by simp[x])) (λx=>hb (by simp[x])) e) (hk _ _ qF.1 qF.2.2.1 JF JG hS) ?_;rw[NK];exact c0.frame λb o hb e=>hk b o (λx=>hb (by simp[x])) (λx=>hb (by simp[x])) (λx=>hb (by simp[x])) (λx=>hb (by simp[x])) e
 |succ m ih=>
  intro k s acc c hm Bs HF hB DV hS c0 hR;refine codeAny_builtin PySem.F.entry_extend_loop ?_;rw[QY.under_plainId RY _];show wpAny _ A.in1 (Uq (.ref z) >>=_) _ _ s;obtain⟨f0,f1,a,b,c1,c2,c3,c4,c5,c6⟩:=DV;refine PY (l4 D1 D2 ap c1 c2 c3 c4 (k:=k) (Qj (Su hm) (TM ..)) (Qj (Su hm) (Sj ..)) c5 c6 λh' tk T x y g0 g1 a' b' d1 d2 d3 d4 d5 px py hT hp hk=>?_);have kk:∀b o,b∉[z,TO,i1,i2,S]->s.heap.get? b=Δ o->h'.get? b=Δ o:=λb o hb e=>hk b o (λx=>hb (by simp[x])) (λx=>hb (by simp[x])) (λx=>hb (by simp[x])) (λx=>hb (by simp[x])) e;have HG:=hk _ _ qF.1 qF.2.2.1 JF JG hS;have NL:=hk _ _ ap.TIz ap.TITO ap.TIi1 ap.TIi2 c3;have lt:∀{b o},s.heap.get? b=Δ o->T≠b:=λe=>QT (Qj (Qc e) hT);have JH:T∉[z,TO,i1,i2,S]:=by obtain⟨o1,e1⟩:=D1.live _ _ c5;obtain⟨o2,e2⟩:=D2.live _ _ c6;simp only[Uu,Tx,or_false,not_or];exact⟨lt c2,lt c4,lt e1,lt e2,lt hS⟩
  show wpAny _ A.in1 (Vo S (·.push (.ref T)) >>=_) _ _ _;refine PY ?_;refine TJ HG rfl (P4 ⟨plainId_quiet RY _,ih (k+1) _ (acc.push (.ref T)) _ (by rw[Nat.sub_succ,hm];rfl) (Qj (Su hm) (TM ..)) (Qj (Su hm) (Sj ..)) ?_ ?_ (Rz _ HG rfl) ?_ λh'' L7 eO c' NM NN JI=>?_⟩)
   (by rw[c0.1];lia) (by show(acc.push (Qr T)).size<=Qi+1;rw[Array.size_push,c0.1];lia)
  ·show B<=(h'.update S _).objs.size;rw[Tz];exact QJ hB (QJ hT (Te (Qc hp)))
  ·refine ZI.frame ap D1 D2 ⟨g0,g1,a',b',d1,d2,NL,d3,d4,d5⟩ λb hb o e=>(QU _ _ (λh:S=b=>?_)).trans e;subst h;rcases hb with h|h|h|h|h;·exact qF.1 h
   ·exact qF.2.1 h
   ·exact qF.2.2.1 h
   ·exact qF.2.2.2.1 h
   ·exact qF.2.2.2.2 h
  ·refine ZP.frame ((c0.frame kk).push (QJ hB hT) JH hp px py λj hj=>by obtain⟨T',_,_,e,_,_,c3',_⟩:=c0.2.1 j _ hj;cases e;exact lt c3' rfl) λb o hb e=>(QU _ _ (λh:S=b=>hb (by simp[h]))).trans e
  ·refine hR h'' L7 eO c' (λb o hb e=>NM b o hb ((QU _ _ (λh:S=b=>hb (by simp[h]))).trans (kk b o hb e))) NN JI
theorem vf:Vw (.type "zip") "__len__"=pure Θ:=by rw[typeLookup_type,builtinLookup_eq_fast];kernel_rfl
theorem sJ:Vw (.type "zip") "__length_hint__"=pure Θ:=by rw[typeLookup_type,builtinLookup_eq_fast];kernel_rfl
theorem m7(ap:Ce z TI TO i1 i2 kM kN)(D1:Draws prog w A.in1.in1 i1 kM n1 P1 oQ)(D2:Draws prog w A.in1.in1 i2 kN n2 P2 oR)(hn:n1<=Qi)(qF:S≠z/\S≠TI/\S≠TO/\S∉kM/\S∉kN)(JE:i1∈kM)(xY:i2∈kN)(hB:B<=s.heap.objs.size)(DV:ZI z TI TO i1 i2 oQ oR 0 s.heap)(hS:s.heap.get? S=Δ {cls:=.type "list",data:=.seq #[] c₀})(hR:∀h' tk eO c',(∀b o,b∉[z,TO,i1,i2,S]->s.heap.get? b=Δ o->h'.get? b=Δ o)->h'.get? S=Δ {cls:=.type "list",dict:=Θ,data:=.seq eO c',slots:=#[]}->ZP B [z,TO,i1,i2,S] P1 P2 eO (min n1 n2) h'->
   R (.ok (.ret res)) {s with heap:=h',toks:=tk}):
  wpAny (model prog w) A.in1 (RP (.ref S) (.ref z) res)
   (λfin s'=>match fin with|.done f=>R (.ok f) s'|.again c'=>c'.quiet=Λ/\TC (model prog w) A c' R s') (λe s'=>R (.error e) s') s:=by
 obtain⟨f0,f1,a,b,c1,c2,c3,c4,c5,c6⟩:=id DV;have hT:s.TypeIs (.ref z) "zip":=⟨_,c2,rfl⟩;unfold RP;refine PY (TU hT ?_);have h1:Tj.List.listSameRef (.ref S) (.ref z)=Ξ:=by simp[Tj.List.listSameRef,qF.1]
 have h2:(So "zip"==So "list")=Ξ:=by decide
 have h3:(So "zip"==So "tuple")=Ξ:=by decide
 simp only[h1,h2,h3,Ve,Rj,if_false];refine PY (wpAny_pyIter_slot hT PySem.F.slot_zip_iter (QW PySem.F.slot_zip_iter hT PySem.F.entry_zip_iter ?_ (PySem.F.args_zip_iter_1 _)));show wpAny _ _ (ret (.ref z)) _ _ s;refine P4 ⟨_,rfl,"zip",_,hT,Ss.lookup,?_⟩;refine PY (RQ ?_);unfold Tj.List.listLengthHint;refine PY (UR hT vf ?_);show wpAny _ A.in1 (specialOf (Qr z) (Qs "__length_hint__") >>=_) _ _ _;refine PY (UR hT sJ ?_);refine P4 ?_;show wpAny _ A.in1 (rule "list.extend.makes-room" >>=λ_=>Tj.List.listTouch (.ref S) >>=λ_=>again (.builtin "list.extend.loop" ⟨[.ref S,.ref z,res],[]⟩)) _ _ _;refine PY (Tq ?_);refine PY ?_;show wpAny _ A.in1 (Vo S (·.push .none) >>=λ_=>Vo S (·.pop)) _ _ _;refine PY (TJ hS rfl ?_);have wH:=Rz (Sd (·.push RB)) hS rfl;refine TJ (hz:=by seq_fits) wH rfl ?_;have JJ:=Rz (Sd (·.pop)) wH rfl;have JK:∀b o,b≠S->s.heap.get? b=Δ o->((s.heap.update S (Sd (·.push RB))).update S (Sd (·.pop))).get? b=Δ o:=
  λb o hb e=>(QU _ _ (Q5 hb)).trans ((QU _ _ (Q5 hb)).trans e)
 refine P4 ⟨plainId_quiet RY _,ve ap D1 D2 (B:=B) hn qF JE xY _ 0 _ _ _ rfl (R6 _) (R6 _) ?_ (ZI.frame ap D1 D2 DV λb hb o e=>JK b o (λh=>?_) e) JJ ⟨rfl,(λj v hj=>by simp at hj),(λi j v hi _=>by simp at hi)⟩ λh' tk eO c' hk HG c0=>?_⟩;·show B<=((s.heap.update S _).update S _).objs.size;rw[Tz,Tz];exact hB
 ·subst h;rcases hb with h|h|h|h|h;·exact qF.1 h
  ·exact qF.2.1 h
  ·exact qF.2.2.1 h
  ·exact qF.2.2.2.1 h
  ·exact qF.2.2.2.2 h
 ·exact hR h' tk eO c' (λb o hb e=>hk b o hb (JK b o (λh=>hb (by simp[h])) e)) HG c0
theorem oS(ap:Ce z TI TO i1 i2 kM kN)(D1:Draws prog w A.in1.in1.in1 i1 kM n1 P1 oQ)(D2:Draws prog w A.in1.in1.in1 i2 kN n2 P2 oR)(hn:n1<=Qi)(fD:z < s.heap.objs.size/\TI < s.heap.objs.size/\TO < s.heap.objs.size/\(∀b∈kM,b < s.heap.objs.size)/\∀b∈kN,b < s.heap.objs.size)(JE:i1∈kM)(xY:i2∈kN)(hB:B<=s.heap.objs.size)(DV:ZI z TI TO i1 i2 oQ oR 0 s.heap)(hQ:∀h' tk eO c',(∀b o,b∉[z,TO,i1,i2]->s.heap.get? b=Δ o->h'.get? b=Δ o)->h'.get? s.heap.objs.size=Δ {cls:=.type "list",dict:=Θ,data:=.seq eO c',slots:=#[]}->ZP B [z,TO,i1,i2,s.heap.objs.size] P1 P2 eO (min n1 n2) h'->
   Q (.ref s.heap.objs.size) {s with heap:=h',toks:=tk}):
  wpAny (model prog w) A (call (.type "list") [.ref z]) Q E s:=by
 refine callType_codes (Q₁:=λobj bC=>obj=.ref s.heap.objs.size/\bC={s with heap:=s.heap.push {cls:=.type "list",data:=.seq #[]}}) PySem.F.called_list (PySem.F.typeCall_list_1 _) PySem.F.entry_list_init
  (code_list_new _ ⟨rfl,rfl⟩) λobj bC cI=>?_
 obtain⟨rfl,rfl⟩:=cI;have hS:(s.heap.push {cls:=.type "list",data:=.seq #[]}).get? s.heap.objs.size=Δ {cls:=.type "list",data:=.seq #[]}:=Qe _ rfl;refine⟨⟨_,hS,rfl⟩,PySem.F.args_list_init_2 _ _,?_⟩;show wpAny _ A.in1.in1 (do let old<-Tj.List.listItems (.ref s.heap.objs.size);Tj.List.listUpdate (.ref s.heap.objs.size) (λ_=>#[]);letGo old.toList.reverse;RP (.ref s.heap.objs.size) (.ref z) .none) _ _ _;refine PY ?_;unfold Tj.List.listItems;refine PY (RC hS rfl (P4 ?_));show wpAny _ _ (Vo s.heap.objs.size (λ_=>#[]) >>=λ_=>letGo (#[]:Array Value).toList.reverse >>=λ_=>RP (.ref s.heap.objs.size) (.ref z) .none) _ _ _;refine PY (TJ hS rfl ?_);have wH:=Rz (Sd (λ_=>(#[]:Array Value))) hS rfl;have JK:∀b o,s.heap.get? b=Δ o->((s.heap.push {cls:=.type "list",data:=.seq #[]}).update s.heap.objs.size (Sd (λ_=>(#[]:Array Value)))).get? b=Δ o:=
  λb o e=>(QU _ _ (QT (Qc e))).trans (P0 _ e)
 refine PY (Uh ?_);refine m7 ap D1 D2 (B:=B) hn ⟨QT fD.1,QT fD.2.1,QT fD.2.2.1,λh=>Rm _ (fD.2.2.2.1 _ h),λh=>Rm _ (fD.2.2.2.2 _ h)⟩ JE xY ?_ (ZI.frame ap D1 D2 DV λb _ o e=>JK b o e) wH λh' tk eO c' hk HG c0=>?_
 ·show B<=((s.heap.push _).update _ _).objs.size;rw[Tz,Q3]
  lia
 ·refine⟨rfl,hQ h' tk eO c' (λb o hb e=>hk b o ?_ (JK b o e)) HG c0⟩;intro hm;simp only[Uu,Tx,or_false] at hm hb;rcases hm with h|h|h|h|h;·exact hb (.inl h)
  ·exact hb (.inr (.inl h))
  ·exact hb (.inr (.inr (.inl h)))
  ·exact hb (.inr (.inr (.inr h)))
  ·exact absurd (Qc e) (by rw[h];exact Rm _)
abbrev L8(h:Heap)(l1:Addr):Heap:=h.push {cls:=.type "tuple_iterator",data:=.fields #[.ref l1,.int 0 0]}
abbrev L9(h:Heap)(l1 l2:Addr):Heap:=(L8 h l1).push {cls:=.type "tuple_iterator",data:=.fields #[.ref l2,.int 0 0]}
abbrev Ma(h:Heap)(l1 l2:Addr):Heap:=(L9 h l1 l2).push {cls:=.type "tuple",data:=.seq #[.ref h.objs.size,.ref (L8 h l1).objs.size]}
abbrev Mb(h:Heap)(l1 l2:Addr):Heap:=(Ma h l1 l2).push {cls:=.type "tuple",data:=.seq #[.none,.none]}
abbrev E8(h:Heap)(l1 l2:Addr):Heap:=(Mb h l1 l2).push {cls:=.type "zip",data:=.fields #[.none,.bool Ξ,.bool Ξ,.ref (L9 h l1 l2).objs.size,.ref (Ma h l1 l2).objs.size]}
theorem m8 l1 l2 xs ys:
  Meets (Tj.«zip.__new__» ⟨[.type "zip",.ref l1,.ref l2],[]⟩) (λ_ R s=>s.heap.IsTuple l1 xs/\s.heap.IsTuple l2 ys/\
   R (.ok (.ret (.ref (Mb s.heap l1 l2).objs.size))) {s with heap:=E8 s.heap l1 l2}):=
 .of_wp λprog w A R s h=>by
  obtain⟨hp,g,d,tk,os⟩:=s;obtain⟨NO,oU,h⟩:=h;have NP:=sub_zip;have hL1:Vl (Vt ⟨hp,g,d,tk,os⟩) l1 xs:=NO;have hL2:Vl (Vt ⟨hp.push {cls:=.type "tuple_iterator",data:=.fields #[.ref l1,.int 0 0]},g,d,tk,os⟩) l2 ys:=Vl.push oU _
  wp_walk using RS hL1,RS hL2
  exact⟨_,rfl,h⟩
theorem vg(NO:s.heap.IsTuple l1 xs)(oU:s.heap.IsTuple l2 ys)(h:∀h',rT h' (s.heap.objs.size+4) (s.heap.objs.size+2) (s.heap.objs.size+3) .none (.bool Ξ)->RU h' (s.heap.objs.size+2) (.ref s.heap.objs.size) (.ref (s.heap.objs.size+1))->
   RU h' (s.heap.objs.size+3) .none .none->h'.IsTupleIter s.heap.objs.size l1 0->h'.IsTupleIter (s.heap.objs.size+1) l2 0->h'.objs.size=s.heap.objs.size+5->
   (∀c o,s.heap.get? c=Δ o->h'.get? c=Δ o)->Q (.ref (s.heap.objs.size+4)) {s with heap:=h'}):
  wpAny (model prog w) A (call (.type "zip") [.ref l1,.ref l2]) Q E s:=by
 refine callType_new PySem.F.called_zip (by decide) (PySem.F.typeCall_zip_2 _ _) (PySem.F.newCall_zip_2 _ _) (λobj=>PySem.F.args_object_init_3 obj _ _) PySem.F.entry_zip_new
  (m8 l1 l2 xs ys) ⟨NO,oU,?_⟩
 have z1:(L8 s.heap l1).objs.size=s.heap.objs.size+1:=Q3 ..;have z2:(L9 s.heap l1 l2).objs.size=s.heap.objs.size+2:=by rw[Q3,z1]
 have z3:(Ma s.heap l1 l2).objs.size=s.heap.objs.size+3:=by rw[Q3,z2]
 have z4:(Mb s.heap l1 l2).objs.size=s.heap.objs.size+4:=by rw[Q3,z3]
 have z5:(E8 s.heap l1 l2).objs.size=s.heap.objs.size+5:=by rw[Q3,z4]
 have g5:(E8 s.heap l1 l2).get? (Mb s.heap l1 l2).objs.size=Δ _:=Qe _ rfl;have g4:(E8 s.heap l1 l2).get? (Ma s.heap l1 l2).objs.size=Δ _:=P0 _ (Qe _ rfl);have g3:(E8 s.heap l1 l2).get? (L9 s.heap l1 l2).objs.size=Δ _:=P0 _ (P0 _ (Qe _ rfl));have g2:(E8 s.heap l1 l2).get? (L8 s.heap l1).objs.size=Δ _:=P0 _ (P0 _ (P0 _ (Qe _ rfl)));have g1:(E8 s.heap l1 l2).get? s.heap.objs.size=Δ _:=P0 _ (P0 _ (P0 _ (P0 _ (Qe _ rfl))));show _/\_;rw[z2,z3,z4] at g5;rw[z1,z2] at g3;rw[z3] at g4;rw[z1] at g2;rw[z4];exact⟨⟨_,g5,rfl⟩,h _ g5 g3 g4 ⟨_,g1,rfl,rfl⟩ ⟨_,g2,rfl,rfl⟩ z5 λc o x=>P0 _ (P0 _ (P0 _ (P0 _ (P0 _ x))))⟩
theorem Inv.NQ(I:Inv X η σ H s)(k:∀b u,s.heap.get? b=Δ u->h'.get? b=Δ u)(hs:fS H H')(xT:∀b o,H' b=Δ o->H b=Δ o\/(s.heap.objs.size<=b/\bF X.prog X.w H' h' b o)):Inv X η σ H' {s with heap:=h',toks:=t'}:=by
 refine I.un ⟨λb u q _ _ _=>k b u q,λb u q _ _ _=>⟨u.slots,k b u q⟩,λb u q n _=>?_,λb u q _=>⟨u,k b u q⟩,λb xs q=>hs _ _ q,λb u xs q=>hs _ _ q,λb ps q=>⟨#[],by rw[hs _ _ q];simp⟩⟩ λb o e=>?_
 ·cases e:H' b with
  |none=>rfl|some o=>
   rcases xT b o e with z|⟨z,_⟩;·rw[n] at z;cases z
   ·exact absurd (Qc q) (Nat.not_lt.mpr z)
 ·rcases xT b o e with z|⟨_,z⟩;·exact(I.aJ b o z).iK (λc v _ q=>k c v q) (λc q=>hs _ _ q) λc xs q=>hs _ _ q
  ·exact z
noncomputable def E9(H:Hp)(us ws ts:List V):Prop:=ts.length=min us.length ws.length/\∀(j:Nat) t,ts[j]?=Δ t->∃T u w,t=.ref T/\H T=Δ (.tup [u,w])/\us[j]?=Δ u/\ws[j]?=Δ w
def zM:Value->V
 |.ref a=>.ref a|_=>.bu
theorem pK:∀{l},(∀v∈l,∃T,v=Qr T)->aM (l.map zM) l
 |[],_=>.nil|v::l,h=>by obtain⟨T,rfl⟩:=h v P7;exact .cons rfl (pK λv hv=>h v (P6 _ hv))
theorem NR(h:a=c)(k:b=d):(Δ (HO.tup [a,b]):Option HO)=Δ (HO.tup [c,d]):=by rw[h,k]
theorem Cf(N a b:Nat)(la:a < N)(lb:b < N):Ce (N+4) (N+2) (N+3) N (N+1) [N,a] [N+1,b]:=by
 have e2:∀{x y z:Nat},x≠y->x≠z->x∉[y,z]:=λh1 h2 h=>by
  rcases Uu.mp h with h|h;·exact h1 h
  ·exact h2 (by simpa using h)
 have ne:∀{x y:Nat},x < y\/y < x->x≠y:=λh=>by lia
 exact⟨ne (by lia),ne (by lia),ne (by lia),ne (by lia),ne (by lia),ne (by lia),ne (by lia),ne (by lia),ne (by lia),ne (by lia),e2 (by lia) (by lia),e2 (by lia) (by lia),e2 (by lia) (by lia),e2 (by lia) (by lia),e2 (by lia) (by lia),e2 (by lia) (by lia)⟩
theorem zN(la:a < N)(hc:c∈[N+k,a])(hk:k < 5):c < N+5:=by simp at hc;rcases hc with rfl|rfl<;>lia
open Classical in
theorem sL(hc:X.calm=Λ)(hgL:Gl X "list")(hmL:X.mg "list"=Θ)(hgZ:Gl X "zip")(hmZ:X.mg "zip"=Θ)(ha:PA X [x1,x2] t)(he:Qo [x1,x2] X.env=(Ξ,eval x1 X.env)::Qo [x2] X.env)(oJ:(Rx pos (Qo [x2] X.env)).any (·.1)=Ξ):
  PE X (.Call (.Name "list" p2) [.Call (.Name "zip" p) [x1,x2] [] pos] [] JL) (λσ H Q=>t σ H λvs H1=>∃a b us ws,vs=[.ref a,.ref b]/\de X.K H1 a us/\de X.K H1 b ws/\
   ∀l H' ts,fS H1 H'->H1 l=Θ->H' l=Δ (.lst ts)->E9 H' us ws ts->Q (.ref l) H'):=by
 intro η s σ H Q I h;refine QN (gk I hgL hmL U6 ?_ (by decide+kernel) (by decide+kernel));refine QO ?_ rfl rfl;show wpAny _ _ (spliced [(Ξ,eval (.Call (.Name "zip" p) [x1,x2] [] pos) X.env)]) _ _ s;refine RV ?_;refine QN (gk I hgZ hmZ PyProof.Rows.boot_zip ?_ (by decide+kernel) (by decide+kernel));refine QO (bG (ha pos η s σ H _ I h) λus s1 ⟨vs,H1,I1,r1,q1⟩=>?_) he oJ;obtain⟨a,b,ua,ub,rfl,ta,tb,q⟩:=q1;obtain⟨va,vb,rfl,ra,rb⟩:=vals2 r1;cases ra;cases rb;obtain⟨ia,NS,pa,za⟩:=I1.tuple ta;obtain⟨ib,rvb,pb,zb⟩:=I1.tuple tb;have NT:s1.heap.IsTuple a ia.toArray:=pa;have NU:s1.heap.IsTuple b ib.toArray:=pb;obtain⟨N,hN⟩:∃N:Nat,N=s1.heap.objs.size:=⟨_,rfl⟩;have la:(a:Nat) < s1.heap.objs.size:=by obtain⟨o,e,_⟩:=NT;exact Qc e
 have lb:(b:Nat) < s1.heap.objs.size:=by obtain⟨o,e,_⟩:=NU;exact Qc e
 refine vg NT NU λh2 g1 g2 g3 g4 g5 hsz hk=>?_;refine Sx ?_;have hh:X.A.in1.in1.in1.handled=Θ:=I1.ok.hd hc;have Cg:({s1 with heap:=h2}:Qd).heap.objs.size=s1.heap.objs.size+5:=hsz;have up:∀{c:Addr} {items:Array Value},s1.heap.IsTuple c items->h2.IsTuple c items:=λ{c items} x=>let ⟨o,e,r⟩:=x;⟨o,hk _ _ e,r⟩
 have ap:=Cf s1.heap.objs.size a b la lb;have Mc:∀k:Nat,k < 5->s1.heap.objs.size+k < ({s1 with heap:=h2}:Qd).heap.objs.size:=λk hk=>by rw[Cg];exact Nat.add_lt_add_left hk _
 refine oS (s:={s1 with heap:=h2}) ap (gX hh s1.heap.objs.size a (Qt la) ia.toArray) (gX hh (s1.heap.objs.size+1) b (Qt (Nat.lt_succ_of_lt lb)) ib.toArray) (B:=s1.heap.objs.size) (by rw[P9,<-NS.length];exact za)
  ⟨Mc 4 (by decide),Mc 2 (by decide),Mc 3 (by decide),λc hc=>?_,λc hc=>?_⟩ (by simp) (by simp) (Te (Mc 0 (by decide))) ⟨.none,.bool Ξ,.none,.none,⟨.inl rfl,Ξ,rfl⟩,g1,g2,g3,⟨g4,up NT⟩,⟨g5,up NU⟩⟩ λh' tk acc c' Jl hS c0=>?_
 ·rw[Cg];exact zN (k:=0) la hc (by decide)
 ·rw[Cg];exact zN (k:=1) lb hc (by decide)
 rw[Cg] at hS c0 ⊢;obtain⟨a1,a2,a3⟩:=c0;have n5:∀b o,s1.heap.get? b=Δ o->h'.get? b=Δ o:=λb o e=>by
  have hb:(b:Nat) < s1.heap.objs.size:=Qc e;refine Jl b o (λhm=>?_) (hk b o e);simp only[Uu,Tx,or_false] at hm;have:(b:Nat)>=s1.heap.objs.size:=by
   rcases hm with h|h|h|h;·exact h▸Sk _ _
   ·exact h▸Sk _ _
   ·exact h▸P8 _
   ·exact h▸Sk _ _
  exact absurd hb (Nat.not_lt.mpr this)
 have hrefs:∀v∈acc.toList,∃T,v=Qr T:=λv hv=>by obtain⟨j,hj,e⟩:=List.mem_iff_getElem.mp hv;obtain⟨T,_,_,e',_⟩:=a2 j v (by rw[<-Tp,Qh hj,e]);exact⟨T,e'⟩
 have hV:=pK hrefs
 let H2:Hp:=λc=>if c=s1.heap.objs.size+5 then Δ (.lst (acc.toList.map zM)) else
  if hj:∃(j:Nat) (u w':V),acc[j]?=Δ (Qr c)/\ua[j]?=Δ u/\ub[j]?=Δ w' then Δ (.tup [hj.choose_spec.choose,hj.choose_spec.choose_spec.choose]) else H1 c
 have fr:∀c,s1.heap.objs.size<=c->H1 c=Θ:=λc hc=>I1.aJ.fresh hc;have NV:∀(j:Nat) T,acc[j]?=Δ (Qr T)->T≠s1.heap.objs.size+5:=λj T e z=>by obtain⟨T',_,_,e',_,hb,_⟩:=a2 j _ e;cases e';exact hb (by rw[z];simp)
 have NW:∀(j:Nat) T,acc[j]?=Δ (Qr T)->s1.heap.objs.size<=T:=λj T e=>by obtain⟨T',_,_,e',h1,_⟩:=a2 j _ e;cases e';exact h1
 have atT:∀(j:Nat) T u w',acc[j]?=Δ (Qr T)->ua[j]?=Δ u->ub[j]?=Δ w'->H2 T=Δ (.tup [u,w']):=λj T u w' e1 e2 e3=>by have hj:∃(j:Nat) (u w':V),acc[j]?=Δ (Qr T)/\ua[j]?=Δ u/\ub[j]?=Δ w':=⟨j,u,w',e1,e2,e3⟩;show(if T=s1.heap.objs.size+5 then _ else if hj:_ then _ else _)=_;rw[if_neg (NV j T e1),dif_pos hj];obtain⟨c1,c2,c3⟩:=hj.choose_spec.choose_spec.choose_spec;have ej:=a3 _ _ _ c1 e1;have q1:=Qx (c2.symm.trans (show ua[hj.choose]?=Δ u by rw[ej];exact e2));have q2:=Qx (c3.symm.trans (show ub[hj.choose]?=Δ w' by rw[ej];exact e3));exact NR q1 q2
 have hS2:H2 (s1.heap.objs.size+5)=Δ (.lst (acc.toList.map zM)):=if_pos rfl;have sm:fS H1 H2:=λc o e=>by
  show(if c=s1.heap.objs.size+5 then _ else if hj:_ then _ else _)=_;rw[if_neg,dif_neg];·exact e
  ·rintro⟨j,u,w',e1,_⟩;rw[fr c (NW j c e1)] at e;cases e
  ·rintro rfl;rw[fr _ (Sk _ _)] at e;cases e
 have hlen:acc.toList.length=min ua.length ub.length:=by rw[Rv,a1,P9,P9,<-NS.length,<-rvb.length]
 have I2:Inv X η σ H2 {s1 with heap:=h',toks:=tk}:=by
  refine I1.NQ n5 sm λc o e=>?_;have e':(if c=s1.heap.objs.size+5 then Δ (HO.lst (acc.toList.map zM)) else
   if hj:∃(j:Nat) (u w':V),acc[j]?=Δ (Qr c)/\ua[j]?=Δ u/\ub[j]?=Δ w' then Δ (.tup [hj.choose_spec.choose,hj.choose_spec.choose_spec.choose]) else H1 c)=Δ o:=e
  split at e';·rename_i hc;cases e';refine .inr ⟨by rw[hc];exact Sk _ _,?_⟩;rw[hc];refine⟨?_,acc.toList,c',hV,by simpa using hS⟩;rw[Qv,hlen];exact QJ (TM _ _) za
  ·split at e'
   ·rename_i hj;cases e';obtain⟨c1,c2,c3⟩:=hj.choose_spec.choose_spec.choose_spec;obtain⟨T,x,y,eT,b1,b2,b3,b4,b5⟩:=a2 _ _ c1;cases eT;refine .inr ⟨b1,?_,[x,y],?_,⟨_,b3,rfl,_,rfl⟩⟩;·rw[Q0];simp
    ·obtain⟨x',ex,rx⟩:=NS.get c2;obtain⟨y',ey,ry⟩:=rvb.get c3;have e1:ia[hj.choose]?=Δ x:=by simpa using b4
     have e2:ib[hj.choose]?=Δ y:=by simpa using b5
     rw[ex] at e1;rw[ey] at e2;cases e1;cases e2;exact .cons rx (.cons ry .nil)
   ·exact .inl e'
 refine⟨.ref (s1.heap.objs.size+5),H2,I2,rfl,q _ H2 _ sm (fr _ (Sk _ _)) hS2 ⟨by rw[Qv,hlen],λj t ht=>?_⟩⟩;rw[QA] at ht;obtain⟨v,hv,rfl⟩:∃v,acc.toList[j]?=Δ v/\zM v=t:=by cases hq:acc.toList[j]? with|none=>rw[hq] at ht;cases ht|some v=>rw[hq] at ht;exact⟨v,rfl,by simpa using ht⟩
 have hjl:j < min ua.length ub.length:=by rw[<-hlen];exact(qqz hv).1
 have LU:acc[j]?=Δ v:=by rw[<-Tp];exact hv
 obtain⟨T,x,y,rfl,_⟩:=a2 j v LU;have l1:j < ua.length:=Qj hjl (TM _ _);have l2:j < ub.length:=Qj hjl (Sj _ _);exact⟨T,ua[j],ub[j],rfl,atT j T _ _ LU (Qh l1) (Qh l2),Qh l1,Qh l2⟩
end
theorem gY l items o(ht:o.cls=.type "tuple")n(hd:o.data=.seq items n):
  Meets (Tj.«enumerate.__new__» ⟨[.type "enumerate",.ref l],[]⟩) (λ_ R s=>s.heap.get? l=Δ o/\
   R (.ok (.ret (.ref (s.heap.push {cls:=.type "tuple_iterator",data:=.fields #[.ref l,.int 0 0]}).objs.size)))
    {s with heap:=(s.heap.push {cls:=.type "tuple_iterator",data:=.fields #[.ref l,.int 0 0]}).push {cls:=.type "enumerate",data:=.fields #[.none,.bool Ξ,.ref s.heap.objs.size,RD 0,.none,.none]}}):=
 .of_wp λprog w A R s h=>by
  obtain⟨hp,g,d,tk,os⟩:=s;obtain⟨hl,h⟩:=h;have NP:=sub_enumerate;have hL:Vl (Vt ⟨hp,g,d,tk,os⟩) l items:=⟨_,hl,ht,n,hd⟩
  wp_walk using Rg hl
  refine wpAny_stack_any λst=>P4 ?_;split
  ·rename_i c _ _ _ _ _;cases (c==So "enumerate")
   ·wp_walk using Rg hl,RS hL
    exact⟨_,rfl,h⟩
   ·wp_walk using Rg hl,RS hL
    exact⟨_,rfl,h⟩
  ·wp_walk using Rg hl,RS hL
   exact⟨_,rfl,h⟩
section
variable{prog:QE}{w:World}{A:QY}{E:Value->Qd->Prop}{s:Qd}
theorem kO(hl:s.heap.IsTuple l items)(h:∀h',IsEnum h' (s.heap.objs.size+1) s.heap.objs.size 0 .none->h'.IsTupleIter s.heap.objs.size l 0->h'.objs.size=s.heap.objs.size+2->
   (∀b o,s.heap.get? b=Δ o->h'.get? b=Δ o)->Q (.ref (s.heap.objs.size+1)) {s with heap:=h'}):
  wpAny (model prog w) A (call (.type "enumerate") [.ref l]) Q E s:=by
 obtain⟨o,ho,hc,n,hd⟩:=hl;refine callType_new PySem.F.called_enumerate (by decide) (PySem.F.typeCall_enumerate_1 _) (PySem.F.newCall_enumerate_1 _) (λobj=>PySem.F.args_object_init_2 obj _) PySem.F.entry_enumerate_new
  (gY l items o hc n hd) ⟨ho,?_⟩
 have hz:(s.heap.push {cls:=.type "tuple_iterator",data:=.fields #[.ref l,.int 0 0]}).objs.size=s.heap.objs.size+1:=Q3 ..;show _/\_;rw[hz];have he:IsEnum ((s.heap.push {cls:=.type "tuple_iterator",data:=.fields #[.ref l,.int 0 0]}).push
   {cls:=.type "enumerate",data:=.fields #[.none,.bool Ξ,.ref s.heap.objs.size,RD 0,.none,.none]}) (s.heap.objs.size+1) s.heap.objs.size 0 .none:=by
  have:=Qe (s.heap.push {cls:=.type "tuple_iterator",data:=.fields #[.ref l,.int 0 0]})
   (o:={cls:=.type "enumerate",data:=.fields #[.none,.bool Ξ,.ref s.heap.objs.size,RD 0,.none,.none]}) rfl
  rw[hz] at this;exact this
 refine⟨⟨_,he,rfl⟩,h _ he ⟨_,P0 _ (Qe _ rfl),rfl,rfl⟩ (by rw[Q3,hz]) λb o x=>P0 _ (P0 _ x)⟩
end
def NX(K:P5)(a:Addr):It:=
 ⟨λi H=>∃xs x,de K H a xs/\xs[i]?=Δ x,λi H x H'=>∃T v,H T=Θ/\H'=upd H T (.tup [.int i,v])/\x=.ref T/\∀xs,de K H a xs->xs[i]?=Δ v,λi H=>∃xs,de K H a xs/\xs.length<=i⟩
theorem vh{P:QE}{w:World}{K:P5}{elts:List Expr}{kk:Nat}{pos:Pos}(a it e:Addr)(HI:e≠it):Turn P w K (.Tuple elts kk pos) (NX K a) [e,it] e (λi h=>(∃old,IsEnum h e it i old)/\h.IsTupleIter it a i) where
 mem:=by simp
 obj:=λi h st b hb=>by
  obtain⟨⟨old,he⟩,o,eo,c,d⟩:=st;have fE:b=e\/b=it:=by simpa using hb
  rcases fE with z|z;·rw[z];exact⟨_,he,λv z=>nomatch z⟩
  ·rw[z];exact⟨o,eo,λv z=>by rw[d] at z;cases z⟩
 keep:=λi h h' st k=>⟨let ⟨old,he⟩:=st.1;⟨old,k e (by simp) _ he⟩,st.2.at λo x=>k it (by simp) o x⟩
 item:=by
  intro X hP hw hK hc i η s σ H E I hf st hg;subst hP hw hK;obtain⟨xs,x,hq,hx⟩:=hg;obtain⟨aC,rv,p,hz⟩:=I.tuple hq;have p':s.heap.IsTuple a aC.toArray:=p;obtain⟨u,hu,ru⟩:=rv.get hx;obtain⟨f0,f1,f2,f3,f4,f5⟩:=hf it (by simp);obtain⟨g0,g1,g2,g3,g4,g5⟩:=hf e (by simp);obtain⟨⟨old,he⟩,hit⟩:=st;have hai:a≠it:=λz=>by obtain⟨o1,e1,c1,_⟩:=p';obtain⟨o2,e2,c2,_⟩:=id hit;rw[z,e2] at e1;cases e1;rw[c1] at c2;simp at c2
  have hae:a≠e:=λz=>by obtain⟨o1,e1,c1,_⟩:=p';rw[z,he] at e1;cases e1;simp at c1
  have fD:i < aC.toArray.size:=by have:=(qqz hu).1;simpa using this
  refine wpAny_pyNext_enum_itemD (gX (A:=X.A.in1) (I.ok.hd hc) it a hai aC.toArray) he ⟨hit,p'⟩ fD HI (by simp[HI,Q5 hae]) λx1 h' tk px ho Br hT hsz hk=>?_;have ex1:x1=u:=by
   have:aC[i]?=Δ x1:=by simpa using px
   rw[hu] at this;cases this;rfl
  subst ex1;refine⟨_,rfl,?_⟩;refine wpAny_letOwnedTupleGo_enum ho λh2 JM Bt=>?_;have JN:s.heap.objs.size≠e:=QT (Qc he);have HJ:s.heap.objs.size≠it:=by obtain⟨o,eo,_⟩:=hit;exact QT (Qc eo)
  have sM:∀b o,b≠e->b≠it->s.heap.get? b=Δ o->h2.get? b=Δ o:=λb o h1 h3 q=>Bt.extBut b o h1 (hk b o h1 h3 q);have hn:H s.heap.objs.size=Θ:=I.aJ.fresh (P8 _);have yT:∀b v,H b=Δ v->b≠e/\b≠it:=λb v q=>⟨(λz=>by rw[z,g0] at q;cases q),(λz=>by rw[z,f0] at q;cases q)⟩;have JO:h2.get? s.heap.objs.size=Δ {cls:=.type "tuple",data:=.seq #[.int i tk,x1]}:=Bt.extBut _ _ JN hT;have I1:Inv X η σ (upd H s.heap.objs.size (.tup [.int i,x])) {s with heap:=h2,toks:=tk+1}:=by
   refine I.step (g':=s.gens) (d':=s.drawn) (ch:=[e,it]) (λb hb=>?_) (λb o _ _ hc q _=>sM b o (λz=>hc (by simp[z])) (λz=>hc (by simp[z])) q) (λb o _ _ hc q _=>⟨o.slots,sM b o (λz=>hc (by simp[z])) (λz=>hc (by simp[z])) q⟩)
    (λb o _ q n=>by rw[av (Qt (Qc q))];exact n) (λb o hc q=>⟨o,sM b o (λz=>hc (by simp[z])) (λz=>hc (by simp[z])) q⟩) (λb xs q=>by rw[av (aL q hn)];exact q) (λb o v q=>by rw[av (aL q hn)];exact q)
    (λb ps q=>⟨#[],by rw[av (aL q hn),q];simp⟩) (λm hm=>?_) (λb v q=>?_) I.bare
   ·have fE:b=e\/b=it:=by simpa using hb
    rcases fE with z|z;·rw[z];exact⟨g3,g1,g4,g5⟩
    ·rw[z];exact⟨f3,f1,f4,f5⟩
   ·obtain⟨o,es,ep,ky,r⟩:=hm;exact⟨o,es,ep,sM _ o (Q5 g1) (Q5 f1) ky,r⟩
   ·by_cases hb:b=s.heap.objs.size;·rw[hb,aA] at q;cases q;rw[hb];exact⟨by rw[Q0];simp,[.int i tk,x1],.cons ⟨tk,rfl⟩ (.cons ru .nil),⟨_,JO,rfl,_,rfl⟩⟩
    ·rw[av hb] at q;refine(I.aJ b v q).iK (λc y hc qq=>?_) (λc qq=>by rw[av (aL qq hn)];exact qq) λc xs qq=>by rw[av (aL qq hn)];exact qq
     have:c≠e/\c≠it:=by
      rcases hc with z|z;·rw[z];exact yT b v q
      ·exact yT c _ z
     exact sM c y this.1 this.2 qq
  refine⟨.ref s.heap.objs.size,_,I1,rfl,⟨s.heap.objs.size,x,hn,rfl,rfl,λys hy=>by rw[I.pA hy hq];exact hx⟩,⟨⟨x1,by simpa using JM⟩,Br.1.at λo q=>Bt.extBut _ _ (Q5 HI) q⟩,λb hb=>?_⟩;have fE:b=e\/b=it:=by simpa using hb
  rcases fE with z|z;·rw[z,av (Q5 JN)];exact g0
  ·rw[z,av (Q5 HJ)];exact f0
 done:=by
  intro X hP hw hK hc i η s σ H E I hf st hg;subst hP hw hK;obtain⟨xs,hq,hx⟩:=hg;obtain⟨aC,rv,p,hz⟩:=I.tuple hq;obtain⟨f0,f1,f2,f3,f4,f5⟩:=hf it (by simp);obtain⟨⟨old,he⟩,hit⟩:=st;have hl:=rv.length;have hT:s.TypeIs (.ref e) "enumerate":=⟨_,he,rfl⟩;unfold Uq;refine PY (Up (QI (name:=Qs "__next__") hT RN
   (QW RN hT PySem.F.entry_enumerate_next ?_ (PySem.F.args_enumerate_next_1 _))))
  show wpAny _ _ (field (.ref e) 2 >>=_) _ _ _;refine PY (QM he rfl (x:=.ref it) rfl ?_);refine PY (fT (I.ok.hd hc) hit (show s.heap.IsTuple a aC.toArray from p) (by simp;lia) λh' y NY ux=>?_);obtain⟨o,ho,uy⟩:=ux;refine PY (Uw (T:="StopIteration") (b:=Λ) ⟨o,ho,uy⟩ UZ ?_);exact P4 ⟨rfl,I.turned (t':=s.toks) (λb o hb q=>NY b o hb q) f0 f1 f3 f4 f5⟩
 self:=λ_ _ _ _ _ st h=>let ⟨old,he⟩:=st.1;S8 he h
section
variable{X:Cx}
def JP(K:P5)(ta:TA):TI:=λσ H R=>ta σ H λvs H1=>∃a,vs=[.ref a]/\(∃xs,de K H1 a xs)/\R (NX K a) H1
theorem zO(hg:Gl X "enumerate")(hm:X.mg "enumerate"=Θ)(ha:PA X [x] ta)(hs:Qo [x] X.env=[(Ξ,eval x X.env)]):
  PI X (.Tuple elts kk p3) (.Call (.Name "enumerate" p) [x] [] pos) (JP X.K ta):=by
 intro η s σ H R I h;refine Call_ (gk I hg hm boot_enumerate (QO (bG (ha pos η s σ H _ I h) λus s1 ⟨vs,H1,I1,r1,q1⟩=>?_) hs rfl) (by decide+kernel) (by decide+kernel));obtain⟨a,rfl,⟨xs,hq⟩,q⟩:=q1;obtain⟨u,rfl,ru⟩:=vals1 r1;cases ru;obtain⟨aC,rv,pl,hz⟩:=I1.tuple hq;refine kO (show s1.heap.IsTuple a aC.toArray from pl) λh' he hit hsz hk=>?_;refine S8 he ?_;have I2:Inv X η σ H1 {s1 with heap:=h'}:=I1.kept (t':=s1.toks) hk;refine⟨s1.heap.objs.size+1,[s1.heap.objs.size+1,s1.heap.objs.size],_,_,H1,rfl,I2,vh a _ _ (Nat.succ_ne_self _),⟨⟨_,he⟩,hit⟩,λb hb=>?_,q⟩;have fE:b=s1.heap.objs.size+1\/b=s1.heap.objs.size:=by simpa using hb
 rcases fE with z|z;·rw[z];exact I1.qp (Q1 _) (I1.aJ.fresh (Q1 _))
 ·rw[z];exact I1.qp (P8 _) (I1.aJ.fresh (P8 _))
end
section
variable{prog:QE}{w:World}{A:QY}{E:Value->Qd->Prop}{s:Qd}
end
section
variable{X:Cx}
end
def cJ(c:Addr)(q:Str):Heap->Prop:=λh=>h.CodeRec (.ref c) q
structure gZ(N P F:List Str)(sc:Scope):Prop where
 kind:sc.kind=.function
 co:sc.isCoroutine=Ξ
 gen:sc.isGenerator=Ξ
 nd:N.Nodup
 pre:N.take (P.length+F.length)=P++F
 par:∀x∈P,sc.names.lookup x=Δ .local
 fre:∀x∈F,sc.names.lookup x=Δ .free
 dH:∀y∈sc.names,y.2≠.cell
 JQ:∀y∈sc.names,y.2=.free->y.1∈F
structure Bu(B:Heap)(cl:List (Str×Addr))(F:List Str)(bN:List V):Prop where
 inj:∀x y c,cl.lookup x=Δ c->cl.lookup y=Δ c->x=y
 only:∀x c,cl.lookup x=Δ c->x∈F
 at_:∀(i:Nat) (x:Str) (v:V),F[i]?=Δ x->bN[i]?=Δ v->∃c u,cl.lookup x=Δ c/\B.IsCell c (Δ u)/\RelV v u
 len:bN.length=F.length
theorem Bu.get(C:Bu B cl F bN)(h:x∈F):∃(i:Nat) (v:V) (c:Addr) (u:Value),F[i]?=Δ x/\bN[i]?=Δ v/\cl.lookup x=Δ c/\B.IsCell c (Δ u)/\RelV v u:=by
 obtain⟨i,hi,e⟩:=List.mem_iff_getElem.mp h;have h1:F[i]?=Δ x:=by rw[Qh hi,e]
 have h2:bN[i]?=Δ (bN[i]'(by rw[C.len];exact hi)):=Qh _;obtain⟨c,u,a,b,d⟩:=C.at_ i x _ h1 h2;exact⟨i,_,c,u,h1,h2,a,b,d⟩
abbrev sN(qual:Str)(scope:Scope)(L f:Addr)(cd:Value)(cl:List (Str×Addr)):Env:=PySem.W.envX qual scope L f cd cl
noncomputable def DW(CX:zh)(P:QE)(w:World)(K:P5)(mg:Str->Option Value)(base:Heap)(N:List Str)(qual:Str)(scope:Scope)(f:Addr)(cd:Value)(cl:List (Str×Addr))(A:QY)(outer:List Env)(s:Qd)(H:Hp)(E:XK):Cx where
 prog:=P
 w:=w
 K:=K
 mg:=mg
 base:=base
 A:=A.deeper (sN qual scope s.heap.objs.size f cd cl)
 N:=N
 dA:=s
 oH:=H
 env:=sN qual scope s.heap.objs.size f cd cl
 outer:=outer
 stack:=sN qual scope s.heap.objs.size f cd cl::outer
 ex:=[]
 calm:=Λ
 fn:=λ_=>Ξ
 pn:=[]
 xe:=λe s'=>wpAny (model P w) (A.deeper (sN qual scope s.heap.objs.size f cd cl)) (leaving (sN qual scope s.heap.objs.size f cd cl) e) (λ_ BQ=>CX outer H s E e BQ) (λe' BQ=>CX outer H s E e' BQ) s'
theorem zP:∀{ps:List Str} {us} {i:Nat} {y:Str} {u:Value},ps.Nodup->ps[i]?=Δ y->us[i]?=Δ u->(ps.zip us).reverse.lookup y=Δ u:=by
 intro ps us i y u nd h1 h2;have hm:(y,u)∈(ps.zip us).reverse:=by rw[List.mem_reverse];refine List.mem_iff_getElem?.mpr ⟨i,?_⟩;rw[List.getElem?_zip_eq_some];exact⟨h1,h2⟩
 have un:∀u',(y,u')∈(ps.zip us).reverse->u'=u:=λu' h'=>by
  rw[List.mem_reverse] at h';obtain⟨j,hj⟩:=List.mem_iff_getElem?.mp h';rw[List.getElem?_zip_eq_some] at hj;obtain⟨a,b⟩:=hj;have hi:i < ps.length:=(qqz h1).1;have NZ:j < ps.length:=(qqz a).1;have e:i=j:=by
   have e1:ps[i]'hi=y:=(qqz h1).2;have e2:ps[j]'NZ=y:=(qqz a).2;rcases Nat.lt_trichotomy i j with z|z|z;·exact absurd (e1.trans e2.symm) (List.pairwise_iff_getElem.mp (List.nodup_iff_pairwise_ne.mp nd) i j hi NZ z)
   ·exact z
   ·exact absurd (e2.trans e1.symm) (List.pairwise_iff_getElem.mp (List.nodup_iff_pairwise_ne.mp nd) j i NZ hi z)
  subst e;rw[h2] at b;exact(Qx b).symm
 cases q:(ps.zip us).reverse.lookup y with
 |none=>
  exfalso;have key:∀(l:List (Str×Value)),(y,u)∈l->l.lookup y≠Θ:=λl=>by
   induction l with
   |nil=>intro h;cases h|cons p l ih=>
    intro h;obtain⟨p1,p2⟩:=p;rw[Ql];rcases Uu.mp h with e|e;·injection e with e1 _;rw[<-e1];simp
    ·cases hb:y==p1 with|true=>exact λz=>nomatch z|false=>exact ih e
  exact key _ hm q
 |some u'=>rw[un u' (QG q)]
theorem wI{K:P5}(S:gZ N ps F scope)(C:Bu base cl F bN)(hd:A.handled=Θ)(e0:qu P w K mg base A outer s H)(hl:vs.length=ps.length)(r:aM vs us)(Ci:cI.Ns s.heap.objs.size (λx=>(ps.zip us).reverse.lookup x))(hk:∀b o,s.heap.get? b=Δ o->cI.get? b=Δ o):
  Inv (DW CX P w K mg base N qual scope f cd cl A outer s H E) [] (start N (vs++bN)) H {s with heap:=cI,toks:=tk}:=by
 have oJ:ps.length+F.length<=N.length:=by have:=congrArg List.length S.pre;rw[SH,Qp] at this;lia
 have Bm:∀b:Addr,b∉(DW CX P w K mg base N qual scope f cd cl A outer s H E).ex:=λb z=>absurd (show b∈([]:List Addr) from z) (by simp);have old:∀b o,base.get? b=Δ o->cI.get? b=Δ o:=λb o e=>hk b o (e0.bs b o e).1;have zQ:∀x c,cl.lookup x=Δ c->∃u,base.IsCell c (Δ u):=λx c h=>by obtain⟨i,v,c',u,_,_,h3,h4,_⟩:=C.get (C.only x c h);rw[h] at h3;cases h3;exact⟨u,h4⟩
 refine⟨⟨e0.mod,S.kind,rfl,rfl,P8 _,λy z c h1 h2=>C.inj y z c h1 h2,λy hy=>?_,(λy c h _=>absurd (show Ξ=Λ from h) (by decide)),λ_=>hd,QY.frames_deeper e0.frames,.inr ⟨rfl,rfl⟩,λb z=>absurd z (Bm b),e0.bs,e0.xq,λb _ _=>Bm b,λb z=>absurd z (Bm b),e0.fO,e0.xt⟩,
  rfl,e0.bare,Un.kept hk,⟨_,Ci,λi y v h1 h2 h3=>?_⟩,λy c h=>?_,e0.aJ.fresh (P8 _),λy c h=>?_,λp hp=>absurd (show p∈([]:List (Addr×Obj)) from hp) (by simp),e0.aJ.kept hk,?_⟩
 ·have hy:scope.names.lookup y=Δ .cell\/scope.names.lookup y=Δ .free:=hy;rcases hy with hy|hy;·exact absurd rfl (S.dH _ (QG hy))
  ·obtain⟨_,_,c,_,_,_,h,_⟩:=C.get (S.JQ _ (QG hy) rfl);exact⟨c,h⟩
 ·have hlen:(vs++bN).length=ps.length+F.length:=by rw[Qp,hl,C.len]
  have hi:i < (vs++bN).length:=by
   unfold start at h2;by_cases hi:i < (vs++bN).length;·exact hi
   ·rw[Qu (by simpa using hi)] at h2;rw[RK] at h2;split at h2<;>cases h2
  have ha:(vs++bN)[i]?=Δ v:=by unfold start at h2;rw[Qn (by simpa using hi),QA] at h2;cases e:(vs++bN)[i]? with|none=>rw[e] at h2;cases h2|some a=>rw[e] at h2;cases h2;rfl
  have hp:(ps++F)[i]?=Δ y:=by rw[<-S.pre,List.getElem?_take_of_lt (by lia)];exact h1
  have LW:ps.Nodup:=by
   have:(ps++F).Nodup:=by rw[<-S.pre];exact S.nd.sublist (List.take_sublist _ _)
   exact(List.nodup_append.mp this).1
  by_cases xY:i < vs.length;·rw[Qn xY] at ha;rw[Qn (by lia)] at hp;obtain⟨u,hu,rv⟩:=r.get ha;exact⟨u,rv,.inl ⟨S.par y (Q2 hp),zP LW hp hu⟩⟩
  ·rw[Qu (by lia)] at ha;rw[Qu (by lia),<-hl] at hp;obtain⟨c,u,hc,jB,rv⟩:=C.at_ _ y v hp ha;exact⟨u,rv,.inr ⟨.inr (S.fre y (Q2 hp)),c,hc,jB.keeps old⟩⟩
 ·obtain⟨u,hc⟩:=zQ y c h;exact⟨_,hc.keeps old⟩
 ·obtain⟨u,o,ho,_⟩:=zQ y c h;exact(e0.bs c o ho).2
 ·unfold start;show _=N.length;rw[Qp,Qv,Sv,Qp,hl,C.len]
  lia
section
variable{CX:zh}{P:QE}{w:World}{K:P5}{mg:Str->Option Value}{base:Heap}{k:Nat}{f:Addr}{name qual:Str}{params:R4}{scope:Scope}{cl:List (Str×Addr)}{dV kV doc pm gK ct oc:Value}{an od:Option Addr}
  {Bo:Array (Option Value)} {N ps F:List Str} {bN:List V} {sp:Sp}
theorem Fb(lk:base.get? f=Δ ⟨oc,od,.func (Vu name qual params body scope cl dV kV doc pm an gK ct),Bo⟩)(iR:∀vs H Q E,sp vs H Q E->∃c,gK=.ref c/\H c=Δ (.ext (cJ c qual)))(S:gZ N ps F scope)(C:Bu base cl F bN)(len:∀vs H Q E,sp vs H Q E->vs.length=ps.length)(e7:∀(A:QY) (outer:List Env) (s:Qd) (H:Hp) (vs:List V) (Q:VK) (E:XK),cb k (A.deeper (sN qual scope s.heap.objs.size f gK cl))->sp vs H Q E->
   ∃t,iq (DW CX P w K mg base N qual scope f gK cl A outer s H E) body t/\t {nx:=λ_ H'=>Q .bu H',rt:=Q} (start N (vs++bN)) H):
  cz P w K mg base CX (k+1) f (Vu name qual params body scope cl dV kV doc pm an gK ct) ps sp:=by
 refine⟨len,λA outer s H args us vs Q E hr e0 hb r qv=>?_⟩;have hl:=len _ _ _ _ qv;have old:∀b o,base.get? b=Δ o->s.heap.get? b=Δ o:=λb o e=>(e0.bs b o e).1;have lim:s.heap.NoLimit:=e0.mod.nolimit.keeps old;have Fc:s.heap.CodeRec gK qual:=by obtain⟨c,rfl,hc⟩:=iR _ _ _ _ qv;exact(e0.aJ c _ hc).1
 have zR:∀y∈ps.zip us,scope.names.lookup y.1=Δ .local:=λ⟨n,v⟩ hy=>S.par n (Sq hy).1;refine codeAny_call_function hr.depth (old _ _ lk) rfl S.co S.gen rfl Fc (hb _ _ _ _ ?_);refine Sy S.dH zR (λcI Ci Fd=>⟨lim.fresh _ Fd,codeAny_func ?_⟩) S.kind;have hk:∀b o,s.heap.get? b=Δ o->cI.get? b=Δ o:=λb o e=>Fd.extBut b o (Qt (Qc e)) (P0 _ e);obtain⟨t,ht,hq⟩:=e7 A outer s H vs Q E (hr.deeper _) qv;have I:=wI (CX:=CX) (qual:=qual) (f:=f) (cd:=gK) (tk:=s.toks+(ps.zip us).length) (E:=E) S C hr.hd e0 hl r Ci hk;refine QS (ht [] _ (start N (vs++bN)) H _ I hq) (λfl s' hs=>?_) λe s' hs=>hs;have fin:∀{cn:St} {H':Hp} {v:V} {u:Value},Inv (DW CX P w K mg base N qual scope f gK cl A outer s H E) [] cn H' s'->RelV v u->Q v H'->CE outer P w H s Q u s':=
  λ{cn H' v u} J rv q=>⟨v,H',J.os,J.bare,J.base,J.aJ,rv,q⟩
 cases fl with|ret u=>obtain⟨v,cn,H',J,rv,q⟩:=hs;exact fin J rv q|next=>obtain⟨cn,H',J,q⟩:=hs;exact fin (v:=V.bu) (u:=RB) J rfl q|brk=>obtain⟨_,_,_,q⟩:=hs;exact QB q|cont=>obtain⟨_,_,_,q⟩:=hs;exact QB q
theorem Fe(lk:base.get? f=Δ ⟨oc,od,.func (U0 name qual params body scope cl pm gK ct),Bo⟩)(iR:∀vs H Q E,sp vs H Q E->∃c,gK=.ref c/\H c=Δ (.ext (cJ c qual)))(S:gZ N ps F scope)(C:Bu base cl F bN)(len:∀vs H Q E,sp vs H Q E->vs.length=ps.length)(e7:∀(A:QY) (outer:List Env) (s:Qd) (H:Hp) (vs:List V) (Q:VK) (E:XK),cb k (A.deeper (sN qual scope s.heap.objs.size f gK cl))->sp vs H Q E->
   ∃t,PE (DW CX P w K mg base N qual scope f gK cl A outer s H E) body t/\t (start N (vs++bN)) H Q):
  cz P w K mg base CX (k+1) f (U0 name qual params body scope cl pm gK ct) ps sp:=by
 refine⟨len,λA outer s H args us vs Q E hr e0 hb r qv=>?_⟩;have hl:=len _ _ _ _ qv;have old:∀b o,base.get? b=Δ o->s.heap.get? b=Δ o:=λb o e=>(e0.bs b o e).1;have lim:s.heap.NoLimit:=e0.mod.nolimit.keeps old;have Fc:s.heap.CodeRec gK qual:=by obtain⟨c,rfl,hc⟩:=iR _ _ _ _ qv;exact(e0.aJ c _ hc).1
 have zR:∀y∈ps.zip us,scope.names.lookup y.1=Δ .local:=λ⟨n,v⟩ hy=>S.par n (Sq hy).1;refine PySem.W.kla_callFunE hr.depth (old _ _ lk) rfl S.co S.gen rfl Fc (hb _ _ _ _ ?_);refine Sy S.dH zR (λcI Ci Fd=>⟨lim.fresh _ Fd,PySem.W.kla_codeExpr ?_⟩) S.kind;have hk:∀b o,s.heap.get? b=Δ o->cI.get? b=Δ o:=λb o e=>Fd.extBut b o (Qt (Qc e)) (P0 _ e);obtain⟨t,ht,hq⟩:=e7 A outer s H vs Q E (hr.deeper _) qv;have I:=wI (CX:=CX) (qual:=qual) (f:=f) (cd:=gK) (tk:=s.toks+(ps.zip us).length) (E:=E) S C hr.hd e0 hl r Ci hk;refine QS (ht [] _ (start N (vs++bN)) H _ I hq) (λu s' hs=>?_) λe s' hs=>hs;obtain⟨v,H',J,rv,q⟩:=hs;exact⟨v,H',J.os,J.bare,J.base,J.aJ,rv,q⟩
end
open Classical in
noncomputable def eA(H:Hp):Hp:=λb=>match H b with|some (.ext φ)=>if ∃q,φ=cJ b q then Δ (.ext φ) else Θ|o=>o
open Classical in
noncomputable def sP(H H2:Hp):Hp:=λb=>match H b with|some (.ext φ)=>if ∃q,φ=cJ b q then H2 b else Δ (.ext φ)|_=>H2 b
def vi(b:Addr)(φ:Heap->Prop):Prop:=∀q,φ≠cJ b q
theorem gw(h:H b=Θ):eA H b=Θ:=by unfold eA;rw[h]
theorem qG(h:H b=Δ (.ext φ))(hf:vi b φ):eA H b=Θ:=by unfold eA;rw[h];exact if_neg λ⟨q,e⟩=>hf q e
theorem dU(h:H b=Δ (.ext (cJ b q))):eA H b=Δ (.ext (cJ b q)):=by unfold eA;rw[h];exact if_pos ⟨q,rfl⟩
theorem g6(h:eA H b=Δ o):H b=Δ o/\∀φ,o=.ext φ->¬vi b φ:=by
 unfold eA at h;split at h
 ·rename_i φ e;split at h;·rename_i hq;cases h;obtain⟨q,hq⟩:=hq;exact⟨e,λψ z hf=>by cases z;exact hf q hq⟩
  ·cases h
 ·rename_i mY;exact⟨h,λφ z=>absurd (h.trans (by rw[z])) (mY φ)⟩
theorem bj(h:H b=Δ o)(mY:∀φ,o≠.ext φ):eA H b=Δ o:=by unfold eA;rw[h];cases o with|ext φ=>exact absurd rfl (mY φ)|_=>rfl
theorem wJ(h:H b=Δ (.ext φ))(hf:vi b φ):sP H H2 b=Δ (.ext φ):=by unfold sP;rw[h];exact if_neg λ⟨q,e⟩=>hf q e
theorem m9(h:∀φ,H b=Δ (.ext φ)->¬vi b φ):sP H H2 b=H2 b:=by
 unfold sP;split;·rename_i φ q;have:∃q,φ=cJ b q:=QR λz=>h φ q λq' e=>z ⟨q',e⟩;exact if_pos this
 ·rfl
noncomputable def l6(h:Heap)(H:Hp)(fs:List Addr):Heap:=PySem.W.hideAll (lX h (eA H)) fs
theorem zS h H fs:(l6 h H fs).objs.size=h.objs.size:=(PySem.W.hideAll_size _ _).trans (pz _ _)
theorem qH(e:h.get? b=Δ o)(n:eA H b=Θ)(hb:b∉fs):(l6 h H fs).get? b=Δ o:=PySem.W.hideAll_get _ (r8 e n) hb
theorem Ff(e:(l6 h H fs).get? b=Δ o):h.get? b=Δ o/\eA H b=Θ:=wg (PySem.W.of_hideAll _ e)
theorem zT(hb:b∈fs):(l6 h H fs).get? b=Θ:=PySem.W.hideAll_none _ hb
theorem gi.eA{P:QE}{w:World}{H:Hp}{h:Heap}(x:gi P w H h):gi P w (eA H) h:=λa o e=>by obtain⟨e1,_⟩:=g6 e;exact(x a o e1).iK (λ_ _ _ z=>z) (λb z=>bj z (λ_ q=>nomatch q)) λb xs z=>bj z (λ_ q=>nomatch q)
theorem funFrames_base{h base sQ:Heap}:∀{l},(∀b∈dz l,sQ.get? b=Θ)->h.FunFrames base l->h.FunFrames sQ l
 |[],_,_=>trivial|env::r,hb,⟨hk,⟨L,o,hf,hn,ho,hd⟩,hr⟩=>by
  have e:dz (env::r)=L::dz r:=by unfold dz;rw[Ru,hf]
  rw[e] at hb;exact⟨hk,⟨L,o,hf,hb L P7,ho,hd⟩,funFrames_base (λb z=>hb b (P6 _ z)) hr⟩
section
variable{X:Cx}{η:List (Addr×Obj)}{σ:St}{H:Hp}{s s':Qd}
theorem Inv.zU(I:Inv X η σ H s)(e:X.base.get? b=Δ o):(l6 s.heap H (dz X.stack)).get? b=Δ o:=by
 obtain⟨h1,h2⟩:=I.bs b o e;refine qH h1 (gw h2) λz=>?_;rcases Uu.mp (I.kz b z) with q|q;·have l1:=Qc e;have l2:=I.ok.xq;have l3:=I.ok.above;exact Rm _ (Qj l1 (QJ l2 (by rw[q];exact l3)))
 ·exact I.ok.BB e q
theorem Inv.N1(I:Inv X η σ H s):Mod X.K X.mg (l6 s.heap H (dz X.stack)):=by have k:∀b o,X.base.get? b=Δ o->(l6 s.heap H (dz X.stack)).get? b=Δ o:=λb o e=>I.zU e;obtain⟨mb,h1,h2⟩:=I.mod.blt;exact⟨I.mod.wj.keeps k,I.mod.glob.keeps k,⟨mb,h1.keeps k,h2⟩,I.mod.nolimit.keeps k⟩
theorem Inv.JR(I:Inv X η σ H s):qu X.prog X.w X.K X.mg (l6 s.heap H (dz X.stack)) X.A X.stack s (eA H):=
 ⟨I.ok.frames,I.N1,λb o e=>Ff e,TZ (zS _ _ _),funFrames_base (λb hb=>zT hb) I.stack,λb hb=>gw (I.jz b hb),I.aJ.eA,I.bare⟩
theorem Inv.Fg(I:Inv X η σ H s)(h:CE X.stack X.prog X.w (eA H) s Q u s'):EP X η σ (λv H3=>∃H2,H3=sP H H2/\(∀b φ,H b=Δ (.ext φ)->vi b φ->H2 b=Θ)/\Q v H2) u s':=by
 obtain⟨v,H2,os,bare,un,aJ,r,q⟩:=h;have BB:∀b φ,H b=Δ (.ext φ)->b∉dz X.stack:=λb φ e z=>by rw[I.jz b z] at e;cases e
 have kept:∀b φ,H b=Δ (.ext φ)->vi b φ->H2 b=Θ/\φ s'.heap/\∃o,s'.heap.get? b=Δ o:=λb φ e hf=>by obtain⟨p1,⟨o,p2⟩,p3⟩:=I.aJ b _ e;have k1:=un.keep b o p2 (qG e hf) (BB b φ e) (by simp);exact⟨un.free b o p2 (qG e hf) (by simp),p3 _ _ p1 (λo' ky=>by rw[p2] at ky;cases ky;exact k1),o,k1⟩
 have mono:∀b o,H2 b=Δ o->sP H H2 b=Δ o:=λb o e=>by rw[m9 λφ z hf=>by rw[(kept b φ z hf).1] at e;cases e];exact e
 refine I.after ⟨v,sP H H2,os,bare,⟨λb o e n hb hx=>un.keep b o e (gw n) hb hx,λb o e n hb hx=>un.slot b o e (gw n) hb hx,λb o e n hx=>?_,λb o e hx=>un.there b o e hx,λb xs e=>?_,λb o x e=>?_,λb ps e=>?_⟩,λb o e=>?_,r,H2,rfl,λb φ e hf=>(kept b φ e hf).1,q⟩;·rw[m9 λφ z _=>by rw[n] at z;cases z];exact un.free b o e (gw n) hx
 ·exact mono _ _ (un.ku b xs (bj e (λ_ z=>nomatch z)))
 ·exact mono _ _ (un.i5 b o x (bj e (λ_ z=>nomatch z)))
 ·obtain⟨more,e2⟩:=un.jy b ps (bj e (λ_ z=>nomatch z));exact⟨more,mono _ _ e2⟩
 ·by_cases c:∃φ,H b=Δ (.ext φ)/\vi b φ;·obtain⟨φ,c,hf⟩:=c;rw[wJ c hf] at e;cases e;obtain⟨_,_,p3⟩:=I.aJ b _ c;obtain⟨_,k2,k3⟩:=kept b φ c hf;exact⟨k2,k3,p3⟩
  ·rw[m9 λφ z hf=>c ⟨φ,z,hf⟩] at e;exact(aJ b o e).iK (λ_ _ _ z=>z) (λb' z=>mono _ _ z) λb' xs z=>mono _ _ z
theorem Cj(I:Inv X η σ H s)(F:cz X.prog X.w X.K X.mg (l6 s.heap H (dz X.stack)) ju k f fd ps sp)(hr:cb k X.A)(hb:T3 s fd ⟨us,[]⟩ (ps.zip us))(r:aM vs us)(h:sp vs (eA H) Q E0):wpAny (model X.prog X.w) X.A (call (.ref f) us) (EP X η σ (λv H3=>∃H2,H3=sP H H2/\(∀b φ,H b=Δ (.ext φ)->vi b φ->H2 b=Θ)/\Q v H2)) X.xe s:=by refine UK (SG (F.run X.A X.stack s (eA H) ⟨us,[]⟩ us vs Q E0 hr I.JR hb r h) λr s' hq=>?_);cases r with|error e=>exact QB hq|ok fl=>cases fl with|ret u=>exact I.Fg hq|next=>exact QB hq|brk=>exact QB hq|cont=>exact QB hq
def Fh(X:Cx)(i:Nat)(t:TA):TE:=λσ H Q=>∃a,σ[i]?=Δ (Δ (.ref a))/\(∃oc od fd sl,X.base.get? a=Δ ⟨oc,od,.func fd,sl⟩)/\t σ H λvs H1=>∃k fd ps sp,cz X.prog X.w X.K X.mg X.base ju k a fd ps sp/\cb k X.A/\Binds X.K fd ps []/\sp vs H1 Q E0
theorem zV(hN:X.N[i]?=Δ x)(hv:Il X.env.scope x)(ha:PA X (e::es) t)(hd:(x==("__debug__":Str))=Ξ:=by decide)(iR:(x==("__classdict__":Str))=Ξ:=by decide)(he:Qo (e::es) X.env=(Ξ,eval e X.env)::Qo es X.env:=by rfl)(oJ:(Rx pos (Qo es X.env)).any (·.1)=Ξ:=by rfl):
  PE X (.Call (.Name x p) (e::es) [] pos) (Fh X i t):=by
 intro η s σ H Q I h;obtain⟨a,ea,⟨oc,od,fd0,sl,eo⟩,h⟩:=h;refine QN (QS (mJ (pos:=p) hN hv hd iR η s σ H (λv H'=>v=.ref a/\H'=H) I ⟨_,ea,rfl,rfl⟩) (λu s0 ⟨v,H0,I0,rv,ev,eH⟩=>?_) λ_ _ z=>z);subst ev;subst eH;obtain rfl:u=Qr a:=rv;have JS:∀{η:List (Addr×Obj)} {σ:St} {H:Hp} {s:Qd},Inv X η σ H s->PySem.W.FnAt a s.heap:=λJ=>⟨oc,od,fd0,sl,J.bk _ _ eo⟩;refine PySem.W.callWith_F (JS I0) (bG (ha pos η s0 σ H0 _ I0 h) λus s1 ⟨vs,H1,I1,r,k,fd,ps,sp,F,hr,hb,q⟩=>⟨JS I1,?_⟩) he oJ;exact mP F hr hb (dvs:=[]) (ds:=[]) (E:=E0) .nil (λ_ _ _ _ _ _ _ z=>z.elim) I1 r (by rw[QK];exact q)
end
def dF(H:Hp)(bL:List (Pos×Str))(ps:Array Value):Prop:=T5 ps.toList/\∀p∈bL,∀cv,Sf p.1 ps.toList=Δ cv->∃c,cv=.ref c/\H c=Δ (.ext (cJ c p.2))
noncomputable def BMain(mg:Str->Option Value)(B:Heap):Prop:=∃bm ob,mg "__builtins__"=Δ (.ref bm)/\bm≠UN/\B.get? bm=Δ ob/\ob.cls=.type "module"/\ob.dict=Δ UN/\ob.data=.plain
structure Made(H H':Hp)(P f c:Addr)(bL:List (Pos×Str))(q:Str)(φ:Heap->Prop):Prop where
 fresh:H f=Θ
 fn:H' f=Δ (.ext φ)
 code:H' c=Δ (.ext (cJ c q))
 tab:∃ps,H' P=Δ (.dc ps)/\dF H' bL ps
 keep:∀b u,H b=Δ u->b≠P->H' b=Δ u
 grow:∀ps,H P=Δ (.dc ps)->∃more,H' P=Δ (.dc (ps++more))
 new:∀b,H b=Θ->H' b=Θ\/∃ψ,H' b=Δ (.ext ψ)
theorem jP:∀(l),T5 l->T5 (l++[.int i ti,.int j tj,c])
 |[],_=>trivial|.int _ _::.int _ _::_::rest,h=>jP rest h
theorem iV{pos p:Pos}(mY:¬(p.line=pos.line/\p.col=pos.col)):∀(l),T5 l->Sf pos (l++[RD p.line,RD p.col,c])=Sf pos l
 |[],_=>by show(if((p.line:Int)==(pos.line:Int)&&(p.col:Int)==(pos.col:Int))=Λ then Δ c else Θ)=Θ;rw[if_neg];rw[PZ,beq_iff_eq,beq_iff_eq];rintro⟨a,b⟩;exact mY ⟨by lia,by lia⟩
 |.int a ta::.int b tb::d::rest,h=>by have ih:=iV (c:=c) mY rest h;simp only[List.cons_append,Sf];rw[ih]
theorem l7 l(h:T5 l)(hn:Sf p l=Θ):Sf p (l++[RD p.line,RD p.col,c])=Δ c:=codeAmong_snoc l h hn
theorem sR{p:Pos}(h:T5 l):T5 (l++[RD p.line,RD p.col,c]):=jP l h
def Apart(bL:List (Pos×Str)):Prop:=∀p∈bL,∀q∈bL,p.1.line=q.1.line/\p.1.col=q.1.col->p=q
section
variable{X:Cx}{η:List (Addr×Obj)}{σ:St}{H:Hp}{s:Qd}
theorem Inv.sS(N2:fo.isFreed=Ξ)(I:Inv X η σ H s)(hP:H P=Δ (.dc ps))(tb:dF H bL ps)(hs:(pos,q)∈bL)(ap:Apart bL)(hnf:Sf pos ps.toList=Θ)(hx:Heap.ExtBut P s.heap h')(Fi:s.heap.objs.size<=c')(fD:c' < h'.objs.size)(qI:h'.CodeRec (.ref c') q)(HK:h'.get? P=Δ (Sg (ps++#[RD pos.line,RD pos.col,.ref c'])))(hf:f=h'.objs.size)φ(h1:φ (h'.push fo))(h2:∀g1 g2:Heap,φ g1->(∀o,g1.get? f=Δ o->g2.get? f=Δ o)->φ g2):
  ∃H',Inv X η σ H' {s with heap:=h'.push fo,toks:=tk}/\Made H H' P f c' bL q φ:=by
 have Fj:s.heap.get? P=Δ (Sg ps):=I.aJ P _ hP;have lP:P < s.heap.objs.size:=Qc Fj;have fr:∀b,s.heap.objs.size<=b->H b=Θ:=λb hb=>I.aJ.fresh hb;have lcf:c' < f:=by rw[hf];exact fD
 have Fm:s.heap.objs.size < f:=S0 Fi lcf;have nPc:c'≠P:=QT (Qj lP Fi);have nPf:f≠P:=QT (TY lP Fm);have ncf:f≠c':=QT lcf;have Md:∀b,b < s.heap.objs.size->b≠c'/\b≠f:=λb hb=>⟨Qt (Qj hb Fi),Qt (TY hb Fm)⟩;obtain⟨cc,oc,vs,tt,ecc,En,hd,hv⟩:=qI;cases ecc
 let H':Hp:=upd (upd (upd H P (.dc (ps++#[RD pos.line,RD pos.col,.ref c']))) c' (.ext (cJ c' q))) f (.ext φ)
 have eP:H' P=Δ (.dc (ps++#[RD pos.line,RD pos.col,.ref c'])):=by show upd _ _ _ P=_;rw[av (Q5 nPf),av (Q5 nPc),aA]
 have ec:H' c'=Δ (.ext (cJ c' q)):=by show upd _ _ _ c'=_;rw[av (Q5 ncf),aA]
 have ef:H' f=Δ (.ext φ):=aA;have eo:∀b,b≠P->b≠c'->b≠f->H' b=H b:=λb n1 n2 n3=>by show upd _ _ _ b=_;rw[av n3,av n2,av n1]
 have hsf:s.heap.objs.size<=f:=Te Fm;have hold:∀b u,H b=Δ u->b≠P->H' b=Δ u:=λb u e n=>by
  have hb:b < s.heap.objs.size:=by
   rcases Nat.lt_or_ge b s.heap.objs.size with z|z;·exact z
   ·rw[fr b z] at e;cases e
  rw[eo b n (Md b hb).1 (Md b hb).2];exact e
 have kp:∀b o,b≠P->s.heap.get? b=Δ o->(h'.push fo).get? b=Δ o:=λb o n e=>P0 _ (hx b o n e);refine⟨H',I.yU (ch:=[]) rfl ⟨λb o e n _ _=>?_,λb o e n _ _=>⟨o.slots,?_⟩,λb o e n _=>?_,λb o e _=>?_,λb xs e=>?_,λb o x e=>?_,λb qs e=>?_⟩ (λb o e=>?_) I.bare (λb z=>absurd z (by simp)),⟨fr f hsf,ef,ec,⟨_,eP,?_,?_⟩,hold,λqs e=>⟨#[RD pos.line,RD pos.col,.ref c'],?_⟩,λb n=>?_⟩⟩;·exact kp b o (λz=>by rw[z,hP] at n;cases n) e
 ·exact kp b o (λz=>by rw[z,hP] at n;cases n) e
 ·have lb:=Qc e;rw[eo b (λz=>by rw[z,hP] at n;cases n) (Md b lb).1 (Md b lb).2];exact n
 ·by_cases z:b=P;·subst z;exact⟨_,P0 _ HK⟩
  ·exact⟨o,kp b o z e⟩
 ·exact hold b _ e λz=>by rw[z,hP] at e;cases e
 ·exact hold b _ e λz=>by rw[z,hP] at e;cases e
 ·by_cases z:b=P;·subst z;rw[hP] at e;cases e;exact⟨_,eP⟩
  ·exact⟨#[],by rw[hold b _ e z];simp⟩
 ·by_cases z1:b=f;·subst z1;rw[ef] at e;cases e;exact⟨h1,⟨fo,by rw[hf];exact Qe _ N2⟩,h2⟩
  ·by_cases z2:b=c';·subst z2;rw[ec] at e;cases e;refine⟨⟨b,oc,vs,tt,rfl,P0 _ En,hd,hv⟩,⟨oc,P0 _ En⟩,λg1 g2 ⟨c2,o2,v2,t2,e2,a2,r2⟩ k=>?_⟩;cases e2;exact⟨b,o2,v2,t2,rfl,k _ a2,r2⟩
   ·by_cases z3:b=P;·subst z3;rw[eP] at e;cases e;exact P0 _ HK
    ·rw[eo b z3 z2 z1] at e;refine(I.aJ b o e).iK (λb' u fE eu=>?_) (λb' z=>hold b' _ z λy=>by rw[y,hP] at z;cases z) λb' xs z=>hold b' _ z λy=>by rw[y,hP] at z;cases z
     refine kp b' u (λy=>?_) eu;rcases fE with w1|w1;·exact z3 (w1▸y)
     ·rw[y,hP] at w1;cases w1
 ·rw[Array.toList_append];exact sR tb.1
 ·intro p hp cv uz;rw[Array.toList_append] at uz;by_cases z:pos.line=p.1.line/\pos.col=p.1.col;·have e:=ap (pos,q) hs p hp z;subst e;have:Sf pos (ps.toList++[RD pos.line,RD pos.col,.ref c'])=Δ (.ref c'):=l7 _ tb.1 hnf;have JT:Sf pos (ps.toList++[RD pos.line,RD pos.col,.ref c'])=Δ cv:=uz;rw[this] at JT;cases JT;exact⟨c',rfl,ec⟩
  ·have:Sf p.1 (ps.toList++[RD pos.line,RD pos.col,.ref c'])=Δ cv:=uz;rw[iV z _ tb.1] at this;obtain⟨c,e1,e2⟩:=tb.2 p hp cv this;exact⟨c,e1,hold c _ e2 λy=>by rw[y,hP] at e2;cases e2⟩
 ·rw[hP] at e;cases e;exact eP
 ·by_cases z1:b=f;·subst z1;exact .inr ⟨_,ef⟩
  ·by_cases z2:b=c';·subst z2;exact .inr ⟨_,ec⟩
   ·have z3:b≠P:=λy=>by rw[y,hP] at n;cases n
    rw[eo b z3 z2 z1];exact .inl n
theorem Inv.sT{h':Heap}(N2:fo.isFreed=Ξ)(I:Inv X η σ H s)(hP:H P=Δ (.dc ps))(tb:dF H bL ps)(iR:H c'=Δ (.ext (cJ c' q)))(hk:∀b o,s.heap.get? b=Δ o->h'.get? b=Δ o)(hsz:s.heap.objs.size<=h'.objs.size)(hf:f=h'.objs.size)φ(h1:φ (h'.push fo))(h2:∀g1 g2:Heap,φ g1->(∀o,g1.get? f=Δ o->g2.get? f=Δ o)->φ g2):
  ∃H',Inv X η σ H' {s with heap:=h'.push fo,toks:=tk}/\Made H H' P f c' bL q φ:=by
 have Fm:s.heap.objs.size<=f:=by rw[hf];exact hsz
 have hn:H f=Θ:=I.aJ.fresh Fm;have kp:∀b o,s.heap.get? b=Δ o->(h'.push fo).get? b=Δ o:=λb o e=>P0 _ (hk b o e);have hold:∀b u,H b=Δ u->upd H f (.ext φ) b=Δ u:=λb u e=>by rw[av (aL e hn)];exact e
 refine⟨upd H f (.ext φ),I.yU (ch:=[]) rfl (Un.laid kp Fm hn) (I.aJ.laid kp Fm ⟨h1,⟨fo,by rw[hf];exact Qe _ N2⟩,h2⟩) I.bare (λb z=>absurd z (by simp)),⟨hn,aA,hold _ _ iR,⟨ps,hold _ _ hP,tb.1,λp hp cv uz=>?_⟩,λb u e _=>hold b u e,λqs e=>⟨#[],by rw[hold _ _ e];simp⟩,λb n=>?_⟩⟩;·obtain⟨c,e1,e2⟩:=tb.2 p hp cv uz;exact⟨c,e1,hold _ _ e2⟩
 ·by_cases z:b=f;·subst z;exact .inr ⟨_,aA⟩
  ·rw[av z];exact .inl n
structure Maker(X:Cx)(c P:Addr)(bL:List (Pos×Str)):Prop where
 code:X.env.code=.ref c
 hd:RF X.base c P
 bm:BMain X.mg X.base
 ap:Apart bL
theorem Maker.bt(M:Maker X c P bL)(I:Inv X η σ H s)(hP:H P=Δ (.dc ps)):Qa≠P/\s.heap.BuiltinsAt X.mg P:=by
 obtain⟨bm,ob,b1,b2,b3,b4,b5,b6⟩:=M.bm;obtain⟨og,es,ep,g1,g2,_⟩:=I.mod.glob;have n1:Qa≠P:=λz=>by have:=(I.bs _ _ g1).2;rw[z,hP] at this;cases this
 have n2:bm≠P:=λz=>by have:=(I.bs _ _ b3).2;rw[z,hP] at this;cases this
 have n3:bm≠Qa:=λz=>by rw[z,g1] at b3;cases b3;rw[g2] at b6;cases b6
 exact⟨n1,bm,ob,b1,b2,n3,n2,I.bk _ _ b3,b4,b5,b6⟩
noncomputable def N3(f:Addr)(qual:Str)(params:R4)(body:Expr)(scope:Scope)(vk:List (Str×Addr))(pm:Value)(c:Addr)(ct:Value):Heap->Prop:=λh=>h.get? f=Δ (PySem.W.kla_obj "<lambda>" qual params body scope vk pm c ct)
def N4(X:Cx)(P:Addr)(bL:List (Pos×Str))(qual:Str)(φ:Addr->Addr->Value->Heap->Prop):TE:=λσ H Q=>∃ps,H P=Δ (.dc ps)/\dF H bL ps/\
 ∀f c ct H',Made H H' P f c bL qual (φ f c ct)->Q (.ref f) H'
theorem Fo(M:Maker X c P bL)(hs:(pos,X.env.qual++"<lambda>")∈bL)(N5:defaultsOf params X.env=([],[]))(uy:T7 scope X.env=pure vk)(h1:∀f c ct h,N3 f (X.env.qual++"<lambda>") params body scope vk ((X.mg "__name__").getD .none) c ct h->φ f c ct h)(h2:∀f c ct (g1 g2:Heap),φ f c ct g1->(∀o,g1.get? f=Δ o->g2.get? f=Δ o)->φ f c ct g2):
  PE X (.Lambda params body scope pos) (N4 X P bL (X.env.qual++"<lambda>") φ):=by
 intro η s σ H Q I h;obtain⟨ps,hP,tb,h⟩:=h;have Fj:s.heap.get? P=Δ (Sg ps):=I.aJ P _ hP;obtain⟨N6,hb⟩:=M.bt I hP;have hg:s.heap.Ns Qa X.mg:=I.mod.glob.keeps I.bk;refine PySem.W.kla_eval N5 ?_;cases hf:Sf pos ps.toList with|none=>refine PySem.W.kla_makeFunction uy I.ok.glob hg M.code (M.hd.keeps I.bk) Fj tb.1 hf N6 hb λc' Fp h' tk hx Fi fD qI HK=>?_;obtain⟨H',I',md⟩:=Inv.sS rfl I (f:=h'.objs.size) (tk:=tk) hP tb hs M.ap hf hx Fi fD qI HK rfl (φ h'.objs.size c' Fp) (h1 _ _ _ _ (Qe _ rfl)) (h2 _ _ _);exact⟨.ref h'.objs.size,H',I',rfl,h _ _ _ _ md⟩|some cv=>obtain⟨c',rfl,iR⟩:=tb.2 _ hs cv hf;refine PySem.W.kla_makeFunctionHit uy I.ok.glob hg M.code (M.hd.keeps I.bk) Fj tb.1 hf hb λFp h' tk hk hsz=>?_;obtain⟨H',I',md⟩:=Inv.sT rfl I (f:=h'.objs.size) (tk:=tk) hP tb iR hk hsz rfl (φ h'.objs.size c' Fp) (h1 _ _ _ _ (Qe _ rfl)) (h2 _ _ _);exact⟨.ref h'.objs.size,H',I',rfl,h _ _ _ _ md⟩
noncomputable def N7(f:Addr)(name qual:Str)(params:R4)(body:List Stmt)(scope:Scope)(vk:List (Str×Addr))(doc pm:Value)(c:Addr)(ct:Value):Heap->Prop:=λh=>h.get? f=Δ (PySem.W.fnMade name qual params body scope vk doc pm c ct)
def N8(X:Cx)(i:Nat)(P:Addr)(bL:List (Pos×Str))(qual:Str)(φ:Addr->Addr->Value->Heap->Prop):TS:=λD σ H=>∃ps,H P=Δ (.dc ps)/\dF H bL ps/\
 ∀f c ct H',Made H H' P f c bL qual (φ f c ct)->D.nx (σ.set i (Δ (.ref f))) H'
theorem Fq(M:Maker X c P bL)(hs:(pos,Ts X.env name name)∈bL)(hd0:params.defaults=[])(Ft:params.kw_defaults=[])(ha:annTrees params Θ X.env=[])(uy:T7 scope X.env=pure vk)(hN:X.N.Nodup)(hi:X.N[i]?=Δ name)(hx:Loc X.env.scope name)(wm:X.fn name=Λ\/X.env.scope.names.lookup name=Δ .local)(h1:∀f c ct doc h,N7 f name (Ts X.env name name) params body scope vk doc ((X.mg "__name__").getD .none) c ct h->φ f c ct h)(h2:∀f c ct (g1 g2:Heap),φ f c ct g1->(∀o,g1.get? f=Δ o->g2.get? f=Δ o)->φ f c ct g2):
  PS X (.FunctionDef name params body [] Θ [] scope Θ name pos) (N8 X i P bL (Ts X.env name name) φ):=by
 intro η s σ H D I h;obtain⟨ps,hP,tb,h⟩:=h;have Fj:s.heap.get? P=Δ (Sg ps):=I.aJ P _ hP;obtain⟨N6,hb⟩:=M.bt I hP;have hg:s.heap.Ns Qa X.mg:=I.mod.glob.keeps I.bk;refine PySem.W.nestDef_K hd0 Ft ha ?_;cases hf:Sf pos ps.toList with|none=>refine PySem.W.makeFunction_K uy I.ok.glob hg M.code (M.hd.keeps I.bk) Fj tb.1 hf N6 hb λc' Fp doc h' tk ux Fi fD qI HK=>?_;obtain⟨H',I',md⟩:=Inv.sS rfl I (f:=h'.objs.size) (tk:=tk) hP tb hs M.ap hf ux Fi fD qI HK rfl (φ h'.objs.size c' Fp) (h1 _ _ _ doc _ (Qe _ rfl)) (h2 _ _ _);exact gP I' hN hi hx (v:=.ref h'.objs.size) rfl (λs' I2=>⟨_,H',I2,h _ _ _ _ md⟩) wm|some cv=>obtain⟨c',rfl,iR⟩:=tb.2 _ hs cv hf;refine PySem.W.makeFunction_hit uy I.ok.glob hg M.code (M.hd.keeps I.bk) Fj tb.1 hf hb λFp doc h' tk hk hsz=>?_;obtain⟨H',I',md⟩:=Inv.sT rfl I (f:=h'.objs.size) (tk:=tk) hP tb iR hk hsz rfl (φ h'.objs.size c' Fp) (h1 _ _ _ doc _ (Qe _ rfl)) (h2 _ _ _);exact gP I' hN hi hx (v:=.ref h'.objs.size) rfl (λs' I2=>⟨_,H',I2,h _ _ _ _ md⟩) wm
end
def wK(tabs:List (Addr×Addr))(H:Hp):Prop:=(∀b,H b=Θ\/(∃o xs,H b=Δ (.cF o (.lst xs)))\/(H b=Δ (.dc #[])/\b∈tabs.map (·.2)))/\∀q∈tabs,H q.2=Δ (.dc #[])
theorem xZ{K:P5}{sp:Heap->Sp}(KX:K.In bC.heap)(Ci:bC.heap.Ns Qa mg)(hb:bC.heap.Ns UN mb)(hbb:∀x:Str,x≠"__name__"->mb x=R5 x)(N9:bC.heap.NoLimit)(hg:bC.gens=#[])(hT:PySem.W.TabsAt tabs bC.heap)(Fu:tabs≠[]->T9 K=Λ)(hbm:BMain mg bC.heap)(ha:bC.heap.get? a=Δ {cls:=.type "list",data:=.seq vs.toArray})(hi:IntsAre vs ns)(hl:ns.length<=Qi)(hr:cb k U5)(F:∀base:Heap,K.In base->base.Ns Qa mg->(∀q∈tabs,RF base q.1 q.2)->BMain mg base->cz P w K mg base CX k fa fd [x] (sp base))(zW:∀(s:Qd) (u:Value),T3 s fd ⟨[u],[]⟩ [(x,u)])(qv:∀(base:Heap) (H:Hp),(∀q∈tabs,RF base q.1 q.2)->BMain mg base->wK tabs H->ir K H a (ns.map V.int)->sp base [.ref a] H (λv _=>v=.bl Λ) λ_ _ _=>False)(Oa:∀H e s',CX [] H bC (λ_ _ _=>False) e s'->False):
  TC (model P w) U5 (.call (.ref fa) ⟨[.ref a],[]⟩) (λr s'=>r=.ok (.ret (.bool Λ))/\OldK bC.heap s'.heap/\s'.os=bC.os/\T4 s'.gens) bC:=by
 have rv:=pI hi;have Ob:=hi.length;have ya:∀b,b∈tabs.map (·.2)->bC.heap.get? b=Δ (Sg #[]):=λb hb=>by obtain⟨q,hq,rfl⟩:=List.mem_map.mp hb;exact(hT q hq).2
 have aT:a∉tabs.map (·.2):=λz=>by have:=ya a z;rw[ha] at this;cases this
 have core:∀H:Hp,wK tabs H->ir K H a (ns.map V.int)->gi P w H bC.heap->(∀b,H b≠Θ->b=a\/b∈tabs.map (·.2))->(H a≠Θ->K.lookup a=Θ)->
   TC (model P w) U5 (.call (.ref fa) ⟨[.ref a],[]⟩) (λr s'=>r=.ok (.ret (.bool Λ))/\OldK bC.heap s'.heap/\s'.os=bC.os/\T4 s'.gens) bC:=by
  intro H hO hS aJ hA hK;have mq:∀{b:Addr} {o:Obj},bC.heap.get? b=Δ o->H b=Θ->(lX bC.heap H).get? b=Δ o:=λe n=>r8 e n;have Bm:∀{b:Addr} {o:Obj},bC.heap.get? b=Δ o->o.cls≠.none->(∀aC n,o.data≠.seq aC n)->H b=Θ:=λ{b o} e d1 d2=>by
   cases q:H b with
   |none=>rfl|some u=>
    rcases hA b (by rw[q];simp) with e'|e';·subst e';rw[ha] at e;cases e;exact absurd rfl (d2 _ _)
    ·rw[ya b e'] at e;cases e;exact absurd rfl d1
  have noD:∀{b:Addr} {o:Obj} {es:Array DictEntry} {ep:Nat},bC.heap.get? b=Δ o->o.data=.dict es ep->H b=Θ:=λ{b o es ep} e d=>by
   cases q:H b with
   |none=>rfl|some u=>
    rcases hA b (by rw[q];simp) with e'|e';·subst e';rw[ha] at e;cases e;cases d
    ·rw[ya b e'] at e;cases e;cases d
  have Me:∀{b:Addr} {m:Str->Option Value},bC.heap.Ns b m->(lX bC.heap H).Ns b m:=λ{b m} ⟨o,es,ep,e,d,r⟩=>⟨o,es,ep,mq e (noD e d),d,r⟩;have hKb:K.In (lX bC.heap H):=λb o e=>mq (KX b o e) (by
   cases q:H b with
   |none=>rfl|some u=>
    rcases hA b (by rw[q];simp) with e'|e';·subst e';rw[hK (by rw[q];simp)] at e;cases e
    ·have e2:=KX b o e;rw[ya b e'] at e2;cases e2;have h2:=Rl.mp (Fu λz=>by rw[z] at e';cases e') _ (PySem.W.mem_of_lookupK e);exact absurd (show Ξ=Λ from h2) QF)
  have hM:Mod K mg (lX bC.heap H):=⟨hKb,Me Ci,⟨mb,Me hb,hbb⟩,let ⟨mc,h1,h2⟩:=N9;⟨mc,Me h1,h2⟩⟩;have e0:qu P w K mg (lX bC.heap H) U5 [] bC H:=⟨rfl,hM,λb o e=>wg e,TZ (pz _ _),trivial,λb hb=>absurd (show b∈([]:List Addr) from hb) (by simp),aJ,.of_eq hg⟩;have iR:∀q∈tabs,RF (lX bC.heap H) q.1 q.2:=λq hq=>by obtain⟨o,us,file,tf,flags,tg,inF,text,tt,e1,r1,r2,r⟩:=(hT q hq).1;exact⟨o,us,file,tf,flags,tg,inF,text,tt,mq e1 (Bm e1 (by rw[r1];nofun) (by rw[r2];nofun)),r1,r2,r⟩
  have JU:BMain mg (lX bC.heap H):=by obtain⟨bm,ob,b1,b2,b3,b4,b5,b6⟩:=hbm;exact⟨bm,ob,b1,b2,mq b3 (Bm b3 (by rw[b4];nofun) (by rw[b6];nofun)),b4,b5,b6⟩
  refine SG ((F _ hKb (Me Ci) iR JU).run U5 [] bC H ⟨[.ref a],[]⟩ [.ref a] [.ref a] _ _ hr e0 (zW bC (.ref a)) (.cons rfl .nil) (qv _ H iR JU hO hS)) λr s' h=>?_;cases r with
  |error e=>exact(Oa H e s' h).elim|ok fl=>
   cases fl with
   |next=>exact QB h|brk=>exact QB h|cont=>exact QB h|ret u=>
    obtain⟨v,H',os,bare,un,JV,r',q⟩:=h;have q':v=.bl Λ:=q;subst q';obtain rfl:u=SX Λ:=r';have way:∀b o,bC.heap.get? b=Δ o->s'.heap.get? b=Δ o\/(isCodeTable bC.heap b/\o=Sg #[]/\∃ps,s'.heap.get? b=Δ (Sg ps)):=λb o e=>by
     rcases hO.1 b with z|⟨ob,xs,z⟩|⟨z,zt⟩;·exact .inl (un.keep b o e z (by intro z;exact absurd (show b∈([]:List Addr) from z) (by simp)) (by simp))
     ·have z2:=un.i5 b ob _ z;obtain⟨e1,_⟩:=aJ b _ z;obtain⟨e2,_⟩:=JV b _ z2;rw[e] at e1;cases e1;exact .inl e2
     ·obtain⟨more,z2⟩:=un.jy b _ z;have e2:=JV b _ z2;have e3:=ya b zt;rw[e] at e3;obtain⟨q,hq,rfl⟩:=List.mem_map.mp zt;exact .inr ⟨((hT q hq).1.tab (hT q hq).2).isCodeTable,Qx e3,_,e2⟩
    refine⟨rfl,⟨λb o e=>?_,λb o e=>?_⟩,os,bare⟩
    ·rcases way b o e with z|⟨z1,rfl,ps,z2⟩;·exact .inl z
     ·exact .inr (.inl ⟨z1,rfl,#[],ps,rfl,by rw[Array.empty_append];exact z2⟩)
    ·rcases way b o e with z|⟨_,_,ps,z2⟩;·exact⟨o,z⟩
     ·exact⟨_,z2⟩
 have tb:∀(b:Addr) (u:HO),u=.dc #[]->b∈tabs.map (·.2)->∀H:Hp,bF P w H bC.heap b u:=λb u e hb H=>by rw[e];exact ya b hb
 let H0:Hp:=λb=>if b∈tabs.map (·.2) then Δ (.dc #[]) else Θ
 cases hk:K.lookup a with
 |some o=>
  have e:=KX a o hk;rw[ha] at e;cases e;refine core H0 ⟨λb=>?_,λq hq=>if_pos (SN hq)⟩ (.inr ⟨_,vs.toArray,_,hk,rfl,rfl,rfl,by rw[P9,Ob];exact hl,by simpa using rv⟩) (λb u z=>?_) (λb z=>.inr ?_) λz=>absurd (if_neg aT) z
  ·by_cases hb:b∈tabs.map (·.2);·exact .inr (.inr ⟨if_pos hb,hb⟩)
   ·exact .inl (if_neg hb)
  ·by_cases hb:b∈tabs.map (·.2);·have z':=(if_pos hb).symm.trans z;exact tb b u (Qx z').symm hb _
   ·have z':=(if_neg hb).symm.trans z;cases z'
  ·by_cases hb:b∈tabs.map (·.2);·exact hb
   ·exact absurd (if_neg hb) z
 |none=>
  let H1:Hp:=λb=>if b=a then Δ (.cF {cls:=.type "list",data:=.seq vs.toArray} (.lst (ns.map V.int))) else H0 b
  have Mf:∀b,b≠a->H1 b=H0 b:=λb hb=>if_neg hb;refine core H1 ⟨λb=>?_,λq hq=>?_⟩ (.inl (.inr ⟨{cls:=.type "list",data:=.seq vs.toArray},if_pos rfl⟩)) (λb u z=>?_) (λb z=>?_) λ_=>hk
  ·by_cases hb:b=a;·exact .inr (.inl ⟨_,_,if_pos hb⟩)
   ·rw[Mf b hb];by_cases rV:b∈tabs.map (·.2);·exact .inr (.inr ⟨if_pos rV,rV⟩)
    ·exact .inl (if_neg rV)
  ·rw[Mf q.2 λz=>aT (z▸SN hq)];exact if_pos (SN hq)
  ·by_cases hb:b=a;·have z':=(if_pos hb).symm.trans z;cases z';subst hb;exact⟨ha,by rw[Qv];exact hl,vs,_,rv,ha⟩
   ·rw[Mf b hb] at z;by_cases rV:b∈tabs.map (·.2);·have z':=(if_pos rV).symm.trans z;exact tb b u (Qx z').symm rV _
    ·have z':=(if_neg rV).symm.trans z;cases z'
  ·by_cases hb:b=a;·exact .inl hb
   ·rw[Mf b hb] at z;by_cases rV:b∈tabs.map (·.2);·exact .inr rV
    ·exact absurd (if_neg rV) z
theorem zX{l:UU}{K:Params->P5}{CX:World->zh}{sp:World->(Str->Option Value)->List (Addr×Addr)->Heap->Sp}xs(hn:l.most=Δ n)(LV:n<=Qi)(xQ:d.params.defaults=[])(hr:cb k U5)(hY:∀(w:World) (h:Heap),YP w h->(K w.params).In h)(qI:∀y∈xs,∃dr,(recsOf q).find? (λe=>e.name==y)=Δ dr)(F:∀(w:World) (mg:Str->Option Value) (fa:Addr) (h:Heap),(K w.params).In h->h.Ns Qa mg->mg d.name=Δ (.ref fa)->
   (xs≠[]->T9 (K w.params)=Λ)/\∃(tabs:List (Addr×Addr)) (fd:QX),xs.map (Sa (K w.params))=tabs.map Δ/\(∀(s:Qd) (u:Value),T3 s fd ⟨[u],[]⟩ [(x,u)])/\
    (∀base:Heap,(K w.params).In base->base.Ns Qa mg->(∀q∈tabs,RF base q.1 q.2)->BMain mg base->cz l.prog w (K w.params) mg base (CX w) k fa fd [x] (sp w mg tabs base))/\
    ∀(base:Heap) (H:Hp) (a:Addr) (ns:List Int),ns.length<=n->(∀q∈tabs,RF base q.1 q.2)->BMain mg base->wK tabs H->ir (K w.params) H a (ns.map V.int)->sp w mg tabs base [.ref a] H (λv _=>v=.bl Λ) λ_ _ _=>False)(Oa:∀(w:World) (H:Hp) (s:Qd) (e:Value) (s':Qd),CX w [] H s (λ_ _ _=>False) e s'->False):
  PySem.W.WalkO q loose XP YP l.row.toRowW d [] (λf vs=>Vz f vs):=by
 refine Att.sv hn xQ λw dA bC mg mb fa o pm cd doc a vs ns G Y ho hd iR Jk xR hints hlen hg=>?_;have KX:=hY w _ Y;obtain⟨Fu,tabs,fd,Fv,hb,hF,qv⟩:=F w mg fa _ KX G.T.g Jk;have hT:PySem.W.TabsAt tabs bC.heap:=λt ht=>by
  have hm:Δ t∈xs.map (Sa (K w.params)):=by rw[Fv];exact SN ht
  obtain⟨y,hy,e⟩:=List.mem_map.mp hm;obtain⟨dr,hdr⟩:=qI y hy;exact PySem.W.tab_of G.T KX hdr e
 exact xZ KX G.T.g G.T.b G.T.builtins G.T.nolimit hg hT (λz=>Fu λy=>z (by rw[y] at Fv;exact List.map_eq_nil_iff.mp Fv.symm)) G.T.bmain xR hints (QJ hlen LV) hr hF hb (λbase H h1 h2 h3 h4=>qv base H a ns hlen h1 h2 h3 h4) λH e s'=>Oa w H bC e s'
noncomputable def cW(a:R4)(ps:List Str):Bool:=a.posonlyargs.isEmpty&&a.vararg.isNone&&a.kwonlyargs.isEmpty&&a.kw_defaults.isEmpty&&a.kwarg.isNone&&a.defaults.isEmpty&&decide (a.args.map (·.arg)=ps)&&decide ps.Nodup&&a.args.all λx=>x.annotation.isNone
theorem nc:∀{ps:List Str} {us:List Value},us.length=ps.length->∀n∈ps,((ps.zip us).lookup n).isSome=Λ
 |[],_,_,n,h=>by cases h|p::ps,[],hl,_,_=>by simp at hl|p::ps,u::us,hl,n,h=>by
  rw[S1,Ql];cases hb:n==p with
  |true=>rfl|false=>
   rcases Uu.mp h with e|e;·rw[e] at hb;simp at hb
   ·exact nc (by simpa using hl) n e
theorem iX:∀{ps:List Str} {us} {l:List (Str×Value)},us.length=ps.length->ps.Nodup->(∀n∈ps,l.lookup n=(ps.zip us).lookup n)->ps.filterMap (λn=>(l.lookup n).map λv=>(n,v))=ps.zip us
 |[],us,l,_,_,_=>by simp|p::ps,[],l,hl,_,_=>by simp at hl|p::ps,u::us,l,hl,nd,h=>by
  rw[List.nodup_cons] at nd;have h0:=h p P7;rw[S1,Ql,beq_self_eq_true] at h0;have h0':l.lookup p=Δ u:=h0;rw[Ru,h0',S1];show(p,u)::_=_;congr 1;refine iX (by simpa using hl) nd.2 λn hn=>?_;have:=h n (P6 _ hn);rw[S1,Ql] at this;have hb:(n==p)=Ξ:=by rw[beq_eq_false_iff_ne];exact λz=>nd.1 (z▸hn)
  rw[hb] at this;exact this
theorem fF(ha:cW fd.params ps=Λ)(hd:fd.defaults=.none)(hl:us.length=ps.length):Vx fd ⟨us,[]⟩=pure (ps.zip us):=by
 obtain⟨fname,fq,Oc,fbody,fsc,fgl,fcl,kP,fkw,fdoc,fpm,fan,fcd,fct,fbi⟩:=fd;obtain⟨po,as,va,ko,kd,ka,df⟩:=Oc;dsimp only at ha hd;unfold cW at ha;simp only[PZ,Qb,QQ,qqq] at ha;obtain⟨⟨⟨⟨⟨⟨⟨⟨rfl,rfl⟩,rfl⟩,rfl⟩,rfl⟩,rfl⟩,e⟩,nd⟩,_⟩:=ha;have q:seqItems? RB=pure Θ:=rfl;have m0:((as.map (·.arg)).take (as.map (·.arg)).length).filter (λn=>(((as.map (·.arg)).zip us).lookup n).isNone)=[]:=by rw[List.filter_eq_nil_iff];intro n hn hc;have uB:n∈as.map (·.arg):=List.mem_of_mem_take hn;have:=nc (us:=us) (by rw[e];exact hl) n uB;cases hx:((as.map (·.arg)).zip us).lookup n with|none=>rw[hx] at this;cases this|some v=>rw[hx] at hc;cases hc
 have g0:¬(us.length > (as.map (·.arg)).length):=by rw[e];lia
 have z0:(as.map (·.arg)).filterMap (λn=>(((as.map (·.arg)).zip us).lookup n).map λv=>(n,v))=(as.map (·.arg)).zip us:=iX (by rw[e];exact hl) (by rw[e];exact nd) λ_ _=>rfl;unfold Vx;simp only[hd,q,Th,List.nil_append,SA,pure_bind,UB,TN,Nat.sub_zero,List.drop_nil,Nat.zero_sub,m0,List.isEmpty_nil,Bool.not_true,Rj,if_false,List.zip_nil_right,QK,z0];have g1:(decide (us.length > (as.map (·.arg)).length)&&(Θ:Option Arg).isNone)=Ξ:=by rw[decide_eq_false g0];rfl
 simp[g0,m0,z0,e];intro h
 lia
noncomputable def fG(cells:List (Str×Addr)):List (Str×R7)->List (Str×Addr)->List (Str×Addr)
 |[],acc=>acc|(x,k)::r,acc=>if k=.free then fG cells r ((x,(cells.lookup x).getD 0)::acc) else fG cells r acc
theorem jb:∀{names} {acc},(∀x,(x,Qg)∈names->∃c,env.cells.lookup x=Δ c)->
  (forIn names acc λ(p:Str×R7) (cs:List (Str×Addr))=>(match p with|(name,kind)=>if(kind==Qg)=Λ then do {let c<-Vq env name;pure (Rh ((name,c)::cs))} else pure (Rh cs):Sem (ForInStep (List (Str×Addr)))))=pure (fG env.cells names acc)
 |[],acc,_=>rfl|(x,k)::r,acc,h=>by
  rw[R1];by_cases hk:k=.free
  ·subst hk;obtain⟨c,hc⟩:=h x P7;have e:Vq env x=pure c:=by unfold Vq;rw[hc]
   simp only[beq_self_eq_true,if_true,e,pure_bind];rw[jb λy hy=>h y (P6 _ hy)];simp only[fG,if_true,hc,Option.getD_some]
  ·have hb:(k==Qg)=Ξ:=by rw[beq_eq_false_iff_ne];exact hk
   simp only[hb,Rj,if_false,pure_bind];rw[jb λy hy=>h y (P6 _ hy)];simp only[fG,if_neg hk]
theorem iY(h:∀x,(x,Qg)∈scope.names->∃c,env.cells.lookup x=Δ c):T7 scope env=pure (fG env.cells scope.names []):=by unfold T7;have:=jb (acc:=[]) h;simp only[bind_pure];exact this
theorem gx:∀{names} {acc},(∀y,(y,Qg)∈names->∃c,cells.lookup y=Δ c)->
  ((x,Qg)∈names->(fG cells names acc).lookup x=cells.lookup x)/\((x,Qg)∉names->(fG cells names acc).lookup x=acc.lookup x)
 |[],acc,_=>⟨(λh=>nomatch h),λ_=>rfl⟩|(y,k)::r,acc,h=>by
  have hr:∀z,(z,Qg)∈r->∃c,cells.lookup z=Δ c:=λz hz=>h z (P6 _ hz);by_cases hk:k=.free
  ·subst hk;simp only[fG,if_true];obtain⟨i1,i2⟩:=gx (x:=x) (acc:=(y,(cells.lookup y).getD 0)::acc) hr;by_cases hx:(x,Qg)∈r;·exact⟨λ_=>i1 hx,λz=>absurd (P6 _ hx) z⟩
   ·by_cases Od:x=y;·subst Od;obtain⟨c,hc⟩:=h x P7;refine⟨λ_=>?_,λz=>absurd P7 z⟩;rw[i2 hx,Ql,beq_self_eq_true,hc];rfl
    ·have hb:(x==y)=Ξ:=by rw[beq_eq_false_iff_ne];exact Od
     refine⟨λz=>?_,λ_=>?_⟩
     ·rcases Uu.mp z with z|z;·injection z with z1 _;exact absurd z1 Od
      ·exact absurd z hx
     ·rw[i2 hx,Ql,hb]
  ·simp only[fG,if_neg hk];obtain⟨i1,i2⟩:=gx (x:=x) (acc:=acc) hr;refine⟨λz=>?_,λz=>i2 λy=>z (P6 _ y)⟩;rcases Uu.mp z with z|z;·injection z with _ z2;exact absurd z2.symm hk
   ·exact i1 z
theorem g7(h:cW a ps=Λ)env:defaultsOf a env=([],[])/\a.defaults=[]/\a.kw_defaults=[]:=by obtain⟨po,as,va,ko,kd,ka,df⟩:=a;unfold cW at h;simp only[PZ,Qb,QQ,qqq] at h;obtain⟨⟨⟨⟨⟨⟨⟨⟨rfl,rfl⟩,rfl⟩,rfl⟩,rfl⟩,rfl⟩,e⟩,nd⟩,_⟩:=h;exact⟨rfl,rfl,rfl⟩
theorem sU:∀{as},(as.all λx=>x.annotation.isNone)=Λ->Ur as env=[]
 |[],_=>by unfold Ur;rfl|⟨x,an,p⟩::r,h=>by
  rw[Rc,PZ] at h;have e:an=Θ:=QQ.mp h.1;subst e;have ih:=sU (env:=env) h.2;first
   |(unfold Ur;exact ih)
   |(simp only[Ur,ih])
theorem yb(h:cW a ps=Λ)env:annTrees a Θ env=[]:=by obtain⟨po,as,va,ko,kd,ka,df⟩:=a;unfold cW at h;simp only[PZ,Qb,QQ,qqq] at h;obtain⟨⟨⟨⟨⟨⟨⟨⟨rfl,rfl⟩,rfl⟩,rfl⟩,rfl⟩,rfl⟩,e⟩,nd⟩,an⟩:=h;unfold annTrees;simp only[QK,Option.toList_none];rw[sU an];rfl
section
variable{X:Cx}{η:List (Addr×Obj)}{σ:St}{H:Hp}{s:Qd}{a:Addr}{kvs:List (Key×V)}{k:Key}{u r:Value}{z:V}{A:QY}{E:Value->Qd->Prop}
theorem zY(I:Inv X η σ H s)(e:H a=Δ (.dK kvs))(ry:RelV (kV k) u)(rz:RelV z r)(hl:kvs.length < Qi)(h1:∀v w' s',dB kvs k=Δ v->Inv X η σ H s'->RelV v w'->Q w' s')(h2:dB kvs k=Θ->∀s',Inv X η σ (upd H a (.dK (putK kvs k z))) s'->Q r s'):
  wpAny (model X.prog X.w) A (call (.builtin "dict.setdefault") [.ref a,u,r]) Q E s:=by
 obtain⟨zz,hd,vs,rel,dd⟩:=pH I.aJ e;refine TV PySem.F.slot_dict_setdefault dd.typeIs PySem.F.entry_dict_setdefault (PySem.F.args_dict_setdefault_3 _ _ _) (kt_meets_setdefault (aZ X.prog X.w) a (jK ry) hd r)
  ⟨vs,dd,by rw[<-rel.length];exact zz,λw' hw=>?_,λhn h' rR hs=>?_⟩
 ·have rr:=rel.val k;rw[hw] at rr;cases hv:dB kvs k with|none=>rw[hv] at rr;exact(show False from rr).elim|some v=>rw[hv] at rr;exact h1 v w' _ hv (I.tok _) rr
 ·have rr:=rel.val k;rw[hn] at rr;cases hv:dB kvs k with
  |some v=>rw[hv] at rr;exact(show False from rr).elim|none=>
   have he:∃q,h'.get? a=Δ q:=let ⟨q,_,_,hq,_⟩:=rR;⟨q,hq⟩
   have jw:(putK kvs k z).length<=Qi:=by have:=fA kvs k z;lia
   exact h2 hv _ (gq I (by rw[e];exact Q8) hs he (mT jw hd (rel.put k rz) rR))
end
def Fw(td ty tx:TE):TE:=λσ H Q=>td σ H λx H1=>∃a,x=.ref a/\L4 H1 a/\ty σ H1 λy H2=>tx σ H2 λz H3=>∃kvs k,H3 a=Δ (.dK kvs)/\y=kV k/\kvs.length < Qi/\
 (∀v,dB kvs k=Δ v->Q v H3)/\(dB kvs k=Θ->Q z (upd H3 a (.dK (putK kvs k z))))
section
variable{X:Cx}{o e f:Expr}{apos cf:Pos}{td ty tx:TE}
theorem zZ(ho:PE X o td)(he:PE X e ty)(hf:PE X f tx)(m:M2 X o "setdefault" apos e f cf):PE X (.Call (.Attribute o "setdefault" apos) [e,f] [] cf) (Fw td ty tx):=by intro η s σ H Q I h;refine Ui m.base m.L3 m.line Si PySem.F.slot_dict_setdefault PySem.F.type_dict_setdefault (bG (ho η s σ H _ I h) λu s1 ⟨x,H1,I1,rx,a,ex,d,q1⟩=>?_);subst ex;obtain rfl:u=Qr a:=rx;obtain⟨t1,t2,_⟩:=uZ I1 d;refine⟨t1,t2,?_⟩;rw[m.trees];refine Rt rfl (R8 (RV (bG (he η s1 σ H1 _ I1 q1) λiv s2 ⟨y,H2,I2,ry,q2⟩=>RV (bG (hf η s2 σ H2 _ I2 q2) λfv s3 ⟨z,H3,I3,rz,kvs,k,ea,ey,hl,q3,q4⟩=>Sx ?_))));subst ey;exact zY I3 ea ry rz hl (λv w' s4 hv I4 i9=>⟨v,H3,I4,i9,q3 v hv⟩) λhn s4 I4=>⟨z,_,I4,rz,q4 hn⟩
end
def JW(K:P5)(a:Addr):It:=
 ⟨λi H=>∃xs x,ir K H a xs/\xs[i]?=Δ x,λi H x H'=>∃T v,H T=Θ/\H'=upd H T (.tup [.int i,v])/\x=.ref T/\∀xs,ir K H a xs->xs[i]?=Δ v,λi H=>∃xs,ir K H a xs/\xs.length<=i⟩
theorem vm{P:QE}{w:World}{K:P5}{elts:List Expr}{kk:Nat}{pos:Pos}(a it e:Addr)(HI:e≠it):Turn P w K (.Tuple elts kk pos) (JW K a) [e,it] e (λi h=>(∃old,IsEnum h e it i old)/\h.IsListIter it a i) where
 mem:=by simp
 obj:=λi h st b hb=>by
  obtain⟨⟨old,he⟩,o,eo,c,d⟩:=st;have fE:b=e\/b=it:=by simpa using hb
  rcases fE with z|z;·rw[z];exact⟨_,he,λv z=>nomatch z⟩
  ·rw[z];exact⟨o,eo,λv z=>by rw[d] at z;cases z⟩
 keep:=λi h h' st k=>⟨let ⟨old,he⟩:=st.1;⟨old,k e (by simp) _ he⟩,st.2.at λo x=>k it (by simp) o x⟩
 item:=by
  intro X hP hw hK hc i η s σ H E I hf st hg;subst hP hw hK;obtain⟨xs,x,hq,hx⟩:=hg;obtain⟨aC,rv,p,hz⟩:=I.list hq;have p':s.heap.IsList a aC.toArray:=p.isList;obtain⟨u,hu,ru⟩:=rv.get hx;obtain⟨f0,f1,f2,f3,f4,f5⟩:=hf it (by simp);obtain⟨g0,g1,g2,g3,g4,g5⟩:=hf e (by simp);obtain⟨⟨old,he⟩,hit⟩:=st;refine wpAny_pyNext_enum_item he hit p' (x:=u) (by simpa using hu) HI λh' ho Br hT hsz hk=>?_;refine⟨_,rfl,?_⟩;refine wpAny_letOwnedTupleGo_enum ho λh2 JM Bt=>?_;have JN:s.heap.objs.size≠e:=QT (Qc he);have HJ:s.heap.objs.size≠it:=by obtain⟨o,eo,_⟩:=hit;exact QT (Qc eo)
  have sM:∀b o,b≠e->b≠it->s.heap.get? b=Δ o->h2.get? b=Δ o:=λb o h1 h3 q=>Bt.extBut b o h1 (hk b o h1 h3 q);have hn:H s.heap.objs.size=Θ:=I.aJ.fresh (P8 _);have yT:∀b v,H b=Δ v->b≠e/\b≠it:=λb v q=>⟨(λz=>by rw[z,g0] at q;cases q),(λz=>by rw[z,f0] at q;cases q)⟩;have JO:h2.get? s.heap.objs.size=Δ {cls:=.type "tuple",data:=.seq #[.int i s.toks,u]}:=Bt.extBut _ _ JN hT;have I1:Inv X η σ (upd H s.heap.objs.size (.tup [.int i,x])) {s with heap:=h2,toks:=s.toks+1}:=by
   refine I.step (g':=s.gens) (d':=s.drawn) (ch:=[e,it]) (λb hb=>?_) (λb o _ _ hc q _=>sM b o (λz=>hc (by simp[z])) (λz=>hc (by simp[z])) q) (λb o _ _ hc q _=>⟨o.slots,sM b o (λz=>hc (by simp[z])) (λz=>hc (by simp[z])) q⟩)
    (λb o _ q n=>by rw[av (Qt (Qc q))];exact n) (λb o hc q=>⟨o,sM b o (λz=>hc (by simp[z])) (λz=>hc (by simp[z])) q⟩) (λb xs q=>by rw[av (aL q hn)];exact q) (λb o v q=>by rw[av (aL q hn)];exact q)
    (λb ps q=>⟨#[],by rw[av (aL q hn),q];simp⟩) (λm hm=>?_) (λb v q=>?_) I.bare
   ·have fE:b=e\/b=it:=by simpa using hb
    rcases fE with z|z;·rw[z];exact⟨g3,g1,g4,g5⟩
    ·rw[z];exact⟨f3,f1,f4,f5⟩
   ·obtain⟨o,es,ep,ky,r⟩:=hm;exact⟨o,es,ep,sM _ o (Q5 g1) (Q5 f1) ky,r⟩
   ·by_cases hb:b=s.heap.objs.size;·rw[hb,aA] at q;cases q;rw[hb];exact⟨by rw[Q0];simp,[.int i s.toks,u],.cons ⟨_,rfl⟩ (.cons ru .nil),⟨_,JO,rfl,_,rfl⟩⟩
    ·rw[av hb] at q;refine(I.aJ b v q).iK (λc y hc qq=>?_) (λc qq=>by rw[av (aL qq hn)];exact qq) λc xs qq=>by rw[av (aL qq hn)];exact qq
     have:c≠e/\c≠it:=by
      rcases hc with z|z;·rw[z];exact yT b v q
      ·exact yT c _ z
     exact sM c y this.1 this.2 qq
  refine⟨.ref s.heap.objs.size,_,I1,rfl,⟨s.heap.objs.size,x,hn,rfl,rfl,λys hy=>by rw[I.se hy hq];exact hx⟩,⟨⟨u,by simpa using JM⟩,Br.at λo q=>Bt.extBut _ _ (Q5 HI) q⟩,λb hb=>?_⟩;have fE:b=e\/b=it:=by simpa using hb
  rcases fE with z|z;·rw[z,av (Q5 JN)];exact g0
  ·rw[z,av (Q5 HJ)];exact f0
 done:=by
  intro X hP hw hK hc i η s σ H E I hf st hg;subst hP hw hK;obtain⟨xs,hq,hx⟩:=hg;obtain⟨aC,rv,p,hz⟩:=I.list hq;obtain⟨f0,f1,f2,f3,f4,f5⟩:=hf it (by simp);obtain⟨⟨old,he⟩,hit⟩:=st;have hl:=rv.length;have hT:s.TypeIs (.ref e) "enumerate":=⟨_,he,rfl⟩;unfold Uq;refine PY (Up (QI (name:=Qs "__next__") hT RN
   (QW RN hT PySem.F.entry_enumerate_next ?_ (PySem.F.args_enumerate_next_1 _))))
  show wpAny _ _ (field (.ref e) 2 >>=_) _ _ _;refine PY (QM he rfl (x:=.ref it) rfl ?_);refine PY (wpAny_nextOf_list_end (I.ok.hd hc) hit p.isList (by simp;lia) λh' y NY ux=>?_);obtain⟨o,ho,uy⟩:=ux;refine PY (Uw (T:="StopIteration") (b:=Λ) ⟨o,ho,uy⟩ UZ ?_);exact P4 ⟨rfl,I.turned (t':=s.toks) (λb o hb q=>NY b o hb q) f0 f1 f3 f4 f5⟩
 self:=λ_ _ _ _ _ st h=>let ⟨old,he⟩:=st.1;S8 he h
section
variable{X:Cx}
def Fx(K:P5)(ta:TA):TI:=λσ H R=>ta σ H λvs H1=>∃a,vs=[.ref a]/\(∃xs,ir K H1 a xs)/\R (JW K a) H1
theorem z6(hg:Gl X "enumerate")(hm:X.mg "enumerate"=Θ)(ha:PA X [x] ta)(hs:Qo [x] X.env=[(Ξ,eval x X.env)]):
  PI X (.Tuple elts kk p3) (.Call (.Name "enumerate" p) [x] [] pos) (Fx X.K ta):=by
 intro η s σ H R I h;refine Call_ (gk I hg hm boot_enumerate (QO (bG (ha pos η s σ H _ I h) λus s1 ⟨vs,H1,I1,r1,q1⟩=>?_) hs rfl) (by decide+kernel) (by decide+kernel));obtain⟨a,rfl,⟨xs,hq⟩,q⟩:=q1;obtain⟨u,rfl,ru⟩:=vals1 r1;cases ru;obtain⟨aC,rv,pl,hz⟩:=I1.list hq;refine call_enumerate_list pl.isList λh' he hit hsz hk=>?_;refine S8 he ?_;have I2:Inv X η σ H1 {s1 with heap:=h'}:=I1.kept (t':=s1.toks) hk;refine⟨s1.heap.objs.size+1,[s1.heap.objs.size+1,s1.heap.objs.size],_,_,H1,rfl,I2,vm a _ _ (Nat.succ_ne_self _),⟨⟨_,he⟩,hit⟩,λb hb=>?_,q⟩;have fE:b=s1.heap.objs.size+1\/b=s1.heap.objs.size:=by simpa using hb
 rcases fE with z|z;·rw[z];exact I1.qp (Q1 _) (I1.aJ.fresh (Q1 _))
 ·rw[z];exact I1.qp (P8 _) (I1.aJ.fresh (P8 _))
end
theorem Vf.get'{α β:Type}{F:α->β->Prop}{yR:List α}{yS:List β}(r:Vf F yR yS):∀{i:Nat} {x},yR[i]?=Δ x->∃u,yS[i]?=Δ u/\F x u:=by induction r with|nil=>intro i x e;simp at e|@cons a b as bs h t ih=>intro i x e;cases i with|zero=>simp at e;subst e;exact⟨b,rfl,h⟩|succ i=>simpa using ih (by simpa using e)
def Iti(d:Addr)(o:Obj)(kvs:List (Key×V)):It:=
 ⟨λi H=>H d=Δ (.cF o (.dK kvs))/\i < kvs.length,λi H x H'=>∃T k v,kvs[i]?=Δ (k,v)/\H T=Θ/\H'=upd H T (.tup [kV k,v])/\x=.ref T,λi H=>H d=Δ (.cF o (.dK kvs))/\kvs.length<=i⟩
theorem z7(ok:gi P w H h)(e:H d=Δ (.cF o (.dK kvs)))(ho:o.data=.dict es ep):
  ∃vs,KV kvs vs/\Heap.DictAt (aZ P w) h d vs ep:=by
 obtain⟨h1,z,hs,vs,r,o',LN,LO,h2,h3,h4,h5⟩:=(show bF P w H h d (.cF o (.dK kvs)) from ok d _ e);rw[h1] at h2;cases h2;rw[ho] at h4;cases h4;exact⟨vs,r,o,es,h1,h3,ho,h5⟩
theorem z8(h:(aZ P w).is k u=Λ):RelV (kV k) u:=by
 rcases bQ h with ⟨i,t,rfl,rfl⟩|⟨x,t,rfl,rfl⟩
 ·exact⟨t,rfl⟩
 ·exact⟨t,rfl⟩
theorem iN:entryFor table "dict_itemiterator.__iter__"=Δ Tj.«dict_keyiterator.__iter__»:=
 entryFor_alias (id':="dict_keyiterator.__iter__") (by kernel_rfl) rfl (by decide+kernel) (by kernel_rfl)
theorem oV(hit:IsItemIter s.heap it d i n ep ok ov)(h:Q (.ref it) s):wpAny (model prog w) A (pyIter (.ref it)) Q E s:=by have ht:s.TypeIs (.ref it) "dict_itemiterator":=⟨_,hit,rfl⟩;refine wpAny_pyIter_slot ht F.slot_dict_itemiterator_iter (QW F.slot_dict_itemiterator_iter ht iN ?_ (F.args_dict_itemiterator_iter_1 _));show wpAny _ _ (ret (.ref it)) _ _ s;exact P4 ⟨_,rfl,"dict_itemiterator",_,ht,F.slot_dict_itemiterator_next.lookup,h⟩
theorem vn{P:QE}{w:World}{K:P5}{elts:List Expr}{kk:Nat}{pos:Pos}(d it:Addr)(o:Obj)(kvs:List (Key×V))(es:Array DictEntry)(ep:Nat)(ho:o.data=.dict es ep):
  Turn P w K (.Tuple elts kk pos) (Iti d o kvs) [it] it (λi h=>∃ok ov,IsItemIter h it d i kvs.length ep ok ov) where
 mem:=by simp
 obj:=λi h st b hb=>by
  obtain⟨ok,ov,he⟩:=st;have fE:b=it:=by simpa using hb
  rw[fE];exact⟨_,he,λv z=>nomatch z⟩
 keep:=λi h h' st k=>let ⟨ok,ov,he⟩:=st;⟨ok,ov,k it (by simp) _ he⟩
 item:=by
  intro X hP hw hK hc i η s σ H E I hf st hg;subst hP hw hK;obtain⟨hd,hi⟩:=hg;obtain⟨ok,ov,hit⟩:=st;obtain⟨vs,rel,da⟩:=z7 I.aJ hd ho;have hlen:kvs.length=vs.length:=rel.length;obtain⟨f0,f1,f2,f3,f4,f5⟩:=hf it (by simp);obtain⟨⟨k,v⟩,Bv⟩:∃p,kvs[i]?=Δ p:=⟨kvs[i],Qh hi⟩;obtain⟨⟨k',u⟩,hu,ek,ru⟩:=Vf.get' rel Bv;cases (show k=k' from ek);rw[hlen] at hit;refine wpAny_pyNext_items_item hit da hu λkey h' hk out hT hsz xX=>?_;refine⟨_,rfl,?_⟩;refine wpAny_letOwnedTupleGo_items out λh2 JM Bt=>?_;have HJ:s.heap.objs.size≠it:=QT (Qc hit);have sM:∀b o,b≠it->s.heap.get? b=Δ o->h2.get? b=Δ o:=λb o h1 q=>Bt.extBut b o h1 (xX b o h1 q);have hn:H s.heap.objs.size=Θ:=I.aJ.fresh (P8 _);have yT:∀b v,H b=Δ v->b≠it:=λb v q z=>by rw[z,f0] at q;cases q
  have JO:h2.get? s.heap.objs.size=Δ {cls:=.type "tuple",data:=.seq #[key,u]}:=Bt.extBut _ _ HJ hT;have I1:Inv X η σ (upd H s.heap.objs.size (.tup [kV k,v])) {s with heap:=h2}:=by
   refine I.step (g':=s.gens) (d':=s.drawn) (t':=s.toks) (ch:=[it]) (λb hb=>?_) (λb o _ _ hc q _=>sM b o (λz=>hc (by simp[z])) q) (λb o _ _ hc q _=>⟨o.slots,sM b o (λz=>hc (by simp[z])) q⟩)
    (λb o _ q n=>by rw[av (Qt (Qc q))];exact n) (λb o hc q=>⟨o,sM b o (λz=>hc (by simp[z])) q⟩) (λb xs q=>by rw[av (aL q hn)];exact q) (λb o v q=>by rw[av (aL q hn)];exact q)
    (λb ps q=>⟨#[],by rw[av (aL q hn),q];simp⟩) (λm hm=>?_) (λb v' q=>?_) I.bare
   ·have fE:b=it:=by simpa using hb
    rw[fE];exact⟨f3,f1,f4,f5⟩
   ·obtain⟨o,es,ep,ky,r⟩:=hm;exact⟨o,es,ep,sM _ o (Q5 f1) ky,r⟩
   ·by_cases hb:b=s.heap.objs.size;·rw[hb,aA] at q;cases q;rw[hb];exact⟨by rw[Q0];simp,[key,u],.cons (z8 hk) (.cons ru .nil),⟨_,JO,rfl,_,rfl⟩⟩
    ·rw[av hb] at q;refine(I.aJ b v' q).iK (λc y hc qq=>?_) (λc qq=>by rw[av (aL qq hn)];exact qq) λc xs qq=>by rw[av (aL qq hn)];exact qq
     have:c≠it:=by
      rcases hc with z|z;·rw[z];exact yT b v' q
      ·exact yT c _ z
     exact sM c y this qq
  refine⟨.ref s.heap.objs.size,_,I1,rfl,⟨s.heap.objs.size,k,v,Bv,hn,rfl,rfl⟩,⟨key,u,by rw[hlen];exact JM⟩,λb hb=>?_⟩;have fE:b=it:=by simpa using hb
  rw[fE,av (Q5 HJ)];exact f0
 done:=by intro X hP hw hK hc i η s σ H E I hf st hg;subst hP hw hK;obtain⟨hd,hi⟩:=hg;obtain⟨ok,ov,hit⟩:=st;obtain⟨vs,rel,da⟩:=z7 I.aJ hd ho;have hlen:kvs.length=vs.length:=rel.length;obtain⟨f0,f1,f2,f3,f4,f5⟩:=hf it (by simp);rw[hlen] at hit;exact wpAny_pyNext_items_end (I.ok.hd hc) hit da (List.getElem?_eq_none (by lia)) λh' eb=>⟨rfl,I.turned (t':=s.toks) (λb o hb q=>eb b o hb q) f0 f1 f3 f4 f5⟩
 self:=λA i s Q E st h=>by obtain⟨ok,ov,he⟩:=st;exact oV he h
section
variable{X:Cx}{η:List (Addr×Obj)}{σ:St}{H:Hp}{s:Qd}
theorem Inv.re(I:Inv X η σ H s)(e:H d=Δ u)(h1:∀xs,u≠.tup xs)(h2:∀ps,u≠.dc ps)(h3:∀b,u≠.own b)(hf:∀o v,X.oH d=Δ (.cF o v)->u'=.cF o v)(new:bF X.prog X.w H s.heap d u'):Inv X η σ (upd H d u') s:=by
 have st:∀{b:Addr} {v:HO},bF X.prog X.w H s.heap b v->bF X.prog X.w (upd H d u') s.heap b v:=λx=>x.iK (λ_ _ _ q=>q) (λc q=>by
  rw[av (λz=>by rw[z,e] at q;exact h3 _ (Qx q))];exact q) λc xs q=>by
  rw[av (λz=>by rw[z,e] at q;exact h1 _ (Qx q))];exact q
 have nn:∀{b:Addr},H b=Θ->upd H d u' b=Θ:=λ{b} q=>by rw[av (λz=>by rw[z,e] at q;cases q)];exact q
 refine⟨I.ok,I.os,I.bare,⟨I.base.keep,I.base.slot,λb o q n hx=>nn (I.base.free b o q n hx),I.base.there,λb xs q=>?_,λb o v q=>?_,λb ps q=>?_⟩,I.loc,I.cell,nn I.free,λx c q=>nn (I.eZ x c q),λp hp=>?_,λb v q=>?_,I.len⟩;·have:=I.base.ku b xs q;rw[av (λz=>by rw[z,e] at this;exact h1 _ (Qx this))];exact this
 ·by_cases z:b=d;·rw[z] at q ⊢;rw[aA,hf o v q]
  ·rw[av z];exact I.base.i5 b o v q
 ·obtain⟨more,this⟩:=I.base.jy b ps q;exact⟨more,by rw[av (λz=>by rw[z,e] at this;exact h2 _ (Qx this))];exact this⟩
 ·obtain⟨q1,q2,q3⟩:=I.pin p hp;exact⟨q1,nn q2,q3⟩
 ·by_cases z:b=d;·rw[z,aA] at q;cases q;rw[z];exact st new
  ·rw[av z] at q;exact st (I.aJ b v q)
def NF(X:Cx)(d:Addr):Prop:=∀o v,X.oH d≠Δ (.cF o v)
theorem Inv.hold(I:Inv X η σ H s)(e:H d=Δ (.dK kvs)):∃o es ep,s.heap.get? d=Δ o/\o.data=.dict es ep/\NF X d/\Inv X η σ (upd H d (.cF o (.dK kvs))) s:=by
 have ok:bF X.prog X.w H s.heap d (.dK kvs):=I.aJ d _ e;obtain⟨z,hs,vs,r,o,es,ep,h2,h3,h4,h5⟩:=id ok;have nf:NF X d:=λo' v q=>by have:=I.base.i5 d o' v q;rw[e] at this;cases this
 exact⟨o,es,ep,h2,h4,nf,I.re e (λ_ z=>nomatch z) (λ_ z=>nomatch z) (λ_ z=>nomatch z) (λo' v q=>absurd q (nf o' v)) ⟨h2,ok⟩⟩
theorem Inv.yc(I:Inv X η σ H s)(e:H d=Δ (.cF o u))(nf:NF X d):Inv X η σ (upd H d u) s:=by obtain⟨h1,h2⟩:=(show bF X.prog X.w H s.heap d (.cF o u) from I.aJ d _ e);exact I.re e (λ_ z=>nomatch z) (λ_ z=>nomatch z) (λ_ z=>nomatch z) (λo' v q=>absurd q (nf o' v)) h2
def pL(X:Cx)(D:Ends):Ends where
 nx:=λσ H=>∃d o u,H d=Δ (.cF o u)/\NF X d/\D.nx σ (upd H d u)
 rt:=λv H=>∃d o u,H d=Δ (.cF o u)/\NF X d/\D.rt v (upd H d u)
 bk:=λσ H=>∃d o u,H d=Δ (.cF o u)/\NF X d/\D.bk σ (upd H d u)
 ct:=λσ H=>∃d o u,H d=Δ (.cF o u)/\NF X d/\D.ct σ (upd H d u)
theorem Ck{st:Stmt}(h:PS X st t):PS X st (λD σ H=>t (pL X D) σ H):=by intro η s σ H D I q;refine bG (h η s σ H _ I q) λf s1 q1=>?_;cases f with|next=>obtain⟨cn,H',I',d,o,u,e,nf,q'⟩:=q1;exact⟨cn,_,I'.yc e nf,q'⟩|brk=>obtain⟨cn,H',I',d,o,u,e,nf,q'⟩:=q1;exact⟨cn,_,I'.yc e nf,q'⟩|cont=>obtain⟨cn,H',I',d,o,u,e,nf,q'⟩:=q1;exact⟨cn,_,I'.yc e nf,q'⟩|ret w'=>obtain⟨v,cn,H',I',r,d,o,u,e,nf,q'⟩:=q1;exact⟨v,cn,_,I'.yc e nf,r,q'⟩
end
section
variable{X:Cx}
def Fy(X:Cx)(td:TE):TI:=λσ H R=>td σ H λx H1=>∃d kvs,x=.ref d/\H1 d=Δ (.dK kvs)/\∀o,NF X d->R (Iti d o kvs) (upd H1 d (.cF o (.dK kvs)))
theorem z9(ho:PE X x td)(gT:R9 x "items" X.env (eval x X.env)=eval x X.env)(iT:(apos.endLine==cf.line)=Λ):
  PI X (.Tuple elts kk p3) (.Call (.Attribute x "items" apos) [] [] cf) (Fy X td):=by
 intro η s σ H R I h;refine wpAny_Call_method0_late gT iT (bG (ho η s σ H _ I h) λv s1 ⟨y,H1,I1,r1,d,kvs,ey,ed,q1⟩=>?_);subst ey;cases r1;obtain⟨t1,t2,yd⟩:=uZ I1 (.inl ⟨kvs,.inl ed⟩);refine⟨"dict","dict.items",Si,PySem.F.slot_dict_items,PySem.F.type_dict_items,t1,t2,Rt rfl (PySem.evalArgs_none ?_)⟩;obtain⟨o,es,ep,ky,xu,nf,I2⟩:=I1.hold ed;obtain⟨vs,rel,da⟩:=z7 I2.aJ aA xu;have dd:Heap.DictOf (aZ X.prog X.w) s1.heap d vs:=da.dictOf;refine TV PySem.F.slot_dict_items dd.typeIs PySem.F.entry_dict_items (PySem.F.args_dict_items_1 _) (meets_dict_items (aZ X.prog X.w) d yd) ⟨⟨vs,dd⟩,?_⟩;have hv:Heap.IsItemsView (s1.heap.push {cls:=.type "dict_items",data:=.fields #[.ref d]}) s1.heap.objs.size d:=⟨_,Qe _ rfl,rfl,rfl⟩;refine wpAny_pyIter_items (knd:=aZ X.prog X.w) (ep:=ep) (kvs:=vs) hv (da.at' λo' q=>P0 _ q) ?_;have hlen:kvs.length=vs.length:=rel.length;have I3:Inv X η σ (upd H1 d (.cF o (.dK kvs))) {s1 with heap:=s1.heap.push {cls:=.type "dict_items",data:=.fields #[.ref d]}}:=I2.kept (t':=s1.toks) λb o' q=>P0 _ q;refine⟨_,[_],_,_,_,rfl,I3.kept (t':=s1.toks) λb o' q=>P0 _ q,vn d _ o kvs es ep xu,⟨.none,.none,?_⟩,λb hb=>?_,q1 o nf⟩;·rw[hlen];exact Qe _ rfl
 ·have fE:b=(s1.heap.push {cls:=.type "dict_items",data:=.fields #[.ref d]}).objs.size:=by simpa using hb
  rw[fE];exact I3.qp (P8 _) (I3.aJ.fresh (P8 _))
theorem ye(rel:KV kvs vs):∀{us},us.length=vs.length->(∀(j:Nat) (v),us[j]?=Δ v->∃k x,vs[j]?=Δ (k,x)/\(aZ P w).is k v=Λ)->aM (kvs.map λkv=>kV kv.1) us:=by
 unfold KV at rel;induction rel with
 |nil=>intro us hl h;cases us with|nil=>exact .nil|cons _ _=>simp at hl
 |@cons p q ps qs e t ih=>
  intro us hl h;cases us with
  |nil=>simp at hl|cons v us=>
   refine .cons ?_ (ih (by simpa using hl) λj v' hv=>h (j+1) v' (by simpa using hv));obtain⟨k,x,hk,hi⟩:=h 0 v rfl;simp at hk;have e1:p.1=k:=by rw[e.1,hk]
   show RelV (kV p.1) v;rw[e1];exact z8 hi
theorem oW(hc:X.calm=Λ):dD X (.type "list") (λxs H Q=>∃p kvs,xs=[.ref p]/\H p=Δ (.dK kvs)/\∀l,H l=Θ->Q (.ref l) (upd H l (.lst (kvs.map λkv=>kV kv.1)))):=by intro η s σ H xs us Q I r h;obtain⟨p,kvs,rfl,hq,q⟩:=h;obtain⟨u,rfl,rx⟩:=vals1 r;cases rx;obtain⟨z,yd,vs,rel,dd⟩:=pH I.aJ hq;have hlen:kvs.length=vs.length:=rel.length;obtain⟨ep,da⟩:=dd.dictAt;refine PySem.W.kdl_call (PySem.W.kdl_dict (knd:=aZ X.prog X.w) (kvs:=vs) (ep:=ep) yd) (I.ok.hd hc) da (by lia) λh' tk acc c' kp e io=>?_;obtain⟨hsz,hit⟩:=io;have rv:aM (kvs.map λkv=>kV kv.1) acc.toList:=ye rel (by simpa using hsz) λj v hv=>hit j v (by simpa using hv);refine⟨.ref s.heap.objs.size,_,I.laid (t':=tk) kp (P8 _) (show bF X.prog X.w _ h' _ (.lst (kvs.map λkv=>kV kv.1)) from⟨by simpa using z,acc.toList,c',rv,by simpa using e⟩),rfl,q _ (I.aJ.fresh (P8 _))⟩
end
def Fz(tk tv:TE):TE:=λσ H Q=>∀p,H p=Θ->tk σ (upd H p (.dT [])) λx H1=>tv σ H1 λy H2=>H2 p=Δ (.dT [])/\∃ks b,x=.ref b/\H2 b=Δ (.tup (ks.map kV))/\Q (.ref p) (upd H2 p (.dT [(ks,y)]))
theorem Aa(hu:X.A.units+1 < cLine)(hk:PE X k tk)(hv:PE X v tv):PE X (.Dict [Δ k] [v] pos) (Fz tk tv):=by
 intro η s σ H Q I q;have hn:=I.aJ.fresh (P8 s.heap.objs.size);have I1:=I.laid (a:=s.heap.objs.size) (o:=.dT []) (h':=s.heap.push {cls:=.type "dict",data:=.dict #[]}) (t':=s.toks) (λ_ _ q=>P0 _ q) (P8 _) (sr s.heap I.L0);rw[arm_eval_Dict];have e0:(evalEachOpt [Δ k] X.env).zip (List.map (λv=>do let x<-v;UM pos;pure x) (evalEach [v] X.env))=List.map (λp=>(Δ p.1,p.2)) (pairTrees [Δ k] [v] X.env pos):=by rfl
 rw[e0,dictDisplay_pairs (pairTrees [Δ k] [v] X.env pos) (List.cons_ne_nil _ _) (Nat.le_of_ble_eq_true rfl)];refine PY (U9 (PY (wpAny_subDict_any (Nat.le_of_ble_eq_true rfl) (bG ((su hk hv wC) η _ σ _ (λps H2=>match ps with
  |[(x,y)]=>H2 s.heap.objs.size=Δ (.dT [])/\∃ks b,x=.ref b/\H2 b=Δ (.tup (ks.map kV))/\Q (.ref s.heap.objs.size) (upd H2 s.heap.objs.size (.dT [(ks,y)]))
  |_=>False) I1 (q _ hn)) λws s2 ⟨ps,H2,I2,rel,h⟩=>?_))))
 cases rel with
 |nil=>exact h.elim|@cons p1 q1 ps1 qs1 r rs=>
  cases rs with
  |cons _ _=>exact h.elim|nil=>
  obtain⟨x,y⟩:=p1;obtain⟨w1,w2⟩:=q1;obtain⟨e,ks,b,ex,eb,q2⟩:=h;subst ex;cases (show w1=Qr b from r.1);obtain⟨z,hd,xs,rl,dd⟩:=DH I2.aJ e;cases rl;unfold storeAll;rw[R1];have room:(Ux (aZ X.prog X.w)).room X.A:=by
   show X.A.units < cLine
   lia
  refine PY (PY (wpAny_dictSet_heap room (kI I2.aJ eb) dd (λh' rR hs=>P4 ?_) (by simp)));dsimp only;rw[SA];refine P4 (P4 ?_);obtain⟨qq,es,ep,hq,h2,h3,h4,_,h5⟩:=rR;refine⟨.ref s.heap.objs.size,_,gq (ob:=.dT [(ks,y)]) I2 (by rw[e];exact Q8) hs ⟨qq,hq⟩ ⟨by simp[Q0],hd,_,(KT.put (H:=H2) .nil ks eb r.2).keeps λc ys ec=>?_,qq,es,ep,hq,h2,h3,h4,h5⟩,rfl,q2⟩;rw[av (Dv ec e (λz=>nomatch z))];exact ec
section
open PySem.W (hideAll of_hideAll hideAll_get funFrames_hide)
section
variable{P:QE}{w:World}{H:Hp}{h h1 h' B base:Heap}{l:List Env}
noncomputable def JX(B:Heap)(fs:List Addr)(H':Hp)(h0 h:Heap):Prop:=∀b o,h.get? b=Δ o->(H' b≠Θ\/∃o',h0.get? b=Δ o')->b∉fs->B.get? b=Δ o
theorem gi.at(ok:gi P w H h)(e:H a=Δ o):∃u,h.get? a=Δ u:=by have x:=ok a o e;cases o with|lst xs=>obtain⟨_,_,_,_,e⟩:=x;exact⟨_,e⟩|tup xs=>obtain⟨_,_,_,o,e,_⟩:=x;exact⟨_,e⟩|dK kvs=>obtain⟨_,_,_,_,o,_,_,e,_⟩:=x;exact⟨_,e⟩|dT kvs=>obtain⟨_,_,_,_,o,_,_,e,_⟩:=x;exact⟨_,e⟩|set S n=>obtain⟨o,_,_,_,e,_⟩:=x;exact⟨_,e⟩|ins C dx fs=>obtain⟨_,_,_,e,_⟩:=x;exact⟨_,e⟩|own y=>exact x|xd fs=>obtain⟨_,⟨_,_,_,e,_⟩,_⟩:=x;exact⟨_,e⟩|jx lo hi=>obtain⟨_,_,_,e⟩:=x;exact⟨_,e⟩|cF ob u=>obtain⟨e,_⟩:=x;exact⟨_,e⟩|dc ps=>exact⟨_,show h.get? a=Δ _ from x⟩|met f y=>exact⟨_,show h.get? a=Δ _ from x⟩|ext φ=>obtain⟨_,e,_⟩:=x;exact e
theorem ng(un:Un (dz l) [] H H' h0 h)(ok:gi P w H' h)(DX:JX B (dz l) H' h0 h)(st:∀b o,B.get? b=Δ o->h'.get? b=Δ o)(us:h.UpToSlots h')(fr:h0.FunFrames base l)(hf:∀b∈dz l,H b=Θ):Un (dz l) [] H H' h0 h'/\gi P w H' h'/\JX B (dz l) H' h0 h':=by
 have sl:∀b o,h0.get? b=Δ o->b∈dz l->∃sl,h'.get? b=Δ {o with slots:=sl}:=λb o e m=>by obtain⟨_,o',e',q⟩:=fr.mem m;rw[e] at e';cases e';obtain⟨s1,e1⟩:=un.slot b o e (hf b m) m (λz=>nomatch z);obtain⟨s2,e2⟩:=us b _ e1 q;exact⟨s2,e2⟩
 have fn:∀b∈dz l,H' b=Θ:=λb m=>by obtain⟨_,o',e',_⟩:=fr.mem m;exact un.free b o' e' (hf b m) (λz=>nomatch z)
 have kp:∀b o,h.get? b=Δ o->(H' b≠Θ\/∃o',h0.get? b=Δ o')->b∉dz l->h'.get? b=Δ o:=λb o e c m=>st b o (DX b o e c m);refine⟨⟨λb o e n m x=>kp b o (un.keep b o e n m x) (.inr ⟨o,e⟩) m,λb o e _ m _=>sl b o e m,un.free,λb o e x=>?_,un.ku,un.i5,un.jy⟩,λa o e=>?_,λb o e c m=>?_⟩
 ·by_cases m:b∈dz l;·obtain⟨s,e'⟩:=sl b o e m;exact⟨_,e'⟩
  ·obtain⟨o',e'⟩:=un.there b o e x;exact⟨o',kp b o' e' (.inr ⟨o,e⟩) m⟩
 ·refine(ok a o e).iK (λb u q1 q2=>?_) (λ_ q=>q) λ_ _ q=>q;have hb:H' b≠Θ:=by
   rcases q1 with rfl|q1;·rw[e];exact λz=>nomatch z
   ·rw[q1];exact λz=>nomatch z
  exact kp b u q2 (.inl hb) λm=>hb (fn b m)
 ·have:∃o1,h.get? b=Δ o1:=by
   rcases c with c|⟨o',c⟩;·cases q:H' b with|none=>exact absurd q c|some u=>exact ok.at q
   ·exact un.there b o' c (λz=>nomatch z)
  obtain⟨o1,e1⟩:=this;have:=kp b o1 e1 c m;rw[e] at this;cases this;exact DX b o e1 c m
def Ab(P:QE)(w:World)(C:Addr):zh:=λouter H s E e s'=>∃ea t B H',e=.ref ea/\s'.os=s.os/\T4 s'.gens/\Un (dz outer) [] H H' s.heap s'.heap/\gi P w H' s'.heap/\JX B (dz outer) H' s.heap s'.heap/\
 Heap.FlyingW B outer ea (.ref C) (.ref t) s'.heap/\E e (Δ t) H'
theorem Ac(I:Inv X η σ H s)(hs:X.stack=X.env::X.outer)(hf:X.env.frame=Δ X.env.locals)(hex:X.ex=[])(hx:Heap.MadeExcOf s.heap h' e (.ref C) args)(hE:∀t,E (.ref e) (Δ t) H):
  wpAny (model X.prog X.w) X.A (leaving X.env (.ref e)) (λ_ BQ=>Ab X.prog X.w C X.outer X.oH X.dA E (.ref e) BQ) EE {s with heap:=h'}:=by
 have e0:=I.uS;have JY:X.A.frames=Δ (X.env::X.outer):=hs▸e0.frames;have wm:s.heap.FunFrames X.base (X.env::X.outer):=hs▸e0.fO;have hin:∀env∈(X.env::X.outer),∀b,env.frame=Δ b->b∈dz (X.env::X.outer):=λenv he b hb=>List.mem_filterMap.mpr ⟨env,he,hb⟩;refine wpAny_leaves_madeW (s:={s with heap:=h'}) (base:=hideAll s.heap (dz (X.env::X.outer))) JY hf (λb o q=>of_hideAll _ q) (funFrames_hide wm hin) hx λh2 t x1 x2 x3 x4=>?_;have us:s.heap.UpToSlots h2:=(Heap.UpToSlots.of_keeps hx.keeps).trans x4;have DX:JX (hideAll s.heap (dz (X.env::X.outer))) (dz X.outer) H X.dA.heap s.heap:=λb o q c m=>hideAll_get _ q λhm=>by
  obtain⟨env,he,Oe⟩:=List.mem_filterMap.mp hm;rcases Uu.mp he with rfl|he
  ·rw[hf] at Oe;cases Oe;rcases c with c|⟨o',c⟩;·exact c I.free
   ·exact absurd (Qc c) (Nat.not_lt.mpr I.ok.above)
  ·exact m (List.mem_filterMap.mpr ⟨env,he,Oe⟩)
 have ub:Un (dz X.outer) [] X.oH H X.dA.heap s.heap:=hex▸I.base;obtain⟨u1,u2,u3⟩:=ng ub I.aJ DX x1.1 us I.ok.fO I.ok.xt;exact⟨e,t,_,H,rfl,I.os,I.bare,u1,u2,u3,x1,hE t⟩
end
end
section
open PySem.W (excIn tail_of_in isNs_of_in nsMap_none_of_in)
section
variable{X:Cx}{E:XK}
theorem wL{K:P5}(IN:K.In h)(q:excIn K C bmB newId=Λ):∃bm N nm qn bs hdct sn sub ab col dd k0 k1 k2 k3 k5 mN,
  h.get? C=Δ (excClassObj nm qn C N bs bm hdct sn sub ab col dd k0 k1 k2 k3 k5 newId)/\h.Ns N mN/\mN "__init__"=Θ/\OwnTail h bmB bm:=by
 unfold excIn at q;split at q
 ·rename_i dd cd sl ho;split at q
  ·rename_i C' bm k0 k1 k2 k3 n k5 hm hs;simp only[PZ,beq_iff_eq,Qq] at q;obtain⟨⟨⟨⟨⟨rfl,rfl⟩,JZ⟩,ht⟩,aJ⟩,J0⟩:=q;obtain⟨nm,bs,mro,ns,qn,hd,sn,sub,ab,col,del⟩:=cd;dsimp only at hm JZ aJ J0;subst hm JZ;obtain rfl:sl=#[k0,k1,k2,k3,Δ (.builtin n),k5]:=by obtain⟨l⟩:=sl;simp only at hs;rw[hs]
   exact⟨bm,ns,nm,qn,bs,hd,sn,sub,ab,col,dd,k0,k1,k2,k3,k5,_,IN _ _ ho,.of_isNs (isNs_of_in IN aJ),nsMap_none_of_in IN aJ J0,tail_of_in IN ht⟩
  ·cases q
 ·cases q
theorem Ad(Fn:UQ Bn newId inN bmN)(Of:bm.contains (.type Bn)=Λ)(FB:UQ B nid FA bm)(q:excIn X.K C bm newId=Λ)(hm:X.mg x=Δ (.ref C))(hg:Gl X x)(hc:X.calm=Λ)(hx:∀(η:List (Addr×Obj)) (σ:St) (H:Hp) (s:Qd) (h':Heap) (e:Addr) (args:List Value),Inv X η σ H s->Heap.MadeExcOf s.heap h' e (.ref C) args->(∀t,E (.ref e) (Δ t) H)->X.xe (.ref e) {s with heap:=h'})(hd:(x==("__debug__":Str))=Ξ:=by decide):
  PS X (.Raise (Δ (.Call (.Name x np) [.Constant (.str msg) j cp] [] cf)) Θ pos) (λ_ _ H=>∀e t,E (.ref e) (Δ t) H):=by
 intro η s σ H D I h;obtain⟨tl,N,nm,qn,bs,hdct,sn,sub,ab,col,dd,k0,k1,k2,k3,k5,mN,hC,hN,J0,T⟩:=wL I.ok.mod.wj q;refine wpAny_Raise_call_subU (C:=C) (nm:=nm) (q:=qn) (N:=N) (bs:=bs) (bm:=tl) (hdct:=hdct) (sn:=sn) (sub:=sub) (ab:=ab) (col:=col) (dd:=dd) (k0:=k0) (k1:=k1) (k2:=k2) (k3:=k3) (k5:=k5)
  Fn Of FB (mN:=mN) (T.hasType FB.hasBase) (I.ok.hd hc) rfl J0 (fz I hg hm ⟨rfl,?_⟩ hd)
 refine R8 (bG ((eM uD kE) cf η s σ H (λvs H1=>vs.length=1/\H1=H) I ⟨rfl,rfl⟩) λus s2 ⟨vs,H1,I1,r,hl,e1⟩=>?_);subst e1;exact⟨rfl,by rw[<-r.length,hl];decide,I1.bk _ _ hC,hN.keeps I1.bk,T.keeps I1.bk,λh' e hm=>hx η σ H1 s2 h' e us I1 hm (h e)⟩
end
end
end L2
namespace L2
open PySem PySem.Spec PyProof.Rows PySem.W
section
variable{X:Cx}{E:XK}
theorem yf{rest:List ExceptHandler}(I:Inv X η σ H s)(hs:X.stack=X.env::X.outer)(hf:X.env.frame=Δ X.env.locals)(F:Ab X.prog X.w C X.stack H s E e s')(q:excIn X.K C bm newId=Λ)(gT:bm.contains (.type "BaseException")=Λ)(hm:X.mg x=Δ (.ref C))(hg:Gl X x)(k:∀ea t H' h6,e=.ref ea->E e (Δ t) H'->Inv X η σ H' {s' with heap:=h6}->wpAny (model X.prog X.w) (X.A.mark (Δ (.ref ea))) (execs (Ae::sV) X.env) Q E' {s' with heap:=h6})(hE:∀ea,PassesOwnAt (model X.prog X.w) (X.A.mark (Δ (.ref ea))) X.A X.env E')(hd:(x==("__debug__":Str))=Ξ:=by decide):
  wpAny (model X.prog X.w) X.A (noteFrame e X.env) (λ_ jA=>wpAny (model X.prog X.w) X.A (setFlight e Θ) (λ_ oO=>wpAny (model X.prog X.w) X.A (handleBy e X.env (.ExceptHandler (Δ (.Name x np)) Θ (Ae::sV) pos::rest)) Q E' oO) E' jA) E' s':=by
 obtain⟨ea,t,B,H',rfl,os,bare,un,ok,DX,J1,Og⟩:=F;have e0:=I.uS;have JY:X.A.frames=Δ (X.env::X.outer):=hs▸e0.frames;rw[hs] at J1;have inv:∀h5,(∀b o,B.get? b=Δ o->h5.get? b=Δ o)->s'.heap.UpToSlots h5->Inv X η σ H' {s' with heap:=h5}:=λh5 st us=>by obtain⟨u1,u2,u3⟩:=ng un ok DX st us e0.fO e0.xt;obtain⟨v,H2,I2,_,rfl⟩:=I.after (Q:=λ_ H2=>H2=H') (u:=.none) (s':={s' with heap:=h5}) ⟨.bu,H',os,bare,u1,u2,rfl,rfl⟩;exact I2
 refine wpAny_looks_onW JY hf J1 λh4 Af J2=>?_;refine wpAny_landsW Af λh5 nh J3=>?_;have I5:=inv h5 nh.1 (J2.trans J3);obtain⟨ob,Ag,Oh⟩:=nh.there;obtain⟨tl,N,nm,qn,bs,hdct,sn,sub,ab,col,dd,k0,k1,k2,k3,k5,mN,hC,hN,J0,T⟩:=wL I5.gM q;refine wpAny_handleBy_cons (codeAny_handlers_test (RW I.ok.kind hg (S7 (by rw[I.ok.glob];exact I.mod.glob.keeps I5.bk) hm ?_) hd)) (by intro q;cases q);refine wpAny_excMatches_sub_self hC Ag Oh (T.hasType gT) (codeAny_handlers_suite ?_);refine lands_againW nh λh6 Cm Oi=>?_;exact wpAny_passesOwnAt (hE ea) (k ea t H' h6 rfl Og (inv h6 Cm.1 ((J2.trans J3).trans Oi)))
end
section
variable{X:Cx}
theorem sW{u:TS}(hs:X.stack=X.env::X.outer)(hf:X.env.frame=Δ X.env.locals)(F:cz X.prog X.w X.K X.mg X.base (Ab X.prog X.w C) k f fd ps sp)(hr:cb k X.A)(FC:Gl X fx)(Oj:X.mg fx=Δ (.ref f))(hk:keepIn X.K (.ref f)=Λ)(hb:Binds X.K fd ps [])(ha:PA X.oI (e::es) t)(q:excIn X.K C bm newId=Λ)(gT:bm.contains (.type "BaseException")=Λ)(hm:X.mg x=Δ (.ref C))(hg:Gl X x)(hsu:∀(ea:Addr) (η:List (Addr×Obj)) (s:Qd) (σ:St) (H:Hp) (D:Ends),Inv X η σ H s->u D σ H->wpAny (model X.prog X.w) (X.A.mark (Δ (.ref ea))) (execs (Ae::sV) X.env) (SP X η D) X.xe s)(hE:∀ea,PassesOwnAt (model X.prog X.w) (X.A.mark (Δ (.ref ea))) X.A X.env X.xe)(hd:(x==("__debug__":Str))=Ξ:=by decide)(xQ:(fx==("__debug__":Str))=Ξ:=by decide)(he:Qo (e::es) X.env=(Ξ,eval e X.env)::Qo es X.env:=by rfl)(oJ:(Rx cf (Qo es X.env)).any (·.1)=Ξ:=by rfl)(Ju:Se (.Call (.Name fx p) (e::es) [] cf) Θ Ah.line X.env=pure Ξ:=by rfl):
  PS X (.Try [.Expr (.Call (.Name fx p) (e::es) [] cf) Ah] [.ExceptHandler (Δ (.Name x np)) Θ (Ae::sV) Ai] [] [] pos)
   (λD σ H=>t σ H λvs H1=>sp vs H1 (λ_ H2=>D.nx σ H2) (λ_ _ H2=>u D σ H2)):=by
 intro η s σ H D I h;refine wpAny_Try_except (SF ?_);refine UX ?_ I.quiet Ju;refine QN (fz I FC Oj ?_ xQ);refine callWith_K (h₀:=X.base) I.ok.mod.wj hk ?_ he oJ;refine QS (ha cf η s σ H _ (I.jC _) h) (λus s1 ⟨vs,H1,I1,r,hq⟩=>?_) λ_ _ z=>QB z;have yQ:Inv X η σ H1 s1:=I1.eB;refine⟨yQ.gM,?_⟩;have hl:us.length=ps.length:=by rw[<-r.length];exact F.len _ _ _ _ hq
 have J4:T3 s1 fd ⟨us,[]⟩ (ps.zip us):=by have:=hb s1 us yQ.gM (by rw[QK];exact hl);rwa [QK] at this
 refine UK (SG (F.run X.A X.stack s1 H1 ⟨us,[]⟩ us vs _ _ hr yQ.uS J4 r hq) λrr s' hc=>?_);cases rr with|error e=>exact yf (C:=C) (E:=λ_ _ H2=>u D σ H2) yQ hs hf (show Ab X.prog X.w C X.stack H1 s1 (λ_ _ H2=>u D σ H2) e s' from hc) q gT hm hg (λea t H' h6 _ hu I6=>hsu ea η _ σ H' D I6 hu) hE hd|ok fl=>cases fl with|ret v=>obtain⟨v',H2,I2,_,hn⟩:=yQ.after hc;exact RL (RL ⟨σ,H2,I2,hn⟩)|next=>exact QB hc|brk=>exact QB hc|cont=>exact QB hc
end
theorem Cn(I:Inv X η σ H s)(h:D.rt (.bl Λ) H):
  wpAny (model X.prog X.w) A (execs [.Return (Δ (.Constant (.bool Λ) j cp)) pos] X.env) (SP X η D) E s:=
 SF (wpAny_Return_some (Constant_bool ⟨.bl Λ,σ,H,I,rfl,h⟩))
end L2
namespace L2
open PySem PySem.Spec PyProof.Rows PySem.W PySem.Calls
section
variable{X:Cx}{E:XK}
abbrev Cx.held(X:Cx)(ea:Addr)(ob:Obj):Cx:={X with A:=X.A.mark (Δ (.ref ea)),calm:=Ξ,pn:=(ea,ob)::X.pn,xe:=λ_ _=>False}
theorem Inv.held(I:Inv X ((ea,ob)::η) σ H s):Inv (X.held ea ob) η σ H s:=
 ⟨⟨I.ok.mod,I.ok.kind,I.ok.glob,I.ok.blt,I.ok.above,I.ok.inj,I.ok.has,I.ok.Dw,λz=>(Bool.noConfusion z),I.ok.frames,I.ok.HA,I.ok.LL,I.ok.bs,I.ok.xq,I.ok.uA,I.ok.xr,I.ok.fO,I.ok.xt⟩,
  I.os,I.bare,I.base,I.loc,I.cell,I.free,I.eZ,λp hp=>I.pin p (by
   rcases List.mem_append.mp hp with z|z
   ·rcases Uu.mp z with z|z;·exact Qk _ (z▸P7)
    ·exact RG _ z
   ·exact Qk _ (P6 _ z)),I.aJ,I.len⟩
theorem Inv.FD(ok:X.Ok)(I:Inv (X.held ea ob) η σ H s):Inv X η σ H s:=
 ⟨ok,I.os,I.bare,I.base,I.loc,I.cell,I.free,I.eZ,λp hp=>I.pin p (by
   rcases List.mem_append.mp hp with z|z;·exact RG _ (P6 _ z)
   ·exact Qk _ z),I.aJ,I.len⟩
theorem Inv.gone(I:Inv X η σ H s)(uB:h'.Ns X.env.locals m')(hs:RO X.env.locals s.heap h'):
  Inv X η (Rb X.N.length Θ) H {s with heap:=h',toks:=t}:=by
 have ne:∀{b:Addr} {o:Obj},X.dA.heap.get? b=Δ o->b≠X.env.locals:=λe=>Qt (Qj (Qc e) I.ok.above);refine⟨I.ok,I.os,I.bare,⟨λb o e n hb hx=>(hs.2 b (ne e)).trans (I.base.keep b o e n hb hx),λb o e n hb hx=>?_,I.base.free,λb o e hx=>?_,I.base.ku,I.base.i5,I.base.jy⟩,⟨m',uB,λj y v' e1 e2 e3=>?_⟩,λy c e=>?_,I.free,I.eZ,λp hp=>?_,λb o e=>?_,by simp⟩;·obtain⟨sl,e1⟩:=I.base.slot b o e n hb hx;exact⟨sl,(hs.2 b (ne e)).trans e1⟩
 ·obtain⟨o',e1⟩:=I.base.there b o e hx;exact⟨o',(hs.2 b (ne e)).trans e1⟩
 ·rw[RK] at e2;split at e2<;>cases e2
 ·obtain⟨w',z⟩:=I.cell y c e;exact⟨w',z.sameBut hs (I.BC y c e)⟩
 ·obtain⟨e,n,ne',nf,d⟩:=I.pin p hp;exact⟨(hs.2 p.1 ne').trans e,n,ne',nf,d⟩
 ·refine(I.aJ b o e).iK (λc w' hc q=>(hs.2 c ?_).trans q) (λ_ q=>q) λ_ _ q=>q;rintro rfl;rcases hc with z|z;·rw[<-z,I.free] at e;cases e
  ·rw[I.free] at z;cases z
theorem Aj{K:Frag}{HH:Heap->Prop}(ty:∀(M:Model) (h:Heap),HH h->Looks M h (typeOf x) t)(e:kitOne K t c=Δ Λ):Answers (λs=>K.In s.heap/\HH s.heap) x c Λ:=by
 intro dep tk prog w A R s hs;obtain⟨h0,g,d,tt,os⟩:=s;obtain⟨⟨wj,p⟩,hq⟩:=hs;have lt:=ty (model prog w) h0 p;unfold kitOne at e;unfold Tj.«isinstance.nested»;refine PY (lt.at ?_);by_cases q:(t==c)=Λ
 ·rw[if_pos q]
  (repeat lk);exact hq tt
 ·rw[if_neg q] at e ⊢;obtain⟨k1,k2,k3⟩:=kit_cls (M:=model prog w) wj e;have li:Looks (model prog w) h0 (isInstance x c) Λ:=lt.andThen k3;refine PY (k1.at ?_);rw[if_pos (by decide)]
  k_delta "plainIsInstance"
  refine PY (PY (k2.at ?_));simp only[Bool.not_true,Rj,if_false];refine PY (li.at ?_);exact P4 (P4 (hq tt))
theorem pM(ho:ob.cls=.ref C)(e:kitOne X.K (.ref C) c=Δ Λ)(hv:∀u,RelV v u->u=c):
  dD (X.held ea ob) (.builtin "isinstance") (λxs H Q=>xs=[.ref ea,v]/\Q (.bl Λ) H):=by
 intro η s σ H xs us Q I hvs h;obtain⟨rfl,h⟩:=h;obtain⟨u1,u2,rfl,r1,r2⟩:=aM.two hvs;cases (show u1=Qr ea from r1);obtain rfl:=hv u2 r2;have Ag:s.heap.get? ea=Δ ob:=(I.pin (ea,ob) (RG _ P7)).1;refine call_isinstance (S:=λ_ R s=>(X.K.In s.heap/\∃o,s.heap.get? ea=Δ o/\o.cls=.ref C)/\∀tk,R (.ok (.ret (.bool Λ))) {s with toks:=tk})
  (λprog w A R s hs=>isinstance_outer (Aj (HH:=λh=>∃o,h.get? ea=Δ o/\o.cls=.ref C) (λM h ⟨o,h1,h2⟩=>h2▸(Looks.ld h1).andThen .now) e 0 _ prog w A R s hs) (λz=>nomatch z)) ⟨⟨I.gM,ob,Ag,ho⟩,λtk=>?_⟩
 exact⟨.bl Λ,H,I.tok tk,rfl,h⟩
theorem Ak{rest:List ExceptHandler}(I:Inv X η σ H s)(hs:X.stack=X.env::X.outer)(hf:X.env.frame=Δ X.env.locals)(F:Ab X.prog X.w C X.stack H s E e s')(hx:exmOne X.K (.ref C) (.ref Y)=Δ Λ)(hm:X.mg x=Δ (.ref Y))(hg:Gl X x)(hN:X.N.Nodup)(hi:X.N[ix]?=Δ n)(hl:X.env.scope.names.lookup n=Δ .local)(k:∀ea t H' ob s6,e=.ref ea->E e (Δ t) H'->ob.cls=.ref C->Inv (X.held ea ob) η (σ.set ix (Δ (.ref ea))) H' s6->wpAny (model X.prog X.w) (X.A.mark (Δ (.ref ea))) (execs (Ae::sV) X.env) (SP (X.held ea ob) η {nx:=λ_ _=>False,rt:=D.rt}) (λ_ _=>False) s6)(hd:(x==("__debug__":Str))=Ξ:=by decide):
  wpAny (model X.prog X.w) X.A (noteFrame e X.env) (λ_ jA=>wpAny (model X.prog X.w) X.A (setFlight e Θ) (λ_ oO=>wpAny (model X.prog X.w) X.A (handleBy e X.env (.ExceptHandler (Δ (.Name x np)) (Δ n) (Ae::sV) pos::rest)) (SP X η D) E' oO) E' jA) E' s':=by
 obtain⟨ea,t,B,H',rfl,os,bare,un,ok,DX,J1,Og⟩:=F;have e0:=I.uS;have JY:X.A.frames=Δ (X.env::X.outer):=hs▸e0.frames;rw[hs] at J1;have inv:∀h5,(∀b o,B.get? b=Δ o->h5.get? b=Δ o)->s'.heap.UpToSlots h5->Inv X η σ H' {s' with heap:=h5}/\JX B (dz X.stack) H' s.heap h5:=λh5 st us=>by obtain⟨u1,u2,u3⟩:=ng un ok DX st us e0.fO e0.xt;obtain⟨v,H2,I2,_,rfl⟩:=I.after (Q:=λ_ H2=>H2=H') (u:=.none) (s':={s' with heap:=h5}) ⟨.bu,H',os,bare,u1,u2,rfl,rfl⟩;exact⟨I2,u3⟩
 refine wpAny_looks_onW JY hf J1 λh4 Af J2=>?_;refine wpAny_landsW Af λh5 nh J3=>?_;obtain⟨I5,_⟩:=inv h5 nh.1 (J2.trans J3);obtain⟨ob5,Ol,J5⟩:=nh.there;refine wpAny_handleBy_cons (codeAny_handlers_test (RW I.ok.kind hg (S7 (by rw[I.ok.glob];exact I.mod.glob.keeps I5.bk) hm ?_) hd)) (by intro q;cases q);refine(exm_one I5.gM (J5▸(Looks.ld Ol).andThen .now) hx).here (codeAny_handlers_suite_as ?_);refine lands_againW nh λh6 Cm Oi=>?_;obtain⟨I6,Om⟩:=inv h6 Cm.1 ((J2.trans J3).trans Oi);obtain⟨_,f2,f3,oe,ws,T,oT,ts,he,hc,hda,_⟩:=id Cm;have Oo:ea∉dz X.stack:=λm=>by rw[hs] at m;obtain⟨_,o,ho,EJ⟩:=f3.mem m;rw[he] at ho;cases ho;exact EJ _ hda
 have nH:H' ea=Θ:=by cases q:H' ea with|none=>rfl|some u=>have:=Om ea oe he (.inl (by rw[q];exact λz=>nomatch z)) Oo;rw[f2] at this;cases this
 have nL:ea≠X.env.locals:=λz=>Oo (by rw[hs,z];exact List.mem_filterMap.mpr ⟨X.env,P7,hf⟩);have nF:ea∉X.fs:=λz=>Oo (by rw[hs];obtain⟨v,h1,h2⟩:=List.mem_filterMap.mp z;exact List.mem_filterMap.mpr ⟨v,P6 _ h1,h2⟩);have I6':Inv X ((ea,oe)::η) σ H' {s' with heap:=h6}:=I6.qk λp hp=>by
  rcases Uu.mp hp with z|z;·subst z;exact⟨he,nH,nL,nF,λv=>by rw[hda];exact λz=>nomatch z⟩
  ·exact I6.pin p (Qk _ z)
 refine gP I6' hN hi (.inl hl) (v:=.ref ea) rfl (λs7 I7=>?_) (.inr hl);refine QS (k ea t H' oe s7 rfl Og hc.1 I7.held) (λf s8 h8=>?_) λ_ _ z=>QB z;cases f with|ret u=>obtain⟨v,cn,H2,I8,rv,hq⟩:=h8;have I9:=I8.FD I.ok;obtain⟨m,hn,_⟩:=I9.loc;refine wpAny_nameGoes hl hn (by rw[I.ok.kind];rfl) λh' m' uB Fd=>?_;exact⟨v,_,H2,I9.gone uB Fd,rv,hq⟩|next=>obtain⟨_,_,_,z⟩:=h8;exact QB z|brk=>obtain⟨_,_,_,z⟩:=h8;exact QB z|cont=>obtain⟨_,_,_,z⟩:=h8;exact QB z
end
end L2
namespace L2
open PySem PySem.Spec PyProof.Rows PySem.W
section
variable{X:Cx}
theorem yg{k ix:Nat}(hs:X.stack=X.env::X.outer)(hf:X.env.frame=Δ X.env.locals)(F:cz X.prog X.w X.K X.mg X.base (Ab X.prog X.w C) k f fd ps sp)(hr:cb k X.A)(FC:Gl X fx)(Oj:X.mg fx=Δ (.ref f))(hk:keepIn X.K (.ref f)=Λ)(hb:Binds X.K fd ps [])(ha:PA X.oI (e::es) t)(hx:exmOne X.K (.ref C) (.ref Y)=Δ Λ)(hm:X.mg y=Δ (.ref Y))(hg:Gl X y)(hN:X.N.Nodup)(hi:X.N[ix]?=Δ n)(hl:X.env.scope.names.lookup n=Δ .local)(Mg:Gl X "isinstance")(Mh:X.mg "isinstance"=Θ)(Oq:Gl X x)(Ot:X.mg x=Δ (.ref C))(Jv:Gl X tx)(Ou:X.mg tx=Θ)(J4:R5 tx=Δ (.type tn))(i1:kitOne X.K (.ref C) (.ref C)=Δ Λ)(i2:kitOne X.K (.ref C) (.type tn)=Δ Λ)(hd:(y==("__debug__":Str))=Ξ:=by decide)(xQ:(fx==("__debug__":Str))=Ξ:=by decide)(FE:(x==("__debug__":Str))=Ξ:=by decide)(Ov:(tx==("__debug__":Str))=Ξ:=by decide)(Fu:tx≠"__name__":=by decide)(Mi:(n==("__debug__":Str))=Ξ:=by decide)(iR:(n==("__classdict__":Str))=Ξ:=by decide)(he:Qo (e::es) X.env=(Ξ,eval e X.env)::Qo es X.env:=by rfl)(oJ:(Rx cf (Qo es X.env)).any (·.1)=Ξ:=by rfl)(Ju:Se (.Call (.Name fx p) (e::es) [] cf) Θ Ah.line X.env=pure Ξ:=by rfl):
  PS X (.Try [.Expr (.Call (.Name fx p) (e::es) [] cf) Ah] [.ExceptHandler (Δ (.Name y np)) (Δ n) [.Return (Δ (.BoolOp .And [.Call (.Name "isinstance" q1) [.Name n q2,.Name x q3] [] c1,.Call (.Name "isinstance" q4) [.Name n q5,.Name tx q6] [] c2] bp)) rp] Ai] [] [] pos)
   (λD σ H=>t σ H λvs H1=>sp vs H1 (λ_ H2=>D.nx σ H2) (λ_ _ H2=>D.rt (.bl Λ) H2)):=by
 intro η s σ H D I h;refine wpAny_Try_except (SF ?_);refine UX ?_ I.quiet Ju;refine QN (fz I FC Oj ?_ xQ);refine callWith_K (h₀:=X.base) I.ok.mod.wj hk ?_ he oJ;refine QS (ha cf η s σ H _ (I.jC _) h) (λus s1 ⟨vs,H1,I1,r,hq⟩=>?_) λ_ _ z=>QB z;have yQ:Inv X η σ H1 s1:=I1.eB;refine⟨yQ.gM,?_⟩;have Ow:us.length=ps.length:=by rw[<-r.length];exact F.len _ _ _ _ hq
 have Ox:T3 s1 fd ⟨us,[]⟩ (ps.zip us):=by have:=hb s1 us yQ.gM (by rw[QK];exact Ow);rwa [QK] at this
 refine UK (SG (F.run X.A X.stack s1 H1 ⟨us,[]⟩ us vs _ _ hr yQ.uS Ox r hq) λrr s' hc=>?_);cases rr with
 |error e=>
  refine Ak (C:=C) (E:=λ_ _ H2=>D.rt (.bl Λ) H2) yQ hs hf (show Ab X.prog X.w C X.stack H1 s1 (λ_ _ H2=>D.rt (.bl Λ) H2) e s' from hc) hx hm hg hN hi hl (λea t H' ob s6 _ hu ho I6=>?_) hd;have ps1:iq (X.held ea ob) [.Return (Δ (.BoolOp .And [.Call (.Name "isinstance" q1) [.Name n q2,.Name x q3] [] c1,.Call (.Name "isinstance" q4) [.Name n q5,.Name tx q6] [] c2] bp)) rp] _:=
   BD (mK (yW (gR (pM ho i1 (v:=.ref C) λu z=>z) Mg Mh US (eM (mJ hi (.inl hl) Mi iR) (eM (ql (v:=.ref C) Oq Ot rfl FE) kE)) (by decide+kernel) (by decide+kernel))
    (uE (gR (pM ho i2 (v:=.ty tn) λu z=>z) Mg Mh US (eM (mJ hi (.inl hl) Mi iR) (eM (wq (v:=.ty tn) Jv Ou J4 rfl Fu Ov) kE)) (by decide+kernel) (by decide+kernel)))))
  have g:(σ.set ix (Δ (V.ref ea)))[ix]?=Δ (Δ (.ref ea)):=Q6 (by rw[yQ.len];exact(qqz hi).1);exact ps1 η s6 _ H' _ I6 ⟨_,g,rfl,Λ,rfl,(if_pos rfl).mpr ⟨_,g,rfl,hu⟩⟩
 |ok fl=>cases fl with|ret v=>obtain⟨v',H2,I2,_,hn⟩:=yQ.after hc;exact RL (RL ⟨σ,H2,I2,hn⟩)|next=>exact QB hc|brk=>exact QB hc|cont=>exact QB hc
end
end L2
namespace Y
open PySem
inductive D where
 |bu|bl (b:Bool)|int (i:Int)|str (x:Str)|tup (xs:List D)|pl (xs:List D)
inductive P where
 |d (x:D)|obj (n:Nat)|fb (ns:List Int)
 |fn (k:Nat) (bx:List P)|lf (k:Nat)
inductive O where
 |lst (xs:List P)|dK (kvs:List (Sum Int Str×P))|dT (kvs:List (List (Sum Int Str)×P))|ins (c:Str) (fs:List (Str×P))
 |rW
abbrev aR:=List O
abbrev cB:=List (Option P)
inductive R (α:Type) where
 |ok (a:α) (st:aR)|ex (x:Str) (st:aR)|no
noncomputable def R.bind{α β:Type}(r:R α)(k:α->aR->R β):R β:=match r with|.ok a st=>k a st|.ex x st=>.ex x st|.no=>.no
noncomputable def R.of{α:Type}(o:Option α)(st:aR):R α:=match o with|some a=>.ok a st|none=>.no
@[simp] theorem ax{α β:Type}(a:α)st(k:α->aR->R β):(R.ok a st).bind k=k a st:=rfl
@[simp] theorem Mj{α β:Type}x st(k:α->aR->R β):(R.ex x st:R α).bind k=.ex x st:=rfl
@[simp] theorem jQ{α β:Type}(k:α->aR->R β):(R.no:R α).bind k=.no:=rfl
@[simp] theorem dh{α:Type}(a:α)st:R.of (Δ a) st=.ok a st:=rfl
@[simp] theorem of_none{α:Type}st:R.of (Θ:Option α) st=.no:=rfl
inductive J6 where|add|sub|mul|mod|fdiv
inductive DY where|lt|le|gt|ge|eq|ne|isin|sX
inductive Bf where|len|any|str|tuple
mutual
inductive E where
 |var (i:Nat)
 |cst (x:D)
 |op (o:J6) (a b:E)
 |neg (a:E)
 |not (a:E)
 |cmp (o:DY) (a b:E)
 |chain (o o':DY) (a b c:E)
 |and (es:List E)
 |or (es:List E)
 |ite (c a b:E)
 |tup (es:List E)
 |lst (m:Bool) (l:L)
 |call (f:Nat) (es:List E)
 |oF (a:E) (T:String)
 |bf (f:Bf) (es:List E)
 |ix (a b:E)
 |slice (a:E) (lo hi:Option E)
 |rev (a:E)
 |join (a:E) (b:E)
 |vo (t:List (Str×Int)) (a:E)
 |Al (t:Bool)
 |sY (i:Nat) (es:List E)
 |fV (f:Nat) (es:List E) (ls:List (Nat×List Nat))
 |fc (i:Nat) (es:List E) (ls:List (Nat×List Nat))
 |lam (k:Nat)
 |attr (c f:Str) (i:Nat)
 |yh (k:Nat) (c m:Str) (i:Nat) (es:List E)
 |make (k:Nat) (c:Str) (es:List E)
 |Am (a b:E)
 |An (a:E)
 |sZ (a b c:E)
 |Ao (k:E) (x:D)
inductive L where
 |fe (es:List E)
 |comp (it:W) (ts:Nat) (js:List Nat) (c:Option E) (e:E)
 |list (e:E)
 |jx (es:List E)
 |zip (a b:E)
 |cj (e:E) (js:List Nat) (c:Option E) (ee:E)
 |keys (e:E)
inductive W where
 |ex (e:E)
 |jx (es:List E)
 |enum (e:E)
end
inductive Tg where
 |nm (i:Nat)
 |tup (is:List Nat)
 |two (i j:Nat)
inductive S where
 |ret (e:E)
 |Ap
 |set (i:Nat) (e:E)
 |ifs (c:E) (a b:List S)
 |oX (t:Tg) (w:W) (b:List S)
 |ni (c:E) (b:List S)
 |g8 (t:Tg) (e:E) (b:List S)
 |Aq (i j:Nat) (e:E) (b:List S)
 |g9 (i j:Nat) (e:E) (b:List S)
 |expr (e:E)
 |kP (i k:Nat)
 |Ar (c f:Str) (i:Nat) (e:E)
 |app (a e:E)
 |put (a i e:E)
 |raise
inductive Fl where
 |nx (r:cB)|bk (r:cB)|ct (r:cB)|rt (v:P)
def aB:Nat:=16777216
noncomputable def jR:Int:=18446744073709551616
def l8:Int:=4611686018427387904
def lY(o:J6)(i j:Int):Option Int:=match o with|.add=>Δ (i+j)|.sub=>Δ (i - j)|.mul=>if(-jR < i/\i < jR)\/(-jR < j/\j < jR) then Δ (i*j) else Θ|.mod=>if 0 < j then Δ (i % j) else Θ|.fdiv=>if 0 < j/\j < 1073741824 then Δ (i / j) else Θ
def Co:P->Option D
 |.d x=>Δ x|_=>Θ
def be:List P->Option (List D)
 |[]=>Δ []|p::r=>(Co p).bind λx=>(be r).map λxs=>x::xs
def cE(st:aR):P->Option (List P)
 |.d (.pl xs)=>Δ (xs.map .d)|.obj n=>match st[n]? with|some (.lst xs)=>Δ xs|_=>Θ
 |_=>Θ
def As(o:J6)(a b:P)(st:aR):Option P:=match o,a,b with|o,.d (.int i),.d (.int j)=>(lY o i j).map λk=>.d (.int k)|.add,.d (.str x),.d (.str y)=>if x.length+y.length<=aB then Δ (.d (.str (x++y))) else Θ|.add,.d (.tup xs),.d (.tup ys)=>if xs.length+ys.length<=aB then Δ (.d (.tup (xs++ys))) else Θ|.mul,.d (.tup xs),.d (.int k)=>if k=1 then Δ (.d (.tup xs)) else if k=2/\0 < xs.length/\xs.length<=100000 then Δ (.d (.tup (xs++xs))) else if k=3/\0 < xs.length/\xs.length<=100000 then Δ (.d (.tup (xs++xs++xs))) else Θ|.add,a,b=>(cE st a).bind λxs=>(cE st b).bind λys=>(be (xs++ys)).bind λzs=>if zs.length<=aB then Δ (.d (.pl zs)) else Θ|_,_,_=>Θ
mutual
def qJ:D->D->Bool
 |.bu,.bu=>Λ|.bl a,.bl b=>a==b|.bl a,.int j=>(if a then 1 else 0)==j|.int i,.bl b=>i==(if b then 1 else 0)|.int i,.int j=>i==j|.str x,.str y=>x==y|.tup xs,.tup ys=>fL xs ys|.pl xs,.pl ys=>fL xs ys|_,_=>Ξ
def fL:List D->List D->Bool
 |[],[]=>Λ|x::xs,y::ys=>qJ x y&&fL xs ys|_,_=>Ξ
end
mutual
def nj:D->Nat
 |.tup xs=>tm xs+1|.pl xs=>tm xs+1|_=>0
def tm:List D->Nat
 |[]=>0|x::xs=>max (nj x) (tm xs)
end
theorem Oy:qJ (.int i) (.int j)=(i==j):=rfl
theorem Ml:fL (x::xs) (y::ys)=(qJ x y&&fL xs ys):=rfl
def pN(x y:D):Option Bool:=if min (nj x) (nj y)<=100 then Δ (qJ x y) else Θ
def nk:D->Bool
 |.tup _=>Ξ|.pl _=>Ξ|_=>Λ
noncomputable def J7(o:DY)(i j:Int):Option Bool:=match o with|.lt=>Δ (decide (i < j))|.le=>Δ (decide (i<=j))|.gt=>Δ (decide (j < i))|.ge=>Δ (decide (j<=i))|_=>Θ
def ff(st:aR):P->Option (List P)
 |.d (.tup xs)=>Δ (xs.map .d)|.fb ns=>Δ (ns.map λi=>.d (.int i))|p=>cE st p
def iO(st:aR):P->Option D
 |.d x=>Δ x|.obj n=>match st[n]? with|some (.lst xs)=>(be xs).map .pl|_=>Θ
 |_=>Θ
mutual
noncomputable def bY:P->Bool
 |.d _=>Λ|.fn _ bx=>cx bx|_=>Ξ
noncomputable def cx:List P->Bool
 |[]=>Λ|p::r=>bY p&&cx r
end
def qK(st:aR):P->Option P
 |.fb ns=>Δ (.fb ns)|.fn k bx=>if cx bx then Δ (.fn k bx) else Θ|p=>(iO st p).map .d
def eI(st:aR):List P->Option (List P)
 |[]=>Δ []|p::r=>(qK st p).bind λx=>(eI st r).map λxs=>x::xs
noncomputable def keyOf:P->Option (Sum Int Str)
 |.d (.int i)=>Δ (.inl i)|.d (.str x)=>Δ (.inr x)|_=>Θ
def keysOf:List D->Option (List (Sum Int Str))
 |[]=>Δ []|x::r=>(keyOf (.d x)).bind λk=>(keysOf r).map λks=>k::ks
def jS:P->Option (List (Sum Int Str))
 |.d (.tup xs)=>keysOf xs|_=>Θ
noncomputable def jc{κ:Type}[DecidableEq κ](kvs:List (κ×P))(k:κ):Option P:=(kvs.find? λkv=>decide (kv.1=k)).map (·.2)
noncomputable def oY{κ:Type}[DecidableEq κ](kvs:List (κ×P))(k:κ)(v:P):List (κ×P):=
 if(kvs.any λkv=>decide (kv.1=k))=Λ then kvs.map (λkv=>if kv.1=k then(kv.1,v) else kv) else kvs++[(k,v)]
def nq(o:O)(k:P):Option (Option P):=match o with|.lst _=>Θ|.ins _ _=>Θ|.rW=>Θ|.dK kvs=>(keyOf k).map λk=>jc kvs k|.dT kvs=>(jS k).map λk=>jc kvs k
def pO:O->Bool
 |.lst _=>Ξ|.ins _ _=>Ξ|.rW=>Ξ|_=>Λ
def FF(st:aR):P->Option O
 |.obj n=>st[n]?|_=>Θ
def fg(st:aR)(p:P):Option O:=(FF st p).bind λo=>if pO o then Δ o else Θ
def J8:O->Nat
 |.lst xs=>xs.length|.ins _ _=>0|.rW=>0|.dK kvs=>kvs.length|.dT kvs=>kvs.length
def J9(o:O)(k v:P):Option O:=match o with|.lst _=>Θ|.ins _ _=>Θ|.rW=>Θ|.dK kvs=>if kvs.length < aB then(keyOf k).map λk=>.dK (oY kvs k v) else Θ|.dT kvs=>if kvs.length < aB then(jS k).map λk=>.dT (oY kvs k v) else Θ
def FG(o:DY)(a b:P):Option Bool:=match a,b with|.d (.int i),.d (.int j)=>J7 o i j|_,_=>Θ
def Ka(a b:P)(st:aR):Option Bool:=match fg st b with|some o=>(nq o a).map λr=>r.isSome|none=>(Co a).bind λx=>(ff st b).bind λps=>(be ps).bind λys=>if nk x&&ys.all nk then Δ (ys.any λy=>qJ y x) else Θ
def gL(o:DY)(a b:P)(st:aR):Option Bool:=match o with|.eq=>(iO st a).bind λx=>(iO st b).bind λy=>pN x y|.ne=>(iO st a).bind λx=>(iO st b).bind λy=>(pN x y).map not|.isin=>Ka a b st|.sX=>(Ka a b st).map not|_=>FG o a b
def iP(st:aR):P->Option Bool
 |.d .bu=>Δ Ξ|.d (.bl b)=>Δ b|.d (.int i)=>Δ (i !=0)|.d (.str x)=>if x.length<=aB then Δ ((x.length:Int)!=0) else Θ|.d (.tup xs)=>Δ (!xs.isEmpty)|p=>(cE st p).map λxs=>!xs.isEmpty
noncomputable def Cp:P->aR->Option String
 |.d .bu,_=>Δ "NoneType"|.d (.bl _),_=>Δ "bool"|.d (.int _),_=>Δ "int"|.d (.str _),_=>Δ "str"|.d (.tup _),_=>Δ "tuple"|.d (.pl _),_=>Δ "list"|.obj n,st=>match st[n]? with|some (.lst _)=>Δ "list"|_=>Θ
 |_,_=>Θ
def bO(t T:String):Bool:=t==T||(t=="bool"&&T=="int")
noncomputable def xI(n:Nat)(i:Int):Option Nat:=if 0<=i then(if i < n then Δ i.toNat else Θ) else if -(n:Int)<=i then Δ (i+n).toNat else Θ
def oE{α:Type}(xs:List α)(i:Int):Option α:=(xI xs.length i).bind λj=>xs[j]?
def cw(n d:Nat):Option Int->Nat
 |none=>d|some i=>if i < 0 then(i+n).toNat else min i.toNat n
def eD{α:Type}(xs:List α)(lo hi:Option Int):List α:=(xs.drop (cw xs.length 0 lo)).take (cw xs.length xs.length hi - cw xs.length 0 lo)
noncomputable def jT:Option P->Option (Option Int)
 |none=>Δ Θ|some (.d (.int i))=>Δ (Δ i)|_=>Θ
def jd(a:P)(lo hi:Option P)(st:aR):Option P:=
 (jT lo).bind λl=>(jT hi).bind λh=>match a with|.d (.tup xs)=>Δ (.d (.tup (eD xs l h)))|p=>(cE st p).bind λxs=>(be (eD xs l h)).map λys=>.d (.pl ys)
def ixS(a b:P)(st:aR):Option P:=match b with|.d (.int i)=>(ff st a).bind λxs=>oE xs i|_=>Θ
def FH(a b:P)(st:aR):Option P:=match fg st a with|some o=>(nq o b).bind id|none=>ixS a b st
def FI(a v:P)(st:aR):Option aR:=match a with
 |.obj n=>match st[n]? with|some (.lst xs)=>if xs.length < aB then Δ (st.set n (.lst (xs++[v]))) else Θ|_=>Θ
 |_=>Θ
def Kb(o:O)(k v:P):Option O:=match o with
 |.lst xs=>match k with|.d (.int i)=>(xI xs.length i).map λj=>.lst (xs.set j v)|_=>Θ
 |o=>J9 o k v
def FJ(a k v:P)(st:aR):Option aR:=match a with|.obj n=>(st[n]?).bind λo=>(Kb o k v).map λo'=>st.set n o'|_=>Θ
noncomputable def boolsOf:List P->Option (List Bool)
 |[]=>Δ []|.d (.bl b)::r=>(boolsOf r).map λbs=>b::bs|_=>Θ
noncomputable def intsOf:List P->Option (List Int)
 |[]=>Δ []|.d (.int b)::r=>(intsOf r).map λbs=>b::bs|_=>Θ
def yi:P->Option Str
 |.d (.str x)=>Δ x|_=>Θ
def strsOf:List P->Option (List Str)
 |[]=>Δ []|p::r=>(yi p).bind λx=>(strsOf r).map λxs=>x::xs
def Au(x:Str)(y:P)(st:aR):Option P:=(cE st y).bind λxs=>(strsOf xs).bind λts=>if(ts.map (·.length)).sum+ts.length*x.length<=1000000 then Δ (.d (.str (UA x ts))) else Θ
def lG:List (Str×Int)->Str->Option Int
 |[],_=>Θ|(y,i)::r,x=>if x=y then Δ i else lG r x
noncomputable def wM{κ:Type}[DecidableEq κ](kvs:List (κ×P))(k:κ):List (κ×P):=kvs.filter λkv=>decide (kv.1≠k)
def FK(x y:P)(st:aR):Option (P×aR):=match x with
 |.obj n=>match st[n]? with|some (.dK kvs)=>(keyOf y).bind λk=>(jc kvs k).map λv=>(v,st.set n (.dK (wM kvs k)))|_=>Θ
 |_=>Θ
def FL(x:P)(st:aR):Option (P×aR):=match x with
 |.obj n=>match st[n]? with|some (.lst xs)=>(xs[xs.length - 1]?).map λv=>(v,st.set n (.lst xs.dropLast))|_=>Θ
 |_=>Θ
def Av(x y z:P)(st:aR):Option (P×aR):=match x with
 |.obj n=>match st[n]? with
  |some (.dK kvs)=>if kvs.length < aB then(keyOf y).map λk=>match jc kvs k with|some v=>(v,st)|none=>(z,st.set n (.dK (oY kvs k z)))
   else Θ
  |_=>Θ
 |_=>Θ
noncomputable def yj:Sum Int Str->P
 |.inl i=>.d (.int i)|.inr x=>.d (.str x)
def FN(x y:P):Option O:=match keyOf x with|some k=>Δ (.dK [(k,y)])|none=>(jS x).map λk=>.dT [(k,y)]
noncomputable def vp(st:aR):P->Option (Nat×List (Sum Int Str×P))
 |.obj n=>match st[n]? with|some (.dK kvs)=>Δ (n,kvs)|_=>Θ
 |_=>Θ
noncomputable def tq(c:Str)(st:aR):P->Option (Nat×List (Str×P))
 |.obj n=>match st[n]? with|some (.ins c' fs)=>if c'=c then Δ (n,fs) else Θ|_=>Θ
 |_=>Θ
noncomputable def qL(f:Str)(v:P):List (Str×P)->List (Str×P)
 |[]=>[(f,v)]|(g,x)::r=>if g=f then(g,v)::r else(g,x)::qL f v r
def conv(ls:List (Nat×List Nat))(r:cB):Nat->P->Option P
 |0,_=>Θ|n+1,p=>match p with|.d x=>Δ (.d x)|.fb ns=>Δ (.fb ns)|.fn k bx=>if cx bx then Δ (.fn k bx) else Θ|.lf k=>(ls.lookup k).bind λjs=>(js.mapM λj=>((r[j]?).join).bind (conv ls r n)).map λbx=>.fn k bx|.obj _=>Θ
section
variable(C:Nat->List P->aR->R P)
def fW(r:cB)(i:Nat):Option P:=(r[i]?).join
def Bw(f:Bf)(ps:List P)(st:aR):Option P:=match f,ps with
 |.len,[p]=>match p with|.d (.str x)=>if x.length<=aB then Δ (.d (.int x.length)) else Θ|p=>match fg st p with|some o=>Δ (.d (.int (J8 o)))|none=>(ff st p).map λxs=>.d (.int xs.length)
 |.any,[p]=>(cE st p).bind λxs=>(boolsOf xs).map λbs=>.d (.bl (bs.any id))|.str,[.d (.int i)]=>if i.natAbs.log2 < 1920 then Δ (.d (.str (Qs (toString i)))) else Θ|.tuple,[p]=>(ff st p).bind λxs=>(be xs).map λys=>.d (.tup ys)|_,_=>Θ
def kQ:P->Option (List P)
 |.d (.tup xs)=>Δ (xs.map .d)|.d (.pl xs)=>Δ (xs.map .d)|_=>Θ
noncomputable def Cq(lo hi:Int):List P:=(Rq (hi - lo).toNat).map λk=>.d (.int (lo+(k:Nat)))
def qM:List P->Option (List P)
 |[.d (.int j)]=>if -l8<=j/\j < l8 then Δ (Cq 0 j) else Θ|[.d (.int i),.d (.int j)]=>if -l8<=i/\i < l8/\ -l8<=j/\j < l8 then Δ (Cq i j) else Θ|_=>Θ
def hG:Nat->List D->List P
 |_,[]=>[]|k,x::xs=>.d (.tup [.int k,x])::hG (k+1) xs
def Oz(a b:P)(st:aR):Option P:=match b with|.d (.int i)=>(cE st a).bind λxs=>(intsOf xs).bind λns=>if i∈ns then Δ (.d (.int (ns.idxOf i:Nat))) else Θ|_=>Θ
def Cr:P->P->Option (List D)
 |.d (.tup xs),.d (.tup ys)=>Δ ((xs.zip ys).map λp=>.tup [p.1,p.2])|_,_=>Θ
def cK(g:P->cB)(c:cB->aR->R Bool)(e:cB->aR->R P):List P->aR->R (List P)
 |[],st=>.ok [] st|p::r,st=>(c (g p) st).bind λb st1=>if b then(e (g p) st1).bind λy aF=>(cK g c e r aF).bind λys cq=>.ok (y::ys) cq else cK g c e r st1
def wN(n:Nat)(st:aR)(i:Nat):Option (Option P):=match st[n]? with|some (.lst xs)=>Δ xs[i]?|_=>Θ
def cj(n:Nat)(g:P->cB)(c:cB->aR->R Bool)(e:cB->aR->R P):Nat->Nat->aR->R (List P)
 |0,_,_=>.no|k+1,i,st=>match wN n st i with|none=>.no|some Θ=>.ok [] st|some (Δ p)=>(c (g p) st).bind λb st1=>if b then(e (g p) st1).bind λy aF=>(cj n g c e k (i+1) aF).bind λys cq=>.ok (y::ys) cq else cj n g c e k (i+1) st1
def pP(c:List P->aR->R P)(o:Option (List P))(st:aR):R P:=match o,st with
 |some qs,[]=>(c qs []).bind λp aF=>match p,aF with|.d x,[]=>.ok (.d x) []|_,_=>.no
 |_,_=>.no
def cy(js:List Nat)(r:cB):cB:=js.map λj=>(r[j]?).join
def isPr:P->Bool
 |.d (.tup [_,_])=>Λ|_=>Ξ
mutual
def aa:E->cB->aR->R P
 |.var i,r,st=>R.of (fW r i) st|.cst x,_,st=>.ok (.d x) st|.op o a b,r,st=>(aa a r st).bind λx st1=>(aa b r st1).bind λy aF=>R.of (As o x y aF) aF|.neg a,r,st=>(aa a r st).bind λx st1=>match x with|.d (.int i)=>.ok (.d (.int (-i))) st1|_=>.no
 |.not a,r,st=>(aa a r st).bind λx st1=>(R.of (iP st1 x) st1).bind λb aF=>.ok (.d (.bl (!b))) aF|.cmp o a b,r,st=>(aa a r st).bind λx st1=>(aa b r st1).bind λy aF=>(R.of (gL o x y aF) aF).bind λb cq=>.ok (.d (.bl b)) cq|.chain o o' a b c,r,st=>(aa a r st).bind λx st1=>(aa b r st1).bind λy aF=>(R.of (gL o x y aF) aF).bind λk cq=>if k then(aa c r cq).bind λz jv=>(R.of (gL o' y z jv) jv).bind λb uI=>.ok (.d (.bl b)) uI else .ok (.d (.bl Ξ)) cq
 |.and es,r,st=>dW es r st|.or es,r,st=>dX es r st|.ite c a b,r,st=>(aa c r st).bind λx st1=>(R.of (iP st1 x) st1).bind λk aF=>if k then aa a r aF else aa b r aF|.tup es,r,st=>(aD es r st).bind λps st1=>if ps.length<=aB then(R.of (be ps) st1).bind λxs aF=>.ok (.d (.tup xs)) aF else .no|.lst m l,r,st=>(bR l r st).bind λps st1=>if m then .ok (.obj st1.length) (st1++[.lst ps]) else(R.of (be ps) st1).bind λxs aF=>.ok (.d (.pl xs)) aF|.call f es,r,st=>(aD es r st).bind λps st1=>C f ps st1|.oF a T,r,st=>(aa a r st).bind λx st1=>(R.of (Cp x st1) st1).bind λt aF=>.ok (.d (.bl (bO t T))) aF|.bf f es,r,st=>(aD es r st).bind λps st1=>R.of (Bw f ps st1) st1|.ix a b,r,st=>(aa a r st).bind λx st1=>(aa b r st1).bind λy aF=>R.of (FH x y aF) aF|.slice a lo hi,r,st=>(aa a r st).bind λx st1=>(fh lo r st1).bind λl aF=>(fh hi r aF).bind λh cq=>R.of (jd x l h cq) cq|.rev a,r,st=>(aa a r st).bind λx st1=>match x with|.d (.tup xs)=>.ok (.d (.tup xs.reverse)) st1|_=>.no
 |.join a b,r,st=>(aa a r st).bind λx st1=>(R.of (yi x) st1).bind λs st1=>(aa b r st1).bind λy aF=>R.of (Au s y aF) aF|.vo t a,r,st=>(aa a r st).bind λx st1=>match x with|.d (.str k)=>.ok (.d (match lG t k with|some i=>.int i|none=>.bu)) st1|_=>.no
 |.Al t,r,st=>.ok (.obj st.length) (st++[if t then .dT [] else .dK []])|.sY i es,r,st=>(R.of (fW r i) st).bind λp iZ=>(aD es r iZ).bind λps st1=>match p with|.fn k bx=>C k (ps++bx) st1|_=>.no
 |.fV f es ls,r,st=>(aD es r st).bind λps st1=>pP (C f) (ps.mapM (conv ls r 3)) st1|.fc i es ls,r,st=>(R.of (fW r i) st).bind λp iZ=>(aD es r iZ).bind λps st1=>match conv ls r 3 p with|some (.fn k bx)=>pP (C k) ((ps.mapM (conv ls r 3)).map λqs=>qs++bx) st1|_=>.no
 |.lam k,_,st=>.ok (.lf k) st|.attr c f i,r,st=>(R.of (fW r i) st).bind λx st1=>R.of ((tq c st1 x).bind λq=>q.2.lookup f) st1|.yh k c m i es,r,st=>(R.of (fW r i) st).bind λx iZ=>(R.of ((tq c iZ x).bind λq=>if(q.2.lookup m).isNone then Δ () else Θ) iZ).bind λ_ iZ=>(aD es r iZ).bind λps st1=>C k (x::ps) st1|.Am a b,r,st=>(aa a r st).bind λx st1=>(R.of (fg st1 x) st1).bind λ_ st1=>(aa b r st1).bind λy aF=>(R.of (FK x y aF) aF).bind λq _=>.ok q.1 q.2|.sZ a b c,r,st=>(aa a r st).bind λx st1=>(R.of (fg st1 x) st1).bind λ_ st1=>(aa b r st1).bind λy aF=>(aa c r aF).bind λz cq=>(R.of (Av x y z cq) cq).bind λq _=>.ok q.1 q.2|.Ao k x,r,st=>(aa k r st).bind λy st1=>(R.of (FN y (.d x)) st1).bind λo aF=>.ok (.obj aF.length) (aF++[o])|.An a,r,st=>(aa a r st).bind λx st1=>(R.of (FL x st1) st1).bind λq _=>.ok q.1 q.2|.make k c es,r,st=>(aD es r st).bind λps st1=>(C k (.obj st1.length::ps) (st1++[.ins c []])).bind λv aF=>match v with|.d .bu=>.ok (.obj st1.length) aF|_=>.no
def fh:Option E->cB->aR->R (Option P)
 |none,_,st=>.ok Θ st|some e,r,st=>(aa e r st).bind λx st1=>.ok (Δ x) st1
def aD:List E->cB->aR->R (List P)
 |[],_,st=>.ok [] st|e::es,r,st=>(aa e r st).bind λx st1=>(aD es r st1).bind λxs aF=>.ok (x::xs) aF
def dW:List E->cB->aR->R P
 |[],_,_=>.no|[e],r,st=>aa e r st|e::e'::es,r,st=>(aa e r st).bind λx st1=>match x with|.d (.bl b)=>if b then dW (e'::es) r st1 else .ok (.d (.bl Ξ)) st1|_=>.no
def dX:List E->cB->aR->R P
 |[],_,_=>.no|[e],r,st=>aa e r st|e::e'::es,r,st=>(aa e r st).bind λx st1=>match x with|.d (.bl b)=>if b then .ok (.d (.bl Λ)) st1 else dX (e'::es) r st1|_=>.no
def bR:L->cB->aR->R (List P)
 |.fe es,r,st=>(aD es r st).bind λps st1=>if ps.length<=aB then .ok ps st1 else .no|.comp w ts js c e,r,st=>(cu w r st).bind λps st1=>if ts=1/\ps.length<=aB then cK (λp=>Δ p::cy js r) (bI c) (λr' bw=>aa e r' bw) ps st1 else .no|.list e,r,st=>(aa e r st).bind λx st1=>R.of (ff st1 x) st1|.jx es,r,st=>(aD es r st).bind λps st1=>(R.of (qM ps) st1).bind λqs aF=>if qs.length<=aB then .ok qs aF else .no|.zip a b,r,st=>(aa a r st).bind λx st1=>(aa b r st1).bind λy aF=>(R.of (Cr x y) aF).bind λzs cq=>.ok (zs.map .d) cq|.cj e js c ee,r,st=>(aa e r st).bind λx st1=>match x with|.obj n=>cj n (λp=>Δ p::cy js r) (bI c) (λr' bw=>aa ee r' bw) aB 0 st1|_=>.no
 |.keys e,r,st=>(aa e r st).bind λx st1=>(R.of (vp st1 x) st1).bind λq aF=>.ok (q.2.map λkv=>yj kv.1) aF
def bI:Option E->cB->aR->R Bool
 |none,_,st=>.ok Λ st|some c,r,st=>(aa c r st).bind λx aF=>R.of (iP aF x) aF
def cu:W->cB->aR->R (List P)
 |.ex e,r,st=>(aa e r st).bind λx st1=>R.of (kQ x) st1|.jx es,r,st=>(aD es r st).bind λps st1=>R.of (qM ps) st1|.enum e,r,st=>(aa e r st).bind λx st1=>match x with|.d (.tup xs)=>.ok (hG 0 xs) st1|_=>.no
end
noncomputable def rX:Tg->P->cB->Option cB
 |.nm i,p,r=>Δ (r.set i (Δ p))|.tup _,_,_=>Θ|.two i j,p,r=>match p with|.d (.tup [x,y])=>Δ ((r.set i (Δ (.d x))).set j (Δ (.d y)))|_=>Θ
def forL(g:P->cB->Option cB)(b:cB->aR->R Fl):List P->cB->aR->R Fl
 |[],r,st=>.ok (.nx r) st|p::ps,r,st=>(R.of (g p r) st).bind λr1 iZ=>(b r1 iZ).bind λf st1=>match f with|.nx r2=>forL g b ps r2 st1|.ct r2=>forL g b ps r2 st1|.bk r2=>.ok (.nx r2) st1|.rt v=>.ok (.rt v) st1
def g8(n:Nat)(g:P->cB->Option cB)(b:cB->aR->R Fl):Nat->Nat->cB->aR->R Fl
 |0,_,_,_=>.no|k+1,i,r,st=>match wN n st i with|none=>.no|some Θ=>.ok (.nx r) st|some (Δ p)=>(R.of (g p r) st).bind λr1 iZ=>(b r1 iZ).bind λf st1=>match f with|.nx r2=>g8 n g b k (i+1) r2 st1|.ct r2=>g8 n g b k (i+1) r2 st1|.bk r2=>.ok (.nx r2) st1|.rt v=>.ok (.rt v) st1
def kR(i j:Nat)(b:cB->aR->R Fl):List (Sum Int Str×P)->cB->aR->R Fl
 |[],r,st=>.ok (.nx r) st|kv::ps,r,st=>(b ((r.set i (Δ (yj kv.1))).set j (Δ kv.2)) st).bind λf st1=>match f with|.nx r2=>kR i j b ps r2 st1|.ct r2=>kR i j b ps r2 st1|.bk r2=>.ok (.nx r2) st1|.rt v=>.ok (.rt v) st1
def g9(n i j:Nat)(b:cB->aR->R Fl):Nat->Nat->cB->aR->R Fl
 |0,_,_,_=>.no|k+1,q,r,st=>match wN n st q with|none=>.no|some Θ=>.ok (.nx r) st|some (Δ p)=>(b ((r.set i (Δ (.d (.int q)))).set j (Δ p)) st).bind λf st1=>match f with|.nx r2=>g9 n i j b k (q+1) r2 st1|.ct r2=>g9 n i j b k (q+1) r2 st1|.bk r2=>.ok (.nx r2) st1|.rt v=>.ok (.rt v) st1
def fM(c:cB->aR->R Bool)(b:cB->aR->R Fl):Nat->cB->aR->R Fl
 |0,_,_=>.no|n+1,r,st=>(c r st).bind λk st1=>if k then(b r st1).bind λf aF=>match f with|.nx r2=>fM c b n r2 aF|.ct r2=>fM c b n r2 aF|.bk r2=>.ok (.nx r2) aF|.rt v=>.ok (.rt v) aF else .ok (.nx r) st1
def bK(d:cB->aR->R P)(r:cB)(st:aR):R Bool:=(d r st).bind λx st1=>R.of (iP st1 x) st1
def jU:Nat:=1000000
mutual
def bg:S->cB->aR->R Fl
 |.ret e,r,st=>(aa C e r st).bind λv st1=>.ok (.rt v) st1|.Ap,r,st=>.ok (.rt (.d .bu)) st|.set i e,r,st=>(aa C e r st).bind λv st1=>.ok (.nx (r.set i (Δ v))) st1|.ifs c a b,r,st=>(bK (aa C c) r st).bind λk st1=>if k then aw a r st1 else aw b r st1|.oX t w b,r,st=>(cu C w r st).bind λps st1=>forL (rX t) (aw b) ps r st1|.ni c b,r,st=>fM (bK (aa C c)) (aw b) jU r st|.g8 t e b,r,st=>(aa C e r st).bind λx st1=>match x with|.obj n=>g8 n (rX t) (aw b) jU 0 r st1|_=>.no
 |.Aq i j e b,r,st=>(aa C e r st).bind λx st1=>(R.of (vp st1 x) st1).bind λq st1=>(kR i j (aw b) q.2 r (st1.set q.1 .rW)).bind λf aF=>.ok f (aF.set q.1 (.dK q.2))|.g9 i j e b,r,st=>(aa C e r st).bind λx st1=>match x with|.obj n=>g9 n i j (aw b) jU 0 r st1|_=>.no
 |.expr e,r,st=>(aa C e r st).bind λ_ st1=>.ok (.nx r) st1|.kP i k,r,st=>.ok (.nx (r.set i (Δ (.lf k)))) st|.Ar c f i e,r,st=>(aa C e r st).bind λv st1=>(R.of (fW r i) st1).bind λx aF=>(R.of ((tq c aF x).bind λq=>if q.2.length < 1000 then Δ (aF.set q.1 (.ins c (qL f v q.2))) else Θ) aF).bind λcq _=>.ok (.nx r) cq|.app a e,r,st=>(aa C a r st).bind λx st1=>(R.of (cE st1 x) st1).bind λ_ st1=>(aa C e r st1).bind λv aF=>(R.of (FI x v aF) aF).bind λcq _=>.ok (.nx r) cq|.put a i e,r,st=>(aa C e r st).bind λv st1=>(aa C a r st1).bind λx aF=>(aa C i r aF).bind λk cq=>(R.of (FJ x k v cq) cq).bind λjv _=>.ok (.nx r) jv|.raise,r,st=>.no
def aw:List S->cB->aR->R Fl
 |[],r,st=>.ok (.nx r) st|s::rest,r,st=>(bg s r st).bind λf st1=>match f with|.nx r1=>aw rest r1 st1|.bk r1=>.ok (.bk r1) st1|.ct r1=>.ok (.ct r1) st1|.rt v=>.ok (.rt v) st1
end
variable{C}
theorem dJ{i}:aa C (.var i) r st=R.of (fW r i) st:=rfl
@[simp]theorem eW{x}:aa C (.cst x) r st=.ok (.d x) st:=rfl
theorem nr{o a b}:aa C (.op o a b) r st=(aa C a r st).bind λx st1=>(aa C b r st1).bind λy aF=>R.of (As o x y aF) aF:=rfl
theorem kS{a}:aa C (.neg a) r st=(aa C a r st).bind λx st1=>match x with|.d (.int i)=>.ok (.d (.int (-i))) st1|_=>.no:=rfl
theorem kT{a}:aa C (.not a) r st=(aa C a r st).bind λx st1=>(R.of (iP st1 x) st1).bind λb aF=>.ok (.d (.bl (!b))) aF:=rfl
theorem pQ{o a b}:aa C (.cmp o a b) r st=(aa C a r st).bind λx st1=>(aa C b r st1).bind λy aF=>(R.of (gL o x y aF) aF).bind λb cq=>.ok (.d (.bl b)) cq:=rfl
theorem lJ{o o' a b c}:aa C (.chain o o' a b c) r st=(aa C a r st).bind λx st1=>(aa C b r st1).bind λy aF=>(R.of (gL o x y aF) aF).bind λk cq=>if k then(aa C c r cq).bind λz jv=>(R.of (gL o' y z jv) jv).bind λb uI=>.ok (.d (.bl b)) uI else .ok (.d (.bl Ξ)) cq:=rfl
@[simp]theorem yk{es}:aa C (.and es) r st=dW C es r st:=rfl
@[simp]theorem Aw{es}:aa C (.or es) r st=dX C es r st:=rfl
theorem pR{c a b}:aa C (.ite c a b) r st=(aa C c r st).bind λx st1=>(R.of (iP st1 x) st1).bind λk aF=>if k then aa C a r aF else aa C b r aF:=rfl
theorem ym{es}:aa C (.tup es) r st=(aD C es r st).bind λps st1=>if ps.length<=aB then(R.of (be ps) st1).bind λxs aF=>.ok (.d (.tup xs)) aF else .no:=rfl
theorem yn{m l}:aa C (.lst m l) r st=(bR C l r st).bind λps st1=>if m then .ok (.obj st1.length) (st1++[.lst ps]) else(R.of (be ps) st1).bind λxs aF=>.ok (.d (.pl xs)) aF:=rfl
theorem gy{f es}:aa C (.call f es) r st=(aD C es r st).bind λps st1=>C f ps st1:=rfl
theorem yo{a T}:aa C (.oF a T) r st=(aa C a r st).bind λx st1=>(R.of (Cp x st1) st1).bind λt aF=>.ok (.d (.bl (bO t T))) aF:=rfl
theorem tu{f es}:aa C (.bf f es) r st=(aD C es r st).bind λps st1=>R.of (Bw f ps st1) st1:=rfl
theorem nt{a b}:aa C (.ix a b) r st=(aa C a r st).bind λx st1=>(aa C b r st1).bind λy aF=>R.of (FH x y aF) aF:=rfl
theorem lK{a lo hi}:aa C (.slice a lo hi) r st=(aa C a r st).bind λx st1=>(fh C lo r st1).bind λl aF=>(fh C hi r aF).bind λh cq=>R.of (jd x l h cq) cq:=rfl
theorem pS{a}:aa C (.rev a) r st=(aa C a r st).bind λx st1=>match x with|.d (.tup xs)=>.ok (.d (.tup xs.reverse)) st1|_=>.no:=rfl
theorem je{a b}:aa C (.join a b) r st=(aa C a r st).bind λx st1=>(R.of (yi x) st1).bind λs st1=>(aa C b r st1).bind λy aF=>R.of (Au s y aF) aF:=rfl
theorem vq{t a}:aa C (.vo t a) r st=(aa C a r st).bind λx st1=>match x with|.d (.str k)=>.ok (.d (match lG t k with|some i=>.int i|none=>.bu)) st1|_=>.no:=rfl
@[simp]theorem jf{t}:aa C (.Al t) r st=.ok (.obj st.length) (st++[if t then .dT [] else .dK []]):=rfl
theorem tw{i es}:aa C (.sY i es) r st=(R.of (fW r i) st).bind λp iZ=>(aD C es r iZ).bind λps st1=>match p with|.fn k bx=>C k (ps++bx) st1|_=>.no:=rfl
theorem tz{f es ls}:aa C (.fV f es ls) r st=(aD C es r st).bind λps st1=>pP (C f) (ps.mapM (conv ls r 3)) st1:=rfl
@[simp]theorem pT{k}:aa C (.lam k) r st=.ok (.lf k) st:=rfl
theorem vt{c f i}:aa C (.attr c f i) r st=(R.of (fW r i) st).bind λx st1=>R.of ((tq c st1 x).bind λq=>q.2.lookup f) st1:=rfl
theorem vz{k c m i es}:aa C (.yh k c m i es) r st=(R.of (fW r i) st).bind λx iZ=>(R.of ((tq c iZ x).bind λq=>if(q.2.lookup m).isNone then Δ () else Θ) iZ).bind λ_ iZ=>(aD C es r iZ).bind λps st1=>C k (x::ps) st1:=rfl
theorem vA{a b}:aa C (.Am a b) r st=(aa C a r st).bind λx st1=>(R.of (fg st1 x) st1).bind λ_ st1=>(aa C b r st1).bind λy aF=>(R.of (FK x y aF) aF).bind λq _=>.ok q.1 q.2:=rfl
theorem tB{a b c}:aa C (.sZ a b c) r st=(aa C a r st).bind λx st1=>(R.of (fg st1 x) st1).bind λ_ st1=>(aa C b r st1).bind λy aF=>(aa C c r aF).bind λz cq=>(R.of (Av x y z cq) cq).bind λq _=>.ok q.1 q.2:=rfl
theorem vB{k x}:aa C (.Ao k x) r st=(aa C k r st).bind λy st1=>(R.of (FN y (.d x)) st1).bind λo aF=>.ok (.obj aF.length) (aF++[o]):=rfl
theorem vC{a}:aa C (.An a) r st=(aa C a r st).bind λx st1=>(R.of (FL x st1) st1).bind λq _=>.ok q.1 q.2:=rfl
theorem vD{k c es}:aa C (.make k c es) r st=(aD C es r st).bind λps st1=>(C k (.obj st1.length::ps) (st1++[.ins c []])).bind λv aF=>match v with|.d .bu=>.ok (.obj st1.length) aF|_=>.no:=rfl
@[simp]theorem jg:fh C Θ r st=.ok Θ st:=rfl
theorem nu{e}:fh C (Δ e) r st=(aa C e r st).bind λx st1=>.ok (Δ x) st1:=rfl
@[simp]theorem aX:aD C [] r st=.ok [] st:=rfl
theorem bh{e es}:aD C (e::es) r st=(aa C e r st).bind λx st1=>(aD C es r st1).bind λxs aF=>.ok (x::xs) aF:=rfl
@[simp]theorem yp{e}:dW C [e] r st=aa C e r st:=rfl
theorem pU{e e' es}:dW C (e::e'::es) r st=(aa C e r st).bind λx st1=>match x with|.d (.bl b)=>if b then dW C (e'::es) r st1 else .ok (.d (.bl Ξ)) st1|_=>.no:=rfl
@[simp]theorem yq{e}:dX C [e] r st=aa C e r st:=rfl
theorem pV{e e' es}:dX C (e::e'::es) r st=(aa C e r st).bind λx st1=>match x with|.d (.bl b)=>if b then .ok (.d (.bl Λ)) st1 else dX C (e'::es) r st1|_=>.no:=rfl
theorem jh{es}:bR C (.fe es) r st=(aD C es r st).bind λps st1=>if ps.length<=aB then .ok ps st1 else .no:=rfl
theorem ji{w ts js c e}:bR C (.comp w ts js c e) r st=(cu C w r st).bind λps st1=>if ts=1/\ps.length<=aB then cK (λp=>Δ p::cy js r) (bI C c) (λr' bw=>aa C e r' bw) ps st1 else .no:=rfl
theorem nv{e}:bR C (.list e) r st=(aa C e r st).bind λx st1=>R.of (ff st1 x) st1:=rfl
theorem yr{es}:bR C (.jx es) r st=(aD C es r st).bind λps st1=>(R.of (qM ps) st1).bind λqs aF=>if qs.length<=aB then .ok qs aF else .no:=rfl
theorem yt{a b}:bR C (.zip a b) r st=(aa C a r st).bind λx st1=>(aa C b r st1).bind λy aF=>(R.of (Cr x y) aF).bind λzs cq=>.ok (zs.map .d) cq:=rfl
theorem tD{e js c ee}:bR C (.cj e js c ee) r st=(aa C e r st).bind λx st1=>match x with|.obj n=>cj n (λp=>Δ p::cy js r) (bI C c) (λr' bw=>aa C ee r' bw) aB 0 st1|_=>.no:=rfl
theorem vE{e}:bR C (.keys e) r st=(aa C e r st).bind λx st1=>(R.of (vp st1 x) st1).bind λq aF=>.ok (q.2.map λkv=>yj kv.1) aF:=rfl
@[simp]theorem ny:bI C Θ r st=.ok Λ st:=rfl
theorem nz{c}:bI C (Δ c) r st=(aa C c r st).bind λx aF=>R.of (iP aF x) aF:=rfl
theorem Ax{e}:cu C (.ex e) r st=(aa C e r st).bind λx st1=>R.of (kQ x) st1:=rfl
theorem yu{es}:cu C (.jx es) r st=(aD C es r st).bind λps st1=>R.of (qM ps) st1:=rfl
theorem vF{e}:cu C (.enum e) r st=(aa C e r st).bind λx st1=>match x with|.d (.tup xs)=>.ok (hG 0 xs) st1|_=>.no:=rfl
theorem iw{e}:bg C (.ret e) r st=(aa C e r st).bind λv st1=>.ok (.rt v) st1:=rfl
theorem vG:bg C .Ap r st=.ok (.rt (.d .bu)) st:=rfl
theorem kU{i e}:bg C (.set i e) r st=(aa C e r st).bind λv st1=>.ok (.nx (r.set i (Δ v))) st1:=rfl
theorem iy{c a b}:bg C (.ifs c a b) r st=(bK (aa C c) r st).bind λk st1=>if k then aw C a r st1 else aw C b r st1:=rfl
theorem nA{t w b}:bg C (.oX t w b) r st=(cu C w r st).bind λps st1=>forL (rX t) (aw C b) ps r st1:=rfl
theorem qN{c b}:bg C (.ni c b) r st=fM (bK (aa C c)) (aw C b) jU r st:=rfl
theorem vH{t e b}:bg C (.g8 t e b) r st=(aa C e r st).bind λx st1=>match x with|.obj n=>g8 n (rX t) (aw C b) jU 0 r st1|_=>.no:=rfl
theorem vI{i j e b}:bg C (.Aq i j e b) r st=(aa C e r st).bind λx st1=>(R.of (vp st1 x) st1).bind λq st1=>(kR i j (aw C b) q.2 r (st1.set q.1 .rW)).bind λf aF=>.ok f (aF.set q.1 (.dK q.2)):=rfl
theorem vJ{i j e b}:bg C (.g9 i j e b) r st=(aa C e r st).bind λx st1=>match x with|.obj n=>g9 n i j (aw C b) jU 0 r st1|_=>.no:=rfl
theorem nB{e}:bg C (.expr e) r st=(aa C e r st).bind λ_ st1=>.ok (.nx r) st1:=rfl
theorem vK{i k}:bg C (.kP i k) r st=.ok (.nx (r.set i (Δ (.lf k)))) st:=rfl
theorem vL{c f i e}:bg C (.Ar c f i e) r st=(aa C e r st).bind λv st1=>(R.of (fW r i) st1).bind λx aF=>(R.of ((tq c aF x).bind λq=>if q.2.length < 1000 then Δ (aF.set q.1 (.ins c (qL f v q.2))) else Θ) aF).bind λcq _=>.ok (.nx r) cq:=rfl
theorem yv{a e}:bg C (.app a e) r st=(aa C a r st).bind λx st1=>(R.of (cE st1 x) st1).bind λ_ st1=>(aa C e r st1).bind λv aF=>(R.of (FI x v aF) aF).bind λcq _=>.ok (.nx r) cq:=rfl
theorem yw{a i e}:bg C (.put a i e) r st=(aa C e r st).bind λv st1=>(aa C a r st1).bind λx aF=>(aa C i r aF).bind λk cq=>(R.of (FJ x k v cq) cq).bind λjv _=>.ok (.nx r) jv:=rfl
theorem nC:aw C [] r st=.ok (.nx r) st:=rfl
theorem cX{s rest}:aw C (s::rest) r st=(bg C s r st).bind λf st1=>match f with|.nx r1=>aw C rest r1 st1|.bk r1=>.ok (.bk r1) st1|.ct r1=>.ok (.ct r1) st1|.rt v=>.ok (.rt v) st1:=rfl
end
theorem Ay:forL g b [] r st=.ok (.nx r) st:=rfl
theorem pW:forL g b (p::ps) r st=(R.of (g p r) st).bind λr1 iZ=>(b r1 iZ).bind λf st1=>match f with|.nx r2=>forL g b ps r2 st1|.ct r2=>forL g b ps r2 st1|.bk r2=>.ok (.nx r2) st1|.rt v=>.ok (.rt v) st1:=rfl
theorem pX:g8 n g b (k+1) i r st=match wN n st i with|none=>.no|some Θ=>.ok (.nx r) st|some (Δ p)=>(R.of (g p r) st).bind λr1 iZ=>(b r1 iZ).bind λf st1=>match f with|.nx r2=>g8 n g b k (i+1) r2 st1|.ct r2=>g8 n g b k (i+1) r2 st1|.bk r2=>.ok (.nx r2) st1|.rt v=>.ok (.rt v) st1:=rfl
theorem pY:g9 n i j b (k+1) q r st=match wN n st q with|none=>.no|some Θ=>.ok (.nx r) st|some (Δ p)=>(b ((r.set i (Δ (.d (.int q)))).set j (Δ p)) st).bind λf st1=>match f with|.nx r2=>g9 n i j b k (q+1) r2 st1|.ct r2=>g9 n i j b k (q+1) r2 st1|.bk r2=>.ok (.nx r2) st1|.rt v=>.ok (.rt v) st1:=rfl
theorem Az:kR i j b [] r st=.ok (.nx r) st:=rfl
theorem yx:kR i j b (kv::ps) r st=(b ((r.set i (Δ (yj kv.1))).set j (Δ kv.2)) st).bind λf st1=>match f with|.nx r2=>kR i j b ps r2 st1|.ct r2=>kR i j b ps r2 st1|.bk r2=>.ok (.nx r2) st1|.rt v=>.ok (.rt v) st1:=rfl
theorem tF:fM c b (n+1) r st=(c r st).bind λk st1=>if k then(b r st1).bind λf aF=>match f with|.nx r2=>fM c b n r2 aF|.ct r2=>fM c b n r2 aF|.bk r2=>.ok (.nx r2) aF|.rt v=>.ok (.rt v) aF else .ok (.nx r) st1:=rfl
theorem yy:cK g c e [] st=.ok [] st:=rfl
theorem jj:cK g c e (p::r) st=(c (g p) st).bind λb st1=>if b then(e (g p) st1).bind λy aF=>(cK g c e r aF).bind λys cq=>.ok (y::ys) cq else cK g c e r st1:=rfl
theorem nD:cj n g c e (k+1) i st=match wN n st i with|none=>.no|some Θ=>.ok [] st|some (Δ p)=>(c (g p) st).bind λb st1=>if b then(e (g p) st1).bind λy aF=>(cj n g c e k (i+1) aF).bind λys cq=>.ok (y::ys) cq else cj n g c e k (i+1) st1:=rfl
structure Fn where
 np:Nat
 nn:Nat
 body:List S
 sh:Bool:=Ξ
mutual
def jV:D->Bool
 |.pl _=>Ξ|.tup xs=>wO xs|_=>Λ
def wO:List D->Bool
 |[]=>Λ|x::xs=>jV x&&wO xs
end
def isObj:P->Bool
 |.obj _=>Λ|_=>Ξ
def outF(r:R Fl):Option D:=match r with|.ok (.rt p) st=>iO st p|.ok (.nx _) _=>Δ .bu|_=>Θ
noncomputable def af(nn:Nat)(ps:List P):cB:=ps.map Δ++Rb (nn - ps.length) Θ
def oZ(C:Nat->List P->aR->R P)(F:Fn)(ps:List P):Option D:=if ps.length=F.np then outF (aw C F.body (af F.nn ps) []) else Θ
def nE(ps:List P)(d:D)(st:aR):R P:=if ps.any isObj&&!jV d then .no else .ok (.d d) st
noncomputable def Kc(r:R Fl):R P:=match r with|.ok (.rt p) st=>.ok p st|.ok (.nx _) st=>.ok (.d .bu) st|_=>.no
def pZ(Fs:List Fn):Nat->Nat->List P->aR->R P
 |0,_,_,_=>.no|n+1,f,ps,st=>match Fs[f]? with|none=>.no|some F=>if F.sh then(if ps.length=F.np then Kc (aw (pZ Fs n) F.body (af F.nn ps) st) else .no) else match eI st ps with|none=>.no|some qs=>match oZ (pZ Fs n) F qs with|none=>.no|some d=>nE ps d st
theorem AA:∃f:List Fn->Nat->Nat->List P->aR->R P,f=pZ:=⟨pZ,rfl⟩
noncomputable def callC:List Fn->Nat->Nat->List P->aR->R P:=Classical.choose AA
theorem tG:callC=pZ:=Classical.choose_spec AA
theorem nG Fs f ps st:callC Fs 0 f ps st=.no:=by rw[tG];rfl
theorem jk(Fs:List Fn)(n f:Nat)(ps:List P)(st:aR):callC Fs (n+1) f ps st=match Fs[f]? with|none=>.no|some F=>if F.sh then(if ps.length=F.np then Kc (aw (callC Fs n) F.body (af F.nn ps) st) else .no) else match eI st ps with|none=>.no|some qs=>match oZ (callC Fs n) F qs with|none=>.no|some d=>nE ps d st:=by rw[tG,pZ]
end Y
namespace L2
open PySem PySem.Spec PySem.Calls PyProof.Rows PySem.W
section
variable{X:Cx}
section
variable{prog:QE}{w:World}{A:QY}{E:Value->Qd->Prop}{s:Qd}{κ:SortKind}
end
end
section
variable{X:Cx}
theorem nI:∀{ts} {aC},aM (ts.map V.str) aC->∃l:List (Str×Tok),aC=strValues l/\l.map (·.1)=ts
 |[],_,h=>by cases h;exact⟨[],rfl,rfl⟩|x::ts,_,h=>by cases h with|cons r rs=>obtain⟨t,rfl⟩:=r;obtain⟨l,rfl,e⟩:=nI rs;exact⟨(x,t)::l,rfl,by rw[QD,e]⟩
def rJoin(K:P5):V->List V->Hp->VK->Prop:=λx vs H Q=>∃(z:Str) (p:Addr) (ts:List Str),x=.str z/\vs=[.ref p]/\ir K H p (ts.map V.str)/\(ts.map (·.length)).sum+ts.length*z.length<=1000000/\Q (.str (UA z ts)) H
theorem Cs:Nh X "str.join" (rJoin X.K):=by
 intro η s σ H x vs v us Q I rx rv h;obtain⟨z,p,ts,rfl,rfl,hq,hz,q⟩:=h;obtain⟨t,rfl⟩:=rx;obtain⟨u,rfl,ru⟩:=rv.one;cases ru;obtain⟨aC,r,pl,_⟩:=I.list hq;obtain⟨l,rfl,e⟩:=nI r;refine SC.join pl.isList e ?_ λt' k=>?_;·unfold JoinOk;rw[StrLaws.joinTotal];unfold Tj.Str.tooLong;rw[decide_eq_false (by rw[Q0];lia)];rfl
 ·refine⟨.str (UA z ts),H,I.tok _,⟨t',?_⟩,q⟩;show S3 (PySem.Txt.join z ts) t'=_;unfold PySem.Txt.join;rw[StrLaws.glued_eq_join]
end
end L2
namespace Y
open PySem L2
structure KB where
 K:P5
 B:Heap
 tabs:List (Addr×List (Pos×Str))
 kX:Nat->Addr->Addr->List V->Prop
 Bx:Nat->Addr->Addr->Value->Heap->Prop
 tH:Nat->Str
structure KT where
 tabs:List (Addr×List (Pos×Str)):=[]
 kX:Nat->Addr->Addr->List V->Prop:=λ_ _ _ _=>False
 Bx:Nat->Addr->Addr->Value->Heap->Prop:=λ_ _ _ _ _=>False
 tH:Nat->Str:=λ_=>""
abbrev ae(X:Cx)(t:KT):KB:=⟨X.K,X.base,t.tabs,t.kX,t.Bx,t.tH⟩
mutual
def aI(K:KB)(H:Hp)(m Z:List Addr):D->V->Prop
 |.bu,v=>v=.bu|.bl b,v=>v=.bl b|.int i,v=>v=.int i|.str x,v=>v=.str x|.tup xs,v=>∃a us,v=.ref a/\H a=Δ (.tup us)/\aj K H m Z xs us|.pl xs,v=>∃a us,v=.ref a/\Rd H a (.lst us)/\a∉m/\a∉Z/\aj K H m Z xs us
def aj(K:KB)(H:Hp)(m Z:List Addr):List D->List V->Prop
 |[],us=>us=[]|x::xs,us=>∃v vs,us=v::vs/\aI K H m Z x v/\aj K H m Z xs vs
end
noncomputable def FO(K:P5)(H:Hp)(a:Addr)(us:List V):Prop:=(∃o,H a=Δ (.cF o (.lst us)))\/
 ∃(o:Obj) (aC:Array Value) (n:Nat),K.lookup a=Δ o/\o.cls=.type "list"/\o.dict=Θ/\o.data=.seq aC n/\aC.size<=Qi/\aM us aC.toList
theorem FO.sq(h:FO K H a us):ir K H a us:=by
 rcases h with h|h;·exact .inl (.inr h)
 ·exact .inr h
mutual
def ai(K:KB)(H:Hp)(m Z:List Addr):P->V->Prop
 |.d x,v=>aI K H m Z x v|.obj n,v=>∃a,m[n]?=Δ a/\v=.ref a|.fb ns,v=>∃a,v=.ref a/\FO K.K H a (ns.map V.int)|.fn k bx,v=>∃a c bN,v=.ref a/\K.kX k a c bN/\H c=Δ (.ext (cJ c (K.tH k)))/\ag K H m Z bx bN|.lf k,v=>∃a c ct,v=.ref a/\H a=Δ (.ext (K.Bx k a c ct))/\H c=Δ (.ext (cJ c (K.tH k)))
def ag(K:KB)(H:Hp)(m Z:List Addr):List P->List V->Prop
 |[],us=>us=[]|x::xs,us=>∃v vs,us=v::vs/\ai K H m Z x v/\ag K H m Z xs vs
end
def aN{κ:Type}(K:KB)(H:Hp)(m Z:List Addr):List (κ×P)->List (κ×V)->Prop
 |[],us=>us=[]|x::xs,us=>∃v vs,us=(x.1,v)::vs/\ai K H m Z x.2 v/\aN K H m Z xs vs
def l9(K:KB)(H:Hp)(m Z:List Addr)(a:Addr):O->Prop
 |.lst ps=>∃us,H a=Δ (.lst us)/\ag K H m Z ps us|.dK kvs=>∃us,H a=Δ (.dK us)/\aN K H m Z kvs us|.dT kvs=>∃us,H a=Δ (.dT us)/\aN K H m Z kvs us|.ins c fs=>∃C dx us,Qf K.K Qa c=Δ (Δ (.ref C))/\H a=Δ (.ins C dx us)/\H dx=Δ (.own a)/\aN K H m Z fs us|.rW=>∃o us,H a=Δ (.cF o (.dK us))
theorem ag.mono(f:∀p v,ai K H m Z p v->ai K H' m' Z' p v):∀{xs} {us},ag K H m Z xs us->ag K H' m' Z' xs us
 |[],_,h=>h|x::xs,us,h=>by rw[ag] at h ⊢;obtain⟨v,vs,e,r,rs⟩:=h;exact⟨v,vs,e,f _ _ r,ag.mono f rs⟩
theorem aN.mono{κ:Type}{H H':Hp}{m m' Z Z':List Addr}(f:∀p v,ai K H m Z p v->ai K H' m' Z' p v):∀{xs:List (κ×P)} {us:List (κ×V)},aN K H m Z xs us->aN K H' m' Z' xs us
 |[],_,h=>h|x::xs,us,h=>by obtain⟨v,vs,e,r,rs⟩:=(show ∃v vs,us=(x.1,v)::vs/\ai K H m Z x.2 v/\aN K H m Z xs vs from h);exact⟨v,vs,e,f _ _ r,aN.mono f rs⟩
theorem l9.mono(he:∀b u,(b=a\/H b=Δ (.own a))->H b=Δ u->H' b=Δ u)(f:∀p v,ai K H m Z p v->ai K H' m' Z' p v)(h:l9 K H m Z a o):l9 K H' m' Z' a o:=by cases o with|lst ps=>obtain⟨us,e,r⟩:=h;exact⟨us,he _ _ (.inl rfl) e,r.mono f⟩|dK ps=>obtain⟨us,e,r⟩:=h;exact⟨us,he _ _ (.inl rfl) e,r.mono f⟩|dT ps=>obtain⟨us,e,r⟩:=h;exact⟨us,he _ _ (.inl rfl) e,r.mono f⟩|ins c fs=>obtain⟨C,dx,us,n,e,e2,r⟩:=h;exact⟨C,dx,us,n,he _ _ (.inl rfl) e,he _ _ (.inr e2) e2,r.mono f⟩|rW=>obtain⟨o,us,e⟩:=h;exact⟨o,us,he _ _ (.inl rfl) e⟩
theorem l9.lW(h:l9 K H m Z a o):H a≠Θ/\(∀us,H a≠Δ (.tup us))/\(o≠.rW->∀o' u,H a≠Δ (.cF o' u))/\(∀φ,H a≠Δ (.ext φ))/\(∀ps,H a≠Δ (.dc ps))/\∀b,H a≠Δ (.own b):=by cases o with|lst ps=>obtain⟨us,e,r⟩:=h;rw[e];exact⟨(λz=>nomatch z),(λ_ z=>nomatch z),(λ_ _ _ z=>nomatch z),(λ_ z=>nomatch z),(λ_ z=>nomatch z),(λ_ z=>nomatch z)⟩|dK ps=>obtain⟨us,e,r⟩:=h;rw[e];exact⟨(λz=>nomatch z),(λ_ z=>nomatch z),(λ_ _ _ z=>nomatch z),(λ_ z=>nomatch z),(λ_ z=>nomatch z),(λ_ z=>nomatch z)⟩|dT ps=>obtain⟨us,e,r⟩:=h;rw[e];exact⟨(λz=>nomatch z),(λ_ z=>nomatch z),(λ_ _ _ z=>nomatch z),(λ_ z=>nomatch z),(λ_ z=>nomatch z),(λ_ z=>nomatch z)⟩|ins c fs=>obtain⟨C,dx,us,n,e,e2,r⟩:=h;rw[e];exact⟨(λz=>nomatch z),(λ_ z=>nomatch z),(λ_ _ _ z=>nomatch z),(λ_ z=>nomatch z),(λ_ z=>nomatch z),(λ_ z=>nomatch z)⟩|rW=>obtain⟨o,us,e⟩:=h;rw[e];exact⟨(λz=>nomatch z),(λ_ z=>nomatch z),(λz=>absurd rfl z),(λ_ z=>nomatch z),(λ_ z=>nomatch z),(λ_ z=>nomatch z)⟩
structure ay(K:KB)(H:Hp)(m Z:List Addr)(st:aR):Prop where
 len:m.length=st.length
 nd:m.Nodup
 at_:∀(n:Nat) (o:O),st[n]?=Δ o->∃a,m[n]?=Δ a/\l9 K H m Z a o
 zt:∀a∈Z,eA H a≠Θ
 zm:∀a∈Z,a∉m
 tab:∀t∈K.tabs,∃ps,H t.1=Δ (.dc ps)/\dF H t.2 ps
structure bZ(K:KB)(H:Hp)(m Z:List Addr)(r:cB)(σ:St):Prop where
 len:r.length=σ.length
 at_:∀(i:Nat) (p:P),r[i]?=Δ (Δ p)->∃v,σ[i]?=Δ (Δ v)/\ai K H m Z p v
structure Le(K:KB)(m:List Addr)(H:Hp)(m':List Addr)(H':Hp):Prop where
 pre:∃t,m'=m++t
 tup:∀a xs,H a=Δ (.tup xs)->H' a=Δ (.tup xs)
 keep:∀a u,H a=Δ u->a∉m->(∀ps,u≠.dc ps)->H' a=Δ u
 new:∀a∈m',a∈m\/H a=Θ
 lW:∀a,H a≠Θ->H' a≠Θ
 wQ:∀a,eA H a≠Θ->eA H' a≠Θ
 cF:∀a o u,H a=Δ (.cF o u)->H' a=Δ (.cF o u)
 ext:∀a φ,H a=Δ (.ext φ)->H' a=Δ (.ext φ)
 dc:∀a ps,H a=Δ (.dc ps)->∃more,H' a=Δ (.dc (ps++more))
section
variable{K:KB}{H H' H1 H2:Hp}{m m' m1 m2 Z:List Addr}{α β:Type}
theorem AB(h:Rd H a u):H a≠Θ:=by rcases h with h|⟨o,h⟩<;>(rw[h];exact λz=>nomatch z)
theorem Le.refl:Le K m H m H:=⟨⟨[],by simp⟩,λ_ _ h=>h,λ_ _ h _ _=>h,λ_ h=>.inl h,λ_ h=>h,λ_ h=>h,λ_ _ _ h=>h,λ_ _ h=>h,λ_ ps h=>⟨#[],by rw[h];simp⟩⟩
theorem Le.trans(a:Le K m H m1 H1)(b:Le K m1 H1 m2 H2):Le K m H m2 H2 where
 pre:=by obtain⟨t,e⟩:=a.pre;obtain⟨u,e'⟩:=b.pre;exact⟨t++u,by rw[e',e,Ti]⟩
 tup:=λc xs h=>b.tup c xs (a.tup c xs h)
 keep:=λc u h hc hu=>b.keep c u (a.keep c u h hc hu) (λz=>by
  rcases a.new c z with q|q;·exact hc q
  ·rw[h] at q;cases q) hu
 new:=λc hc=>by
  rcases b.new c hc with q|q;·exact a.new c q
  ·cases e:H c with|none=>exact .inr rfl|some o=>exact absurd q (a.lW c (by rw[e];exact λz=>nomatch z))
 lW:=λc h=>b.lW c (a.lW c h)
 wQ:=λc h=>b.wQ c (a.wQ c h)
 cF:=λc o u h=>b.cF c o u (a.cF c o u h)
 ext:=λc φ h=>b.ext c φ (a.ext c φ h)
 dc:=λc ps h=>by obtain⟨m1,e1⟩:=a.dc c ps h;obtain⟨m2,e2⟩:=b.dc c _ e1;exact⟨m1++m2,by rw[e2,Ue]⟩
theorem Ct(e:fS H H')(h:H a≠Θ):H' a≠Θ:=by cases q:H a with|none=>exact absurd q h|some o=>rw[e _ _ q];exact λz=>nomatch z
theorem nJ(e:fS H H')(h:eA H a≠Θ):eA H' a≠Θ:=by cases q:eA H a with|none=>exact absurd q h|some o=>obtain⟨h1,h2⟩:=g6 q;have h3:=e _ _ h1;cases o with|ext φ=>have:∃q,φ=cJ a q:=QR λz=>h2 φ rfl λq' e'=>z ⟨q',e'⟩;obtain⟨q',rfl⟩:=this;rw[dU h3];exact λz=>nomatch z|_=>rw[bj h3 (λ_ z=>nomatch z)];exact λz=>nomatch z
theorem Le.same(e:fS H H'):Le K m H m H':=⟨⟨[],by simp⟩,λ_ _ h=>e _ _ h,λ_ _ h _ _=>e _ _ h,λ_ h=>.inl h,λ_ h=>Ct e h,λ_ h=>nJ e h,λ_ _ _ h=>e _ _ h,λ_ _ h=>e _ _ h,λ_ ps h=>⟨#[],by rw[e _ _ h];simp⟩⟩
theorem Le.rd(le:Le K m H m' H')(h:Rd H a (.lst us))(hm:a∉m):Rd H' a (.lst us):=by
 rcases h with h|⟨o,h⟩;·exact .inl (le.keep _ _ h hm (λ_ z=>nomatch z))
 ·exact .inr ⟨o,le.keep _ _ h hm (λ_ z=>nomatch z)⟩
mutual
theorem aI.le(le:Le K m H m' H'):∀{x:D} {v:V},aI K H m Z x v->aI K H' m' Z x v
 |.bu,_,h=>h|.bl _,_,h=>h|.int _,_,h=>h|.str _,_,h=>h|.tup xs,v,h=>by obtain⟨a,us,e,q,r⟩:=(show ∃a us,v=.ref a/\H a=Δ (.tup us)/\aj K H m Z xs us from h);exact⟨a,us,e,le.tup _ _ q,aj.le le r⟩
 |.pl xs,v,h=>by
  obtain⟨a,us,e,q,hm,hz,r⟩:=(show ∃a us,v=.ref a/\Rd H a (.lst us)/\a∉m/\a∉Z/\aj K H m Z xs us from h);refine⟨a,us,e,le.rd q hm,λz=>?_,hz,aj.le le r⟩;rcases le.new a z with y|y;·exact hm y
  ·exact AB q y
theorem aj.le(le:Le K m H m' H'):∀{xs:List D} {us:List V},aj K H m Z xs us->aj K H' m' Z xs us
 |[],_,h=>h|x::xs,us,h=>by obtain⟨v,vs,e,r,rs⟩:=(show ∃v vs,us=v::vs/\aI K H m Z x v/\aj K H m Z xs vs from h);exact⟨v,vs,e,aI.le le r,aj.le le rs⟩
end
mutual
theorem ai.le(le:Le K m H m' H'):∀{x:P} {v:V},ai K H m Z x v->ai K H' m' Z x v
 |.d _,_,h=>by rw[ai] at h ⊢;exact aI.le le h|.obj n,v,h=>by rw[ai] at h ⊢;obtain⟨a,e,r⟩:=h;obtain⟨t,q⟩:=le.pre;refine⟨a,?_,r⟩;rw[q,Qn (qqz e).1];exact e
 |.fb ns,v,h=>by
  rw[ai] at h ⊢;obtain⟨a,e,r⟩:=h;refine⟨a,e,?_⟩;rcases r with ⟨o,r⟩|r
  ·exact .inl ⟨o,le.cF _ _ _ r⟩
  ·exact .inr r
 |.fn k bx,v,h=>by rw[ai] at h ⊢;obtain⟨a,c,bN,e,q,hc,r⟩:=h;exact⟨a,c,bN,e,q,le.ext _ _ hc,ag.le le r⟩|.lf k,v,h=>by rw[ai] at h ⊢;obtain⟨a,c,ct,e,q,r⟩:=h;exact⟨a,c,ct,e,le.ext _ _ q,le.ext _ _ r⟩
theorem ag.le(le:Le K m H m' H'):∀{xs:List P} {us:List V},ag K H m Z xs us->ag K H' m' Z xs us
 |[],_,h=>h|x::xs,us,h=>by obtain⟨v,vs,e,r,rs⟩:=(show ∃v vs,us=v::vs/\ai K H m Z x v/\ag K H m Z xs vs by rw[ag] at h;exact h);rw[ag];exact⟨v,vs,e,ai.le le r,ag.le le rs⟩
end
theorem bZ.le(A:bZ K H m Z r σ)(le:Le K m H m' H'):bZ K H' m' Z r σ:=⟨A.len,λi p h=>by obtain⟨v,e,q⟩:=A.at_ i p h;exact⟨v,e,q.le le⟩⟩
theorem dF.same(e:∀a φ,H a=Δ (.ext φ)->H' a=Δ (.ext φ))(h:dF H bL ps):dF H' bL ps:=
 ⟨h.1,λp hp cv uz=>by obtain⟨c,e1,e2⟩:=h.2 p hp cv uz;exact⟨c,e1,e _ _ e2⟩⟩
theorem ay.same(A:ay K H m Z st)(e:fS H H'):ay K H' m Z st:=by
 refine⟨A.len,A.nd,λn o h=>?_,λa h=>nJ e (A.zt a h),A.zm,λt ht=>?_⟩;·obtain⟨a,q,r⟩:=A.at_ n o h;exact⟨a,q,r.mono (λb u _ hu=>e _ _ hu) λp v z=>z.le (Le.same e)⟩
 ·obtain⟨ps,h1,h2⟩:=A.tab t ht;exact⟨ps,e _ _ h1,dF.same (λa φ z=>e _ _ z) h2⟩
noncomputable def Ok(K:KB)(Z:List Addr)(r:R α)(m:List Addr)(H:Hp)(Q:α->aR->List Addr->Hp->Prop):Prop:=match r with|.ok a bw=>∀m' H',Le K m H m' H'->ay K H' m' Z bw->Q a bw m' H'|_=>False
theorem Ok.le(h:Ok K Z r m H Q)(le:Le K m H m' H'):Ok K Z r m' H' Q:=by cases r with|ok a bw=>exact λm2 H2 l2 a2=>h m2 H2 (le.trans l2) a2|ex x bw=>exact h|no=>exact h
theorem Ok.bind(h:Ok K Z (r.bind k) m H Q):Ok K Z r m H (λa bw m' H'=>Ok K Z (k a bw) m' H' Q):=by cases r with|ok a bw=>exact λm' H' le _=>Ok.le (r:=k a bw) h le|ex x bw=>exact h|no=>exact h
theorem Ok.jQ{r:R α}{Q:β->aR->List Addr->Hp->Prop}(hk:∀a st,k a st=.no)(h:Ok K Z (r.bind k) m H Q):False:=by cases r with|ok a bw=>rw[ax,hk] at h;exact h|ex x bw=>exact h|no=>exact h
theorem Ok.mono(h:Ok K Z r m H Q)(f:∀a bw m' H',Le K m H m' H'->ay K H' m' Z bw->Q a bw m' H'->Q' a bw m' H'):Ok K Z r m H Q':=by cases r with|ok a bw=>exact λm' H' le as=>f a bw m' H' le as (h m' H' le as)|ex x bw=>exact h|no=>exact h
theorem Ok.nK(h:Ok K Z r m H Q)(f:∀a bw m' H',r=.ok a bw->Le K m H m' H'->ay K H' m' Z bw->Q a bw m' H'->Q' a bw m' H'):Ok K Z r m H Q':=by cases r with|ok a bw=>exact λm' H' le as=>f a bw m' H' rfl le as (h m' H' le as)|ex x bw=>exact h|no=>exact h
theorem Ok.of(h:Ok K Z (R.of o st) m H Q)(as:ay K H m Z st):∃a,o=Δ a/\Q a st m H/\∀m' H',Le K m H m' H'->ay K H' m' Z st->Q a st m' H':=by cases o with|none=>exact(show False from h).elim|some a=>exact⟨a,rfl,h m H Le.refl as,h⟩
theorem Ok.here(h:Ok K Z (R.ok a st) m H Q)(as:ay K H m Z st):Q a st m H:=h m H Le.refl as
inductive tE (K:KB) (Z:List Addr) (d:cB->aR->R P) (σ:St) (H:Hp) (Q:VK):Prop
 |mk (m:List Addr) (r:cB) (st:aR) (a:bZ K H m Z r σ) (b:ay K H m Z st) (c:Ok K Z (d r st) m H (λp _ m' H'=>∀v,ai K H' m' Z p v->Q v H')):tE K Z d σ H Q
inductive tT (K:KB) (Z:List Addr) (d:cB->aR->R Bool) (σ:St) (H:Hp) (Q:Bool->Hp->Prop):Prop
 |mk (m:List Addr) (r:cB) (st:aR) (a:bZ K H m Z r σ) (b:ay K H m Z st) (c:Ok K Z (d r st) m H (λb _ _ H'=>Q b H')):tT K Z d σ H Q
inductive tA (K:KB) (Z:List Addr) (d:cB->aR->R (List P)) (σ:St) (H:Hp) (Q:List V->Hp->Prop):Prop
 |mk (m:List Addr) (r:cB) (st:aR) (a:bZ K H m Z r σ) (b:ay K H m Z st) (c:Ok K Z (d r st) m H (λps _ m' H'=>∀vs,ag K H' m' Z ps vs->Q vs H')):tA K Z d σ H Q
def LQ(K:KB)(Z:List Addr)(r:R (List P))(m:List Addr)(H:Hp)(Q:VK):Prop:=match r with|.ok ps bw=>∀m' H' a vs,Le K m H m' H'->H a=Θ->a∉m'->H' a=Δ (.lst vs)->ay K H' m' (a::Z) bw->ag K H' m' (a::Z) ps vs->Q (.ref a) H'|_=>False
inductive tL (K:KB) (Z:List Addr) (d:cB->aR->R (List P)) (σ:St) (H:Hp) (Q:VK):Prop
 |mk (m:List Addr) (r:cB) (st:aR) (a:bZ K H m Z r σ) (b:ay K H m Z st) (c:LQ K Z (d r st) m H Q):tL K Z d σ H Q
def lL(K:KB)(Z:List Addr)(D:Ends):Fl->aR->List Addr->Hp->Prop:=λf _ m' H'=>match f with|.nx r=>∀σ,bZ K H' m' Z r σ->D.nx σ H'|.bk r=>∀σ,bZ K H' m' Z r σ->D.bk σ H'|.ct r=>∀σ,bZ K H' m' Z r σ->D.ct σ H'|.rt p=>∀v,ai K H' m' Z p v->D.rt v H'
mutual
theorem aI.sub{Z':List Addr}(sm:∀a∈m',a∈m)(s:∀a∈Z,a∈Z'):∀{x:D} {v:V},aI K H m Z' x v->aI K H m' Z x v
 |.bu,_,h=>h|.bl _,_,h=>h|.int _,_,h=>h|.str _,_,h=>h|.tup xs,v,h=>by obtain⟨a,us,e,q,r⟩:=(show ∃a us,v=.ref a/\H a=Δ (.tup us)/\aj K H m Z' xs us from h);exact⟨a,us,e,q,aj.sub sm s r⟩
 |.pl xs,v,h=>by obtain⟨a,us,e,q,hm,hz,r⟩:=(show ∃a us,v=.ref a/\Rd H a (.lst us)/\a∉m/\a∉Z'/\aj K H m Z' xs us from h);exact⟨a,us,e,q,λz=>hm (sm a z),λz=>hz (s a z),aj.sub sm s r⟩
theorem aj.sub{Z':List Addr}(sm:∀a∈m',a∈m)(s:∀a∈Z,a∈Z'):∀{xs:List D} {us:List V},aj K H m Z' xs us->aj K H m' Z xs us
 |[],_,h=>h|x::xs,us,h=>by obtain⟨v,vs,e,r,rs⟩:=(show ∃v vs,us=v::vs/\aI K H m Z' x v/\aj K H m Z' xs vs from h);exact⟨v,vs,e,aI.sub sm s r,aj.sub sm s rs⟩
end
theorem aI.o4(s:∀a∈Z,a∈Z')(h:aI K H m Z' x v):aI K H m Z x v:=aI.sub (λ_ h=>h) s h
theorem aI.bare(h:aI K H m Z x v):aI K H [] [] x v:=aI.sub (λ_ h=>by cases h) (λ_ h=>by cases h) h
theorem aj.bare(h:aj K H m Z x v):aj K H [] [] x v:=aj.sub (λ_ h=>by cases h) (λ_ h=>by cases h) h
mutual
theorem ai.o4{Z':List Addr}(s:∀a∈Z,a∈Z'):∀{x:P} {v:V},ai K H m Z' x v->ai K H m Z x v
 |.d _,_,h=>by rw[ai] at h ⊢;exact aI.o4 s h|.obj _,_,h=>by rw[ai] at h ⊢;exact h|.fb _,_,h=>by rw[ai] at h ⊢;exact h|.fn k bx,v,h=>by rw[ai] at h ⊢;obtain⟨a,c,bN,e,q,hc,r⟩:=h;exact⟨a,c,bN,e,q,hc,ag.o4 s r⟩
 |.lf k,v,h=>by rw[ai] at h ⊢;exact h
theorem ag.o4{Z':List Addr}(s:∀a∈Z,a∈Z'):∀{xs:List P} {us:List V},ag K H m Z' xs us->ag K H m Z xs us
 |[],_,h=>h|x::xs,us,h=>by rw[ag] at h ⊢;obtain⟨v,vs,e,r,rs⟩:=h;exact⟨v,vs,e,ai.o4 s r,ag.o4 s rs⟩
end
mutual
theorem aI.hJ{b:Addr}(hb:H b=Θ):∀{x:D} {v:V},aI K H m Z x v->aI K H m (b::Z) x v
 |.bu,_,h=>h|.bl _,_,h=>h|.int _,_,h=>h|.str _,_,h=>h|.tup xs,v,h=>by obtain⟨a,us,e,q,r⟩:=(show ∃a us,v=.ref a/\H a=Δ (.tup us)/\aj K H m Z xs us from h);exact⟨a,us,e,q,aj.hJ hb r⟩
 |.pl xs,v,h=>by
  obtain⟨a,us,e,q,hm,hz,r⟩:=(show ∃a us,v=.ref a/\Rd H a (.lst us)/\a∉m/\a∉Z/\aj K H m Z xs us from h);refine⟨a,us,e,q,hm,λz=>?_,aj.hJ hb r⟩;rcases Uu.mp z with z|z;·rw[z] at q;exact AB q hb
  ·exact hz z
theorem aj.hJ{b:Addr}(hb:H b=Θ):∀{xs:List D} {us:List V},aj K H m Z xs us->aj K H m (b::Z) xs us
 |[],_,h=>h|x::xs,us,h=>by obtain⟨v,vs,e,r,rs⟩:=(show ∃v vs,us=v::vs/\aI K H m Z x v/\aj K H m Z xs vs from h);exact⟨v,vs,e,aI.hJ hb r,aj.hJ hb rs⟩
end
mutual
theorem ai.hJ{b:Addr}(hb:H b=Θ):∀{x:P} {v:V},ai K H m Z x v->ai K H m (b::Z) x v
 |.d _,_,h=>by rw[ai] at h ⊢;exact aI.hJ hb h|.obj _,_,h=>by rw[ai] at h ⊢;exact h|.fb _,_,h=>by rw[ai] at h ⊢;exact h|.fn k bx,v,h=>by rw[ai] at h ⊢;obtain⟨a,c,bN,e,q,hc,r⟩:=h;exact⟨a,c,bN,e,q,hc,ag.hJ hb r⟩
 |.lf k,v,h=>by rw[ai] at h ⊢;exact h
theorem ag.hJ{b:Addr}(hb:H b=Θ):∀{xs:List P} {us:List V},ag K H m Z xs us->ag K H m (b::Z) xs us
 |[],_,h=>h|x::xs,us,h=>by rw[ag] at h ⊢;obtain⟨v,vs,e,r,rs⟩:=h;exact⟨v,vs,e,ai.hJ hb r,ag.hJ hb rs⟩
end
theorem ay.Kd(A:ay K H m Z st)(h:a∈m):H a≠Θ:=by
 obtain⟨n,hn,e⟩:=List.mem_iff_getElem.mp h;have uB:n < st.length:=by rw[<-A.len];exact hn
 obtain⟨a',e',r⟩:=A.at_ n st[n] (Qh uB);rw[Qh hn,e] at e';cases e';exact r.lW.1
theorem ay.fresh(A:ay K H m Z st)(h:H a=Θ):a∉m/\a∉Z:=⟨λz=>A.Kd z h,λz=>A.zt a z (gw h)⟩
theorem iz(hx:∀φ,o≠.ext φ)(h:eA H b≠Θ):eA (upd H a o) b≠Θ:=by
 by_cases hb:b=a;·rw[hb,bj aA hx];exact λz=>nomatch z
 ·unfold eA at h ⊢;rw[av hb];exact h
theorem ay.laid(A:ay K H m Z st)(h:H a=Θ)o(hx:∀φ,o≠.ext φ:=by exact λ_ z=>nomatch z):ay K (upd H a o) m (a::Z) st:=by
 have e:fS H (upd H a o):=aW h o;have A':=A.same e;refine⟨A.len,A.nd,λn ob hn=>?_,λb hb=>?_,λb hb=>?_,A'.tab⟩;·obtain⟨c,q,r⟩:=A.at_ n ob hn;exact⟨c,q,r.mono (λb u _ hu=>e _ _ hu) λp v z=>(z.hJ h).le (Le.same e)⟩
 ·rcases Uu.mp hb with z|z;·rw[z,bj aA hx];exact λz=>nomatch z
  ·exact A'.zt b z
 ·rcases Uu.mp hb with z|z;·rw[z];exact(A.fresh h).1
  ·exact A.zm b z
theorem ay.Ke(A:ay K H m Z st)(h:H a=Θ)(e:fS H H')(h':eA H' a≠Θ):ay K H' m (a::Z) st:=by
 refine⟨A.len,A.nd,λn ob hn=>?_,λb hb=>?_,λb hb=>?_,(A.same e).tab⟩;·obtain⟨c,q,r⟩:=A.at_ n ob hn;exact⟨c,q,r.mono (λb u _ hu=>e _ _ hu) λp v z=>(z.hJ h).le (Le.same e)⟩
 ·rcases Uu.mp hb with z|z;·rw[z];exact h'
  ·exact nJ e (A.zt b z)
 ·rcases Uu.mp hb with z|z;·rw[z];exact(A.fresh h).1
  ·exact A.zm b z
theorem ay.o4(A:ay K H m Z' st)(s:∀a∈Z,a∈Z'):ay K H m Z st:=
 ⟨A.len,A.nd,λn o h=>by obtain⟨a,q,r⟩:=A.at_ n o h;exact⟨a,q,r.mono (λb u _ hu=>hu) λp v z=>z.o4 s⟩,λa h=>A.zt a (s a h),λa h=>A.zm a (s a h),A.tab⟩
mutual
theorem aI.adopt{b:Addr}:∀{x:D} {v:V},aI K H m (b::Z) x v->aI K H (m++[b]) Z x v
 |.bu,_,h=>h|.bl _,_,h=>h|.int _,_,h=>h|.str _,_,h=>h|.tup xs,v,h=>by obtain⟨a,us,e,q,r⟩:=(show ∃a us,v=.ref a/\H a=Δ (.tup us)/\aj K H m (b::Z) xs us from h);exact⟨a,us,e,q,aj.adopt r⟩
 |.pl xs,v,h=>by
  obtain⟨a,us,e,q,hm,hz,r⟩:=(show ∃a us,v=.ref a/\Rd H a (.lst us)/\a∉m/\a∉b::Z/\aj K H m (b::Z) xs us from h);refine⟨a,us,e,q,λz=>?_,λz=>hz (P6 _ z),aj.adopt r⟩;rcases List.mem_append.mp z with z|z;·exact hm z
  ·exact hz (by simp at z;rw[z];exact P7)
theorem aj.adopt{b:Addr}:∀{xs:List D} {us:List V},aj K H m (b::Z) xs us->aj K H (m++[b]) Z xs us
 |[],_,h=>h|x::xs,us,h=>by obtain⟨v,vs,e,r,rs⟩:=(show ∃v vs,us=v::vs/\aI K H m (b::Z) x v/\aj K H m (b::Z) xs vs from h);exact⟨v,vs,e,aI.adopt r,aj.adopt rs⟩
end
mutual
theorem ai.adopt{b:Addr}:∀{x:P} {v:V},ai K H m (b::Z) x v->ai K H (m++[b]) Z x v
 |.d _,_,h=>by rw[ai] at h ⊢;exact aI.adopt h|.obj n,v,h=>by rw[ai] at h ⊢;obtain⟨a,e,r⟩:=h;exact⟨a,by rw[Qn (qqz e).1];exact e,r⟩
 |.fb _,_,h=>by rw[ai] at h ⊢;exact h|.fn k bx,v,h=>by rw[ai] at h ⊢;obtain⟨a,c,bN,e,q,hc,r⟩:=h;exact⟨a,c,bN,e,q,hc,ag.adopt r⟩
 |.lf k,v,h=>by rw[ai] at h ⊢;exact h
theorem ag.adopt{b:Addr}:∀{xs:List P} {us:List V},ag K H m (b::Z) xs us->ag K H (m++[b]) Z xs us
 |[],_,h=>h|x::xs,us,h=>by rw[ag] at h ⊢;obtain⟨v,vs,e,r,rs⟩:=h;exact⟨v,vs,e,ai.adopt r,ag.adopt rs⟩
end
theorem gO{l:List Addr}(nd:l.Nodup)(hi:i < l.length)(hj:j < l.length)(h:l[i]=l[j]):i=j:=by
 rcases Nat.lt_trichotomy i j with z|z|z;·exact absurd h (List.pairwise_iff_getElem.mp nd i j hi hj z)
 ·exact z
 ·exact absurd h.symm (List.pairwise_iff_getElem.mp nd j i hj hi z)
theorem ay.nM(A:ay K H m (a::Z) st)(hz:a∉Z)(r:l9 K H m (a::Z) a ob):ay K H (m++[a]) Z (st++[ob]):=by
 refine⟨by rw[Qp,Qp,A.len];rfl,?_,λn o h=>?_,λb h=>A.zt b (P6 _ h),λb h z=>?_,A.tab⟩
 ·refine List.nodup_append.mpr ⟨A.nd,by simp,λx hx y hy=>?_⟩;have e:y=a:=by simpa using hy
  rw[e];rintro rfl;exact A.zm x P7 hx
 ·by_cases hn:n < st.length;·rw[Qn hn] at h;obtain⟨b,q,rr⟩:=A.at_ n o h;exact⟨b,by rw[Qn (by rw[A.len];exact hn)];exact q,rr.mono (λb u _ hu=>hu) λp v z=>z.adopt⟩
  ·rw[Qu (by lia)] at h;have Mm:n - st.length=0:=by
    have:=(qqz h).1;simp at this
    lia
   rw[Mm] at h;cases h;refine⟨a,?_,r.mono (λb u _ hu=>hu) λp v z=>z.adopt⟩;rw[Qu (by rw[A.len];lia),A.len,Mm];rfl
 ·rcases List.mem_append.mp z with z|z;·exact A.zm b (P6 _ h) z
  ·have e:b=a:=by simpa using z
   rw[e] at h;exact hz h
theorem ay.adopt(A:ay K H m (a::Z) st)(hz:a∉Z)(ha:H a=Δ (.lst vs))(r:ag K H m (a::Z) ps vs):ay K H (m++[a]) Z (st++[.lst ps]):=A.nM hz ⟨vs,ha,r⟩
theorem ay.write(A:ay K H m Z st)(hn:st[n]?=Δ o)(ha:m[n]?=Δ a)(ky:∀H',H' a=Δ ho->(∀b u,b≠a->H b=Δ u->H' b=Δ u)->(∀p v,ai K H m Z p v->ai K H' m Z p v)->l9 K H' m Z a o')(hx:∀φ,ho≠.ext φ:=by exact λ_ z=>nomatch z)(hl:o≠.rW:=by exact λz=>nomatch z):
  Le K m H m (upd H a ho)/\ay K (upd H a ho) m Z (st.set n o'):=by
 obtain⟨a',e,r⟩:=A.at_ n o hn;rw[ha] at e;cases e;obtain⟨t1,t2,t3,t4,t5,t6⟩:=r.lW;replace t3:=t3 hl;have le:Le K m H m (upd H a ho):=by
  refine⟨⟨[],by simp⟩,λb xs h=>?_,λb u h hb _=>?_,λb h=>.inl h,λb h=>?_,λb h=>iz hx h,λb o u h=>?_,λb φ h=>?_,λb ps h=>⟨#[],?_⟩⟩;·rw[av (λz=>t2 xs (by rw[<-z];exact h))];exact h
  ·rw[av (λz=>hb (by rw[z];exact Q2 ha))];exact h
  ·by_cases FP:b=a;·rw[FP,aA];exact λz=>nomatch z
   ·rw[av FP];exact h
  ·rw[av (λz=>t3 o u (by rw[<-z];exact h))];exact h
  ·rw[av (λz=>t4 φ (by rw[<-z];exact h))];exact h
  ·rw[av (λz=>t5 ps (by rw[<-z];exact h)),h];simp
 refine⟨le,⟨by rw[Sr];exact A.len,A.nd,λk ob hk=>?_,λb hb=>le.wQ b (A.zt b hb),A.zm,λt ht=>?_⟩⟩
 rotate_left
 ·obtain⟨ps,h1,h2⟩:=A.tab t ht;exact⟨ps,by rw[av (λz=>t5 ps (by rw[<-z];exact h1))];exact h1,dF.same le.ext h2⟩
 by_cases FQ:n=k;·subst FQ;have fD:=(qqz hn).1;rw[Q6 fD] at hk;cases hk;exact⟨a,ha,ky _ aA (λb u hb hu=>by rw[av hb];exact hu) λp v z=>z.le le⟩
 ·rw[RJ FQ] at hk;obtain⟨b,q,rr⟩:=A.at_ k ob hk;have FP:b≠a:=by rintro rfl;have h1:=(qqz ha);have h2:=(qqz q);obtain⟨l1,e1⟩:=h1;obtain⟨l2,e2⟩:=h2;exact FQ (gO A.nd l1 l2 (e1.trans e2.symm))
  exact⟨b,q,rr.mono (λb' u fE hu=>by
   rw[av (λz=>by
    rcases fE with w1|w1;·exact FP (w1▸z)
    ·exact t6 b (by rw[<-z];exact w1))]
   exact hu) λp v z=>z.le le⟩
end
mutual
def RH(h:Heap):D->Value->Prop
 |.bu,u=>u=.none|.bl b,u=>u=.bool b|.int i,u=>∃t,u=.int i t|.str x,u=>∃t,u=.str x t|.tup xs,u=>∃a aC,u=.ref a/\h.IsTuple a aC.toArray/\oG h xs aC|.pl xs,u=>∃a aC,u=.ref a/\h.IsList a aC.toArray/\oG h xs aC
def oG(h:Heap):List D->List Value->Prop
 |[],us=>us=[]|x::xs,us=>∃u r,us=u::r/\RH h x u/\oG h xs r
end
section
variable{h:Heap}
theorem oG.length:∀{xs} {us},oG h xs us->us.length=xs.length
 |[],us,r=>by cases (show us=[] from r);rfl|x::xs,us,r=>by obtain⟨u,q,rfl,_,rs⟩:=(show ∃u r,us=u::r/\RH h x u/\oG h xs r from r);rw[Qm,Qm,oG.length rs]
theorem lM(p:h.IsTuple a x)(q:h.IsTuple a y):x=y:=by obtain⟨o,e,_,n,d⟩:=p;obtain⟨o',e',_,n',d'⟩:=q;rw[e] at e';cases e';rw[d] at d';cases d';rfl
theorem nN(p:h.IsList a x)(q:h.IsList a y):x=y:=by obtain⟨o,e,_,n,d⟩:=p;obtain⟨o',e',_,n',d'⟩:=q;rw[e] at e';cases e';rw[d] at d';cases d';rfl
theorem tI(p:h.IsTuple a x)(q:h.IsList a y):False:=by obtain⟨o,e,c,_⟩:=p;obtain⟨o',e',c',_⟩:=q;rw[e] at e';cases e';rw[c] at c';exact absurd c' (by decide+kernel)
mutual
theorem RH.self:∀{x y:D} {u:Value},RH h x u->RH h y u->qJ x y=Λ
 |.bu,y,u,p,q=>by cases (show u=.none from p);cases y with|bu=>rfl|bl b=>exact nomatch (show RB=.bool b from q)|int i=>obtain⟨t,e⟩:=q;exact nomatch e|str i=>obtain⟨t,e⟩:=q;exact nomatch e|tup i=>obtain⟨t,_,e,_⟩:=q;exact nomatch e|pl i=>obtain⟨t,_,e,_⟩:=q;exact nomatch e
 |.bl b,y,u,p,q=>by cases (show u=.bool b from p);cases y with|bu=>exact nomatch (show SX b=.none from q)|bl c=>cases (show SX b=.bool c from q);simp[qJ]|int i=>obtain⟨t,e⟩:=q;exact nomatch e|str i=>obtain⟨t,e⟩:=q;exact nomatch e|tup i=>obtain⟨t,_,e,_⟩:=q;exact nomatch e|pl i=>obtain⟨t,_,e,_⟩:=q;exact nomatch e
 |.int b,y,u,p,q=>by obtain⟨t0,rfl⟩:=p;cases y with|bu=>exact nomatch (show Tv b t0=.none from q)|bl c=>exact nomatch (show Tv b t0=.bool c from q)|int i=>obtain⟨t,e⟩:=q;cases e;simp[qJ]|str i=>obtain⟨t,e⟩:=q;exact nomatch e|tup i=>obtain⟨t,_,e,_⟩:=q;exact nomatch e|pl i=>obtain⟨t,_,e,_⟩:=q;exact nomatch e
 |.str b,y,u,p,q=>by obtain⟨t0,rfl⟩:=p;cases y with|bu=>exact nomatch (show S3 b t0=.none from q)|bl c=>exact nomatch (show S3 b t0=.bool c from q)|int i=>obtain⟨t,e⟩:=q;exact nomatch e|str i=>obtain⟨t,e⟩:=q;cases e;simp[qJ]|tup i=>obtain⟨t,_,e,_⟩:=q;exact nomatch e|pl i=>obtain⟨t,_,e,_⟩:=q;exact nomatch e
 |.tup xs,y,u,p,q=>by
  obtain⟨a,aC,rfl,ht,rs⟩:=p;cases y with
  |bu=>exact nomatch (show Qr a=.none from q)|bl c=>exact nomatch (show Qr a=.bool c from q)|int i=>obtain⟨t,e⟩:=q;exact nomatch e|str i=>obtain⟨t,e⟩:=q;exact nomatch e|tup ys=>
   obtain⟨b,its',e,FR,qO⟩:=q;cases e;have e2:aC=its':=by simpa using lM ht FR
   subst e2;show fL xs ys=Λ;exact oG.self rs qO
  |pl ys=>obtain⟨b,its',e,FR,qO⟩:=q;cases e;exact(tI ht FR).elim
 |.pl xs,y,u,p,q=>by
  obtain⟨a,aC,rfl,ht,rs⟩:=p;cases y with
  |bu=>exact nomatch (show Qr a=.none from q)|bl c=>exact nomatch (show Qr a=.bool c from q)|int i=>obtain⟨t,e⟩:=q;exact nomatch e|str i=>obtain⟨t,e⟩:=q;exact nomatch e|tup ys=>obtain⟨b,its',e,FR,qO⟩:=q;cases e;exact(tI FR ht).elim
  |pl ys=>
   obtain⟨b,its',e,FR,qO⟩:=q;cases e;have e2:aC=its':=by simpa using nN ht FR
   subst e2;show fL xs ys=Λ;exact oG.self rs qO
theorem oG.self:∀{xs ys:List D} {us:List Value},oG h xs us->oG h ys us->fL xs ys=Λ
 |[],ys,us,p,q=>by cases (show us=[] from p);cases ys with|nil=>rfl|cons y ys=>obtain⟨u,r,e,_⟩:=q;exact nomatch e
 |x::xs,ys,us,p,q=>by obtain⟨u,r,rfl,p1,p2⟩:=(show ∃u r,us=u::r/\RH h x u/\oG h xs r from p);cases ys with|nil=>exact nomatch (show u::r=[] from q)|cons y ys=>obtain⟨u',r',e,q1,q2⟩:=(show ∃u' r',u::r=u'::r'/\RH h y u'/\oG h ys r' from q);cases e;show(qJ x y&&fL xs ys)=Λ;rw[RH.self p1 q1,oG.self p2 q2];rfl
end
def pairD(xs ys:List D)(j:Nat):Bool:=qJ (xs.getD j .bu) (ys.getD j .bu)
theorem jW:∀xs ys,((Rq (min xs.length ys.length)).all (pairD xs ys)&&xs.length==ys.length)=fL xs ys
 |[],[]=>rfl|[],_::_=>by simp[fL]|_::_,[]=>by simp[fL]|x::xs,y::ys=>by
  have ih:=jW xs ys;have e1:min (x::xs).length (y::ys).length=min xs.length ys.length+1:=by simp only[Qm];lia
  have e2:((x::xs).length==(y::ys).length)=(xs.length==ys.length):=by simp
  have e3:(Rq (min xs.length ys.length+1)).all (pairD (x::xs) (y::ys))=(qJ x y&&(Rq (min xs.length ys.length)).all (pairD xs ys)):=by rw[List.range_succ_eq_map,Rc,List.all_map];first|rfl|simp[pairD,Function.comp_def]
  rw[e1,e2,e3,fL,<-ih,Bool.and_assoc]
theorem tJ(h:xs.length=ys.length):(Rq xs.length).all (pairD xs ys)=fL xs ys:=by have:=jW xs ys;rw[<-h,Nat.min_self] at this;simpa using this
theorem nO(h:xs.length≠ys.length):fL xs ys=Ξ:=by rw[<-jW xs ys];simp[h]
open SeqAt
mutual
theorem Kg:∀(x y:D) (A:QY) (s:Qd) (u v:Value),RH s.heap x u->RH s.heap y v->A.units+min (nj x) (nj y) < cLine->RcAt A s u v (qJ x y)/\RcNeAt A s u v (!qJ x y)
 |.bu,y,A,s,u,v,p,q,hu=>by cases (show u=.none from p);cases y with|bu=>cases (show v=.none from q);exact⟨RcAt.none_none,RcNeAt.none_none⟩|bl b=>cases (show v=.bool b from q);exact⟨RcAt.none_bool b,RcNeAt.none_bool b⟩|int b=>obtain⟨t,rfl⟩:=q;exact⟨RcAt.none_int b t,RcNeAt.none_int b t⟩|str b=>obtain⟨t,rfl⟩:=q;exact⟨RcAt.none_str b t,RcNeAt.none_str b t⟩|tup ys=>obtain⟨a,aC,rfl,hl,_⟩:=q;exact⟨RcAt.none_tuple hl (room_here hu),RcNeAt.none_tuple hl (room_here hu)⟩|pl ys=>obtain⟨a,aC,rfl,hl,_⟩:=q;exact⟨RcAt.none_list hl (room_here hu),RcNeAt.none_list hl (room_here hu)⟩
 |.bl x,y,A,s,u,v,p,q,hu=>by cases (show u=.bool x from p);cases y with|bu=>cases (show v=.none from q);exact⟨RcAt.bool_none x,RcNeAt.bool_none x⟩|bl b=>cases (show v=.bool b from q);exact⟨RcAt.bool_bool x b,RcNeAt.bool_bool x b⟩|int b=>obtain⟨t,rfl⟩:=q;exact⟨RcAt.bool_int x b t,RcNeAt.bool_int x b t⟩|str b=>obtain⟨t,rfl⟩:=q;exact⟨RcAt.bool_str x b t,RcNeAt.bool_str x b t⟩|tup ys=>obtain⟨a,aC,rfl,hl,_⟩:=q;exact⟨RcAt.bool_tuple x hl (room_here hu),RcNeAt.bool_tuple x hl (room_here hu)⟩|pl ys=>obtain⟨a,aC,rfl,hl,_⟩:=q;exact⟨RcAt.bool_list x hl (room_here hu),RcNeAt.bool_list x hl (room_here hu)⟩
 |.int x,y,A,s,u,v,p,q,hu=>by obtain⟨t0,rfl⟩:=p;cases y with|bu=>cases (show v=.none from q);exact⟨RcAt.int_none x t0,RcNeAt.int_none x t0⟩|bl b=>cases (show v=.bool b from q);exact⟨RcAt.int_bool x t0 b,RcNeAt.int_bool x t0 b⟩|int b=>obtain⟨t,rfl⟩:=q;exact⟨RcAt.int_int x t0 b t,RcNeAt.int_int x t0 b t⟩|str b=>obtain⟨t,rfl⟩:=q;exact⟨RcAt.int_str x t0 b t,RcNeAt.int_str x t0 b t⟩|tup ys=>obtain⟨a,aC,rfl,hl,_⟩:=q;exact⟨RcAt.int_tuple x t0 hl (room_here hu),RcNeAt.int_tuple x t0 hl (room_here hu)⟩|pl ys=>obtain⟨a,aC,rfl,hl,_⟩:=q;exact⟨RcAt.int_list x t0 hl (room_here hu),RcNeAt.int_list x t0 hl (room_here hu)⟩
 |.str x,y,A,s,u,v,p,q,hu=>by obtain⟨t0,rfl⟩:=p;cases y with|bu=>cases (show v=.none from q);exact⟨RcAt.str_none x t0,RcNeAt.str_none x t0⟩|bl b=>cases (show v=.bool b from q);exact⟨RcAt.str_bool x t0 b,RcNeAt.str_bool x t0 b⟩|int b=>obtain⟨t,rfl⟩:=q;exact⟨RcAt.str_int x t0 b t,RcNeAt.str_int x t0 b t⟩|str b=>obtain⟨t,rfl⟩:=q;exact⟨RcAt.str_str x t0 b t,RcNeAt.str_str x t0 b t⟩|tup ys=>obtain⟨a,aC,rfl,hl,_⟩:=q;exact⟨RcAt.str_tuple x t0 hl (room_here hu),RcNeAt.str_tuple x t0 hl (room_here hu)⟩|pl ys=>obtain⟨a,aC,rfl,hl,_⟩:=q;exact⟨RcAt.str_list x t0 hl (room_here hu),RcNeAt.str_list x t0 hl (room_here hu)⟩
 |.tup xs,y,A,s,u,v,p,q,hu=>by
  obtain⟨a,aC,rfl,hl,rs⟩:=p;cases y with
  |bu=>cases (show v=.none from q);exact⟨RcAt.tuple_none hl (room_here hu),RcNeAt.tuple_none hl (room_here hu)⟩|bl b=>cases (show v=.bool b from q);exact⟨RcAt.tuple_bool b hl (room_here hu),RcNeAt.tuple_bool b hl (room_here hu)⟩|int b=>obtain⟨t,rfl⟩:=q;exact⟨RcAt.tuple_int b t hl (room_here hu),RcNeAt.tuple_int b t hl (room_here hu)⟩|str b=>obtain⟨t,rfl⟩:=q;exact⟨RcAt.tuple_str b t hl (room_here hu),RcNeAt.tuple_str b t hl (room_here hu)⟩|pl ys=>obtain⟨b,its',rfl,jw,_⟩:=q;exact⟨RcAt.tuple_list hl jw (room_here hu),RcNeAt.tuple_list hl jw (room_here hu)⟩|tup ys=>
   obtain⟨b,its',rfl,jw,qO⟩:=q;have n1:aC.toArray.size=xs.length:=by rw[P9];exact rs.length
   have n2:its'.toArray.size=ys.length:=by rw[P9];exact qO.length
   have he:∀j (j1:j < aC.toArray.size) (j2:j < its'.toArray.size),EqAt A.in1 s aC.toArray[j] its'.toArray[j] (pairD xs ys j):=λj j1 j2=>by have:=tK xs ys A.in1 s aC its' rs qO (room_in hu) j (by simpa using j1) (by simpa using j2);simpa using this
   show RcAt A s (.ref a) (.ref b) (fL xs ys)/\RcNeAt A s (.ref a) (.ref b) (!fL xs ys);rw[<-jW xs ys,<-n1,<-n2];exact⟨RcAt.tuples hl jw (room_here hu) he,RcNeAt.tuples hl jw (room_here hu) he⟩
 |.pl xs,y,A,s,u,v,p,q,hu=>by
  obtain⟨a,aC,rfl,hl,rs⟩:=p;cases y with
  |bu=>cases (show v=.none from q);exact⟨RcAt.list_none hl (room_here hu),RcNeAt.list_none hl (room_here hu)⟩|bl b=>cases (show v=.bool b from q);exact⟨RcAt.list_bool b hl (room_here hu),RcNeAt.list_bool b hl (room_here hu)⟩|int b=>obtain⟨t,rfl⟩:=q;exact⟨RcAt.list_int b t hl (room_here hu),RcNeAt.list_int b t hl (room_here hu)⟩|str b=>obtain⟨t,rfl⟩:=q;exact⟨RcAt.list_str b t hl (room_here hu),RcNeAt.list_str b t hl (room_here hu)⟩|tup ys=>obtain⟨b,its',rfl,jw,_⟩:=q;exact⟨RcAt.list_tuple hl jw (room_here hu),RcNeAt.list_tuple hl jw (room_here hu)⟩|pl ys=>
   obtain⟨b,its',rfl,jw,qO⟩:=q;have n1:aC.toArray.size=xs.length:=by rw[P9];exact rs.length
   have n2:its'.toArray.size=ys.length:=by rw[P9];exact qO.length
   have he:∀j (j1:j < aC.toArray.size) (j2:j < its'.toArray.size),EqAt A.in1 s aC.toArray[j] its'.toArray[j] (pairD xs ys j):=λj j1 j2=>by have:=tK xs ys A.in1 s aC its' rs qO (room_in hu) j (by simpa using j1) (by simpa using j2);simpa using this
   show RcAt A s (.ref a) (.ref b) (fL xs ys)/\RcNeAt A s (.ref a) (.ref b) (!fL xs ys);by_cases hsz:aC.toArray.size=its'.toArray.size;·rw[<-tJ (by lia:xs.length=ys.length),<-n1];exact⟨RcAt.lists hl jw hsz (room_here hu) he,RcNeAt.lists hl jw hsz (room_here hu) he⟩
   ·rw[nO (by lia:xs.length≠ys.length)];exact⟨RcAt.lists_lengths hl jw (by simpa using hsz) (room_here hu),RcNeAt.lists_lengths hl jw (by simpa using hsz) (room_here hu)⟩
theorem OA:∀(x y:D) (A:QY) (s:Qd) (u v:Value),RH s.heap x u->RH s.heap y v->A.units+min (nj x) (nj y) < cLine->EqAt A s u v (qJ x y)
 |.bu,y,A,s,u,v,p,q,hu=>by cases (show u=.none from p);cases y with|bu=>cases (show v=.none from q);exact EqAt.same _|bl b=>cases (show v=.bool b from q);exact EqAt.none_bool b|int b=>obtain⟨t,rfl⟩:=q;exact EqAt.none_int b t|str b=>obtain⟨t,rfl⟩:=q;exact EqAt.none_str b t|tup ys=>obtain⟨a,aC,rfl,hl,_⟩:=q;exact EqAt.none_tuple hl (room_here hu)|pl ys=>obtain⟨a,aC,rfl,hl,_⟩:=q;exact EqAt.none_list hl (room_here hu)
 |.bl x,y,A,s,u,v,p,q,hu=>by cases (show u=.bool x from p);cases y with|bu=>cases (show v=.none from q);exact EqAt.bool_none x|bl b=>cases (show v=.bool b from q);exact EqAt.bool_bool x b|int b=>obtain⟨t,rfl⟩:=q;exact EqAt.bool_int x b t|str b=>obtain⟨t,rfl⟩:=q;exact EqAt.bool_str x b t|tup ys=>obtain⟨a,aC,rfl,hl,_⟩:=q;exact EqAt.bool_tuple x hl (room_here hu)|pl ys=>obtain⟨a,aC,rfl,hl,_⟩:=q;exact EqAt.bool_list x hl (room_here hu)
 |.int x,y,A,s,u,v,p,q,hu=>by obtain⟨t0,rfl⟩:=p;cases y with|bu=>cases (show v=.none from q);exact EqAt.int_none x t0|bl b=>cases (show v=.bool b from q);exact EqAt.int_bool x t0 b|int b=>obtain⟨t,rfl⟩:=q;exact EqAt.int_int x t0 b t|str b=>obtain⟨t,rfl⟩:=q;exact EqAt.int_str x t0 b t|tup ys=>obtain⟨a,aC,rfl,hl,_⟩:=q;exact EqAt.int_tuple x t0 hl (room_here hu)|pl ys=>obtain⟨a,aC,rfl,hl,_⟩:=q;exact EqAt.int_list x t0 hl (room_here hu)
 |.str x,y,A,s,u,v,p,q,hu=>by obtain⟨t0,rfl⟩:=p;cases y with|bu=>cases (show v=.none from q);exact EqAt.str_none x t0|bl b=>cases (show v=.bool b from q);exact EqAt.str_bool x t0 b|int b=>obtain⟨t,rfl⟩:=q;exact EqAt.str_int x t0 b t|str b=>obtain⟨t,rfl⟩:=q;exact EqAt.str_str x t0 b t|tup ys=>obtain⟨a,aC,rfl,hl,_⟩:=q;exact EqAt.str_tuple x t0 hl (room_here hu)|pl ys=>obtain⟨a,aC,rfl,hl,_⟩:=q;exact EqAt.str_list x t0 hl (room_here hu)
 |.tup xs,y,A,s,u,v,p,q,hu=>by
  obtain⟨a,aC,rfl,hl,rs⟩:=p;cases y with
  |bu=>cases (show v=.none from q);exact EqAt.tuple_none hl (room_here hu)|bl b=>cases (show v=.bool b from q);exact EqAt.tuple_bool b hl (room_here hu)|int b=>obtain⟨t,rfl⟩:=q;exact EqAt.tuple_int b t hl (room_here hu)|str b=>obtain⟨t,rfl⟩:=q;exact EqAt.tuple_str b t hl (room_here hu)|pl ys=>obtain⟨b,its',rfl,jw,_⟩:=q;exact EqAt.tuple_list hl jw (room_here hu)|tup ys=>
   obtain⟨b,its',rfl,jw,qO⟩:=q;have n1:aC.toArray.size=xs.length:=by rw[P9];exact rs.length
   have n2:its'.toArray.size=ys.length:=by rw[P9];exact qO.length
   have he:∀j (j1:j < aC.toArray.size) (j2:j < its'.toArray.size),EqAt A.in1 s aC.toArray[j] its'.toArray[j] (pairD xs ys j):=λj j1 j2=>by have:=tK xs ys A.in1 s aC its' rs qO (room_in hu) j (by simpa using j1) (by simpa using j2);simpa using this
   show EqAt A s (.ref a) (.ref b) (fL xs ys);by_cases HL:a=b
   ·subst HL;have e2:aC=its':=by simpa using lM hl jw
    subst e2;rw[oG.self rs qO];exact EqAt.same _
   ·rw[<-jW xs ys,<-n1,<-n2];exact EqAt.of_refs HL (RcAt.tuples hl jw (room_here hu) he)
 |.pl xs,y,A,s,u,v,p,q,hu=>by
  obtain⟨a,aC,rfl,hl,rs⟩:=p;cases y with
  |bu=>cases (show v=.none from q);exact EqAt.list_none hl (room_here hu)|bl b=>cases (show v=.bool b from q);exact EqAt.list_bool b hl (room_here hu)|int b=>obtain⟨t,rfl⟩:=q;exact EqAt.list_int b t hl (room_here hu)|str b=>obtain⟨t,rfl⟩:=q;exact EqAt.list_str b t hl (room_here hu)|tup ys=>obtain⟨b,its',rfl,jw,_⟩:=q;exact EqAt.list_tuple hl jw (room_here hu)|pl ys=>
   obtain⟨b,its',rfl,jw,qO⟩:=q;have n1:aC.toArray.size=xs.length:=by rw[P9];exact rs.length
   have n2:its'.toArray.size=ys.length:=by rw[P9];exact qO.length
   have he:∀j (j1:j < aC.toArray.size) (j2:j < its'.toArray.size),EqAt A.in1 s aC.toArray[j] its'.toArray[j] (pairD xs ys j):=λj j1 j2=>by have:=tK xs ys A.in1 s aC its' rs qO (room_in hu) j (by simpa using j1) (by simpa using j2);simpa using this
   show EqAt A s (.ref a) (.ref b) (fL xs ys);by_cases HL:a=b
   ·subst HL;have e2:aC=its':=by simpa using nN hl jw
    subst e2;rw[oG.self rs qO];exact EqAt.same _
   ·by_cases hsz:aC.toArray.size=its'.toArray.size;·rw[<-tJ (by lia:xs.length=ys.length),<-n1];exact EqAt.of_refs HL (RcAt.lists hl jw hsz (room_here hu) he)
    ·rw[nO (by lia:xs.length≠ys.length)];exact EqAt.of_refs HL (RcAt.lists_lengths hl jw (by simpa using hsz) (room_here hu))
theorem tK:∀(xs ys:List D) (A:QY) (s:Qd) (us vs:List Value),oG s.heap xs us->oG s.heap ys vs->A.units+min (tm xs) (tm ys) < cLine->
  ∀j (h1:j < us.length) (h2:j < vs.length),EqAt A s us[j] vs[j] (pairD xs ys j)
 |[],_,_,_,us,_,ra,_,_,j,h1,_=>by cases (show us=[] from ra);exact absurd h1 (Nat.not_lt_zero _)|_::_,[],_,_,_,vs,_,rb,_,j,_,h2=>by cases (show vs=[] from rb);exact absurd h2 (Nat.not_lt_zero _)|x::xs,y::ys,A,s,us,vs,ra,rb,hu,j,h1,h2=>by obtain⟨u,r,rfl,p1,p2⟩:=(show ∃u r,us=u::r/\RH s.heap x u/\oG s.heap xs r from ra);obtain⟨v,r',rfl,q1,q2⟩:=(show ∃u r,vs=u::r/\RH s.heap y u/\oG s.heap ys r from rb);cases j with|zero=>exact OA x y A s u v p1 q1 (room_head hu)|succ j=>exact tK xs ys A s r r' p2 q2 (room_tail hu) j (Nat.lt_of_succ_lt_succ h1) (Nat.lt_of_succ_lt_succ h2)
end
end
section
variable{X:Cx}{η:List (Addr×Obj)}{σ:St}{H:Hp}{s:Qd}{m Z:List Addr}
mutual
theorem aI.rh(I:Inv X η σ H s):∀{x:D} {v:V} {u:Value},aI (ae X kt) H m Z x v->RelV v u->RH s.heap x u
 |.bu,v,u,p,r=>by cases (show v=.bu from p);exact r|.bl b,v,u,p,r=>by cases (show v=.bl b from p);exact r|.int b,v,u,p,r=>by cases (show v=.int b from p);exact r|.str b,v,u,p,r=>by cases (show v=.str b from p);exact r|.tup xs,v,u,p,r=>by obtain⟨a,us,rfl,q,rs⟩:=(show ∃a us,v=.ref a/\H a=Δ (.tup us)/\aj (ae X kt) H m Z xs us from p);cases (show u=.ref a from r);obtain⟨aC,rv,ht,_⟩:=I.tuple (de.of q);exact⟨a,aC,rfl,ht,aj.rh I rs rv⟩
 |.pl xs,v,u,p,r=>by obtain⟨a,us,rfl,q,_,_,rs⟩:=(show ∃a us,v=.ref a/\Rd H a (.lst us)/\a∉m/\a∉Z/\aj (ae X kt) H m Z xs us from p);cases (show u=.ref a from r);obtain⟨aC,rv,ht,_⟩:=I.list (.inl q);exact⟨a,aC,rfl,ht.isList,aj.rh I rs rv⟩
theorem aj.rh(I:Inv X η σ H s):∀{xs:List D} {vs:List V} {us:List Value},aj (ae X kt) H m Z xs vs->aM vs us->oG s.heap xs us
 |[],vs,us,p,r=>by cases (show vs=[] from p);cases r;rfl|x::xs,vs,us,p,r=>by obtain⟨v,w',rfl,p1,p2⟩:=(show ∃v w',vs=v::w'/\aI (ae X kt) H m Z x v/\aj (ae X kt) H m Z xs w' from p);cases r with|cons r1 r2=>exact⟨_,_,rfl,aI.rh I p1 r1,aj.rh I p2 r2⟩
end
theorem FT(hu:X.A.units+100 < cLine):gI X (QZ .Eq) (λv u H Q=>∃m Z x y k,aI (ae X kt) H m Z x v/\aI (ae X kt) H m Z y u/\pN x y=Δ k/\Q (.bl k) H):=by
 intro η s σ H v u a b Q I rx ry h;obtain⟨m,Z,x,y,k,p,q,e,hq⟩:=h;unfold pN at e;split at e;·rename_i hd;cases e;exact(Kg x y X.A s a b (p.rh I rx) (q.rh I ry) (by lia)).1 X.prog X.w X.xe _ ⟨.bl (qJ x y),H,I,rfl,hq⟩
 ·cases e
theorem FU(hu:X.A.units+100 < cLine):gI X (QZ .NotEq) (λv u H Q=>∃m Z x y k,aI (ae X kt) H m Z x v/\aI (ae X kt) H m Z y u/\pN x y=Δ k/\Q (.bl (!k)) H):=by
 intro η s σ H v u a b Q I rx ry h;obtain⟨m,Z,x,y,k,p,q,e,hq⟩:=h;unfold pN at e;split at e;·rename_i hd;cases e;exact(Kg x y X.A s a b (p.rh I rx) (q.rh I ry) (by lia)).2 X.prog X.w X.xe _ ⟨.bl (!qJ x y),H,I,rfl,hq⟩
 ·cases e
end
end Y
namespace Y
open PySem L2 PySem.Spec PyProof.Rows
structure G where
 N:List Str
 names:List (Str×R7)
 fns:List (Str×Nat)
 cV:List (Str×Int)
 tabs:List (Str×List (Str×Int))
 Kh:Nat->R4->Expr->Scope->Pos->Bool:=λ_ _ _ _ _=>Ξ
 Ki:Nat->Nat->Str->R4->List Stmt->Scope->Pos->Bool:=λ_ _ _ _ _ _ _=>Ξ
 DZ:Nat->Str->Nat->List (Nat×List Nat)->Bool:=λ_ _ _ _=>Ξ
 Kj:Nat->Str->List (Nat×List Nat)->Bool:=λ_ _ _=>Ξ
 lN:Str->Str->Bool:=λ_ _=>Ξ
 mr:Nat->Str->Str->Nat->Bool:=λ_ _ _ _=>Ξ
 mv:Nat->Str->Nat->Bool:=λ_ _ _=>Ξ
 cv:Bool:=Λ
def notStar(e:Expr):Bool:=e.ctorIdx !=22
def G.qP(g:G)(x:Str):Bool:=match g.names.lookup x with|some .local=>Λ|some .cell=>Λ|some .free=>Λ|_=>Ξ
noncomputable def G.gl(g:G)(x:Str):Bool:=decide (g.names.lookup x=Δ .globalImplicit)
noncomputable def aO(x:Str):Bool:=!(x==("__debug__":Str))&&!(x==("__classdict__":Str))&&!(x==("__name__":Str))
noncomputable def wR:J6->Operator
 |.add=>.Add|.sub=>.Sub|.mul=>.Mult|.mod=>.Mod|.fdiv=>.FloorDiv
noncomputable def gJ:DY->CmpOp
 |.lt=>.Lt|.le=>.LtE|.gt=>.Gt|.ge=>.GtE|.eq=>.Eq|.ne=>.NotEq|.isin=>.In|.sX=>.NotIn
noncomputable def qQ:Bf->Str
 |.len=>"len"|.any=>"any"|.str=>"str"|.tuple=>"tuple"
def iA:List String:=["int","bool","tuple","str","list"]
def qR(e:Expr):Bool:=e.ctorIdx==26
noncomputable def jl(e:Expr):Bool:=e.ctorIdx==8||e.ctorIdx==9||e.ctorIdx==10
def b8(e:Expr):Bool:=e.ctorIdx==7
def Cu(g:G)(ts:Nat)(N:List Str)(js:List Nat)(sc:Scope):Bool:=
 decide (sc.kind=.function)&&decide (N.length=ts+js.length)&&
 sc.names.all (λx=>decide (x.2≠.cell)&&(decide (x.2≠.local)||decide (sc.names.lookup x.1=Δ .local))&&(decide (x.2≠.free)||(decide (g.names.lookup x.1=Δ .cell)||decide (g.names.lookup x.1=Δ .free))))&&
 (Rq js.length).all (λi=>match N[ts+i]?,js[i]? with
  |some y,Δ j=>decide (g.N[j]?=Δ y)&&decide (sc.names.lookup y=Δ .free)
  |_,_=>Λ)
noncomputable def eJ(g:G)(x:Str)(js:List Nat):List Str:=x::js.map λj=>(g.N[j]?).getD "?"
def G.inner(g:G)(N:List Str)(sc:Scope):G:={N:=N,names:=sc.names,fns:=g.fns,cV:=g.cV,tabs:=g.tabs,cv:=g.cv,lN:=g.lN,mr:=g.mr,mv:=g.mv}
theorem fi{c:Prop}[Decidable c]{a:c->Bool}{g:Prop}(hi:¬c)(h:(if q:c then a q else Ξ)=Λ):g:=by rw[dif_neg hi] at h;exact ft h
noncomputable def aU{α:Type}(l:List α)(k:α->List α->Bool):Bool:=match l with|x::r=>k x r|[]=>Ξ
@[elab_as_elim] theorem aH{α:Type}{P:List α->Prop}{l:List α}{k:α->List α->Bool}(h:aU l k=Λ)(c:∀x r,k x r=Λ->P (x::r)):P l:=by cases l<;>first|exact c _ _ h|exact ft h
noncomputable def nP{α:Type}(l:Option α)(k:α->Bool):Bool:=match l with|some x=>k x|none=>Ξ
@[elab_as_elim] theorem jX{α:Type}{P:Option α->Prop}{l:Option α}{k:α->Bool}(h:nP l k=Λ)(c:∀x,k x=Λ->P (Δ x)):P l:=by cases l<;>first|exact c _ h|exact ft h
noncomputable def AD(l:Uv)(k:Expr->Expr->List Expr->Int->Bool):Bool:=k l.target l.iter l.ifs l.is_async
@[elab_as_elim] theorem mw{P:Uv->Prop}{l:Uv}{k:Expr->Expr->List Expr->Int->Bool}(h:AD l k=Λ)(c:∀a b d e,k a b d e=Λ->P ⟨a,b,d,e⟩):P l:=by cases l;exact c _ _ _ _ h
noncomputable def fX(e:Stmt)(k:(List Expr)->Expr->Pos->Bool):Bool:=if h:e.ctorIdx=5 then @Stmt.Assign.elim (λ_=>Bool) e h k else Ξ
noncomputable def bH(e:Expr)(k:Expr->Str->Pos->Bool):Bool:=if h:e.ctorIdx=20 then @Expr.Attribute.elim (λ_=>Bool) e h k else Ξ
noncomputable def qS(e:Expr)(k:Expr->Operator->Expr->Pos->Bool):Bool:=if h:e.ctorIdx=2 then @Expr.BinOp.elim (λ_=>Bool) e h k else Ξ
noncomputable def jY(e:Expr)(k:BoolOp->(List Expr)->Pos->Bool):Bool:=if h:e.ctorIdx=0 then @Expr.BoolOp.elim (λ_=>Bool) e h k else Ξ
noncomputable def bJ(e:Expr)(k:Expr->(List Expr)->(List Um)->Pos->Bool):Bool:=if h:e.ctorIdx=16 then @Expr.Call.elim (λ_=>Bool) e h k else Ξ
noncomputable def iB(e:Expr)(k:Expr->(List CmpOp)->(List Expr)->Pos->Bool):Bool:=if h:e.ctorIdx=15 then @Expr.Compare.elim (λ_=>Bool) e h k else Ξ
noncomputable def gz(e:Expr)(k:Const->Nat->Pos->Bool):Bool:=if h:e.ctorIdx=19 then @Expr.Constant.elim (λ_=>Bool) e h k else Ξ
noncomputable def qT(e:Expr)(k:(List (Option Expr))->(List Expr)->Pos->Bool):Bool:=if h:e.ctorIdx=6 then @Expr.Dict.elim (λ_=>Bool) e h k else Ξ
noncomputable def mx(e:Stmt)(k:Expr->Pos->Bool):Bool:=if h:e.ctorIdx=24 then @Stmt.Expr.elim (λ_=>Bool) e h k else Ξ
noncomputable def kY(e:Stmt)(k:Expr->Expr->(List Stmt)->(List Stmt)->Pos->Bool):Bool:=if h:e.ctorIdx=9 then @Stmt.For.elim (λ_=>Bool) e h k else Ξ
noncomputable def fj(e:Stmt)(k:Str->R4->(List Stmt)->(List Expr)->(Option Expr)->(List TypeParam)->Scope->(Option Scope)->Str->Pos->Bool):Bool:=if h:e.ctorIdx=0 then @Stmt.FunctionDef.elim (λ_=>Bool) e h k else Ξ
noncomputable def qU(e:Expr)(k:Expr->Expr->Expr->Pos->Bool):Bool:=if h:e.ctorIdx=5 then @Expr.IfExp.elim (λ_=>Bool) e h k else Ξ
noncomputable def AE(e:Stmt)(k:Expr->(List Stmt)->(List Stmt)->Pos->Bool):Bool:=if h:e.ctorIdx=12 then @Stmt.If.elim (λ_=>Bool) e h k else Ξ
noncomputable def nQ(e:Expr)(k:R4->Expr->Scope->Pos->Bool):Bool:=if h:e.ctorIdx=4 then @Expr.Lambda.elim (λ_=>Bool) e h k else Ξ
noncomputable def vM(e:Expr)(k:(List Expr)->Pos->Bool):Bool:=if h:e.ctorIdx=24 then @Expr.List.elim (λ_=>Bool) e h k else Ξ
noncomputable def gA(e:Expr)(k:Expr->(List Uv)->Scope->Pos->Bool):Bool:=if h:e.ctorIdx=8 then @Expr.ListComp.elim (λ_=>Bool) e h k else Ξ
noncomputable def bb(e:Expr)(k:Str->Pos->Bool):Bool:=if h:e.ctorIdx=23 then @Expr.Name.elim (λ_=>Bool) e h k else Ξ
noncomputable def iC(e:Stmt)(k:(Option Expr)->Pos->Bool):Bool:=if h:e.ctorIdx=3 then @Stmt.Return.elim (λ_=>Bool) e h k else Ξ
noncomputable def my(e:Expr)(k:(Option Expr)->(Option Expr)->(Option Expr)->Pos->Bool):Bool:=if h:e.ctorIdx=26 then @Expr.Slice.elim (λ_=>Bool) e h k else Ξ
noncomputable def cY(e:Expr)(k:Expr->Expr->Pos->Bool):Bool:=if h:e.ctorIdx=21 then @Expr.Subscript.elim (λ_=>Bool) e h k else Ξ
noncomputable def mz(e:Expr)(k:(List Expr)->Nat->Pos->Bool):Bool:=if h:e.ctorIdx=25 then @Expr.Tuple.elim (λ_=>Bool) e h k else Ξ
noncomputable def fY(e:Expr)(k:UnaryOp->Expr->Pos->Bool):Bool:=if h:e.ctorIdx=3 then @Expr.UnaryOp.elim (λ_=>Bool) e h k else Ξ
noncomputable def nR(e:Stmt)(k:Expr->(List Stmt)->(List Stmt)->Pos->Bool):Bool:=if h:e.ctorIdx=11 then @Stmt.While.elim (λ_=>Bool) e h k else Ξ
section
variable{P:Expr->Prop}{e:Expr}
@[elab_as_elim] theorem bD{k}(h:bH e k=Λ)(c:∀x1 x2 x3,k x1 x2 x3=Λ->P (.Attribute x1 x2 x3)):P e:=if i:e.ctorIdx=20 then @Expr.Attribute.elim (λe=>bH e k=Λ->P e) e i c h else fi i h
@[elab_as_elim] theorem yz{k}(h:qS e k=Λ)(c:∀x1 x2 x3 x4,k x1 x2 x3 x4=Λ->P (.BinOp x1 x2 x3 x4)):P e:=if i:e.ctorIdx=2 then @Expr.BinOp.elim (λe=>qS e k=Λ->P e) e i c h else fi i h
@[elab_as_elim] theorem nS{k}(h:jY e k=Λ)(c:∀x1 x2 x3,k x1 x2 x3=Λ->P (.BoolOp x1 x2 x3)):P e:=if i:e.ctorIdx=0 then @Expr.BoolOp.elim (λe=>jY e k=Λ->P e) e i c h else fi i h
@[elab_as_elim] theorem aP{k}(h:bJ e k=Λ)(c:∀x1 x2 x3 x4,k x1 x2 x3 x4=Λ->P (.Call x1 x2 x3 x4)):P e:=if i:e.ctorIdx=16 then @Expr.Call.elim (λe=>bJ e k=Λ->P e) e i c h else fi i h
@[elab_as_elim] theorem lO{k}(h:iB e k=Λ)(c:∀x1 x2 x3 x4,k x1 x2 x3 x4=Λ->P (.Compare x1 x2 x3 x4)):P e:=if i:e.ctorIdx=15 then @Expr.Compare.elim (λe=>iB e k=Λ->P e) e i c h else fi i h
@[elab_as_elim] theorem gD{k}(h:gz e k=Λ)(c:∀x1 x2 x3,k x1 x2 x3=Λ->P (.Constant x1 x2 x3)):P e:=if i:e.ctorIdx=19 then @Expr.Constant.elim (λe=>gz e k=Λ->P e) e i c h else fi i h
@[elab_as_elim] theorem tM{k}(h:qT e k=Λ)(c:∀x1 x2 x3,k x1 x2 x3=Λ->P (.Dict x1 x2 x3)):P e:=if i:e.ctorIdx=6 then @Expr.Dict.elim (λe=>qT e k=Λ->P e) e i c h else fi i h
@[elab_as_elim] theorem yA{k}(h:qU e k=Λ)(c:∀x1 x2 x3 x4,k x1 x2 x3 x4=Λ->P (.IfExp x1 x2 x3 x4)):P e:=if i:e.ctorIdx=5 then @Expr.IfExp.elim (λe=>qU e k=Λ->P e) e i c h else fi i h
@[elab_as_elim] theorem vN{k}(h:nQ e k=Λ)(c:∀x1 x2 x3 x4,k x1 x2 x3 x4=Λ->P (.Lambda x1 x2 x3 x4)):P e:=if i:e.ctorIdx=4 then @Expr.Lambda.elim (λe=>nQ e k=Λ->P e) e i c h else fi i h
@[elab_as_elim] theorem tN{k}(h:vM e k=Λ)(c:∀x1 x2,k x1 x2=Λ->P (.List x1 x2)):P e:=if i:e.ctorIdx=24 then @Expr.List.elim (λe=>vM e k=Λ->P e) e i c h else fi i h
@[elab_as_elim] theorem eQ{k}(h:gA e k=Λ)(c:∀x1 x2 x3 x4,k x1 x2 x3 x4=Λ->P (.ListComp x1 x2 x3 x4)):P e:=if i:e.ctorIdx=8 then @Expr.ListComp.elim (λe=>gA e k=Λ->P e) e i c h else fi i h
@[elab_as_elim] theorem aK{k}(h:bb e k=Λ)(c:∀x1 x2,k x1 x2=Λ->P (.Name x1 x2)):P e:=if i:e.ctorIdx=23 then @Expr.Name.elim (λe=>bb e k=Λ->P e) e i c h else fi i h
@[elab_as_elim] theorem p4{k}(h:my e k=Λ)(c:∀x1 x2 x3 x4,k x1 x2 x3 x4=Λ->P (.Slice x1 x2 x3 x4)):P e:=if i:e.ctorIdx=26 then @Expr.Slice.elim (λe=>my e k=Λ->P e) e i c h else fi i h
@[elab_as_elim] theorem dQ{k}(h:cY e k=Λ)(c:∀x1 x2 x3,k x1 x2 x3=Λ->P (.Subscript x1 x2 x3)):P e:=if i:e.ctorIdx=21 then @Expr.Subscript.elim (λe=>cY e k=Λ->P e) e i c h else fi i h
@[elab_as_elim] theorem kZ{k}(h:mz e k=Λ)(c:∀x1 x2 x3,k x1 x2 x3=Λ->P (.Tuple x1 x2 x3)):P e:=if i:e.ctorIdx=25 then @Expr.Tuple.elim (λe=>mz e k=Λ->P e) e i c h else fi i h
@[elab_as_elim] theorem hU{k}(h:fY e k=Λ)(c:∀x1 x2 x3,k x1 x2 x3=Λ->P (.UnaryOp x1 x2 x3)):P e:=if i:e.ctorIdx=3 then @Expr.UnaryOp.elim (λe=>fY e k=Λ->P e) e i c h else fi i h
end
section
variable{P:Stmt->Prop}{e:Stmt}
@[elab_as_elim] theorem hW{k}(h:fX e k=Λ)(c:∀x1 x2 x3,k x1 x2 x3=Λ->P (.Assign x1 x2 x3)):P e:=if i:e.ctorIdx=5 then @Stmt.Assign.elim (λe=>fX e k=Λ->P e) e i c h else fi i h
@[elab_as_elim] theorem p5{k}(h:mx e k=Λ)(c:∀x1 x2,k x1 x2=Λ->P (.Expr x1 x2)):P e:=if i:e.ctorIdx=24 then @Stmt.Expr.elim (λe=>mx e k=Λ->P e) e i c h else fi i h
@[elab_as_elim] theorem jZ{k}(h:kY e k=Λ)(c:∀x1 x2 x3 x4 x5,k x1 x2 x3 x4 x5=Λ->P (.For x1 x2 x3 x4 x5)):P e:=if i:e.ctorIdx=9 then @Stmt.For.elim (λe=>kY e k=Λ->P e) e i c h else fi i h
@[elab_as_elim] theorem k7{k}(h:fj e k=Λ)(c:∀x1 x2 x3 x4 x5 x6 x7 x8 x9 x10,k x1 x2 x3 x4 x5 x6 x7 x8 x9 x10=Λ->P (.FunctionDef x1 x2 x3 x4 x5 x6 x7 x8 x9 x10)):P e:=if i:e.ctorIdx=0 then @Stmt.FunctionDef.elim (λe=>fj e k=Λ->P e) e i c h else fi i h
@[elab_as_elim] theorem Cv{k}(h:AE e k=Λ)(c:∀x1 x2 x3 x4,k x1 x2 x3 x4=Λ->P (.If x1 x2 x3 x4)):P e:=if i:e.ctorIdx=12 then @Stmt.If.elim (λe=>AE e k=Λ->P e) e i c h else fi i h
@[elab_as_elim] theorem lQ{k}(h:iC e k=Λ)(c:∀x1 x2,k x1 x2=Λ->P (.Return x1 x2)):P e:=if i:e.ctorIdx=3 then @Stmt.Return.elim (λe=>iC e k=Λ->P e) e i c h else fi i h
@[elab_as_elim] theorem vO{k}(h:nR e k=Λ)(c:∀x1 x2 x3 x4,k x1 x2 x3 x4=Λ->P (.While x1 x2 x3 x4)):P e:=if i:e.ctorIdx=11 then @Stmt.While.elim (λe=>nR e k=Λ->P e) e i c h else fi i h
end
def isCall(e:Expr):Bool:=bJ e λf xs ks _=>bb f λ_ _=>xs.isEmpty&&ks.isEmpty
def Kk(e:Expr):Bool:=fY e λop c _=>gz c λk _ _=>decide (op=.USub)&&decide (k=.int 1)
def vP:W->Bool
 |.enum _=>Λ|_=>Ξ
noncomputable def OB:D->Const->Bool
 |.int i,c=>decide (c=.int i)|.bl i,c=>decide (c=.bool i)|.bu,c=>decide (c=.none)|.str i,c=>decide (c=.str i)|_,_=>Ξ
def tP(d:D)(e:Expr):Bool:=gz e λc _ _=>OB d c
def glB(g:G):D->Str->Bool
 |.int i,x=>g.gl x&&decide (g.cV.lookup x=Δ i)&&aO x|_,_=>Ξ
def wU(g:G)(k:E)(e:Expr):Bool:=match k with|.var i=>bb e λx _=>decide (g.N[i]?=Δ x)&&g.qP x&&aO x|.cst d=>tP d e|_=>Ξ
mutual
def di(g:G):E->Expr->Bool
 |.var i=>λe=>bb e λx _=>decide (g.N[i]?=Δ x)&&g.qP x&&aO x|.cst d=>λe=>tP d e||bb e λx _=>glB g d x
 |.op o a b=>λe=>qS e λx p y _=>decide (p=wR o)&&di g a x&&di g b y|.neg a=>λe=>fY e λop x _=>decide (op=.USub)&&di g a x|.not a=>λe=>fY e λop x _=>decide (op=.Not)&&di g a x|.cmp o a b=>λe=>iB e λx ops ys _=>aU ops λp r=>aU ys λy s=>r.isEmpty&&s.isEmpty&&decide (p=gJ o)&&di g a x&&di g b y&&!b8 y|.chain o o' a b c=>λe=>iB e λx ops ys _=>aU ops λp r=>aU r λq r'=>aU ys λy s=>aU s λz s'=>r'.isEmpty&&s'.isEmpty&&decide (p=gJ o)&&decide (q=gJ o')&&di g a x&&di g b y&&di g c z&&!b8 y&&!b8 z|.and es=>λe=>jY e λop xs _=>decide (op=.And)&&dY g es xs|.or es=>λe=>jY e λop xs _=>decide (op=.Or)&&dY g es xs|.ite c a b=>λe=>qU e λx y z _=>di g c x&&di g a y&&di g b z|.tup es=>λe=>mz e λxs _ _=>dY g es xs|.lst _ l=>λe=>DZ g l e|.call f es=>λe=>bJ e λf0 xs eN _=>bb f0 λx _=>eN.isEmpty&&decide (g.fns[f]?=Δ (x,es.length))&&g.gl x&&aO x&&dY g es xs|.oF a T=>λe=>bJ e λf0 xs eN _=>bb f0 λn _=>aU xs λx r=>aU r λt0 r'=>bb t0 λt _=>eN.isEmpty&&r'.isEmpty&&decide (n="isinstance")&&g.gl "isinstance"&&decide (t=Qs T)&&g.gl (Qs T)&&decide (T∈iA)&&di g a x&&notStar x|.bf f es=>λe=>bJ e λf0 xs eN _=>bb f0 λn _=>eN.isEmpty&&decide (n=qQ f)&&g.gl (qQ f)&&dY g es xs&&!xs.isEmpty|.ix a b=>λe=>cY e λx y _=>di g a x&&di g b y&&!qR y|.slice a lo hi=>λe=>cY e λx sl _=>my sl λl h s _=>s.isNone&&di g a x&&OC g lo l&&OC g hi h|.rev a=>λe=>cY e λx sl _=>my sl λl h s _=>nP s λu=>l.isNone&&h.isNone&&Kk u&&di g a x|.join a b=>λe=>bJ e λf0 xs eN cp=>bH f0 λo n ap=>aU xs λx r=>r.isEmpty&&eN.isEmpty&&(ap.endLine==cp.line)&&decide (n="join")&&!isCall o&&di g a o&&di g b x&&notStar x|.vo t a=>λe=>bJ e λf0 xs eN cp=>bH f0 λo n ap=>bb o λd _=>aU xs λx r=>r.isEmpty&&eN.isEmpty&&(ap.endLine==cp.line)&&decide (n="get")&&g.gl d&&aO d&&decide (g.tabs.lookup d=Δ t)&&di g a x&&notStar x|.Al _=>λe=>qT e λks vs _=>ks.isEmpty&&vs.isEmpty|.sY i es=>λe=>bJ e λf0 xs eN _=>bb f0 λx _=>eN.isEmpty&&decide (g.N[i]?=Δ x)&&g.qP x&&aO x&&dY g es xs&&!xs.isEmpty&&g.cv|.fV f es ls=>λe=>bJ e λf0 xs eN _=>bb f0 λx _=>eN.isEmpty&&g.DZ f x es.length ls&&g.gl x&&aO x&&dY g es xs&&!xs.isEmpty|.fc i es ls=>λe=>bJ e λf0 xs eN _=>bb f0 λx _=>eN.isEmpty&&decide (g.N[i]?=Δ x)&&g.qP x&&aO x&&g.Kj i x ls&&dY g es xs&&!xs.isEmpty|.lam k=>λe=>nQ e λparams body scope pos=>g.Kh k params body scope pos|.Am a b=>λe=>bJ e λf0 xs eN cp=>bH f0 λo n ap=>aU xs λx r=>r.isEmpty&&eN.isEmpty&&(ap.endLine==cp.line)&&decide (n="pop")&&!isCall o&&di g a o&&di g b x&&notStar x|.sZ a b c=>λe=>bJ e λf0 xs eN cp=>bH f0 λo n ap=>aU xs λx r=>aU r λy r'=>r'.isEmpty&&eN.isEmpty&&(ap.endLine==cp.line)&&decide (n="setdefault")&&!isCall o&&di g a o&&di g b x&&notStar x&&di g c y&&notStar y|.Ao k d=>λe=>qT e λks vs _=>aU ks λk0 r=>nP k0 λkx=>aU vs λv0 r'=>r.isEmpty&&r'.isEmpty&&wU g k kx&&tP d v0|.An a=>λe=>bJ e λf0 xs eN cp=>bH f0 λo n ap=>xs.isEmpty&&eN.isEmpty&&(ap.endLine==cp.line)&&decide (n="pop")&&!isCall o&&di g a o|.attr c f i=>λe=>bH e λo m _=>bb o λx _=>decide (m=f)&&g.lN c f&&decide (g.N[i]?=Δ x)&&g.qP x&&aO x|.yh k c m i es=>λe=>bJ e λf0 xs eN cp=>bH f0 λo mm ap=>bb o λx _=>eN.isEmpty&&decide (mm=m)&&g.mr k c m es.length&&decide (g.N[i]?=Δ x)&&g.qP x&&aO x&&dY g es xs&&(ap.endLine==cp.line)&&decide (xs.length < 30)|.make k c es=>λe=>bJ e λf0 xs eN _=>bb f0 λx _=>eN.isEmpty&&decide (x=c)&&g.mv k c es.length&&g.gl x&&aO x&&dY g es xs&&!xs.isEmpty
def OC(g:G):Option E->Option Expr->Bool
 |none=>λo=>o.isNone|some e=>λo=>nP o λx=>di g e x
def dY(g:G):List E->List Expr->Bool
 |[]=>λl=>l.isEmpty|e::es=>λl=>aU l λx xs=>di g e x&&notStar x&&dY g es xs
def OD(g:G):Option E->List Expr->Bool
 |none=>λl=>l.isEmpty|some c=>λl=>aU l λi r=>r.isEmpty&&di g c i
def DZ(g:G):L->Expr->Bool
 |.fe es=>λe=>vM e λxs _=>dY g es xs|.comp w ts js c e=>λe0=>gA e0 λelt gens sc _=>aU gens λge r=>AD ge λtg iter ifs a=>bb tg λx _=>r.isEmpty&&decide (ts=1)&&decide (a=0)&&OE g w iter&&!vP w&&Cu g 1 (eJ g x js) js sc&&decide (sc.names.lookup x=Δ .local)&&decide (eJ g x js).Nodup&&OD (g.inner (eJ g x js) sc) c ifs&&di (g.inner (eJ g x js) sc) e elt&&!b8 iter|.list e=>λe0=>bJ e0 λf0 xs eN _=>bb f0 λn _=>aU xs λx r=>r.isEmpty&&eN.isEmpty&&decide (n="list")&&g.gl "list"&&di g e x&&notStar x|.keys e=>λe0=>bJ e0 λf0 xs eN _=>bb f0 λn _=>aU xs λx r=>r.isEmpty&&eN.isEmpty&&decide (n="list")&&g.gl "list"&&di g e x&&notStar x|.jx es=>λe0=>bJ e0 λf0 ys eN _=>bb f0 λn _=>aU ys λy r=>bJ y λf1 xs FV _=>bb f1 λn1 _=>r.isEmpty&&eN.isEmpty&&FV.isEmpty&&decide (n="list")&&g.gl "list"&&decide (n1="range")&&g.gl "range"&&dY g es xs|.zip a b=>λe0=>bJ e0 λf0 ys eN _=>bb f0 λn _=>aU ys λy r=>bJ y λf1 xs FV _=>bb f1 λn1 _=>aU xs λx1 r1=>aU r1 λx2 r2=>r.isEmpty&&r2.isEmpty&&eN.isEmpty&&FV.isEmpty&&decide (n="list")&&g.gl "list"&&decide (n1="zip")&&g.gl "zip"&&di g a x1&&notStar x1&&di g b x2&&notStar x2|.cj e js c ee=>λe0=>gA e0 λelt gens sc _=>aU gens λge r=>AD ge λtg iter ifs a=>bb tg λx _=>r.isEmpty&&decide (a=0)&&di g e iter&&Cu g 1 (eJ g x js) js sc&&decide (sc.names.lookup x=Δ .local)&&decide (eJ g x js).Nodup&&OD (g.inner (eJ g x js) sc) c ifs&&di (g.inner (eJ g x js) sc) ee elt&&!b8 iter
def OE(g:G):W->Expr->Bool
 |.ex e=>λx=>di g e x&&!b8 x|.jx es=>λx=>bJ x λf0 xs eN _=>bb f0 λn _=>eN.isEmpty&&decide (n="range")&&g.gl "range"&&dY g es xs|.enum e=>λx=>bJ x λf0 xs eN _=>bb f0 λn _=>aU xs λy r=>r.isEmpty&&eN.isEmpty&&decide (n="enumerate")&&g.gl "enumerate"&&di g e y&&notStar y
end
theorem Cw(h:Kk e=Λ):∃k p1 p2,e=.UnaryOp .USub (.Constant (.int 1) k p1) p2:=by refine hU h λ_ _ _ h=>?_;refine gD h λ_ _ _ h=>?_;simp only[PZ,qqq] at h;obtain⟨rfl,rfl⟩:=h;exact⟨_,_,_,rfl⟩
def qV(K:KB)(c:List P->aR->R P)(n:Nat):Sp:=λvs H Q _=>∃m Z qs st,vs.length=n/\ag K H m Z qs vs/\ay K H m Z st/\Ok K Z (c qs st) m H (λp _ m' H'=>∀v,ai K H' m' Z p v->Q v H')
structure nT(X:Cx)(kt:KT)(c:List P->aR->R P)(x:Str)(n:Nat):Prop where
 ex:∃(k:Nat) (f:Addr) (fd:QX) (ps:List Str),cz X.prog X.w X.K X.mg X.base ju k f fd ps (qV (ae X kt) c n)/\
  cb k X.A/\X.mg x=Δ (.ref f)/\Sh X.K (.ref f)=Λ/\Binds X.K fd ps []
noncomputable def nU:List Str:=["len","min","max","all","any","sum","str","tuple","list","int","bool","isinstance","range","zip","enumerate","sorted"]
def Kl(K:KB)(c:List P->aR->R P)(cd:Addr)(q:Str)(bN:List V):Sp:=λvs H Q _=>H cd=Δ (.ext (cJ cd q))/\∃m Z qs bx st,ag K H m Z qs vs/\ag K H m Z bx bN/\ay K H m Z st/\Ok K Z (c (qs++bx) st) m H (λp _ m' H'=>∀v,ai K H' m' Z p v->Q v H')
structure wV(X:Cx)(kt:KT)(C:Nat->List P->aR->R P)(k:Nat)(a c:Addr)(bN:List V):Prop where
 ob:∃oc od fd sl,X.base.get? a=Δ ⟨oc,od,.func fd,sl⟩
 ex:∃(n:Nat) (fd:QX) (ps:List Str),cz X.prog X.w X.K X.mg X.base ju n a fd ps (Kl (ae X kt) (C k) c (kt.tH k) bN)/\cb n X.A/\Binds X.K fd ps []
structure Good(X:Cx)(kt:KT)(g:G)(C:Nat->List P->aR->R P):Prop where
 N:X.N=g.N
 loc:∀x,g.names.lookup x=Δ .local->X.env.scope.names.lookup x=Δ .local
 zQ:∀x,(g.names.lookup x=Δ .cell\/g.names.lookup x=Δ .free)->(X.env.scope.names.lookup x=Δ .cell\/X.env.scope.names.lookup x=Δ .free)
 gl:∀x,g.names.lookup x=Δ .globalImplicit->X.env.scope.names.lookup x=Δ .globalImplicit
 calm:X.calm=Λ
 hu:X.A.units+100 < cLine
 bl:∀x∈nU,X.mg x=Θ
 fn:∀(k:Nat) (x:Str) (n:Nat),g.fns[k]?=Δ (x,n)->nT X kt (C k) x n
 cs:∀x i,g.cV.lookup x=Δ i->∃t,X.mg x=Δ (.int i t)
 tb:∀x t,g.tabs.lookup x=Δ t->∃a,X.mg x=Δ (.ref a)/\zD X.K a t
 fld:∀c f,g.lN c f=Λ->∃A,Qf X.K Qa c=Δ (Δ (.ref A))/\uw X.K A/\gn X.K A f
 FX:∀k c m n,g.mr k c m n=Λ->∃A l fa fd ps,Qf X.K Qa c=Δ (Δ (.ref A))/\uw X.K A/\uN X.K A m fa/\cz X.prog X.w X.K X.mg X.base ju l fa fd ps (qV (ae X kt) (C k) (n+1))/\cb l X.A/\Binds X.K fd ps []
 FY:∀k c n,g.mv k c n=Λ->∃A l fa fd ps,X.mg c=Δ (.ref A)/\Qf X.K Qa c=Δ (Δ (.ref A))/\Mk X.K A fa/\cz X.prog X.w X.K X.mg X.base ju l fa fd ps (qV (ae X kt) (C k) (n+1))/\cb (l+1) X.A/\Binds X.K fd ps []
 kX:g.cv=Λ->∀k a c bN,kt.kX k a c bN->wV X kt C k a c bN
 lam:∀k params body scope pos,g.Kh k params body scope pos=Λ->∀Z,PE X (.Lambda params body scope pos) (tE (ae X kt) Z (aa C (.lam k)))
 fV:∀f x n ls,g.DZ f x n ls=Λ->∀(Z:List Addr) (e:Expr) (es:List Expr) (bT:List E) (p pos:Pos),bT.length=n->g.gl x=Λ->aO x=Λ->(∀y∈e::es,notStar y=Λ)->PA X (e::es) (tA (ae X kt) Z (aD C bT))->
  PE X (.Call (.Name x p) (e::es) [] pos) (tE (ae X kt) Z (aa C (.fV f bT ls)))
 fc:∀i x ls,g.Kj i x ls=Λ->∀(Z:List Addr) (e:Expr) (es:List Expr) (bT:List E) (p pos:Pos),g.N[i]?=Δ x->g.qP x=Λ->aO x=Λ->(∀y∈e::es,notStar y=Λ)->PA X (e::es) (tA (ae X kt) Z (aD C bT))->
  PE X (.Call (.Name x p) (e::es) [] pos) (tE (ae X kt) Z (aa C (.fc i bT ls)))
section
variable{X:Cx}{g:G}{C:Nat->List P->aR->R P}{Z:List Addr}{e:Expr}{es:List Expr}
theorem Good.qP(T:Good X kt g C)(h:g.qP x=Λ):Il X.env.scope x:=by
 unfold G.qP at h;split at h;·exact .inl (T.loc _ ‹_›)
 ·rcases T.zQ x (.inl ‹_›) with q|q;·exact .inr (.inl q)
  ·exact .inr (.inr q)
 ·rcases T.zQ x (.inr ‹_›) with q|q;·exact .inr (.inl q)
  ·exact .inr (.inr q)
 ·cases h
theorem Good.glob(T:Good X kt g C)(h:g.gl x=Λ):Gl X x:=T.gl x (of_decide_eq_true h)
theorem PE.imp(h:PE X e t)(i:∀σ H Q,t' σ H Q->t σ H Q):PE X e t':=λη s σ H Q I q=>h η s σ H Q I (i σ H Q q)
theorem PT.imp(h:PT X e t)(i:∀σ H Q,t' σ H Q->t σ H Q):PT X e t':=λη s σ H Q I q=>h η s σ H Q I (i σ H Q q)
theorem PW.imp(h:PW X e t)(i:∀σ H Q,t' σ H Q->t σ H Q):PW X e t':=λwh η s σ H Q I q=>h wh η s σ H Q I (i σ H Q q)
theorem PA.imp(h:PA X es t)(i:∀σ H Q,t' σ H Q->t σ H Q):PA X es t':=λpos η s σ H Q I q=>h pos η s σ H Q I (i σ H Q q)
theorem pn(h:aO x=Λ):(x==("__debug__":Str))=Ξ/\(x==("__classdict__":Str))=Ξ/\x≠"__name__":=by unfold aO at h;simp only[PZ,Qq] at h;exact⟨h.1.1,h.1.2,λz=>by rw[z] at h;exact absurd h.2 (by simp)⟩
theorem br(h:notStar e=Λ):Qo (e::es) env=(Ξ,eval e env)::Qo es env:=by
 cases e<;>first
  |rfl
  |exact absurd (show Ξ=Λ from h) QF
theorem tQ(T:Good X kt g C)(h1:g.N[i]?=Δ x)(h2:g.qP x=Λ)(h3:aO x=Λ):PE X (.Name x pos) (tE (ae X kt) Z (aa C (.var i))):=by
 refine PE.imp (mJ (i:=i) (by rw[T.N];exact h1) (T.qP h2) (pn h3).1 (pn h3).2.1) ?_;rintro σ H Q ⟨m,r,st,ar,as,h⟩;obtain⟨p,e,q,_⟩:=Ok.of (show Ok (ae X kt) Z (R.of (fW r i) st) m H _ from h) as;have e':r[i]?=Δ (Δ p):=by unfold fW at e;cases q:r[i]? with|none=>rw[q] at e;cases e|some o=>rw[q] at e;simp at e;rw[e]
 obtain⟨v,ev,rv⟩:=ar.at_ i p e';exact⟨v,ev,q v rv⟩
theorem tR(h:PE X e (tC v))(hr:∀H m,aI (ae X kt) H m Z x v):PE X e (tE (ae X kt) Z (aa C (.cst x))):=by refine PE.imp h ?_;rintro σ H Q ⟨m,r,st,ar,as,q⟩;exact Ok.here (show Ok (ae X kt) Z (R.ok (P.d x) st) m H _ from q) as v (hr H m)
theorem AF(h:tP d e=Λ):∃v,PE X e (tC v)/\∀K H m Z,aI K H m Z d v:=by refine gD h λc _ _ h=>?_;cases d with|int i=>obtain rfl:=of_decide_eq_true h;exact⟨_,uC,λ_ _ _ _=>rfl⟩|bl i=>obtain rfl:=of_decide_eq_true h;exact⟨_,wo,λ_ _ _ _=>rfl⟩|bu=>obtain rfl:=of_decide_eq_true h;exact⟨_,yV,λ_ _ _ _=>rfl⟩|str i=>obtain rfl:=of_decide_eq_true h;exact⟨_,uD,λ_ _ _ _=>rfl⟩|tup _=>exact ft h|pl _=>exact ft h
theorem Cy(T:Good X kt g C)(h:wU g k e=Λ):∃tk,PE X e tk/\∀{σ} {H} {m} {ρ} {st},bZ (ae X kt) H m Z ρ σ->aa C k ρ st=.no\/∃y v,aa C k ρ st=.ok y st/\ai (ae X kt) H m Z y v/\∀(Q) (H'),Q v H'->tk σ H' Q:=by
 unfold wU at h;split at h
 ·rename_i i;refine aK h λ_ _ h=>?_
  ·simp only[PZ,qqq] at h;refine⟨_,mJ (i:=i) (by rw[T.N];exact h.1.1) (T.qP h.1.2) (pn h.2).1 (pn h.2).2.1,λ{σ H m ρ st} ar=>?_⟩;rw[dJ];cases e:fW ρ i with
   |none=>exact .inl rfl|some p=>
    have e':ρ[i]?=Δ (Δ p):=by unfold fW at e;cases q:ρ[i]? with|none=>rw[q] at e;cases e|some o=>rw[q] at e;simp at e;rw[e]
    obtain⟨v,ev,rv⟩:=ar.at_ i p e';exact .inr ⟨p,v,rfl,rv,λQ H' q=>⟨v,ev,q⟩⟩
 ·rename_i d;obtain⟨v,hv,hr⟩:=AF (X:=X) h;exact⟨_,hv,λ{σ H m ρ st} ar=>.inr ⟨.d d,v,rfl,(show aI (ae X kt) H m Z d v from hr _ _ _ _),λQ H' q=>q⟩⟩
 ·cases h
theorem wW{f:Value->Value->Sem Value}{r:R2}{da db:cB->aR->R P}{k:P->P->aR->R P}{σ:L2.St}{H:Hp}{Q:VK}
  (hr:∀(x y:P) (v u:V) (m:List Addr) (H:Hp) (st:aR) (Q:VK),ay (ae X kt) H m Z st->ai (ae X kt) H m Z x v->ai (ae X kt) H m Z y u->Ok (ae X kt) Z (k x y st) m H (λp _ m' H'=>∀v,ai (ae X kt) H' m' Z p v->Q v H')->r v u H Q)
  (h:tE (ae X kt) Z (λρ st=>(da ρ st).bind λx st1=>(db ρ st1).bind λy aF=>k x y aF) σ H Q):IG r (tE (ae X kt) Z da) (tE (ae X kt) Z db) σ H Q:=by
 obtain⟨m,ρ,st,ar,as,h⟩:=h;refine⟨m,ρ,st,ar,as,(Ok.bind h).mono λx st1 m1 H1 bq aQ h1 v rv=>?_⟩;refine⟨m1,ρ,st1,ar.le bq,aQ,(Ok.bind h1).mono λy aF m2 H2 cO cL h2 u ru=>?_⟩;exact hr x y v u m2 H2 aF Q cL (rv.le cO) ru h2
theorem aj.map{K:KB}:∀{xs} {us},aj K H m Z xs us->ag K H m Z (xs.map .d) us
 |[],_,h=>h|x::xs,us,h=>by obtain⟨v,vs,e,r,rs⟩:=(show ∃v vs,us=v::vs/\aI K H m Z x v/\aj K H m Z xs vs from h);exact⟨v,vs,e,r,aj.map rs⟩
theorem ag.be{K:KB}:∀{ps} {xs} {us},ag K H m Z ps us->Y.be ps=Δ xs->aj K H m Z xs us
 |[],xs,us,h,e=>by cases e;exact h|p::ps,xs,us,h,e=>by obtain⟨v,vs,e1,r,rs⟩:=(show ∃v vs,us=v::vs/\ai K H m Z p v/\ag K H m Z ps vs from h);cases p with|obj n=>cases e|fb n=>cases e|fn k c=>cases e|lf k=>cases e|d x=>have e':(Y.be ps).map (λxs=>x::xs)=Δ xs:=e;cases q:Y.be ps with|none=>rw[q] at e';cases e'|some zs=>rw[q] at e';cases e';exact⟨v,vs,e1,r,ag.be rs q⟩
theorem ag.append{K:KB}:∀{ps qs} {us vs},ag K H m Z ps us->ag K H m Z qs vs->ag K H m Z (ps++qs) (us++vs)
 |[],_,us,_,h,h'=>by cases (show us=[] from h);exact h'|p::ps,qs,us,vs,h,h'=>by obtain⟨v,w',rfl,r,rs⟩:=(show ∃v vs,us=v::vs/\ai K H m Z p v/\ag K H m Z ps vs from h);exact⟨v,w'++vs,rfl,r,ag.append rs h'⟩
theorem aj.append{K:KB}:∀{ps qs} {us vs},aj K H m Z ps us->aj K H m Z qs vs->aj K H m Z (ps++qs) (us++vs)
 |[],_,us,_,h,h'=>by cases (show us=[] from h);exact h'|p::ps,qs,us,vs,h,h'=>by obtain⟨v,w',rfl,r,rs⟩:=(show ∃v vs,us=v::vs/\aI K H m Z p v/\aj K H m Z ps vs from h);exact⟨v,w'++vs,rfl,r,aj.append rs h'⟩
theorem aj.length{K:KB}:∀{ps} {us},aj K H m Z ps us->us.length=ps.length
 |[],us,h=>by cases (show us=[] from h);rfl|p::ps,us,h=>by obtain⟨v,w',rfl,r,rs⟩:=(show ∃v vs,us=v::vs/\aI K H m Z p v/\aj K H m Z ps vs from h);rw[Qm,Qm,aj.length rs]
theorem ag.length{K:KB}:∀{ps} {us},ag K H m Z ps us->us.length=ps.length
 |[],us,h=>by cases (show us=[] from h);rfl|p::ps,us,h=>by obtain⟨v,w',rfl,r,rs⟩:=(show ∃v vs,us=v::vs/\ai K H m Z p v/\ag K H m Z ps vs from h);rw[Qm,Qm,ag.length rs]
theorem ag.get{K:KB}:∀{ps} {us} {i:Nat} {p},ag K H m Z ps us->ps[i]?=Δ p->∃v,us[i]?=Δ v/\ai K H m Z p v
 |[],us,i,p,h,e=>by simp at e|q::ps,us,i,p,h,e=>by obtain⟨v,w',rfl,r,rs⟩:=(show ∃v vs,us=v::vs/\ai K H m Z q v/\ag K H m Z ps vs from h);cases i with|zero=>simp at e;subst e;exact⟨v,by simp,r⟩|succ i=>simpa using ag.get rs (by simpa using e)
theorem ag.drop{K:KB}:∀(n) {ps} {us},ag K H m Z ps us->ag K H m Z (ps.drop n) (us.drop n)
 |0,_,_,h=>h|n+1,[],us,h=>by cases (show us=[] from h);rfl|n+1,p::ps,us,h=>by obtain⟨v,w',rfl,r,rs⟩:=(show ∃v vs,us=v::vs/\ai K H m Z p v/\ag K H m Z ps vs from h);exact ag.drop n rs
theorem ag.take{K:KB}:∀(n) {ps} {us},ag K H m Z ps us->ag K H m Z (ps.take n) (us.take n)
 |0,_,_,_=>by simp[ag]|n+1,[],us,h=>by cases (show us=[] from h);rfl|n+1,p::ps,us,h=>by obtain⟨v,w',rfl,r,rs⟩:=(show ∃v vs,us=v::vs/\ai K H m Z p v/\ag K H m Z ps vs from h);exact⟨v,w'.take n,rfl,r,ag.take n rs⟩
theorem aj.reverse{K:KB}:∀{ps} {us},aj K H m Z ps us->aj K H m Z ps.reverse us.reverse
 |[],us,h=>by cases (show us=[] from h);rfl|p::ps,us,h=>by obtain⟨v,w',rfl,r,rs⟩:=(show ∃v vs,us=v::vs/\aI K H m Z p v/\aj K H m Z ps vs from h);rw[Tf,Tf];exact aj.append (aj.reverse rs) ⟨v,[],rfl,r,rfl⟩
theorem cC{K:KB}{st:aR}(as:ay K H m Z st)(h:cE st p=Δ ps)(r:ai K H m Z p v):∃a us,v=.ref a/\Rd H a (.lst us)/\ag K H m Z ps us:=by
 cases p with
 |d x=>cases x with|pl xs=>have e:Δ (xs.map P.d)=Δ ps:=h;cases e;obtain⟨a,us,e,q,_,_,rs⟩:=r;exact⟨a,us,e,q,rs.map⟩|_=>cases h
 |obj n=>
  obtain⟨a,e,rfl⟩:=r;have h':(match st[n]? with|some (.lst xs)=>Δ xs|_=>Θ)=Δ ps:=h;split at h';·rename_i xs hs;cases h';obtain⟨a',e',o⟩:=as.at_ n _ hs;rw[e] at e';cases e';obtain⟨us,hu,rs⟩:=o;exact⟨a,us,rfl,.inl hu,rs⟩
  ·cases h'
 |fb n=>cases h|fn k c=>cases h|lf k=>cases h
theorem tU{K:KB}:∀ns:List Int,ag K H m Z (ns.map λi=>P.d (.int i)) (ns.map V.int)
 |[]=>rfl|n::ns=>⟨_,_,rfl,rfl,tU ns⟩
theorem fZ{K:KB}{st:aR}(as:ay K H m Z st)(h:ff st p=Δ ps)(r:ai K H m Z p v):∃a us,v=.ref a/\(ir K.K H a us\/H a=Δ (.tup us))/\ag K H m Z ps us:=by
 cases p with
 |d x=>cases x with|tup xs=>have e:Δ (xs.map P.d)=Δ ps:=h;cases e;obtain⟨a,us,e,q,rs⟩:=r;exact⟨a,us,e,.inr q,rs.map⟩|pl xs=>obtain⟨a,us,e,q,rs⟩:=cC as (show cE st (.d (.pl xs))=Δ ps from h) r;exact⟨a,us,e,.inl (.inl q),rs⟩|bu=>cases h|bl b=>cases h|int b=>cases h|str b=>cases h
 |obj n=>obtain⟨a,us,e,q,rs⟩:=cC as (show cE st (.obj n)=Δ ps from h) r;exact⟨a,us,e,.inl (.inl q),rs⟩|fb n=>have e:Δ (n.map λi=>P.d (.int i))=Δ ps:=h;cases e;obtain⟨a,e,q⟩:=r;exact⟨a,_,e,.inl q.sq,tU n⟩|fn k c=>cases h|lf k=>cases h
theorem AG{K:P5}(h:ir K H a us\/H a=Δ (.tup us)):ir K H a us\/de K H a us:=h.imp_right de.of
theorem j0{K:KB}{H:Hp}{m Z:List Addr}{st:aR}{xs:List D}{us:List V}{α:Type}{Q:V->Hp->Prop}(as:ay K H m Z st)(r:aj K H m Z xs us){a:Addr}(ha:H a=Θ)
  (h:Ok K Z (R.ok (P.d (.tup xs)) st) m H (λp _ m' H'=>∀v,ai K H' m' Z p v->Q v H')):Q (.ref a) (upd H a (.tup us)):=by
 have le:Le K m H m (upd H a (.tup us)):=Le.same (aW ha _);exact h m (upd H a (.tup us)) le (as.same (aW ha _)) (.ref a) ⟨a,us,rfl,aA,r.le le⟩
theorem AH{K:KB}{st:aR}{Q:V->Hp->Prop}(as:ay K H m Z st)(r:aj K H m Z xs us)(ha:H a=Θ)(h:Ok K Z (R.ok (P.d (.pl xs)) st) m H (λp _ m' H'=>∀v,ai K H' m' Z p v->Q v H')):Q (.ref a) (upd H a (.lst us)):=by have le:Le K m H m (upd H a (.lst us)):=Le.same (aW ha _);exact h m (upd H a (.lst us)) le (as.same (aW ha _)) (.ref a) ⟨a,us,rfl,.inl aA,(as.fresh ha).1,(as.fresh ha).2,r.le le⟩
end
section
variable{X:Cx}{g:G}{C:Nat->List P->aR->R P}{Z:List Addr}{e:Expr}{es:List Expr}
theorem cG:aB=Qi:=by rw[Q0];rfl
theorem wX(h:Rd H a (.lst xs))(I:Inv X η σ H s):
  xs.length<=Qi/\∃(aC:List Value) (n:Nat),aM xs aC/\s.heap.get? a=Δ {cls:=.type "list",data:=.seq aC.toArray n}:=h.ok I.aJ
def D0:R2:=λx y H Q=>∃l b xs zs,x=.ref l/\y=.ref b/\Rd H l (.lst xs)/\Rd H b (.lst zs)/\xs.length+zs.length<=Qi/\∀p,H p=Θ->Q (.ref p) (upd H p (.lst (xs++zs)))
theorem Cz:gI X (RT .Add) D0:=by
 intro η s σ H x y v u Q I rx ry h;obtain⟨l,b,xs,zs,rfl,rfl,hH,hB,hz,q⟩:=h;cases rx;cases ry;obtain⟨z,aC,n,r,e⟩:=wX hH I;obtain⟨z2,zr,n2,r2,e2⟩:=wX hB I;have hl:=r.length;have oU:=r2.length;refine PySem.P.add_list e e2 ?_ (by rw[P9,P9];lia);have ea:aC.toArray++zr.toArray=(aC++zr).toArray:=by simp
 rw[ea];exact⟨.ref _,_,I.Ni (t':=s.toks) (r.append r2) (by rw[Qp];lia),rfl,q _ I.fresh⟩
noncomputable def OF:R2:=λx y H Q=>∃i j,x=.str i/\y=.str j/\i.length+j.length<=Qi/\Q (.str (i++j)) H
def Km(K:P5):J6->R2
 |.add=>λv u H Q=>wu (λi j=>.int (i+j)) v u H Q\/OF v u H Q\/DJ v u H Q\/D0 v u H Q|.sub=>wu λi j=>.int (i - j)|.mul=>λv u H Q=>rI BG (λi j=>.int (i*j)) v u H Q\/DK v u H Q\/DM v u H Q\/DN v u H Q|.mod=>rI (λ_ j=>0 < j) λi j=>.int (i % j)|.fdiv=>rI IJ λi j=>.int (i / j)
theorem FZ:∀o,gI X (RT (wR o)) (Km X.K o)
 |.add=>Ew.or (uL.or (B9.or Cz))|.sub=>Ex|.mul=>Ey.or (zC.or (zF.or zG))|.mod=>Ez|.fdiv=>BH
theorem Ga{K:KB}{st:aR}(as:ay K H m Z st)(rx:ai K H m Z x v)(ry:ai K H m Z y u)(h:Ok K Z (R.of (As o x y st) st) m H (λp _ m' H'=>∀v,ai K H' m' Z p v->Q v H')):Km K.K o v u H Q:=by
 obtain⟨p,e,q,qq⟩:=Ok.of h as;unfold As at e;split at e
 ·rename_i i j;cases (show v=.int i from rx);cases (show u=.int j from ry);cases o with
  |add=>cases e;exact .inl ⟨i,j,rfl,rfl,q _ rfl⟩|sub=>cases e;exact⟨i,j,rfl,rfl,q _ rfl⟩|mul=>
   unfold lY at e;simp only at e;split at e;·rename_i hc;cases e;exact .inl ⟨i,j,rfl,rfl,hc,q _ rfl⟩
   ·cases e
  |mod=>
   unfold lY at e;simp only at e;split at e;·rename_i hc;cases e;exact⟨i,j,rfl,rfl,hc,q _ rfl⟩
   ·cases e
  |fdiv=>
   unfold lY at e;simp only at e;split at e;·rename_i hc;cases e;exact⟨i,j,rfl,rfl,hc,q _ rfl⟩
   ·cases e
 ·rename_i x y;cases (show v=.str x from rx);cases (show u=.str y from ry);split at e;·rename_i hc;cases e;exact .inr (.inl ⟨x,y,rfl,rfl,by rw[<-cG];exact hc,q _ rfl⟩)
  ·cases e
 ·rename_i xs ys;obtain⟨a,us,rfl,ha,ra⟩:=rx;obtain⟨b,vs,rfl,hb,rb⟩:=ry;split at e;·rename_i hc;cases e;refine .inr (.inr (.inl ⟨a,b,us,vs,rfl,rfl,ha,hb,by rw[ra.length,rb.length,<-cG];exact hc,λr H' sm hr=>?_⟩));have le:Le K m H m H':=Le.same sm;exact qq m H' le (as.same sm) (.ref r) ⟨r,us++vs,rfl,hr,(ra.append rb).le le⟩
  ·cases e
 ·rename_i xs k;obtain⟨a,us,rfl,ha,ra⟩:=rx;cases (show u=.int k from ry);split at e;·rename_i hc;cases e;subst hc;exact .inr (.inr (.inr ⟨a,us,rfl,rfl,ha,q (.ref a) ⟨a,us,rfl,ha,ra⟩⟩))
  split at e
  ·rename_i hc;cases e;obtain⟨rfl,h1,h2⟩:=hc;refine .inr (.inl ⟨a,us,rfl,rfl,ha,λz=>?_,by rw[ra.length];exact h2,λp hp=>?_⟩)
   ·have:=ra.length;rw[z] at this;simp at this
    lia
   ·exact j0 (α:=Unit) as (ra.append ra) hp qq
  split at e
  ·rename_i hc;cases e;obtain⟨rfl,h1,h2⟩:=hc;refine .inr (.inr (.inl ⟨a,us,rfl,rfl,ha,λz=>?_,by rw[ra.length];exact h2,λp hp=>?_⟩))
   ·have:=ra.length;rw[z] at this;simp at this
    lia
   ·exact j0 (α:=Unit) as ((ra.append ra).append ra) hp qq
  ·cases e
 ·rename_i h1 h2 h3;cases ha:cE st x with
  |none=>rw[ha] at e;cases e|some ps=>
   cases hb:cE st y with
   |none=>rw[ha,hb] at e;cases e|some qs=>
    rw[ha,hb] at e;simp only[Option.bind_some] at e;cases hz:be (ps++qs) with
    |none=>rw[hz] at e;cases e|some zs=>
     rw[hz] at e;simp only[Option.bind_some] at e;split at e;·rename_i hc;cases e;obtain⟨c,us,rfl,OG,rc⟩:=cC as ha rx;obtain⟨d,vs,rfl,hd1,rd⟩:=cC as hb ry;have rr:=(rc.append rd).be hz;have hlen:=rr.length;rw[Qp] at hlen;refine .inr (.inr (.inr ⟨c,d,us,vs,rfl,rfl,OG,hd1,by rw[<-cG];lia,λp hp=>?_⟩));exact AH as rr hp qq
     ·cases e
 ·cases e
theorem OH(ha:PE X a (tE (ae X kt) Z (aa C ea)))(hb:PE X b (tE (ae X kt) Z (aa C eb))):PE X (.BinOp a (wR o) b pos) (tE (ae X kt) Z (aa C (.op o ea eb))):=
 PE.imp (IH (FZ o) ha hb) λσ H Q h=>wW (f:=RT (wR o)) (λx y v u m H st Q as rx ry h=>Ga as rx ry h) h
theorem bS{α β:Type}{o:Option α}{f:α->Option β}{b:β}(h:o.bind f=Δ b):∃a,o=Δ a/\f a=Δ b:=by cases o with|none=>cases h|some a=>exact⟨a,rfl,h⟩
theorem dZ{α β:Type}{o:Option α}{f:α->β}{b:β}(h:o.map f=Δ b):∃a,o=Δ a/\f a=b:=by cases o with|none=>cases h|some a=>exact⟨a,rfl,by simpa using h⟩
theorem hZ{K:KB}{st:aR}(as:ay K H m Z st)(h:iO st p=Δ x)(r:ai K H m Z p v):aI K H [] [] x v:=by
 cases p with
 |d y=>cases h;exact aI.bare r|obj n=>
  obtain⟨a,e,rfl⟩:=r;have h':(match st[n]? with|some (.lst xs)=>(be xs).map D.pl|_=>Θ)=Δ x:=h;split at h';·rename_i xs hs;obtain⟨a',e',o⟩:=as.at_ n _ hs;rw[e] at e';cases e';obtain⟨us,hu,rs⟩:=o;cases hd:be xs with|none=>rw[hd] at h';cases h'|some ys=>rw[hd] at h';cases h';exact⟨a,us,rfl,.inl hu,by simp,by simp,(rs.be hd).bare⟩
  ·cases h'
 |fb n=>cases h|fn k c=>cases h|lf k=>cases h
theorem ai.key{K:KB}(r:ai K H m Z p v)(e:keyOf p=Δ k):v=kV k:=by
 unfold keyOf at e;split at e;·cases e;exact r
 ·cases e;exact r
 ·cases e
theorem aj.keys{K:KB}:∀{xs} {ks} {us},aj K H m Z xs us->keysOf xs=Δ ks->us=ks.map kV
 |[],ks,us,h,e=>by cases e;exact h|x::xs,ks,us,h,e=>by obtain⟨v,vs,rfl,r,rs⟩:=(show ∃v vs,us=v::vs/\aI K H m Z x v/\aj K H m Z xs vs from h);unfold keysOf at e;cases e1:keyOf (.d x) with|none=>rw[e1] at e;cases e|some k=>rw[e1] at e;cases e2:keysOf xs with|none=>rw[e2] at e;cases e|some k2=>rw[e2] at e;cases e;rw[aj.keys rs e2,ai.key (show ai K H m Z (.d x) v from r) e1];rfl
theorem ai.jS{K:KB}(r:ai K H m Z p v)(e:Y.jS p=Δ k):∃b,v=.ref b/\H b=Δ (.tup (k.map kV)):=by
 unfold Y.jS at e;split at e;·obtain⟨b,us,rfl,h1,rs⟩:=r;exact⟨b,rfl,by rw[<-aj.keys rs e];exact h1⟩
 ·cases e
theorem aN.val{κ:Type}[DecidableEq κ]{K:KB}{k:κ}:∀{kvs} {us},aN K H m Z kvs us->(dB us k).isSome=(jc kvs k).isSome/\∀p,jc kvs k=Δ p->∃v,dB us k=Δ v/\ai K H m Z p v
 |[],us,h=>by cases (show us=[] from h);exact⟨rfl,λp e=>by cases e⟩|x::xs,us,h=>by
  obtain⟨v,vs,rfl,r,rs⟩:=(show ∃v vs,us=(x.1,v)::vs/\ai K H m Z x.2 v/\aN K H m Z xs vs from h);obtain⟨i1,i2⟩:=aN.val (k:=k) rs;by_cases hk:x.1=k
  ·have e1:dB ((x.1,v)::vs) k=Δ v:=jI hk;have e2:jc (x::xs) k=Δ x.2:=by simp[jc,Rw,hk]
   rw[e1,e2];exact⟨rfl,λp e=>by cases e;exact⟨v,rfl,r⟩⟩
  ·have e1:dB ((x.1,v)::vs) k=dB vs k:=jJ hk;have e2:jc (x::xs) k=jc xs k:=by simp[jc,Rw,hk]
   rw[e1,e2];exact⟨i1,i2⟩
theorem aN.length{κ:Type}{K:KB}{m:List Addr}:∀{kvs:List (κ×P)} {us:List (κ×V)},aN K H m Z kvs us->us.length=kvs.length
 |[],us,h=>by cases (show us=[] from h);rfl|x::xs,us,h=>by obtain⟨v,vs,rfl,r,rs⟩:=(show ∃v vs,us=(x.1,v)::vs/\ai K H m Z x.2 v/\aN K H m Z xs vs from h);rw[Qm,Qm,aN.length rs]
theorem aN.app{κ:Type}{K:KB}{k:κ}(rp:ai K H m Z p v):∀{kvs} {us},aN K H m Z kvs us->aN K H m Z (kvs++[(k,p)]) (us++[(k,v)])
 |[],us,h=>by cases (show us=[] from h);exact⟨v,[],rfl,rp,rfl⟩|x::xs,us,h=>by obtain⟨v',vs,rfl,r,rs⟩:=(show ∃v vs,us=(x.1,v)::vs/\ai K H m Z x.2 v/\aN K H m Z xs vs from h);exact⟨v',vs++[(k,v)],rfl,r,aN.app rp rs⟩
theorem aN.xK{κ:Type}[DecidableEq κ]{K:KB}{k:κ}(rp:ai K H m Z p v):∀{kvs} {us},aN K H m Z kvs us->
  aN K H m Z (kvs.map λkv=>if kv.1=k then(kv.1,p) else kv) (us.map λkv=>if kv.1=k then(kv.1,v) else kv)
 |[],us,h=>by cases (show us=[] from h);rfl|x::xs,us,h=>by
  obtain⟨v',vs,rfl,r,rs⟩:=(show ∃v vs,us=(x.1,v)::vs/\ai K H m Z x.2 v/\aN K H m Z xs vs from h);have ih:=aN.xK (k:=k) rp rs;rw[QD,QD];by_cases hk:x.1=k;·rw[if_pos hk,if_pos hk];exact⟨v,_,rfl,rp,ih⟩
  ·rw[if_neg hk,if_neg hk];exact⟨v',_,rfl,r,ih⟩
theorem aN.put{κ:Type}[DecidableEq κ]{K:KB}{k:κ}{kvs:List (κ×P)}{us:List (κ×V)}(rs:aN K H m Z kvs us)(rp:ai K H m Z p v):aN K H m Z (oY kvs k p) (putK us k v):=by
 have e:(us.any λkv=>decide (kv.1=k))=(kvs.any λkv=>decide (kv.1=k)):=by
  have e2:∀kvs:List (κ×P),(kvs.any λkv=>decide (kv.1=k))=(jc kvs k).isSome:=λkvs=>by
   unfold jc;rw[Td];induction kvs with
   |nil=>rfl|cons x xs ih=>
    rw[RR,Rw];cases hx:decide (x.1=k);·simpa using ih
    ·rfl
  rw[mS,(rs.val (k:=k)).1,e2]
 unfold oY putK;rw[e];split;·exact rs.xK rp
 ·exact rs.app rp
theorem nV{K:KB}{st:aR}(as:ay K H m Z st)(h:fg st p=Δ o)(r:ai K H m Z p v):∃n a,p=.obj n/\st[n]?=Δ o/\m[n]?=Δ a/\v=.ref a/\l9 K H m Z a o/\pO o=Λ:=by
 unfold fg at h;cases p with
 |d x=>cases h|fb x=>cases h|fn k c=>cases h|lf k=>cases h|obj n=>
  obtain⟨a,e,rfl⟩:=r;cases hs:st[n]? with
  |none=>rw[show FF st (.obj n)=st[n]? from rfl,hs] at h;cases h|some o'=>
   rw[show FF st (.obj n)=st[n]? from rfl,hs] at h;have h':(if pO o'=Λ then Δ o' else Θ)=Δ o:=h;split at h';·rename_i hd;cases h';obtain⟨a',e',q⟩:=as.at_ n _ hs;rw[e] at e';cases e';exact⟨n,a,rfl,hs,e,rfl,q,hd⟩
   ·cases h'
theorem wY{K:KB}(ao:l9 K H m Z a o)(rk:ai K H m Z k y)(h:nq o k=Δ res):∃ov,jL H a y ov/\ov.isSome=res.isSome/\∀p,res=Δ p->∃v,ov=Δ v/\ai K H m Z p v:=by
 cases o with
 |lst xs=>cases h|ins c fs=>cases h|rW=>cases h|dK kvs=>obtain⟨us,hu,rs⟩:=ao;cases hk:keyOf k with|none=>rw[show nq (.dK kvs) k=(keyOf k).map _ from rfl,hk] at h;cases h|some kk=>rw[show nq (.dK kvs) k=(keyOf k).map _ from rfl,hk] at h;cases h;obtain⟨i1,i2⟩:=rs.val (k:=kk);refine⟨dB us kk,?_,i1,λp hp=>i2 p hp⟩;rw[rk.key hk];exact jL.k hu
 |dT kvs=>obtain⟨us,hu,rs⟩:=ao;cases hk:jS k with|none=>rw[show nq (.dT kvs) k=(jS k).map _ from rfl,hk] at h;cases h|some kk=>rw[show nq (.dT kvs) k=(jS k).map _ from rfl,hk] at h;cases h;obtain⟨i1,i2⟩:=rs.val (k:=kk);obtain⟨b,rfl,hb⟩:=rk.jS hk;exact⟨dB us kk,jL.t hu hb,i1,λp hp=>i2 p hp⟩
def AI(neg:Bool):R2:=λy x H Q=>∃a o,x=.ref a/\jL H a y o/\Q (.bl (if neg then !o.isSome else o.isSome)) H
theorem Gb(hu:X.A.units+100 < cLine):gI X (QZ .In) (AI Ξ):=by intro η s σ H x y v u Q I rx ry h;obtain⟨a,o,rfl,g,q⟩:=h;cases ry;exact Nk (by lia) I g rx λs3 I3=>⟨.bl o.isSome,H,I3,rfl,q⟩
theorem yB(hu:X.A.units+100 < cLine):gI X (QZ .NotIn) (AI Λ):=by intro η s σ H x y v u Q I rx ry h;obtain⟨a,o,rfl,g,q⟩:=h;cases ry;exact B1 (by lia) I g rx λs3 I3=>⟨.bl (!o.isSome),H,I3,rfl,q⟩
def CA(K:KB):DY->R2
 |.lt=>wu λi j=>.bl (decide (i < j))|.le=>wu λi j=>.bl (decide (i<=j))|.gt=>wu λi j=>.bl (decide (j < i))|.ge=>wu λi j=>.bl (decide (j<=i))|.eq=>λv u H Q=>∃m Z x y k,aI K H m Z x v/\aI K H m Z y u/\pN x y=Δ k/\Q (.bl k) H|.ne=>λv u H Q=>∃m Z x y k,aI K H m Z x v/\aI K H m Z y u/\pN x y=Δ k/\Q (.bl (!k)) H|.isin=>λv u H Q=>Je K.K Ξ v u H Q\/AI Ξ v u H Q|.sX=>λv u H Q=>Je K.K Λ v u H Q\/AI Λ v u H Q
theorem k8(hu:X.A.units+100 < cLine):∀o,gI X (QZ (gJ o)) (CA (ae X kt) o)
 |.lt=>IK|.le=>IL|.gt=>IM|.ge=>IP|.eq=>FT hu|.ne=>FU hu|.isin=>xJ.or (Gb hu)|.sX=>qx.or (yB hu)
theorem AJ{K:KB}(h:aI K H m Z x v)(f:nk x=Λ):iS v=Λ:=by cases x with|bu=>cases (show v=.bu from h);rfl|bl b=>cases (show v=.bl b from h);rfl|int b=>cases (show v=.int b from h);rfl|str b=>cases (show v=.str b from h);rfl|tup xs=>cases f|pl xs=>cases f
theorem OI{K:KB}(h:aI K H m Z x v)(h':aI K H m Z y u)(f:nk x=Λ)(f':nk y=Λ):BZ v u=qJ x y:=by
 cases x with
 |tup xs=>cases f|pl xs=>cases f|bu=>cases (show v=.bu from h);cases y with|tup xs=>cases f'|pl xs=>cases f'|bu=>cases (show u=.bu from h');rfl|bl b=>cases (show u=.bl b from h');rfl|int b=>cases (show u=.int b from h');rfl|str b=>cases (show u=.str b from h');rfl
 |bl a=>cases (show v=.bl a from h);cases y with|tup xs=>cases f'|pl xs=>cases f'|bu=>cases (show u=.bu from h');rfl|bl b=>cases (show u=.bl b from h');rfl|int b=>cases (show u=.int b from h');rfl|str b=>cases (show u=.str b from h');rfl
 |int a=>cases (show v=.int a from h);cases y with|tup xs=>cases f'|pl xs=>cases f'|bu=>cases (show u=.bu from h');rfl|bl b=>cases (show u=.bl b from h');rfl|int b=>cases (show u=.int b from h');rfl|str b=>cases (show u=.str b from h');rfl
 |str a=>cases (show v=.str a from h);cases y with|tup xs=>cases f'|pl xs=>cases f'|bu=>cases (show u=.bu from h');rfl|bl b=>cases (show u=.bl b from h');rfl|int b=>cases (show u=.int b from h');rfl|str b=>cases (show u=.str b from h');rfl
theorem D3{K:KB}(h:aI K H m Z x v)(f:nk x=Λ):∀{ys} {us},aj K H m Z ys us->ys.all nk=Λ->us.all iS=Λ/\LZ v us=ys.any λy=>qJ y x
 |[],us,r,_=>by cases (show us=[] from r);exact⟨rfl,rfl⟩|y::ys,us,r,q=>by obtain⟨w',ws,rfl,r1,r2⟩:=(show ∃v vs,us=v::vs/\aI K H m Z y v/\aj K H m Z ys vs from r);rw[Rc,PZ] at q;obtain⟨i1,i2⟩:=D3 h f r2 q.2;refine⟨by rw[Rc,AJ r1 q.1,i1];rfl,?_⟩;unfold LZ at i2 ⊢;rw[RR,RR,OI r1 h q.1 f,i2]
theorem in_of{K:KB}{st:aR}(as:ay K H m Z st)(rx:ai K H m Z x v)(ry:ai K H m Z y u)(e:Ka x y st=Δ k)(q:Q (.bl (if neg then !k else k)) H):Je K.K neg v u H Q\/AI neg v u H Q:=by
 unfold Ka at e;split at e;·rename_i o ho;obtain⟨res,e1,rfl⟩:=dZ e;obtain⟨n,a,rfl,hs,hm,rfl,ao,_⟩:=nV as ho ry;obtain⟨ov,hg,h1,_⟩:=wY ao rx e1;refine .inr ⟨a,ov,rfl,hg,?_⟩;rw[h1];exact q
 ·left;obtain⟨xd,e1,e⟩:=bS e;obtain⟨ps,e2,e⟩:=bS e;obtain⟨ys,e3,e9⟩:=bS e;clear e;split at e9;·rename_i hf;rw[PZ] at hf;cases x with|obj n=>cases e1|fb n=>cases e1|fn k c=>cases e1|lf k=>cases e1|d x=>cases e1;obtain⟨a,us,rfl,hs,rs⟩:=fZ as e2 ry;obtain⟨f1,f2⟩:=D3 rx hf.1 (rs.be e3) hf.2;refine⟨a,us,rfl,AG hs,AJ rx hf.1,f1,?_⟩;rw[f2];cases e9;cases neg<;>exact q
  ·cases e9
theorem qW{K:KB}{st:aR}(as:ay K H m Z st)(rx:ai K H m Z x v)(ry:ai K H m Z y u)(e:gL o x y st=Δ k)(q:Q (.bl k) H):CA K o v u H Q:=by
 have CB:∀{o:DY},FG o x y=Δ k->∃i j,v=.int i/\u=.int j/\J7 o i j=Δ k:=λ{o} z=>by
  unfold FG at z;split at z;·exact⟨_,_,rx,ry,z⟩
  ·cases z
 cases o with
 |lt=>obtain⟨i,j,rfl,rfl,z⟩:=CB e;cases z;exact⟨i,j,rfl,rfl,q⟩|le=>obtain⟨i,j,rfl,rfl,z⟩:=CB e;cases z;exact⟨i,j,rfl,rfl,q⟩|gt=>obtain⟨i,j,rfl,rfl,z⟩:=CB e;cases z;exact⟨i,j,rfl,rfl,q⟩|ge=>obtain⟨i,j,rfl,rfl,z⟩:=CB e;cases z;exact⟨i,j,rfl,rfl,q⟩|eq=>obtain⟨a,e1,e⟩:=bS (show((iO st x).bind λx=>(iO st y).bind λy=>pN x y)=Δ k from e);obtain⟨b,e2,e⟩:=bS e;exact⟨[],[],a,b,k,hZ as e1 rx,hZ as e2 ry,e,q⟩
 |ne=>obtain⟨a,e1,e⟩:=bS (show((iO st x).bind λx=>(iO st y).bind λy=>(pN x y).map not)=Δ k from e);obtain⟨b,e2,e⟩:=bS e;obtain⟨c,e3,rfl⟩:=dZ e;exact⟨[],[],a,b,c,hZ as e1 rx,hZ as e2 ry,e3,q⟩|isin=>exact in_of (neg:=Ξ) as rx ry e q|sX=>obtain⟨k',e',rfl⟩:=dZ (show(Ka x y st).map not=Δ k from e);exact in_of (neg:=Λ) as rx ry e' q
theorem Ok.truth{K:KB}{st:aR}{Q:VK}(as:ay K H m Z st)(h:Ok K Z ((R.of o st).bind λb cq=>R.ok (P.d (.bl b)) cq) m H (λp _ m' H'=>∀v,ai K H' m' Z p v->Q v H')):∃k,o=Δ k/\Q (.bl k) H:=by obtain⟨k,e,q,_⟩:=Ok.of (Ok.bind h) as;exact⟨k,e,Ok.here q as (.bl k) rfl⟩
theorem wZ(h:b8 b=Ξ):Vd op b=Ξ:=by
 cases b<;>first
  |rfl
  |exact absurd (show Λ=Ξ from h) QF.symm
theorem Kn(T:Good X kt g C)(ha:PE X a (tE (ae X kt) Z (aa C ea)))(hb:PE X b (tE (ae X kt) Z (aa C eb)))(hn:b8 b=Ξ):
  PE X (.Compare a [gJ o] [b] pos) (tE (ae X kt) Z (aa C (.cmp o ea eb))):=
 PE.imp (BI (k8 T.hu o) ha hb (wZ hn)) λσ H Q h=>wW (f:=QZ (gJ o)) (λx y v u m H st Q as rx ry h=>by obtain⟨k,e,q⟩:=Ok.truth as h;exact qW as rx ry e q) h
theorem i0{α β:Type}{r:R α}{f:α->aR->R β}{b:β}{st:aR}(h:r.bind f=.ok b st):∃a st1,r=.ok a st1/\f a st1=.ok b st:=by cases r with|ok a st1=>exact⟨a,st1,rfl,h⟩|ex x st1=>cases h|no=>cases h
theorem AK{K:KB}{st:aR}(as:ay K H m Z st)(r:ai K H m Z p v)(e:iP st p=Δ k):xD K.K v H k:=by
 have lists:(cE st p).map (λxs=>!xs.isEmpty)=Δ k->xD K.K v H k:=λz=>by obtain⟨ps,e1,rfl⟩:=dZ z;obtain⟨a,us,rfl,hr,rs⟩:=cC as e1 r;refine .inl ⟨us,.inl hr,?_⟩;have:=rs.length;cases ps<;>cases us<;>simp at this ⊢
 cases p with
 |obj n=>exact lists e|fb n=>exact lists e|fn k c=>exact lists e|lf k=>exact lists e|d x=>
  cases x with
  |bu=>cases (show v=.bu from r);cases e;rfl|bl b=>cases (show v=.bl b from r);cases e;rfl|int b=>cases (show v=.int b from r);cases e;rfl|str b=>
   cases (show v=.str b from r);have e':(if b.length<=aB then Δ ((b.length:Int)!=0) else Θ)=Δ k:=e;split at e';·rename_i hc;cases e';exact⟨by rw[<-cG];exact hc,rfl⟩
   ·cases e'
  |tup xs=>obtain⟨a,us,rfl,hs,rs⟩:=r;cases e;refine .inr (.inl ⟨us,de.of hs,?_⟩);have:=rs.length;cases xs<;>cases us<;>simp at this ⊢|pl xs=>exact lists e
theorem Gc(h:tT (ae X kt) Z (bK d) σ H Q):tE (ae X kt) Z d σ H λx H'=>∃k,xD X.K x H' k/\Q k H':=by obtain⟨m,r,st,ar,as,h⟩:=h;refine⟨m,r,st,ar,as,(Ok.bind h).mono λp st1 m1 H1 bq aQ h1 v rv=>?_⟩;obtain⟨k,e,q,_⟩:=Ok.of h1 aQ;exact⟨k,AK aQ rv e,q⟩
theorem CC(ha:PE X e (tE (ae X kt) Z d))(he:∀whole,Vp e X.env whole=(do let v<-whole;UM e.pos;U4 [v] (truthy v))):PT X e (tT (ae X kt) Z (bK d)):=
 PT.imp (ze ha he) λσ H Q h=>Gc h
theorem w4(hb:∀r st p st1,d r st=.ok p st1->∃b,p=.d (.bl b))(h:tT (ae X kt) Z (bK d) σ H Q):tE (ae X kt) Z d σ H λx H'=>∃k,x=.bl k/\Q k H':=by obtain⟨m,r,st,ar,as,h⟩:=h;refine⟨m,r,st,ar,as,(Ok.bind h).nK λp st1 m1 H1 hr bq aQ h1 v rv=>?_⟩;obtain⟨b,rfl⟩:=hb r st p st1 hr;obtain⟨k,e,q,_⟩:=Ok.of h1 aQ;cases e;cases (show v=.bl b from rv);exact⟨b,rfl,q⟩
theorem AL:∀r st p st1,aa C (.cmp o a b) r st=.ok p st1->∃b,p=.d (.bl b):=λr st p st1 h=>by rw[pQ] at h;obtain⟨x,s1,_,h⟩:=i0 h;obtain⟨y,s2,_,h⟩:=i0 h;obtain⟨k,s3,_,h⟩:=i0 h;cases h;exact⟨k,rfl⟩
theorem Gd(T:Good X kt g C)(ha:PE X a (tE (ae X kt) Z (aa C ea)))(hb:PE X b (tE (ae X kt) Z (aa C eb)))(hn:b8 b=Ξ):
  PT X (.Compare a [gJ o] [b] pos) (tT (ae X kt) Z (bK (aa C (.cmp o ea eb)))):=
 PT.imp (BJ (k8 T.hu o) ha hb (wZ hn)) λσ H Q h=>wW (f:=QZ (gJ o)) (λx y v u m H st Q as rx ry h=>by obtain⟨k,e,q⟩:=Ok.truth as h;exact qW as rx ry e q) (w4 AL h)
theorem p6(h:b8 b=Ξ)(h':b8 c=Ξ):lastMarks [p,q] [b,c]=Ξ:=by
 cases c<;>first
  |rfl
  |exact absurd (show Λ=Ξ from h') QF.symm
theorem tV(h:tE (ae X kt) Z (aa C (.chain o o' a b c)) σ H Q):
  uJ (CA (ae X kt) o) (CA (ae X kt) o') (tE (ae X kt) Z (aa C a)) (tE (ae X kt) Z (aa C b)) (tE (ae X kt) Z (aa C c)) σ H Q:=by
 obtain⟨m,ρ,st,ar,as,h⟩:=h;rw[lJ] at h;refine⟨m,ρ,st,ar,as,(Ok.bind h).mono λx st1 m1 H1 bq aQ h1 v rv=>?_⟩;refine⟨m1,ρ,st1,ar.le bq,aQ,(Ok.bind h1).mono λy aF m2 H2 cO cL h2 u ru=>?_⟩;obtain⟨k,e,h3,_⟩:=Ok.of (Ok.bind h2) cL;refine qW cL (rv.le cO) ru e ⟨k,rfl,?_⟩;cases k with|false=>exact Ok.here h3 cL (.bl Ξ) rfl|true=>refine⟨m2,ρ,aF,(ar.le bq).le cO,cL,(Ok.bind (show Ok (ae X kt) Z ((aa C c ρ aF).bind _) m2 H2 _ from h3)).mono λz jv m4 H4 rY w6 h4 w' i9=>?_⟩;obtain⟨k',e',q⟩:=Ok.truth w6 h4;exact qW w6 (ru.le rY) i9 e' q
theorem CD(T:Good X kt g C)(ha:PE X a (tE (ae X kt) Z (aa C ea)))(hb:PE X b (tE (ae X kt) Z (aa C eb)))(hc:PE X c (tE (ae X kt) Z (aa C ec)))(hn:b8 b=Ξ)(uB:b8 c=Ξ):
  PE X (.Compare a [gJ o,gJ o'] [b,c] pos) (tE (ae X kt) Z (aa C (.chain o o' ea eb ec))):=
 PE.imp (y9 (k8 T.hu o) (k8 T.hu o') ha hb hc (p6 hn uB)) λσ H Q h=>tV h
theorem vQ:∀r st p st1,aa C (.chain o o' a b c) r st=.ok p st1->∃b,p=.d (.bl b):=λr st p st1 h=>by rw[lJ] at h;obtain⟨x,s1,_,h⟩:=i0 h;obtain⟨y,s2,_,h⟩:=i0 h;obtain⟨k,s3,_,h⟩:=i0 h;cases k with|false=>cases h;exact⟨Ξ,rfl⟩|true=>obtain⟨z,s4,_,h⟩:=i0 (show((aa C c r s3).bind _)=_ from h);obtain⟨k',s5,_,h⟩:=i0 h;cases h;exact⟨k',rfl⟩
theorem AM(T:Good X kt g C)(ha:PE X a (tE (ae X kt) Z (aa C ea)))(hb:PE X b (tE (ae X kt) Z (aa C eb)))(hc:PE X c (tE (ae X kt) Z (aa C ec)))(hn:b8 b=Ξ)(uB:b8 c=Ξ):
  PT X (.Compare a [gJ o,gJ o'] [b,c] pos) (tT (ae X kt) Z (bK (aa C (.chain o o' ea eb ec)))):=
 PT.imp (zc (k8 T.hu o) (k8 T.hu o') ha hb hc (p6 hn uB)) λσ H Q h=>tV (w4 vQ h)
theorem CF(ha:PE X a ta):PE X (.UnaryOp .Not a pos) (λσ H Q=>ta σ H λx H1=>∃k,xD X.K x H1 k/\Q (.bl (!k)) H1):=by intro η s σ H Q I h;refine UnaryOp_ (bG (ha η s σ H _ I h) λv s1 ⟨x,H1,I1,r1,q1⟩=>not_of ?_);exact bG (zd η s1 σ H1 x v (λk H'=>Q (.bl (!k)) H') I1 r1 q1) λc s2 ⟨H2,I2,q2⟩=>⟨.bl (!c),H2,I2,rfl,q2⟩
theorem Ko(ha:PE X a (tE (ae X kt) Z (aa C ea))):PE X (.UnaryOp .Not a pos) (tE (ae X kt) Z (aa C (.not ea))):=by refine PE.imp (CF ha) ?_;rintro σ H Q ⟨m,ρ,st,ar,as,h⟩;rw[kT] at h;refine⟨m,ρ,st,ar,as,(Ok.bind h).mono λx st1 m1 H1 bq aQ h1 v rv=>?_⟩;obtain⟨k,e,h2,_⟩:=Ok.of (Ok.bind h1) aQ;exact⟨k,AK aQ rv e,Ok.here h2 aQ (.bl (!k)) rfl⟩
theorem Ge(ha:PT X a (tT (ae X kt) Z (bK (aa C ea)))):PT X (.UnaryOp .Not a pos) (tT (ae X kt) Z (bK (aa C (.not ea)))):=by refine PT.imp (Eo ha) ?_;rintro σ H Q ⟨m,ρ,st,ar,as,h⟩;unfold bK at h;rw[kT] at h;refine⟨m,ρ,st,ar,as,?_⟩;unfold bK;cases hr:aa C ea ρ st with|ex x s=>rw[hr] at h;exact h|no=>rw[hr] at h;exact h|ok p s1=>rw[hr] at h;simp only[ax] at h ⊢;cases ht:iP s1 p with|none=>rw[ht] at h;exact h|some k=>rw[ht] at h;exact h
theorem Gf(ha:PE X a (tE (ae X kt) Z (aa C ea))):PE X (.BoolOp .And [a] pos) (tE (ae X kt) Z (dW C [ea])):=uE ha
theorem Kp(ha:PE X a (tE (ae X kt) Z (aa C ea))):PE X (.BoolOp .Or [a] pos) (tE (ae X kt) Z (dX C [ea])):=uE ha
theorem Gg{rest:List Expr}(ha:PE X a (tE (ae X kt) Z (aa C ea)))(hb:PE X (.BoolOp .And (b::rest) pos) (tE (ae X kt) Z (dW C (eb::er)))):
  PE X (.BoolOp .And (a::b::rest) pos) (tE (ae X kt) Z (dW C (ea::eb::er))):=by
 refine PE.imp (yW ha hb) ?_;rintro σ H Q ⟨m,ρ,st,ar,as,h⟩;rw[pU] at h;refine⟨m,ρ,st,ar,as,(Ok.bind h).mono λx st1 m1 H1 bq aQ h1 v rv=>?_⟩;split at h1;·rename_i k;cases (show v=.bl k from rv);refine⟨k,rfl,?_⟩;cases k with|true=>exact⟨m1,ρ,st1,ar.le bq,aQ,h1⟩|false=>exact Ok.here h1 aQ (.bl Ξ) rfl
 ·exact h1.elim
theorem Kq{rest:List Expr}(ha:PE X a (tE (ae X kt) Z (aa C ea)))(hb:PE X (.BoolOp .Or (b::rest) pos) (tE (ae X kt) Z (dX C (eb::er)))):
  PE X (.BoolOp .Or (a::b::rest) pos) (tE (ae X kt) Z (dX C (ea::eb::er))):=by
 refine PE.imp (Iu ha hb) ?_;rintro σ H Q ⟨m,ρ,st,ar,as,h⟩;rw[pV] at h;refine⟨m,ρ,st,ar,as,(Ok.bind h).mono λx st1 m1 H1 bq aQ h1 v rv=>?_⟩;split at h1;·rename_i k;cases (show v=.bl k from rv);refine⟨k,rfl,?_⟩;cases k with|false=>exact⟨m1,ρ,st1,ar.le bq,aQ,h1⟩|true=>exact Ok.here h1 aQ (.bl Λ) rfl
 ·exact h1.elim
theorem CG(ha:PT X a (tT (ae X kt) Z (bK (aa C ea)))):PW X (.BoolOp .And [a] pos) (tT (ae X kt) Z (bK (dW C [ea]))):=pw_and1 ha
theorem Gh(ha:PT X a (tT (ae X kt) Z (bK (aa C ea)))):PW X (.BoolOp .Or [a] pos) (tT (ae X kt) Z (bK (dX C [ea]))):=pw_or1 ha
theorem CH{rest:List Expr}(ha:PT X a (tT (ae X kt) Z (bK (aa C ea))))(hb:PW X (.BoolOp .And (b::rest) pos) (tT (ae X kt) Z (bK (dW C (eb::er))))):
  PW X (.BoolOp .And (a::b::rest) pos) (tT (ae X kt) Z (bK (dW C (ea::eb::er)))):=by
 refine PW.imp (pw_and ha hb) ?_;rintro σ H Q ⟨m,ρ,st,ar,as,h⟩;refine⟨m,ρ,st,ar,as,?_⟩;unfold bK at h ⊢;rw[pU] at h;cases hr:aa C ea ρ st with
 |ex x s=>rw[hr] at h;exact h|no=>rw[hr] at h;exact h|ok p s1=>
  rw[hr] at h;simp only[ax] at h ⊢;split at h;·rename_i k;refine λm1 H1 bq aQ=>?_;cases k with|true=>exact⟨m1,ρ,s1,ar.le bq,aQ,Ok.le h bq⟩|false=>exact h m1 H1 bq aQ
  ·exact h.elim
theorem Gi{rest:List Expr}(ha:PT X a (tT (ae X kt) Z (bK (aa C ea))))(hb:PW X (.BoolOp .Or (b::rest) pos) (tT (ae X kt) Z (bK (dX C (eb::er))))):
  PW X (.BoolOp .Or (a::b::rest) pos) (tT (ae X kt) Z (bK (dX C (ea::eb::er)))):=by
 refine PW.imp (pw_or ha hb) ?_;rintro σ H Q ⟨m,ρ,st,ar,as,h⟩;refine⟨m,ρ,st,ar,as,?_⟩;unfold bK at h ⊢;rw[pV] at h;cases hr:aa C ea ρ st with
 |ex x s=>rw[hr] at h;exact h|no=>rw[hr] at h;exact h|ok p s1=>
  rw[hr] at h;simp only[ax] at h ⊢;split at h;·rename_i k;refine λm1 H1 bq aQ=>?_;cases k with|false=>exact⟨m1,ρ,s1,ar.le bq,aQ,Ok.le h bq⟩|true=>exact h m1 H1 bq aQ
  ·exact h.elim
theorem AN(hc:PT X c tc)(ha:PT X a ta)(hb:PT X b tb):PT X (.IfExp c a b pos) (λσ H Q=>tc σ H λk H1=>if k=Λ then ta σ H1 Q else tb σ H1 Q):=by intro η s σ H Q I h;refine isTrue_IfExp (bG (hc η s σ H _ I h) λd s1 ⟨H1,I1,q1⟩=>?_);cases d with|true=>exact ha η s1 σ H1 Q I1 q1|false=>exact hb η s1 σ H1 Q I1 q1
theorem Kr(hc:PT X c (tT (ae X kt) Z (bK (aa C ec))))(ha:PE X a (tE (ae X kt) Z (aa C ea)))(hb:PE X b (tE (ae X kt) Z (aa C eb))):PE X (.IfExp c a b pos) (tE (ae X kt) Z (aa C (.ite ec ea eb))):=by refine PE.imp (yX hc ha hb) ?_;rintro σ H Q ⟨m,ρ,st,ar,as,h⟩;refine⟨m,ρ,st,ar,as,?_⟩;rw[pR] at h;unfold bK;cases hr:aa C ec ρ st with|ex x s=>rw[hr] at h;exact h|no=>rw[hr] at h;exact h|ok p s1=>rw[hr] at h;simp only[ax] at h ⊢;cases ht:iP s1 p with|none=>rw[ht] at h;exact h|some k=>rw[ht] at h;refine λm1 H1 bq aQ=>?_;cases k with|true=>exact⟨m1,ρ,s1,ar.le bq,aQ,Ok.le (show Ok (ae X kt) Z (aa C ea ρ s1) m H _ from h) bq⟩|false=>exact⟨m1,ρ,s1,ar.le bq,aQ,Ok.le (show Ok (ae X kt) Z (aa C eb ρ s1) m H _ from h) bq⟩
theorem Gj(hc:PT X c (tT (ae X kt) Z (bK (aa C ec))))(ha:PT X a (tT (ae X kt) Z (bK (aa C ea))))(hb:PT X b (tT (ae X kt) Z (bK (aa C eb)))):PT X (.IfExp c a b pos) (tT (ae X kt) Z (bK (aa C (.ite ec ea eb)))):=by refine PT.imp (AN hc ha hb) ?_;rintro σ H Q ⟨m,ρ,st,ar,as,h⟩;refine⟨m,ρ,st,ar,as,?_⟩;unfold bK at h;rw[pR] at h;show Ok (ae X kt) Z ((aa C ec ρ st).bind λx st1=>R.of (iP st1 x) st1) m H _;cases hr:aa C ec ρ st with|ex x s=>rw[hr] at h;exact h|no=>rw[hr] at h;exact h|ok p s1=>rw[hr] at h;simp only[ax] at h ⊢;cases ht:iP s1 p with|none=>rw[ht] at h;exact h|some k=>rw[ht] at h;refine λm1 H1 bq aQ=>?_;cases k with|true=>exact⟨m1,ρ,s1,ar.le bq,aQ,Ok.le (show Ok (ae X kt) Z (bK (aa C ea) ρ s1) m H _ from h) bq⟩|false=>exact⟨m1,ρ,s1,ar.le bq,aQ,Ok.le (show Ok (ae X kt) Z (bK (aa C eb) ρ s1) m H _ from h) bq⟩
end
section
variable{X:Cx}{g:G}{C:Nat->List P->aR->R P}{Z:List Addr}{e:Expr}{es:List Expr}
theorem dM:∀{es} {r} {st st1} {ps},aD C es r st=.ok ps st1->ps.length=es.length
 |[],r,st,st1,ps,h=>by rw[aX] at h;cases h;rfl|e::es,r,st,st1,ps,h=>by rw[bh] at h;obtain⟨x,s1,_,h⟩:=i0 h;obtain⟨xs,s2,h2,h⟩:=i0 h;cases h;rw[Qm,Qm,dM h2]
theorem lR:PA X [] (tA (ae X kt) Z (aD C [])):=by refine PA.imp kE ?_;rintro σ H Q ⟨m,ρ,st,ar,as,h⟩;rw[aX] at h;exact Ok.here h as [] rfl
theorem gE(ha:PE X x (tE (ae X kt) Z (aa C a)))(hr:PA X xs (tA (ae X kt) Z (aD C bT)))(hs:notStar x=Λ):PA X (x::xs) (tA (ae X kt) Z (aD C (a::bT))):=by refine PA.imp (eM ha hr (br hs)) ?_;rintro σ H Q ⟨m,ρ,st,ar,as,h⟩;rw[bh] at h;refine⟨m,ρ,st,ar,as,(Ok.bind h).mono λp st1 m1 H1 bq aQ h1 v rv=>?_⟩;refine⟨m1,ρ,st1,ar.le bq,aQ,(Ok.bind h1).mono λps aF m2 H2 cO cL h2 vs eX=>?_⟩;exact Ok.here h2 cL (v::vs) ⟨v,vs,rfl,rv.le cO,eX⟩
theorem dN(h:dY g (a::bT) xs=Λ):∃x ys,xs=x::ys/\di g a x=Λ/\notStar x=Λ/\dY g bT ys=Λ:=by refine aH h λx ys h=>?_;simp only[PZ] at h;exact⟨x,ys,rfl,h.1.1,h.1.2,h.2⟩
theorem ic(h:dY g [] xs=Λ):xs=[]:=Qb.mp h
theorem b9:∀{bT} {xs},dY g bT xs=Λ->∀x∈xs,notStar x=Λ
 |[],xs,h=>by rw[ic h];intro x hx;cases hx|a::bT,xs,h=>by
  obtain⟨x,ys,rfl,_,h2,h3⟩:=dN h;intro y hy;rcases Uu.mp hy with z|z;·rw[z];exact h2
  ·exact b9 h3 y z
theorem eh:∀{bT} {xs},dY g bT xs=Λ->xs.length=bT.length
 |[],xs,h=>by rw[ic h];rfl|a::bT,xs,h=>by obtain⟨x,ys,rfl,_,_,h3⟩:=dN h;rw[Qm,Qm,eh h3]
theorem dR:∀{xs},(∀x∈xs,notStar x=Λ)->(Rx pos (Qo xs env)).any (·.1)=Ξ
 |[],_=>rfl|x::xs,h=>by rw[br (h x P7)];show(Ξ||(Rx pos (Qo xs env)).any (·.1))=Ξ;rw[dR λy hy=>h y (P6 _ hy)];rfl
theorem Ks(h:PA X xs (tA (ae X kt) Z (aD C bT))):PE X (.Tuple xs k pos) (tE (ae X kt) Z (aa C (.tup bT))):=by
 refine PE.imp (ED h) ?_;rintro σ H Q ⟨m,ρ,st,ar,as,h⟩;rw[ym] at h;refine⟨m,ρ,st,ar,as,(Ok.bind h).mono λps st1 m1 H1 bq aQ h1 vs eX=>?_⟩;split at h1;·rename_i hc;obtain⟨xs,e,h2,_⟩:=Ok.of (Ok.bind h1) aQ;exact⟨by rw[eX.length,<-cG];exact hc,λp hp=>j0 (α:=Unit) aQ (eX.be e) hp h2⟩
 ·exact h1.elim
theorem Le.grow{K:KB}{m m':List Addr}{H H':Hp}{a:Addr}(le:Le K m H m' H')(ha:H a=Θ):Le K m H (m'++[a]) H' where
 pre:=by obtain⟨t,e⟩:=le.pre;exact⟨t++[a],by rw[e,Ti]⟩
 tup:=le.tup
 keep:=le.keep
 new:=λb hb=>by
  rcases List.mem_append.mp hb with z|z;·exact le.new b z
  ·have:b=a:=by simpa using z
   rw[this];exact .inr ha
 lW:=le.lW
 wQ:=le.wQ
 cF:=le.cF
 ext:=le.ext
 dc:=le.dc
theorem qX(h:tE (ae X kt) Z (aa C (.lst mu l)) σ H Q):tL (ae X kt) Z (bR C l) σ H Q:=by obtain⟨m,ρ,st,ar,as,h⟩:=h;rw[yn] at h;refine⟨m,ρ,st,ar,as,?_⟩;cases hr:bR C l ρ st with|ex x s=>rw[hr] at h;exact h|no=>rw[hr] at h;exact h|ok ps st1=>rw[hr] at h;simp only[ax] at h;intro m' H' a vs le ha hm hH bT rs;have hz:a∉Z:=(as.fresh ha).2;cases mu with|true=>refine h (m'++[a]) H' (le.grow ha) (bT.adopt hz hH rs) (.ref a) ⟨a,?_,rfl⟩;rw[Qu (by rw[bT.len];exact P8 _),bT.len];simp|false=>have cL:=bT.o4 (Z:=Z) λb hb=>P6 _ hb;obtain⟨xs,e,h2,_⟩:=Ok.of (Ok.bind (Ok.le (show Ok (ae X kt) Z ((R.of (be ps) st1).bind λxs aF=>R.ok (P.d (.pl xs)) aF) m H _ from h) le)) cL;exact Ok.here h2 cL (.ref a) ⟨a,vs,rfl,.inl hH,hm,hz,(rs.o4 λb hb=>P6 _ hb).be e⟩
theorem Kt(h:PE X e (tL (ae X kt) Z (bR C l))):PE X e (tE (ae X kt) Z (aa C (.lst mu l))):=PE.imp h λσ H Q q=>qX q
theorem Le.w8{K:KB}(le:Le K m H m' H')(ha:H' a=Θ):H a=Θ:=by cases q:H a with|none=>rfl|some o=>exact absurd ha (le.lW a (by rw[q];exact λz=>nomatch z))
theorem j3{K:KB}(bq:Le K m H m1 H1)(aQ:ay K H1 m1 Z st1)(eX:ag K H1 m1 Z ps vs)(ha:H1 a=Θ)(h:LQ K Z (R.ok ps st1) m H Q):Q (.ref a) (upd H1 a (.lst vs)):=
 h m1 (upd H1 a (.lst vs)) a vs (bq.trans (Le.same (aW ha _))) (bq.w8 ha) (aQ.fresh ha).1 aA (aQ.laid ha _) ((eX.hJ ha).le (Le.same (aW ha _)))
theorem Gk(h:PA X xs (tA (ae X kt) Z (aD C bT))):PE X (.List xs pos) (tL (ae X kt) Z (bR C (.fe bT))):=by
 refine PE.imp (EF h) ?_;rintro σ H Q ⟨m,ρ,st,ar,as,h⟩;refine⟨m,ρ,st,ar,as,?_⟩;rw[jh] at h;cases hr:aD C bT ρ st with
 |ex x s=>rw[hr] at h;exact h|no=>rw[hr] at h;exact h|ok ps st1=>
  rw[hr] at h;simp only[ax] at h;split at h;·rename_i hc;intro m1 H1 bq aQ vs eX;exact⟨by rw[eX.length,<-cG];exact hc,λa ha=>j3 bq aQ eX ha h⟩
  ·exact h.elim
theorem Gm(T:Good X kt g C)(hg:g.gl "list"=Λ)(ha:PE X x (tE (ae X kt) Z (aa C a)))(hs:notStar x=Λ):PE X (.Call (.Name "list" p) [x] [] pos) (tL (ae X kt) Z (bR C (.list a))):=by refine PE.imp (eU qA (T.glob hg) (T.bl _ (by decide+kernel)) U6 (gE ha lR hs) (by decide+kernel) (by decide+kernel) (br hs) rfl) ?_;rintro σ H Q ⟨m,ρ,st,ar,as,h⟩;refine⟨m,ρ,st,ar,as,?_⟩;rw[nv] at h;show Ok (ae X kt) Z (aD C [a] ρ st) m H _;simp only[bh,aX];cases hr:aa C a ρ st with|ex x s=>rw[hr] at h;exact h|no=>rw[hr] at h;exact h|ok y st1=>rw[hr] at h;simp only[ax] at h ⊢;intro m1 H1 bq aQ vs eX;obtain⟨v,k9,rfl,rv,e⟩:=(show ∃v k9,vs=v::k9/\ai (ae X kt) H1 m1 Z y v/\k9=[] from eX);subst e;cases hi:ff st1 y with|none=>rw[hi] at h;exact(show False from h).elim|some ps=>rw[hi] at h;obtain⟨b,us,rfl,hq,rs⟩:=fZ aQ hi rv;exact⟨b,us,rfl,AG hq,λl hl=>j3 bq aQ rs hl h⟩
theorem aN.keys{K:KB}:∀{kvs} {us},aN K H m Z kvs us->ag K H m Z (kvs.map λkv=>yj kv.1) (us.map λkv=>kV kv.1)
 |[],us,h=>by cases (show us=[] from h);exact rfl|(k,p)::kvs,us,h=>by obtain⟨v,vs,rfl,r,rs⟩:=(show ∃v vs,us=(k,v)::vs/\ai K H m Z p v/\aN K H m Z kvs vs from h);refine⟨kV k,_,rfl,?_,aN.keys rs⟩;cases k<;>rfl
theorem w9{K:KB}{st:aR}(as:ay K H m Z st)(h:vp st p=Δ q)(r:ai K H m Z p v):∃a us,p=.obj q.1/\st[q.1]?=Δ (.dK q.2)/\m[q.1]?=Δ a/\v=.ref a/\H a=Δ (.dK us)/\aN K H m Z q.2 us:=by
 unfold vp at h;split at h
 ·rename_i n;split at h;·rename_i kvs hk;cases h;obtain⟨a,ha,rfl⟩:=(show ∃a,m[n]?=Δ a/\v=.ref a from r);obtain⟨a',ha',us,hu,rs⟩:=as.at_ n _ hk;rw[ha] at ha';cases ha';exact⟨a,us,rfl,hk,ha,rfl,hu,rs⟩
  ·cases h
 ·cases h
theorem Gn(T:Good X kt g C)(hg:g.gl "list"=Λ)(ha:PE X x (tE (ae X kt) Z (aa C a)))(hs:notStar x=Λ):PE X (.Call (.Name "list" p) [x] [] pos) (tL (ae X kt) Z (bR C (.keys a))):=by refine PE.imp (eU (oW T.calm) (T.glob hg) (T.bl _ (by decide+kernel)) U6 (gE ha lR hs) (by decide+kernel) (by decide+kernel) (br hs) rfl) ?_;rintro σ H Q ⟨m,ρ,st,ar,as,h⟩;refine⟨m,ρ,st,ar,as,?_⟩;rw[vE] at h;show Ok (ae X kt) Z (aD C [a] ρ st) m H _;simp only[bh,aX];cases hr:aa C a ρ st with|ex x s=>rw[hr] at h;exact h|no=>rw[hr] at h;exact h|ok y st1=>rw[hr] at h;simp only[ax] at h ⊢;intro m1 H1 bq aQ vs eX;obtain⟨v,k9,rfl,rv,e⟩:=(show ∃v k9,vs=v::k9/\ai (ae X kt) H1 m1 Z y v/\k9=[] from eX);subst e;cases hi:vp st1 y with|none=>rw[hi] at h;exact(show False from h).elim|some q=>rw[hi] at h;obtain⟨b,us,rfl,hk,hm,rfl,hu,rs⟩:=w9 aQ hi rv;exact⟨b,us,rfl,hu,λl hl=>j3 bq aQ rs.keys hl h⟩
theorem CJ(T:Good X kt g C)(uz:g.cv=Λ)(h1:g.N[i]?=Δ x)(h2:g.qP x=Λ)(hp:aO x=Λ)(hs:∀z∈y::ys,notStar z=Λ)(h:PA X (y::ys) (tA (ae X kt) Z (aD C bT))):
  PE X (.Call (.Name x p) (y::ys) [] pos) (tE (ae X kt) Z (aa C (.sY i bT))):=by
 refine PE.imp (zV (i:=i) (by rw[T.N];exact h1) (T.qP h2) h (pn hp).1 (pn hp).2.1 (br (hs y P7)) (dR λz hz=>hs z (P6 _ hz))) ?_;rintro σ H Q ⟨m,ρ,st,ar,as,h⟩;rw[tw] at h;obtain⟨q,e,h',_⟩:=Ok.of (Ok.bind h) as;have e':ρ[i]?=Δ (Δ q):=by unfold fW at e;cases z:ρ[i]? with|none=>rw[z] at e;cases e|some o=>rw[z] at e;simp at e;rw[e]
 obtain⟨v,ev,rv⟩:=ar.at_ i q e';cases q with|fn k bx=>rw[ai] at rv;obtain⟨a,c,bN,rfl,hc,OJ,rc⟩:=rv;obtain⟨n,fd,ps,F,hr,hb⟩:=(T.kX uz k a c bN hc).ex;refine⟨a,ev,(T.kX uz k a c bN hc).ob,m,ρ,st,ar,as,(Ok.bind h').nK λqs st1 m1 H1 hq bq aQ h1 vs eX=>⟨n,fd,ps,_,F,hr,hb,?_⟩⟩;exact⟨bq.ext _ _ OJ,m1,Z,qs,bx,st1,eX,rc.le bq,aQ,h1⟩|d x=>exact(Ok.jQ (λ_ _=>rfl) h').elim|obj x=>exact(Ok.jQ (λ_ _=>rfl) h').elim|fb x=>exact(Ok.jQ (λ_ _=>rfl) h').elim|lf x=>exact(Ok.jQ (λ_ _=>rfl) h').elim
theorem aN.look{K:KB}{m:List Addr}{f:Str}:∀{fs:List (Str×P)} {us:List (Str×V)},aN K H m Z fs us->(∀p,fs.lookup f=Δ p->∃v,us.lookup f=Δ v/\ai K H m Z p v)/\(fs.lookup f=Θ->us.lookup f=Θ)
 |[],us,h=>by cases (show us=[] from h);exact⟨(λp z=>nomatch z),λ_=>rfl⟩|(k,p)::fs,us,h=>by obtain⟨v,vs,rfl,r,rs⟩:=(show ∃v vs,us=(k,v)::vs/\ai K H m Z p v/\aN K H m Z fs vs from h);obtain⟨i1,i2⟩:=aN.look (f:=f) rs;rw[Ql,Ql];cases hb:f==k with|true=>exact⟨λq z=>by cases z;exact⟨v,rfl,r⟩,λz=>nomatch z⟩|false=>exact⟨i1,i2⟩
theorem vR{K:KB}{st:aR}(as:ay K H m Z st)(r:ai K H m Z p v)(h:tq c st p=Δ (n,fs)):
  ∃a A dx us,p=.obj n/\m[n]?=Δ a/\v=.ref a/\st[n]?=Δ (.ins c fs)/\Qf K.K Qa c=Δ (Δ (.ref A))/\H a=Δ (.ins A dx us)/\H dx=Δ (.own a)/\aN K H m Z fs us:=by
 unfold tq at h;split at h
 ·rename_i n';split at h
  ·rename_i c' fs' hs;split at h;·rename_i hc;cases h;subst hc;rw[ai] at r;obtain⟨a,e,rfl⟩:=r;obtain⟨a',e',ao⟩:=as.at_ n _ hs;rw[e] at e';cases e';obtain⟨A,dx,us,g1,g2,g3,g4⟩:=ao;exact⟨a,A,dx,us,rfl,e,rfl,hs,g1,g2,g3,g4⟩
   ·cases h
  ·cases h
 ·cases h
theorem Gp(T:Good X kt g C)(hf:g.lN c f=Λ)(h1:g.N[i]?=Δ x)(h2:g.qP x=Λ)(h3:aO x=Λ):PE X (.Attribute (.Name x p) f pos) (tE (ae X kt) Z (aa C (.attr c f i))):=by refine PE.imp (EA (tQ (Z:=Z) (kt:=kt) T h1 h2 h3) rfl) ?_;rintro σ H Q ⟨m,ρ,st,ar,as,h⟩;rw[vt] at h;refine⟨m,ρ,st,ar,as,?_⟩;rw[dJ];refine(Ok.bind h).mono λq st1 m1 H1 bq aQ h1 v rv=>?_;obtain⟨q2,e,h2,_⟩:=Ok.of h1 aQ;obtain⟨⟨n,fs⟩,e1,e2⟩:=bS e;obtain⟨a,A,dx,us,rfl,hm,rfl,hs,g1,g2,g3,g4⟩:=vR aQ rv e1;obtain⟨A',k1,k2,k3⟩:=T.fld c f hf;rw[show Qf X.K Qa c=Δ (Δ (.ref A)) from g1] at k1;cases k1;obtain⟨w,hw,i9⟩:=(aN.look (f:=f) g4).1 q2 e2;exact⟨a,A,dx,us,w,rfl,g2,k2,k3,hw,h2 w i9⟩
theorem s_call(T:Good X kt g C)(hf:g.fns[f]?=Δ (x,bT.length))(hg:g.gl x=Λ)(hp:aO x=Λ)(hs:∀x∈xs,notStar x=Λ)(hl:xs.length=bT.length)(h:PA X xs (tA (ae X kt) Z (aD C bT))):
  PE X (.Call (.Name x p) xs [] pos) (tE (ae X kt) Z (aa C (.call f bT))):=by
 obtain⟨k,fa,fd,ps,F,hr,hm,hk,hb⟩:=(T.fn f x bT.length hf).ex;have red:∀σ H Q,tE (ae X kt) Z (aa C (.call f bT)) σ H Q->zi (qV (ae X kt) (C f) bT.length) [] E0 (tA (ae X kt) Z (aD C bT)) σ H Q:=by rintro σ H Q ⟨m,ρ,st,ar,as,h⟩;rw[gy] at h;refine⟨m,ρ,st,ar,as,(Ok.bind h).nK λqs st1 m1 H1 hq bq aQ h1 vs eX=>?_⟩;show qV (ae X kt) (C f) bT.length (vs++[]) H1 Q E0;rw[QK];exact⟨m1,Z,qs,st1,by rw[eX.length,dM hq],eX,aQ,h1⟩
 cases xs with
 |nil=>
  have e:bT=[]:=by cases bT with|nil=>rfl|cons a b=>simp at hl
  subst e;refine PE.imp (zj F hr (T.glob hg) hm hk hb .nil sx (pn hp).1) λσ H Q h=>?_;obtain⟨m,ρ,st,ar,as,h1⟩:=red σ H Q h;rw[aX] at h1;exact Ok.here h1 as [] rfl
 |cons y ys=>exact PE.imp (BM F hr (T.glob hg) hm hk hb .nil sx h (pn hp).1 (br (hs y P7)) (dR λz hz=>hs z (P6 _ hz))) red
theorem vS{E:Value->Qd->Prop}(I:Inv X η σ H s)(q:de X.K H a xs)(e:RE X.K (.type "tuple") c=Δ b)(h:∀tk,Q (.bool b) {s with toks:=tk}):wpAny (model X.prog X.w) A (call (.builtin "isinstance") [.ref a,c]) Q E s:=by obtain⟨_,_,p,_⟩:=I.tuple q;obtain⟨o,h1,h2,_⟩:=p;exact QV PySem.W.kitx_tuple I.gM ⟨o,h1,h2⟩ e (λz=>nomatch z) h
theorem AO:dD X (.builtin "isinstance") (λxs H Q=>∃x T,xs=[x,.ty T]/\T∈iA/\((∃t,L2.Jr H x=Δ t/\Q (.bl (L2.bO t T)) H)\/(∃a ys,x=.ref a/\de X.K H a ys/\Q (.bl (L2.bO "tuple" T)) H)\/(∃a ys,x=.ref a/\Rd H a (.lst ys)/\Q (.bl (L2.bO "list" T)) H))):=by
 intro η s σ H xs us Q I r h;obtain⟨x,T,rfl,hT,h⟩:=h;obtain⟨u,w',rfl,rx,ry⟩:=vals2 r;cases (show w'=So T from ry);have Mn:T="int"\/T="bool"\/T="tuple"\/T="str"\/T="list":=by simpa[iA] using hT
 rcases h with ⟨t,ht,q⟩|⟨a,ys,rfl,hq,q⟩|⟨a,ys,rfl,hq,q⟩
 ·exact kD I rx (B8 ht) (mo X.K (E1 ht) Mn) λtk=>⟨.bl (L2.bO t T),H,I.tok _,rfl,q⟩
 ·cases rx;exact vS I hq (mo X.K (by simp) Mn) λtk=>⟨.bl (L2.bO "tuple" T),H,I.tok _,rfl,q⟩
 ·rcases hq with hq|⟨o,hq⟩;·exact kD I rx (i8.lst hq) (mo X.K (by simp) Mn) λtk=>⟨.bl (L2.bO "list" T),H,I.tok _,rfl,q⟩
  ·exact kD I rx (i8.cF hq) (mo X.K (by simp) Mn) λtk=>⟨.bl (L2.bO "list" T),H,I.tok _,rfl,q⟩
theorem CL(h:T∈iA):R5 (Qs T)=Δ (.type T)/\Qs T∈nU/\Qs T≠"__name__"/\(Qs T==("__debug__":Str))=Ξ:=by
 have h':T="int"\/T="bool"\/T="tuple"\/T="str"\/T="list":=by simpa[iA] using h
 rcases h' with rfl|rfl|rfl|rfl|rfl;·exact⟨boot_int,by decide+kernel,by decide+kernel,by decide+kernel⟩
 ·exact⟨boot_bool,by decide+kernel,by decide+kernel,by decide+kernel⟩
 ·exact⟨boot_tuple,by decide+kernel,by decide+kernel,by decide+kernel⟩
 ·exact⟨boot_str,by decide+kernel,by decide+kernel,by decide+kernel⟩
 ·exact⟨U6,by decide+kernel,by decide+kernel,by decide+kernel⟩
theorem Ku(T:Good X kt g C)(hg:g.gl "isinstance"=Λ)(ht:t∈iA)(Kv:g.gl (Qs t)=Λ)(ha:PE X x (tE (ae X kt) Z (aa C a)))(hs:notStar x=Λ):
  PE X (.Call (.Name "isinstance" p) [x,.Name (Qs t) q] [] pos) (tE (ae X kt) Z (aa C (.oF a t))):=by
 obtain⟨b1,b2,b3,b4⟩:=CL ht;refine PE.imp (gR AO (T.glob hg) (T.bl _ (by decide+kernel)) US (eM ha (eM (wq (v:=.ty t) (T.glob Kv) (T.bl _ b2) b1 rfl b3 b4) kE) (br hs)) (by decide+kernel) (by decide+kernel) (br hs) rfl) ?_;rintro σ H Q ⟨m,ρ,st,ar,as,h⟩;rw[yo] at h;refine⟨m,ρ,st,ar,as,(Ok.bind h).mono λy st1 m1 H1 bq aQ h1 v rv=>?_⟩;obtain⟨k,e,h2,_⟩:=Ok.of (Ok.bind h1) aQ;have q:=Ok.here h2 aQ (.bl (bO k t)) rfl;have eqt:Y.bO k t=L2.bO k t:=rfl;refine⟨v,t,rfl,ht,?_⟩;cases y with
 |d x=>cases x with|bu=>cases (show v=.bu from rv);cases e;exact .inl ⟨_,rfl,q⟩|bl b=>cases (show v=.bl b from rv);cases e;exact .inl ⟨_,rfl,q⟩|int b=>cases (show v=.int b from rv);cases e;exact .inl ⟨_,rfl,q⟩|str b=>cases (show v=.str b from rv);cases e;exact .inl ⟨_,rfl,q⟩|tup xs=>obtain⟨b,us,rfl,hq,_⟩:=rv;cases e;exact .inr (.inl ⟨b,us,rfl,de.of hq,q⟩)|pl xs=>obtain⟨b,us,rfl,hq,_⟩:=rv;cases e;exact .inr (.inr ⟨b,us,rfl,hq,q⟩)
 |obj n=>
  have e':(match st1[n]? with|some (.lst _)=>Δ "list"|_=>Θ)=Δ k:=e;split at e';·rename_i xs hx;cases e';obtain⟨b,us,rfl,hq,_⟩:=cC aQ (show cE st1 (.obj n)=Δ xs by show(match st1[n]? with|some (.lst xs)=>Δ xs|_=>Θ)=Δ xs;rw[hx]) rv;exact .inr (.inr ⟨b,us,rfl,hq,q⟩)
  ·cases e'
 |fb n=>cases e|fn k c=>cases e|lf k=>cases e
end
section
variable{X:Cx}{g:G}{C:Nat->List P->aR->R P}{Z:List Addr}{e:Expr}{es:List Expr}
theorem Kw(ha:PE X a (tE (ae X kt) Z (aa C ea))):PE X (.UnaryOp .USub a pos) (tE (ae X kt) Z (aa C (.neg ea))):=by
 refine PE.imp (Dz y8 ha) ?_;rintro σ H Q ⟨m,ρ,st,ar,as,h⟩;rw[kS] at h;refine⟨m,ρ,st,ar,as,(Ok.bind h).mono λx st1 m1 H1 bq aQ h1 v rv=>?_⟩;split at h1;·rename_i i;cases (show v=.int i from rv);exact⟨i,rfl,Ok.here h1 aQ (.int (-i)) rfl⟩
 ·exact h1.elim
theorem AQ(h:qR y=Ξ):wB y:=by
 intro o i;cases y<;>first
  |rfl
  |exact absurd (show Λ=Ξ from h) QF.symm
def OK:R2:=λx y H Q=>∃a v,x=.ref a/\jL H a y (Δ v)/\Q v H
theorem Gq(hu:X.A.units+100 < cLine):DE X OK:=by intro value slice η s σ H x y v u Q I rx ry h hs;obtain⟨a,w',rfl,g,q⟩:=h;cases rx;obtain⟨ob,h1,h2⟩:=sk I g a rfl;refine jN (sj I g) ?_ hs;exact xM (by lia) I g ry λw2 s3 I3 i9=>⟨w',H,I3,i9,q⟩
theorem OL(hu:X.A.units+100 < cLine)(ha:PE X a (tE (ae X kt) Z (aa C ea)))(hb:PE X b (tE (ae X kt) Z (aa C eb)))(hs:qR b=Ξ):PE X (.Subscript a b pos) (tE (ae X kt) Z (aa C (.ix ea eb))):=by
 refine PE.imp (Jb ((BX.or EL).or (Gq hu)) ha hb (AQ hs)) λσ H Q h=>wW (f:=λa b=>SR a b) (λx y v u m H st Q as rx ry h=>?_) h;obtain⟨p,e,q,_⟩:=Ok.of h as;unfold FH at e;split at e;·rename_i o ho;obtain⟨res,e1,e2⟩:=bS e;cases (show res=Δ p from e2);obtain⟨n,a,rfl,hs,hm,rfl,ao,_⟩:=nV as ho rx;obtain⟨ov,hg,h1,h2⟩:=wY ao ry e1;obtain⟨w',rfl,i9⟩:=h2 p rfl;exact .inr ⟨a,w',rfl,hg,q w' i9⟩
 left;unfold ixS at e;split at e
 ·rename_i i;cases (show u=.int i from ry);obtain⟨ps,e1,e2⟩:=bS e;obtain⟨a,us,rfl,hq,rs⟩:=fZ as e1 rx;obtain⟨j,e3,e4⟩:=bS (show(Y.xI ps.length i).bind (λj=>ps[j]?)=Δ p from e2);obtain⟨w',e5,i9⟩:=rs.get e4;have e6:L2.oE us i=Δ w':=by show(L2.xI us.length i).bind (λj=>us[j]?)=Δ w';rw[rs.length];have:L2.xI ps.length i=Δ j:=e3;rw[this];exact e5
  rcases hq with hq|hq;·exact .inl ⟨a,us,i,w',rfl,rfl,hq,e6,q w' i9⟩
  ·exact .inr ⟨a,us,i,w',rfl,rfl,de.of hq,e6,q w' i9⟩
 ·cases e
inductive tO (K:KB) (Z:List Addr) (d:cB->aR->R (Option P)) (σ:L2.St) (H:Hp) (Q:Option Int->Hp->Prop):Prop
 |mk (m:List Addr) (r:cB) (st:aR) (a:bZ K H m Z r σ) (b:ay K H m Z st) (c:Ok K Z (d r st) m H (λo _ _ H'=>∃l,jT o=Δ l/\Q l H')):tO K Z d σ H Q
theorem PO.imp(h:PO X x t)(i:∀σ H Q,t' σ H Q->t σ H Q):PO X x t':=λη s σ H Q I q=>h η s σ H Q I (i σ H Q q)
theorem CM:PO X Θ (tO (ae X kt) Z (fh C Θ)):=by refine PO.imp BU ?_;rintro σ H Q ⟨m,ρ,st,ar,as,h⟩;rw[jg] at h;obtain⟨l,e,q⟩:=Ok.here h as;cases e;exact q
theorem CN(ha:PE X x (tE (ae X kt) Z (aa C a))):PO X (Δ x) (tO (ae X kt) Z (fh C (Δ a))):=by refine PO.imp (BV ha) ?_;rintro σ H Q ⟨m,ρ,st,ar,as,h⟩;rw[nu] at h;refine⟨m,ρ,st,ar,as,(Ok.bind h).mono λp st1 m1 H1 bq aQ h1 v rv=>?_⟩;obtain⟨l,e,q⟩:=Ok.here h1 aQ;cases p with|obj n=>cases e|fb n=>cases e|fn k c=>cases e|lf k=>cases e|d y=>cases y with|int i=>cases e;cases (show v=.int i from rv);exact⟨i,rfl,q⟩|_=>cases e
theorem aj.cut{K:KB}(h:aj K H m Z xs us)lo hi:aj K H m Z (eD xs lo hi) (kG us lo hi):=by
 have r:=h.map;have hl:=h.length;unfold eD kG;rw[hl];have e:∀(n d:Nat) (o:Option Int),Y.cw n d o=HT.cw n d o:=λn d o=>by cases o<;>rfl
 rw[e,e];have q:=(r.drop (HT.cw xs.length 0 lo)).take (HT.cw xs.length xs.length hi - HT.cw xs.length 0 lo);rw[<-List.map_drop,<-List.map_take] at q;refine ag.be q ?_;generalize ((xs.drop (HT.cw xs.length 0 lo)).take (HT.cw xs.length xs.length hi - HT.cw xs.length 0 lo))=ys;induction ys with|nil=>rfl|cons y ys ih=>show((be (ys.map P.d)).map λxs=>y::xs)=_;rw[ih];rfl
theorem ag.cut{K:KB}(r:ag K H m Z xs us)lo hi:ag K H m Z (eD xs lo hi) (kG us lo hi):=by
 have hl:=r.length;unfold eD kG;rw[hl];have e:∀(n d:Nat) (o:Option Int),Y.cw n d o=HT.cw n d o:=λn d o=>by cases o<;>rfl
 rw[e,e];exact(r.drop (HT.cw xs.length 0 lo)).take (HT.cw xs.length xs.length hi - HT.cw xs.length 0 lo)
theorem CO{lo hi:Option Expr}(ha:PE X x (tE (ae X kt) Z (aa C a)))(hl:PO X lo (tO (ae X kt) Z (fh C l)))(hh:PO X hi (tO (ae X kt) Z (fh C h))):
  PE X (.Subscript x (.Slice lo hi Θ p2) pos) (tE (ae X kt) Z (aa C (.slice a l h))):=by
 refine PE.imp (zq (Ca.or BY) ha hl hh) ?_;rintro σ H Q ⟨m,ρ,st,ar,as,h0⟩;rw[lK] at h0;refine⟨m,ρ,st,ar,as,(Ok.bind h0).mono λy st1 m1 H1 bq aQ h1 v rv=>?_⟩;refine⟨m1,ρ,st1,ar.le bq,aQ,(Ok.bind h1).mono λol aF m2 H2 cO cL h2=>?_⟩;cases hr:fh C h ρ aF with
 |ex x s=>rw[hr] at h2;exact(show False from h2).elim|no=>rw[hr] at h2;exact(show False from h2).elim|ok oh cq=>
  rw[hr] at h2;simp only[ax] at h2;cases hs:jd y ol oh cq with
  |none=>rw[hs] at h2;exact(show False from h2).elim|some q=>
   have hs0:=hs;unfold jd at hs;obtain⟨il,e1,hs⟩:=bS hs;obtain⟨ih,e2,hs⟩:=bS hs;refine⟨il,e1,m2,ρ,aF,(ar.le bq).le cO,cL,?_⟩;rw[hr];intro m3 H3 j4 kr;refine⟨ih,e2,?_⟩;rw[hs0] at h2;have rv3:=(rv.le cO).le j4;have fin:∀xs,cE cq y=Δ xs->(be (eD xs il ih)).map (λys=>P.d (.pl ys))=Δ q->(Js v il ih H3 Q\/Jd X.K v il ih H3 Q):=λxs hx hz=>by obtain⟨ys,hy,rfl⟩:=dZ hz;obtain⟨b,us,rfl,hq,rs⟩:=cC kr hx rv3;refine .inr ⟨b,us,rfl,.inl hq,λp hp=>?_⟩;exact AH kr ((rs.cut il ih).be hy) hp (Ok.le h2 j4)
   split at hs;·rename_i xs;cases hs;obtain⟨b,us,rfl,hq,rs⟩:=rv3;refine .inl ⟨b,us,rfl,hq,λr H' sm hr=>?_⟩;have le:Le (ae X kt) m3 H3 m3 H':=Le.same sm;exact h2 m3 H' (j4.trans le) (kr.same sm) (.ref r) ⟨r,_,rfl,hr,(rs.cut il ih).le le⟩
   ·obtain⟨xs,e3,hs⟩:=bS hs;exact fin xs e3 hs
theorem Kx(ha:PE X x (tE (ae X kt) Z (aa C a))):PE X (.Subscript x (.Slice Θ Θ (Δ (.UnaryOp .USub (.Constant (.int 1) k p1) p2)) p3) pos) (tE (ae X kt) Z (aa C (.rev a))):=by
 refine PE.imp (Cb ha (Dz y8 uC)) ?_;rintro σ H Q ⟨m,ρ,st,ar,as,h0⟩;rw[pS] at h0;refine⟨m,ρ,st,ar,as,(Ok.bind h0).mono λy st1 m1 H1 bq aQ h1 v rv=>?_⟩;split at h1;·rename_i xs;obtain⟨b,us,rfl,hq,rs⟩:=rv;exact⟨1,rfl,b,us,rfl,rfl,hq,λp hp=>j0 (α:=Unit) aQ rs.reverse hp h1⟩
 ·exact h1.elim
theorem o5{K:KB}(h:ag K H m Z [p] vs):∃v,vs=[v]/\ai K H m Z p v:=by obtain⟨v,k9,rfl,rv,e⟩:=(show ∃v k9,vs=v::k9/\ai K H m Z p v/\k9=[] from h);subst e;exact⟨v,rfl,rv⟩
theorem Gr{K:KB}(h:ag K H m Z [p,q] vs):∃v u,vs=[v,u]/\ai K H m Z p v/\ai K H m Z q u:=by obtain⟨v,k9,rfl,rv,h'⟩:=(show ∃v k9,vs=v::k9/\ai K H m Z p v/\ag K H m Z [q] k9 from h);obtain⟨u,rfl,ru⟩:=o5 h';exact⟨v,u,rfl,rv,ru⟩
def OM(K:P5):Bf->List V->Hp->VK->Prop
 |.any=>λxs H Q=>∃(p:Addr) (bs:List Bool),xs=[.ref p]/\ir K H p (bs.map V.bl)/\Q (.bl (bs.any id)) H|.len=>λxs H Q=>(∃p n,xs=[.ref p]/\Jt H p n/\Q (.int n) H)\/(∃p ys,xs=[.ref p]/\(ir K H p ys\/de K H p ys)/\Q (.int ys.length) H)\/(∃z,xs=[.str z]/\z.length<=Qi/\Q (.int z.length) H)|.str=>λxs H Q=>∃i,xs=[.int i]/\i.natAbs.log2 < 1920/\Q (.str (toString i)) H|.tuple=>λxs H Q=>∃p ys,xs=[.ref p]/\((ir K H p ys/\∀l,H l=Θ->Q (.ref l) (upd H l (.tup ys)))\/(de K H p ys/\Q (.ref p) H))
noncomputable def Ky:Bf->Value
 |.len=>.builtin "len"|.any=>.builtin "any"|.str=>.type "str"|.tuple=>.type "tuple"
theorem tX(h:dD X f r)(h':dD X f r'):dD X f (λxs H Q=>r xs H Q\/r' xs H Q):=by
 intro η s σ H xs us Q I rv q;rcases q with q|q;·exact h η s σ H xs us Q I rv q
 ·exact h' η s σ H xs us Q I rv q
theorem CP(hc:X.calm=Λ):∀f,dD X (Ky f) (OM X.K f)
 |.len=>tX qC (tX qy qz)|.any=>xV hc|.str=>qt|.tuple=>oM
theorem tY{K:KB}:∀{ps} {bs} {us},ag K H m Z ps us->boolsOf ps=Δ bs->us=bs.map V.bl
 |[],bs,us,h,e=>by cases e;exact h|p::ps,bs,us,h,e=>by
  obtain⟨v,vs,rfl,r,rs⟩:=(show ∃v vs,us=v::vs/\ai K H m Z p v/\ag K H m Z ps vs from h);unfold boolsOf at e;split at e;·rename_i e0;cases e0
  ·rename_i b r' e0;cases e0;obtain⟨cs,e1,rfl⟩:=dZ e;cases (show v=.bl b from r);rw[tY rs e1];rfl
  ·cases e
theorem Kz{K:KB}{st:aR}(as:ay K H m Z st)(rx:ag K H m Z ps vs)(h:Ok K Z (R.of (Bw f ps st) st) m H (λp _ m' H'=>∀v,ai K H' m' Z p v->Q v H')):OM K.K f vs H Q:=by
 obtain⟨p,e,q,qq⟩:=Ok.of h as;unfold Bw at e;split at e
 ·rename_i p0;obtain⟨v,rfl,rv⟩:=o5 rx;split at e
  ·rename_i x;cases (show v=.str x from rv);split at e;·rename_i hc;cases e;exact .inr (.inr ⟨x,rfl,by rw[<-cG];exact hc,q _ rfl⟩)
   ·cases e
  ·split at e
   ·rename_i o ho;cases e;obtain⟨n,a,rfl,hs,hm,rfl,ao,hd⟩:=nV as ho rv;refine .inl ⟨a,J8 o,rfl,?_,q _ rfl⟩;cases o with
    |lst xs=>cases hd|ins c fs=>cases hd|rW=>cases hd|dK kvs=>obtain⟨us,hu,rs⟩:=ao;exact .inl ⟨us,.inl hu,rs.length⟩
    |dT kvs=>obtain⟨us,hu,rs⟩:=ao;exact .inr ⟨us,.inl hu,rs.length⟩
   ·obtain⟨xs,e1,rfl⟩:=dZ e;obtain⟨a,us,rfl,hq,rs⟩:=fZ as e1 rv;refine .inr (.inl ⟨a,us,rfl,AG hq,?_⟩);rw[rs.length];exact q _ rfl
 ·obtain⟨v,rfl,rv⟩:=o5 rx;obtain⟨xs,e1,e⟩:=bS e;obtain⟨bs,e2,rfl⟩:=dZ e;obtain⟨a,us,rfl,hq,rs⟩:=cC as e1 rv;have:=tY rs e2;subst this;exact⟨a,bs,rfl,.inl hq,q _ rfl⟩
 ·rename_i i;obtain⟨v,rfl,rv⟩:=o5 rx;cases (show v=.int i from rv);split at e;·rename_i hc;cases e;exact⟨i,rfl,hc,q _ rfl⟩
  ·cases e
 ·obtain⟨v,rfl,rv⟩:=o5 rx;obtain⟨xs,e1,e⟩:=bS e;obtain⟨ys,e2,rfl⟩:=dZ e;obtain⟨a,us,rfl,hq,rs⟩:=fZ as e1 rv;have rr:=rs.be e2;rcases hq with hq|hq;·exact⟨a,us,rfl,.inl ⟨hq,λl hl=>j0 (α:=Unit) as rr hl qq⟩⟩
  ·exact⟨a,us,rfl,.inr ⟨de.of hq,q (.ref a) ⟨a,us,rfl,hq,rr⟩⟩⟩
 ·cases e
theorem ON(T:Good X kt g C)(hg:g.gl (qQ f)=Λ)(hs:∀y∈x::xs,notStar y=Λ)(h:PA X (x::xs) (tA (ae X kt) Z (aD C bT))):
  PE X (.Call (.Name (qQ f) p) (x::xs) [] pos) (tE (ae X kt) Z (aa C (.bf f bT))):=by
 have red:∀σ H Q,tE (ae X kt) Z (aa C (.bf f bT)) σ H Q->M7 (OM X.K f) (tA (ae X kt) Z (aD C bT)) σ H Q:=by rintro σ H Q ⟨m,ρ,st,ar,as,h⟩;rw[tu] at h;exact⟨m,ρ,st,ar,as,(Ok.bind h).mono λqs st1 m1 H1 bq aQ h1 vs eX=>Kz aQ eX h1⟩
 have s1:=br (env:=X.env) (es:=xs) (hs x P7);have s2:(Rx pos (Qo xs X.env)).any (·.1)=Ξ:=dR λz hz=>hs z (P6 _ hz);have hc:=CP (X:=X) T.calm f;cases f with|len=>exact PE.imp (gR (id:="len") hc (T.glob hg) (T.bl _ (by decide+kernel)) PySem.boot_len h (by decide+kernel) (by decide+kernel) s1 s2) red|any=>exact PE.imp (gR (id:="any") hc (T.glob hg) (T.bl _ (by decide+kernel)) boot_any h (by decide+kernel) (by decide+kernel) s1 s2) red|str=>exact PE.imp (eU (T:="str") hc (T.glob hg) (T.bl _ (by decide+kernel)) boot_str h (by decide+kernel) (by decide+kernel) s1 s2) red|tuple=>exact PE.imp (eU (T:="tuple") hc (T.glob hg) (T.bl _ (by decide+kernel)) boot_tuple h (by decide+kernel) (by decide+kernel) s1 s2) red
theorem AR:∀(t) (k),Y.lG t k=L2.lG t k
 |[],_=>rfl|(y,i)::r,k=>by show(if k=y then Δ i else Y.lG r k)=(if k=y then Δ i else L2.lG r k);rw[AR r k]
theorem Gs(T:Good X kt g C)(hl:(ap.endLine==cp.line)=Λ)(hg:g.gl d=Λ)(hp:aO d=Λ)(ht:g.tabs.lookup d=Δ t)(ha:PE X x (tE (ae X kt) Z (aa C a)))(hs:notStar x=Λ):
  PE X (.Call (.Attribute (.Name d dp) "get" ap) [x] [] cp) (tE (ae X kt) Z (aa C (.vo t a))):=by
 obtain⟨ad,hm,tb⟩:=T.tb d t ht;have s1:Qo [x] X.env=[(Ξ,eval x X.env)]:=br hs;refine PE.imp (xU tb (ql (v:=.ref ad) (T.glob hg) hm rfl (pn hp).1) ha ⟨rfl,by rw[s1];rfl,hl,by rw[s1];rfl⟩) ?_;rintro σ H Q ⟨m,ρ,st,ar,as,h0⟩;rw[vq] at h0;refine⟨rfl,m,ρ,st,ar,as,(Ok.bind h0).mono λy st1 m1 H1 bq aQ h1 v rv=>?_⟩;split at h1;·rename_i k;cases (show v=.str k from rv);refine⟨k,rfl,?_⟩;rw[<-AR];cases hk:Y.lG t k with|none=>rw[hk] at h1;exact Ok.here h1 aQ .bu rfl|some i=>rw[hk] at h1;exact Ok.here h1 aQ (.int i) rfl
 ·exact h1.elim
theorem Gu:PE X (.Dict [] [] pos) (tE (ae X kt) Z (aa C (.Al t))):=by
 have red:∀(ho:HO) (ob:O),(∀H m Z a,H a=Δ ho->l9 (ae X kt) H m Z a ob)->∀(σ:L2.St) (H:Hp) (Q:VK) m ρ st,bZ (ae X kt) H m Z ρ σ->ay (ae X kt) H m Z st->
   Ok (ae X kt) Z (R.ok (P.obj st.length) (st++[ob])) m H (λp _ m' H'=>∀v,ai (ae X kt) H' m' Z p v->Q v H')->∀p,H p=Θ->Q (.ref p) (upd H p ho):=by
  intro ho ob Ag σ H Q m ρ st ar as h p hp;have hz:p∉Z:=(as.fresh hp).2;refine h (m++[p]) (upd H p ho) ((Le.same (aW hp _)).grow hp) ((as.laid hp ho (λφ z=>(Ag (upd H p ho) m Z p aA).lW.2.2.2.1 φ (by rw[aA,z]))).nM hz (Ag _ _ _ _ aA)) (.ref p) ⟨p,?_,rfl⟩;rw[Qu (by rw[as.len];exact P8 _),as.len];simp
 cases t with
 |false=>refine PE.imp zw ?_;rintro σ H Q ⟨m,ρ,st,ar,as,h⟩;rw[jf] at h;exact red (.dK []) (.dK []) (λH m Z a e=>⟨[],e,rfl⟩) σ H Q m ρ st ar as h
 |true=>refine PE.imp zx ?_;rintro σ H Q ⟨m,ρ,st,ar,as,h⟩;rw[jf] at h;exact red (.dT []) (.dT []) (λH m Z a e=>⟨[],e,rfl⟩) σ H Q m ρ st ar as h
theorem PE.or(h1:PE X e t1)(h2:PE X e t2):PE X e (λσ H Q=>t1 σ H Q\/t2 σ H Q):=λη s σ H Q I h=>h.elim (h1 η s σ H Q I) (h2 η s σ H Q I)
theorem Gv(T:Good X kt g C)(hk:wU g k kx=Λ)(hv:tP x vx=Λ):PE X (.Dict [Δ kx] [vx] pos) (tE (ae X kt) Z (aa C (.Ao k x))):=by
 obtain⟨v,pv,rv⟩:=AF (X:=X) hv;obtain⟨tk,pk,rk⟩:=Cy (Z:=Z) T hk;refine PE.imp (PE.or (B2 (su pk pv wC) rfl rfl (by simp) (by simp)) (Aa (by have:=T.hu;lia) pk pv)) ?_;rintro σ H Q ⟨m,ρ,st,ar,as,h⟩;rw[vB] at h;rcases rk (st:=st) ar with e|⟨y,u,e,ru,q⟩;·rw[e] at h;exact h.elim
 rw[e,ax] at h;obtain⟨o,eo,h2,cA⟩:=Ok.of (Ok.bind h) as;clear cA;unfold FN at eo;cases Ft:keyOf y with
 |some kk=>rw[Ft] at eo;cases eo;cases ru.key Ft;refine .inl λp hp=>q _ _ ⟨aA,[(kk,v)],rfl,by simp,?_⟩;rw[we];have hz:p∉Z:=(as.fresh hp).2;have ho:upd H p (.dK (kJ [] [(kk,v)]))=upd H p (.dK [(kk,v)]):=rfl;rw[ho];refine h2 (m++[p]) (upd H p (.dK [(kk,v)])) ((Le.same (aW hp _)).grow hp) ((as.laid hp (HO.dK [(kk,v)]) (λφ z=>nomatch z)).nM hz ⟨[(kk,v)],aA,v,[],rfl,rv _ _ _ _,rfl⟩) (.ref p) ⟨p,?_,rfl⟩;rw[Qu (by rw[as.len];exact P8 _),as.len];simp|none=>
  rw[Ft] at eo;obtain⟨kk,xX,rfl⟩:=dZ (show(jS y).map (λk=>O.dT [(k,P.d x)])=Δ o from eo);obtain⟨b,rfl,hb⟩:=ru.jS xX;refine .inr λp hp=>q _ _ ⟨aA,kk,b,rfl,?_,?_⟩;·rw[av (λz=>by rw[z,hp] at hb;cases hb)];exact hb
  rw[we];have hz:p∉Z:=(as.fresh hp).2;refine h2 (m++[p]) (upd H p (.dT [(kk,v)])) ((Le.same (aW hp _)).grow hp) ((as.laid hp (HO.dT [(kk,v)]) (λφ z=>nomatch z)).nM hz ⟨[(kk,v)],aA,v,[],rfl,rv _ _ _ _,rfl⟩) (.ref p) ⟨p,?_,rfl⟩;rw[Qu (by rw[as.len];exact P8 _),as.len];simp
theorem lg(h:isCall o=Ξ):R9 o n env w=w:=by
 cases o with
 |Call f xs ks p=>
  cases f with
  |Name x q=>
   cases xs with
   |nil=>cases ks with|nil=>exact absurd (show Λ=Ξ from h) QF.symm|cons _ _=>rfl
   |cons _ _=>rfl
  |_=>rfl
 |_=>rfl
theorem AS{K:KB}(ao:l9 K H m Z a o)(hd:pO o=Λ):L4 H a:=by cases o with|lst xs=>cases hd|ins c fs=>cases hd|rW=>cases hd|dK kvs=>obtain⟨us,hu,_⟩:=ao;exact .inl ⟨us,.inl hu⟩|dT kvs=>obtain⟨us,hu,_⟩:=ao;exact .inr ⟨us,.inl hu⟩
noncomputable def WalksU(K:KB)(J:It)(us:List V)(m:List Addr)(H:Hp):Prop:=
 ∀m2 H2,Le K m H m2 H2->∀i:Nat,(i < us.length->J.go i H2/\∀x H3,J.ID i H2 x H3->H3=H2/\us[i]?=Δ x)/\(us.length<=i->J.stop i H2)
def Walks(K:KB)(Z:List Addr)(J:It)(ps:List P)(m:List Addr)(H:Hp):Prop:=
 ∀m2 H2 Z2,Le K m H m2 H2->(∀a∈Z2,a∈Z\/H a=Θ)->∀i:Nat,(∀p,ps[i]?=Δ p->J.go i H2/\∀x H3,J.ID i H2 x H3->fS H2 H3/\ai K H3 m2 Z2 p x)/\(i=ps.length->J.stop i H2)
inductive tW (K:KB) (Z:List Addr) (d:cB->aR->R (List P)) (σ:L2.St) (H:Hp) (S:It->Hp->Prop):Prop
 |mk (m:List Addr) (r:cB) (st:aR) (a:bZ K H m Z r σ) (b:ay K H m Z st) (c:Ok K Z (d r st) m H (λps _ m' H'=>∀J,Walks K Z J ps m' H'->S J H')):tW K Z d σ H S
mutual
theorem aI.gb{K:KB}{H:Hp}{m Z Z2:List Addr}(hz:∀a∈Z2,a∈Z\/H a=Θ):∀{x:D} {v:V},aI K H m Z x v->aI K H m Z2 x v
 |.bu,_,h=>h|.bl _,_,h=>h|.int _,_,h=>h|.str _,_,h=>h|.tup xs,v,h=>by obtain⟨a,us,e,q,r⟩:=(show ∃a us,v=.ref a/\H a=Δ (.tup us)/\aj K H m Z xs us from h);exact⟨a,us,e,q,aj.gb hz r⟩
 |.pl xs,v,h=>by
  obtain⟨a,us,e,q,hm,hn,r⟩:=(show ∃a us,v=.ref a/\Rd H a (.lst us)/\a∉m/\a∉Z/\aj K H m Z xs us from h);refine⟨a,us,e,q,hm,λz=>?_,aj.gb hz r⟩;rcases hz a z with y|y;·exact hn y
  ·exact AB q y
theorem aj.gb{K:KB}{H:Hp}{m Z Z2:List Addr}(hz:∀a∈Z2,a∈Z\/H a=Θ):∀{xs:List D} {us:List V},aj K H m Z xs us->aj K H m Z2 xs us
 |[],_,h=>h|x::xs,us,h=>by obtain⟨v,vs,e,r,rs⟩:=(show ∃v vs,us=v::vs/\aI K H m Z x v/\aj K H m Z xs vs from h);exact⟨v,vs,e,aI.gb hz r,aj.gb hz rs⟩
end
mutual
theorem ai.gb{K:KB}{H:Hp}{m Z Z2:List Addr}(hz:∀a∈Z2,a∈Z\/H a=Θ):∀{x:P} {v:V},ai K H m Z x v->ai K H m Z2 x v
 |.d _,_,h=>by rw[ai] at h ⊢;exact aI.gb hz h|.obj _,_,h=>by rw[ai] at h ⊢;exact h|.fb _,_,h=>by rw[ai] at h ⊢;exact h|.fn k bx,v,h=>by rw[ai] at h ⊢;obtain⟨a,c,bN,e,q,hc,r⟩:=h;exact⟨a,c,bN,e,q,hc,ag.gb hz r⟩
 |.lf k,v,h=>by rw[ai] at h ⊢;exact h
theorem ag.gb{K:KB}{H:Hp}{m Z Z2:List Addr}(hz:∀a∈Z2,a∈Z\/H a=Θ):∀{xs:List P} {us:List V},ag K H m Z xs us->ag K H m Z2 xs us
 |[],_,h=>h|x::xs,us,h=>by rw[ag] at h ⊢;obtain⟨v,vs,e,r,rs⟩:=h;exact⟨v,vs,e,ai.gb hz r,ag.gb hz rs⟩
end
theorem WalksU.walks{K:KB}(w:WalksU K J us m H)(r:ag K H m Z ps us):Walks K Z J ps m H:=by intro m2 H2 Z2 le hz i;obtain⟨w1,w2⟩:=w m2 H2 le i;refine⟨λp hp=>?_,λh=>w2 (by rw[r.length];exact TZ h.symm)⟩;obtain⟨v,hv,rv⟩:=r.get hp;obtain⟨go,yl⟩:=w1 (qqz hv).1;refine⟨go,λx H3 hy=>?_⟩;obtain⟨rfl,hx⟩:=yl x H3 hy;rw[hv] at hx;cases hx;exact⟨λ_ _ e=>e,(rv.gb hz).le le⟩
theorem PI.imp(h:PI X tg iter t)(i:∀σ H Q,t' σ H Q->t σ H Q):PI X tg iter t':=λη s σ H Q I q=>h η s σ H Q I (i σ H Q q)
theorem CQ{K:KB}(h:H a=Δ (.tup us)):WalksU K (MV K.K a) us m H:=λm2 H2 le i=>by have h2:de K.K H2 a us:=de.of (le.tup _ _ h);refine⟨λhi=>⟨⟨us,us[i],h2,by simp[hi]⟩,λx H3 ⟨e,y⟩=>⟨e,y us h2⟩⟩,λhi=>⟨us,h2,hi⟩⟩
theorem CS{K:KB}(h:Rd H a (.lst us))(hm:a∉m):WalksU K (MU K.K a) us m H:=λm2 H2 le i=>by have h2:ir K.K H2 a us:=.inl (le.rd h hm);refine⟨λhi=>⟨⟨us,us[i],h2,by simp[hi]⟩,λx H3 ⟨e,y⟩=>⟨e,y us h2⟩⟩,λhi=>⟨us,h2,hi⟩⟩
theorem xa{K:KB}{lo hi:Int}:WalksU K (Er lo (hi - lo).toNat) ((Rq (hi - lo).toNat).map λk=>V.int (lo+(k:Nat))) m H:=λm2 H2 le i=>by
 refine⟨λh=>⟨by show i < (hi - lo).toNat;rw[Qv,Sw] at h;exact h,λx H3 ⟨e,y⟩=>⟨e,?_⟩⟩,λh=>by show(hi - lo).toNat<=i;rw[Qv,Sw] at h;exact h⟩;have h':i < (hi - lo).toNat:=by rw[Qv,Sw] at h;exact h
 rw[QA,List.getElem?_range h',y];rfl
theorem mB{K:KB}lo:∀l:List Nat,ag K H m Z (l.map λk=>P.d (.int (lo+(k:Nat)))) (l.map λk=>V.int (lo+(k:Nat)))
 |[]=>rfl|k::l=>⟨_,_,rfl,rfl,mB lo l⟩
theorem KA(ha:PE X x (tE (ae X kt) Z (aa C a))):PI X tg x (tW (ae X kt) Z (cu C (.ex a))):=by
 intro η s σ H S I h;obtain⟨m,ρ,st,ar,as,h0⟩:=h;rw[Ax] at h0;cases hr:aa C a ρ st with
 |ex x s=>rw[hr] at h0;exact(show False from h0).elim|no=>rw[hr] at h0;exact(show False from h0).elim|ok y st1=>
  rw[hr] at h0;simp only[ax] at h0;unfold kQ at h0;split at h0;·rename_i xs;refine Es ha η s σ H S I ⟨m,ρ,st,ar,as,?_⟩;rw[hr];intro m1 H1 bq aQ v rv;obtain⟨b,us,rfl,hq,rs⟩:=rv;exact⟨b,rfl,⟨us,de.of hq⟩,h0 m1 H1 bq aQ _ ((CQ hq).walks rs.map)⟩
  ·rename_i xs;refine mj ha η s σ H S I ⟨m,ρ,st,ar,as,?_⟩;rw[hr];intro m1 H1 bq aQ v rv;obtain⟨b,us,rfl,hq,hm,_,rs⟩:=rv;exact⟨b,rfl,⟨us,.inl hq⟩,h0 m1 H1 bq aQ _ ((CS hq hm).walks rs.map)⟩
  ·exact(show False from h0).elim
theorem Gw(T:Good X kt g C)(hg:g.gl "range"=Λ)(aJ:dY g bT xs=Λ)(h:PA X xs (tA (ae X kt) Z (aD C bT))):PI X tg (.Call (.Name "range" p) xs [] pos) (tW (ae X kt) Z (cu C (.jx bT))):=by
 intro η s σ H S I h1;obtain⟨m,ρ,st,ar,as,h0⟩:=h1;rw[yu] at h0;cases hr:aD C bT ρ st with
 |ex x s=>rw[hr] at h0;exact(show False from h0).elim|no=>rw[hr] at h0;exact(show False from h0).elim|ok ps st1=>
  rw[hr] at h0;simp only[ax] at h0;have hl:=eh aJ;have oU:=dM hr;have qo:=b9 aJ;unfold qM at h0;split at h0
  ·rename_i j
   match xs,hl,qo,h with
   |[x],_,qo,h=>
    split at h0;·rename_i hc;refine xA (T.glob hg) (T.bl _ (by decide+kernel)) h (br (qo x P7)) η s σ H S I ⟨m,ρ,st,ar,as,?_⟩;rw[hr];intro m1 H1 bq aQ vs eX;obtain⟨v,rfl,rv⟩:=o5 eX;cases (show v=.int j from rv);have q:=h0 m1 H1 bq aQ (Er 0 (j - 0).toNat) ((xa (lo:=0) (hi:=j)).walks (mB 0 _));rw[Int.sub_zero] at q;exact⟨j,rfl,hc.1,hc.2,q⟩
    ·exact(show False from h0).elim
   |[],hl,_,_=>simp at hl;rw[<-hl] at oU;simp at oU|_::_::_,hl,_,_=>rw[<-oU] at hl;simp at hl
  ·rename_i i j
   match xs,hl,qo,h with
   |[x,y],_,qo,h=>
    split at h0;·rename_i hc;have sy:Qo [y] X.env=[(Ξ,eval y X.env)]:=br (qo y (by simp));refine xB (T.glob hg) (T.bl _ (by decide+kernel)) h (by rw[br (qo x P7),sy]) sy η s σ H S I ⟨m,ρ,st,ar,as,?_⟩;rw[hr];intro m1 H1 bq aQ vs eX;obtain⟨v,u,rfl,rv,ru⟩:=Gr eX;cases (show v=.int i from rv);cases (show u=.int j from ru);exact⟨i,j,rfl,hc,h0 m1 H1 bq aQ (Er i (j - i).toNat) ((xa (lo:=i) (hi:=j)).walks (mB i _))⟩
    ·exact(show False from h0).elim
   |[],hl,_,_=>rw[<-oU] at hl;simp at hl|[_],hl,_,_=>rw[<-oU] at hl;simp at hl|_::_::_::_,hl,_,_=>rw[<-oU] at hl;simp at hl
  ·exact(show False from h0).elim
theorem tZ:∀{xs} {k i:Nat} {p:P},(hG k xs)[i]?=Δ p->∃x,xs[i]?=Δ x/\p=.d (.tup [.int (k+i:Nat),x])
 |[],k,i,p,h=>by simp[hG] at h|x::xs,k,i,p,h=>by cases i with|zero=>simp[hG] at h;exact⟨x,rfl,by rw[<-h];simp⟩|succ i=>obtain⟨y,e1,e2⟩:=tZ (xs:=xs) (k:=k+1) (i:=i) (by simpa[hG] using h);exact⟨y,by simpa using e1,by rw[e2];congr 4;lia⟩
theorem t7:∀{xs} {k},(hG k xs).length=xs.length
 |[],_=>rfl|x::xs,k=>by simp[hG,t7 (xs:=xs) (k:=k+1)]
theorem CT{K:KB}(ha:H a=Δ (.tup us))(r:aj K H m Z xs us):Walks K Z (NX K.K a) (hG 0 xs) m H:=by intro m2 H2 Z2 le hz i;have OO:=le.tup _ _ ha;refine⟨λp hp=>?_,λh=>⟨us,de.of OO,by rw[t7] at h;rw[r.length];exact TZ h.symm⟩⟩;obtain⟨x,hx,rfl⟩:=tZ hp;obtain⟨v,hv,rv⟩:=r.map.get (i:=i) (p:=.d x) (by rw[QA,hx];rfl);refine⟨⟨us,v,de.of OO,hv⟩,?_⟩;rintro y H3 ⟨T,v',hT,rfl,rfl,hy⟩;have e:=hy us (de.of OO);rw[hv] at e;cases e;have sm:fS H2 (upd H2 T (.tup [.int (i:Nat),v])):=aW hT _;refine⟨sm,T,[.int (i:Nat),v],rfl,aA,_,_,rfl,?_,v,[],rfl,((aI.gb hz rv).le le).le (Le.same sm),rfl⟩;show V.int (i:Nat)=V.int ((0+i:Nat):Int);rw[Nat.zero_add]
theorem CU(T:Good X kt g C)(hg:g.gl "enumerate"=Λ)(ha:PE X x (tE (ae X kt) Z (aa C a)))(hs:notStar x=Λ):
  PI X (.Tuple elts kk p3) (.Call (.Name "enumerate" p) [x] [] pos) (tW (ae X kt) Z (cu C (.enum a))):=by
 refine PI.imp (zO (T.glob hg) (T.bl _ (by decide+kernel)) (gE ha lR hs) (br hs)) ?_;rintro σ H S ⟨m,ρ,st,ar,as,h0⟩;rw[vF] at h0;refine⟨m,ρ,st,ar,as,?_⟩;show Ok (ae X kt) Z (aD C [a] ρ st) m H _;simp only[bh,aX];cases hr:aa C a ρ st with
 |ex x s=>rw[hr] at h0;exact(show False from h0).elim|no=>rw[hr] at h0;exact(show False from h0).elim|ok y st1=>
  rw[hr] at h0;simp only[ax] at h0 ⊢;intro m1 H1 bq aQ vs eX;obtain⟨v,rfl,rv⟩:=o5 eX;split at h0;·rename_i xs;obtain⟨b,us,rfl,hq,rs⟩:=rv;exact⟨b,rfl,⟨us,de.of hq⟩,h0 m1 H1 bq aQ _ (CT hq rs)⟩
  ·exact(show False from h0).elim
theorem Gx(T:Good X kt g C)(hg:g.gl "range"=Λ)(Kv:g.gl "list"=Λ)(aJ:dY g bT xs=Λ)(h:PA X xs (tA (ae X kt) Z (aD C bT))):
  PE X (.Call (.Name "list" p2) [.Call (.Name "range" p) xs [] pos] [] JL) (tL (ae X kt) Z (bR C (.jx bT))):=by
 have qo:=b9 aJ;have hl:=eh aJ;cases xs with
 |nil=>rintro η s σ H Q I ⟨m,ρ,st,ar,as,h0⟩;cases bT with|nil=>exact(show False from h0).elim|cons a b=>simp at hl
 |cons x xs=>
  have s1:=br (env:=X.env) (es:=xs) (qo x P7);have s2:(Rx pos (Qo xs X.env)).any (·.1)=Ξ:=dR λz hz=>qo z (P6 _ hz);refine PE.imp (eU (oP T.calm) (T.glob Kv) (T.bl _ (by decide+kernel)) U6 (eM (eU sF (T.glob hg) (T.bl _ (by decide+kernel)) boot_range h (by decide+kernel) (by decide+kernel) s1 s2) kE) (by decide+kernel) (by decide+kernel) rfl rfl) ?_;rintro σ H Q ⟨m,ρ,st,ar,as,h0⟩;refine⟨m,ρ,st,ar,as,?_⟩;rw[yr] at h0;cases hr:aD C bT ρ st with
  |ex x s=>rw[hr] at h0;exact(show False from h0).elim|no=>rw[hr] at h0;exact(show False from h0).elim|ok ps st1=>
   rw[hr] at h0;simp only[ax] at h0;intro m1 H1 bq aQ vs eX;have fin:∀lo hi:Int,(-l8<=lo/\lo < l8/\ -l8<=hi/\hi < l8)->LQ (ae X kt) Z (R.bind (R.of (Δ (Cq lo hi)) st1) λqs aF=>if qs.length<=aB then R.ok qs aF else R.no) m H Q->∀q,H1 q=Θ->
     ∃p HM E5,[V.ref q]=[.ref p]/\upd H1 q (.jx lo hi) p=Δ (.jx HM E5)/\(-(2 ^ 62)<=HM/\HM < 2 ^ 62/\ -(2 ^ 62)<=E5/\E5 < 2 ^ 62)/\(E5 - HM).toNat<=Qi/\∀l,upd H1 q (.jx lo hi) l=Θ->Q (.ref l) (upd (upd H1 q (.jx lo hi)) l (.lst (u9 HM (E5 - HM).toNat))):=by
    intro lo hi hb hQ q hq;simp only[dh,ax] at hQ;split at hQ
    ·rename_i hc;refine⟨q,lo,hi,rfl,aA,hb,?_,λl hl=>?_⟩;·unfold Cq at hc;rw[Qv,Sw] at hc;rw[<-cG];exact hc
     ·have cO:Le (ae X kt) m1 H1 m1 (upd H1 q (.jx lo hi)):=Le.same (aW hq _);exact j3 (bq.trans cO) (aQ.same (aW hq _)) (mB lo _) hl hQ
    ·exact hQ.elim
   cases hp:qM ps with
   |none=>rw[hp] at h0;exact(show False from h0).elim|some qs=>
    rw[hp] at h0;unfold qM at hp;split at hp
    ·rename_i j;split at hp;·rename_i hc;cases hp;obtain⟨v,rfl,rv⟩:=o5 eX;cases (show v=.int j from rv);exact⟨0,j,.inr ⟨rfl,rfl⟩,fin 0 j ⟨by unfold l8;lia,by unfold l8;lia,hc.1,hc.2⟩ h0⟩
     ·cases hp
    ·rename_i i j;split at hp;·rename_i hc;cases hp;obtain⟨v,u,rfl,rv,ru⟩:=Gr eX;cases (show v=.int i from rv);cases (show u=.int j from ru);exact⟨i,j,.inl rfl,fin i j hc h0⟩
     ·cases hp
    ·cases hp
theorem ag.of_get{K:KB}:∀{ps} {ts},ts.length=ps.length->(∀(j:Nat) p t,ps[j]?=Δ p->ts[j]?=Δ t->ai K H m Z p t)->ag K H m Z ps ts
 |[],ts,hl,_=>by cases ts with|nil=>rfl|cons t ts=>simp at hl
 |p::ps,ts,hl,h=>by cases ts with|nil=>simp at hl|cons t ts=>exact⟨t,ts,rfl,h 0 p t rfl rfl,ag.of_get (by simpa using hl) λj p' t' e e'=>h (j+1) p' t' (by simpa using e) (by simpa using e')⟩
theorem aj.get{K:KB}{j:Nat}(h:aj K H m Z xs us)(e:xs[j]?=Δ x)(e':us[j]?=Δ u):aI K H m Z x u:=by obtain⟨v,ev,rv⟩:=h.map.get (i:=j) (p:=.d x) (by rw[QA,e];rfl);rw[e'] at ev;cases ev;exact rv
theorem Gy(T:Good X kt g C)(hg:g.gl "zip"=Λ)(Kv:g.gl "list"=Λ)(ha:PE X x1 (tE (ae X kt) Z (aa C a)))(h1:notStar x1=Λ)(hb:PE X x2 (tE (ae X kt) Z (aa C b)))(h2:notStar x2=Λ):
  PE X (.Call (.Name "list" p2) [.Call (.Name "zip" p) [x1,x2] [] pos] [] JL) (tL (ae X kt) Z (bR C (.zip a b))):=by
 refine PE.imp (sL T.calm (T.glob Kv) (T.bl _ (by decide+kernel)) (T.glob hg) (T.bl _ (by decide+kernel)) (gE ha (gE hb lR h2) h1) (br h1) (dR λz hz=>?_)) ?_
 ·have:z=x2:=by simpa using hz
  rw[this];exact h2
 rintro σ H Q ⟨m,ρ,st,ar,as,h0⟩;refine⟨m,ρ,st,ar,as,?_⟩;rw[yt] at h0;simp only[bh,aX];cases hr:aa C a ρ st with
 |ex x s=>rw[hr] at h0;exact(show False from h0).elim|no=>rw[hr] at h0;exact(show False from h0).elim|ok x st1=>
  rw[hr] at h0;simp only[ax] at h0 ⊢;cases OP:aa C b ρ st1 with
  |ex x s=>rw[OP] at h0;exact(show False from h0).elim|no=>rw[OP] at h0;exact(show False from h0).elim|ok y aF=>
   rw[OP] at h0;simp only[ax] at h0 ⊢;intro m1 H1 bq aQ vs eX;obtain⟨v,u,rfl,rv,ru⟩:=Gr eX;unfold Cr at h0;split at h0
   ·rename_i xs ys;obtain⟨va,us,rfl,hva,rx⟩:=rv;obtain⟨vb,ws,rfl,hvb,ry⟩:=ru;refine⟨va,vb,us,ws,rfl,de.of hva,de.of hvb,λl H' ts sm hl jw hp=>?_⟩;simp only[dh,ax] at h0;have cO:Le (ae X kt) m1 H1 m1 H':=Le.same sm;refine h0 m1 H' l ts (bq.trans cO) (bq.w8 hl) (aQ.fresh hl).1 jw (aQ.Ke hl sm (by rw[bj jw (λ_ z=>nomatch z)];exact λz=>nomatch z)) (ag.of_get ?_ λj p t e e'=>?_);·rw[hp.1,Qv,Qv,List.length_zip,rx.length,ry.length]
    ·obtain⟨Tt,u,w',rfl,e1,e2,e3⟩:=hp.2 j t e';rw[QA,QA] at e;cases hz:(xs.zip ys)[j]? with
     |none=>rw[hz] at e;cases e|some q=>
      rw[hz] at e;have e9:P.d (D.tup [q.1,q.2])=p:=by simpa using e
      subst e9;obtain⟨q1,q2⟩:=List.getElem?_zip_eq_some.mp hz;have r1:=(aI.hJ hl (rx.get q1 e2)).le cO;have r2:=(aI.hJ hl (ry.get q2 e3)).le cO;exact⟨Tt,[u,w'],rfl,e1,u,[w'],rfl,r1,w',[],rfl,r2,rfl⟩
   ·exact(show False from h0).elim
theorem j5{K:KB}:∀{ps} {ts} {us},ag K H m Z ps us->strsOf ps=Δ ts->us=ts.map V.str
 |[],ts,us,h,e=>by cases e;exact h|p::ps,ts,us,h,e=>by
  obtain⟨v,vs,rfl,r,rs⟩:=(show ∃v vs,us=v::vs/\ai K H m Z p v/\ag K H m Z ps vs from h);obtain⟨x,e1,e⟩:=bS e;obtain⟨xs,e2,rfl⟩:=dZ e;unfold yi at e1;split at e1;·rename_i y;cases e1;cases (show v=.str _ from r);rw[j5 rs e2];rfl
  ·cases e1
theorem Gz(hl:(ap.endLine==cp.line)=Λ)(hc:isCall o=Ξ)(ho:PE X o (tE (ae X kt) Z (aa C a)))(hx:PE X x (tE (ae X kt) Z (aa C b)))(hs:notStar x=Λ):
  PE X (.Call (.Attribute o "join" ap) [x] [] cp) (tE (ae X kt) Z (aa C (.join a b))):=by
 have s1:Qo [x] X.env=[(Ξ,eval x X.env)]:=br hs;refine PE.imp (DF PySem.F.plainAttrs_str PySem.F.slot_str_join PySem.F.type_str_join Cs ho (gE hx lR hs) (lg hc) (by rw[s1];rfl) hl s1 rfl) ?_;rintro σ H Q ⟨m,r,st,ar,as,h⟩;rw[je] at h;refine⟨m,r,st,ar,as,(Ok.bind h).mono λy st1 m1 H1 bq aQ h1 v rv=>?_⟩;obtain⟨z,e1,h2,cA⟩:=Ok.of (Ok.bind h1) aQ;clear cA;unfold yi at e1;split at e1
 ·rename_i z';cases e1;cases (show v=.str _ from rv);refine⟨rfl,m1,r,st1,ar.le bq,aQ,?_⟩;show Ok (ae X kt) Z (aD C [b] r st1) m1 H1 _;simp only[bh,aX];cases hr:aa C b r st1 with
  |ex x s=>rw[hr] at h2;exact(show False from h2).elim|no=>rw[hr] at h2;exact(show False from h2).elim|ok w aF=>
   rw[hr] at h2;simp only[ax] at h2 ⊢;intro m2 H2 cO cL vs eX;obtain⟨u,rfl,ru⟩:=o5 eX;obtain⟨p,e2,h3,cA⟩:=Ok.of (Ok.le h2 cO) cL;clear cA;obtain⟨xs,e3,e4⟩:=bS e2;obtain⟨ts,e5,e6⟩:=bS e4;split at e6;·rename_i hk;cases e6;obtain⟨l,us,rfl,hq,rs⟩:=cC cL e3 ru;have:=j5 rs e5;subst this;exact⟨_,l,ts,rfl,rfl,.inl hq,hk,h3 _ rfl⟩
   ·cases e6
 ·cases e1
end
section
variable{K:KB}{H H':Hp}{m Z:List Addr}
mutual
theorem aI.congr(ht:∀a us,H a=Δ (.tup us)->H' a=Δ (.tup us))(hl:∀a us,a∉m->a∉Z->Rd H a (.lst us)->Rd H' a (.lst us)):∀{x:D} {v:V},aI K H m Z x v->aI K H' m Z x v
 |.bu,_,h=>h|.bl _,_,h=>h|.int _,_,h=>h|.str _,_,h=>h|.tup xs,v,h=>by obtain⟨a,us,e,q,r⟩:=(show ∃a us,v=.ref a/\H a=Δ (.tup us)/\aj K H m Z xs us from h);exact⟨a,us,e,ht _ _ q,aj.congr ht hl r⟩
 |.pl xs,v,h=>by obtain⟨a,us,e,q,hm,hz,r⟩:=(show ∃a us,v=.ref a/\Rd H a (.lst us)/\a∉m/\a∉Z/\aj K H m Z xs us from h);exact⟨a,us,e,hl _ _ hm hz q,hm,hz,aj.congr ht hl r⟩
theorem aj.congr(ht:∀a us,H a=Δ (.tup us)->H' a=Δ (.tup us))(hl:∀a us,a∉m->a∉Z->Rd H a (.lst us)->Rd H' a (.lst us)):∀{xs:List D} {us:List V},aj K H m Z xs us->aj K H' m Z xs us
 |[],_,h=>h|x::xs,us,h=>by obtain⟨v,vs,e,r,rs⟩:=(show ∃v vs,us=v::vs/\aI K H m Z x v/\aj K H m Z xs vs from h);exact⟨v,vs,e,aI.congr ht hl r,aj.congr ht hl rs⟩
end
mutual
theorem ai.congr(ht:∀a us,H a=Δ (.tup us)->H' a=Δ (.tup us))(hl:∀a us,a∉m->a∉Z->Rd H a (.lst us)->Rd H' a (.lst us))(hf:∀a o u,H a=Δ (.cF o u)->H' a=Δ (.cF o u))(hx:∀a φ,H a=Δ (.ext φ)->H' a=Δ (.ext φ)):∀{x:P} {v:V},ai K H m Z x v->ai K H' m Z x v
 |.d _,_,h=>by rw[ai] at h ⊢;exact aI.congr ht hl h|.obj _,_,h=>by rw[ai] at h ⊢;exact h|.fb ns,v,h=>by
  rw[ai] at h ⊢;obtain⟨a,e,r⟩:=h;refine⟨a,e,?_⟩;rcases r with ⟨o,r⟩|r
  ·exact .inl ⟨o,hf _ _ _ r⟩
  ·exact .inr r
 |.fn k bx,v,h=>by rw[ai] at h ⊢;obtain⟨a,c,bN,e,q,hc,r⟩:=h;exact⟨a,c,bN,e,q,hx _ _ hc,ag.congr ht hl hf hx r⟩|.lf k,v,h=>by rw[ai] at h ⊢;obtain⟨a,c,ct,e,q,r⟩:=h;exact⟨a,c,ct,e,hx _ _ q,hx _ _ r⟩
theorem ag.congr(ht:∀a us,H a=Δ (.tup us)->H' a=Δ (.tup us))(hl:∀a us,a∉m->a∉Z->Rd H a (.lst us)->Rd H' a (.lst us))(hf:∀a o u,H a=Δ (.cF o u)->H' a=Δ (.cF o u))(hx:∀a φ,H a=Δ (.ext φ)->H' a=Δ (.ext φ)):∀{xs:List P} {us:List V},ag K H m Z xs us->ag K H' m Z xs us
 |[],_,h=>h|x::xs,us,h=>by rw[ag] at h ⊢;obtain⟨v,vs,e,r,rs⟩:=h;exact⟨v,vs,e,ai.congr ht hl hf hx r,ag.congr ht hl hf hx rs⟩
end
theorem j6(ha:H a=Δ (.lst ys)):∀b φ,H b=Δ (.ext φ)->upd H a o b=Δ (.ext φ):=λb φ h=>by
 have hb:b≠a:=λz=>by rw[z,ha] at h;cases h
 rw[av hb];exact h
theorem mD(ha:H a=Δ (.lst ys)):∀b us,H b=Δ (.tup us)->upd H a o b=Δ (.tup us):=λb us h=>by
 have hb:b≠a:=λz=>by rw[z,ha] at h;cases h
 rw[av hb];exact h
theorem mE(ha:H a=Δ (.lst ys)):∀b o' u,H b=Δ (.cF o' u)->upd H a o b=Δ (.cF o' u):=λb o' u h=>by
 have hb:b≠a:=λz=>by rw[z,ha] at h;cases h
 rw[av hb];exact h
theorem vT(hb:b≠a)(h:Rd H b (.lst us)):Rd (upd H a o) b (.lst us):=by
 rcases h with h|⟨o',h⟩;·exact .inl (by rw[av hb];exact h)
 ·exact .inr ⟨o',by rw[av hb];exact h⟩
theorem ay.KC{st:aR}(A:ay K H m (a::Z) st)(ha:H a=Δ (.lst ys)):ay K (upd H a (.lst zs)) m (a::Z) st:=by
 refine⟨A.len,A.nd,λn o h=>?_,λb hb=>?_,A.zm,λt ht=>?_⟩
 ·obtain⟨c,q,r⟩:=A.at_ n o h;have hc:c≠a:=λz=>A.zm a P7 (by rw[<-z];exact Q2 q);exact⟨c,q,r.mono (λb u hb hu=>by
   rw[av (λz=>by
    rcases hb with w1|w1;·exact hc (w1▸z)
    ·rw[z,ha] at w1;cases w1)]
   exact hu) λp v z=>z.congr (mD ha) (λb us _ hz h=>vT (λz=>hz (by rw[z];exact P7)) h) (mE ha) (j6 ha)⟩
 ·exact iz (o:=.lst zs) (λ_ z=>nomatch z) (A.zt b hb)
 ·obtain⟨ps,h1,h2⟩:=A.tab t ht;exact⟨ps,by rw[av (λz=>by rw[z,ha] at h1;cases h1)];exact h1,dF.same (j6 ha) h2⟩
theorem Le.KD{H1:Hp}{m1:List Addr}{a:Addr}{ys zs:List V}(le:Le K m1 H1 m H)(h1:H1 a=Θ)(ha:H a=Δ (.lst ys)):Le K m1 H1 m (upd H a (.lst zs)) where
 pre:=le.pre
 tup:=λb xs h=>mD ha b xs (le.tup b xs h)
 keep:=λb u h hb hu=>by rw[av (aL h h1)];exact le.keep b u h hb hu
 ext:=λb φ h=>j6 ha b φ (le.ext b φ h)
 wQ:=λb h=>iz (o:=.lst zs) (λ_ z=>nomatch z) (le.wQ b h)
 dc:=λb ps h=>by obtain⟨more,e⟩:=le.dc b ps h;exact⟨more,by rw[av (λz=>by rw[z,ha] at e;cases e)];exact e⟩
 new:=le.new
 lW:=λb h=>by
  by_cases FP:b=a;·rw[FP,aA];exact λz=>nomatch z
  ·rw[av FP];exact le.lW b h
 cF:=λb o u h=>mE ha b o u (le.cF b o u h)
end
section
variable{X:Cx}{g:G}{C:Nat->List P->aR->R P}{Z:List Addr}{e:Expr}{es:List Expr}
theorem zA.imp(h:zA X ifs t)(i:∀σ H Q,t' σ H Q->t σ H Q):zA X ifs t':=λη s σ H Q I q=>h η s σ H Q I (i σ H Q q)
noncomputable def HN(K:KB)(d:cB->aR->R Bool):TT:=λσ H Q=>∃Z,tT K Z d σ H Q
noncomputable def Mo(K:KB)(d:cB->aR->R P):TE:=λσ H Q=>∃Z,tE K Z d σ H Q
theorem yC:zA X [] (HN (ae X kt) (bI C Θ)):=by refine zA.imp B4 ?_;rintro σ H Q ⟨Z,m,ρ,st,ar,as,h⟩;rw[ny] at h;exact Ok.here h as
theorem yD(h:∀Z,PT X c (tT (ae X kt) Z (bK (aa C ec)))):zA X [c] (HN (ae X kt) (bI C (Δ ec))):=by refine B5 λη s σ H Q I q=>?_;obtain⟨Z,q⟩:=q;refine h Z η s σ H Q I ?_;obtain⟨m,ρ,st,ar,as,h⟩:=q;rw[nz] at h;exact⟨m,ρ,st,ar,as,h⟩
theorem CV(h:∀Z,PE X x (tE (ae X kt) Z d)):PE X x (Mo (ae X kt) d):=λη s σ H Q I ⟨Z,q⟩=>h Z η s σ H Q I q
theorem nW{K:KB}(ar:bZ K H m Z r σ)(c0:H acc=Θ)(le:Le K m H m2 H2):bZ K H2 m2 (acc::Z) (cy js r) (js.map λj=>(σ[j]?).join):=by
 refine⟨by unfold cy;simp,λi q h=>?_⟩;unfold cy at h;rw[QA] at h;cases ej:js[i]? with
 |none=>rw[ej] at h;cases h|some j=>
  rw[ej] at h;have h2:(r[j]?).join=Δ q:=by simpa using h
  have h3:r[j]?=Δ (Δ q):=by cases e:r[j]? with|none=>rw[e] at h2;cases h2|some o=>rw[e] at h2;simp at h2;rw[h2]
  obtain⟨w',e1,r1⟩:=ar.at_ j q h3;refine⟨w',?_,(r1.hJ c0).le le⟩;rw[QA,ej];simp[e1]
theorem bZ.cons{K:KB}(ar:bZ K H m Z r σ)(rp:ai K H m Z p v):bZ K H m Z (Δ p::r) (Δ v::σ):=by refine⟨by simp[ar.len],λi q h=>?_⟩;cases i with|zero=>simp at h;subst h;exact⟨v,by simp,rp⟩|succ i=>exact ar.at_ i q (by simpa using h)
theorem yE{K:KB}(ar:bZ K H m Z r σ)(c0:H acc=Θ)(le:Le K m H m2 H2)(rp:ai K H2 m2 (acc::Z) p v):
  bZ K H2 m2 (acc::Z) (Δ p::cy js r) (Δ v::js.map λj=>(σ[j]?).join):=(nW ar c0 le).cons rp
theorem yF{gB:P->cB}(GA:∀(p:P) (v:V) (m:List Addr) (H:Hp) (Z:List Addr) (us fr:L2.St) (rb:cB) (Q':L2.St->Hp->Prop),okp p=Λ->ai (ae X kt) H m Z p v->bZ (ae X kt) H m Z rb fr->us.length=ts->
   (∀CW:L2.St,CW.length=ts->bZ (ae X kt) H m Z (gB p++rb) (CW++fr)->Q' (CW++fr) H)->gt v (us++fr) H Q')(h:tL (ae X kt) Z (λr st=>(cu C w r st).bind λps st1=>if ps.all okp=Λ/\ps.length<=aB then cK (λp=>gB p++cy js r) (bI C c) (λr' bw=>aa C ee r' bw) ps st1 else .no) σ H Q):
  sA (tW (ae X kt) Z (cu C w)) gt (HN (ae X kt) (bI C c)) (Mo (ae X kt) (aa C ee)) ts js σ H Q:=by
 obtain⟨m0,r,iZ,ar,OQ,h⟩:=h;refine⟨m0,r,iZ,ar,OQ,?_⟩;cases hw:cu C w r iZ with
 |ex x s=>rw[hw] at h;exact(show False from h).elim|no=>rw[hw] at h;exact(show False from h).elim|ok ps st1=>
  rw[hw] at h;simp only[ax] at h;split at h
  ·rename_i hlen;obtain⟨oN,hlen⟩:=hlen;intro m1 H1 bq aQ J wk acc c0
   let G':P->cB:=λp=>gB p++cy js r
   let K':=ae X kt
   let fr:L2.St:=js.map λj=>(σ[j]?).join
   let CK:Nat->List P->aR->Prop:=λi qs st=>match cK G' (bI C c) (λr' bw=>aa C ee r' bw) (ps.drop i) st with|.ok rest bw=>LQ (ae X kt) Z (.ok (qs++rest) bw) m0 H Q|_=>False
   have Mp:CK 0 [] st1:=by show(match cK G' (bI C c) (λr' bw=>aa C ee r' bw) (ps.drop 0) st1 with|.ok rest bw=>LQ (ae X kt) Z (.ok ([]++rest) bw) m0 H Q|_=>False);rw[Uc];cases hc:cK G' (bI C c) (λr' bw=>aa C ee r' bw) ps st1 with|ok rest bw=>have h':LQ (ae X kt) Z (cK G' (bI C c) (λr' bw=>aa C ee r' bw) ps st1) m0 H Q:=h;rw[hc] at h';exact h'|ex x s=>have h':LQ (ae X kt) Z (cK G' (bI C c) (λr' bw=>aa C ee r' bw) ps st1) m0 H Q:=h;rw[hc] at h';exact h'|no=>have h':LQ (ae X kt) Z (cK G' (bI C c) (λr' bw=>aa C ee r' bw) ps st1) m0 H Q:=h;rw[hc] at h';exact h'
   refine⟨λi k τ H'=>k=ps.length - i/\i<=ps.length/\(∃us:L2.St,us.length=ts/\τ=us++fr)/\∃m st qs ys,Le (ae X kt) m1 H1 m H'/\ay (ae X kt) H' m (acc::Z) st/\H' acc=Δ (.lst ys)/\ag (ae X kt) H' m (acc::Z) qs ys/\qs.length<=i/\CK i qs st,⟨ps.length,by simp,R6 _,⟨Rb ts Θ,Sv,rfl⟩,?_⟩,?_⟩;·exact⟨m1,st1,[],[],Le.same (aW c0 _),aQ.laid c0 _,aA,rfl,P8 _,Mp⟩
   ·rintro i k τ H' ⟨rfl,hi,⟨us0,lus,rfl⟩,m,st,qs,ys,le,as,GB,rq,hql,ck⟩;obtain⟨w1,w2⟩:=wk m H' (acc::Z) le (λa ha=>(Uu.mp ha).elim (λz=>.inr (by rw[z];exact c0)) .inl) i;by_cases fD:i < ps.length
    ·have HP:i < ps.length:=fD;obtain⟨go,yl⟩:=w1 ps[i] (Qh HP);refine .inr ⟨go,λx H2 hy=>?_⟩;obtain⟨sm,rx⟩:=yl x H2 hy;have vU:Le (ae X kt) m H' m H2:=Le.same sm;replace le:=le.trans vU;replace as:=as.same sm;replace GB:=sm _ _ GB;replace rq:=rq.le vU;have cA:ps.drop i=ps[i]::ps.drop (i+1):=SK HP;have jm:(match cK G' (bI C c) (λr' bw=>aa C ee r' bw) (ps[i]::ps.drop (i+1)) st with|.ok rest bw=>LQ (ae X kt) Z (.ok (qs++rest) bw) m0 H Q|_=>False):=by rw[<-cA];exact ck
     rw[jj] at jm;refine GA ps[i] x m H2 (acc::Z) us0 fr (cy js r) _ (Rl.mp oN _ (UE HP)) rx (nW (js:=js) (ar.le bq) c0 le) lus λCW KE KG=>?_;refine⟨acc::Z,m,G' ps[i],st,KG,as,?_⟩;cases hc:bI C c (G' ps[i]) st with
     |ex x s=>rw[hc] at jm;exact jm.elim|no=>rw[hc] at jm;exact jm.elim|ok b aF=>
      rw[hc] at jm;simp only[ax] at jm;intro m2 H2 cO cL;have t8:H2 acc=Δ (.lst ys):=cO.keep acc _ GB (as.zm acc P7) (λ_ z=>nomatch z);cases b with
      |false=>refine⟨ps.length - (i+1),Sz _ _ fD,rfl,fD,⟨CW,KE,rfl⟩,m2,aF,qs,ys,le.trans cO,cL,t8,rq.le cO,by lia,?_⟩;exact jm|true=>
       refine⟨acc::Z,m2,G' ps[i],aF,KG.le cO,cL,?_⟩;have jn:(match (aa C ee (G' ps[i]) aF).bind λy cq=>(cK G' (bI C c) (λr' bw=>aa C ee r' bw) (ps.drop (i+1)) cq).bind λys jv=>R.ok (y::ys) jv with|.ok rest bw=>LQ (ae X kt) Z (.ok (qs++rest) bw) m0 H Q|_=>False):=jm;cases he:aa C ee (G' ps[i]) aF with
       |ex x s=>rw[he] at jn;exact jn.elim|no=>rw[he] at jn;exact jn.elim|ok y cq=>
        rw[he] at jn;simp only[ax] at jn;intro m3 H3 j4 kr v rv;have gc:H3 acc=Δ (.lst ys):=j4.keep acc _ t8 (cL.zm acc P7) (λ_ z=>nomatch z);have hyl:ys.length=qs.length:=rq.length;have OR:ag (ae X kt) (upd H3 acc (.lst (ys++[v]))) m3 (acc::Z) (qs++[y]) (ys++[v]):=by have q1:ag (ae X kt) H3 m3 (acc::Z) (qs++[y]) (ys++[v]):=((rq.le cO).le j4).append ⟨v,[],rfl,rv,rfl⟩;exact q1.congr (mD gc) (λb us _ hz h=>vT (λz=>hz (by rw[z];exact P7)) h) (mE gc) (j6 gc)
        refine⟨ys,gc,by rw[<-cG];lia,ps.length - (i+1),Sz _ _ fD,rfl,fD,⟨CW,KE,rfl⟩,m3,cq,qs++[y],ys++[v],?_,kr.KC gc,aA,OR,by rw[Qp];simp;lia,?_⟩;·exact Le.KD ((le.trans cO).trans j4) c0 gc
        ·show(match cK G' (bI C c) (λr' bw=>aa C ee r' bw) (ps.drop (i+1)) cq with|.ok rest bw=>LQ (ae X kt) Z (.ok ((qs++[y])++rest) bw) m0 H Q|_=>False);cases hr:cK G' (bI C c) (λr' bw=>aa C ee r' bw) (ps.drop (i+1)) cq with|ex x s=>rw[hr] at jn;exact jn|no=>rw[hr] at jn;exact jn|ok rest jv=>rw[hr] at jn;show LQ (ae X kt) Z (R.ok ((qs++[y])++rest) jv) m0 H Q;rw[Ti];exact jn
    ·have e:i=ps.length:=by lia
     subst e;refine .inl ⟨w2 rfl,?_⟩;have jm:(match cK G' (bI C c) (λr' bw=>aa C ee r' bw) (ps.drop ps.length) st with|.ok rest bw=>LQ (ae X kt) Z (.ok (qs++rest) bw) m0 H Q|_=>False):=ck;rw[UG,yy] at jm;have jn:LQ (ae X kt) Z (R.ok (qs++[]) st) m0 H Q:=jm;rw[QK] at jn;exact jn m H' acc ys (bq.trans le) (bq.w8 c0) (as.zm acc P7) GB as rq
  ·exact(show False from h).elim
theorem t9(h:tL (ae X kt) Z (bR C (.comp w 1 js c ee)) σ H Q):
  sA (tW (ae X kt) Z (cu C w)) (mL 0) (HN (ae X kt) (bI C c)) (Mo (ae X kt) (aa C ee)) 1 js σ H Q:=by
 refine yF (okp:=λ_=>Λ) (gB:=λp=>[Δ p]) (λp v m H Z us fr rb Q' _ rp ar lu q=>?_) ?_
 ·match us,lu with|[u],_=>exact q [Δ v] rfl (ar.cons rp)
 ·have e:bR C (.comp w 1 js c ee)=λr st=>(cu C w r st).bind λps st1=>if(ps.all λ_=>Λ)=Λ/\ps.length<=aB then cK (λp=>[Δ p]++cy js r) (bI C c) (λr' bw=>aa C ee r' bw) ps st1 else .no:=by funext r st;rw[ji];simp
  rw[<-e];exact h
theorem lh{K:KB}{st:aR}(as:ay K H m Z st)(ha:m[n]?=Δ a)(h:wN n st i=Δ o):∃us,H a=Δ (.lst us)/\(o=Θ->us.length<=i)/\∀p,o=Δ p->∃v,us[i]?=Δ v/\ai K H m Z p v:=by
 unfold wN at h;split at h;·rename_i xs hs;cases h;obtain⟨a',e,us,hu,rs⟩:=as.at_ n _ hs;rw[ha] at e;cases e;refine⟨us,hu,λz=>?_,λp z=>rs.get z⟩;rw[rs.length];exact List.getElem?_eq_none_iff.mp z
 ·cases h
theorem p7{e:E}(h:tL (ae X kt) Z (bR C (.cj e js c ee)) σ H Q):
  sA (Dy X.K (tE (ae X kt) Z (aa C e))) (mL 0) (HN (ae X kt) (bI C c)) (Mo (ae X kt) (aa C ee)) 1 js σ H Q:=by
 obtain⟨m0,r,iZ,ar,OQ,h⟩:=h;rw[tD] at h;refine⟨m0,r,iZ,ar,OQ,?_⟩;cases hw:aa C e r iZ with
 |ex x s=>rw[hw] at h;exact(show False from h).elim|no=>rw[hw] at h;exact(show False from h).elim|ok x0 st1=>
  rw[hw] at h;simp only[ax] at h;split at h
  ·rename_i n;intro m1 H1 bq aQ v rv;obtain⟨a,ha,rfl⟩:=rv
   let G':P->cB:=λp=>Δ p::cy js r
   let fr:L2.St:=js.map λj=>(σ[j]?).join
   let CK:Nat->Nat->List P->aR->Prop:=λk i qs st=>match cj n G' (bI C c) (λr' bw=>aa C ee r' bw) k i st with|.ok rest bw=>LQ (ae X kt) Z (.ok (qs++rest) bw) m0 H Q|_=>False
   have Mp:CK aB 0 [] st1:=by show(match cj n G' (bI C c) (λr' bw=>aa C ee r' bw) aB 0 st1 with|.ok rest bw=>LQ (ae X kt) Z (.ok ([]++rest) bw) m0 H Q|_=>False);have h':LQ (ae X kt) Z (cj n G' (bI C c) (λr' bw=>aa C ee r' bw) aB 0 st1) m0 H Q:=h;cases hc:cj n G' (bI C c) (λr' bw=>aa C ee r' bw) aB 0 st1 with|ok rest bw=>rw[hc] at h';exact h'|ex x s=>rw[hc] at h';exact h'|no=>rw[hc] at h';exact h'
   have KH:∃us,H1 a=Δ (.lst us):=by have ck:=Mp;have jm:(match cj n G' (bI C c) (λr' bw=>aa C ee r' bw) (16777215+1) 0 st1 with|.ok rest bw=>LQ (ae X kt) Z (.ok ([]++rest) bw) m0 H Q|_=>False):=ck;rw[nD] at jm;cases ho:wN n st1 0 with|none=>rw[ho] at jm;exact jm.elim|some o=>obtain⟨us,hu,_⟩:=lh aQ ha ho;exact⟨us,hu⟩
   obtain⟨KJ,KL⟩:=KH;refine⟨a,rfl,⟨KJ,.inl (.inl KL)⟩,λacc c0=>?_⟩;refine⟨λi k τ H'=>k+i=aB/\(∃u,τ=u::fr)/\∃m st qs ys,Le (ae X kt) m1 H1 m H'/\ay (ae X kt) H' m (acc::Z) st/\H' acc=Δ (.lst ys)/\ag (ae X kt) H' m (acc::Z) qs ys/\qs.length<=i/\CK k i qs st,⟨aB,rfl,⟨Θ,rfl⟩,?_⟩,?_⟩;·exact⟨m1,st1,[],[],Le.same (aW c0 _),aQ.laid c0 _,aA,rfl,P8 _,Mp⟩
   ·rintro i k τ H' ⟨hk,⟨u,rfl⟩,m,st,qs,ys,le,as,GB,rq,hql,ck⟩;have KN:m[n]?=Δ a:=by obtain⟨t,et⟩:=le.pre;rw[et,Qn (qqz ha).1];exact ha
    cases k with
    |zero=>exact(show False from ck).elim|succ k=>
     have jm:(match cj n G' (bI C c) (λr' bw=>aa C ee r' bw) (k+1) i st with|.ok rest bw=>LQ (ae X kt) Z (.ok (qs++rest) bw) m0 H Q|_=>False):=ck;rw[nD] at jm;cases ho:wN n st i with
     |none=>rw[ho] at jm;exact jm.elim|some o=>
      rw[ho] at jm;obtain⟨us,hu,q0,q1⟩:=lh as KN ho;cases o with
      |none=>have jn:LQ (ae X kt) Z (R.ok (qs++[]) st) m0 H Q:=jm;rw[QK] at jn;exact .inl ⟨⟨us,.inl (.inl hu),q0 rfl⟩,jn m H' acc ys (bq.trans le) (bq.w8 c0) (as.zm acc P7) GB as rq⟩|some p=>
       obtain⟨vx,D4,rx⟩:=q1 p rfl;refine .inr ⟨⟨us,vx,.inl (.inl hu),D4⟩,λx H2 hy=>?_⟩;obtain⟨rfl,hx⟩:=hy;have ux:=hx us (.inl (.inl hu));rw[D4] at ux;cases ux;simp only at jm;have KG:=yE (js:=js) (ar.le bq) c0 le rx;refine⟨acc::Z,m,G' p,st,KG,as,?_⟩;cases hc:bI C c (G' p) st with
       |ex x s=>rw[hc] at jm;exact jm.elim|no=>rw[hc] at jm;exact jm.elim|ok b aF=>
        rw[hc] at jm;simp only[ax] at jm;intro m2 H2 cO cL;have t8:H2 acc=Δ (.lst ys):=cO.keep acc _ GB (as.zm acc P7) (λ_ z=>nomatch z);cases b with
        |false=>exact⟨k,Rk k,by lia,⟨Δ vx,rfl⟩,m2,aF,qs,ys,le.trans cO,cL,t8,rq.le cO,by lia,jm⟩|true=>
         refine⟨acc::Z,m2,G' p,aF,KG.le cO,cL,?_⟩;have jn:(match (aa C ee (G' p) aF).bind λy cq=>(cj n G' (bI C c) (λr' bw=>aa C ee r' bw) k (i+1) cq).bind λys jv=>R.ok (y::ys) jv with|.ok rest bw=>LQ (ae X kt) Z (.ok (qs++rest) bw) m0 H Q|_=>False):=jm;cases he:aa C ee (G' p) aF with
         |ex x s=>rw[he] at jn;exact jn.elim|no=>rw[he] at jn;exact jn.elim|ok y cq=>
          rw[he] at jn;simp only[ax] at jn;intro m3 H3 j4 kr v rv;have gc:H3 acc=Δ (.lst ys):=j4.keep acc _ t8 (cL.zm acc P7) (λ_ z=>nomatch z);have hyl:ys.length=qs.length:=rq.length;have OR:ag (ae X kt) (upd H3 acc (.lst (ys++[v]))) m3 (acc::Z) (qs++[y]) (ys++[v]):=by have q1:ag (ae X kt) H3 m3 (acc::Z) (qs++[y]) (ys++[v]):=((rq.le cO).le j4).append ⟨v,[],rfl,rv,rfl⟩;exact q1.congr (mD gc) (λb us _ hz h=>vT (λz=>hz (by rw[z];exact P7)) h) (mE gc) (j6 gc)
          refine⟨ys,gc,by rw[<-cG];lia,k,Rk k,by lia,⟨Δ vx,rfl⟩,m3,cq,qs++[y],ys++[v],?_,kr.KC gc,aA,OR,by rw[Qp];simp;lia,?_⟩;·exact Le.KD ((le.trans cO).trans j4) c0 gc
          ·show(match cj n G' (bI C c) (λr' bw=>aa C ee r' bw) k (i+1) cq with|.ok rest bw=>LQ (ae X kt) Z (.ok ((qs++[y])++rest) bw) m0 H Q|_=>False);cases hr:cj n G' (bI C c) (λr' bw=>aa C ee r' bw) k (i+1) cq with|ex x s=>rw[hr] at jn;exact jn|no=>rw[hr] at jn;exact jn|ok rest jv=>rw[hr] at jn;show LQ (ae X kt) Z (R.ok ((qs++[y])++rest) jv) m0 H Q;rw[Ti];exact jn
  ·exact(show False from h).elim
theorem eK{env:PySem.Env}:∀{names:List (Str×R7)} {x},names.lookup x=Δ .globalImplicit->
  (names.map λ(n,k)=>if(k==Qg&&env.scope.kind==.function&&env.kindOf n==Δ .cell) then(n,Ra) else(n,k)).lookup x=Δ .globalImplicit
 |[],_,h=>by simp at h|(n,k)::r,x,h=>by
  have ih:=@eK env r x;show RI x ((if(k==Qg&&env.scope.kind==.function&&env.kindOf n==Δ .cell)=Λ then(n,Ra) else(n,k))::_)=_;cases hx:x==n with
  |true=>simp only[Ql,hx] at h;cases h;rw[if_neg (by simp)];simp[Ql,hx]|false=>
   simp only[Ql,hx] at h;by_cases hc:(k==Qg&&env.scope.kind==.function&&env.kindOf n==Δ .cell)=Λ;·rw[if_pos hc];simp only[Ql,hx];exact ih h
   ·rw[if_neg hc];simp only[Ql,hx];exact ih h
theorem Good.qY(T:Good X kt g C){N:List Str}(h:Cu g ts N js sc=Λ):gu X N ts js sc:=by unfold Cu at h;simp only[PZ,qqq,Rl,R3] at h;obtain⟨⟨⟨h1,h2⟩,h3⟩,h4⟩:=h;refine⟨h1,h2,λx hx=>(h3 x hx).1.1,λx hx hl=>(h3 x hx).1.2.resolve_left λz=>z hl,λx hx hf=>T.zQ _ ((h3 x hx).2.resolve_left λz=>z hf),λi y j e1 e2=>?_⟩;have hi:i∈Rq js.length:=List.mem_range.mpr (qqz e2).1;have q:=h4 i hi;rw[e1,e2] at q;rw[T.N];simpa using q
theorem nT.inner(h:nT X kt c x n):nT (ja X η N sc fp Cc s H) kt c x n:=⟨h.ex⟩
theorem wV.inner(h:wV X kt C k a c bN):wV (ja X η N sc fp Cc s H) kt C k a c bN:=⟨h.ob,h.ex⟩
theorem Good.inner(T:Good X kt g C){η:List (Addr×Obj)}{N:List Str}{js:List Nat}{sc:Scope}{fp:List Addr}{Cc:Addr}{s:Qd}{H:Hp}(hnc:∀x∈sc.names,x.2≠.cell):Good (ja X η N sc fp Cc s H) kt (g.inner N sc) C where
 N:=rfl
 loc:=λx h=>lookup_relabel_local h
 zQ:=λx h=>by
  rcases h with h|h;·exact absurd rfl (hnc _ (QG h))
  ·exact gs h
 gl:=λx h=>eK h
 calm:=T.calm
 hu:=T.hu
 bl:=T.bl
 fn:=λk x n h=>(T.fn k x n h).inner
 cs:=T.cs
 tb:=T.tb
 fld:=T.fld
 FX:=T.FX
 FY:=T.FY
 kX:=λhv k a c bN h=>(T.kX hv k a c bN h).inner
 lam:=λk pa bo sc' ps h=>absurd (show Ξ=Λ from h) (by decide)
 fV:=λf x n ls h=>absurd (show Ξ=Λ from h) (by decide)
 fc:=λf x ls h=>absurd (show Ξ=Λ from h) (by decide)
end
section
variable{X:Cx}{kt:KT}{g:G}{C:Nat->List P->aR->R P}{Z:List Addr}
theorem uc(hs:∀z∈xs,notStar z=Λ):(Rx pos (Qo xs env)).all (λx=>!x.1)=Λ:=by have h:=dR (env:=env) (pos:=pos) hs;rw[List.any_eq_false] at h;rw[Rl];intro x hx;have:=h x hx;revert this;cases x.1<;>simp
theorem p8(hs:∀z∈xs,notStar z=Λ)(hn:xs.length < 30)(iT:(apos.endLine==pos.line)=Λ):
  eval (.Call (.Attribute (.Name x p) mm apos) xs [] pos) env=(do
   let ov<-eval (.Name x p) env
   UM apos.atName
   let (f,first)<-U4 [ov] (Uz ov mm (do return (<-importBound (.Name x p) env).getD Λ))
   Vi pos f first (Rx pos (Qo xs env)) (TH pos (Sn [] env))):=by
 rw[arm_eval_Call];have KO:methodCallForm (xs.length+([]:List Um).length) (Rx pos (Qo xs env)) (TH pos (Sn [] env))=Λ:=by unfold methodCallForm;rw[uc hs];have:xs.length+0+0 < 30:=hn;simp[hn];exact⟨λa b h=>(by cases h),hn⟩
 have Ai:methodCallPos Λ (.Name x p) env apos pos=pure pos:=by unfold methodCallPos;simp[iT]
 unfold methodCall;rw[KO,Ai];rfl
theorem GC(T:Good X kt g C)(hm:g.mr k c mm bT.length=Λ)(h1:g.N[i]?=Δ x)(h2:g.qP x=Λ)(h3:aO x=Λ)(hn:xs.length < 30)(iT:(apos.endLine==pos.line)=Λ)(hs:∀z∈xs,notStar z=Λ)(hl:xs.length=bT.length)(h:PA X xs (tA (ae X kt) Z (aD C bT))):
  PE X (.Call (.Attribute (.Name x p) mm apos) xs [] pos) (tE (ae X kt) Z (aa C (.yh k c mm i bT))):=by
 obtain⟨A,l,fa,fd,ps,k1,kc,km,F,hr,hb⟩:=T.FX k c mm bT.length hm;have red:∀σ H Q,tE (ae X kt) Z (aa C (.yh k c mm i bT)) σ H Q->wx A mm (qV (ae X kt) (C k) (bT.length+1)) [] E0 (tE (ae X kt) Z (aa C (.var i))) (tA (ae X kt) Z (aD C bT)) σ H Q:=by
  rintro σ H Q ⟨m,ρ,st,ar,as,h⟩;rw[vz] at h;refine⟨m,ρ,st,ar,as,?_⟩;rw[dJ];refine(Ok.bind h).mono λq st1 m1 H1 bq aQ h1 v rv=>?_;obtain⟨u,e,h2,_⟩:=Ok.of (Ok.bind h1) aQ;obtain⟨⟨n,fs⟩,e1,e2⟩:=bS e;obtain⟨a,A',dx,us,rfl,hm',rfl,hs,g1,g2,g3,g4⟩:=vR aQ rv e1;rw[show Qf X.K Qa c=Δ (Δ (.ref A')) from g1] at k1;cases k1;have e3:fs.lookup mm=Θ:=by
   by_cases hh:(fs.lookup mm).isNone=Λ;·exact QQ.mp hh
   ·rw[if_neg hh] at e2;cases e2
  refine⟨a,dx,us,rfl,g2,(aN.look (f:=mm) g4).2 e3,m1,ρ,st1,ar.le bq,aQ,(Ok.bind h2).nK λqs aF m2 H2 hq cO cL h3 vs eX=>?_⟩;show qV (ae X kt) (C k) (bT.length+1) (.ref a::(vs++[])) H2 Q E0;rw[QK];exact⟨m2,Z,.obj n::qs,aF,by rw[Qm,eX.length,dM hq],⟨.ref a,vs,rfl,rv.le cO,eX⟩,cL,h3⟩
 cases xs with
 |nil=>
  have e:bT=[]:=by cases bT with|nil=>rfl|cons a b=>simp at hl
  subst e;refine PE.imp (zk (tQ (Z:=Z) (kt:=kt) T h1 h2 h3) kc km F hr hb .nil sx (p8 hs hn iT)) λσ H Q h=>?_;have r:=red σ H Q h;unfold wx at r ⊢;obtain⟨m,ρ,st,ar,as,h1⟩:=r;refine⟨m,ρ,st,ar,as,h1.mono λq st1 m1 H1 bq aQ hh v rv=>?_⟩;obtain⟨a,dx,us,e1,e2,e3,m2,ρ2,aF,By,cL,h4⟩:=hh v rv;rw[aX] at h4;exact⟨a,dx,us,e1,e2,e3,Ok.here h4 cL [] rfl⟩
 |cons y ys=>exact PE.imp (BO (tQ (Z:=Z) (kt:=kt) T h1 h2 h3) kc km F hr hb .nil sx h (br (hs y P7)) (dR λz hz=>hs z (P6 _ hz)) (p8 hs hn iT)) red
theorem GD(T:Good X kt g C)(hm:g.mv k c bT.length=Λ)(hg:g.gl c=Λ)(h3:aO c=Λ)(hs:∀z∈y::ys,notStar z=Λ)(h:PA X (y::ys) (tA (ae X kt) Z (aD C bT))):
  PE X (.Call (.Name c p) (y::ys) [] pos) (tE (ae X kt) Z (aa C (.make k c bT))):=by
 obtain⟨A,l,fa,fd,ps,k1,k2,M,F,hr,hb⟩:=T.FY k c bT.length hm;refine PE.imp (BP M F hr (T.glob hg) k1 hb .nil sx h (pn h3).1 (br (hs y P7)) (dR λz hz=>hs z (P6 _ hz))) ?_;rintro σ H Q ⟨m,ρ,st,ar,as,h⟩;rw[vD] at h;refine⟨m,ρ,st,ar,as,(Ok.bind h).nK λqs st1 m1 H1 hq bq aQ h1 vs eX=>?_⟩;intro x dx hx FE mY;rw[QK];have sm:fS H1 (upd H1 dx (.own x)):=aW FE _;have cL:=aQ.same sm;have Mq:upd H1 dx (.own x) x=Θ:=by rw[av (Q5 mY)];exact hx
 have cO:Le (ae X kt) m1 H1 (m1++[x]) (upd (upd H1 dx (.own x)) x (.ins A dx [])):=(Le.same sm).trans ((Le.same (aW Mq _)).grow Mq);have kr:ay (ae X kt) (upd (upd H1 dx (.own x)) x (.ins A dx [])) (m1++[x]) Z (st1++[.ins c []]):=(cL.laid Mq (.ins A dx [])).nM (cL.fresh Mq).2 ⟨A,dx,[],k2,aA,by rw[av mY];exact aA,rfl⟩;have hi:(m1++[x])[st1.length]?=Δ x:=by rw[Qu (by rw[aQ.len];exact P8 _),aQ.len];simp
 refine⟨m1++[x],Z,.obj st1.length::qs,st1++[.ins c []],by rw[Qm,eX.length,dM hq],⟨.ref x,vs,rfl,⟨x,hi,rfl⟩,eX.le cO⟩,kr,?_⟩;refine(Ok.bind (Ok.le h1 cO)).mono λq jv m4 H4 rY w6 h4 v rv=>?_;cases q with
 |d d=>cases d with|bu=>refine⟨rv,Ok.here h4 w6 (.ref x) ⟨x,?_,rfl⟩⟩;obtain⟨t,rfl⟩:=rY.pre;rw[Qn (by simp[aQ.len])];exact hi|_=>exact(show False from h4).elim
 |_=>exact(show False from h4).elim
theorem ag.dropLast{K:KB}:∀{ps} {us},ag K H m Z ps us->ag K H m Z ps.dropLast us.dropLast
 |[],us,h=>by cases (show us=[] from h);exact h|[p],us,h=>by obtain⟨v,vs,rfl,r,rs⟩:=(show ∃v vs,us=v::vs/\ai K H m Z p v/\ag K H m Z [] vs from h);cases (show vs=[] from rs);exact rfl|p::q::ps,us,h=>by obtain⟨v,vs,rfl,r,rs⟩:=(show ∃v vs,us=v::vs/\ai K H m Z p v/\ag K H m Z (q::ps) vs from h);obtain⟨v2,vs2,rfl,r2,rs2⟩:=(show ∃v k9,vs=v::k9/\ai K H m Z q v/\ag K H m Z ps k9 from rs);have:=ag.dropLast rs;rw[List.dropLast_cons₂,List.dropLast_cons₂];exact⟨v,_,rfl,r,this⟩
theorem ag.at_{K:KB}:∀{ps} {us} {i:Nat},ag K H m Z ps us->ps[i]?=Δ p->∃v,us[i]?=Δ v/\ai K H m Z p v
 |[],us,i,h,e=>by simp at e|q::ps,us,i,h,e=>by obtain⟨v,vs,rfl,r,rs⟩:=(show ∃v vs,us=v::vs/\ai K H m Z q v/\ag K H m Z ps vs from h);cases i with|zero=>rw[List.getElem?_cons_zero] at e;cases e;exact⟨v,rfl,r⟩|succ i=>rw[List.getElem?_cons_succ] at e ⊢;exact ag.at_ rs e
theorem aN.drop{κ:Type}[DecidableEq κ]{K:KB}{k:κ}:∀{kvs} {us},aN K H m Z kvs us->aN K H m Z (wM kvs k) (jH us k)
 |[],us,h=>by cases (show us=[] from h);exact rfl|(q,p)::kvs,us,h=>by
  obtain⟨v,vs,rfl,r,rs⟩:=(show ∃v vs,us=(q,v)::vs/\ai K H m Z p v/\aN K H m Z kvs vs from h);have ih:=aN.drop (k:=k) rs;unfold wM jH at ih ⊢;by_cases hq:q=k;·rw[Sm (by simp[hq]),Sm (by simp[hq])];exact ih
  ·rw[Sl (by simp[hq]),Sl (by simp[hq])];exact⟨v,_,rfl,r,ih⟩
theorem GF(hl:(ap.endLine==cp.line)=Λ)(hc:isCall o=Ξ)(ho:PE X o (tE (ae X kt) Z (aa C a))):
  PE X (.Call (.Attribute o "pop" ap) [] [] cp) (tE (ae X kt) Z (aa C (.An a))):=by
 refine PE.imp (EO PySem.F.plainAttrs_list PySem.F.slot_list_pop PySem.F.type_list_pop ES ho (lg hc) hl) ?_;rintro σ H Q ⟨m,r,st,ar,as,h⟩;rw[vC] at h;refine⟨m,r,st,ar,as,(Ok.bind h).mono λx st1 m1 H1 bq aQ h1 v rv=>?_⟩;obtain⟨⟨p,aF⟩,e1,h2,cA⟩:=Ok.of (Ok.bind h1) aQ;clear cA;unfold FL at e1;split at e1
 ·rename_i n;split at e1;·rename_i xs KP;obtain⟨w',hw,e⟩:=dZ e1;cases e;obtain⟨b,hb,eb⟩:=(show ∃b,m1[n]?=Δ b/\v=.ref b from rv);cases eb;obtain⟨b',fE,zs,hz,rz⟩:=aQ.at_ n _ KP;rw[hb] at fE;cases fE;obtain⟨u,hu,ru⟩:=rz.at_ hw;obtain⟨j4,kr⟩:=aQ.write (ho:=.lst zs.dropLast) (o':=.lst xs.dropLast) KP hb λH' e _ f=>⟨_,e,(rz.mono f).dropLast⟩;refine⟨.inl ⟨rfl,zs,.inl (.inl hz)⟩,b,zs,u,rfl,rfl,hz,by rw[rz.length];exact hu,?_⟩;exact h2 m1 _ j4 kr u (ru.le j4)
  ·cases e1
 ·cases e1
theorem GG(hl:(ap.endLine==cp.line)=Λ)(hc:isCall o=Ξ)(ho:PE X o (tE (ae X kt) Z (aa C a)))(hx:PE X x (tE (ae X kt) Z (aa C b)))(hs:notStar x=Λ):
  PE X (.Call (.Attribute o "pop" ap) [x] [] cp) (tE (ae X kt) Z (aa C (.Am a b))):=by
 have s1:Qo [x] X.env=[(Ξ,eval x X.env)]:=br hs;refine PE.imp (zy ho hx ⟨lg hc,by rw[s1];rfl,hl,by rw[s1];rfl⟩) ?_;rintro σ H Q ⟨m,ρ,st,ar,as,h0⟩;rw[vA] at h0;refine⟨m,ρ,st,ar,as,(Ok.bind h0).mono λy st1 m1 H1 bq aQ h1 v rv=>?_⟩;obtain⟨o',e,h2,_⟩:=Ok.of (Ok.bind h1) aQ;obtain⟨n,c,rfl,qo,hm,rfl,ao,hd⟩:=nV aQ e rv;refine⟨c,rfl,AS ao hd,m1,ρ,st1,ar.le bq,aQ,(Ok.bind h2).mono λk aF m2 H2 cO cL h3 u ru=>?_⟩;obtain⟨⟨p,cq⟩,e2,h4,cA⟩:=Ok.of (Ok.bind h3) cL;clear cA;unfold FK at e2;dsimp only at e2;split at e2;·rename_i kvs Bv;obtain⟨kk,xX,e3⟩:=bS e2;obtain⟨w',hw,e4⟩:=dZ e3;cases e4;obtain⟨b,hb,eb⟩:=(show ∃b,m2[n]?=Δ b/\V.ref c=.ref b from rv.le cO);cases eb;obtain⟨b',fE,us,hu,rs⟩:=cL.at_ n _ Bv;rw[hb] at fE;cases fE;obtain⟨v2,Mr,OS⟩:=(rs.val (k:=kk)).2 _ hw;obtain⟨j4,kr⟩:=cL.write (ho:=.dK (jH us kk)) (o':=.dK (wM kvs kk)) Bv hb λH' e _ f=>⟨_,e,(rs.mono f).drop⟩;refine⟨us,kk,v2,hu,ru.key xX,Mr,?_⟩;exact h4 m2 _ j4 kr v2 (OS.le j4)
 ·cases e2
theorem CY(hl:(ap.endLine==cp.line)=Λ)(hc:isCall o=Ξ)(ho:PE X o (tE (ae X kt) Z (aa C a)))(hx:PE X x (tE (ae X kt) Z (aa C b)))(hs:notStar x=Λ)(hy:PE X y (tE (ae X kt) Z (aa C c)))(y4:notStar y=Λ):
  PE X (.Call (.Attribute o "setdefault" ap) [x,y] [] cp) (tE (ae X kt) Z (aa C (.sZ a b c))):=by
 have s1:Qo [x,y] X.env=[(Ξ,eval x X.env),(Ξ,eval y X.env)]:=(br hs).trans (by rw[br y4];rfl);refine PE.imp (zZ ho hx hy ⟨lg hc,by rw[s1];rfl,hl,by rw[s1];rfl⟩) ?_;rintro σ H Q ⟨m,ρ,st,ar,as,h0⟩;rw[tB] at h0;refine⟨m,ρ,st,ar,as,(Ok.bind h0).mono λy st1 m1 H1 bq aQ h1 v rv=>?_⟩;obtain⟨o',e,h2,_⟩:=Ok.of (Ok.bind h1) aQ;obtain⟨n,c,rfl,qo,hm,rfl,ao,hd⟩:=nV aQ e rv;refine⟨c,rfl,AS ao hd,m1,ρ,st1,ar.le bq,aQ,(Ok.bind h2).mono λk aF m2 H2 cO cL h3 u ru=>?_⟩;refine⟨m2,ρ,aF,(ar.le bq).le cO,cL,(Ok.bind h3).mono λz cq m3 H3 j4 kr h4 w' i9=>?_⟩;obtain⟨⟨p,jv⟩,e2,h5,cA⟩:=Ok.of (Ok.bind h4) kr;clear cA;unfold Av at e2;dsimp only at e2;split at e2
 ·rename_i kvs Bv;split at e2
  ·rename_i fD;obtain⟨kk,xX,e3⟩:=dZ e2;obtain⟨b,hb,eb⟩:=(show ∃b,m3[n]?=Δ b/\V.ref c=.ref b from(rv.le cO).le j4);cases eb;obtain⟨b',fE,us,hu,rs⟩:=kr.at_ n _ Bv;rw[hb] at fE;cases fE;have rr:=rs.val (k:=kk);refine⟨us,kk,hu,(ru.le j4).key xX,by rw[rs.length,<-cG];exact fD,λv2 Mr=>?_,λhn=>?_⟩;·cases hv:jc kvs kk with|none=>rw[hv,Mr] at rr;cases rr.1|some w2=>rw[hv] at e3;cases e3;obtain⟨v3,e4,r3⟩:=rr.2 _ hv;rw[Mr] at e4;cases e4;exact Ok.here h5 kr v2 r3
   ·cases hv:jc kvs kk with|some w2=>rw[hv,hn] at rr;cases rr.1|none=>rw[hv] at e3;cases e3;obtain⟨rY,w6⟩:=kr.write (ho:=.dK (putK us kk w')) (o':=.dK (oY kvs kk z)) Bv hb λH' e _ f=>⟨_,e,(rs.mono f).put (f _ _ i9)⟩;exact h5 m3 _ rY w6 w' (i9.le rY)
  ·cases e2
 ·cases e2
end
section
variable(C:Nat->List P->aR->R P)
def SE(e':E):Prop:=∀(kt:KT) (X:Cx) (g:G) (e:Expr) (Z:List Addr),Good X kt g C->di g e' e=Λ->PE X e (tE (ae X kt) Z (aa C e'))/\PT X e (tT (ae X kt) Z (bK (aa C e')))
def SEs(es:List E):Prop:=(∀(kt:KT) (X:Cx) (g:G) (xs:List Expr) (Z:List Addr),Good X kt g C->dY g es xs=Λ->PA X xs (tA (ae X kt) Z (aD C es)))/\
 (∀(kt:KT) (X:Cx) (g:G) (xs:List Expr) (Z:List Addr) (pos:Pos),Good X kt g C->dY g es xs=Λ->PE X (.BoolOp .And xs pos) (tE (ae X kt) Z (dW C es))/\PW X (.BoolOp .And xs pos) (tT (ae X kt) Z (bK (dW C es))))/\
 (∀(kt:KT) (X:Cx) (g:G) (xs:List Expr) (Z:List Addr) (pos:Pos),Good X kt g C->dY g es xs=Λ->PE X (.BoolOp .Or xs pos) (tE (ae X kt) Z (dX C es))/\PW X (.BoolOp .Or xs pos) (tT (ae X kt) Z (bK (dX C es))))
def SM(o:Option E):Prop:=(∀(kt:KT) (X:Cx) (g:G) (x:Option Expr) (Z:List Addr),Good X kt g C->OC g o x=Λ->PO X x (tO (ae X kt) Z (fh C o)))/\
 (∀(kt:KT) (X:Cx) (g:G) (ifs:List Expr),Good X kt g C->OD g o ifs=Λ->zA X ifs (HN (ae X kt) (bI C o)))
def SL(l:L):Prop:=∀(kt:KT) (X:Cx) (g:G) (e:Expr) (Z:List Addr),Good X kt g C->DZ g l e=Λ->PE X e (tL (ae X kt) Z (bR C l))
def SW(w:W):Prop:=∀(kt:KT) (X:Cx) (g:G) (e tg:Expr) (Z:List Addr),Good X kt g C->OE g w e=Λ->(vP w=Λ->∃es k p,tg=.Tuple es k p)->PI X tg e (tW (ae X kt) Z (cu C w))
variable{C}
theorem p9(h:∀r st,d r st=.no):PE X e (tE (ae X kt) Z d)/\PT X e (tT (ae X kt) Z (bK d)):=by
 constructor;·rintro η s σ H Q I ⟨m,r,st,_,_,q⟩;rw[h] at q;exact(show False from q).elim
 ·rintro η s σ H Q I ⟨m,r,st,_,_,q⟩;unfold bK at q;rw[h] at q;exact(show False from q).elim
theorem pw_no(h:∀r st,d r st=.no):PW X e (tT (ae X kt) Z (bK d)):=by rintro wh η s σ H Q I ⟨m,r,st,_,_,q⟩;unfold bK at q;rw[h] at q;exact(show False from q).elim
theorem both(h:PE X e (tE (ae X kt) Z d))(he:∀whole,Vp e X.env whole=(do let v<-whole;UM e.pos;U4 [v] (truthy v))):PE X e (tE (ae X kt) Z d)/\PT X e (tT (ae X kt) Z (bK d)):=⟨h,CC h he⟩
mutual
theorem aE:∀e':E,SE C e'
 |.var i=>λkt X g e Z T h=>by refine aK h λ_ _ h=>?_;simp only[PZ,qqq] at h;exact both (tQ T h.1.1 h.1.2 h.2) λ_=>rfl|.cst d=>λkt X g e Z T h=>by
  rcases Bool.or_eq_true_iff.mp h with h|h;·refine gD h λc _ _ h=>?_;cases d with|int i=>obtain rfl:=of_decide_eq_true h;exact both (tR uC λ_ _=>rfl) λ_=>rfl|bl i=>obtain rfl:=of_decide_eq_true h;exact both (tR wo λ_ _=>rfl) λ_=>rfl|bu=>obtain rfl:=of_decide_eq_true h;exact both (tR yV λ_ _=>rfl) λ_=>rfl|str i=>obtain rfl:=of_decide_eq_true h;exact both (tR uD λ_ _=>rfl) λ_=>rfl|tup _=>exact ft h|pl _=>exact ft h
  ·refine aK h λx _ h=>?_;cases d with|int i=>have h:=Bool.and_eq_true_iff.mp h;have h':=Bool.and_eq_true_iff.mp h.1;obtain⟨t,ht⟩:=T.cs _ _ (of_decide_eq_true h'.2);exact both (tR (ql (v:=.int _) (T.glob h'.1) ht ⟨t,rfl⟩ (pn h.2).1) λ_ _=>rfl) λ_=>rfl|_=>exact ft h
 |.op o a b=>λkt X g e Z T h=>by refine yz h λ_ _ _ _ h=>?_;simp only[PZ,qqq] at h;obtain⟨⟨rfl,h1⟩,h2⟩:=h;exact both (OH (aE a kt X g _ Z T h1).1 (aE b kt X g _ Z T h2).1) λ_=>rfl|.neg a=>λkt X g e Z T h=>by refine hU h λ_ _ _ h=>?_;simp only[PZ,qqq] at h;obtain⟨rfl,h⟩:=h;exact both (Kw (aE a kt X g _ Z T h).1) λ_=>rfl|.Am a b=>λkt X g e Z T h=>by refine aP h λ_ _ _ _ h=>?_;refine bD h λ_ _ _ h=>?_;refine aH h λ_ _ h=>?_;simp only[PZ,qqq,Qb,Qq] at h;obtain⟨⟨⟨⟨⟨⟨⟨rfl,rfl⟩,h0⟩,rfl⟩,h1⟩,h2⟩,h3⟩,h4⟩:=h;exact both (GG h0 h1 (aE a kt X g _ Z T h2).1 (aE b kt X g _ Z T h3).1 h4) λ_=>rfl|.sZ a b c=>λkt X g e Z T h=>by refine aP h λ_ _ _ _ h=>?_;refine bD h λ_ _ _ h=>?_;refine aH h λ_ _ h=>?_;refine aH h λ_ _ h=>?_;simp only[PZ,qqq,Qb,Qq] at h;obtain⟨⟨⟨⟨⟨⟨⟨⟨⟨rfl,rfl⟩,h0⟩,rfl⟩,h1⟩,h2⟩,h3⟩,h4⟩,h5⟩,h6⟩:=h;exact both (CY h0 h1 (aE a kt X g _ Z T h2).1 (aE b kt X g _ Z T h3).1 h4 (aE c kt X g _ Z T h5).1 h6) λ_=>rfl|.An a=>λkt X g e Z T h=>by refine aP h λ_ _ _ _ h=>?_;refine bD h λ_ _ _ h=>?_;simp only[PZ,qqq,Qb,Qq] at h;obtain⟨⟨⟨⟨⟨rfl,rfl⟩,h0⟩,rfl⟩,h1⟩,h2⟩:=h;exact both (GF h0 h1 (aE a kt X g _ Z T h2).1) λ_=>rfl|.attr c f i=>λkt X g e Z T h=>by refine bD h λ_ _ _ h=>?_;refine aK h λ_ _ h=>?_;simp only[PZ,qqq] at h;obtain⟨⟨⟨⟨rfl,h1⟩,h2⟩,h3⟩,h4⟩:=h;exact both (Gp T h1 h2 h3 h4) λ_=>rfl|.yh k c m i es=>λkt X g e Z T h=>by refine aP h λ_ _ _ _ h=>?_;refine bD h λ_ _ _ h=>?_;refine aK h λ_ _ h=>?_;simp only[PZ,qqq,Qb] at h;obtain⟨⟨⟨⟨⟨⟨⟨⟨rfl,rfl⟩,h1⟩,h2⟩,h3⟩,h4⟩,h5⟩,h6⟩,h7⟩:=h;exact both (GC T h1 h2 h3 h4 h7 h6 (b9 h5) (eh h5) ((cg es).1 kt X g _ Z T h5)) λ_=>rfl|.make k c es=>λkt X g e Z T h=>by refine aP h λ_ xs eN _ h=>?_;refine aK h λx p h=>?_;cases xs with|nil=>simp at h|cons y ys=>simp only[PZ,qqq,Qb] at h;obtain⟨⟨⟨⟨⟨⟨rfl,rfl⟩,h1⟩,h2⟩,h3⟩,h4⟩,_⟩:=h;exact both (GD T h1 h2 h3 (b9 h4) ((cg es).1 kt X g _ Z T h4)) λ_=>rfl
 |.not a=>λkt X g e Z T h=>by refine hU h λ_ _ _ h=>?_;simp only[PZ,qqq] at h;obtain⟨rfl,h⟩:=h;exact⟨Ko (aE a kt X g _ Z T h).1,Ge (aE a kt X g _ Z T h).2⟩|.cmp o a b=>λkt X g e Z T h=>by refine lO h λ_ _ _ _ h=>?_;refine aH h λ_ _ h=>?_;refine aH h λ_ _ h=>?_;simp only[PZ,qqq,Qq,Qb] at h;obtain⟨⟨⟨⟨⟨rfl,rfl⟩,rfl⟩,h1⟩,h2⟩,h3⟩:=h;exact⟨Kn T (aE a kt X g _ Z T h1).1 (aE b kt X g _ Z T h2).1 h3,Gd T (aE a kt X g _ Z T h1).1 (aE b kt X g _ Z T h2).1 h3⟩|.chain o o' a b c=>λkt X g e Z T h=>by refine lO h λ_ _ _ _ h=>?_;refine aH h λ_ _ h=>?_;refine aH h λ_ _ h=>?_;refine aH h λ_ _ h=>?_;refine aH h λ_ _ h=>?_;simp only[PZ,qqq,Qq,Qb] at h;obtain⟨⟨⟨⟨⟨⟨⟨⟨rfl,rfl⟩,rfl⟩,rfl⟩,h1⟩,h2⟩,h3⟩,h4⟩,h5⟩:=h;exact⟨CD T (aE a kt X g _ Z T h1).1 (aE b kt X g _ Z T h2).1 (aE c kt X g _ Z T h3).1 h4 h5,AM T (aE a kt X g _ Z T h1).1 (aE b kt X g _ Z T h2).1 (aE c kt X g _ Z T h3).1 h4 h5⟩|.and es=>λkt X g e Z T h=>by refine nS h λop xs pos h=>?_;simp only[PZ,qqq] at h;obtain⟨rfl,h⟩:=h;obtain⟨h1,h2⟩:=(cg es).2.1 kt X g xs Z pos T h;have e1:aa C (.and es)=dW C es:=rfl;rw[e1];exact⟨h1,h2.pt⟩|.or es=>λkt X g e Z T h=>by refine nS h λop xs pos h=>?_;simp only[PZ,qqq] at h;obtain⟨rfl,h⟩:=h;obtain⟨h1,h2⟩:=(cg es).2.2 kt X g xs Z pos T h;have e1:aa C (.or es)=dX C es:=rfl;rw[e1];exact⟨h1,h2.pt⟩|.ite c a b=>λkt X g e Z T h=>by refine yA h λ_ _ _ _ h=>?_;simp only[PZ] at h;have h1:=aE c kt X g _ Z T h.1.1;have h2:=aE a kt X g _ Z T h.1.2;have h3:=aE b kt X g _ Z T h.2;exact⟨Kr h1.2 h2.1 h3.1,Gj h1.2 h2.2 h3.2⟩|.tup es=>λkt X g e Z T h=>by refine kZ h λ_ _ _ h=>?_;exact both (Ks ((cg es).1 kt X g _ Z T h)) λ_=>rfl|.lst mu l=>λkt X g e Z T h=>by have h1:=Kt (mu:=mu) (GH l kt X g e Z T h);refine both h1 λwhole=>?_;cases l with|fe es=>exact tN h λ_ _ _=>rfl|comp w ts js c e=>exact eQ h λ_ _ _ _ _=>rfl|list e=>exact aP h λ_ _ _ _ _=>rfl|jx es=>exact aP h λ_ _ _ _ _=>rfl|zip a b=>exact aP h λ_ _ _ _ _=>rfl|cj e js c ee=>exact eQ h λ_ _ _ _ _=>rfl|keys e=>exact aP h λ_ _ _ _ _=>rfl
 |.call f es=>λkt X g e Z T h=>by refine aP h λ_ _ _ _ h=>?_;refine aK h λ_ _ h=>?_;simp only[PZ,qqq,Qb] at h;obtain⟨⟨⟨⟨rfl,h1⟩,h2⟩,h3⟩,h4⟩:=h;exact both (s_call T h1 h2 h3 (b9 h4) (eh h4) ((cg es).1 kt X g _ Z T h4)) λ_=>rfl|.oF a t=>λkt X g e Z T h=>by refine aP h λ_ _ _ _ h=>?_;refine aK h λ_ _ h=>?_;refine aH h λ_ _ h=>?_;refine aH h λ_ _ h=>?_;refine aK h λ_ _ h=>?_;simp only[PZ,qqq,Qb] at h;obtain⟨⟨⟨⟨⟨⟨⟨⟨rfl,rfl⟩,rfl⟩,h1⟩,rfl⟩,h2⟩,h3⟩,h4⟩,h5⟩:=h;exact both (Ku T h1 h3 h2 (aE a kt X g _ Z T h4).1 h5) λ_=>rfl|.bf f es=>λkt X g e Z T h=>by refine aP h λf0 xs eN pos h=>?_;refine aK h λ_ _ h=>?_;simp only[PZ,qqq,Qq,Qb] at h;obtain⟨⟨⟨⟨rfl,rfl⟩,h1⟩,h2⟩,h3⟩:=h;cases xs with|nil=>cases h3|cons x xs=>exact both (ON T h1 (b9 h2) ((cg es).1 kt X g _ Z T h2)) λ_=>rfl
 |.ix a b=>λkt X g e Z T h=>by refine dQ h λ_ _ _ h=>?_;simp only[PZ,Qq] at h;exact both (OL T.hu (aE a kt X g _ Z T h.1.1).1 (aE b kt X g _ Z T h.1.2).1 h.2) λ_=>rfl|.slice a lo hi=>λkt X g e Z T h=>by refine dQ h λ_ _ _ h=>?_;refine p4 h λ_ _ _ _ h=>?_;simp only[PZ,QQ] at h;obtain⟨⟨⟨rfl,h1⟩,h2⟩,h3⟩:=h;exact both (CO (aE a kt X g _ Z T h1).1 ((lj lo).1 kt X g _ Z T h2) ((lj hi).1 kt X g _ Z T h3)) λ_=>rfl|.rev a=>λkt X g e Z T h=>by refine dQ h λ_ _ _ h=>?_;refine p4 h λ_ _ _ _ h=>?_;refine jX h λ_ h=>?_;simp only[PZ,QQ] at h;obtain⟨⟨⟨rfl,rfl⟩,h1⟩,h2⟩:=h;obtain⟨k,p1,p2,rfl⟩:=Cw h1;exact both (Kx (aE a kt X g _ Z T h2).1) λ_=>rfl|.join a b=>λkt X g e Z T h=>by refine aP h λ_ _ _ _ h=>?_;refine bD h λ_ _ _ h=>?_;refine aH h λ_ _ h=>?_;simp only[PZ,qqq,Qb,Qq] at h;obtain⟨⟨⟨⟨⟨⟨⟨rfl,rfl⟩,h0⟩,rfl⟩,h1⟩,h2⟩,h3⟩,h4⟩:=h;exact both (Gz h0 h1 (aE a kt X g _ Z T h2).1 (aE b kt X g _ Z T h3).1 h4) λ_=>rfl|.vo t a=>λkt X g e Z T h=>by refine aP h λ_ _ _ _ h=>?_;refine bD h λ_ _ _ h=>?_;refine aK h λ_ _ h=>?_;refine aH h λ_ _ h=>?_;simp only[PZ,qqq,Qb] at h;obtain⟨⟨⟨⟨⟨⟨⟨⟨rfl,rfl⟩,h0⟩,rfl⟩,h1⟩,h2⟩,h3⟩,h4⟩,h5⟩:=h;exact both (Gs T h0 h1 h2 h3 (aE a kt X g _ Z T h4).1 h5) λ_=>rfl|.Ao k d=>λkt X g e Z T h=>by refine tM h λ_ _ _ h=>?_;refine aH h λ_ _ h=>?_;refine jX h λ_ h=>?_;refine aH h λ_ _ h=>?_;simp only[PZ,Qb] at h;obtain⟨⟨⟨rfl,rfl⟩,h1⟩,h2⟩:=h;exact both (Gv T h1 h2) λ_=>rfl|.Al t=>λkt X g e Z T h=>by refine tM h λ_ _ _ h=>?_;simp only[PZ,Qb] at h;obtain⟨rfl,rfl⟩:=h;exact both Gu λ_=>rfl|.sY i es=>λkt X g e Z T h=>by refine aP h λ_ xs eN _ h=>?_;refine aK h λx p h=>?_;cases xs with|nil=>simp at h|cons y ys=>simp only[PZ,qqq,Qb] at h;obtain⟨⟨⟨⟨⟨⟨rfl,h1⟩,h2⟩,h3⟩,h4⟩,_⟩,uz⟩:=h;exact both (CJ T uz h1 h2 h3 (b9 h4) ((cg es).1 kt X g _ Z T h4)) λ_=>rfl
 |.fV f es ls=>λkt X g e Z T h=>by refine aP h λ_ xs eN _ h=>?_;refine aK h λx p h=>?_;cases xs with|nil=>simp at h|cons y ys=>simp only[PZ,qqq,Qb] at h;obtain⟨⟨⟨⟨⟨rfl,h1⟩,h2⟩,h3⟩,h4⟩,_⟩:=h;exact both (T.fV f x _ ls h1 Z y ys es p _ rfl h2 h3 (b9 h4) ((cg es).1 kt X g _ Z T h4)) λ_=>rfl
 |.fc i es ls=>λkt X g e Z T h=>by refine aP h λ_ xs eN _ h=>?_;refine aK h λx p h=>?_;cases xs with|nil=>simp at h|cons y ys=>simp only[PZ,qqq,Qb] at h;obtain⟨⟨⟨⟨⟨⟨rfl,h1⟩,h2⟩,h3⟩,h5⟩,h4⟩,_⟩:=h;exact both (T.fc i x ls h5 Z y ys es p _ h1 h2 h3 (b9 h4) ((cg es).1 kt X g _ Z T h4)) λ_=>rfl
 |.lam k=>λkt X g e Z T h=>by refine vN h λ_ _ _ _ h=>?_;exact both (T.lam k _ _ _ _ h Z) λ_=>rfl
theorem cg:∀es:List E,SEs C es
 |[]=>⟨λkt X g xs Z T h=>by rw[ic h];exact lR,λkt X g xs Z pos T h=>by exact⟨(p9 λr st=>rfl).1,pw_no λr st=>rfl⟩,λkt X g xs Z pos T h=>⟨(p9 λr st=>rfl).1,pw_no λr st=>rfl⟩⟩|a::bT=>by
  have ih:=cg bT;have ia:=aE a;refine⟨λkt X g xs Z T h=>?_,λkt X g xs Z pos T h=>?_,λkt X g xs Z pos T h=>?_⟩;·obtain⟨x,ys,rfl,h1,h2,h3⟩:=dN h;exact gE (ia kt X g x Z T h1).1 (ih.1 kt X g ys Z T h3) h2
  ·obtain⟨x,ys,rfl,h1,h2,h3⟩:=dN h;cases bT with|nil=>rw[ic h3];exact⟨Gf (ia kt X g x Z T h1).1,CG (ia kt X g x Z T h1).2⟩|cons b bs=>obtain⟨y,zs,rfl,_,_,_⟩:=dN h3;obtain⟨i1,i2⟩:=ih.2.1 kt X g (y::zs) Z pos T h3;exact⟨Gg (ia kt X g x Z T h1).1 i1,CH (ia kt X g x Z T h1).2 i2⟩
  ·obtain⟨x,ys,rfl,h1,h2,h3⟩:=dN h;cases bT with|nil=>rw[ic h3];exact⟨Kp (ia kt X g x Z T h1).1,Gh (ia kt X g x Z T h1).2⟩|cons b bs=>obtain⟨y,zs,rfl,_,_,_⟩:=dN h3;obtain⟨i1,i2⟩:=ih.2.2 kt X g (y::zs) Z pos T h3;exact⟨Kq (ia kt X g x Z T h1).1 i1,Gi (ia kt X g x Z T h1).2 i2⟩
theorem lj:∀o:Option E,SM C o
 |none=>⟨λkt X g x Z T h=>by
   have:x=Θ:=QQ.mp h;rw[this];exact CM,λkt X g ifs T h=>by
   have:ifs=[]:=Qb.mp h;rw[this];exact yC⟩
 |some a=>by
  have ia:=aE a;refine⟨λkt X g x Z T h=>?_,λkt X g ifs T h=>?_⟩;·refine jX h λ_ h=>?_;exact CN (ia kt X g _ Z T h).1
  ·refine aH h λ_ _ h=>?_;simp only[PZ,Qb] at h;obtain⟨rfl,h⟩:=h;exact yD λZ=>(ia kt X g _ Z T h).2
theorem GH:∀l:L,SL C l
 |.fe es=>λkt X g e Z T h=>by refine tN h λ_ _ h=>?_;exact Gk ((cg es).1 kt X g _ Z T h)|.comp w ts js c ee=>λkt X g e Z T h=>by
  refine eQ h λelt gens sc pos' h=>?_;refine aH h λge r h=>?_;refine mw h λtg iter ifs a h=>?_;refine aK h λx pos h=>?_;simp only[PZ,qqq,Qq,Qb] at h;obtain⟨⟨⟨⟨⟨⟨⟨⟨⟨⟨rfl,rfl⟩,rfl⟩,h1⟩,OT⟩,h2⟩,h3⟩,h4⟩,h5⟩,h6⟩,h7⟩:=h;have B:=T.qY h2;have T':∀η fp Cc s H,Good (ja X η (eJ g x js) sc fp Cc s H) kt (g.inner (eJ g x js) sc) C:=λη fp Cc s H=>T.inner (js:=js) B.dH;refine PE.imp (wF T.calm B (qZ w kt X g iter (.Name x pos) Z T h1 (λz=>by rw[OT] at z;cases z)) (λη fp Cc s H=>dg (i:=0) h4 rfl (.inl ((T' η fp Cc s H).loc x h3)) (.inr ((T' η fp Cc s H).loc x h3)))
   (λη fp Cc s H=>(lj c).2 kt _ _ _ (T' η fp Cc s H) h5) (λη fp Cc s H=>CV λZ=>(aE ee kt _ _ _ Z (T' η fp Cc s H) h6).1) (λy=>?_)) λσ H Q q=>t9 q
  cases iter<;>first
   |rfl
   |exact absurd (show Λ=Ξ from h7) QF.symm
 |.list a=>λkt X g e Z T h=>by refine aP h λ_ _ _ _ h=>?_;refine aK h λ_ _ h=>?_;refine aH h λ_ _ h=>?_;simp only[PZ,qqq,Qb] at h;obtain⟨⟨⟨⟨⟨rfl,rfl⟩,rfl⟩,h1⟩,h2⟩,h3⟩:=h;exact Gm T h1 (aE a kt X g _ Z T h2).1 h3|.keys a=>λkt X g e Z T h=>by refine aP h λ_ _ _ _ h=>?_;refine aK h λ_ _ h=>?_;refine aH h λ_ _ h=>?_;simp only[PZ,qqq,Qb] at h;obtain⟨⟨⟨⟨⟨rfl,rfl⟩,rfl⟩,h1⟩,h2⟩,h3⟩:=h;exact Gn T h1 (aE a kt X g _ Z T h2).1 h3|.jx es=>λkt X g e Z T h=>by refine aP h λ_ _ _ _ h=>?_;refine aK h λ_ _ h=>?_;refine aH h λ_ _ h=>?_;refine aP h λ_ _ _ _ h=>?_;refine aK h λ_ _ h=>?_;simp only[PZ,qqq,Qb] at h;obtain⟨⟨⟨⟨⟨⟨⟨rfl,rfl⟩,rfl⟩,rfl⟩,h1⟩,rfl⟩,h2⟩,h3⟩:=h;exact Gx T h2 h1 h3 ((cg es).1 kt X g _ Z T h3)|.zip a b=>λkt X g e Z T h=>by refine aP h λ_ _ _ _ h=>?_;refine aK h λ_ _ h=>?_;refine aH h λ_ _ h=>?_;refine aP h λ_ _ _ _ h=>?_;refine aK h λ_ _ h=>?_;refine aH h λ_ _ h=>?_;refine aH h λ_ _ h=>?_;simp only[PZ,qqq,Qb] at h;obtain⟨⟨⟨⟨⟨⟨⟨⟨⟨⟨⟨rfl,rfl⟩,rfl⟩,rfl⟩,rfl⟩,h1⟩,rfl⟩,h2⟩,h3⟩,h4⟩,h5⟩,h6⟩:=h;exact Gy T h2 h1 (aE a kt X g _ Z T h3).1 h4 (aE b kt X g _ Z T h5).1 h6|.cj a js c ee=>λkt X g e Z T h=>by
  refine eQ h λelt gens sc pos' h=>?_;refine aH h λge r h=>?_;refine mw h λtg iter ifs a h=>?_;refine aK h λx pos h=>?_;simp only[PZ,qqq,Qq,Qb] at h;obtain⟨⟨⟨⟨⟨⟨⟨⟨rfl,rfl⟩,h1⟩,h2⟩,h3⟩,h4⟩,h5⟩,h6⟩,h7⟩:=h;have B:=T.qY h2;have T':∀η fp Cc s H,Good (ja X η (eJ g x js) sc fp Cc s H) kt (g.inner (eJ g x js) sc) C:=λη fp Cc s H=>T.inner (js:=js) B.dH;refine PE.imp (wF T.calm B (mj (aE a kt X g iter Z T h1).1) (λη fp Cc s H=>dg (i:=0) h4 rfl (.inl ((T' η fp Cc s H).loc x h3)) (.inr ((T' η fp Cc s H).loc x h3)))
   (λη fp Cc s H=>(lj c).2 kt _ _ _ (T' η fp Cc s H) h5) (λη fp Cc s H=>CV λZ=>(aE ee kt _ _ _ Z (T' η fp Cc s H) h6).1) (λy=>?_)) λσ H Q q=>p7 q
  cases iter<;>first
   |rfl
   |exact absurd (show Λ=Ξ from h7) QF.symm
theorem qZ:∀w:W,SW C w
 |.ex a=>λkt X g e tg Z T h _=>by have h:=Bool.and_eq_true_iff.mp h;exact KA (aE a kt X g e Z T h.1).1|.jx es=>λkt X g e tg Z T h _=>by refine aP h λ_ _ _ _ h=>?_;refine aK h λ_ _ h=>?_;simp only[PZ,qqq,Qb] at h;obtain⟨⟨⟨rfl,rfl⟩,h1⟩,h2⟩:=h;exact Gw T h1 h2 ((cg es).1 kt X g _ Z T h2)|.enum a=>λkt X g e tg Z T h ht=>by obtain⟨es,k,p,rfl⟩:=ht rfl;refine aP h λ_ _ _ _ h=>?_;refine aK h λ_ _ h=>?_;refine aH h λ_ _ h=>?_;simp only[PZ,qqq,Qb] at h;obtain⟨⟨⟨⟨⟨rfl,rfl⟩,rfl⟩,h1⟩,h2⟩,h3⟩:=h;exact CU T h1 (aE a kt X g _ Z T h2).1 h3
end
end
def fk(g:G)(x:Str):Bool:=decide (g.names.lookup x=Δ .local)||decide (g.names.lookup x=Δ .cell)
def KQ(g:G)(t:Tg)(e:Expr):Bool:=match t with|.nm i=>bb e λx _=>decide (g.N[i]?=Δ x)&&fk g x|.tup _=>Ξ|.two i j=>mz e λes _ _=>aU es λa r=>bb a λx _=>aU r λb r'=>bb b λy _=>r'.isEmpty&&decide (g.N[i]?=Δ x)&&fk g x&&decide (g.N[j]?=Δ y)&&fk g y
def AU:Tg->Bool
 |.two _ _=>Λ|_=>Ξ
def xb(e:Expr):Bool:=e.ctorIdx==9||e.ctorIdx==10
mutual
def mF(g:G):S->Stmt->Bool
 |.ret e=>λs=>iC s λv _=>nP v λx=>di g e x|.Ap=>λs=>iC s λv _=>v.isNone|.set i e=>λs=>fX s λts v _=>aU ts λt r=>bb t λx _=>r.isEmpty&&decide (g.N[i]?=Δ x)&&fk g x&&di g e v&&!xb v|.ifs c a b=>λs=>AE s λx ys zs _=>di g c x&&nX g a ys&&nX g b zs|.oX t w b=>λs=>kY s λtg iter body orelse _=>orelse.isEmpty&&KQ g t tg&&OE g w iter&&nX g b body&&!b8 iter&&(!vP w||AU t)|.g8 t e b=>λs=>kY s λtg iter body orelse _=>orelse.isEmpty&&KQ g t tg&&di g e iter&&nX g b body&&!b8 iter&&!AU t|.Aq i j a b=>λs=>kY s λtg iter body orelse _=>bJ iter λf0 xs eN cp=>bH f0 λo n ap=>orelse.isEmpty&&xs.isEmpty&&eN.isEmpty&&KQ g (.two i j) tg&&decide (n="items")&&!isCall o&&(ap.endLine==cp.line)&&di g a o&&nX g b body|.g9 i j a b=>λs=>kY s λtg iter body orelse _=>bJ iter λf0 xs eN cp=>bb f0 λn _=>aU xs λo r=>orelse.isEmpty&&r.isEmpty&&eN.isEmpty&&KQ g (.two i j) tg&&decide (n="enumerate")&&g.gl "enumerate"&&notStar o&&di g a o&&nX g b body|.ni c b=>λs=>nR s λx body orelse _=>orelse.isEmpty&&di g c x&&nX g b body|.kP i k=>λs=>fj s λname params body OU rt tps scope tsc bind pos=>OU.isEmpty&&rt.isNone&&tps.isEmpty&&tsc.isNone&&decide (bind=name)&&g.Ki i k name params body scope pos|.expr e=>λs=>mx s λx _=>di g e x&&!jl x|.app a e=>λs=>mx s λc _=>bJ c λf0 xs eN cp=>bH f0 λo n ap=>aU xs λx r=>r.isEmpty&&eN.isEmpty&&(ap.endLine==cp.line)&&decide (n="append")&&!isCall o&&di g a o&&di g e x&&notStar x|.put a i e=>λs=>fX s λts v _=>aU ts λt r=>cY t λo k _=>r.isEmpty&&di g a o&&di g i k&&di g e v&&!jl v|.Ar c f i e=>λs=>fX s λts v _=>aU ts λt r=>bH t λo n _=>bb o λx _=>r.isEmpty&&decide (n=f)&&g.lN c f&&decide (g.N[i]?=Δ x)&&g.qP x&&aO x&&di g e v|.raise=>λ_=>Λ
def nX(g:G):List S->List Stmt->Bool
 |[]=>λl=>l.isEmpty|s::ss=>λl=>aU l λx xs=>mF g s x&&nX g ss xs
end
inductive tS (K:KB) (Z:List Addr) (d:cB->aR->R Fl) (D:Ends) (σ:L2.St) (H:Hp):Prop
 |mk (m:List Addr) (r:cB) (st:aR) (a:bZ K H m Z r σ) (b:ay K H m Z st) (c:Ok K Z (d r st) m H (lL K Z D)):tS K Z d D σ H
structure dj(X:Cx)(kt:KT)(g:G)(C:Nat->List P->aR->R P):Prop extends Good X kt g C where
 cell:∀x,g.names.lookup x=Δ .cell->X.env.scope.names.lookup x=Δ .cell
 nd:g.N.Nodup
 KR:∀x,g.names.lookup x=Δ .cell->X.fn x=Λ
 kP:∀i k name params body scope pos,g.Ki i k name params body scope pos=Λ->∀Z,PS X (.FunctionDef name params body [] Θ [] scope Θ name pos) (tS (ae X kt) Z (bg C (.kP i k)))
 own:PassesOwn (model X.prog X.w) X.A X.env X.xe
section
variable{X:Cx}{g:G}{C:Nat->List P->aR->R P}{Z:List Addr}
theorem PS.imp{st:Stmt}(h:PS X st t)(i:∀D σ H,t' D σ H->t D σ H):PS X st t':=λη s σ H D I q=>h η s σ H D I (i D σ H q)
theorem iq.imp{st:List Stmt}(h:iq X st t)(i:∀D σ H,t' D σ H->t D σ H):iq X st t':=λη s σ H D I q=>h η s σ H D I (i D σ H q)
theorem dj.rf(T:dj X kt g C)(h:fk g x=Λ):Loc X.env.scope x:=by
 unfold fk at h;simp only[R3,qqq] at h;rcases h with h|h;·exact .inl (T.loc x h)
 ·exact .inr (T.cell x h)
theorem dj.CZ(T:dj X kt g C)(h:fk g x=Λ):X.fn x=Λ\/X.env.scope.names.lookup x=Δ .local:=by
 unfold fk at h;simp only[R3,qqq] at h;rcases h with h|h;·exact .inr (T.loc x h)
 ·exact .inl (T.KR x h)
theorem bZ.set{K:KB}(A:bZ K H m Z r σ)(rv:ai K H m Z p v):bZ K H m Z (r.set i (Δ p)) (σ.set i (Δ v)):=by
 refine⟨by rw[Sr,Sr];exact A.len,λj q h=>?_⟩;by_cases hj:i=j
 ·subst hj;have hi:i < r.length:=by have:=(qqz h).1;rwa [Sr] at this
  rw[Q6 hi] at h;cases h;exact⟨v,by rw[Q6 (by rw[<-A.len];exact hi)],rv⟩
 ·rw[RJ hj] at h;obtain⟨w',e,r'⟩:=A.at_ j q h;exact⟨w',by rw[RJ hj];exact e,r'⟩
theorem KS(h:PE X x (tE (ae X kt) Z (aa C e))):PS X (.Return (Δ x) pos) (tS (ae X kt) Z (bg C (.ret e))):=by refine PS.imp (mK h) ?_;rintro D σ H ⟨m,r,st,ar,as,h⟩;rw[iw] at h;exact⟨m,r,st,ar,as,(Ok.bind h).mono λp st1 m1 H1 bq aQ h1=>Ok.here h1 aQ⟩
theorem GI:PS X (.Return Θ pos) (tS (ae X kt) Z (bg C .Ap)):=by refine PS.imp BE ?_;rintro D σ H ⟨m,r,st,ar,as,h⟩;rw[vG] at h;exact Ok.here h as .bu rfl
theorem rg(h:jl x=Ξ):Se x t line env=pure Ξ:=by
 cases x<;>first
  |rfl
  |exact absurd (show Λ=Ξ from h) QF.symm
theorem KU(T:dj X kt g C)(hi:g.N[i]?=Δ x)(hl:fk g x=Λ)(hc:jl v=Ξ)(h:PE X v (tE (ae X kt) Z (aa C e))):PS X (.Assign [.Name x p] v pos) (tS (ae X kt) Z (bg C (.set i e))):=by refine PS.imp (yY (i:=i) (by rw[T.N];exact T.nd) (by rw[T.N];exact hi) (T.rf hl) h (rg hc) (T.CZ hl)) ?_;rintro D σ H ⟨m,r,st,ar,as,h⟩;rw[kU] at h;refine⟨m,r,st,ar,as,(Ok.bind h).mono λq st1 m1 H1 bq aQ h1 v rv=>?_⟩;exact Ok.here h1 aQ (σ.set i (Δ v)) ((ar.le bq).set rv)
theorem AV(h:di g e (.ListComp elt gens sc pos)=Λ):(∃mu w ts js c ee,e=.lst mu (.comp w ts js c ee))\/∃mu a js c ee,e=.lst mu (.cj a js c ee):=by
 cases e with
 |lst mu l=>cases l with|comp w ts js c ee=>exact .inl ⟨mu,w,ts,js,c,ee,rfl⟩|cj a js c ee=>exact .inr ⟨mu,a,js,c,ee,rfl⟩|_=>exact nomatch (show Ξ=Λ from h)
 |_=>exact nomatch (show Ξ=Λ from h)
theorem xc(hk:env.scope.kind=.function):
  Se (.ListComp elt gens sc pos) (Δ (.Name x p)) line env=pure (decide (env.scope.names.lookup x=Δ .local)&&(p.line==pos.line)&&!(sc.names.any λq=>q.1==x&&(q.2==.local||q.2==.cell))):=by
 unfold Se;dsimp only;have h1:env.blockKind=.function:=by unfold PySem.Env.blockKind;rw[hk];rfl
 have h2:(env.kindOf x==Δ .local)=decide (env.scope.names.lookup x=Δ .local):=by
  unfold PySem.Env.kindOf;by_cases h:env.scope.names.lookup x=Δ .local;·rw[h];rfl
  ·rw[decide_eq_false h];exact beq_eq_false_iff_ne.mpr h
 rw[h1,h2];rfl
theorem rm{D:Ends}(h:tS (ae X kt) Z (bg C (.set i e)) D σ H):tE (ae X kt) Z (aa C e) σ H λv H1=>D.nx (σ.set i (Δ v)) H1:=by obtain⟨m,r,st,ar,as,h⟩:=h;rw[kU] at h;refine⟨m,r,st,ar,as,(Ok.bind h).mono λq st1 m1 H1 bq aQ h1 v rv=>?_⟩;exact Ok.here h1 aQ (σ.set i (Δ v)) ((ar.le bq).set rv)
theorem AW(T:dj X kt g C)(hi:g.N[i]?=Δ x)(hl:fk g x=Λ)(hc:xb v=Ξ)(h:di g e v=Λ):PS X (.Assign [.Name x p] v pos) (tS (ae X kt) Z (bg C (.set i e))):=by
 have he:=(aE e kt X g v Z T.toGood h).1;by_cases Iq:jl v=Ξ;·exact KU T hi hl Iq he
 ·cases v with
  |ListComp elt gens sc GJ=>
   intro η s σ H D I q;have sw:=xc (x:=x) (p:=p) (elt:=elt) (gens:=gens) (sc:=sc) (pos:=GJ) (line:=pos.line) I.ok.kind;cases hb:(decide (X.env.scope.names.lookup x=Δ .local)&&(p.line==GJ.line)&&!(sc.names.any λq=>q.1==x&&(q.2==.local||q.2==.cell))) with
   |false=>rw[hb] at sw;exact PS.imp (yY (i:=i) (by rw[T.N];exact T.nd) (by rw[T.N];exact hi) (T.rf hl) he sw (T.CZ hl)) (λD σ H q=>rm q) η s σ H D I q|true=>
    have sw':X.Ok->Se (.ListComp elt gens sc GJ) (Δ (.Name x p)) pos.line X.env=pure Λ:=λok=>by rw[xc ok.kind,hb]
    rcases AV h with ⟨mu,w,ts,js,c,ee,rfl⟩|⟨mu,a,js,c,ee,rfl⟩
    ·have q1:=qX (rm q);refine aH (show aU gens _=Λ from h) λge r h=>?_;refine mw h λtg iter ifs a h=>?_;refine aK h λy py h=>?_;simp only[PZ,qqq,Qq,Qb] at h;obtain⟨⟨⟨⟨⟨⟨⟨⟨⟨⟨rfl,rfl⟩,rfl⟩,h1⟩,OT⟩,h2⟩,h3⟩,h4⟩,h5⟩,h6⟩,h7⟩:=h;have B:=T.toGood.qY h2;have T':∀η fp Cc s H,Good (ja X η (eJ g y js) sc fp Cc s H) kt (g.inner (eJ g y js) sc) C:=λη fp Cc s H=>T.toGood.inner (js:=js) B.dH;refine m5 T.calm B (qZ w kt X g iter (.Name y py) Z T.toGood h1 (λz=>by rw[OT] at z;cases z)) (λη fp Cc s H=>dg (i:=0) h4 rfl (.inl ((T' η fp Cc s H).loc y h3)) (.inr ((T' η fp Cc s H).loc y h3)))
      (λη fp Cc s H=>(lj c).2 kt _ _ _ (T' η fp Cc s H) h5) (λη fp Cc s H=>CV λZ=>(aE ee kt _ _ _ Z (T' η fp Cc s H) h6).1) (λy=>?_) sw' (dg (i:=i) (by rw[T.N];exact T.nd) (by rw[T.N];exact hi) (T.rf hl) (T.CZ hl)) η s σ H D I (t9 q1)
     cases iter<;>first
      |rfl
      |exact absurd (show Λ=Ξ from h7) QF.symm
    ·have q1:=qX (rm q);refine aH (show aU gens _=Λ from h) λge r h=>?_;refine mw h λtg iter ifs a9 h=>?_;refine aK h λy py h=>?_;simp only[PZ,qqq,Qq,Qb] at h;obtain⟨⟨⟨⟨⟨⟨⟨⟨rfl,rfl⟩,h1⟩,h2⟩,h3⟩,h4⟩,h5⟩,h6⟩,h7⟩:=h;have B:=T.toGood.qY h2;have T':∀η fp Cc s H,Good (ja X η (eJ g y js) sc fp Cc s H) kt (g.inner (eJ g y js) sc) C:=λη fp Cc s H=>T.toGood.inner (js:=js) B.dH;refine m5 T.calm B (mj (aE a kt X g iter Z T.toGood h1).1) (λη fp Cc s H=>dg (i:=0) h4 rfl (.inl ((T' η fp Cc s H).loc y h3)) (.inr ((T' η fp Cc s H).loc y h3)))
      (λη fp Cc s H=>(lj c).2 kt _ _ _ (T' η fp Cc s H) h5) (λη fp Cc s H=>CV λZ=>(aE ee kt _ _ _ Z (T' η fp Cc s H) h6).1) (λy=>?_) sw' (dg (i:=i) (by rw[T.N];exact T.nd) (by rw[T.N];exact hi) (T.rf hl) (T.CZ hl)) η s σ H D I (p7 q1)
     cases iter<;>first
      |rfl
      |exact absurd (show Λ=Ξ from h7) QF.symm
  |SetComp _ _ _ _=>cases hc|DictComp _ _ _ _ _=>cases hc|_=>exact absurd rfl Iq
theorem GK(hc:jl x=Ξ)(h:PE X x (tE (ae X kt) Z (aa C e))):PS X (.Expr x pos) (tS (ae X kt) Z (bg C (.expr e))):=by refine PS.imp (wt h (rg hc)) ?_;rintro D σ H ⟨m,r,st,ar,as,h⟩;rw[nB] at h;refine⟨m,r,st,ar,as,(Ok.bind h).mono λq st1 m1 H1 bq aQ h1 v rv=>?_⟩;exact Ok.here h1 aQ σ (ar.le bq)
theorem ag.setAt{K:KB}(r:ai K H m Z p v):∀{xs} {us} (j),ag K H m Z xs us->ag K H m Z (xs.set j p) (us.set j v)
 |[],us,j,h=>by cases (show us=[] from h);exact rfl|x::xs,us,j,h=>by obtain⟨u,CW,rfl,r1,rs⟩:=(show ∃v vs,us=v::vs/\ai K H m Z x v/\ag K H m Z xs vs from h);cases j with|zero=>exact⟨v,CW,rfl,r,rs⟩|succ j=>exact⟨u,CW.set j v,rfl,r1,ag.setAt r j rs⟩
theorem KW(hl:(ap.endLine==cp.line)=Λ)(hc:isCall o=Ξ)(ho:PE X o (tE (ae X kt) Z (aa C a)))(hx:PE X x (tE (ae X kt) Z (aa C e)))(hs:notStar x=Λ):
  PS X (.Expr (.Call (.Attribute o "append" ap) [x] [] cp) pos) (tS (ae X kt) Z (bg C (.app a e))):=by
 have s1:Qo [x] X.env=[(Ξ,eval x X.env)]:=br hs;refine PS.imp (wt (DF PySem.F.plainAttrs_list PySem.F.slot_list_append PySem.F.type_list_append kH ho (gE hx lR hs) (lg hc) (by rw[s1];rfl) hl s1 rfl) rfl) ?_;rintro D σ H ⟨m,r,st,ar,as,h⟩;rw[yv] at h;refine⟨m,r,st,ar,as,(Ok.bind h).mono λy st1 m1 H1 bq aQ h1 v rv=>?_⟩;obtain⟨aC,e1,h2,cA⟩:=Ok.of (Ok.bind h1) aQ;clear cA;obtain⟨l,us,rfl,hq,rs⟩:=cC aQ e1 rv;refine⟨.inl ⟨rfl,us,.inl hq⟩,m1,r,st1,ar.le bq,aQ,?_⟩;show Ok (ae X kt) Z (aD C [e] r st1) m1 H1 _;simp only[bh,aX];cases hr:aa C e r st1 with
 |ex x s=>rw[hr] at h2;exact(show False from h2).elim|no=>rw[hr] at h2;exact(show False from h2).elim|ok w aF=>
  rw[hr] at h2;simp only[ax] at h2 ⊢;intro m2 H2 cO cL vs eX;obtain⟨u,rfl,ru⟩:=o5 eX;obtain⟨cq,e2,h3,cA⟩:=Ok.of (Ok.bind (Ok.le h2 cO)) cL;clear cA;unfold FI at e2;split at e2
  ·rename_i n;split at e2
   ·rename_i xs KP;split at e2;·rename_i fD;cases e2;obtain⟨b,hb,eb⟩:=rv.le cO;cases eb;obtain⟨b',fE,zs,hz,rz⟩:=cL.at_ n _ KP;rw[hb] at fE;cases fE;obtain⟨j4,kr⟩:=cL.write (ho:=.lst (zs++[u])) (o':=.lst (xs++[w])) KP hb λH' e _ f=>⟨_,e,(rz.mono f).append ⟨u,[],rfl,f _ _ ru,rfl⟩⟩;refine⟨l,zs,u,rfl,rfl,hz,by rw[rz.length,<-cG];exact fD,?_⟩;exact h3 m2 _ j4 kr σ (((ar.le bq).le cO).le j4)
    ·cases e2
   ·cases e2
  ·cases e2
def KY:IA:=λo i v H Q=>∃a H4,o=.ref a/\si H a i v H4/\Q H4
theorem C0(hu:X.A.units+100 < cLine):xx X KY:=by intro η s σ H o i v ov iv u Q I ro ri rv h;obtain⟨a,H4,rfl,g,q⟩:=h;cases ro;exact xN (by lia) I g ri rv λs4 I4=>⟨H4,I4,q⟩
theorem C1(h:xx X t)(h':xx X t'):xx X (λo i v H Q=>t o i v H Q\/t' o i v H Q):=by
 intro η s σ H o i v ov iv u Q I ro ri rv q;rcases q with q|q;·exact h η s σ H o i v ov iv u Q I ro ri rv q
 ·exact h' η s σ H o i v ov iv u Q I ro ri rv q
theorem GL(hp:xx X t)(ho:PE X o td)(hi:PE X i ty)(hv:PE X value tv)(hs:Se value (Δ (.Subscript o i pos')) pos.line X.env=pure Ξ):
  PS X (.Assign [.Subscript o i pos'] value pos) (λD σ H=>tv σ H λv H1=>td σ H1 λx H2=>ty σ H2 λy H3=>t x y v H3 λH4=>D.nx σ H4):=by
 intro η s σ H D I h;refine wpAny_Assign_Subscript (bG (hv η s σ H _ I h) λr s1 ⟨v,H1,I1,rv,q1⟩=>bG (ho η s1 σ H1 _ I1 q1) λu s2 ⟨x,H2,I2,rx,q2⟩=>bG (hi η s2 σ H2 _ I2 q2) λiv s3 ⟨y,H3,I3,ry,q3⟩=>?_) hs;exact bG (hp η s3 σ H3 x y v u iv r _ I3 rx ry rv q3) λ_ s4 ⟨H4,I4,q4⟩=>⟨σ,H4,I4,q4⟩
theorem KZ(T:Good X kt g C)(hc:jl v=Ξ)(ho:PE X o (tE (ae X kt) Z (aa C a)))(hk:PE X k (tE (ae X kt) Z (aa C i)))(hv:PE X v (tE (ae X kt) Z (aa C e))):
  PS X (.Assign [.Subscript o k pos'] v pos) (tS (ae X kt) Z (bg C (.put a i e))):=by
 refine PS.imp (GL (C1 set_list (C0 T.hu)) ho hk hv (rg hc)) ?_;rintro D σ H ⟨m,r,st,ar,as,h⟩;rw[yw] at h;refine⟨m,r,st,ar,as,(Ok.bind h).mono λw st1 m1 H1 bq aQ h1 vw i9=>?_⟩;refine⟨m1,r,st1,ar.le bq,aQ,(Ok.bind h1).mono λx aF m2 H2 cO cL h2 vx rx=>?_⟩;refine⟨m2,r,aF,(ar.le bq).le cO,cL,(Ok.bind h2).mono λy cq m3 H3 j4 kr h3 vy ry=>?_⟩;obtain⟨jv,e2,h4,cA⟩:=Ok.of (Ok.bind h3) kr;clear cA;have OV:=(i9.le cO).le j4;have OW:=((ar.le bq).le cO).le j4;unfold FJ at e2;split at e2
 ·rename_i n;obtain⟨ob,Ag,e5⟩:=bS e2;clear e2;obtain⟨ob',e3,rfl⟩:=dZ e5;clear e5;obtain⟨b,hb,eb⟩:=rx.le j4;cases eb;obtain⟨b',fE,ao⟩:=kr.at_ n _ Ag;rw[hb] at fE;cases fE;cases ob with
  |ins c fs=>cases e3|rW=>cases e3|lst xs=>
   obtain⟨zs,hz,rz⟩:=ao;unfold Kb at e3;dsimp only at e3;split at e3;·rename_i j;obtain⟨q,hq,rfl⟩:=dZ e3;cases (show vy=.int j from ry);obtain⟨rY,w6⟩:=kr.write (ho:=.lst (zs.set q vw)) (o':=.lst (xs.set q w)) Ag hb λH' e _ f=>⟨_,e,(rz.mono f).setAt (f _ _ OV) q⟩;refine .inl ⟨b,zs,j,q,rfl,rfl,hz,by rw[rz.length];exact hq,?_⟩;exact h4 m3 _ rY w6 σ (OW.le rY)
   ·cases e3
  |dK kvs=>
   obtain⟨us,hu,rs⟩:=ao;have e4:(if kvs.length < aB then(keyOf y).map λk=>O.dK (oY kvs k w) else Θ)=Δ ob':=e3;split at e4;·rename_i fD;obtain⟨kk,xX,rfl⟩:=dZ e4;rw[ry.key xX];obtain⟨rY,w6⟩:=kr.write (ho:=.dK (putK us kk vw)) (o':=.dK (oY kvs kk w)) Ag hb λH' e _ f=>⟨_,e,(rs.mono f).put (f _ _ OV)⟩;refine .inr ⟨b,_,rfl,si.k hu (by rw[rs.length,<-cG];exact fD),?_⟩;exact h4 m3 _ rY w6 σ (OW.le rY)
   ·cases e4
  |dT kvs=>
   obtain⟨us,hu,rs⟩:=ao;have e4:(if kvs.length < aB then(jS y).map λk=>O.dT (oY kvs k w) else Θ)=Δ ob':=e3;split at e4;·rename_i fD;obtain⟨kk,xX,rfl⟩:=dZ e4;obtain⟨bk,rfl,hbk⟩:=ry.jS xX;obtain⟨rY,w6⟩:=kr.write (ho:=.dT (putK us kk vw)) (o':=.dT (oY kvs kk w)) Ag hb λH' e _ f=>⟨_,e,(rs.mono f).put (f _ _ OV)⟩;refine .inr ⟨b,_,rfl,si.t hu hbk (by rw[rs.length,<-cG];exact fD),?_⟩;exact h4 m3 _ rY w6 σ (OW.le rY)
   ·cases e4
 ·cases e2
theorem aN.qL{K:KB}{H:Hp}{m:List Addr}{f:Str}{p:P}{v:V}(rp:ai K H m Z p v):∀{fs:List (Str×P)} {us:List (Str×V)},aN K H m Z fs us->aN K H m Z (qL f p fs) (gm f v us)
 |[],us,h=>by cases (show us=[] from h);exact⟨v,[],rfl,rp,rfl⟩|(k,q)::fs,us,h=>by
  obtain⟨w,ws,rfl,r,rs⟩:=(show ∃v vs,us=(k,v)::vs/\ai K H m Z q v/\aN K H m Z fs vs from h);show aN K H m Z (if k=f then(k,p)::fs else(k,q)::Y.qL f p fs) (if k=f then(k,v)::ws else(k,w)::gm f v ws);by_cases hk:k=f;·rw[if_pos hk,if_pos hk];exact⟨v,ws,rfl,rp,rs⟩
  ·rw[if_neg hk,if_neg hk];exact⟨w,_,rfl,r,aN.qL rp rs⟩
theorem C2:Se v (Δ (.Attribute o f p)) line env=pure Ξ:=by cases v<;>rfl
theorem GN(T:Good X kt g C)(hf:g.lN c f=Λ)(h1:g.N[i]?=Δ x)(h2:g.qP x=Λ)(h3:aO x=Λ)(hv:PE X v (tE (ae X kt) Z (aa C e))):
  PS X (.Assign [.Attribute (.Name x p) f pos'] v pos) (tS (ae X kt) Z (bg C (.Ar c f i e))):=by
 refine PS.imp (EB (tQ (Z:=Z) (kt:=kt) T h1 h2 h3) hv C2) ?_;rintro D σ H ⟨m,r,st,ar,as,h⟩;rw[vL] at h;refine⟨m,r,st,ar,as,(Ok.bind h).mono λw st1 m1 H1 bq aQ h1 vw i9=>?_⟩;refine⟨m1,r,st1,ar.le bq,aQ,?_⟩;rw[dJ];refine(Ok.bind h1).mono λx aF m2 H2 cO cL h2 vx rx=>?_;obtain⟨cq,e2,h4,_⟩:=Ok.of (Ok.bind h2) cL;obtain⟨⟨n,fs⟩,e3,e4⟩:=bS e2;split at e4
 ·rename_i fD;cases e4;obtain⟨a,A,dx,us,rfl,hm,rfl,hs,g1,g2,g3,g4⟩:=vR cL rx e3;obtain⟨A',k1,k2,k3⟩:=T.fld c f hf;rw[show Qf X.K Qa c=Δ (Δ (.ref A)) from g1] at k1;cases k1;have mY:dx≠a:=by rintro rfl;rw[g2] at g3;cases g3
  obtain⟨rY,w6⟩:=cL.write (ho:=.ins A dx (gm f vw us)) (o':=.ins c (qL f w fs)) hs hm λH' e k f=>⟨A,dx,_,g1,e,k _ _ mY g3,(g4.mono f).qL (f _ _ (i9.le cO))⟩;refine⟨a,A,dx,us,rfl,g2,k2,k3,by rw[g4.length];exact fD,?_⟩;exact h4 m2 _ rY w6 σ (((ar.le bq).le cO).le rY)
 ·cases e4
theorem GO:iq X [] (tS (ae X kt) Z (aw C [])):=by refine iq.imp iu ?_;rintro D σ H ⟨m,r,st,ar,as,h⟩;rw[nC] at h;exact Ok.here h as σ ar
theorem C3(h1:PS X x (tS (ae X kt) Z (bg C s)))(h2:iq X xs (tS (ae X kt) Z (aw C ss))):iq X (x::xs) (tS (ae X kt) Z (aw C (s::ss))):=by refine iq.imp (dS h1 h2) ?_;rintro D σ H ⟨m,r,st,ar,as,h⟩;rw[cX] at h;refine⟨m,r,st,ar,as,(Ok.bind h).mono λf st1 m1 H1 bq aQ h1=>?_⟩;cases f with|nx r1=>exact λcn OX=>⟨m1,r1,st1,OX,aQ,h1⟩|bk r1=>exact Ok.here h1 aQ|ct r1=>exact Ok.here h1 aQ|rt v=>exact Ok.here h1 aQ
theorem OY(hc:PT X c (tT (ae X kt) Z (bK (aa C ec))))(ha:iq X a (tS (ae X kt) Z (aw C ea)))(hb:iq X b (tS (ae X kt) Z (aw C eb))):PS X (.If c a b pos) (tS (ae X kt) Z (bg C (.ifs ec ea eb))):=by refine PS.imp (Dx hc ha hb) ?_;rintro D σ H ⟨m,r,st,ar,as,h⟩;rw[iy] at h;refine⟨m,r,st,ar,as,(Ok.bind h).mono λk st1 m1 H1 bq aQ h1=>?_⟩;cases k with|true=>exact⟨m1,r,st1,ar.le bq,aQ,h1⟩|false=>exact⟨m1,r,st1,ar.le bq,aQ,h1⟩
theorem ud{K:KB}{D:Ends}{st:aR}{k:cB->aR->R Fl}(as:ay K H m Z st)(h:Ok K Z (match f with|.nx r2=>k r2 st|.ct r2=>k r2 st|.bk r2=>R.ok (.nx r2) st|.rt v=>R.ok (.rt v) st) m H (lL K Z D))(hN:∀r σ,bZ K H m Z r σ->Ok K Z (k r st) m H (lL K Z D)->N σ H):lL K Z {D with nx:=N,ct:=N,bk:=D.nx} f st m H:=by cases f with|nx r2=>exact λσ ar=>hN r2 σ ar h|ct r2=>exact λσ ar=>hN r2 σ ar h|bk r2=>exact Ok.here h as|rt v=>exact Ok.here h as
theorem C4(T:dj X kt g C)(hc:PT X c (tT (ae X kt) Z (bK (aa C ec))))(hb:iq X body (tS (ae X kt) Z (aw C eb))):PS X (.While c body [] pos) (tS (ae X kt) Z (bg C (.ni ec eb))):=by refine PS.imp (yZ T.own hc hb) ?_;rintro D σ H ⟨m,r,st,ar,as,h⟩;rw[qN] at h;refine⟨λn σ H=>∃m r st,bZ (ae X kt) H m Z r σ/\ay (ae X kt) H m Z st/\Ok (ae X kt) Z (fM (bK (aa C ec)) (aw C eb) n r st) m H (lL (ae X kt) Z D),⟨jU,m,r,st,ar,as,h⟩,?_⟩;rintro n σ H ⟨m,r,st,ar,as,h⟩;cases n with|zero=>exact(show False from h).elim|succ n=>rw[tF] at h;refine⟨m,r,st,ar,as,(Ok.bind h).mono λk st1 m1 H1 bq aQ h1=>?_⟩;cases k with|false=>exact Ok.here h1 aQ σ (ar.le bq)|true=>refine⟨λcn H'=>∃m r st,bZ (ae X kt) H' m Z r cn/\ay (ae X kt) H' m Z st/\Ok (ae X kt) Z (fM (bK (aa C ec)) (aw C eb) n r st) m H' (lL (ae X kt) Z D),λcn H' q=>⟨n,Rk n,q⟩,?_⟩;refine⟨m1,r,st1,ar.le bq,aQ,(Ok.bind (show Ok (ae X kt) Z ((aw C eb r st1).bind _) m1 H1 _ from h1)).mono λf aF m2 H2 cO cL h2=>?_⟩;exact ud (k:=λr2 aF=>fM (bK (aa C ec)) (aw C eb) n r2 aF) cL h2 λr2 HC By q=>⟨m2,r2,aF,By,cL,q⟩
theorem AX(T:dj X kt g C)(hs:b8 iter=Ξ)(hw:PI X tg iter (tW (ae X kt) Z (cu C w)))(hg:PG X tg gt)(GA:∀(p:P) (v:V) (m:List Addr) (H:Hp) (r r1:cB) (σ:L2.St) (Q:L2.St->Hp->Prop),ai (ae X kt) H m Z p v->bZ (ae X kt) H m Z r σ->rX t p r=Δ r1->(∀cn,bZ (ae X kt) H m Z r1 cn->Q cn H)->gt v σ H Q)(hb:iq X body (tS (ae X kt) Z (aw C eb))):
  PS X (.For tg iter body [] pos) (tS (ae X kt) Z (bg C (.oX t w eb))):=by
 refine PS.imp (qr T.own T.calm hw hg hb (λy=>?_)) ?_
 ·cases iter<;>first
   |rfl
   |exact absurd (show Λ=Ξ from hs) QF.symm
 rintro D σ H ⟨m,r,st,ar,as,h⟩;rw[nA] at h;refine⟨m,r,st,ar,as,(Ok.bind h).mono λps st1 m1 H1 bq aQ h1 J wk=>?_⟩;refine⟨λi k σ H=>k=ps.length - i/\i<=ps.length/\∃m r st,Le (ae X kt) m1 H1 m H/\bZ (ae X kt) H m Z r σ/\ay (ae X kt) H m Z st/\Ok (ae X kt) Z (forL (rX t) (aw C eb) (ps.drop i) r st) m H (lL (ae X kt) Z D),⟨ps.length,by simp,R6 _,m1,r,st1,Le.refl,ar.le bq,aQ,by rw[Uc];exact h1⟩,?_⟩;rintro j k σ H ⟨rfl,hj,m,r,st,le,ar,as,h⟩;obtain⟨w1,w2⟩:=wk m H Z le (λa ha=>.inl ha) j;by_cases fD:j < ps.length;·have HP:j < ps.length:=fD;obtain⟨go,yl⟩:=w1 ps[j] (Qh HP);have cA:ps.drop j=ps[j]::ps.drop (j+1):=SK HP;rw[cA,pW] at h;refine .inr ⟨go,λcn H'=>∃m r st,Le (ae X kt) m1 H1 m H'/\bZ (ae X kt) H' m Z r cn/\ay (ae X kt) H' m Z st/\Ok (ae X kt) Z (forL (rX t) (aw C eb) (ps.drop (j+1)) r st) m H' (lL (ae X kt) Z D),λcn H' q=>⟨ps.length - (j+1),Sz _ _ fD,rfl,fD,q⟩,λy H' hy=>?_⟩;obtain⟨sm,ry'⟩:=yl y H' hy;have vU:Le (ae X kt) m H m H':=Le.same sm;replace le:=le.trans vU;replace as:=as.same sm;replace ar:=ar.le vU;cases hr:rX t ps[j] r with|none=>rw[hr] at h;exact(show False from h).elim|some r1=>rw[hr,dh,ax] at h;refine GA _ _ m H' r r1 σ _ ry' ar hr λcn OX=>⟨m,r1,st,OX,as,(Ok.bind (Ok.le h vU)).mono λf aF m2 H2 cO cL h3=>?_⟩;exact ud (k:=λr2 aF=>forL (rX t) (aw C eb) (ps.drop (j+1)) r2 aF) cL h3 λr2 HC By q=>⟨m2,r2,aF,le.trans cO,By,cL,q⟩
 ·have e:j=ps.length:=by lia
  subst e;rw[UG,Ay] at h;exact .inl ⟨w2 rfl,Ok.here h as σ ar⟩
theorem K0(T:dj X kt g C)(hi:g.N[i]?=Δ x)(hl:fk g x=Λ)(hs:b8 iter=Ξ)(hw:PI X (.Name x p) iter (tW (ae X kt) Z (cu C w)))(hb:iq X body (tS (ae X kt) Z (aw C eb))):
  PS X (.For (.Name x p) iter body [] pos) (tS (ae X kt) Z (bg C (.oX (.nm i) w eb))):=
 AX T hs hw (dg (i:=i) (by rw[T.N];exact T.nd) (by rw[T.N];exact hi) (T.rf hl) (T.CZ hl)) (λp v m H r r1 σ Q rp ar e q=>by cases e;exact q _ (ar.set rp)) hb
theorem GP(T:dj X kt g C)(hi:g.N[i]?=Δ x)(hl:fk g x=Λ)(xY:g.N[j]?=Δ y)(oU:fk g y=Λ)(hs:b8 iter=Ξ)(hw:PI X (.Tuple [.Name x p,.Name y p'] k p2) iter (tW (ae X kt) Z (cu C w)))(hb:iq X body (tS (ae X kt) Z (aw C eb))):
  PS X (.For (.Tuple [.Name x p,.Name y p'] k p2) iter body [] pos) (tS (ae X kt) Z (bg C (.oX (.two i j) w eb))):=by
 have nm:∀{z:Str} {a:Nat} {q:Pos},g.N[a]?=Δ z->fk g z=Λ->PG X (.Name z q) (mL a):=λ{z a q} h1 h2=>dg (i:=a) (by rw[T.N];exact T.nd) (by rw[T.N];exact h1) (T.rf h2) (T.CZ h2);refine AX T hs hw (uF (n:=2) T.calm (fP (nm hi hl) (fP (nm xY oU) qm))) (λq v m H r r1 σ Q rp ar e hq=>?_) hb;unfold rX at e;dsimp only at e;split at e;·rename_i a b;cases e;obtain⟨c,us,rfl,hc,v1,vs1,e1,rv1,v2,vs2,e2,OS,e3⟩:=rp;subst e3 e2 e1;exact⟨c,_,rfl,de.of hc,rfl,v1,[v2],rfl,v2,[],rfl,rfl,hq _ ((ar.set (p:=.d a) (show ai (ae X kt) H m Z (.d a) v1 from rv1)).set (p:=.d b) (show ai (ae X kt) H m Z (.d b) v2 from OS))⟩
 ·cases e
theorem GQ(T:dj X kt g C)(hi:g.N[i]?=Δ x)(hl:fk g x=Λ)(hs:b8 iter=Ξ)(hw:PE X iter (tE (ae X kt) Z (aa C e)))(hb:iq X body (tS (ae X kt) Z (aw C eb))):
  PS X (.For (.Name x p) iter body [] pos) (tS (ae X kt) Z (bg C (.g8 (.nm i) e eb))):=by
 refine PS.imp (qr T.own T.calm (mj hw) (dg (i:=i) (by rw[T.N];exact T.nd) (by rw[T.N];exact hi) (T.rf hl) (T.CZ hl)) hb (λy=>?_)) ?_
 ·cases iter<;>first
   |rfl
   |exact absurd (show Λ=Ξ from hs) QF.symm
 rintro D σ H ⟨m,r,st,ar,as,h⟩;rw[vH] at h;refine⟨m,r,st,ar,as,(Ok.bind h).mono λx0 st1 m1 H1 bq aQ h1 v rv=>?_⟩;split at h1
 ·rename_i n;obtain⟨a,ha,rfl⟩:=rv;have KH:∃us,H1 a=Δ (.lst us):=by have h2:Ok (ae X kt) Z (g8 n (rX (.nm i)) (aw C eb) (999999+1) 0 r st1) m1 H1 (lL (ae X kt) Z D):=h1;rw[pX] at h2;cases ho:wN n st1 0 with|none=>rw[ho] at h2;exact(show False from h2).elim|some o=>obtain⟨us,hu,_⟩:=lh aQ ha ho;exact⟨us,hu⟩
  obtain⟨KJ,KL⟩:=KH;refine⟨a,rfl,⟨KJ,.inl (.inl KL)⟩,?_⟩;refine⟨λj k σ H=>∃m r st,Le (ae X kt) m1 H1 m H/\bZ (ae X kt) H m Z r σ/\ay (ae X kt) H m Z st/\Ok (ae X kt) Z (g8 n (rX (.nm i)) (aw C eb) k j r st) m H (lL (ae X kt) Z D),⟨jU,m1,r,st1,Le.refl,ar.le bq,aQ,h1⟩,?_⟩;rintro j k σ H ⟨m,r,st,le,ar,as,h⟩;have KN:m[n]?=Δ a:=by obtain⟨t,et⟩:=le.pre;rw[et,Qn (qqz ha).1];exact ha
  cases k with|zero=>exact(show False from h).elim|succ k=>rw[pX] at h;cases ho:wN n st j with|none=>rw[ho] at h;exact(show False from h).elim|some o=>rw[ho] at h;obtain⟨us,hu,q0,q1⟩:=lh as KN ho;cases o with|none=>exact .inl ⟨⟨us,.inl (.inl hu),q0 rfl⟩,Ok.here (show Ok (ae X kt) Z (R.ok (Fl.nx r) st) m H (lL (ae X kt) Z D) from h) as σ ar⟩|some q=>obtain⟨vx,D4,rx⟩:=q1 q rfl;refine .inr ⟨⟨us,vx,.inl (.inl hu),D4⟩,λcn H'=>∃m r st,Le (ae X kt) m1 H1 m H'/\bZ (ae X kt) H' m Z r cn/\ay (ae X kt) H' m Z st/\Ok (ae X kt) Z (g8 n (rX (.nm i)) (aw C eb) k (j+1) r st) m H' (lL (ae X kt) Z D),λcn H' z=>⟨k,Rk k,z⟩,λy H' hy=>?_⟩;obtain⟨rfl,hx⟩:=hy;have ux:=hx us (.inl (.inl hu));rw[D4] at ux;cases ux;have h2:Ok (ae X kt) Z ((aw C eb (r.set i (Δ q)) st).bind _) m H' (lL (ae X kt) Z D):=h;refine⟨m,r.set i (Δ q),st,ar.set rx,as,(Ok.bind h2).mono λf aF m2 H2 cO cL h3=>?_⟩;exact ud (k:=λr2 aF=>g8 n (rX (.nm i)) (aw C eb) k (j+1) r2 aF) cL h3 λr2 HC By q=>⟨m2,r2,aF,le.trans cO,By,cL,q⟩
 ·exact(show False from h1).elim
section
variable{K:KB}{H H':Hp}{m:List Addr}
mutual
theorem aI.chg(f:∀a u,H a=Δ u->(∀o us,u≠.cF o (.dK us))->H' a=Δ u):∀{x:D} {v:V},aI K H m Z x v->aI K H' m Z x v
 |.bu,_,h=>h|.bl _,_,h=>h|.int _,_,h=>h|.str _,_,h=>h|.tup xs,v,h=>by obtain⟨a,us,e,q,r⟩:=(show ∃a us,v=.ref a/\H a=Δ (.tup us)/\aj K H m Z xs us from h);exact⟨a,us,e,f _ _ q (λ_ _ z=>nomatch z),aj.chg f r⟩
 |.pl xs,v,h=>by
  obtain⟨a,us,e,q,hm,hz,r⟩:=(show ∃a us,v=.ref a/\Rd H a (.lst us)/\a∉m/\a∉Z/\aj K H m Z xs us from h);refine⟨a,us,e,?_,hm,hz,aj.chg f r⟩;rcases q with q|⟨o,q⟩;·exact .inl (f _ _ q (λ_ _ z=>nomatch z))
  ·exact .inr ⟨o,f _ _ q (λ_ _ z=>nomatch z)⟩
theorem aj.chg(f:∀a u,H a=Δ u->(∀o us,u≠.cF o (.dK us))->H' a=Δ u):∀{xs:List D} {us:List V},aj K H m Z xs us->aj K H' m Z xs us
 |[],_,h=>h|x::xs,us,h=>by obtain⟨v,vs,e,r,rs⟩:=(show ∃v vs,us=v::vs/\aI K H m Z x v/\aj K H m Z xs vs from h);exact⟨v,vs,e,aI.chg f r,aj.chg f rs⟩
end
mutual
theorem ai.chg(f:∀a u,H a=Δ u->(∀o us,u≠.cF o (.dK us))->H' a=Δ u):∀{x:P} {v:V},ai K H m Z x v->ai K H' m Z x v
 |.d _,_,h=>by rw[ai] at h ⊢;exact aI.chg f h|.obj n,v,h=>by rw[ai] at h ⊢;exact h|.fb ns,v,h=>by
  rw[ai] at h ⊢;obtain⟨a,e,r⟩:=h;refine⟨a,e,?_⟩;rcases r with ⟨o,r⟩|r
  ·exact .inl ⟨o,f _ _ r (λ_ _ z=>nomatch z)⟩
  ·exact .inr r
 |.fn k bx,v,h=>by rw[ai] at h ⊢;obtain⟨a,c,bN,e,q,hc,r⟩:=h;exact⟨a,c,bN,e,q,f _ _ hc (λ_ _ z=>nomatch z),ag.chg f r⟩|.lf k,v,h=>by rw[ai] at h ⊢;obtain⟨a,c,ct,e,q,r⟩:=h;exact⟨a,c,ct,e,f _ _ q (λ_ _ z=>nomatch z),f _ _ r (λ_ _ z=>nomatch z)⟩
theorem ag.chg(f:∀a u,H a=Δ u->(∀o us,u≠.cF o (.dK us))->H' a=Δ u):∀{xs:List P} {us:List V},ag K H m Z xs us->ag K H' m Z xs us
 |[],_,h=>h|x::xs,us,h=>by obtain⟨v,vs,e,r,rs⟩:=(show ∃v vs,us=v::vs/\ai K H m Z x v/\ag K H m Z xs vs by rw[ag] at h;exact h);rw[ag];exact⟨v,vs,e,ai.chg f r,ag.chg f rs⟩
end
end
theorem GR{K:KB}(e1:H1 d=Δ (.dK us))(hm:m1[n]?=Δ d)(rs:aN K H1 m1 Z kvs us)(le:Le K m1 (upd H1 d (.cF o (.dK us))) m2 H2)(as:ay K H2 m2 Z aF):H2 d=Δ (.cF o (.dK us))/\Le K m1 H1 m2 (upd H2 d (.dK us))/\ay K (upd H2 d (.dK us)) m2 Z (aF.set n (.dK kvs))/\∀p v,ai K H2 m2 Z p v->ai K (upd H2 d (.dK us)) m2 Z p v:=by
 have e2:H2 d=Δ (.cF o (.dK us)):=le.cF _ _ _ aA;have dm:d∈m1:=Q2 hm;have f:∀a u,H2 a=Δ u->(∀o us,u≠.cF o (.dK us))->upd H2 d (.dK us) a=Δ u:=λa u q z=>by rw[av (λw'=>by rw[w',e2] at q;exact z o us (Qx q).symm)];exact q
 have up:∀{a:Addr} {u:HO},H1 a=Δ u->a≠d->upd H1 d (.cF o (.dK us)) a=Δ u:=λq z=>by rw[av z];exact q
 have lf:Le K m1 H1 m2 (upd H2 d (.dK us)):=by
  refine⟨le.pre,λa xs q=>?_,λa u q ha hu=>?_,λa ha=>?_,λa q=>?_,λa q=>?_,λa ob u q=>?_,λa φ q=>?_,λa ps q=>?_⟩;·exact f _ _ (le.tup _ _ (up q (λz=>by rw[z,e1] at q;cases q))) (λ_ _ z=>nomatch z)
  ·have hd:a≠d:=λz=>ha (by rw[z];exact dm);rw[av hd];exact le.keep _ _ (up q hd) ha hu
  ·rcases le.new a ha with z|z;·exact .inl z
   ·by_cases hd:a=d;·rw[hd];exact .inl dm
    ·rw[av hd] at z;exact .inr z
  ·by_cases hd:a=d;·rw[hd,aA];exact λz=>nomatch z
   ·rw[av hd];exact le.lW _ (by rw[av hd];exact q)
  ·exact iz (λ_ z=>nomatch z) (le.wQ _ (iz (λ_ z=>nomatch z) q))
  ·have hd:a≠d:=λz=>by rw[z,e1] at q;cases q
   rw[av hd];exact le.cF _ _ _ (up q hd)
  ·exact f _ _ (le.ext _ _ (up q (λz=>by rw[z,e1] at q;cases q))) (λ_ _ z=>nomatch z)
  ·obtain⟨more,w'⟩:=le.dc _ _ (up q (λz=>by rw[z,e1] at q;cases q));exact⟨more,f _ _ w' (λ_ _ z=>nomatch z)⟩
 have GS:m2[n]?=Δ d:=by obtain⟨t,et⟩:=le.pre;rw[et,Qn (qqz hm).1];exact hm
 refine⟨e2,lf,⟨by rw[Sr];exact as.len,as.nd,λk ob hk=>?_,λb hb=>iz (λ_ z=>nomatch z) (as.zt b hb),as.zm,λt ht=>?_⟩,λp v z=>z.chg f⟩
 ·by_cases FQ:n=k
  ·subst FQ;have fD:n < aF.length:=by rw[<-as.len];exact(qqz GS).1
   rw[Q6 fD] at hk;cases hk;exact⟨d,GS,us,aA,rs.mono λp v z=>z.le lf⟩
  ·rw[RJ FQ] at hk;obtain⟨b,q,rr⟩:=as.at_ k ob hk;have K3:b≠d:=by rintro rfl;obtain⟨l1,e1⟩:=qqz GS;obtain⟨l2,e2⟩:=qqz q;exact FQ (gO as.nd l1 l2 (e1.trans e2.symm))
   refine⟨b,q,rr.mono (λb' u fE hu=>?_) λp v z=>z.chg f⟩;rw[av (λz=>by
    rcases fE with w1|w1;·exact K3 (w1▸z)
    ·rw[z,e2] at w1;cases w1)]
   exact hu
 ·obtain⟨ps,h1,h2⟩:=as.tab t ht;exact⟨ps,f _ _ h1 (λ_ _ z=>nomatch z),dF.same (λa φ z=>f _ _ z (λ_ _ w'=>nomatch w')) h2⟩
theorem lL.yc{D:Ends}(e1:H1 d=Δ (.dK us))(hm:m1[n]?=Δ d)(rs:aN (ae X kt) H1 m1 Z kvs us)(nf:NF X d)(le:Le (ae X kt) m1 (upd H1 d (.cF o (.dK us))) m2 H2)(as:ay (ae X kt) H2 m2 Z aF)(h:∀m' H',Le (ae X kt) m1 H1 m' H'->ay (ae X kt) H' m' Z (aF.set n (.dK kvs))->lL (ae X kt) Z D fl (aF.set n (.dK kvs)) m' H'):lL (ae X kt) Z (pL X D) fl aF m2 H2:=by obtain⟨e2,lf,bT,f⟩:=GR e1 hm rs le as;have q:=h m2 _ lf bT;have ra:∀{r:cB} {σ:L2.St},bZ (ae X kt) H2 m2 Z r σ->bZ (ae X kt) (upd H2 d (.dK us)) m2 Z r σ:=λA=>⟨A.len,λi p w'=>let ⟨v,x1,x2⟩:=A.at_ i p w';⟨v,x1,f _ _ x2⟩⟩;cases fl with|nx r=>exact λσ A=>⟨d,o,_,e2,nf,q σ (ra A)⟩|bk r=>exact λσ A=>⟨d,o,_,e2,nf,q σ (ra A)⟩|ct r=>exact λσ A=>⟨d,o,_,e2,nf,q σ (ra A)⟩|rt p=>exact λv A=>⟨d,o,_,e2,nf,q v (f _ _ A)⟩
theorem aN.at_{κ:Type}{K:KB}{m:List Addr}:∀{kvs:List (κ×P)} {us:List (κ×V)} {i:Nat} {k:κ} {v:V},aN K H m Z kvs us->us[i]?=Δ (k,v)->∃p,kvs[i]?=Δ (k,p)/\ai K H m Z p v
 |[],us,i,k,v,h,e=>by cases (show us=[] from h);simp at e|(q,p)::kvs,us,i,k,v,h,e=>by obtain⟨v',vs,rfl,r,rs⟩:=(show ∃v vs,us=(q,v)::vs/\ai K H m Z p v/\aN K H m Z kvs vs from h);cases i with|zero=>simp at e;obtain⟨rfl,rfl⟩:=e;exact⟨p,rfl,r⟩|succ i=>simpa using aN.at_ rs (by simpa using e)
theorem GU(T:dj X kt g C)(hi:g.N[i]?=Δ x)(hl:fk g x=Λ)(xY:g.N[j]?=Δ y)(oU:fk g y=Λ)(hc:isCall o=Ξ)(Ow:(ap.endLine==cp.line)=Λ)(ho:PE X o (tE (ae X kt) Z (aa C a)))(hb:iq X body (tS (ae X kt) Z (aw C eb))):
  PS X (.For (.Tuple [.Name x p,.Name y p'] k p2) (.Call (.Attribute o "items" ap) [] [] cp) body [] pos) (tS (ae X kt) Z (bg C (.Aq i j a eb))):=by
 have nm:∀{z:Str} {a:Nat} {q:Pos},g.N[a]?=Δ z->fk g z=Λ->PG X (.Name z q) (mL a):=λ{z a q} h1 h2=>dg (i:=a) (by rw[T.N];exact T.nd) (by rw[T.N];exact h1) (T.rf h2) (T.CZ h2);refine PS.imp (Ck (qr T.own T.calm (z9 ho (lg hc) Ow) (uF (n:=2) T.calm (fP (nm hi hl) (fP (nm xY oU) qm))) hb (λ_=>rfl))) ?_;rintro D σ H ⟨m,r,st,ar,as,h⟩;rw[vI] at h;refine⟨m,r,st,ar,as,(Ok.bind h).mono λx0 st1 m1 H1 bq aQ h1 v rv=>?_⟩;obtain⟨⟨n,kvs⟩,ek,h2,cA⟩:=Ok.of (Ok.bind h1) aQ;clear cA h1;obtain⟨d,us,rfl,qo,hm,rfl,hu,rs⟩:=w9 aQ ek rv;dsimp only at h2 qo hm rs;refine⟨d,us,rfl,hu,λob nf=>?_⟩;obtain⟨lel,asl⟩:=aQ.write (ho:=.cF ob (.dK us)) (o':=.rW) qo hm (λH' e _ f=>⟨ob,us,e⟩);have rsl:aN (ae X kt) (upd H1 d (.cF ob (.dK us))) m1 Z kvs us:=rs.mono λp v z=>z.le lel;cases hr:kR i j (aw C eb) kvs r (st1.set n .rW) with
 |ex z s=>rw[hr] at h2;exact(show False from h2).elim|no=>rw[hr] at h2;exact(show False from h2).elim|ok f0 iZ=>
  rw[hr,ax] at h2;have OZ:∀m2 H2,Le (ae X kt) m1 (upd H1 d (.cF ob (.dK us))) m2 H2->ay (ae X kt) H2 m2 Z iZ->lL (ae X kt) Z (pL X D) f0 iZ m2 H2:=λm2 H2 cO cL=>lL.yc hu hm rs nf cO cL h2;have O0:Ok (ae X kt) Z (kR i j (aw C eb) kvs r (st1.set n .rW)) m1 (upd H1 d (.cF ob (.dK us))) (lL (ae X kt) Z (pL X D)):=by rw[hr];exact λm2 H2 cO cL=>OZ m2 H2 cO cL
  refine⟨λq l σ H=>l=kvs.length - q/\q<=kvs.length/\∃m r st,Le (ae X kt) m1 (upd H1 d (.cF ob (.dK us))) m H/\bZ (ae X kt) H m Z r σ/\ay (ae X kt) H m Z st/\Ok (ae X kt) Z (kR i j (aw C eb) (kvs.drop q) r st) m H (lL (ae X kt) Z (pL X D)),⟨kvs.length,by simp,R6 _,m1,r,_,Le.refl,(ar.le bq).le lel,asl,by rw[Uc];exact O0⟩,?_⟩;rintro q l σ H ⟨rfl,hq,m,r,st,le,ar,as,h⟩;have hd:H d=Δ (.cF ob (.dK us)):=le.cF _ _ _ aA;have hlen:us.length=kvs.length:=rs.length.symm▸rfl;by_cases fD:q < kvs.length
  ·have cA:kvs.drop q=kvs[q]::kvs.drop (q+1):=SK fD;rw[cA,yx] at h;refine .inr ⟨⟨hd,by lia⟩,λcn H'=>∃m r st,Le (ae X kt) m1 (upd H1 d (.cF ob (.dK us))) m H'/\bZ (ae X kt) H' m Z r cn/\ay (ae X kt) H' m Z st/\Ok (ae X kt) Z (kR i j (aw C eb) (kvs.drop (q+1)) r st) m H' (lL (ae X kt) Z (pL X D)),λcn H' z=>⟨kvs.length - (q+1),Sz _ _ fD,rfl,fD,z⟩,λw' H' hy=>?_⟩;obtain⟨t,kk,vv,Bv,ht,rfl,rfl⟩:=hy;obtain⟨pp,hpp,rp⟩:=rsl.at_ Bv;have epp:kvs[q]=(kk,pp):=by have:=Qh fD;rw[hpp] at this;exact(Qx this).symm
   rw[epp] at h;have vU:Le (ae X kt) m H m (upd H t (.tup [kV kk,vv])):=Le.same (aW ht _);have bT:=as.same (aW ht (.tup [kV kk,vv]));have le':=le.trans vU;refine⟨t,[kV kk,vv],rfl,de.of aA,rfl,kV kk,[vv],rfl,vv,[],rfl,rfl,?_⟩;have rk:ai (ae X kt) (upd H t (.tup [kV kk,vv])) m Z (yj kk) (kV kk):=by cases kk<;>rfl
   refine⟨m,_,st,((ar.le vU).set rk).set (rp.le le'),bT,(Ok.bind (Ok.le h vU)).mono λf aF m2 H2 cO cL h3=>?_⟩;exact ud (k:=λr2 aF=>kR i j (aw C eb) (kvs.drop (q+1)) r2 aF) cL h3 λr2 HC By z=>⟨m2,r2,aF,le'.trans cO,By,cL,z⟩
  ·have e:q=kvs.length:=by lia
   subst e;rw[UG,Az] at h;exact .inl ⟨⟨hd,by lia⟩,Ok.here h as σ ar⟩
theorem GV(T:dj X kt g C)(hi:g.N[i]?=Δ x)(hl:fk g x=Λ)(xY:g.N[j]?=Δ y)(oU:fk g y=Λ)(hg:g.gl "enumerate"=Λ)(hs:notStar o=Λ)(ho:PE X o (tE (ae X kt) Z (aa C a)))(hb:iq X body (tS (ae X kt) Z (aw C eb))):
  PS X (.For (.Tuple [.Name x p,.Name y p'] k p2) (.Call (.Name "enumerate" pe) [o] [] cp) body [] pos) (tS (ae X kt) Z (bg C (.g9 i j a eb))):=by
 have nm:∀{z:Str} {a:Nat} {q:Pos},g.N[a]?=Δ z->fk g z=Λ->PG X (.Name z q) (mL a):=λ{z a q} h1 h2=>dg (i:=a) (by rw[T.N];exact T.nd) (by rw[T.N];exact h1) (T.rf h2) (T.CZ h2);refine PS.imp (qr T.own T.calm (z6 (T.toGood.glob hg) (T.bl _ (by decide+kernel)) (gE ho lR hs) (br hs)) (uF (n:=2) T.calm (fP (nm hi hl) (fP (nm xY oU) qm))) hb (λ_=>rfl)) ?_;rintro D σ H ⟨m,r,st,ar,as,h⟩;rw[vJ] at h;refine⟨m,r,st,ar,as,?_⟩;show Ok (ae X kt) Z (aD C [a] r st) m H _;simp only[bh,aX];cases hr:aa C a r st with
 |ex x s=>rw[hr] at h;exact h|no=>rw[hr] at h;exact h|ok y0 st1=>
  rw[hr] at h;simp only[ax] at h ⊢;intro m1 H1 bq aQ vs eX;obtain⟨v,k9,rfl,rv,e⟩:=(show ∃v k9,vs=v::k9/\ai (ae X kt) H1 m1 Z y0 v/\k9=[] from eX);subst e;have h1:=Ok.le h bq;split at h1
  ·rename_i n;obtain⟨a,ha,rfl⟩:=rv;have KH:∃us,H1 a=Δ (.lst us):=by have h2:Ok (ae X kt) Z (g9 n i j (aw C eb) (999999+1) 0 r st1) m1 H1 (lL (ae X kt) Z D):=h1;rw[pY] at h2;cases ho:wN n st1 0 with|none=>rw[ho] at h2;exact(show False from h2).elim|some o=>obtain⟨us,hu,_⟩:=lh aQ ha ho;exact⟨us,hu⟩
   obtain⟨KJ,KL⟩:=KH;refine⟨a,rfl,⟨KJ,.inl (.inl KL)⟩,?_⟩;refine⟨λq k σ H=>∃m r st,Le (ae X kt) m1 H1 m H/\bZ (ae X kt) H m Z r σ/\ay (ae X kt) H m Z st/\Ok (ae X kt) Z (g9 n i j (aw C eb) k q r st) m H (lL (ae X kt) Z D),⟨jU,m1,r,st1,Le.refl,ar.le bq,aQ,h1⟩,?_⟩;rintro q k σ H ⟨m,r,st,le,ar,as,h⟩;have KN:m[n]?=Δ a:=by obtain⟨t,et⟩:=le.pre;rw[et,Qn (qqz ha).1];exact ha
   cases k with|zero=>exact(show False from h).elim|succ k=>rw[pY] at h;cases ho:wN n st q with|none=>rw[ho] at h;exact(show False from h).elim|some o=>rw[ho] at h;obtain⟨us,hu,q0,q1⟩:=lh as KN ho;cases o with|none=>exact .inl ⟨⟨us,.inl (.inl hu),q0 rfl⟩,Ok.here (show Ok (ae X kt) Z (R.ok (Fl.nx r) st) m H (lL (ae X kt) Z D) from h) as σ ar⟩|some pq=>obtain⟨vx,D4,rx⟩:=q1 pq rfl;refine .inr ⟨⟨us,vx,.inl (.inl hu),D4⟩,λcn H'=>∃m r st,Le (ae X kt) m1 H1 m H'/\bZ (ae X kt) H' m Z r cn/\ay (ae X kt) H' m Z st/\Ok (ae X kt) Z (g9 n i j (aw C eb) k (q+1) r st) m H' (lL (ae X kt) Z D),λcn H' z=>⟨k,Rk k,z⟩,λw' H' hy=>?_⟩;obtain⟨t,vv,ht,rfl,rfl,hx⟩:=hy;have ux:=hx us (.inl (.inl hu));rw[D4] at ux;cases ux;have vU:Le (ae X kt) m H m (upd H t (.tup [.int q,vx])):=Le.same (aW ht _);have bT:=as.same (aW ht (.tup [.int q,vx]));have h2:Ok (ae X kt) Z ((aw C eb ((r.set i (Δ (.d (.int q)))).set j (Δ pq)) st).bind _) m H (lL (ae X kt) Z D):=h;refine⟨t,[.int q,vx],rfl,de.of aA,rfl,.int q,[vx],rfl,vx,[],rfl,rfl,?_⟩;refine⟨m,_,st,((ar.le vU).set (p:=.d (.int q)) (v:=.int q) rfl).set (rx.le vU),bT,(Ok.bind (Ok.le h2 vU)).mono λf aF m2 H2 cO cL h3=>?_⟩;exact ud (k:=λr2 aF=>g9 n i j (aw C eb) k (q+1) r2 aF) cL h3 λr2 HC By z=>⟨m2,r2,aF,(le.trans vU).trans cO,By,cL,z⟩
  ·exact(show False from h1).elim
theorem O1(hd:∀r st,d r st=.no):PS X x (tS (ae X kt) Z d):=by rintro η s σ H D I ⟨m,r,st,_,_,q⟩;rw[hd] at q;exact(show False from q).elim
theorem AY(h1:KQ g (.two i j) tg=Λ):∃x y p p' k p2,tg=.Tuple [.Name x p,.Name y p'] k p2/\g.N[i]?=Δ x/\fk g x=Λ/\g.N[j]?=Δ y/\fk g y=Λ:=by refine kZ h1 λ_ _ _ h1=>?_;refine aH h1 λ_ _ h1=>?_;refine aK h1 λ_ _ h1=>?_;refine aH h1 λ_ _ h1=>?_;refine aK h1 λ_ _ h1=>?_;simp only[PZ,qqq,Qb] at h1;obtain⟨⟨⟨⟨rfl,h6⟩,h7⟩,h8⟩,h9⟩:=h1;exact⟨_,_,_,_,_,_,rfl,h6,h7,h8,h9⟩
variable(C) in
def SSt(s:S):Prop:=∀(kt:KT) (X:Cx) (g:G) (x:Stmt) (Z:List Addr),dj X kt g C->mF g s x=Λ->PS X x (tS (ae X kt) Z (bg C s))
variable(C) in
def O2(s:List S):Prop:=∀(kt:KT) (X:Cx) (g:G) (x:List Stmt) (Z:List Addr),dj X kt g C->nX g s x=Λ->iq X x (tS (ae X kt) Z (aw C s))
mutual
theorem GW:∀s:S,SSt C s
 |.ret e=>λkt X g x Z T h=>by refine lQ h λ_ _ h=>?_;refine jX h λ_ h=>?_;exact KS (aE e kt X g _ Z T.toGood h).1|.Ap=>λkt X g x Z T h=>by refine lQ h λ_ _ h=>?_;rw[QQ] at h;subst h;exact GI|.set i e=>λkt X g x Z T h=>by refine hW h λ_ _ _ h=>?_;refine aH h λ_ _ h=>?_;refine aK h λ_ _ h=>?_;simp only[PZ,qqq,Qq,Qb] at h;obtain⟨⟨⟨⟨rfl,h1⟩,h2⟩,h3⟩,h4⟩:=h;exact AW T h1 h2 h4 h3|.ifs c a b=>λkt X g x Z T h=>by refine Cv h λ_ _ _ _ h=>?_;simp only[PZ] at h;exact OY (aE c kt X g _ Z T.toGood h.1.1).2 (cQ a kt X g _ Z T h.1.2) (cQ b kt X g _ Z T h.2)|.oX t w b=>λkt X g x Z T h=>by
  refine jZ h λ_ _ _ _ _ h=>?_;simp only[PZ,Qq,Qb] at h;obtain⟨⟨⟨⟨⟨rfl,h1⟩,h2⟩,h3⟩,h4⟩,h5⟩:=h;cases t with
  |tup is=>cases h1|nm i=>refine aK h1 λ_ _ h1=>?_;·simp only[PZ,qqq] at h1;exact K0 T h1.1 h1.2 h4 (qZ w kt X g _ _ Z T.toGood h2 λz=>by rw[z] at h5;simp[AU] at h5) (cQ b kt X g _ Z T h3)
  |two i j=>refine kZ h1 λ_ _ _ h1=>?_;refine aH h1 λ_ _ h1=>?_;refine aK h1 λ_ _ h1=>?_;refine aH h1 λ_ _ h1=>?_;refine aK h1 λ_ _ h1=>?_;simp only[PZ,qqq,Qb] at h1;obtain⟨⟨⟨⟨rfl,h6⟩,h7⟩,h8⟩,h9⟩:=h1;exact GP T h6 h7 h8 h9 h4 (qZ w kt X g _ _ Z T.toGood h2 λ_=>⟨_,_,_,rfl⟩) (cQ b kt X g _ Z T h3)
 |.g8 t e b=>λkt X g x Z T h=>by refine jZ h λ_ _ _ _ _ h=>?_;simp only[PZ,Qq,Qb] at h;obtain⟨⟨⟨⟨⟨rfl,h1⟩,h2⟩,h3⟩,h4⟩,h5⟩:=h;cases t with|tup is=>cases h1|two i j=>cases h5|nm i=>refine aK h1 λ_ _ h1=>?_;·simp only[PZ,qqq] at h1;exact GQ T h1.1 h1.2 h4 (aE e kt X g _ Z T.toGood h2).1 (cQ b kt X g _ Z T h3)
 |.Aq i j a b=>λkt X g x Z T h=>by refine jZ h λ_ _ _ _ _ h=>?_;refine aP h λ_ _ _ _ h=>?_;refine bD h λ_ _ _ h=>?_;simp only[PZ,qqq,Qq,Qb] at h;obtain⟨⟨⟨⟨⟨⟨⟨⟨rfl,rfl⟩,rfl⟩,h1⟩,rfl⟩,h2⟩,h3⟩,h4⟩,h5⟩:=h;obtain⟨x,y,p,p',k,p2,rfl,h6,h7,h8,h9⟩:=AY h1;exact GU T h6 h7 h8 h9 h2 h3 (aE a kt X g _ Z T.toGood h4).1 (cQ b kt X g _ Z T h5)|.g9 i j a b=>λkt X g x Z T h=>by refine jZ h λ_ _ _ _ _ h=>?_;refine aP h λ_ _ _ _ h=>?_;refine aK h λ_ _ h=>?_;refine aH h λ_ _ h=>?_;simp only[PZ,qqq,Qq,Qb] at h;obtain⟨⟨⟨⟨⟨⟨⟨⟨rfl,rfl⟩,rfl⟩,h1⟩,rfl⟩,h2⟩,h3⟩,h4⟩,h5⟩:=h;obtain⟨x,y,p,p',k,p2,rfl,h6,h7,h8,h9⟩:=AY h1;exact GV T h6 h7 h8 h9 h2 h3 (aE a kt X g _ Z T.toGood h4).1 (cQ b kt X g _ Z T h5)|.ni c b=>λkt X g x Z T h=>by refine vO h λ_ _ _ _ h=>?_;simp only[PZ,Qb] at h;obtain⟨⟨rfl,h1⟩,h2⟩:=h;exact C4 T (aE c kt X g _ Z T.toGood h1).2 (cQ b kt X g _ Z T h2)|.expr e=>λkt X g x Z T h=>by refine p5 h λ_ _ h=>?_;simp only[PZ,Qq] at h;exact GK h.2 (aE e kt X g _ Z T.toGood h.1).1|.app a e=>λkt X g x Z T h=>by refine p5 h λ_ _ h=>?_;refine aP h λ_ _ _ _ h=>?_;refine bD h λ_ _ _ h=>?_;refine aH h λ_ _ h=>?_;simp only[PZ,qqq,Qq,Qb] at h;obtain⟨⟨⟨⟨⟨⟨⟨rfl,rfl⟩,h0⟩,rfl⟩,h1⟩,h2⟩,h3⟩,h4⟩:=h;exact KW h0 h1 (aE a kt X g _ Z T.toGood h2).1 (aE e kt X g _ Z T.toGood h3).1 h4|.put a i e=>λkt X g x Z T h=>by refine hW h λ_ _ _ h=>?_;refine aH h λ_ _ h=>?_;refine dQ h λ_ _ _ h=>?_;simp only[PZ,Qq,Qb] at h;obtain⟨⟨⟨⟨rfl,h1⟩,h2⟩,h3⟩,h4⟩:=h;exact KZ T.toGood h4 (aE a kt X g _ Z T.toGood h1).1 (aE i kt X g _ Z T.toGood h2).1 (aE e kt X g _ Z T.toGood h3).1|.kP i k=>λkt X g x Z T h=>by refine k7 h λ_ _ _ _ _ _ _ _ _ _ h=>?_;simp only[PZ,qqq,Qb,QQ] at h;obtain⟨⟨⟨⟨⟨rfl,rfl⟩,rfl⟩,rfl⟩,rfl⟩,h6⟩:=h;exact T.kP i k _ _ _ _ _ h6 Z|.raise=>λkt X g x Z T h=>O1 λ_ _=>rfl|.Ar c f i e=>λkt X g s Z T h=>by refine hW h λ_ _ _ h=>?_;refine aH h λ_ _ h=>?_;refine bD h λ_ _ _ h=>?_;refine aK h λ_ _ h=>?_;simp only[PZ,qqq,Qb] at h;obtain⟨⟨⟨⟨⟨⟨rfl,rfl⟩,h1⟩,h2⟩,h3⟩,h4⟩,h5⟩:=h;exact GN T.toGood h1 h2 h3 h4 (aE e kt X g _ Z T.toGood h5).1
theorem cQ:∀s:List S,O2 C s
 |[]=>λkt X g x Z T h=>by have:x=[]:=Qb.mp h;rw[this];exact GO|s::ss=>λkt X g x Z T h=>by refine aH h λ_ _ h=>?_;simp only[PZ] at h;exact C3 (GW s kt X g _ Z T h.1) (cQ ss kt X g _ Z T h.2)
end
end
section
variable{K:KB}{H H':Hp}{m m1 m2 Z Z1 Z2:List Addr}
mutual
theorem aI.weak(hw:∀a,a∉m1->a∉Z1->a∉m2/\a∉Z2):∀{x:D} {v:V},aI K H m1 Z1 x v->aI K H m2 Z2 x v
 |.bu,_,h=>h|.bl _,_,h=>h|.int _,_,h=>h|.str _,_,h=>h|.tup xs,v,h=>by obtain⟨a,us,e,q,r⟩:=(show ∃a us,v=.ref a/\H a=Δ (.tup us)/\aj K H m1 Z1 xs us from h);exact⟨a,us,e,q,aj.weak hw r⟩
 |.pl xs,v,h=>by obtain⟨a,us,e,q,hm,hz,r⟩:=(show ∃a us,v=.ref a/\Rd H a (.lst us)/\a∉m1/\a∉Z1/\aj K H m1 Z1 xs us from h);exact⟨a,us,e,q,(hw a hm hz).1,(hw a hm hz).2,aj.weak hw r⟩
theorem aj.weak(hw:∀a,a∉m1->a∉Z1->a∉m2/\a∉Z2):∀{xs:List D} {us:List V},aj K H m1 Z1 xs us->aj K H m2 Z2 xs us
 |[],_,h=>h|x::xs,us,h=>by obtain⟨v,vs,e,r,rs⟩:=(show ∃v vs,us=v::vs/\aI K H m1 Z1 x v/\aj K H m1 Z1 xs vs from h);exact⟨v,vs,e,aI.weak hw r,aj.weak hw rs⟩
end
mutual
theorem aI.jV:∀{x:D} {v:V},Y.jV x=Λ->aI K H m1 Z1 x v->aI K H m2 Z2 x v
 |.bu,_,_,h=>h|.bl _,_,_,h=>h|.int _,_,_,h=>h|.str _,_,_,h=>h|.tup xs,v,n,h=>by obtain⟨a,us,e,q,r⟩:=(show ∃a us,v=.ref a/\H a=Δ (.tup us)/\aj K H m1 Z1 xs us from h);exact⟨a,us,e,q,aj.jV (by simpa[Y.jV] using n) r⟩
 |.pl xs,v,n,h=>by simp[Y.jV] at n
theorem aj.jV:∀{xs:List D} {us:List V},wO xs=Λ->aj K H m1 Z1 xs us->aj K H m2 Z2 xs us
 |[],_,_,h=>h|x::xs,us,n,h=>by obtain⟨v,vs,e,r,rs⟩:=(show ∃v vs,us=v::vs/\aI K H m1 Z1 x v/\aj K H m1 Z1 xs vs from h);simp only[wO,PZ] at n;exact⟨v,vs,e,aI.jV n.1 r,aj.jV n.2 rs⟩
end
mutual
theorem ai.weak(hw:∀a,a∉m1->a∉Z1->a∉m2/\a∉Z2):∀{x:P} {v:V},bY x=Λ->ai K H m1 Z1 x v->ai K H m2 Z2 x v
 |.d _,_,_,h=>by rw[ai] at h ⊢;exact aI.weak hw h|.obj _,_,n,_=>by simp[bY] at n|.fb _,_,n,_=>by simp[bY] at n|.fn k bx,v,n,h=>by rw[ai] at h ⊢;obtain⟨a,c,bN,e,q,hc,r⟩:=h;exact⟨a,c,bN,e,q,hc,ag.weak hw (by simpa[bY] using n) r⟩
 |.lf k,_,n,_=>by simp[bY] at n
theorem ag.weak(hw:∀a,a∉m1->a∉Z1->a∉m2/\a∉Z2):∀{xs:List P} {us:List V},cx xs=Λ->ag K H m1 Z1 xs us->ag K H m2 Z2 xs us
 |[],_,_,h=>h|x::xs,us,n,h=>by rw[ag] at h ⊢;obtain⟨v,vs,e,r,rs⟩:=h;simp only[cx,PZ] at n;exact⟨v,vs,e,ai.weak hw n.1 r,ag.weak hw n.2 rs⟩
end
theorem O3{st:aR}(as:ay K H m Z st)(r:ai K H m Z p v)(e:qK st p=Δ q):ai K H [] [] q v/\(isObj p=Ξ->ai K H [] (Z++m) q v):=by
 have hw:∀a,a∉m->a∉Z->a∉([]:List Addr)/\a∉Z++m:=λa h1 h2=>⟨by simp,λz=>by
  rcases List.mem_append.mp z with z|z;·exact h2 z
  ·exact h1 z⟩
 cases p with
 |fb ns=>cases e;rw[ai] at r;exact⟨by rw[ai];exact r,λ_=>by rw[ai];exact r⟩|d x=>cases e;rw[ai] at r;exact⟨by rw[ai];exact aI.bare r,λ_=>by rw[ai];exact aI.weak hw r⟩|obj n=>obtain⟨x,e1,rfl⟩:=dZ (show(iO st (.obj n)).map P.d=Δ q from e);exact⟨by rw[ai];exact hZ as e1 r,λz=>nomatch z⟩|fn k bx=>
  have e':(if cx bx=Λ then Δ (P.fn k bx) else Θ)=Δ q:=e;split at e'
  ·rename_i hp;cases e';have L5:bY (.fn k bx)=Λ:=by simpa[bY] using hp
   exact⟨ai.weak (m1:=m) (Z1:=Z) (λ_ _ _=>⟨by simp,by simp⟩) L5 r,λ_=>ai.weak hw L5 r⟩
  ·cases e'
 |lf k=>cases e
theorem ue{st:aR}(as:ay K H m Z st):∀{ps qs} {vs},ag K H m Z ps vs->eI st ps=Δ qs->ag K H [] [] qs vs/\(ps.any isObj=Ξ->ag K H [] (Z++m) qs vs)
 |[],qs,vs,r,e=>by cases e;exact⟨r,λ_=>r⟩|p::ps,qs,vs,r,e=>by rw[ag] at r;obtain⟨v,w',rfl,r1,r2⟩:=r;obtain⟨q,e1,e⟩:=bS (show((qK st p).bind λx=>(eI st ps).map λxs=>x::xs)=Δ qs from e);obtain⟨q2,e2,rfl⟩:=dZ e;obtain⟨i1,i2⟩:=O3 as r1 e1;obtain⟨j1,j2⟩:=ue as r2 e2;refine⟨by rw[ag];exact⟨v,w',rfl,i1,j1⟩,λh=>?_⟩;rw[RR,Bool.or_eq_false_iff] at h;rw[ag];exact⟨v,w',rfl,i2 h.1,j2 h.2⟩
theorem iD(r:ag K H m Z qs vs):bZ K H m Z (af N.length qs) (L2.start N vs):=by
 have hl:=r.length;refine⟨by unfold af L2.start;simp[hl],λi p h=>?_⟩;unfold af at h;unfold L2.start;by_cases hi:i < qs.length
 ·rw[Qn (by simpa using hi),QA] at h;cases e:qs[i]? with
  |none=>rw[e] at h;cases h|some q=>
   rw[e] at h;have h':q=p:=by simpa using h
   subst h';obtain⟨v,e1,r1⟩:=r.get e;exact⟨v,by rw[Qn (by rw[Qv,hl];exact hi),QA,e1];rfl,r1⟩
 ·rw[Qu (by simpa using hi),RK] at h;split at h<;>cases h
theorem ay.O4{st:aR}(A:ay K H m Z st)(h:a∈m):eA H a≠Θ:=by
 obtain⟨n,hn,e⟩:=List.mem_iff_getElem.mp h;have uB:n < st.length:=by rw[<-A.len];exact hn
 obtain⟨a',e',r⟩:=A.at_ n st[n] (Qh uB);rw[Qh hn,e] at e';cases e';cases q:H a with|none=>exact absurd q r.lW.1|some u=>rw[bj q λφ z=>r.lW.2.2.2.1 φ (by rw[q,z])];exact λz=>nomatch z
theorem iE(hz:∀a∈Z,eA H a≠Θ)(ht:∀t∈K.tabs,∃ps,H t.1=Δ (.dc ps)/\dF H t.2 ps):ay K H [] Z []:=⟨rfl,by simp,λn o h=>by simp at h,hz,λa _=>by simp,ht⟩
theorem Le.outer(le:Le K [] H m' H'):Le K m H m H':=⟨⟨[],by simp⟩,le.tup,λa u h _=>le.keep a u h (by simp),λa h=>.inl h,le.lW,le.wQ,le.cF,le.ext,le.dc⟩
theorem ay.outer{st:aR}(as:ay K H m Z st)(le:Le K [] H m' H')(ht:∀t∈K.tabs,∃ps,H' t.1=Δ (.dc ps)/\dF H' t.2 ps):ay K H' m Z st:=by
 refine⟨as.len,as.nd,λn o h=>?_,λa h=>le.wQ a (as.zt a h),as.zm,ht⟩;obtain⟨a,q,r⟩:=as.at_ n o h;exact⟨a,q,r.mono (λb u hb hu=>le.keep b u hu (by simp) (λps z=>by
  rcases hb with w1|w1;·subst w1;rw[z] at hu;exact r.lW.2.2.2.2.1 ps hu
  ·rw[w1] at hu;cases hu;cases z)) λp v z=>z.le le.outer⟩
end
structure Info where
 name:Str
 st:Stmt
 N:List Str
 ps:List Str
 F:Fn
section
variable{P:QE}{w:World}{K:P5}{mg:Str->Option Value}{base:Heap}{is:List Info}{cs:List (Str×Int)}{ts:List (Str×List (Str×Int))}{a:Nat->Addr}{fd:Nat->QX}
end
structure CI where
 lam:Bool
 qual:Str
 N:List Str
 ps:List Str
 fr:List Str
 F:Fn
structure KI where
 name:Str
 K4:List Str
 C5:List (Str×Nat)
structure TX where
 is:List (Info×List (Nat×Pos))
 O5:List CI
 cs:List (Str×Int)
 ts:List (Str×List (Str×Int))
 nf:Nat
 ks:List KI
 K5:List Nat:=[]
def TX.Fs(S:TX):List Fn:=S.is.map (·.1.F)++S.O5.map (·.F)
noncomputable def TX.ci(S:TX)(k:Nat):Option CI:=if k < S.is.length then Θ else S.O5[k - S.is.length]?
def TX.fns(S:TX):List (Str×Nat):=(S.is.take S.nf).map λj=>(j.1.name,j.1.F.np)
theorem TX.AZ{S:TX}(h:S.fns[k]?=Δ (x,n)):k < S.nf/\∃i,S.is[k]?=Δ i/\(i.1.name,i.1.F.np)=(x,n):=by
 unfold TX.fns at h;rw[QA,List.getElem?_take] at h;split at h;·rename_i hk;refine⟨hk,?_⟩;cases ej:S.is[k]? with|none=>rw[ej] at h;cases h|some i2=>rw[ej] at h;exact⟨i2,rfl,by simpa using h⟩
 ·cases h
noncomputable def TX.np(S:TX)(k:Nat):Option Nat:=(S.is[k]?).map (·.1.F.np)
noncomputable def TX.lN(S:TX)(c f:Str):Bool:=S.ks.any λq=>decide (q.name=c)&&q.K4.any (λx=>decide (x=f))
def TX.mr(S:TX)(k:Nat)(c m:Str)(n:Nat):Bool:=S.ks.any λq=>decide (q.name=c)&&decide (q.C5.lookup m=Δ k)&&decide (S.np k=Δ (n+1))
def TX.mv(S:TX)(k:Nat)(c:Str)(n:Nat):Bool:=S.ks.any λq=>decide (q.name=c)&&decide (q.C5.lookup ("__init__":Str)=Δ k)&&decide (S.np k=Δ (n+1))
def lv:Nat->Nat
 |0=>0|n+1=>lv n+3
def TX.q(S:TX)(k:Nat):Str:=((S.ci k).map (·.qual)).getD ""
theorem TX.GX{S:TX}{ci:CI}(h:S.ci k=Δ ci):S.Fs[k]?=Δ ci.F/\S.q k=ci.qual:=by
 unfold TX.ci at h;split at h;·cases h
 ·rename_i hk;refine⟨?_,by unfold TX.q TX.ci;rw[if_neg hk,h];rfl⟩;unfold TX.Fs;rw[Qu (by rw[Qv];lia),Qv,QA,h];rfl
theorem TX.GY{S:TX}{k:Nat}(h:S.is[k]?=Δ i):S.Fs[k]?=Δ i.1.F:=by unfold TX.Fs;rw[Qn (by rw[Qv];exact(qqz h).1),QA,h];rfl
def vV(ci:CI)(sc:Scope):Bool:=
 decide (sc.kind=.function)&&!sc.isCoroutine&&!sc.isGenerator&&decide ci.N.Nodup&&decide (ci.N.take (ci.ps.length+ci.fr.length)=ci.ps++ci.fr)&&
 ci.ps.all (λx=>decide (sc.names.lookup x=Δ .local))&&ci.fr.all (λx=>decide (sc.names.lookup x=Δ .free))&&
 sc.names.all (λy=>decide (y.2≠.cell)&&(decide (y.2≠.free)||decide (y.1∈ci.fr)))&&
 decide (ci.F.np=ci.ps.length+ci.fr.length)&&decide (ci.F.nn=ci.N.length)&&!ci.F.sh
theorem j7(h:vV ci sc=Λ):gZ ci.N ci.ps ci.fr sc/\ci.F.np=ci.ps.length+ci.fr.length/\ci.F.nn=ci.N.length/\ci.F.sh=Ξ:=by unfold vV at h;simp only[PZ,qqq,Qq,Rl,R3] at h;obtain⟨⟨⟨⟨⟨⟨⟨⟨⟨⟨h1,h2⟩,h3⟩,h4⟩,h5⟩,h6⟩,h7⟩,h8⟩,h9⟩,h10⟩,h11⟩:=h;exact⟨⟨h1,h2,h3,h4,h5,h6,h7,λy hy=>(h8 y hy).1,λy hy hf=>(h8 y hy).2.resolve_left λz=>z hf⟩,h9,h10,h11⟩
def gC(S:TX)(ci:CI)(sc:Scope):G:={N:=ci.N,names:=sc.names,fns:=S.fns,cV:=S.cs,tabs:=S.ts,lN:=S.lN,mr:=S.mr,mv:=S.mv}
noncomputable def C6:List S->Option E
 |s::r=>match s with
  |.ret e=>match r with|[]=>Δ e|_::_=>Θ
  |_=>Θ
 |[]=>Θ
theorem C7(h:C6 b=Δ e):b=[.ret e]:=by
 unfold C6 at h;split at h
 ·split at h
  ·split at h;·cases h;rfl
   ·cases h
  ·cases h
 ·cases h
def ll(S:TX)(ci:CI)(pa:R4)(bo:Expr)(sc:Scope):Bool:=ci.lam&&cW pa ci.ps&&vV ci sc&&(match C6 ci.F.body with|some e=>di (gC S ci sc) e bo|none=>Ξ)
def lp(S:TX)(ci:CI)(pa:R4)(bo:List Stmt)(sc:Scope):Bool:=!ci.lam&&cW pa ci.ps&&vV ci sc&&nX (gC S ci sc) ci.F.body bo
def A0(S:TX)(ci:CI)(o:Obj)(sc:Scope)(cl:List (Str×Addr))(c:Addr):Prop:=
 (∃pa bo pm ct,o=PySem.W.kla_obj "<lambda>" ci.qual pa bo sc cl pm c ct/\ll S ci pa bo sc=Λ)\/
 (∃nm pa bo doc pm ct,o=PySem.W.fnMade nm ci.qual pa bo sc cl doc pm c ct/\lp S ci pa bo sc=Λ)
def j8(S:TX)(B:Heap)(k:Nat)(a c:Addr)(bN:List V):Prop:=∃ci o sc cl,S.ci k=Δ ci/\B.get? a=Δ o/\A0 S ci o sc cl c/\Bu B cl ci.fr bN
abbrev gj(S:TX)(K:P5)(base:Heap)(tabs:List (Addr×List (Pos×Str))):KB:=⟨K,base,tabs,j8 S base,λ_ _ _ _ _=>False,S.q⟩
abbrev GZ(S:TX)(base:Heap)(tabs:List (Addr×List (Pos×Str))):KT:={tabs:=tabs,kX:=j8 S base,Bx:=λ_ _ _ _ _=>False,tH:=S.q}
section
variable{K1 K2:KB}{H:Hp}{m Z:List Addr}
mutual
theorem aI.kb:∀{x:D} {v:V},aI K1 H m Z x v->aI K2 H m Z x v
 |.bu,_,h=>h|.bl _,_,h=>h|.int _,_,h=>h|.str _,_,h=>h|.tup xs,v,h=>by obtain⟨a,us,e,q,r⟩:=(show ∃a us,v=.ref a/\H a=Δ (.tup us)/\aj K1 H m Z xs us from h);exact⟨a,us,e,q,aj.kb r⟩
 |.pl xs,v,h=>by obtain⟨a,us,e,q,hm,hz,r⟩:=(show ∃a us,v=.ref a/\Rd H a (.lst us)/\a∉m/\a∉Z/\aj K1 H m Z xs us from h);exact⟨a,us,e,q,hm,hz,aj.kb r⟩
theorem aj.kb:∀{xs:List D} {us:List V},aj K1 H m Z xs us->aj K2 H m Z xs us
 |[],_,h=>h|x::xs,us,h=>by obtain⟨v,vs,e,r,rs⟩:=(show ∃v vs,us=v::vs/\aI K1 H m Z x v/\aj K1 H m Z xs vs from h);exact⟨v,vs,e,aI.kb r,aj.kb rs⟩
end
mutual
theorem ai.kb(hk:K1.K=K2.K)(hq:K1.tH=K2.tH)(hc:∀k a c bN,K1.kX k a c bN->K2.kX k a c bN):∀{x:P} {v:V},bY x=Λ->ai K1 H m Z x v->ai K2 H m Z x v
 |.d _,_,_,h=>by rw[ai] at h ⊢;exact aI.kb h|.obj _,_,n,_=>by simp[bY] at n|.fb _,_,n,_=>by simp[bY] at n|.fn k bx,v,n,h=>by rw[ai] at h ⊢;obtain⟨a,c,bN,e,q,hx,r⟩:=h;exact⟨a,c,bN,e,hc _ _ _ _ q,by rw[<-hq];exact hx,ag.kb hk hq hc (by simpa[bY] using n) r⟩
 |.lf k,_,n,_=>by simp[bY] at n
theorem ag.kb(hk:K1.K=K2.K)(hq:K1.tH=K2.tH)(hc:∀k a c bN,K1.kX k a c bN->K2.kX k a c bN):∀{xs:List P} {us:List V},cx xs=Λ->ag K1 H m Z xs us->ag K2 H m Z xs us
 |[],_,_,h=>h|x::xs,us,n,h=>by rw[ag] at h ⊢;obtain⟨v,vs,e,r,rs⟩:=h;simp only[cx,PZ] at n;exact⟨v,vs,e,ai.kb hk hq hc n.1 r,ag.kb hk hq hc n.2 rs⟩
end
def C8:P->Bool
 |.fb _=>Λ|p=>bY p
theorem G0{st:aR}(h:qK st p=Δ q):C8 q=Λ:=by
 cases p with
 |fb ns=>cases h;rfl|d x=>cases h;rfl|obj n=>obtain⟨x,e1,rfl⟩:=dZ (show(iO st (.obj n)).map P.d=Δ q from h);rfl
 |fn k bx=>
  have e':(if cx bx=Λ then Δ (P.fn k bx) else Θ)=Δ q:=h;split at e';·rename_i hp;cases e';simpa[C8,bY] using hp
  ·cases e'
 |lf k=>cases h
theorem xf{st:aR}:∀{ps qs},eI st ps=Δ qs->∀q∈qs,C8 q=Λ
 |[],qs,h=>by cases h;exact λq z=>by cases z|p::ps,qs,h=>by
  obtain⟨q,e1,e⟩:=bS (show((qK st p).bind λx=>(eI st ps).map λxs=>x::xs)=Δ qs from h);obtain⟨q2,e2,rfl⟩:=dZ e;intro x hx;rcases Uu.mp hx with z|z;·rw[z];exact G0 e1
  ·exact xf e2 x z
theorem ag.kbA(hk:K1.K=K2.K)(hq:K1.tH=K2.tH)(hc:∀k a c bN,K1.kX k a c bN->K2.kX k a c bN):∀{xs} {us},(∀q∈xs,C8 q=Λ)->ag K1 H m Z xs us->ag K2 H m Z xs us
 |[],_,_,h=>h|x::xs,us,n,h=>by rw[ag] at h ⊢;obtain⟨v,vs,e,r,rs⟩:=h;refine⟨v,vs,e,?_,ag.kbA hk hq hc (λq hq=>n q (P6 _ hq)) rs⟩;have hx:=n x P7;cases x with|fb ns=>rw[ai] at r ⊢;rw[<-hk];exact r|d y=>exact ai.kb hk hq hc rfl r|obj y=>cases hx|fn k c=>exact ai.kb hk hq hc hx r|lf k=>cases hx
end
theorem gd(K6:F.nn=N.length){st:aR}(rq:ag kb H m Z qs vs)(as:ay kb H m Z st)(hk:kb.K=X.K)(hq:kb.tH=kt.tH)(hc:∀k a c bN,kb.kX k a c bN->kt.kX k a c bN)(ht:kb.tabs=kt.tabs)(ea:eI st qs=Δ q2)(er:oZ C F q2=Δ d)(aJ:Ok kb Z (nE qs d st) m H (λp _ m' H'=>∀v,ai kb H' m' Z p v->Q v H')):
  ∃Z0,tS (ae X kt) Z0 (aw C F.body) {nx:=λ_ H'=>Q .bu H',rt:=Q} (L2.start N vs) H:=by
 obtain⟨r1,r2⟩:=ue as rq ea;have hb:=xf ea;obtain⟨Z0,Mm,rs0,hw⟩:∃Z0:List Addr,(∀b∈Z0,eA H b≠Θ)/\ag kb H [] Z0 q2 vs/\((qs.any isObj=Ξ/\Z0=Z++m)\/qs.any isObj=Λ):=by
  cases ho:qs.any isObj with
  |false=>
   refine⟨Z++m,λb hb=>?_,r2 ho,.inl ⟨rfl,rfl⟩⟩;rcases List.mem_append.mp hb with z|z;·exact as.zt b z
   ·exact as.O4 z
  |true=>exact⟨[],(λb hb=>by cases hb),r1,.inr rfl⟩
 have tab:∀t∈(ae X kt).tabs,∃ps,H t.1=Δ (.dc ps)/\dF H t.2 ps:=λt h=>as.tab t (by rw[ht];exact h);refine⟨Z0,[],af F.nn q2,[],by rw[K6];exact iD (ag.kbA hk hq hc hb rs0),iE Mm tab,?_⟩;unfold oZ at er;split at er
 ·cases hx:aw C F.body (af F.nn q2) [] with
  |ex x s=>rw[hx] at er;cases er|no=>rw[hx] at er;cases er|ok f bw=>
   rw[hx] at er;intro m' H' le bT;have le0:Le kb [] H m' H':=⟨le.pre,le.tup,le.keep,le.new,le.lW,le.wQ,le.cF,le.ext,le.dc⟩;have fin:∀v,aI kb H' m Z d v->Q v H':=λv rv=>by
    unfold nE at aJ;split at aJ;·exact(show False from aJ).elim
    ·exact aJ m H' le0.outer (as.outer le0 (λt h=>bT.tab t (by show t∈kt.tabs;rw[<-ht];exact h))) v rv
   have O6:qs.any isObj=Λ->Y.jV d=Λ:=λz=>by
    unfold nE at aJ;split at aJ;·exact(show False from aJ).elim
    ·rename_i hc;cases hp:Y.jV d with|true=>rfl|false=>rw[z,hp] at hc;exact absurd rfl hc
   cases f with
   |bk r=>cases er|ct r=>cases er|nx r=>cases er;exact λσ _=>fin .bu rfl
   |rt p=>
    have Bz:iO bw p=Δ d:=er;intro v rv;apply fin;rcases hw with ⟨_,rfl⟩|ho
    ·have qv:∀b,b∉m'->b∉Z++m->b∉m/\b∉Z:=λb _ h=>⟨λz=>h (Qk _ z),λz=>h (RG _ z)⟩;cases p with
     |fb ns=>cases Bz|fn k c=>cases Bz|lf k=>cases Bz|d x=>cases Bz;exact aI.kb (aI.weak qv rv)|obj j=>
      obtain⟨b,e,rfl⟩:=rv;have h':(match bw[j]? with|some (.lst xs)=>(be xs).map D.pl|_=>Θ)=Δ d:=Bz;split at h'
      ·rename_i xs hs;obtain⟨b',e',o⟩:=bT.at_ j _ hs;rw[e] at e';cases e';obtain⟨us,hu,rs⟩:=o;obtain⟨ys,hd,rfl⟩:=dZ h';have hbn:H b=Θ:=by
        rcases le.new b (Q2 e) with z|z;·cases z
        ·exact z
       exact⟨b,us,rfl,.inl hu,λz=>as.Kd z hbn,λz=>as.zt b z (gw hbn),aj.kb (aj.weak qv (rs.be hd))⟩
      ·cases h'
    ·have np:=O6 ho;cases p with
     |fb ns=>cases Bz|fn k c=>cases Bz|lf k=>cases Bz|d x=>cases Bz;exact aI.kb (aI.jV np rv)|obj j=>
      have h':(match bw[j]? with|some (.lst xs)=>(be xs).map D.pl|_=>Θ)=Δ d:=Bz;split at h';·obtain⟨ys,hd,rfl⟩:=dZ h';simp[Y.jV] at np
      ·cases h'
 ·cases er
theorem C9{K:KB}(h:tS K Z (aw C [.ret e]) {nx:=N0,rt:=Q} σ H):tE K Z (aa C e) σ H Q:=by obtain⟨m,r,st,ar,as,h⟩:=h;refine⟨m,r,st,ar,as,?_⟩;rw[cX,iw] at h;cases hx:aa C e r st with|ex x s=>rw[hx] at h;exact h|no=>rw[hx] at h;exact h|ok p bw=>rw[hx] at h;exact λm' H' le bT=>h m' H' le bT
theorem qa{st:aR}:∀{ps qs},eI st ps=Δ qs->qs.length=ps.length
 |[],qs,h=>by cases h;rfl|p::ps,qs,h=>by obtain⟨q,e1,e⟩:=bS (show((qK st p).bind λx=>(eI st ps).map λxs=>x::xs)=Δ qs from h);obtain⟨q2,e2,rfl⟩:=dZ e;rw[Qm,Qm,qa e2]
theorem eY{st:aR}(hF:Fs[k]?=Δ F)(hs:F.sh=Ξ)(h:Ok kb Z (callC Fs (n+1) k ps st) m H Q):
  ∃q2 d,eI st ps=Δ q2/\oZ (callC Fs n) F q2=Δ d/\Ok kb Z (nE ps d st) m H Q/\ps.length=F.np:=by
 rw[jk,hF] at h;simp only[hs,Rj,if_false] at h;cases ea:eI st ps with
 |none=>rw[ea] at h;exact(show False from h).elim|some q2=>
  rw[ea] at h;simp only at h;cases er:oZ (callC Fs n) F q2 with
  |none=>rw[er] at h;exact(show False from h).elim|some d=>
   rw[er] at h;refine⟨q2,d,rfl,er,h,?_⟩;unfold oZ at er;split at er;·rename_i hl;rw[<-qa ea];exact hl
   ·cases er
def cT(S:TX)(i:Info×List (Nat×Pos)):List (Pos×Str):=i.2.map λp=>(p.2,S.q p.1)
def freeOk(names:List (Str×R7))(sc:Scope):Bool:=sc.names.all λy=>decide (y.2≠.free)||decide (names.lookup y.1=Δ .cell)
def yG(S:TX)(i:Info×List (Nat×Pos))(ls:List (Nat×List Nat)):Bool:=ls.all λp=>match S.ci p.1 with|some ci=>decide (p.2.map (λj=>i.1.N[j]?)=ci.fr.map Δ)&&ci.fr.all λx=>decide ((aq i.1.st).names.lookup x=Δ .cell)|none=>Ξ
def A1(S:TX)(i:Info×List (Nat×Pos))(k:Nat)(pa:R4)(bo:Expr)(sc:Scope)(pos:Pos):Bool:=match S.ci k with|some ci=>decide ((k,pos)∈i.2)&&ll S ci pa bo sc&&freeOk (aq i.1.st).names sc&&decide (ci.qual=(i.1.name++".<locals>.")++"<lambda>")|none=>Ξ
def A2(S:TX)(i:Info×List (Nat×Pos))(j k:Nat)(nm:Str)(pa:R4)(bo:List Stmt)(sc:Scope)(pos:Pos):Bool:=match S.ci k with|some ci=>decide ((k,pos)∈i.2)&&lp S ci pa bo sc&&freeOk (aq i.1.st).names sc&&decide (ci.qual=(i.1.name++".<locals>.")++nm)&&decide (i.1.N[j]?=Δ nm)&&(decide ((aq i.1.st).names.lookup nm=Δ .local)||decide ((aq i.1.st).names.lookup nm=Δ .cell))|none=>Ξ
def jo(S:TX)(i:Info×List (Nat×Pos)):G:=match i.2 with|[]=>{N:=i.1.N,names:=(aq i.1.st).names,fns:=S.fns,cV:=S.cs,tabs:=S.ts,lN:=S.lN,mr:=S.mr,mv:=S.mv}|_::_=>{N:=i.1.N,names:=(aq i.1.st).names,fns:=[],cV:=S.cs,tabs:=S.ts,Kh:=A1 S i,Ki:=A2 S i,DZ:=λf x n ls=>decide (S.fns[f]?=Δ (x,n))&&yG S i ls,Kj:=λ_ _ _=>Ξ,cv:=Ξ}
def G1(S:TX)(i:Info×List (Nat×Pos)):Bool:=nX (jo S i) i.1.F.body (dP i.1.st)&&decide (i.1.F.np=i.1.ps.length)&&decide (i.1.F.nn=i.1.N.length)&&(i.2.isEmpty||!i.1.F.sh)
def HQ(S:TX)(k:Nat)(i:Info×List (Nat×Pos)):Bool:=if S.K5.contains k then decide (i.1.F.np=i.1.ps.length) else G1 S i
theorem G2{S:TX}(h:HQ S k i=Λ):i.1.F.np=i.1.ps.length:=by
 unfold HQ at h;split at h;·exact of_decide_eq_true h
 ·unfold G1 at h;simp only[PZ,qqq] at h;exact h.1.1.2
structure jq(K:P5)(mg:Str->Option Value)(S:TX)(tabs:List (Addr×List (Pos×Str)))(a:Nat->Addr)(fd:Nat->QX)(cP:Nat->Addr×Addr):Prop where
 fn:∀(k:Nat) (i:Info×List (Nat×Pos)),S.is[k]?=Δ i->(∃x,kK K x i.1.name i.1.st (a k) (fd k))/\(k < S.nf->mg i.1.name=Δ (.ref (a k)))/\Binds K (fd k) i.1.ps []/\gp i.1.N i.1.ps (aq i.1.st)/\HQ S k i=Λ
 bl:∀x∈nU,mg x=Θ
 cs:∀x i,S.cs.lookup x=Δ i->∃t,mg x=Δ (.int i t)
 tb:∀x t,S.ts.lookup x=Δ t->∃a,mg x=Δ (.ref a)/\zD K a t
 cl:∀q∈S.ks,∃A,Qf K Qa q.name=Δ (Δ (.ref A))/\mg q.name=Δ (.ref A)/\uw K A/\(∀f∈q.K4,gn K A f)/\(∀m k,q.C5.lookup m=Δ k->uN K A m (a k))/\∀k,q.C5.lookup ("__init__":Str)=Δ k->Mk K A (a k)
 mkr:∀(k:Nat) (i:Info×List (Nat×Pos)),S.is[k]?=Δ i->i.2≠[]->(fd k).code=.ref (cP k).1/\((cP k).2,cT S i)∈tabs/\Apart (cT S i)/\∀t∈tabs,t.1=(cP k).2->t.2=cT S i
section
variable{P:QE}{w:World}{K:P5}{mg:Str->Option Value}{S:TX}{tabs:List (Addr×List (Pos×Str))}{a:Nat->Addr}{fd:Nat->QX}{cP:Nat->Addr×Addr}
structure eE(mg:Str->Option Value)(S:TX)(cP:Nat->Addr×Addr)(base:Heap):Prop where
 code:∀(k:Nat) (i:Info×List (Nat×Pos)),S.is[k]?=Δ i->i.2≠[]->RF base (cP k).1 (cP k).2
 bm:BMain mg base
def dk(P:QE)(w:World)(K:P5)(mg:Str->Option Value)(S:TX)(tabs:List (Addr×List (Pos×Str)))(a:Nat->Addr)(fd:Nat->QX)(n:Nat)(base:Heap):Prop:=
 ∀(k:Nat) (i:Info×List (Nat×Pos)),S.is[k]?=Δ i->cz P w K mg base ju (lv n) (a k) (fd k) i.1.ps (qV (gj S K base tabs) (callC S.Fs n k) i.1.F.np)
def fN(P:QE)(w:World)(K:P5)(mg:Str->Option Value)(S:TX)(tabs:List (Addr×List (Pos×Str)))(n:Nat)(base:Heap):Prop:=
 ∀(k:Nat) (b c:Addr) (bN:List V),j8 S base k b c bN->∃fd ps,cz P w K mg base ju (lv n) b fd ps (Kl (gj S K base tabs) (callC S.Fs n k) c (S.q k) bN)/\Binds K fd ps []
theorem vW(h:j8 S base k b c bN):∃oc od fd sl,base.get? b=Δ ⟨oc,od,.func fd,sl⟩:=by obtain⟨ci,o,sc,cl,_,ho,hf,_⟩:=h;rcases hf with ⟨_,_,_,_,rfl,_⟩|⟨_,_,_,_,_,_,rfl,_⟩<;>exact⟨_,_,_,_,ho⟩
theorem nY(T:jq K mg S tabs a fd cP)(D:dk P w K mg S tabs a fd n base)(hX:X.prog=P/\X.w=w/\X.K=K/\X.mg=mg/\X.base=base)(hr:cb (lv n+1) X.A)(K7:ae X kt=gj S K base tabs):∀(k) (x) (m),S.fns[k]?=Δ (x,m)->nT X kt (callC S.Fs n k) x m:=by obtain⟨rfl,rfl,rfl,rfl,rfl⟩:=hX;intro j x nn hj;obtain⟨hk,i2,ej,e2⟩:=TX.AZ hj;cases e2;obtain⟨⟨x2,F2⟩,GS,rV,_⟩:=T.fn j i2 ej;exact⟨⟨lv n,a j,fd j,i2.1.ps,by rw[K7];exact D j i2 ej,hr.mono (Q1 _),GS hk,F2.kp,rV⟩⟩
theorem nZ{X:Cx}(T:jq K mg S tabs a fd cP)(hK:X.K=K):∀c f,S.lN c f=Λ->∃A,Qf X.K Qa c=Δ (Δ (.ref A))/\uw X.K A/\gn X.K A f:=by subst hK;intro c f h;unfold TX.lN at h;rw[SI] at h;obtain⟨q,hq,h⟩:=h;simp only[PZ,qqq,SI] at h;obtain⟨rfl,f',hf,rfl⟩:=h;obtain⟨A,k1,k2,k3,k4,_⟩:=T.cl q hq;exact⟨A,k1,k3,k4 _ hf⟩
theorem D5(h:S.np k=Δ n):∃i,S.is[k]?=Δ i/\i.1.F.np=n:=by unfold TX.np at h;cases ej:S.is[k]? with|none=>rw[ej] at h;cases h|some i=>rw[ej] at h;exact⟨i,rfl,by simpa using h⟩
theorem n4(T:jq K mg S tabs a fd cP)(D:dk P w K mg S tabs a fd n base)(hX:X.prog=P/\X.w=w/\X.K=K/\X.mg=mg/\X.base=base)(hr:cb (lv n+1) X.A)(K7:ae X kt=gj S K base tabs):∀k c m nn,S.mr k c m nn=Λ->∃A l fa fd ps,Qf X.K Qa c=Δ (Δ (.ref A))/\uw X.K A/\uN X.K A m fa/\cz X.prog X.w X.K X.mg X.base ju l fa fd ps (qV (ae X kt) (callC S.Fs n k) (nn+1))/\cb l X.A/\Binds X.K fd ps []:=by obtain⟨rfl,rfl,rfl,rfl,rfl⟩:=hX;intro k c m nn h;unfold TX.mr at h;rw[SI] at h;obtain⟨q,hq,h⟩:=h;simp only[PZ,qqq] at h;obtain⟨⟨rfl,hm⟩,hn⟩:=h;obtain⟨i,ei,en⟩:=D5 hn;obtain⟨A,k1,k2,k3,k4,k5,_⟩:=T.cl q hq;obtain⟨_,_,rV,_⟩:=T.fn k i ei;refine⟨A,lv n,a k,fd k,i.1.ps,k1,k3,k5 _ _ hm,?_,hr.mono (Q1 _),rV⟩;have:=D k i ei;rw[K7,<-en];exact this
theorem n6(T:jq K mg S tabs a fd cP)(D:dk P w K mg S tabs a fd n base)(hX:X.prog=P/\X.w=w/\X.K=K/\X.mg=mg/\X.base=base)(hr:cb (lv n+1) X.A)(K7:ae X kt=gj S K base tabs):∀k c nn,S.mv k c nn=Λ->∃A l fa fd ps,X.mg c=Δ (.ref A)/\Qf X.K Qa c=Δ (Δ (.ref A))/\Mk X.K A fa/\cz X.prog X.w X.K X.mg X.base ju l fa fd ps (qV (ae X kt) (callC S.Fs n k) (nn+1))/\cb (l+1) X.A/\Binds X.K fd ps []:=by obtain⟨rfl,rfl,rfl,rfl,rfl⟩:=hX;intro k c nn h;unfold TX.mv at h;rw[SI] at h;obtain⟨q,hq,h⟩:=h;simp only[PZ,qqq] at h;obtain⟨⟨rfl,hm⟩,hn⟩:=h;obtain⟨i,ei,en⟩:=D5 hn;obtain⟨A,k1,k2,k3,k4,k5,k6⟩:=T.cl q hq;obtain⟨_,_,rV,_⟩:=T.fn k i ei;refine⟨A,lv n,a k,fd k,i.1.ps,k2,k1,k6 _ hm,?_,hr,rV⟩;have:=D k i ei;rw[K7,<-en];exact this
theorem G3(T:jq K mg S tabs a fd cP)(D:dk P w K mg S tabs a fd n base)(L:fN P w K mg S tabs n base):fN P w K mg S tabs (n+1) base:=by
 intro k b c bN hc;obtain⟨ci,o,sc,cl,BA,ho,hf,uy⟩:=hc;obtain⟨eF,eq⟩:=TX.GX BA;have good:∀(cl:List (Str×Addr)) (A:QY) (outer:List Env) (s:Qd) (H:Hp) (E:XK),gZ ci.N ci.ps ci.fr sc->cb (lv n+1) (A.deeper (sN ci.qual sc s.heap.objs.size b (.ref c) cl))->
   dj (DW ju P w K mg base ci.N ci.qual sc b (.ref c) cl A outer s H E).oI (GZ S base tabs) (gC S ci sc) (callC S.Fs n):=λcl A outer s H E SC hr=>
  {N:=rfl,loc:=λx h=>h,zQ:=λx h=>h,gl:=λx h=>h,calm:=rfl,hu:=by have:=hr.un;show(A.deeper _).units+100 < cLine;lia,bl:=T.bl,
   fn:=nY T D ⟨rfl,rfl,rfl,rfl,rfl⟩ hr rfl,cs:=T.cs,tb:=T.tb,
   kX:=λ_ k' a' c' A3 h'=>⟨vW h',by obtain⟨f,ps,F,B⟩:=L k' a' c' A3 h';exact⟨lv n,f,ps,F,hr.mono (Q1 _),B⟩⟩,
   lam:=λ_ _ _ _ _ h=>absurd (show Ξ=Λ from h) (by decide),fV:=λ_ _ _ _ h=>absurd (show Ξ=Λ from h) (by decide),fc:=λ_ _ _ h=>absurd (show Ξ=Λ from h) (by decide),fld:=nZ T rfl,FX:=n4 T D ⟨rfl,rfl,rfl,rfl,rfl⟩ hr rfl,FY:=n6 T D ⟨rfl,rfl,rfl,rfl,rfl⟩ hr rfl,kP:=λ_ _ _ _ _ _ _ h=>absurd (show Ξ=Λ from h) (by decide),
   cell:=λx h=>absurd rfl (SC.dH _ (QG h)),nd:=SC.nd,KR:=λx h=>absurd rfl (SC.dH _ (QG h)),own:=TL}
 have len:vV ci sc=Λ->∀vs H Q E,Kl (gj S K base tabs) (callC S.Fs (n+1) k) c (S.q k) bN vs H Q E->vs.length=ci.ps.length:=λhb vs H Q E h=>by
  obtain⟨_,m,Z,qs,bx,st,rq,rc,_,h⟩:=h;obtain⟨_,D6,_,wD⟩:=j7 hb;obtain⟨_,_,_,_,_,hl⟩:=eY eF wD h;rw[Qp,D6] at hl;have e1:=rq.length;have e2:=rc.length;have e3:=uy.len
  lia
 have core:∀{X:Cx},X.K=K->X.base=base->vV ci sc=Λ->∀{vs:List V} {H:Hp} {Q:VK} {E:XK},Kl (gj S K base tabs) (callC S.Fs (n+1) k) c (S.q k) bN vs H Q E->
   ∃Z0,tS (ae X (GZ S base tabs)) Z0 (aw (callC S.Fs n) ci.F.body) {nx:=λ_ H'=>Q .bu H',rt:=Q} (L2.start ci.N (vs++bN)) H:=λ{X} hK hB hb {vs H Q E} h=>by
  obtain⟨_,m,Z,qs,bx,st,rq,rc,as,h⟩:=h;obtain⟨_,_,K8,wD⟩:=j7 hb;obtain⟨q2,d,ea,er,h2,_⟩:=eY eF wD h;exact gd (kb:=gj S K base tabs) K8 (rq.append rc) as hK.symm rfl (λ_ _ _ _ z=>z) rfl ea er h2
 rcases hf with ⟨pa,bo,pm,ct,rfl,aJ⟩|⟨nm,pa,bo,doc,pm,ct,rfl,aJ⟩
 ·unfold ll at aJ;simp only[PZ] at aJ;obtain⟨⟨⟨_,G4⟩,hb⟩,HR⟩:=aJ;obtain⟨SC,_⟩:=j7 hb;refine⟨_,ci.ps,(Fe (k:=lv n+1) ho (λvs H Q E h=>⟨c,rfl,by rw[<-eq];exact h.1⟩) SC uy (len hb) (λA outer s H vs Q E hr h=>?_)).mono (Q1 _),Binds.all λus hl=>fF G4 rfl hl⟩;obtain⟨Z0,ht⟩:=core (X:=DW ju P w K mg base ci.N ci.qual sc b (.ref c) cl A outer s H E) rfl rfl hb h;cases O7:C6 ci.F.body with|none=>rw[O7] at HR;cases HR|some e=>rw[O7] at HR;rw[C7 O7] at ht;exact⟨_,(aE e _ _ _ bo Z0 (good cl A outer s H E SC hr).toGood HR).1.oI,C9 ht⟩
 ·unfold lp at aJ;simp only[PZ] at aJ;obtain⟨⟨⟨_,G4⟩,hb⟩,HR⟩:=aJ;obtain⟨SC,_⟩:=j7 hb;refine⟨_,ci.ps,(Fb (k:=lv n+1) ho (λvs H Q E h=>⟨c,rfl,by rw[<-eq];exact h.1⟩) SC uy (len hb) (λA outer s H vs Q E hr h=>?_)).mono (Q1 _),Binds.all λus hl=>fF G4 rfl hl⟩;obtain⟨Z0,ht⟩:=core (X:=DW ju P w K mg base ci.N ci.qual sc b (.ref c) cl A outer s H E) rfl rfl hb h;exact⟨_,(cQ ci.F.body _ _ _ bo Z0 (good cl A outer s H E SC hr) HR).oI,ht⟩
end
section
variable{K:KB}{H H':Hp}{m Z:List Addr}{P f c:Addr}{bL:List (Pos×Str)}{q:Str}{φ:Heap->Prop}
theorem qb(md:Made H H' P f c bL q φ)(hP:∃ps,H P=Δ (.dc ps))(h:H b=Δ u)(hu:∀ps,u≠.dc ps):H' b=Δ u:=by refine md.keep b u h λz=>?_;obtain⟨ps,e⟩:=hP;rw[z,e] at h;cases h;exact hu ps rfl
theorem made_le(md:Made H H' P f c bL q φ)(hP:∃ps,H P=Δ (.dc ps)):Le K m H m H':=by
 have kp:=λ{b:Addr} {u:HO} (h:H b=Δ u) (hu:∀ps,u≠.dc ps)=>qb md hP h hu;have gr:∀b ps,H b=Δ (.dc ps)->∃more,H' b=Δ (.dc (ps++more)):=λb ps h=>by
  by_cases hb:b=P;·subst hb;exact md.grow ps h
  ·exact⟨#[],by rw[md.keep b _ h hb];simp⟩
 refine⟨⟨[],by simp⟩,λb xs h=>kp h (λ_ z=>nomatch z),λb u h _ hu=>kp h hu,λb h=>.inl h,λb h=>?_,λb h=>?_,λb o u h=>kp h (λ_ z=>nomatch z),λb ψ h=>kp h (λ_ z=>nomatch z),gr⟩
 ·cases e:H b with
  |none=>exact absurd e h|some u=>
   by_cases hu:∃ps,u=.dc ps;·obtain⟨ps,rfl⟩:=hu;obtain⟨more,e2⟩:=gr b ps e;rw[e2];exact λz=>nomatch z
   ·rw[kp e λps z=>hu ⟨ps,z⟩];exact λz=>nomatch z
 ·cases e:eA H b with
  |none=>exact absurd e h|some u=>
   obtain⟨e1,e2⟩:=g6 e;by_cases hu:∃ps,u=.dc ps;·obtain⟨ps,rfl⟩:=hu;obtain⟨more,e3⟩:=gr b ps e1;rw[bj e3 (λ_ z=>nomatch z)];exact λz=>nomatch z
   ·have e3:=kp e1 λps z=>hu ⟨ps,z⟩;by_cases hx:∃ψ,u=.ext ψ;·obtain⟨ψ,rfl⟩:=hx;have:∃q,ψ=cJ b q:=QR λz=>e2 ψ rfl λq' e'=>z ⟨q',e'⟩;obtain⟨q',rfl⟩:=this;rw[dU e3];exact λz=>nomatch z
    ·rw[bj e3 λψ z=>hx ⟨ψ,z⟩];exact λz=>nomatch z
theorem xg{st:aR}(as:ay K H m Z st)(md:Made H H' P f c bL q φ)(hP:∃ps,H P=Δ (.dc ps))(un:∀t∈K.tabs,t.1=P->t.2=bL):ay K H' m Z st:=by
 have le:Le K m H m H':=made_le md hP;refine⟨as.len,as.nd,λn o h=>?_,λb h=>le.wQ b (as.zt b h),as.zm,λt ht=>?_⟩
 ·obtain⟨a,e,r⟩:=as.at_ n o h;exact⟨a,e,r.mono (λb u hb hu=>qb md hP hu λps z=>by
   rcases hb with w1|w1;·subst w1;rw[z] at hu;exact r.lW.2.2.2.2.1 ps hu
   ·rw[w1] at hu;cases hu;cases z) λp v z=>z.le le⟩
 ·by_cases e:t.1=P;·obtain⟨ps,h1,h2⟩:=md.tab;exact⟨ps,by rw[e];exact h1,by rw[un t ht e];exact h2⟩
  ·obtain⟨ps,h1,h2⟩:=as.tab t ht;exact⟨ps,md.keep _ _ h1 e,dF.same le.ext h2⟩
end
abbrev mG(S:TX)(base:Heap)(tabs:List (Addr×List (Pos×Str)))(cells:List (Str×Addr)):KT where
 tabs:=tabs
 kX:=j8 S base
 Bx:=λk a c _ h=>∃ci o sc,S.ci k=Δ ci/\h.get? a=Δ o/\A0 S ci o sc (fG cells sc.names []) c/\∀x,(x,Qg)∈sc.names->∃c,cells.lookup x=Δ c
 tH:=S.q
theorem n8{S:TX}:∀(f c) (ct) (g1 g2),(mG S base tabs cells).Bx k f c ct g1->(∀o,g1.get? f=Δ o->g2.get? f=Δ o)->(mG S base tabs cells).Bx k f c ct g2:=
 λf c ct g1 g2 ⟨ci,o,sc,h1,h2,h3⟩ hk=>⟨ci,o,sc,h1,hk o h2,h3⟩
section
variable{X:Cx}{S:TX}{base:Heap}{tabs:List (Addr×List (Pos×Str))}{C:Nat->List P->aR->R P}{i:Info×List (Nat×Pos)}{c P:Addr}{Z:List Addr}
theorem qc(hc:∀x,(aq i.1.st).names.lookup x=Δ .cell->∃c,X.env.cells.lookup x=Δ c)(h:freeOk (aq i.1.st).names sc=Λ):∀x,(x,Qg)∈sc.names->∃c,X.env.cells.lookup x=Δ c:=λx hx=>by
 unfold freeOk at h;rw[Rl] at h;have:=h _ hx;simp only[R3,qqq] at this;rcases this with z|z;·exact absurd rfl z
 ·exact hc x z
theorem K9(hB:X.base=base)(M:Maker X c P (cT S i))(hP:(P,cT S i)∈tabs)(un:∀t∈tabs,t.1=P->t.2=cT S i)(hq:X.env.qual=i.1.name++".<locals>.")(hc:∀x,(aq i.1.st).names.lookup x=Δ .cell->∃c,X.env.cells.lookup x=Δ c)(h:A1 S i k pa bo sc pos=Λ):PE X (.Lambda pa bo sc pos) (tE (ae X (mG S base tabs X.env.cells)) Z (aa C (.lam k))):=by
 unfold A1 at h;split at h
 ·rename_i ci BA;simp only[PZ,qqq] at h;obtain⟨⟨⟨h1,h2⟩,h3⟩,h4⟩:=h;have eq:S.q k=X.env.qual++"<lambda>":=by rw[(TX.GX BA).2,h4,hq]
  have hs:(pos,X.env.qual++"<lambda>")∈cT S i:=by rw[<-eq];exact List.mem_map.mpr ⟨(k,pos),h1,rfl⟩
  have rS:=h2;unfold ll at rS;simp only[PZ] at rS;have fr:=qc (X:=X) hc h3;refine PE.imp (Fo (φ:=λf c ct=>(mG S base tabs X.env.cells).Bx k f c ct) M hs (g7 rS.1.1.2 X.env).1 (iY fr) (λf c ct hh e=>⟨ci,_,sc,BA,e,.inl ⟨pa,bo,_,ct,by rw[h4,<-hq],h2⟩,fr⟩) (λf c ct g1 g2=>n8 f c ct g1 g2)) ?_;rintro σ H Q ⟨m,r,st,ar,as,h⟩;rw[pT] at h;obtain⟨ps,e1,e2⟩:=as.tab _ hP;refine⟨ps,e1,e2,λf c ct H' md=>?_⟩;refine h m H' (made_le md ⟨ps,e1⟩) (xg as md ⟨ps,e1⟩ un) (.ref f) ?_;rw[ai];exact⟨f,c,ct,rfl,md.fn,by show H' c=Δ (.ext (cJ c (S.q k)));rw[eq];exact md.code⟩
 ·cases h
theorem G5(hB:X.base=base)(M:Maker X c P (cT S i))(hP:(P,cT S i)∈tabs)(un:∀t∈tabs,t.1=P->t.2=cT S i)(hq:X.env.qual=i.1.name++".<locals>.")(hc:∀x,(aq i.1.st).names.lookup x=Δ .cell->∃c,X.env.cells.lookup x=Δ c)(hN:X.N=i.1.N)(nd:i.1.N.Nodup)(G6:X.env.scope=aq i.1.st)(wm:∀x,X.fn x=Λ)(h:A2 S i j k nm pa bo sc pos=Λ):PS X (.FunctionDef nm pa bo [] Θ [] sc Θ nm pos) (tS (ae X (mG S base tabs X.env.cells)) Z (bg C (.kP j k))):=by
 unfold A2 at h;split at h
 ·rename_i ci BA;simp only[PZ,qqq,R3] at h;obtain⟨⟨⟨⟨⟨h1,h2⟩,h3⟩,h4⟩,h5⟩,h6⟩:=h;have zR:Loc X.env.scope nm:=by rw[G6];exact h6
  have qe:Ts X.env nm nm=X.env.qual++nm:=by unfold Ts;rw[if_neg];show ¬((X.env.scope.names.lookup nm==Δ R7.globalExplicit)=Λ);rw[G6];rcases h6 with z|z<;>rw[z]<;>decide
  have eq:S.q k=Ts X.env nm nm:=by rw[(TX.GX BA).2,h4,qe,hq]
  have hs:(pos,Ts X.env nm nm)∈cT S i:=by rw[<-eq];exact List.mem_map.mpr ⟨(k,pos),h1,rfl⟩
  have rS:=h2;unfold lp at rS;simp only[PZ] at rS;have fr:=qc (X:=X) hc h3;have dp:=g7 rS.1.1.2 X.env;refine PS.imp (Fq (φ:=λf c ct=>(mG S base tabs X.env.cells).Bx k f c ct) M hs dp.2.1 dp.2.2 (yb rS.1.1.2 X.env) (iY fr) (by rw[hN];exact nd) (by rw[hN];exact h5) zR (.inl (wm nm))
   (λf c ct doc hh e=>⟨ci,_,sc,BA,e,.inr ⟨nm,pa,bo,doc,_,ct,by rw[h4,<-hq,<-qe],h2⟩,fr⟩) (λf c ct g1 g2=>n8 f c ct g1 g2)) ?_
  rintro D σ H ⟨m,r,st,ar,as,h⟩;rw[vK] at h;obtain⟨ps,e1,e2⟩:=as.tab _ hP;refine⟨ps,e1,e2,λf c ct H' md=>?_⟩;have le:Le (ae X (mG S base tabs X.env.cells)) m H m H':=made_le md ⟨ps,e1⟩;refine h m H' le (xg as md ⟨ps,e1⟩ un) _ ((ar.le le).set ?_);rw[ai];exact⟨f,c,ct,rfl,md.fn,by show H' c=Δ (.ext (cJ c (S.q k)));rw[eq];exact md.code⟩
 ·cases h
end
theorem Bu.keeps(C:Bu B cl F bN)(k:∀b o,B.get? b=Δ o->B'.get? b=Δ o):Bu B' cl F bN:=
 ⟨C.inj,C.only,λi x v h1 h2=>by obtain⟨c,u,a,b,d⟩:=C.at_ i x v h1 h2;exact⟨c,u,a,b.keeps k,d⟩,C.len⟩
theorem j8.keeps{S:TX}(h:j8 S B k a c bN)(kp:∀b o,B.get? b=Δ o->B'.get? b=Δ o):j8 S B' k a c bN:=by obtain⟨ci,o,sc,cl,h1,h2,h3,h4⟩:=h;exact⟨ci,o,sc,cl,h1,kp _ _ h2,h3,Bu.keeps h4 kp⟩
theorem yH{S:TX}(h:A0 S ci o sc cl c):vV ci sc=Λ/\∃fd,o.data=.func fd:=by
 rcases h with ⟨pa,bo,pm,ct,rfl,aJ⟩|⟨nm,pa,bo,doc,pm,ct,rfl,aJ⟩
 ·unfold ll at aJ;simp only[PZ] at aJ;exact⟨aJ.1.2,_,rfl⟩
 ·unfold lp at aJ;simp only[PZ] at aJ;exact⟨aJ.1.2,_,rfl⟩
theorem xh{α:Type}{x:α}:∀{l:List (Nat×α)},l.lookup k=Δ x->(k,x)∈l
 |[],h=>by cases h|(j,y)::l,h=>by rw[Ql] at h;cases hb:k==j with|true=>rw[hb] at h;cases h;rw[eq_of_beq hb];exact P7|false=>rw[hb] at h;exact P6 _ (xh h)
theorem G7(h:Rd H a (.lst us)):Rd (eA H) a (.lst us):=by
 rcases h with h|⟨o,h⟩;·exact .inl (bj h (λ_ z=>nomatch z))
 ·exact .inr ⟨o,bj h (λ_ z=>nomatch z)⟩
section
variable{X:Cx}{S:TX}{base:Heap}{tabs:List (Addr×List (Pos×Str))}{C:Nat->List P->aR->R P}{i:Info×List (Nat×Pos)}{Z:List Addr}{η:List (Addr×Obj)}{σ:L2.St}{H:Hp}{s:Qd}{ls:List (Nat×List Nat)}{r:cB}
theorem ai.La(hk:K1.K=K2.K)(hq:K1.tH=K2.tH)(hc:∀k a c bN,K1.kX k a c bN->K2.kX k a c bN)(hp:bY x=Λ)(h:ai K1 H [] Z x v):ai K2 (L2.eA H) [] Z x v:=by
 have h1:ai K2 H [] Z x v:=ai.kb hk hq hc hp h;have go:∀n:Nat,(∀(x:P) (v:V),sizeOf x<=n->bY x=Λ->ai K2 H [] Z x v->ai K2 (L2.eA H) [] Z x v)/\(∀(xs:List P) (vs:List V),sizeOf xs<=n->cx xs=Λ->ag K2 H [] Z xs vs->ag K2 (L2.eA H) [] Z xs vs):=λn=>by
  induction n with
  |zero=>
   refine⟨λx v hs=>?_,λxs vs hs=>?_⟩;·cases x<;>simp at hs
   ·cases xs<;>simp at hs
  |succ n ih=>
   refine⟨λx v hs hp h=>?_,λxs vs hs hp h=>?_⟩;·cases x with|d y=>rw[ai] at h ⊢;exact aI.congr (λa us e=>bj e (λ_ z=>nomatch z)) (λa us _ _ e=>G7 e) h|obj y=>simp[bY] at hp|fb y=>simp[bY] at hp|lf y=>simp[bY] at hp|fn k bx=>rw[ai] at h ⊢;obtain⟨a,c,bN,e,q,hx,rr⟩:=h;exact⟨a,c,bN,e,q,dU hx,ih.2 bx bN (by simp at hs;lia) (by simpa[bY] using hp) rr⟩
   ·cases xs with|nil=>exact h|cons x xs=>rw[ag] at h ⊢;obtain⟨v,k9,e,rr,rs⟩:=h;simp only[cx,PZ] at hp;simp at hs;exact⟨v,k9,e,ih.1 x v (by lia) hp.1 rr,ih.2 xs k9 (by lia) hp.2 rs⟩
 exact(go (sizeOf x)).1 x v (P8 _) hp h1
theorem A4(I:Inv X η σ H s)(hB:X.base=base)(wm:∀x,X.fn x=Λ)(hN:X.N=i.1.N)(G6:X.env.scope=aq i.1.st)(O8:yG S i ls=Λ)(ar:bZ (ae X (mG S base tabs X.env.cells)) H [] Z r σ):
  ∀(n) (p q) (v),conv ls r n p=Δ q->ai (ae X (mG S base tabs X.env.cells)) H [] Z p v->ai (gj S X.K (l6 s.heap H (dz X.stack)) tabs) (L2.eA H) [] Z q v:=by
 have kp:∀b o,base.get? b=Δ o->(l6 s.heap H (dz X.stack)).get? b=Δ o:=λb o e=>I.zU (by rw[hB];exact e);have Lb:∀k a c bN,(ae X (mG S base tabs X.env.cells)).kX k a c bN->(gj S X.K (l6 s.heap H (dz X.stack)) tabs).kX k a c bN:=λk a c bN h=>j8.keeps h kp;intro n;induction n with
 |zero=>intro p q v h;cases h|succ n ih=>
  intro p q v h hr;cases p with
  |d x=>cases h;exact ai.La (K1:=ae X (mG S base tabs X.env.cells)) (K2:=gj S X.K (l6 s.heap H (dz X.stack)) tabs) rfl rfl Lb rfl hr|fb ns=>
   cases h;rw[ai] at hr ⊢;obtain⟨a,e,hf⟩:=hr;refine⟨a,e,?_⟩;rcases hf with ⟨o,hf⟩|hf
   ·exact .inl ⟨o,bj hf (λ_ z=>nomatch z)⟩
   ·exact .inr hf
  |obj k=>cases h|fn k bx=>
   have h':(if cx bx=Λ then Δ (P.fn k bx) else Θ)=Δ q:=h;split at h';·rename_i hp;cases h';exact ai.La (K1:=ae X (mG S base tabs X.env.cells)) (K2:=gj S X.K (l6 s.heap H (dz X.stack)) tabs) rfl rfl Lb (by simpa[bY] using hp) hr
   ·cases h'
  |lf k=>
   have h':((ls.lookup k).bind λjs=>(js.mapM λj=>((r[j]?).join).bind (conv ls r n)).map λbx=>P.fn k bx)=Δ q:=h;obtain⟨js,e1,h2⟩:=bS h';obtain⟨bx,e2,rfl⟩:=dZ h2;rw[ai] at hr;obtain⟨a,c,ct,rfl,ha,OJ⟩:=hr;obtain⟨hφ,_,_⟩:=I.aJ a _ ha;obtain⟨ci,o,sc,BA,ho,xR,r9⟩:=hφ;obtain⟨hcb,fd0,hfd⟩:=yH xR;obtain⟨SC,_⟩:=j7 hcb;have Lc:vi a ((ae X (mG S base tabs X.env.cells)).Bx k a c ct):=λq' e=>by have Ld:=(I.aJ a _ ha).1;rw[e] at Ld;obtain⟨c2,o2,vs2,t2,e2,Bp,hd2,_⟩:=Ld;cases e2;rw[ho] at Bp;cases Bp;rw[hfd] at hd2;cases hd2
   have anf:∀{b:Addr},H b≠Θ->b∉dz X.stack:=λ{b} hb z=>hb (I.jz b z);have aJ:=Rl.mp (show(ls.all _)=Λ from O8) (k,js) (xh e1);simp only[BA,PZ,qqq,Rl] at aJ;obtain⟨hjs,G8⟩:=aJ;have key:∀(js:List Nat) (fr:List Str) (bx:List P),js.map (λj=>i.1.N[j]?)=fr.map Δ->(∀x∈fr,(aq i.1.st).names.lookup x=Δ .cell)->(js.mapM λj=>((r[j]?).join).bind (conv ls r n))=Δ bx->
     ∃bN,ag (gj S X.K (l6 s.heap H (dz X.stack)) tabs) (L2.eA H) [] Z bx bN/\bN.length=fr.length/\∀(l:Nat) (x:Str) (v:V),fr[l]?=Δ x->bN[l]?=Δ v->∃c u,X.env.cells.lookup x=Δ c/\(l6 s.heap H (dz X.stack)).IsCell c (Δ u)/\RelV v u:=by
    intro js;induction js with
    |nil=>intro fr bx hj _ hm;cases fr with|cons x fr=>simp at hj|nil=>simp at hm;subst hm;exact⟨[],by rw[ag],rfl,λl x v h=>by simp at h⟩
    |cons j js ihj=>
     intro fr bx hj uy hm;cases fr with
     |nil=>simp at hj|cons x fr=>
      rw[QD,QD] at hj;injection hj with hj1 hj2;rw[List.mapM_cons] at hm;obtain⟨q1,hq1,GS⟩:=bS (show(((r[j]?).join).bind (conv ls r n)).bind _=Δ bx from hm);obtain⟨qs,hqs,hm3⟩:=bS (show(js.mapM λj=>((r[j]?).join).bind (conv ls r n)).bind _=Δ bx from GS);cases (show Δ (q1::qs)=Δ bx from hm3);obtain⟨pj,Lf,hcj⟩:=bS hq1;have e':r[j]?=Δ (Δ pj):=by cases z:r[j]? with|none=>rw[z] at Lf;cases Lf|some o=>rw[z] at Lf;simp at Lf;rw[Lf]
      obtain⟨vj,ej,rj⟩:=ar.at_ j pj e';obtain⟨bN,r1,r2,r3⟩:=ihj fr qs hj2 (λy hy=>uy y (P6 _ hy)) hqs;have jB:=uy x P7;have zo:X.env.kindOf x=Δ .cell:=by show X.env.scope.names.lookup x=_;rw[G6];exact jB
      obtain⟨mm,hn,hl⟩:=I.loc;obtain⟨u,ru,lk⟩:=hl j x vj (by rw[hN];exact hj1) ej (.inr (.inl (by rw[G6];exact jB)));refine⟨vj::bN,by rw[ag];exact⟨vj,bN,rfl,ih pj q1 vj hcj rj,r1⟩,by simp[r2],λl y v hy hv=>?_⟩;cases l with
      |succ l=>exact r3 l y v (by simpa using hy) (by simpa using hv)|zero=>
       simp at hy hv;subst hy;subst hv;rcases lk with ⟨hk,_⟩|⟨_,c',Bl,G9⟩
       ·rw[zo] at hk;cases hk
       ·refine⟨c',u,Bl,?_,ru⟩;obtain⟨oc,En,hdc⟩:=G9;refine⟨oc,qH En (gw (I.eZ x c' Bl)) λz=>?_,hdc⟩;rcases Uu.mp (I.kz c' z) with w1|w1;·exact I.BC x c' Bl w1
        ·obtain⟨_,o3,ho3,_⟩:=I.ok.fO.mem w1;exact Rm _ (Qj (Qc ho3) (I.ok.Dw x c' (wm x) Bl))
   obtain⟨bN,k1,k2,k3⟩:=key js ci.fr bx hjs G8 e2;rw[ai];refine⟨a,c,bN,rfl,⟨ci,o,sc,_,BA,qH ho (qG ha Lc) (anf (by rw[ha];exact λz=>nomatch z)),xR,?_⟩,dU OJ,k1⟩;have look:∀x,(x,Qg)∈sc.names->(fG X.env.cells sc.names []).lookup x=X.env.cells.lookup x:=λx hx=>(gx (x:=x) (acc:=[]) r9).1 hx;have Ha:∀x,(x,Qg)∉sc.names->(fG X.env.cells sc.names []).lookup x=Θ:=λx hx=>(gx (x:=x) (acc:=[]) r9).2 hx;have O9:∀x c,(fG X.env.cells sc.names []).lookup x=Δ c->(x,Qg)∈sc.names:=λx c h=>QR λz=>by rw[Ha x z] at h;cases h
   refine⟨λx y c' h1 h2=>?_,λx c' h=>SC.JQ _ (O9 x c' h) rfl,λl x v h1 h2=>?_,k2⟩;·rw[look x (O9 x c' h1)] at h1;rw[look y (O9 y c' h2)] at h2;exact I.ok.inj x y c' h1 h2
   ·obtain⟨c',u,g1,g2,g3⟩:=k3 l x v h1 h2;exact⟨c',u,by rw[look x (QG (SC.fre x (Q2 h1)))];exact g1,g2,g3⟩
end
theorem yI(h:H b=H' b):eA H b=eA H' b:=by unfold eA;rw[h]
section
variable{K1 K2:KB}{H1 H2:Hp}{m Z:List Addr}
theorem iF(hn:∀b φ,H1 b=Δ (.ext φ)->vi b φ->H2 b=Θ)(h:H2 b=Δ u):sP H1 H2 b=Δ u:=by rw[m9 λφ z hf=>by rw[hn b φ z hf] at h;cases h];exact h
theorem A5(hn:∀b φ,H1 b=Δ (.ext φ)->vi b φ->H2 b=Θ)(h:eA H2 b≠Θ):eA (sP H1 H2) b≠Θ:=by have e:sP H1 H2 b=H2 b:=m9 λφ z hf=>h (gw (hn b φ z hf));rw[yI e];exact h
theorem Lg(hn:∀b φ,H1 b=Δ (.ext φ)->vi b φ->H2 b=Θ)(le:Le K1 [] (eA H1) [] H2):Le K2 [] H1 [] (sP H1 H2):=by
 have mono:=λ{b:Addr} {u:HO} (h:H2 b=Δ u)=>iF hn h;have ext:∀b φ,H1 b=Δ (.ext φ)->sP H1 H2 b=Δ (.ext φ):=λb φ e=>by
  by_cases hf:vi b φ;·exact wJ e hf
  ·have:∃q,φ=cJ b q:=QR λz=>hf λq' e'=>z ⟨q',e'⟩;obtain⟨q,rfl⟩:=this;exact mono (le.ext _ _ (dU e))
 have keep:∀b u,H1 b=Δ u->(∀ps,u≠.dc ps)->sP H1 H2 b=Δ u:=λb u e hu=>by
  by_cases hx:∃φ,u=.ext φ;·obtain⟨φ,rfl⟩:=hx;exact ext b φ e
  ·exact mono (le.keep _ _ (bj e λφ z=>hx ⟨φ,z⟩) (by simp) hu)
 have dc:∀b ps,H1 b=Δ (.dc ps)->∃more,sP H1 H2 b=Δ (.dc (ps++more)):=λb ps e=>by obtain⟨more,e2⟩:=le.dc b ps (bj e (λ_ z=>nomatch z));exact⟨more,mono e2⟩
 refine⟨⟨[],rfl⟩,λb xs e=>keep b _ e (λ_ z=>nomatch z),λb u e _ hu=>keep b u e hu,(λb h=>nomatch h),λb h=>?_,λb h=>?_,λb o u e=>keep b _ e (λ_ z=>nomatch z),ext,dc⟩
 ·cases e:H1 b with
  |none=>exact absurd e h|some u=>
   by_cases hu:∃ps,u=.dc ps;·obtain⟨ps,rfl⟩:=hu;obtain⟨more,e2⟩:=dc b ps e;rw[e2];exact λz=>nomatch z
   ·rw[keep b u e λps z=>hu ⟨ps,z⟩];exact λz=>nomatch z
 ·refine A5 hn (le.wQ b ?_);cases e:eA H1 b with
  |none=>exact absurd e h|some o=>
   obtain⟨_,e2⟩:=g6 e;by_cases hx:∃φ,o=.ext φ;·obtain⟨φ,rfl⟩:=hx;have:∃q,φ=cJ b q:=QR λz=>e2 φ rfl λq' e'=>z ⟨q',e'⟩;obtain⟨q,rfl⟩:=this;rw[dU e];exact λz=>nomatch z
   ·rw[bj e λφ z=>hx ⟨φ,z⟩];exact λz=>nomatch z
theorem Lh(ht:K1.tabs=K2.tabs)(hn:∀b φ,H1 b=Δ (.ext φ)->vi b φ->H2 b=Θ)(as:ay K1 H2 [] Z []):ay K2 (sP H1 H2) [] Z []:=
 iE (λb h=>A5 hn (as.zt b h)) λt h=>by obtain⟨ps,e1,e2⟩:=as.tab t (by rw[ht];exact h);exact⟨ps,iF hn e1,dF.same (λb φ e=>iF hn e) e2⟩
theorem Hb(hn:∀b φ,H1 b=Δ (.ext φ)->vi b φ->H2 b=Θ)(h:aI K1 H2 [] Z x v):aI K2 (sP H1 H2) [] Z x v:=
 aI.congr (λb us e=>iF hn e) (λb us _ _ e=>by
  rcases e with e|⟨o,e⟩;·exact .inl (iF hn e)
  ·exact .inr ⟨o,iF hn e⟩) (aI.kb h)
end
theorem A6{st:aR}(h:Ok kb Z (pP c o st) m H Q):∃qs x,o=Δ qs/\st=[]/\c qs []=.ok (.d x) []/\Ok kb Z (R.ok (P.d x) []) m H Q:=by
 unfold pP at h;split at h
 ·rename_i qs;cases hx:c qs [] with
  |ex x s=>rw[hx] at h;exact(show False from h).elim|no=>rw[hx] at h;exact(show False from h).elim|ok p aF=>
   rw[hx,ax] at h;split at h;·rename_i x;exact⟨qs,x,rfl,rfl,hx,h⟩
   ·exact(show False from h).elim
 ·exact(show False from h).elim
section
variable{X:Cx}{S:TX}{base:Heap}{tabs:List (Addr×List (Pos×Str))}{i:Info×List (Nat×Pos)}{Z:List Addr}{η:List (Addr×Obj)}{σ:L2.St}{H:Hp}{s:Qd}{ls:List (Nat×List Nat)}{r:cB}
theorem qd(cr:∀(p q:P) (v:V),conv ls r 3 p=Δ q->ai (ae X (mG S base tabs X.env.cells)) H [] Z p v->ai (gj S X.K (l6 s.heap H (dz X.stack)) tabs) (L2.eA H) [] Z q v):
  ∀{ps qs} {vs},ps.mapM (conv ls r 3)=Δ qs->ag (ae X (mG S base tabs X.env.cells)) H [] Z ps vs->ag (gj S X.K (l6 s.heap H (dz X.stack)) tabs) (L2.eA H) [] Z qs vs
 |[],qs,vs,h,rr=>by simp at h;subst h;rw[ag] at rr ⊢;exact rr|p::ps,qs,vs,h,rr=>by rw[List.mapM_cons] at h;obtain⟨q1,e1,h2⟩:=bS (show(conv ls r 3 p).bind _=Δ qs from h);obtain⟨q2,e2,h3⟩:=bS (show(ps.mapM (conv ls r 3)).bind _=Δ qs from h2);cases (show Δ (q1::q2)=Δ qs from h3);rw[ag] at rr ⊢;obtain⟨v,k9,e,r1,r2⟩:=rr;exact⟨v,k9,e,cr p q1 v e1 r1,qd cr e2 r2⟩
variable{K:P5}{mg:Str->Option Value}{a:Nat->Addr}{fd:Nat->QX}{cP:Nat->Addr×Addr}
theorem Dc(T:jq X.K X.mg S tabs a fd cP)(hB:X.base=base)(wm:∀x,X.fn x=Λ)(hN:X.N=i.1.N)(G6:X.env.scope=aq i.1.st)(hr:cb (lv n) X.A)(D:∀sQ,eE X.mg S cP sQ->dk X.prog X.w X.K X.mg S tabs a fd n sQ)(bo:eE X.mg S cP X.base)(hf:S.fns[f]?=Δ (x,nn))(O8:yG S i ls=Λ)(hl:bT.length=nn)(hg:Gl X x)(hp:aO x=Λ)(hs:∀y∈e::es,notStar y=Λ)(ha:PA X (e::es) (tA (ae X (mG S base tabs X.env.cells)) Z (aD (callC S.Fs n) bT))):
  PE X (.Call (.Name x p) (e::es) [] pos) (tE (ae X (mG S base tabs X.env.cells)) Z (aa (callC S.Fs n) (.fV f bT ls))):=by
 obtain⟨hk,i2,ej,e2⟩:=TX.AZ hf;cases e2;obtain⟨⟨x2,F2⟩,hm,hb,_⟩:=T.fn f i2 ej;have hm:=hm hk;intro η s σ H Q I h;obtain⟨m,r,st,ar,as,h⟩:=h;rw[tz] at h;refine QN (fz I hg hm ?_ (pn hp).1);refine SY (h₀:=X.base) I.ok.mod.wj F2.kp (bG (ha pos η s σ H (λvs H1=>∃m1 st1 ps,bZ (ae X (mG S base tabs X.env.cells)) H1 m1 Z r σ/\ay (ae X (mG S base tabs X.env.cells)) H1 m1 Z st1/\ag (ae X (mG S base tabs X.env.cells)) H1 m1 Z ps vs/\ps.length=bT.length/\
   Ok (ae X (mG S base tabs X.env.cells)) Z (pP (callC S.Fs n f) (ps.mapM (conv ls r 3)) st1) m1 H1 (λp _ m' H'=>∀v,ai (ae X (mG S base tabs X.env.cells)) H' m' Z p v->Q v H')) I
  ⟨m,r,st,ar,as,(Ok.bind h).nK λps st1 m1 H1 hq bq aQ h1 vs eX=>⟨m1,st1,ps,ar.le bq,aQ,eX,dM hq,h1⟩⟩) λus s1 ⟨vs,H1,I1,rr,m1,st1,ps,ar1,aQ,eX,oJ,h1⟩=>⟨I1.gM,?_⟩) (br (hs e P7)) (dR λz hz=>hs z (P6 _ hz))
 obtain⟨qs,d,eq,rfl,hx,h2⟩:=A6 h1;have em:m1=[]:=List.eq_nil_of_length_eq_zero (by rw[aQ.len];rfl);subst em;have cr:=λp q v=>A4 I1 hB wm hN G6 O8 ar1 3 p q v;have rq:=qd cr eq eX;have kp:∀b o,X.base.get? b=Δ o->(l6 s1.heap H1 (dz X.stack)).get? b=Δ o:=λb o e=>I1.zU e;have Hc:eE X.mg S cP (l6 s1.heap H1 (dz X.stack)):=⟨λk j hj hm=>(bo.code k j hj hm).keeps kp,by obtain⟨bm,ob,b1,b2,b3,r⟩:=bo.bm;exact⟨bm,ob,b1,b2,kp _ _ b3,r⟩⟩;have Fk:=D _ Hc f i2 ej;have vl:vs.length=i2.1.F.np:=by rw[eX.length,oJ,hl]
 have usl:us.length=i2.1.ps.length:=by rw[<-rr.length,vl,G2 (T.fn f i2 ej).2.2.2.2]
 have cL:ay (gj S X.K (l6 s1.heap H1 (dz X.stack)) tabs) (L2.eA H1) [] Z []:=iE (λb hb=>by
   have:=aQ.zt b hb;cases e:L2.eA H1 b with
   |none=>exact absurd e this|some o=>
    obtain⟨_,e2⟩:=g6 e;by_cases hx:∃φ,o=.ext φ;·obtain⟨φ,rfl⟩:=hx;have:∃q,φ=cJ b q:=QR λz=>e2 φ rfl λq' e'=>z ⟨q',e'⟩;obtain⟨q,rfl⟩:=this;rw[dU e];exact λz=>nomatch z
    ·rw[bj e λφ z=>hx ⟨φ,z⟩];exact λz=>nomatch z) λt ht=>by
  obtain⟨ps,e1,e2⟩:=aQ.tab t ht;exact⟨ps,bj e1 (λ_ z=>nomatch z),e2.1,λp hp cv uz=>by obtain⟨c,g1,g2⟩:=e2.2 p hp cv uz;exact⟨c,g1,dU g2⟩⟩
 have zW:T3 s1 (fd f) ⟨us,[]⟩ (i2.1.ps.zip us):=by have:=hb s1 us I1.gM (by rw[QK];exact usl);rw[QK] at this;exact this
 refine QS (Cj (Q:=λv H2=>∃m',Le (gj S X.K (l6 s1.heap H1 (dz X.stack)) tabs) [] (L2.eA H1) m' H2/\ay (gj S X.K (l6 s1.heap H1 (dz X.stack)) tabs) H2 m' Z []/\aI (gj S X.K (l6 s1.heap H1 (dz X.stack)) tabs) H2 m' Z d v) I1 Fk hr zW rr
  ⟨[],Z,qs,[],vl,rq,cL,by rw[hx];exact λm' H' le bT v rv=>⟨m',le,bT,by rw[ai] at rv;exact rv⟩⟩) (λu s2 ⟨v,H3,I3,rv,H2,eH,hn,m',le,bT,rd⟩=>⟨v,H3,I3,rv,?_⟩) λ_ _ z=>z
 subst eH;have em2:m'=[]:=List.eq_nil_of_length_eq_zero (by rw[bT.len];rfl);subst em2;exact h2 [] _ (Lg hn le) (Lh (K1:=gj S X.K (l6 s1.heap H1 (dz X.stack)) tabs) rfl hn bT) v (by rw[ai];exact Hb hn rd)
end
def qf{α:Type}(P:Nat->α->Prop):Nat->List α->Prop
 |_,[]=>True|j,x::xs=>P j x/\qf P (j+1) xs
theorem Hd{α:Type}{P:Nat->α->Prop}:qf P j []:=trivial
theorem bz{α:Type}{P:Nat->α->Prop}{x:α}{xs:List α}(h:P j x)(t:qf P (j+1) xs):qf P j (x::xs):=⟨h,t⟩
theorem D7{α:Type}{P:Nat->α->Prop}:∀{l} {j},qf P j l->∀k i,l[k]?=Δ i->P (j+k) i
 |[],j,_,k,i,e=>by simp at e|x::xs,j,h,0,i,e=>by simp at e;subst e;exact h.1
 |x::xs,j,h,k+1,i,e=>by have:=D7 h.2 k i (by simpa using e);rwa [Nat.add_assoc,Nat.add_comm 1 k] at this
theorem vX{α:Type}{P:Nat->α->Prop}{l:List α}(h:qf P 0 l)k(i:α)(e:l[k]?=Δ i):P k i:=by have:=D7 h k i e;rwa [Nat.zero_add] at this
def scB(i:Info):Bool:=decide ((aq i.st).kind=.function)&&!(aq i.st).isCoroutine&&!(aq i.st).isGenerator&&decide i.N.Nodup&&decide (i.N.take i.ps.length=i.ps)&&
 decide (∀x∈i.ps,(aq i.st).names.lookup x=Δ .local\/(aq i.st).names.lookup x=Δ .cell)&&decide (∀y∈(aq i.st).names,y.2≠.free)
def D8(S:TX):Bool:=S.is.zipIdx.all λj=>HQ S j.2 j.1&&scB j.1.1
theorem lq{S:TX}(h:D8 S=Λ)(e:S.is[k]?=Δ i):gp i.1.N i.1.ps (aq i.1.st)/\HQ S k i=Λ:=by have q:=Rl.mp h (i,k) (List.mem_zipIdx_iff_getElem?.mpr e);unfold scB at q;simp only[PZ,qqq,Qq] at q;obtain⟨q1,⟨⟨⟨⟨⟨h1,h2⟩,h3⟩,h4⟩,h5⟩,h6⟩,h7⟩:=q;exact⟨⟨h1,h2,h3,h4,h5,h6,h7⟩,q1⟩
theorem Pa{α:Type}{P:α->Prop}:∀y∈([]:List α),P y:=λ_ h=>nomatch h
theorem memC{α:Type}{P:α->Prop}{x:α}{xs:List α}(h:P x)(t:∀y∈xs,P y):∀y∈x::xs,P y:=List.forall_mem_cons.mpr ⟨h,t⟩
theorem A7{α:Type}{P:List α->Prop}(h:∀a,P [a]):∀us,us.length=1->P us
 |[a],_=>h a
theorem ma{α:Type}{P:List α->Prop}(h:∀a b,P [a,b]):∀us,us.length=2->P us
 |[a,b],_=>h a b
theorem Dd{α:Type}{P:List α->Prop}(h:∀a b c,P [a,b,c]):∀us,us.length=3->P us
 |[a,b,c],_=>h a b c
section
variable{P:QE}{w:World}{K:P5}{mg:Str->Option Value}{S:TX}{tabs:List (Addr×List (Pos×Str))}{a:Nat->Addr}{fd:Nat->QX}{cP:Nat->Addr×Addr}
theorem rn{st:Stmt}{fd:QX}(F:kK K x qual st f fd)(S:gp N ps (aq st))(len:∀vs H Q E,sp vs H Q E->vs.length=ps.length)(e7:∀(A:QY) (outer:List Env) (s:Qd) (H:Hp) (vs:List V) (Q:VK) (E:XK),cb k (A.deeper (SU qual (aq st) s.heap.objs.size f fd.code))->sp vs H Q E->
   ∃t,iq (kF ju P w K mg base N qual (aq st) f fd.code A outer s H E).oI (dP st) t/\t {nx:=λ_ H'=>Q .bu H',rt:=Q} (L2.start N vs) H):cz P w K mg base ju (k+1) f fd ps sp:=by
 obtain⟨oc,od,kV,doc,pm,an,gK,ct,Bo,rfl,lk,iR⟩:=F.ex;refine DC lk iR S len λA outer s H vs Q E hr qv=>?_;obtain⟨t,h,q⟩:=e7 A outer s H vs Q E hr qv;exact⟨t,h.oI,q⟩
def n9(P:QE)(w:World)(K:P5)(mg:Str->Option Value)(S:TX)(tabs:List (Addr×List (Pos×Str)))(a:Nat->Addr)(fd:Nat->QX)(cP:Nat->Addr×Addr):Prop:=
 ∀(n:Nat) (base:Heap),eE mg S cP base->(∀m,m<=n->dk P w K mg S tabs a fd m base/\fN P w K mg S tabs m base)->∀(k:Nat) (i:Info×List (Nat×Pos)),S.is[k]?=Δ i->S.K5.contains k=Λ->
  cz P w K mg base ju (lv (n+1)) (a k) (fd k) i.1.ps (qV (gj S K base tabs) (callC S.Fs (n+1) k) i.1.F.np)
theorem He(T:jq K mg S tabs a fd cP)(D:∀base,eE mg S cP base->dk P w K mg S tabs a fd n base)(L:∀base,eE mg S cP base->fN P w K mg S tabs n base)(bo:eE mg S cP base)(spc:∀(k:Nat) (i:Info×List (Nat×Pos)),S.is[k]?=Δ i->S.K5.contains k=Λ->cz P w K mg base ju (lv (n+1)) (a k) (fd k) i.1.ps (qV (gj S K base tabs) (callC S.Fs (n+1) k) i.1.F.np)):dk P w K mg S tabs a fd (n+1) base:=by
 intro k i hi;by_cases hs:S.K5.contains k=Λ;·exact spc k i hi hs
 obtain⟨⟨x1,F⟩,hm,hb,sc,ok⟩:=T.fn k i hi;unfold HQ at ok;rw[if_neg hs] at ok;unfold G1 at ok;simp only[PZ,qqq,R3,Qq] at ok;obtain⟨⟨⟨D9,Ms⟩,K6⟩,ok4⟩:=ok;have ek:=TX.GY hi;refine(rn (k:=lv n+1) F sc (λvs H Q E h=>?_) (λA outer s H vs Q E hr h=>?_)).mono (Q1 _);·obtain⟨m,Z,qs,st,hl,_⟩:=h;rw[hl,Ms]
 obtain⟨m,Z,qs,st,hl,rq,as,aJ⟩:=h;have hu:(A.deeper (SU i.1.name (aq i.1.st) s.heap.objs.size (a k) (fd k).code)).units+100 < cLine:=by have:=hr.un;lia
 by_cases Li:i.2=[]
 ·have eg:jo S i={N:=i.1.N,names:=(aq i.1.st).names,fns:=S.fns,cV:=S.cs,tabs:=S.ts,lN:=S.lN,mr:=S.mr,mv:=S.mv}:=by unfold jo;rw[Li]
  rw[eg] at D9;have G:dj (kF ju P w K mg base i.1.N i.1.name (aq i.1.st) (a k) (fd k).code A outer s H E).oI (GZ S base tabs) {N:=i.1.N,names:=(aq i.1.st).names,fns:=S.fns,cV:=S.cs,tabs:=S.ts,lN:=S.lN,mr:=S.mr,mv:=S.mv} (callC S.Fs n):=
   {N:=rfl,loc:=λx h=>h,zQ:=λx h=>h,gl:=λx h=>h,calm:=rfl,hu:=hu,bl:=T.bl,
    fn:=nY T (D base bo) ⟨rfl,rfl,rfl,rfl,rfl⟩ hr rfl,cs:=T.cs,tb:=T.tb,
    kX:=λ_ k' a' c' A3 h'=>⟨vW h',by obtain⟨f,ps,F,B⟩:=L base bo k' a' c' A3 h';exact⟨lv n,f,ps,F,hr.mono (Q1 _),B⟩⟩,
    lam:=λ_ _ _ _ _ h=>absurd (show Ξ=Λ from h) (by decide),fV:=λ_ _ _ _ h=>absurd (show Ξ=Λ from h) (by decide),fc:=λ_ _ _ h=>absurd (show Ξ=Λ from h) (by decide),fld:=nZ T rfl,FX:=n4 T (D base bo) ⟨rfl,rfl,rfl,rfl,rfl⟩ hr rfl,FY:=n6 T (D base bo) ⟨rfl,rfl,rfl,rfl,rfl⟩ hr rfl,kP:=λ_ _ _ _ _ _ _ h=>absurd (show Ξ=Λ from h) (by decide),
    cell:=λx h=>h,nd:=sc.nd,KR:=λx _=>rfl,own:=TL}
  by_cases wD:i.1.F.sh=Λ
  ·rw[jk,ek] at aJ;simp only[wD,if_true] at aJ;by_cases D6:qs.length=i.1.F.np;·rw[if_pos D6] at aJ;refine⟨_,cQ i.1.F.body _ _ _ _ Z G D9,m,af i.1.F.nn qs,st,by rw[K6];exact iD rq,as,?_⟩;show Ok (gj S K base tabs) Z (aw (callC S.Fs n) i.1.F.body (af i.1.F.nn qs) st) m H _;cases hx:aw (callC S.Fs n) i.1.F.body (af i.1.F.nn qs) st with|ex x s=>rw[hx] at aJ;exact(show False from aJ).elim|no=>rw[hx] at aJ;exact(show False from aJ).elim|ok f bw=>rw[hx] at aJ;cases f with|bk r=>exact(show False from aJ).elim|ct r=>exact(show False from aJ).elim|nx r=>exact λm' H' le bT σ _=>(show Ok (gj S K base tabs) Z (R.ok (Y.P.d .bu) bw) m H _ from aJ) m' H' le bT .bu rfl|rt p=>exact λm' H' le bT v rv=>(show Ok (gj S K base tabs) Z (R.ok p bw) m H _ from aJ) m' H' le bT v rv
   ·rw[if_neg D6] at aJ;exact(show False from aJ).elim
  ·have y4:i.1.F.sh=Ξ:=by cases q:i.1.F.sh with|false=>rfl|true=>exact absurd q wD
   obtain⟨q2,d,ea,er,h2,_⟩:=eY ek y4 aJ;obtain⟨Z0,ht⟩:=gd (X:=(kF ju P w K mg base i.1.N i.1.name (aq i.1.st) (a k) (fd k).code A outer s H E).oI) (kt:=GZ S base tabs) (kb:=gj S K base tabs) K6 rq as rfl rfl (λ_ _ _ _ z=>z) rfl ea er h2;exact⟨_,cQ i.1.F.body _ _ _ _ Z0 G D9,ht⟩
 ·obtain⟨mk1,mk2,mk3,mk4⟩:=T.mkr k i hi Li;have y4:i.1.F.sh=Ξ:=ok4.resolve_left λz=>Li (Qb.mp z);obtain⟨q2,d,ea,er,h2,_⟩:=eY ek y4 aJ
  let X:=(kF ju P w K mg base i.1.N i.1.name (aq i.1.st) (a k) (fd k).code A outer s H E).oI
  have M:Maker X (cP k).1 (cP k).2 (cT S i):=⟨mk1,bo.code k i hi Li,bo.bm,mk3⟩;have hc:∀x,(aq i.1.st).names.lookup x=Δ .cell->∃c,X.env.cells.lookup x=Δ c:=λx h=>mQ h;have eg:jo S i={N:=i.1.N,names:=(aq i.1.st).names,fns:=[],cV:=S.cs,tabs:=S.ts,Kh:=A1 S i,Ki:=A2 S i,DZ:=λf x n ls=>decide (S.fns[f]?=Δ (x,n))&&yG S i ls,Kj:=λ_ _ _=>Ξ,cv:=Ξ}:=by
   unfold jo;split;·exact absurd ‹i.2=[]› Li
   ·rfl
  rw[eg] at D9;have G:dj X (mG S base tabs X.env.cells) {N:=i.1.N,names:=(aq i.1.st).names,fns:=[],cV:=S.cs,tabs:=S.ts,Kh:=A1 S i,Ki:=A2 S i,DZ:=λf x n ls=>decide (S.fns[f]?=Δ (x,n))&&yG S i ls,Kj:=λ_ _ _=>Ξ,cv:=Ξ} (callC S.Fs n):=
   {N:=rfl,loc:=λx h=>h,zQ:=λx h=>h,gl:=λx h=>h,calm:=rfl,hu:=hu,bl:=T.bl,
    fn:=λj x nn h=>by simp at h,cs:=T.cs,tb:=T.tb,
    kX:=λh=>absurd (show Ξ=Λ from h) (by decide),
    lam:=λk' pa Hc sc' pos h Z=>K9 rfl M mk2 mk4 rfl hc h,
    fV:=λf x nn ls h Z e es bT p pos h1 h2 h3 h4 h5=>by have h':(decide (S.fns[f]?=Δ (x,nn))&&yG S i ls)=Λ:=h;simp only[PZ,qqq] at h';have hgl:(aq i.1.st).names.lookup x=Δ R7.globalImplicit:=of_decide_eq_true (show decide ((aq i.1.st).names.lookup x=Δ R7.globalImplicit)=Λ from h2);exact Dc (X:=X) (cP:=cP) (i:=i) T rfl (λ_=>rfl) rfl rfl (hr.mono (Q1 _)) D bo h'.1 h'.2 h1 hgl h3 h4 h5
    fc:=λ_ _ _ h=>absurd (show Ξ=Λ from h) (by decide),fld:=λ_ _ h=>absurd (show Ξ=Λ from h) (by decide),FX:=λ_ _ _ _ h=>absurd (show Ξ=Λ from h) (by decide),FY:=λ_ _ _ h=>absurd (show Ξ=Λ from h) (by decide)
    kP:=λj k' nm pa Hc sc' pos h Z=>G5 rfl M mk2 mk4 rfl hc rfl sc.nd rfl (λ_=>rfl) h
    cell:=λx h=>h,nd:=sc.nd,KR:=λx _=>rfl,own:=TL}
  obtain⟨Z0,ht⟩:=gd (X:=X) (kt:=mG S base tabs X.env.cells) (kb:=gj S K base tabs) K6 rq as rfl rfl (λ_ _ _ _ z=>z) rfl ea er h2;exact⟨_,cQ i.1.F.body _ _ _ _ Z0 G D9,ht⟩
theorem uf(T:jq K mg S tabs a fd cP)(SP:n9 P w K mg S tabs a fd cP):∀n m,m<=n->(∀base,eE mg S cP base->dk P w K mg S tabs a fd m base)/\(∀base,eE mg S cP base->fN P w K mg S tabs m base)
 |0,m,hm=>by
  obtain rfl:m=0:=Nat.le_zero.mp hm;refine⟨λbase bo k i hi=>?_,λbase bo k b c bN hc=>?_⟩
  ·have no:∀vs H Q E,¬qV (gj S K base tabs) (callC S.Fs 0 k) i.1.F.np vs H Q E:=λvs H Q E ⟨m,Z,qs,st,_,_,_,h⟩=>by rw[nG] at h;exact h
   exact⟨λvs H Q E h=>absurd h (no vs H Q E),λA outer s H args us vs Q E _ _ _ _ h=>absurd h (no vs H Q E)⟩
  ·have no:∀vs H Q E,¬Kl (gj S K base tabs) (callC S.Fs 0 k) c (S.q k) bN vs H Q E:=λvs H Q E ⟨_,m,Z,qs,bx,st,_,_,_,h⟩=>by rw[nG] at h;exact h
   obtain⟨Pb,Pc,h1,h2⟩:∃(Pb:QX) (Pc:List Str),Binds K Pb Pc []/\True:=by
    obtain⟨ci,o,sc,cl,_,_,hf,_⟩:=hc;rcases hf with ⟨pa,Hc,pm,ct,rfl,aJ⟩|⟨nm,pa,Hc,doc,pm,ct,rfl,aJ⟩
    ·unfold ll at aJ;simp only[PZ] at aJ;exact⟨U0 "<lambda>" ci.qual pa Hc sc cl pm (.ref c) ct,ci.ps,Binds.all λus hl=>fF aJ.1.1.2 rfl hl,trivial⟩
    ·unfold lp at aJ;simp only[PZ] at aJ;exact⟨Vu nm ci.qual pa Hc sc cl .none .none doc pm Θ (.ref c) ct,ci.ps,Binds.all λus hl=>fF aJ.1.1.2 rfl hl,trivial⟩
   exact⟨Pb,Pc,⟨λvs H Q E h=>absurd h (no vs H Q E),λA outer s H args us vs Q E _ _ _ _ h=>absurd h (no vs H Q E)⟩,h1⟩
 |n+1,m,hm=>by
  by_cases h:m<=n;·exact uf T SP n m h
  obtain rfl:m=n+1:=by lia
  obtain⟨i1,i2⟩:=uf T SP n n (P8 n);exact⟨λbase bo=>He T i1 i2 bo (SP n base bo λm hm=>⟨(uf T SP n m hm).1 base bo,(uf T SP n m hm).2 base bo⟩),λbase bo=>G3 T (i1 base bo) (i2 base bo)⟩
theorem De(T:jq K mg S tabs a fd cP)(SP:n9 P w K mg S tabs a fd cP)n:(∀base,eE mg S cP base->dk P w K mg S tabs a fd n base)/\(∀base,eE mg S cP base->fN P w K mg S tabs n base):=uf T SP n n (P8 n)
theorem Df(ht:∀t∈tabs,t.1∈Lj.map (·.2))(hc:c [.fb ns] []=.ok (.d (.bl Λ)) [])(ho:wK Lj H)(hs:ir K H b (ns.map V.int)){E:XK}:
  qV (gj S K base tabs) c 1 [.ref b] H (λv _=>v=.bl Λ) E:=by
 refine⟨[],[],[.fb ns],[],rfl,⟨_,_,rfl,⟨b,rfl,?_⟩,rfl⟩,iE (λ_ h=>by cases h) (λt h=>?_),?_⟩
 ·rcases hs with (h|h)|h
  ·rcases ho.1 b with z|⟨o,xs,z⟩|⟨z,_⟩;·rw[h] at z;cases z
   ·rw[h] at z;cases z
   ·rw[h] at z;cases z
  ·exact .inl h
  ·exact .inr h
 ·obtain⟨q,hq,e⟩:=List.mem_map.mp (ht t h);exact⟨#[],by rw[<-e];exact ho.2 q hq,trivial,λp hp cv uz=>by cases (show(Θ:Option Value)=Δ cv from uz)⟩
 ·rw[hc];exact λm' H' le as v rv=>rv
end
section
variable{P:QE}{w:World}{K:P5}{mg:Str->Option Value}{S:TX}{tabs:List (Addr×List (Pos×Str))}{a:Nat->Addr}{fd:Nat->QX}{cP:Nat->Addr×Addr}
theorem jr(T:jq K mg S tabs a fd cP)(D:dk P w K mg S tabs a fd n base)(L:fN P w K mg S tabs n base){i:Info×List (Nat×Pos)}(sc:gp i.1.N i.1.ps (aq i.1.st)){E:XK}(hr:cb (lv n+1) (A.deeper (SU i.1.name (aq i.1.st) s.heap.objs.size (a k) (fd k).code)))(hu:(A.deeper (SU i.1.name (aq i.1.st) s.heap.objs.size (a k) (fd k).code)).units+100 < cLine):
  dj (kF CX P w K mg base i.1.N i.1.name (aq i.1.st) (a k) (fd k).code A outer s H E).oI (GZ S base tabs) {N:=i.1.N,names:=(aq i.1.st).names,fns:=S.fns,cV:=S.cs,tabs:=S.ts,lN:=S.lN,mr:=S.mr,mv:=S.mv} (callC S.Fs n):=
   {N:=rfl,loc:=λx h=>h,zQ:=λx h=>h,gl:=λx h=>h,calm:=rfl,hu:=hu,bl:=T.bl,
    fn:=nY T (D) ⟨rfl,rfl,rfl,rfl,rfl⟩ hr rfl,cs:=T.cs,tb:=T.tb,
    kX:=λ_ k' a' c' A3 h'=>⟨vW h',by obtain⟨f,ps,F,B⟩:=L k' a' c' A3 h';exact⟨lv n,f,ps,F,hr.mono (Q1 _),B⟩⟩,
    lam:=λ_ _ _ _ _ h=>absurd (show Ξ=Λ from h) (by decide),fV:=λ_ _ _ _ h=>absurd (show Ξ=Λ from h) (by decide),fc:=λ_ _ _ h=>absurd (show Ξ=Λ from h) (by decide),fld:=nZ T rfl,FX:=n4 T (D) ⟨rfl,rfl,rfl,rfl,rfl⟩ hr rfl,FY:=n6 T (D) ⟨rfl,rfl,rfl,rfl,rfl⟩ hr rfl,kP:=λ_ _ _ _ _ _ _ h=>absurd (show Ξ=Λ from h) (by decide),
    cell:=λx h=>h,nd:=sc.nd,KR:=λx _=>rfl,own:=TL}
end
section
variable{P:QE}{w:World}{K:P5}{mg:Str->Option Value}{S:TX}{tabs:List (Addr×List (Pos×Str))}{a:Nat->Addr}{fd:Nat->QX}{cP:Nat->Addr×Addr}
def Mt(kb:KB)(np nn:Nat)(c d:cB->aR->R Y.P):Sp:=λvs H Q E=>∃m Z qs st,vs.length=np/\ag kb H m Z qs vs/\ay kb H m Z st/\
 Ok kb Z (bK c (af nn qs) st) m H λb bw m' H'=>if b=Λ then ∀e t,E (.ref e) (Δ t) H' else Ok kb Z (d (af nn qs) bw) m' H' λp _ m2 H2=>∀v,ai kb H2 m2 Z p v->Q v H2
theorem Dg{st:Stmt}{fd:QX}(F:kK K x qual st f fd)(S:gp N ps (aq st))(len:∀vs H Q E,sp vs H Q E->vs.length=ps.length)(e7:∀(A:QY) (outer:List Env) (s:Qd) (H:Hp) (vs:List V) (Q:VK) (E:XK),cb k (A.deeper (SU qual (aq st) s.heap.objs.size f fd.code))->sp vs H Q E->
   ∃t,iq (kF CX P w K mg base N qual (aq st) f fd.code A outer s H E) (dP st) t/\t {nx:=λ_ H'=>Q .bu H',rt:=Q} (L2.start N vs) H):cz P w K mg base CX (k+1) f fd ps sp:=by
 obtain⟨oc,od,kV,doc,pm,an,gK,ct,Bo,rfl,lk,iR⟩:=F.ex;exact DC lk iR S len e7
theorem Hf(T:jq K mg S tabs a fd cP)(D:dk P w K mg S tabs a fd n base)(L:fN P w K mg S tabs n base)(hi:S.is[k]?=Δ i)(h2:i.2=[])(e7:dP i.1.st=[.If test [.Raise (Δ (.Call (.Name x np) [.Constant (.str msg) j cp] [] cf)) Θ rpos] [] ipos,.Return (Δ re) IT])(D9:di (jo S i) c test=Λ)(Ms:di (jo S i) d re=Λ)(hg:(aq i.1.st).names.lookup x=Δ .globalImplicit)(Fn:UQ Bn newId inN bmN)(Of:bm.contains (.type Bn)=Λ)(FB:UQ B nid FA bm)(q:Us K C bm newId=Λ)(hm:mg x=Δ (.ref C))(hd:(x==("__debug__":Str))=Ξ:=by decide):
  cz P w K mg base (Ab P w C) (lv n+2) (a k) (fd k) i.1.ps (Mt (gj S K base tabs) i.1.ps.length i.1.N.length (aa (callC S.Fs n) c) (aa (callC S.Fs n) d)):=by
 obtain⟨⟨x1,F⟩,_,hb,sc,_⟩:=T.fn k i hi;refine Dg (k:=lv n+1) F sc (λvs H Q E h=>?_) (λA outer s H vs Q E hr h=>?_);·obtain⟨m,Z,qs,st,hl,_⟩:=h;exact hl
 obtain⟨m,Z,qs,st,hl,rq,as,aJ⟩:=h;have hu:(A.deeper (SU i.1.name (aq i.1.st) s.heap.objs.size (a k) (fd k).code)).units+100 < cLine:=by have:=hr.un;lia
 have G:=jr (CX:=Ab P w C) (outer:=outer) (H:=H) (E:=E) T D L sc hr hu;have eg:jo S i={N:=i.1.N,names:=(aq i.1.st).names,fns:=S.fns,cV:=S.cs,tabs:=S.ts,lN:=S.lN,mr:=S.mr,mv:=S.mv}:=by unfold jo;rw[h2]
 rw[eg] at D9 Ms;rw[e7];refine⟨_,dS (Dx (PT.oI (aE c _ _ _ _ Z G.toGood D9).2) (dS (Ad Fn Of FB q hm hg rfl (λη σ H2 s2 h' e args I hx hE=>Ac I rfl rfl rfl hx hE) hd) iu) iu)
  (dS (mK (PE.oI (aE d _ _ _ _ Z G.toGood Ms).1)) iu),m,af i.1.N.length qs,st,iD rq,as,?_⟩
 refine aJ.nK λb st1 m1 H1 _ bq aQ h=>?_;cases b with|true=>rw[if_pos rfl] at h ⊢;exact h|false=>rw[if_neg (by decide)] at h ⊢;exact⟨m1,_,st1,(iD rq).le bq,aQ,h⟩
end
section
variable{P:QE}{w:World}{K:P5}{mg:Str->Option Value}{S:TX}{tabs:List (Addr×List (Pos×Str))}{a:Nat->Addr}{fd:Nat->QX}{cP:Nat->Addr×Addr}
noncomputable def Dh(kp kt:Nat):List Y.S:=[.ifs (.call kp [.var 0,.var 1]) [.expr (.call kt [.var 0]),.ret (.cst (.bl Ξ))] [],.ret (.cst (.bl Λ))]
theorem xi(h:tS kb Z (aw C (Dh kp kt)) {nx:=N0,rt:=Q} σ H):
  tA kb Z (aD C [.var 0,.var 1]) σ H λvs H1=>Mt kb 2 2 (aa C (.not (.call kp [.var 0,.var 1]))) (aa C (.call kt [.var 0])) vs H1 (λ_ H2=>Q (.bl Ξ) H2) (λ_ _ H2=>Q (.bl Λ) H2):=by
 obtain⟨m,r,st,ar,as,h⟩:=h;refine⟨m,r,st,ar,as,?_⟩;unfold Dh at h;rw[cX,iy] at h;simp only[bK,gy,bh,aX,dJ] at h ⊢;cases g0:fW r 0 with
 |none=>rw[g0] at h;exact(show False from h).elim|some p0=>rw[g0] at h;simp only[dh,ax] at h ⊢;cases g1:fW r 1 with|none=>rw[g1] at h;exact(show False from h).elim|some p1=>rw[g1] at h;simp only[dh,ax] at h ⊢;intro m1 H1 bq aQ vs rq;have er:fW (af 2 [p0,p1]) 0=Δ p0:=rfl;have er1:fW (af 2 [p0,p1]) 1=Δ p1:=rfl;refine⟨m1,Z,[p0,p1],st,rq.length,rq,aQ,?_⟩;simp only[bK,kT,gy,bh,aX,dJ,er,er1,dh,ax];cases hc:C kp [p0,p1] st with|no=>rw[hc] at h;exact(show False from h).elim|ex x s=>rw[hc] at h;exact(show False from h).elim|ok x st1=>rw[hc] at h;simp only[ax] at h ⊢;cases hb:iP st1 x with|none=>rw[hb] at h;exact(show False from h).elim|some b=>rw[hb] at h;simp only[dh,ax] at h ⊢;cases b with|false=>intro m2 H2 cO cL;rw[if_pos (show(!false)=Λ from rfl)];exact λ_ _=>h m2 H2 (bq.trans cO) cL (.bl Λ) rfl|true=>intro m2 H2 cO cL;rw[if_neg (by decide)];simp only[if_true,cX,nB,iw,gy,bh,aX,dJ,g0,dh,ax] at h;cases hk:C kt [p0] st1 with|no=>rw[hk] at h;exact(show False from h).elim|ex x s=>rw[hk] at h;exact(show False from h).elim|ok y aF=>rw[hk] at h;exact λm3 H3 j4 kr v _=>h m3 H3 ((bq.trans cO).trans j4) kr (.bl Ξ) rfl
theorem Hg(T:jq K mg S tabs a fd cP)(D:dk P w K mg S tabs a fd n base)(L:fN P w K mg S tabs n base)(Pd:S.is[kW]?=Δ iW)(hf:kW < S.nf)(Lc:iW.1.name=fx)(W:cz P w K mg base (Ab P w C) (lv n+2) (a kW) (fd kW) iW.1.ps (Mt (gj S K base tabs) 2 2 (aa (callC S.Fs n) (.not (.call kp [.var 0,.var 1]))) (aa (callC S.Fs n) (.call kt [.var 0]))))(hi:S.is[k]?=Δ i)(h2:i.2=[])(wD:i.1.F.sh=Ξ)(K3:i.1.F.body=Dh kp kt)(K8:i.1.F.nn=i.1.N.length)(D6:i.1.F.np=i.1.ps.length)(e7:dP i.1.st=[.Try [.Expr (.Call (.Name fx p) [.Name y0 p0,.Name y1 p1] [] cf) Ah] [.ExceptHandler (Δ (.Name x np)) Θ [.Return (Δ (.Constant (.bool Λ) j cp)) rp] Ai] [] [] pos,.Return (Δ (.Constant (.bool Ξ) j2 cp2)) rp2])(lq:dY (jo S i) [.var 0,.var 1] [.Name y0 p0,.Name y1 p1]=Λ)(FC:(aq i.1.st).names.lookup fx=Δ .globalImplicit)(hg:(aq i.1.st).names.lookup x=Δ .globalImplicit)(q:Us K C bm newId=Λ)(gT:bm.contains (.type "BaseException")=Λ)(hm:mg x=Δ (.ref C))(hd:(x==("__debug__":Str))=Ξ:=by decide)(xQ:(fx==("__debug__":Str))=Ξ:=by decide):
  cz P w K mg base ju (lv (n+1)) (a k) (fd k) i.1.ps (qV (gj S K base tabs) (callC S.Fs (n+1) k) i.1.F.np):=by
 obtain⟨⟨x1,F⟩,_,hb,sc,_⟩:=T.fn k i hi;obtain⟨⟨x2,FW⟩,Pe,Pf,_,_⟩:=T.fn kW iW Pd;refine rn (k:=lv n+2) F sc (λvs H Q E h=>?_) (λA outer s H vs Q E hr h=>?_);·obtain⟨m,Z,qs,st,hl,_⟩:=h;rw[hl,D6]
 obtain⟨m,Z,qs,st,hl,rq,as,aJ⟩:=h;have hu:(A.deeper (SU i.1.name (aq i.1.st) s.heap.objs.size (a k) (fd k).code)).units+100 < cLine:=by have:=hr.un;lia
 have G:=jr (CX:=ju) (outer:=outer) (H:=H) (E:=E) T D L sc (hr.mono (Q1 _)) hu;have eg:jo S i={N:=i.1.N,names:=(aq i.1.st).names,fns:=S.fns,cV:=S.cs,tabs:=S.ts,lN:=S.lN,mr:=S.mr,mv:=S.mv}:=by unfold jo;rw[h2]
 rw[eg] at lq;have ek:=TX.GY hi;obtain⟨q2,d,ea,er,hh,_⟩:=eY ek wD aJ;obtain⟨Z0,ht⟩:=gd (X:=(kF ju P w K mg base i.1.N i.1.name (aq i.1.st) (a k) (fd k).code A outer s H E).oI) (kt:=GZ S base tabs) (kb:=gj S K base tabs) K8 rq as rfl rfl (λ_ _ _ _ z=>z) rfl ea er hh;rw[K3] at ht;rw[e7];have G4:=(cg (C:=callC S.Fs n) [.var 0,.var 1]).1 _ _ _ [.Name y0 p0,.Name y1 p1] Z0 G.toGood lq;refine⟨_,dS (sW (C:=C) (k:=lv n+2) (u:=λD _ H=>D.rt (.bl Λ) H) rfl rfl W hr FC (Lc▸Pe hf) FW.kp Pf G4 q gT hm hg (λea η s σ H D I h=>Cn I h) (λea=>PassesOwnAt.never) hd xQ) (dS (mK wo) iu),?_⟩;exact xi ht
theorem Hh{ix j2 kp kt:Nat}(T:jq K mg S tabs a fd cP)(D:dk P w K mg S tabs a fd n base)(L:fN P w K mg S tabs n base)(Pd:S.is[kW]?=Δ iW)(hf:kW < S.nf)(Lc:iW.1.name=fx)(W:cz P w K mg base (Ab P w C) (lv n+2) (a kW) (fd kW) iW.1.ps (Mt (gj S K base tabs) 2 2 (aa (callC S.Fs n) (.not (.call kp [.var 0,.var 1]))) (aa (callC S.Fs n) (.call kt [.var 0]))))(hi:S.is[k]?=Δ i)(h2:i.2=[])(wD:i.1.F.sh=Ξ)(K3:i.1.F.body=Dh kp kt)(K8:i.1.F.nn=i.1.N.length)(D6:i.1.F.np=i.1.ps.length)(e7:dP i.1.st=[.Try [.Expr (.Call (.Name fx p) [.Name y0 p0,.Name y1 p1] [] cf) Ah] [.ExceptHandler (Δ (.Name y np)) (Δ n0) [.Return (Δ (.BoolOp .And [.Call (.Name "isinstance" q1) [.Name n0 q2,.Name x q3] [] c1,.Call (.Name "isinstance" q4) [.Name n0 q5,.Name tx q6] [] c2] bp)) rp] Ai] [] [] pos,.Return (Δ (.Constant (.bool Ξ) j2 cp2)) rp2])(lq:dY (jo S i) [.var 0,.var 1] [.Name y0 p0,.Name y1 p1]=Λ)(FC:(aq i.1.st).names.lookup fx=Δ .globalImplicit)(hg:(aq i.1.st).names.lookup y=Δ .globalImplicit)(Mg:(aq i.1.st).names.lookup ("isinstance":Str)=Δ .globalImplicit)(Oq:(aq i.1.st).names.lookup x=Δ .globalImplicit)(Jv:(aq i.1.st).names.lookup tx=Δ .globalImplicit)(hlo:(aq i.1.st).names.lookup n0=Δ .local)(hix:i.1.N[ix]?=Δ n0)(hx:U1 K (.ref C) (.ref U)=Δ Λ)(hm:mg y=Δ (.ref U))(Ot:mg x=Δ (.ref C))(Mh:mg "isinstance"=Θ)(Ou:mg tx=Θ)(J4:R5 tx=Δ (.type tn))(i1:RE K (.ref C) (.ref C)=Δ Λ)(i2:RE K (.ref C) (.type tn)=Δ Λ)(hd:(y==("__debug__":Str))=Ξ:=by decide)(xQ:(fx==("__debug__":Str))=Ξ:=by decide)(FE:(x==("__debug__":Str))=Ξ:=by decide)(Ov:(tx==("__debug__":Str))=Ξ:=by decide)(Fu:tx≠"__name__":=by decide)(Mi:(n0==("__debug__":Str))=Ξ:=by decide)(iR:(n0==("__classdict__":Str))=Ξ:=by decide):
  cz P w K mg base ju (lv (n+1)) (a k) (fd k) i.1.ps (qV (gj S K base tabs) (callC S.Fs (n+1) k) i.1.F.np):=by
 obtain⟨⟨x1,F⟩,_,hb,sc,_⟩:=T.fn k i hi;obtain⟨⟨x2,FW⟩,Pe,Pf,_,_⟩:=T.fn kW iW Pd;refine rn (k:=lv n+2) F sc (λvs H Q E h=>?_) (λA outer s H vs Q E hr h=>?_);·obtain⟨m,Z,qs,st,hl,_⟩:=h;rw[hl,D6]
 obtain⟨m,Z,qs,st,hl,rq,as,aJ⟩:=h;have hu:(A.deeper (SU i.1.name (aq i.1.st) s.heap.objs.size (a k) (fd k).code)).units+100 < cLine:=by have:=hr.un;lia
 have G:=jr (CX:=ju) (outer:=outer) (H:=H) (E:=E) T D L sc (hr.mono (Q1 _)) hu;have eg:jo S i={N:=i.1.N,names:=(aq i.1.st).names,fns:=S.fns,cV:=S.cs,tabs:=S.ts,lN:=S.lN,mr:=S.mr,mv:=S.mv}:=by unfold jo;rw[h2]
 rw[eg] at lq;have ek:=TX.GY hi;obtain⟨q2,d,ea,er,hh,_⟩:=eY ek wD aJ;obtain⟨Z0,ht⟩:=gd (X:=(kF ju P w K mg base i.1.N i.1.name (aq i.1.st) (a k) (fd k).code A outer s H E).oI) (kt:=GZ S base tabs) (kb:=gj S K base tabs) K8 rq as rfl rfl (λ_ _ _ _ z=>z) rfl ea er hh;rw[K3] at ht;rw[e7];have G4:=(cg (C:=callC S.Fs n) [.var 0,.var 1]).1 _ _ _ [.Name y0 p0,.Name y1 p1] Z0 G.toGood lq;refine⟨_,dS (yg (C:=C) (Y:=U) (k:=lv n+2) (ix:=ix) (tn:=tn) rfl rfl W hr FC (Lc▸Pe hf) FW.kp Pf G4 hx hm hg sc.nd hix hlo Mg Mh Oq Ot Jv Ou J4 i1 i2 hd xQ FE Ov Fu Mi iR) (dS (mK wo) iu),?_⟩;exact xi ht
end
end Y
namespace Y
open PySem
variable{Fs:List Fn}
@[simp] theorem Lk st x:fg st (.d x)=Θ:=rfl
@[simp] theorem Hi st x:fg st (.fb x)=Θ:=rfl
@[simp] theorem Mu xs:pO (.lst xs)=Ξ:=rfl
@[simp] theorem Pg kvs:pO (.dK kvs)=Λ:=rfl
@[simp] theorem yJ{α:Type}(f:α->D):∀xs:List α,be (xs.map λx=>P.d (f x))=Δ (xs.map f)
 |[]=>rfl|x::xs=>by simp[be,Co,yJ f xs]
@[simp] theorem oa:∀xs,be (xs.map P.d)=Δ xs
 |[]=>rfl|x::xs=>by simp[be,Co,oa xs]
theorem qg{G:P->cB}{f:D->D}:∀{xs:List D},(∀x∈xs,c (G (.d x)) st=.ok Λ st)->(∀x∈xs,e (G (.d x)) st=.ok (.d (f x)) st)->cK G c e (xs.map .d) st=.ok (xs.map λx=>.d (f x)) st
 |[],_,_=>rfl|x::xs,h,k=>by have ih:=qg (G:=G) (c:=c) (e:=e) (st:=st) (f:=f) (xs:=xs) (λy hy=>h y (P6 _ hy)) λy hy=>k y (P6 _ hy);simp only[QD];rw[jj,h x P7,ax,if_pos rfl,k x P7,ax,ih,ax]
theorem j9{G:P->cB}{f:D->D}:∀{xs:List D},(∀x∈xs,c (G (.d x)) st=.ok (p x) st)->(∀x∈xs,e (G (.d x)) st=.ok (.d (f x)) st)->
  cK G c e (xs.map .d) st=.ok ((xs.filter p).map λx=>.d (f x)) st
 |[],_,_=>rfl|x::xs,h,k=>by have ih:=j9 (G:=G) (c:=c) (e:=e) (st:=st) (f:=f) (p:=p) (xs:=xs) (λy hy=>h y (P6 _ hy)) λy hy=>k y (P6 _ hy);simp only[QD];rw[jj,h x P7,ax];cases hp:p x with|true=>rw[if_pos rfl,k x P7,ax,ih,ax,Sl hp,QD]|false=>rw[if_neg (by simp),ih,Sm (by simp[hp])]
theorem yK{xs:List D}{f:D->D}(hw:cu C w r st=.ok (xs.map .d) st1)(hl:xs.length<=aB)(he:∀x∈xs,aa C e (Δ (.d x)::cy js r) st1=.ok (.d (f x)) st1):bR C (.comp w 1 js Θ e) r st=.ok (xs.map λx=>.d (f x)) st1:=by rw[ji,hw,ax,if_pos ⟨rfl,by simpa using hl⟩];exact qg (λx _=>rfl) he
theorem rA{xs:List D}{f:D->D}(hw:cu C w r st=.ok (xs.map .d) st1)(hl:xs.length<=aB)(hc:∀x∈xs,aa C c (Δ (.d x)::cy js r) st1=.ok (.d (.bl (p x))) st1)(he:∀x∈xs,aa C e (Δ (.d x)::cy js r) st1=.ok (.d (f x)) st1):bR C (.comp w 1 js (Δ c) e) r st=.ok ((xs.filter p).map λx=>.d (f x)) st1:=by rw[ji,hw,ax,if_pos ⟨rfl,by simpa using hl⟩];exact j9 (λx hx=>by rw[nz,hc x hx];rfl) he
def A8:P->Bool
 |.obj _=>Ξ|.lf _=>Ξ|.fn _ bx=>cx bx|_=>Λ
theorem oi:∀{ps},ps.all A8=Λ->eI st ps=Δ ps/\ps.any isObj=Ξ
 |[],_=>⟨rfl,rfl⟩|p::ps,h=>by rw[Rc,PZ] at h;obtain⟨i1,i2⟩:=oi (st:=st) h.2;cases p with|obj n=>cases h.1|lf n=>cases h.1|d x=>exact⟨by simp[eI,qK,iO,i1],by simp[isObj,i2]⟩|fb ns=>exact⟨by simp[eI,qK,i1],by simp[isObj,i2]⟩|fn k bx=>exact⟨by simp[eI,qK,i1,show cx bx=Λ from h.1],by simp[isObj,i2]⟩
theorem call_of(hF:Fs[k]?=Δ F)(hp:ps.all A8=Λ)(hr:oZ (callC Fs n) F ps=Δ d)(wD:F.sh=Ξ:=by rfl):callC Fs (n+1) k ps st=.ok (.d d) st:=by obtain⟨a1,a2⟩:=oi (st:=st) hp;rw[jk,hF];simp only[wD,a1,hr,nE,a2,U3,Rj,if_false]
theorem bc(hl:ps.length=F.np)(he:aw C F.body (af F.nn ps) []=.ok (.rt p) st)(hf:iO st p=Δ d):oZ C F ps=Δ d:=by unfold oZ;rw[if_pos hl,he];exact hf
theorem xj{r:cB}:∀{xs:List D} {u},(∀x∈xs,b (r.set i (Δ (.d x))) st=if f x=Λ then .ok (.nx (r.set i (Δ (.d x)))) st else .ok (.rt v) st)->
  ∃u2,forL (rX (.nm i)) b (xs.map .d) (r.set i u) st=if xs.all f=Λ then .ok (.nx (r.set i u2)) st else .ok (.rt v) st
 |[],u,_=>⟨u,rfl⟩|x::xs,u,h=>by obtain⟨u2,ih⟩:=xj (i:=i) (r:=r) (st:=st) (f:=f) (v:=v) (b:=b) (xs:=xs) (u:=Δ (.d x)) λy hy=>h y (P6 _ hy);refine⟨u2,?_⟩;rw[QD,pW,rX,dh,ax,List.set_set,h x P7];cases hf:f x with|true=>rw[if_pos rfl,ax,Rc,hf,Bool.true_and];exact ih|false=>rw[if_neg (by simp),ax,Rc,hf,U3,if_neg (by simp)]
class Kf (α β:Type) where
 f:α->aR->R β
def aY{α β:Type}(a:R α)[k:Kf α β]:R β:=a.bind k.f
@[simp] theorem Ll{α β:Type}(a:α)st(f:α->aR->R β):aY (.ok a st) (k:=⟨f⟩)=f a st:=rfl
section
variable{C:Nat->List P->aR->R P}{r:cB}{st:aR}
@[simp] theorem vY i:aa C (.var i) r st=R.of (r[i]?).join st:=rfl
@[simp] theorem Mv o a b:aa C (.op o a b) r st=aY (aa C a r st) (k:=⟨λx st1=>aY (aa C b r st1) (k:=⟨λy aF=>R.of (As o x y aF) aF⟩)⟩):=rfl
@[simp] theorem Lm a:aa C (.neg a) r st=aY (aa C a r st) (k:=⟨λx st1=>match x with|.d (.int i)=>.ok (.d (.int (-i))) st1|_=>.no⟩):=rfl
@[simp] theorem Ln a:aa C (.not a) r st=aY (aa C a r st) (k:=⟨λx st1=>aY (R.of (iP st1 x) st1) (k:=⟨λb aF=>.ok (.d (.bl (!b))) aF⟩)⟩):=rfl
@[simp] theorem Lo o a b:aa C (.cmp o a b) r st=aY (aa C a r st) (k:=⟨λx st1=>aY (aa C b r st1) (k:=⟨λy aF=>aY (R.of (gL o x y aF) aF) (k:=⟨λb cq=>.ok (.d (.bl b)) cq⟩)⟩)⟩):=rfl
@[simp] theorem Hj o o' a b c:aa C (.chain o o' a b c) r st=aY (aa C a r st) (k:=⟨λx st1=>aY (aa C b r st1) (k:=⟨λy aF=>aY (R.of (gL o x y aF) aF) (k:=⟨λk cq=>if k then aY (aa C c r cq) (k:=⟨λz jv=>aY (R.of (gL o' y z jv) jv) (k:=⟨λb uI=>.ok (.d (.bl b)) uI⟩)⟩) else .ok (.d (.bl Ξ)) cq⟩)⟩)⟩):=rfl
@[simp] theorem Lp c a b:aa C (.ite c a b) r st=aY (aa C c r st) (k:=⟨λx st1=>aY (R.of (iP st1 x) st1) (k:=⟨λk aF=>if k then aa C a r aF else aa C b r aF⟩)⟩):=rfl
@[simp] theorem Lq es:aa C (.tup es) r st=aY (aD C es r st) (k:=⟨λps st1=>if ps.length<=aB then aY (R.of (be ps) st1) (k:=⟨λxs aF=>.ok (.d (.tup xs)) aF⟩) else .no⟩):=rfl
theorem rB l:aa C (.lst Ξ l) r st=(bR C l r st).bind λps st1=>(R.of (be ps) st1).bind λxs aF=>.ok (.d (.pl xs)) aF:=rfl
@[simp] theorem HS l:aa C (.lst Ξ l) r st=aY (bR C l r st) (k:=⟨λps st1=>aY (R.of (be ps) st1) (k:=⟨λxs aF=>.ok (.d (.pl xs)) aF⟩)⟩):=rB l
@[simp] theorem HU f es:aa C (.call f es) r st=aY (aD C es r st) (k:=⟨λps st1=>C f ps st1⟩):=rfl
@[simp] theorem Lr a T:aa C (.oF a T) r st=aY (aa C a r st) (k:=⟨λx st1=>aY (R.of (Cp x st1) st1) (k:=⟨λt aF=>.ok (.d (.bl (bO t T))) aF⟩)⟩):=rfl
@[simp] theorem Mw f es:aa C (.bf f es) r st=aY (aD C es r st) (k:=⟨λps st1=>R.of (Bw f ps st1) st1⟩):=rfl
@[simp] theorem Mx a b:aa C (.ix a b) r st=aY (aa C a r st) (k:=⟨λx st1=>aY (aa C b r st1) (k:=⟨λy aF=>R.of (FH x y aF) aF⟩)⟩):=rfl
@[simp] theorem Hk a lo hi:aa C (.slice a lo hi) r st=aY (aa C a r st) (k:=⟨λx st1=>aY (fh C lo r st1) (k:=⟨λl aF=>aY (fh C hi r aF) (k:=⟨λh cq=>R.of (jd x l h cq) cq⟩)⟩)⟩):=rfl
@[simp] theorem Ls a:aa C (.rev a) r st=aY (aa C a r st) (k:=⟨λx st1=>match x with|.d (.tup xs)=>.ok (.d (.tup xs.reverse)) st1|_=>.no⟩):=rfl
@[simp] theorem HV t a:aa C (.vo t a) r st=aY (aa C a r st) (k:=⟨λx st1=>match x with|.d (.str k)=>.ok (.d (match lG t k with|some i=>.int i|none=>.bu)) st1|_=>.no⟩):=rfl
@[simp] theorem HW es:bR C (.jx es) r st=aY (aD C es r st) (k:=⟨λps st1=>aY (R.of (qM ps) st1) (k:=⟨λqs aF=>if qs.length<=aB then .ok qs aF else .no⟩)⟩):=rfl
@[simp] theorem HX a b:bR C (.zip a b) r st=aY (aa C a r st) (k:=⟨λx st1=>aY (aa C b r st1) (k:=⟨λy aF=>aY (R.of (Cr x y) aF) (k:=⟨λzs cq=>.ok (zs.map .d) cq⟩)⟩)⟩):=rfl
@[simp] theorem Ea e js c ee:bR C (.cj e js c ee) r st=aY (aa C e r st) (k:=⟨λx st1=>match x with|.obj n=>cj n (λp=>Δ p::cy js r) (bI C c) (λr' bw=>aa C ee r' bw) aB 0 st1|_=>.no⟩):=rfl
@[simp] theorem Hl e:fh C (Δ e) r st=aY (aa C e r st) (k:=⟨λx st1=>.ok (Δ x) st1⟩):=rfl
@[simp] theorem Hm e es:aD C (e::es) r st=aY (aa C e r st) (k:=⟨λx st1=>aY (aD C es r st1) (k:=⟨λxs aF=>.ok (x::xs) aF⟩)⟩):=rfl
@[simp] theorem HY e e' es:dW C (e::e'::es) r st=aY (aa C e r st) (k:=⟨λx st1=>match x with|.d (.bl b)=>if b then dW C (e'::es) r st1 else .ok (.d (.bl Ξ)) st1|_=>.no⟩):=rfl
@[simp] theorem HZ e e' es:dX C (e::e'::es) r st=aY (aa C e r st) (k:=⟨λx st1=>match x with|.d (.bl b)=>if b then .ok (.d (.bl Λ)) st1 else dX C (e'::es) r st1|_=>.no⟩):=rfl
@[simp] theorem Hn es:bR C (.fe es) r st=aY (aD C es r st) (k:=⟨λps st1=>if ps.length<=aB then .ok ps st1 else .no⟩):=rfl
@[simp] theorem Ho e:bR C (.list e) r st=aY (aa C e r st) (k:=⟨λx st1=>R.of (ff st1 x) st1⟩):=rfl
@[simp] theorem Lu e:cu C (.ex e) r st=aY (aa C e r st) (k:=⟨λx st1=>R.of (kQ x) st1⟩):=rfl
@[simp] theorem Ia es:cu C (.jx es) r st=aY (aD C es r st) (k:=⟨λps st1=>R.of (qM ps) st1⟩):=rfl
@[simp] theorem Hq e:cu C (.enum e) r st=aY (aa C e r st) (k:=⟨λx st1=>match x with|.d (.tup xs)=>.ok (hG 0 xs) st1|_=>.no⟩):=rfl
@[simp] theorem Eb o i j:As o (.d (.int i)) (.d (.int j)) st=(lY o i j).map λk=>.d (.int k):=by cases o<;>rfl
@[simp] theorem op_tt xs ys:As .add (.d (.tup xs)) (.d (.tup ys)) st=if xs.length+ys.length<=aB then Δ (.d (.tup (xs++ys))) else Θ:=rfl
@[simp] theorem op_ss x y:As .add (.d (.str x)) (.d (.str y)) st=if x.length+y.length<=aB then Δ (.d (.str (x++y))) else Θ:=rfl
theorem Lv xs k:As .mul (.d (.tup xs)) (.d (.int k)) st=if k=1 then Δ (.d (.tup xs)) else if k=2/\0 < xs.length/\xs.length<=100000 then Δ (.d (.tup (xs++xs))) else if k=3/\0 < xs.length/\xs.length<=100000 then Δ (.d (.tup (xs++xs++xs))) else Θ:=rfl
@[simp] theorem op_t2 xs:As .mul (.d (.tup xs)) (.d (.int 2)) st=if 0 < xs.length/\xs.length<=100000 then Δ (.d (.tup (xs++xs))) else Θ:=by rw[Lv];simp
@[simp] theorem Lw xs ys:As .add (.d (.pl xs)) (.d (.pl ys)) st=if xs.length+ys.length<=aB then Δ (.d (.pl (xs++ys))) else Θ:=by
 have e:be (xs.map P.d++ys.map P.d)=Δ (xs++ys):=by rw[<-List.map_append,oa]
 show(be (xs.map P.d++ys.map P.d)).bind _=_;rw[e,<-Qp];rfl
@[simp] theorem Di i j:lY .add i j=Δ (i+j):=rfl
@[simp] theorem My i j:lY .sub i j=Δ (i - j):=rfl
theorem fH(h:(-jR < i/\i < jR)\/(-jR < j/\j < jR)):lY .mul i j=Δ (i*j):=by unfold lY;simp only[if_pos h]
theorem ba(h:0 < j):lY .mod i j=Δ (i % j):=by unfold lY;simp only[if_pos h]
theorem bV(h:0 < j/\j < 1073741824):lY .fdiv i j=Δ (i / j):=by unfold lY;simp only[if_pos h]
@[simp] theorem Ph b:iP st (.d (.bl b))=Δ b:=rfl
@[simp] theorem Pj:Cp (.d .bu) st=Δ "NoneType":=rfl
@[simp] theorem ty_bl b:Cp (.d (.bl b)) st=Δ "bool":=rfl
@[simp] theorem ty_int b:Cp (.d (.int b)) st=Δ "int":=rfl
@[simp] theorem ty_str b:Cp (.d (.str b)) st=Δ "str":=rfl
@[simp] theorem Pk b:Cp (.d (.tup b)) st=Δ "tuple":=rfl
@[simp] theorem ty_pl b:Cp (.d (.pl b)) st=Δ "list":=rfl
@[simp] theorem Pm i j:gL .lt (.d (.int i)) (.d (.int j)) st=Δ (decide (i < j)):=rfl
@[simp] theorem Pn i j:gL .le (.d (.int i)) (.d (.int j)) st=Δ (decide (i<=j)):=rfl
@[simp] theorem cmp_gt i j:gL .gt (.d (.int i)) (.d (.int j)) st=Δ (decide (j < i)):=rfl
@[simp] theorem Po i j:gL .ge (.d (.int i)) (.d (.int j)) st=Δ (decide (j<=i)):=rfl
@[simp] theorem Hr x y:gL .eq (.d x) (.d y) st=pN x y:=rfl
@[simp] theorem Pp x y:gL .ne (.d x) (.d y) st=(pN x y).map not:=rfl
@[simp] theorem Mz x y:pN (.str x) (.str y)=Δ (x==y):=rfl
@[simp] theorem Dj x y:pN (.int x) (.int y)=Δ (x==y):=rfl
@[simp] theorem Pq x y:pN (.bl x) (.bl y)=Δ (x==y):=rfl
@[simp] theorem Pr y:pN .bu (.int y)=Δ Ξ:=rfl
@[simp] theorem Pt xs:pN (.tup xs) (.tup [])=Δ xs.isEmpty:=by have h:min (nj (.tup xs)) (nj (.tup []))<=100:=QJ (Sj _ _) (by decide);unfold pN;rw[if_pos h];cases xs<;>rfl
@[simp] theorem Pu xs:pN (.pl xs) (.pl [])=Δ xs.isEmpty:=by have h:min (nj (.pl xs)) (nj (.pl []))<=100:=QJ (Sj _ _) (by decide);unfold pN;rw[if_pos h];cases xs<;>rfl
@[simp] theorem MA xs:Bw .len [.d (.tup xs)] st=Δ (.d (.int xs.length)):=congrArg (λn:Nat=>Δ (P.d (.int n))) (Qv ..)
@[simp] theorem MB ns:Bw .len [.fb ns] st=Δ (.d (.int ns.length)):=congrArg (λn:Nat=>Δ (P.d (.int n))) (Qv ..)
theorem rD:oE (xs.map f) i=(oE xs i).map f:=by unfold oE;rw[Qv];cases xI xs.length i with|none=>rfl|some k=>exact QA ..
@[simp] theorem ix_t xs i:FH (.d (.tup xs)) (.d (.int i)) st=(oE xs i).map .d:=by exact rD
@[simp] theorem Pw xs i:FH (.d (.pl xs)) (.d (.int i)) st=(oE xs i).map .d:=by exact rD
@[simp] theorem ix_s ns i:FH (.fb ns) (.d (.int i)) st=(oE ns i).map λk=>.d (.int k):=by exact rD
@[simp] theorem dit_t xs:kQ (.d (.tup xs))=Δ (xs.map .d):=rfl
@[simp] theorem dit_l xs:kQ (.d (.pl xs))=Δ (xs.map .d):=rfl
@[simp] theorem sit_t xs:ff st (.d (.tup xs))=Δ (xs.map .d):=rfl
@[simp] theorem sit_l xs:ff st (.d (.pl xs))=Δ (xs.map .d):=rfl
@[simp] theorem sl_t xs lo hi:jd (.d (.tup xs)) lo hi st=(jT lo).bind λl=>(jT hi).map λh=>.d (.tup (eD xs l h)):=by unfold jd;cases jT lo<;>simp;cases jT hi<;>simp
@[simp] theorem Ib:jT Θ=Δ Θ:=rfl
@[simp] theorem Lx i:jT (Δ (.d (.int i)))=Δ (Δ i):=rfl
@[simp] theorem Dk x ps:be (.d x::ps)=(be ps).map λxs=>x::xs:=rfl
@[simp] theorem Hs:be []=Δ []:=rfl
theorem mH{α:Type}{xs:List α}{k:Nat}{a:α}(h:xs[k]?=Δ a):oE xs (k:Int)=Δ a:=by have hk:=(qqz h).1;unfold oE xI;rw[if_pos (by lia),if_pos (by lia)];simpa using h
@[simp] theorem atI0{α:Type}(a:α)xs:oE (a::xs) 0=Δ a:=mH (k:=0) rfl
@[simp] theorem atI1{α:Type}(a b:α)xs:oE (a::b::xs) 1=Δ b:=mH (k:=1) rfl
theorem az(h:bg C s r st=.ok (.nx r1) st1)(k:aw C rest r1 st1=res):aw C (s::rest) r st=res:=by rw[cX,h,ax];exact k
theorem ak(h:bg C s r st=.ok (.rt v) st1):aw C (s::rest) r st=.ok (.rt v) st1:=by rw[cX,h,ax]
theorem aG:aw C [] r st=.ok (.nx r) st:=by rw[nC]
theorem aS(h:aa C e r st=.ok v st1):bg C (.ret e) r st=.ok (.rt v) st1:=by rw[iw,h,ax]
theorem cZ(h:aa C e r st=.ok v st1):bg C (.set i e) r st=.ok (.nx (r.set i (Δ v))) st1:=by rw[kU,h,ax]
theorem bX(hc:aa C c r st=.ok (.d (.bl Λ)) st1)(h:aw C a r st1=res):bg C (.ifs c a b) r st=res:=by rw[iy,bK,hc];simpa using h
theorem bM(hc:aa C c r st=.ok (.d (.bl Ξ)) st1)(h:aw C b r st1=res):bg C (.ifs c a b) r st=res:=by rw[iy,bK,hc];simpa using h
theorem A9(hw:cu C w r st=.ok ps st1)(h:forL (rX t) (aw C b) ps r st1=res):bg C (.oX t w b) r st=res:=by rw[nA,hw,ax];exact h
end
end Y
namespace Y
open PySem
section
variable{C:Nat->List P->aR->R P}{r:cB}{st:aR}
end
end Y
namespace Ic
open PySem Y
noncomputable def cH:List (Str×Int):=[("none",0),("empty",0),("any",0),("then",2),("or",2),("and",2),("not",1),("many",1)]
def b0:Fn:={np:=2,nn:=2,body:=[.ret (.and [.oF (.var 0) "int",.not (.oF (.var 0) "bool"),.chain .le .lt (.cst (.int 0)) (.var 0) (.var 1)])]}
def aV:Fn:={np:=2,nn:=2,body:=[.ifs (.or [.not (.oF (.var 0) "tuple"),.cmp .eq (.bf .len [.var 0]) (.cst (.int 0)),.not (.oF (.ix (.var 0) (.cst (.int 0))) "str")]) [.ret (.cst (.bl Ξ))] [],
  .ifs (.cmp .eq (.ix (.var 0) (.cst (.int 0))) (.cst (.str "letter"))) [.ret (.and [.cmp .eq (.bf .len [.var 0]) (.cst (.int 2)),.call 0 [.ix (.var 0) (.cst (.int 1)),.var 1]])] [],
  .ret (.cmp .eq (.vo cH (.ix (.var 0) (.cst (.int 0)))) (.op .sub (.bf .len [.var 0]) (.cst (.int 1))))]}
def fm:Fn:={np:=1,nn:=1,body:=[.ret (.ite (.cmp .eq (.ix (.var 0) (.cst (.int 0))) (.cst (.str "letter"))) (.tup []) (.slice (.var 0) (Δ (.cst (.int 1))) Θ))]}
noncomputable def dG:List S:=[.ifs (.not (.call 3 [.var 3,.var 1,.op .add (.var 2) (.cst (.int 1))])) [.ret (.cst (.bl Ξ))] []]
def bE:Fn:={np:=3,nn:=4,body:=[.ifs (.or [.cmp .gt (.var 2) (.cst (.int 40)),.not (.call 1 [.var 0,.var 1])]) [.ret (.cst (.bl Ξ))] [],
  .oX (.nm 3) (.ex (.call 2 [.var 0])) dG,
  .ret (.cst (.bl Λ))]}
def eR:Fn:={np:=2,nn:=2,body:=[.ret (.call 3 [.var 0,.var 1,.cst (.int 0)])]}
def gf:Fn:={np:=1,nn:=1,body:=[.ifs (.cmp .eq (.ix (.var 0) (.cst (.int 0))) (.cst (.str "letter"))) [.ret (.join (.cst (.str " ")) (.lst Ξ (.fe [.cst (.str "letter"),.bf .str [.ix (.var 0) (.cst (.int 1))]])))] [],
  .ret (.join (.cst (.str " ")) (.op .add (.lst Ξ (.fe [.ix (.var 0) (.cst (.int 0))])) (.lst Ξ (.comp (.ex (.slice (.var 0) (Δ (.cst (.int 1))) Θ)) 1 [] Θ (.call 5 [.var 0])))))]}
def gg:Fn:={np:=2,nn:=2,body:=[.ifs (.not (.call 4 [.var 0,.var 1])) [.raise] [],
  .ret (.call 5 [.var 0])]}
def cm:Fn:={np:=2,nn:=2,body:=[.ifs (.cmp .lt (.var 1) (.bf .len [.var 0])) [.ret (.ix (.var 0) (.var 1))] [],
  .ret (.cst (.int 0))]}
def dn:Fn:={np:=2,nn:=3,body:=[.set 2 (.op .mod (.op .mul (.op .add (.op .add (.call 7 [.var 0,.var 1]) (.op .mul (.cst (.int 7919)) (.var 1))) (.cst (.int 1))) (.cst (.int 48271))) (.cst (.int 2147483647))),
  .ret (.op .mod (.op .add (.op .add (.op .mul (.var 2) (.var 2)) (.op .mul (.cst (.int 7)) (.var 2))) (.var 1)) (.cst (.int 2147483629)))]}
def dq:Fn:={np:=2,nn:=3,body:=[.set 2 (.op .mod (.op .mul (.op .add (.op .add (.var 0) (.op .mul (.cst (.int 104729)) (.var 1))) (.cst (.int 17))) (.cst (.int 69621))) (.cst (.int 2147483647))),
  .ret (.op .mod (.op .add (.op .add (.op .mul (.var 2) (.var 2)) (.op .mul (.cst (.int 3)) (.var 2))) (.var 1)) (.cst (.int 2147483629)))]}
def b7:Fn:={np:=2,nn:=3,body:=[.set 2 (.op .mod (.var 0) (.cst (.int 12))),
  .ifs (.cmp .lt (.var 2) (.cst (.int 8))) [.ret (.tup [.cst (.str "letter"),.op .mod (.op .fdiv (.var 0) (.cst (.int 12))) (.var 1)])] [],
  .ret (.ix (.lst Ξ (.fe [.tup [.cst (.str "any")],.tup [.cst (.str "empty")],.tup [.cst (.str "none")],.tup [.cst (.str "any")]])) (.op .sub (.var 2) (.cst (.int 8))))]}
def bA:Fn:={np:=3,nn:=6,body:=[.set 3 (.op .mod (.var 0) (.cst (.int 9))),
  .ifs (.or [.cmp .eq (.var 2) (.cst (.int 0)),.cmp .eq (.var 3) (.cst (.int 0))]) [.ret (.call 10 [.op .fdiv (.var 0) (.cst (.int 9)),.var 1])] [],
  .set 4 (.call 11 [.call 9 [.var 0,.cst (.int 1)],.var 1,.op .sub (.var 2) (.cst (.int 1))]),
  .ifs (.cmp .eq (.var 3) (.cst (.int 1))) [.ret (.tup [.cst (.str "not"),.var 4])] [],
  .ifs (.cmp .lt (.var 3) (.cst (.int 4))) [.ret (.tup [.cst (.str "many"),.var 4])] [],
  .set 5 (.call 11 [.call 9 [.var 0,.cst (.int 2)],.var 1,.op .sub (.var 2) (.cst (.int 1))]),
  .ret (.tup [.ix (.lst Ξ (.fe [.cst (.str "then"),.cst (.str "then"),.cst (.str "or"),.cst (.str "or"),.cst (.str "and")])) (.op .sub (.var 3) (.cst (.int 4))),.var 4,.var 5])]}
def bW:Fn:={np:=2,nn:=4,body:=[.set 2 (.call 11 [.call 9 [.var 0,.cst (.int 3)],.var 1,.cst (.int 2)]),
  .set 3 (.op .mod (.var 0) (.cst (.int 5))),
  .ifs (.cmp .lt (.var 3) (.cst (.int 2))) [.ret (.var 2)] [],
  .ifs (.cmp .eq (.var 3) (.cst (.int 2))) [.ret (.tup [.cst (.str "not"),.var 2])] [],
  .ret (.tup [.ix (.lst Ξ (.fe [.cst (.str "or"),.cst (.str "and")])) (.op .sub (.var 3) (.cst (.int 3))),.var 2,.call 11 [.call 9 [.var 0,.cst (.int 4)],.var 1,.cst (.int 2)]])]}
def cD:Fn:={np:=2,nn:=2,body:=[.ret (.and [.oF (.var 0) "int",.not (.oF (.var 0) "bool"),.chain .le .le (.cst (.int 0)) (.var 0) (.var 1)])]}
def ah:Fn:={np:=3,nn:=3,body:=[.ifs (.or [.cmp .gt (.var 2) (.cst (.int 40)),.not (.oF (.var 0) "tuple"),.cmp .eq (.var 0) (.tup []),.not (.oF (.ix (.var 0) (.cst (.int 0))) "str")]) [.ret (.cst (.bl Ξ))] [],
  .ifs (.cmp .isin (.ix (.var 0) (.cst (.int 0))) (.tup [.cst (.str "none"),.cst (.str "empty"),.cst (.str "any")])) [.ret (.cmp .eq (.bf .len [.var 0]) (.cst (.int 1)))] [],
  .ifs (.cmp .eq (.ix (.var 0) (.cst (.int 0))) (.cst (.str "letter"))) [.ret (.and [.cmp .eq (.bf .len [.var 0]) (.cst (.int 2)),.call 13 [.ix (.var 0) (.cst (.int 1)),.op .sub (.var 1) (.cst (.int 1))]])] [],
  .ifs (.or [.and [.cmp .eq (.bf .len [.var 0]) (.cst (.int 2)),.cmp .isin (.ix (.var 0) (.cst (.int 0))) (.tup [.cst (.str "not"),.cst (.str "many")])],.and [.cmp .eq (.bf .len [.var 0]) (.cst (.int 3)),.cmp .isin (.ix (.var 0) (.cst (.int 0))) (.tup [.cst (.str "then"),.cst (.str "or"),.cst (.str "and")])]]) [.ret (.cmp .eq (.lst Ξ (.comp (.ex (.slice (.var 0) (Δ (.cst (.int 1))) Θ)) 1 [1,2] (Δ (.not (.call 14 [.var 0,.var 1,.op .add (.var 2) (.cst (.int 1))]))) (.var 0))) (.lst Ξ (.fe [])))] [],
  .ret (.cst (.bl Ξ))]}
def fu:Fn:={np:=1,nn:=2,body:=[.set 1 (.lst Ξ (.fe [.neg (.cst (.int 1)),.cst (.int 0),.cst (.int 1),.cst (.int 2),.cst (.int 3),.cst (.bl Λ),.cst (.bl Ξ),.cst .bu,.cst (.str ""),.cst (.str "a"),.cst (.str "none"),.cst (.str "empty"),.cst (.str "any"),.cst (.str "then"),.cst (.str "not"),.tup [],.lst Ξ (.fe []),.tup [.cst (.int 0)],.tup [.cst (.int 1),.tup [.cst (.int 0)]]])),
  .ret (.ix (.op .add (.var 1) (.lst Ξ (.fe [.tup [.cst (.str "none")],.tup [.cst (.str "letter"),.cst (.int 0)],.tup [.cst (.str "letter"),.cst (.bl Λ)],.tup [.cst (.str "any"),.cst (.int 0)],.tup [.cst (.str "not")]]))) (.op .mod (.var 0) (.cst (.int 24))))]}
def au:Fn:={np:=3,nn:=5,body:=[.ifs (.and [.cmp .gt (.var 2) (.cst (.int 0)),.oF (.var 0) "tuple",.cmp .gt (.bf .len [.var 0]) (.cst (.int 0)),.cmp .gt (.op .mod (.var 1) (.cst (.int 6))) (.cst (.int 0))]) [.set 3 (.op .mod (.op .fdiv (.var 1) (.cst (.int 6))) (.bf .len [.var 0])),
  .set 4 (.call 16 [.ix (.var 0) (.var 3),.op .fdiv (.op .fdiv (.var 1) (.cst (.int 6))) (.bf .len [.var 0]),.op .sub (.var 2) (.cst (.int 1))]),
  .ret (.op .add (.op .add (.slice (.var 0) Θ (Δ (.var 3))) (.tup [.var 4])) (.slice (.var 0) (Δ (.op .add (.var 3) (.cst (.int 1)))) Θ))] [],
  .ifs (.and [.oF (.var 0) "tuple",.cmp .gt (.bf .len [.var 0]) (.cst (.int 0)),.cmp .eq (.op .mod (.op .fdiv (.var 1) (.cst (.int 6))) (.cst (.int 2))) (.cst (.int 0))]) [.ret (.ix (.lst Ξ (.fe [.lst Ξ (.list (.var 0)),.slice (.var 0) Θ (Δ (.neg (.cst (.int 1)))),.op .add (.var 0) (.slice (.var 0) (Δ (.neg (.cst (.int 1)))) Θ),.slice (.var 0) (Δ (.cst (.int 1))) Θ,.rev (.var 0),.op .mul (.var 0) (.cst (.int 2))])) (.op .mod (.op .fdiv (.var 1) (.cst (.int 12))) (.cst (.int 6))))] [],
  .ifs (.and [.oF (.var 0) "int",.cmp .eq (.op .mod (.op .fdiv (.var 1) (.cst (.int 6))) (.cst (.int 2))) (.cst (.int 0))]) [.ret (.ix (.lst Ξ (.fe [.bf .str [.var 0],.neg (.var 0),.op .add (.var 0) (.cst (.int 1)),.cmp .eq (.var 0) (.cst (.int 1)),.op .add (.var 0) (.cst (.int 2))])) (.op .mod (.op .fdiv (.var 1) (.cst (.int 12))) (.cst (.int 5))))] [],
  .ret (.call 15 [.op .fdiv (.var 1) (.cst (.int 6))])]}
noncomputable def bB:List S:=[.ifs (.oF (.var 2) "tuple") [.set 1 (.op .add (.op .add (.var 1) (.cst (.str " "))) (.call 17 [.var 2]))] [.set 1 (.op .add (.op .add (.var 1) (.cst (.str " "))) (.bf .str [.var 2]))]]
def cM:Fn:={np:=1,nn:=3,body:=[.set 1 (.ix (.var 0) (.cst (.int 0))),
  .oX (.nm 2) (.ex (.slice (.var 0) (Δ (.cst (.int 1))) Θ)) bB,
  .ret (.var 1)]}
def du:Fn:={np:=2,nn:=2,body:=[.ifs (.call 4 [.var 0,.var 1]) [.expr (.call 5 [.var 0]),
  .ret (.cst (.bl Ξ))] [],
  .ret (.cst (.bl Λ))]}
def bP:Fn:={np:=2,nn:=3,body:=[.ifs (.call 4 [.var 0,.var 1]) [.expr (.call 5 [.var 0]),
  .ret (.cst (.bl Ξ))] [],
  .ret (.cst (.bl Λ))]}
def ke:Fn:={np:=1,nn:=4,body:=[.set 1 (.op .add (.cst (.int 1)) (.op .mod (.call 8 [.var 0,.cst (.int 0)]) (.cst (.int 3)))),
  .set 2 (.call 12 [.call 8 [.var 0,.cst (.int 1)],.var 1]),
  .ifs (.cmp .eq (.op .mod (.call 8 [.var 0,.cst (.int 2)]) (.cst (.int 3))) (.cst (.int 1))) [.set 2 (.call 16 [.var 2,.call 8 [.var 0,.cst (.int 3)],.op .mod (.op .fdiv (.call 8 [.var 0,.cst (.int 2)]) (.cst (.int 3))) (.cst (.int 6))])] [],
  .ifs (.not (.call 14 [.var 2,.var 1,.cst (.int 0)])) [.ifs (.cmp .eq (.op .mod (.op .fdiv (.call 8 [.var 0,.cst (.int 2)]) (.cst (.int 18))) (.cst (.int 2))) (.cst (.int 0))) [.ret (.call 18 [.var 2,.var 1])] [],
  .ret (.call 19 [.var 2,.var 1])] [],
  .set 3 (.call 6 [.var 2,.var 1]),
  .ret (.and [.oF (.var 3) "str",.cmp .eq (.var 3) (.call 17 [.var 2]),.cmp .eq (.call 6 [.var 2,.var 1]) (.var 3)])]}
def Fs:List Fn:=[b0,aV,fm,bE,eR,gf,gg,cm,dn,dq,b7,bA,bW,cD,ah,fu,au,cM,du,bP,ke]
theorem jt:Fs[0]?=Δ b0:=rfl
theorem ug:Fs[1]?=Δ aV:=rfl
theorem uh:Fs[2]?=Δ fm:=rfl
theorem el:Fs[3]?=Δ bE:=rfl
theorem o6:Fs[4]?=Δ eR:=rfl
theorem oj:Fs[5]?=Δ gf:=rfl
theorem vZ:Fs[6]?=Δ gg:=rfl
theorem me:Fs[7]?=Δ cm:=rfl
theorem o7:Fs[8]?=Δ dn:=rfl
theorem o8:Fs[9]?=Δ dq:=rfl
theorem kf:Fs[10]?=Δ b7:=rfl
theorem eS:Fs[11]?=Δ bA:=rfl
theorem eG:Fs[12]?=Δ bW:=rfl
theorem om:Fs[13]?=Δ cD:=rfl
theorem fw:Fs[14]?=Δ ah:=rfl
theorem ui:Fs[15]?=Δ fu:=rfl
theorem dv:Fs[16]?=Δ au:=rfl
theorem mf:Fs[17]?=Δ cM:=rfl
theorem mh:Fs[18]?=Δ du:=rfl
theorem gh:Fs[19]?=Δ bP:=rfl
theorem Ht:Fs[20]?=Δ ke:=rfl
noncomputable def oo(x:D)(w:Int):Bool:=match x with|.int i=>decide (0<=i)&&decide (i < w)|_=>Ξ
def rE(w:Int):List D->Bool
 |[k]=>oo k w|_=>Ξ
def ez(w:Int):D->Bool
 |.tup (.str nm::xs)=>if nm="letter" then rE w xs else decide (lG cH nm=Δ (xs.length:Int))|_=>Ξ
def kids:D->List D
 |.tup (.str nm::xs)=>if nm="letter" then[] else xs|_=>[]
def pat:Nat->Int->D->Bool
 |0,_,_=>Ξ|n+1,w,x=>ez w x&&(kids x).all λy=>pat n w y
mutual
def sm:D->Bool
 |.tup xs=>decide (xs.length<=1000)&&Ie xs|_=>Λ
def Ie:List D->Bool
 |[]=>Λ|x::xs=>sm x&&Ie xs
end
theorem xk:∀{xs},Ie xs=Λ->∀x∈xs,sm x=Λ
 |[],_,x,h=>by cases h|y::ys,h,x,hx=>by
  simp only[Ie,PZ] at h;rcases Uu.mp hx with z|z;·rw[z];exact h.1
  ·exact xk h.2 x z
theorem v5{xs:List D}(h:sm (.tup xs)=Λ):xs.length<=1000/\∀x∈xs,sm x=Λ:=by simp only[sm,PZ,qqq] at h;exact⟨h.1,xk h.2⟩
theorem Ba n x w st:callC Fs (n+1) 0 [.d x,.d (.int w)] st=.ok (.d (.bl (oo x w))) st:=by refine call_of jt rfl (bc (p:=.d (.bl (oo x w))) (st:=[]) rfl (ak (aS ?_)) rfl);cases x with|int i=>by_cases h:0<=i<;>simp[b0,af,bO,oo,h]|_=>simp[b0,af,bO,oo]
theorem yL n x w st:callC Fs (n+2) 1 [.d x,.d (.int w)] st=.ok (.d (.bl (ez w x))) st:=by
 refine call_of ug rfl (bc (p:=.d (.bl (ez w x))) (st:=[]) rfl ?_ rfl);have no:∀y:D,(∀xs,y≠.tup xs)->aw (callC Fs (n+1)) aV.body (af aV.nn [.d y,.d (.int w)]) []=.ok (.rt (.d (.bl (ez w y)))) []:=λy hy=>by
  refine ak (bX (st1:=[]) ?_ (ak (aS (by cases y<;>first|rfl|exact absurd rfl (hy _)))));cases y<;>first
   |exact absurd rfl (hy _)
   |simp[af,aV,bO]
 cases x with
 |tup xs=>
  cases xs with
  |nil=>exact ak (bX (st1:=[]) (by simp[af,aV,bO]) (ak (aS (by simp[ez]))))|cons y ys=>
   have h0:¬((ys.length:Int)+1=0):=by omega
   have Px:∀z:D,(∀nm,z≠.str nm)->aw (callC Fs (n+1)) aV.body (af aV.nn [.d (.tup (z::ys)),.d (.int w)]) []=.ok (.rt (.d (.bl (ez w (.tup (z::ys)))))) []:=λz hz=>by
    refine ak (bX (st1:=[]) ?_ (ak (aS (by cases z<;>first|rfl|exact absurd rfl (hz _)))));cases z<;>first
     |exact absurd rfl (hz _)
     |simp[af,aV,bO,h0]
   cases y with
   |str nm=>
    refine az (bM (st1:=[]) (by simp[af,aV,bO,h0]) aG) ?_;by_cases hn:nm="letter"
    ·subst hn;refine ak (bX (st1:=[]) (by simp[af,aV]) (ak (aS ?_)));cases ys with
     |nil=>simp[af,aV,ez,rE]|cons k ks=>
      cases ks with
      |nil=>simp[af,aV,ez,rE,Ba]|cons k2 ks=>
       have h1:¬((ks.length:Int)+1+1+1=2):=by omega
       simp[af,aV,ez,rE,h1]
    ·refine az (bM (st1:=[]) (by simp[af,aV,hn]) aG) ?_;refine ak (aS ?_);cases hk:lG cH nm with
     |none=>simp[af,aV,ez,hn,hk]|some i=>
      have e3:(i==(ys.length:Int))=decide (i=(ys.length:Int)):=by rw[Bool.eq_iff_iff];simp
      simp[af,aV,ez,hn,hk,e3]
   |_=>exact Px _ λ_ z=>nomatch z
 |_=>exact no _ λ_ z=>nomatch z
theorem iG{α:Type}(a:α)xs:eD (a::xs) (Δ 1) Θ=xs:=by
 unfold eD cw;have e1:min (1:Int).toNat (a::xs).length=1:=by simp
 simp only[show ¬((1:Int) < 0) by decide,if_false,e1,List.drop_succ_cons,Uc];rw[List.take_of_length_le (by simp)]
theorem v7 n nm xs st:callC Fs (n+1) 2 [.d (.tup (.str nm::xs))] st=.ok (.d (.tup (kids (.tup (.str nm::xs))))) st:=by
 refine call_of uh rfl (bc (p:=.d (.tup (kids (.tup (.str nm::xs))))) (st:=[]) rfl ?_ rfl);refine ak (aS ?_);by_cases hn:nm="letter";·subst hn;simp[af,fm,kids,aB]
 ·simp[af,fm,kids,hn,iG]
theorem oq(h:ez w x=Λ):∃nm xs,x=.tup (.str nm::xs):=by
 unfold ez at h;split at h;·exact⟨_,_,rfl⟩
 ·cases h
theorem Bb{xs:List D}(h:y∈kids (.tup (.str nm::xs))):y∈xs:=by
 unfold kids at h;simp only at h;split at h;·cases h
 ·exact h
theorem lS w:∀(m:Nat) (o:Int),o+m=41->∀(n) (x) (st),sm x=Λ->callC Fs (n+m+3) 3 [.d x,.d (.int w),.d (.int o)] st=.ok (.d (.bl (pat m w x))) st
 |0,o,ho,n,x,st,hx=>by
  refine call_of el rfl (bc (p:=.d (.bl Ξ)) (st:=[]) rfl ?_ rfl);have h1:(40:Int) < o:=by omega
  exact ak (bX (st1:=[]) (by simp[af,bE,h1]) (ak (aS rfl)))
 |m+1,o,ho,n,x,st,hx=>by
  have h1:¬(40:Int) < o:=by omega
  have ih:=lS w m (o+1) (by omega) n;refine call_of (n:=n+m+3) el rfl (bc (p:=.d (.bl (pat (m+1) w x))) (st:=[]) rfl ?_ rfl);have hf:=yL (n+m+1) x w;cases hF:ez w x with
  |false=>rw[hF] at hf;exact ak (bX (st1:=[]) (by simp[af,bE,h1,hf]) (ak (aS (by simp[pat,hF]))))|true=>
   rw[hF] at hf;obtain⟨nm,xs,rfl⟩:=oq hF;have hk:=v7 (n+m+2) nm xs;have hs:=(v5 hx).2;refine az (bM (st1:=[]) (by simp[af,bE,h1,hf]) aG) ?_;obtain⟨u2,Dl⟩:=xj (i:=3) (r:=[Δ (.d (.tup (.str nm::xs))),Δ (.d (.int w)),Δ (.d (.int o)),Θ]) (u:=Θ) (st:=[]) (f:=λy=>pat m w y) (v:=.d (.bl Ξ)) (xs:=kids (.tup (.str nm::xs)))
    (b:=aw (callC Fs (n+m+3)) dG) (λy hy=>by
     have i1:=ih y [] (hs y (P6 _ (Bb hy)));cases hp:pat m w y with
     |true=>rw[hp] at i1;exact az (bM (st1:=[]) (by simp[i1]) aG) aG
     |false=>rw[hp] at i1;exact ak (bX (st1:=[]) (by simp[i1]) (ak (aS (by simp)))))
   have hw:∀st,cu (callC Fs (n+m+3)) (.ex (.call 2 [.var 0])) [Δ (.d (.tup (.str nm::xs))),Δ (.d (.int w)),Δ (.d (.int o)),Θ] st=.ok ((kids (.tup (.str nm::xs))).map .d) st:=λst=>by simp[hk]
   cases oN:(kids (.tup (.str nm::xs))).all (λy=>pat m w y) with|true=>rw[oN] at Dl;exact az (A9 (hw []) Dl) (ak (aS (by simp[pat,hF,oN])))|false=>rw[oN] at Dl;refine(ak (A9 (hw []) Dl)).trans ?_;simp[pat,hF,oN]
theorem gF n x w(hx:sm x=Λ)st:callC Fs (n+45) 4 [.d x,.d (.int w)] st=.ok (.d (.bl (pat 41 w x))) st:=by
 refine call_of o6 rfl (bc (p:=.d (.bl (pat 41 w x))) (st:=[]) rfl ?_ rfl);have h:=lS w 41 0 rfl n x [] hx;have e:n+41+3=n+44:=by omega
 rw[e] at h;exact ak (aS (by simp[af,eR,h]))
noncomputable def cell(ns:List Int)(k:Nat):Int:=ns.getD k 0
def uj(ns:List Int)(k:Nat):Int:=(cell ns k+7919*k+1)*48271 % 2147483647
def mixed(ns:List Int)(k:Nat):Int:=(uj ns k*uj ns k+7*uj ns k+k) % 2147483629
theorem Ec ns k:0<=mixed ns k/\mixed ns k < 2147483629:=⟨UW _ (by decide),Ud _ (by decide)⟩
theorem bU i{j:Int}(h:0 < j):0<=i % j/\i % j < j:=⟨UW _ (by omega),Ud _ h⟩
theorem yM n ns(k:Nat)st:callC Fs (n+1) 7 [.fb ns,.d (.int k)] st=.ok (.d (.int (cell ns k))) st:=by
 refine call_of me rfl (bc (p:=.d (.int (cell ns k))) (st:=[]) rfl ?_ rfl);by_cases h:k < ns.length
 ·have h1:(k:Int) < (ns.length:Int):=by omega
  have h2:oE ns (k:Int)=Δ (cell ns k):=mH (by unfold cell;rw[Rr,Qh h];rfl);exact ak (bX (st1:=[]) (by simp[af,cm,h]) (ak (aS (by simp[af,cm,h2]))))
 ·have h1:cell ns k=0:=by unfold cell;rw[Rr,List.getElem?_eq_none (by omega)];rfl
  rw[h1];exact az (bM (st1:=[]) (by simp[af,cm];omega) aG) (ak (aS (by simp)))
theorem gG n ns(k:Nat)(hk:k<=1000)st:callC Fs (n+2) 8 [.fb ns,.d (.int k)] st=.ok (.d (.int (mixed ns k))) st:=by
 refine call_of o7 rfl (bc (p:=.d (.int (mixed ns k))) (st:=[]) rfl ?_ rfl);obtain⟨m1,m2⟩:=bU ((cell ns k+7919*k+1)*48271) (show(0:Int) < 2147483647 by decide);have c1:∀z:Int,lY .mul 7919 z=Δ (7919*z):=λz=>fH (.inl (by decide));have c2:∀z:Int,lY .mul z 48271=Δ (z*48271):=λz=>fH (.inr (by decide));have c3:∀z:Int,lY .mul 7 z=Δ (7*z):=λz=>fH (.inl (by decide));refine az (cZ (v:=.d (.int (uj ns k))) (st1:=[]) (by simp[af,dn,yM,c1,c2,ba,uj])) ?_;have b: -jR < uj ns k/\uj ns k < jR:=by unfold jR uj;omega
 exact ak (aS (by simp[af,dn,fH,c3,ba,b,mixed]))
noncomputable def uk(x:Int)(k:Nat):Int:=(x+104729*k+17)*69621 % 2147483647
def drawn(x:Int)(k:Nat):Int:=(uk x k*uk x k+3*uk x k+k) % 2147483629
theorem Ed x k:0<=drawn x k/\drawn x k < 2147483629:=⟨UW _ (by decide),Ud _ (by decide)⟩
theorem gH n x(k:Nat)st:callC Fs (n+1) 9 [.d (.int x),.d (.int k)] st=.ok (.d (.int (drawn x k))) st:=by
 refine call_of o8 rfl (bc (p:=.d (.int (drawn x k))) (st:=[]) rfl ?_ rfl);obtain⟨m1,m2⟩:=bU ((x+104729*k+17)*69621) (show(0:Int) < 2147483647 by decide);have c1:∀z:Int,lY .mul 104729 z=Δ (104729*z):=λz=>fH (.inl (by decide));have c2:∀z:Int,lY .mul z 69621=Δ (z*69621):=λz=>fH (.inr (by decide));have c3:∀z:Int,lY .mul 3 z=Δ (3*z):=λz=>fH (.inl (by decide));refine az (cZ (v:=.d (.int (uk x k))) (st1:=[]) (by simp[af,dq,c1,c2,ba,uk])) ?_;have b: -jR < uk x k/\uk x k < jR:=by unfold jR uk;omega
 exact ak (aS (by simp[af,dq,fH,c3,ba,b,drawn]))
inductive Pl:Nat->D->Prop
 |int {k:Nat} {i:Int}:0<=i->i<=10->Pl k (.int i)
 |str {k:Nat} (x:Str):Pl k (.str x)
 |tup {k:Nat} {xs:List D}:xs.length<=100->(∀x∈xs,Pl k x)->Pl (k+1) (.tup xs)
theorem Pl.up(h:Pl k x):Pl (k+1) x:=by induction h with|int a b=>exact .int a b|str s=>exact .str s|tup hl _ ih=>exact .tup hl ih
theorem Pl.le(h:Pl k x):∀{j},k<=j->Pl j x
 |0,q=>by
  obtain rfl:k=0:=by omega
  exact h
 |j+1,q=>by
  by_cases z:k=j+1;·rw[<-z];exact h
  ·exact(h.le (by omega)).up
def dp:Nat->D->Bool
 |0,.tup _=>Ξ|k+1,.tup xs=>xs.all λx=>dp k x|_,_=>Λ
theorem Ee:∀{k} {x},dp k x=Λ->dp (k+1) x=Λ
 |0,.tup _,h=>by cases h|k+1,.tup xs,h=>by simp only[dp,Rl] at h ⊢;exact λy hy=>Ee (h y hy)
 |0,.int _,_|0,.bl _,_|0,.bu,_|0,.str _,_|0,.pl _,_=>rfl|k+1,.int _,_|k+1,.bl _,_|k+1,.bu,_|k+1,.str _,_|k+1,.pl _,_=>rfl
def mi(k:Nat)(x:D):Bool:=sm x&&dp k x
theorem lr(h:mi k x=Λ):sm x=Λ:=((PZ _ _).mp h).1
theorem rF(h:mi k x=Λ):dp k x=Λ:=((PZ _ _).mp h).2
theorem ot(h:mi k x=Λ):∀{j},k<=j->mi j x=Λ
 |0,q=>by
  obtain rfl:k=0:=by omega
  exact h
 |j+1,q=>by
  by_cases z:k=j+1;·rw[<-z];exact h
  ·have:=ot h (j:=j) (by omega);exact(PZ _ _).mpr ⟨lr this,Ee (rF this)⟩
theorem Bc:∀{xs},(∀x∈xs,sm x=Λ)->Ie xs=Λ
 |[],_=>rfl|x::xs,h=>by simp only[Ie,PZ];exact⟨h x P7,Bc λy hy=>h y (P6 _ hy)⟩
theorem Ly{xs:List D}(hl:xs.length<=1000)(h:∀x∈xs,sm x=Λ):sm (.tup xs)=Λ:=by simp only[sm,PZ,qqq];exact⟨hl,Bc h⟩
theorem lx{xs:List D}(hl:xs.length<=1000)(h:∀x∈xs,mi k x=Λ):mi (k+1) (.tup xs)=Λ:=
 (PZ _ _).mpr ⟨Ly hl λx hx=>lr (h x hx),by simp only[dp,Rl];exact λx hx=>rF (h x hx)⟩
theorem Pl.mi(h:Pl k x):Ic.mi k x=Λ:=by induction h with|@int k _ _ _=>cases k<;>rfl|@str k _=>cases k<;>rfl|tup hl _ ih=>exact lx (by omega) ih
theorem Pl.t1(h:Pl k a):Pl (k+1) (.tup [a]):=.tup (by simp) (by simpa using h)
theorem Pl.t2(h:Pl k a)(h':Pl k b):Pl (k+1) (.tup [a,b]):=.tup (by simp) (by intro x hx;simp at hx;rcases hx with rfl|rfl<;>assumption)
theorem Pl.t3(h:Pl k a)(h':Pl k b)(h2:Pl k c):Pl (k+1) (.tup [a,b,c]):=.tup (by simp) (by intro x hx;simp at hx;rcases hx with rfl|rfl|rfl<;>assumption)
theorem yN x w(hw:1<=w/\w<=3):∃d,Pl 1 d/\∀n st,callC Fs (n+1) 10 [.d (.int x),.d (.int w)] st=.ok (.d d) st:=by
 obtain⟨k1,k2⟩:=bU x (show(0:Int) < 12 by decide);have hw0:0 < w:=by omega
 by_cases h:x % 12 < 8;·obtain⟨l1,l2⟩:=bU (x / 12) hw0;refine⟨.tup [.str "letter",.int (x / 12 % w)],Pl.t2 (.str _) (.int l1 (by omega)),λn st=>?_⟩;refine call_of kf rfl (bc (p:=.d _) (st:=[]) rfl ?_ rfl);refine az (cZ (v:=.d (.int (x % 12))) (st1:=[]) (by simp[af,b7,ba])) ?_;exact ak (bX (st1:=[]) (by simp[af,b7,h]) (ak (aS (by simp[af,b7,ba,bV,hw0,aB]))))
 ·have go:∀d:D,Pl 1 d->oE [D.tup [.str "any"],.tup [.str "empty"],.tup [.str "none"],.tup [.str "any"]] (x % 12 - 8)=Δ d->∃d,Pl 1 d/\∀n st,callC Fs (n+1) 10 [.d (.int x),.d (.int w)] st=.ok (.d d) st:=λd hd ha=>by refine⟨d,hd,λn st=>?_⟩;refine call_of kf rfl (bc (p:=.d d) (st:=[]) rfl ?_ rfl);refine az (cZ (v:=.d (.int (x % 12))) (st1:=[]) (by simp[af,b7,ba])) ?_;refine az (bM (st1:=[]) (by simp[af,b7];omega) aG) ?_;exact ak (aS (by simp[af,b7,aB,ha]))
  have hc:x % 12=8\/x % 12=9\/x % 12=10\/x % 12=11:=by omega
  rcases hc with e|e|e|e<;>rw[e] at go;·exact go _ (Pl.t1 (.str "any")) rfl
  ·exact go _ (Pl.t1 (.str "empty")) rfl
  ·exact go _ (Pl.t1 (.str "none")) rfl
  ·exact go _ (Pl.t1 (.str "any")) rfl
theorem iH w(hw:1<=w/\w<=3):∀(deep) (x),∃d,Pl (deep+1) d/\∀n st,callC Fs (n+deep+2) 11 [.d (.int x),.d (.int w),.d (.int deep)] st=.ok (.d d) st
 |deep,x=>by
  obtain⟨k1,k2⟩:=bU x (show(0:Int) < 9 by decide);obtain⟨dl,pl,hl⟩:=yN (x / 9) w hw;by_cases h0:deep=0\/x % 9=0
  ·refine⟨dl,pl.le (by omega),λn st=>?_⟩;refine call_of (n:=n+deep+1) eS rfl (bc (p:=.d dl) (st:=[]) rfl ?_ rfl);refine az (cZ (v:=.d (.int (x % 9))) (st1:=[]) (by simp[af,bA,ba])) ?_;refine ak (bX (st1:=[]) ?_ (ak (aS (by simp[af,bA,bV,hl]))));rcases h0 with rfl|h0;·simp[af,bA]
   ·by_cases hd:deep=0;·subst hd;simp[af,bA]
    ·have xu:¬((deep:Int)=0):=by omega
     simp[af,bA,h0,hd]
  ·have hd0:deep≠0:=λz=>h0 (.inl z);have Ft:¬x % 9=0:=λz=>h0 (.inr z);obtain⟨e,rfl⟩:∃e,deep=e+1:=⟨deep - 1,by omega⟩;obtain⟨d1,p1,q1⟩:=iH w hw e (drawn x 1);obtain⟨d2,p2,q2⟩:=iH w hw e (drawn x 2);have hdi:((e+1:Nat):Int) - 1=(e:Int):=by omega
   have Py:¬((e:Int)+1=0):=by omega
   have a1:∀n st,callC Fs (n+(e+1)+1) 9 [.d (.int x),.d (.int 1)] st=.ok (.d (.int (drawn x 1))) st:=λn st=>gH (n+(e+1)) x 1 st;have a2:∀n st,callC Fs (n+(e+1)+1) 9 [.d (.int x),.d (.int 2)] st=.ok (.d (.int (drawn x 2))) st:=λn st=>gH (n+(e+1)) x 2 st;have b1:∀n st,callC Fs (n+(e+1)+1) 11 [.d (.int (drawn x 1)),.d (.int w),.d (.int e)] st=.ok (.d d1) st:=λn st=>q1 n st;have b2:∀n st,callC Fs (n+(e+1)+1) 11 [.d (.int (drawn x 2)),.d (.int w),.d (.int e)] st=.ok (.d d2) st:=λn st=>q2 n st;have head:∀(n:Nat) (res:R Fl),aw (callC Fs (n+(e+1)+1)) [.ifs (.cmp .eq (.var 3) (.cst (.int 1))) [.ret (.tup [.cst (.str "not"),.var 4])] [],
     .ifs (.cmp .lt (.var 3) (.cst (.int 4))) [.ret (.tup [.cst (.str "many"),.var 4])] [],
     .set 5 (.call 11 [.call 9 [.var 0,.cst (.int 2)],.var 1,.op .sub (.var 2) (.cst (.int 1))]),
     .ret (.tup [.ix (.lst Ξ (.fe [.cst (.str "then"),.cst (.str "then"),.cst (.str "or"),.cst (.str "or"),.cst (.str "and")])) (.op .sub (.var 3) (.cst (.int 4))),.var 4,.var 5])]
     [Δ (.d (.int x)),Δ (.d (.int w)),Δ (.d (.int (e+1:Nat))),Δ (.d (.int (x % 9))),Δ (.d d1),Θ] []=res->
     aw (callC Fs (n+(e+1)+1)) bA.body (af bA.nn [.d (.int x),.d (.int w),.d (.int (e+1:Nat))]) []=res:=λn res hr=>by
    refine az (cZ (v:=.d (.int (x % 9))) (st1:=[]) (by simp[af,bA,ba])) ?_;refine az (bM (st1:=[]) (by simp[af,bA,Ft,Py]) aG) ?_;refine az (cZ (v:=.d d1) (st1:=[]) ?_) ?_;·simp[af,bA,a1,b1]
    ·exact hr
   by_cases Bs:x % 9=1;·refine⟨.tup [.str "not",d1],Pl.t2 (.str _) p1,λn st=>?_⟩;refine call_of (n:=n+(e+1)+1) eS rfl (bc (p:=.d _) (st:=[]) rfl (head n _ ?_) rfl);exact ak (bX (st1:=[]) (by simp[Bs]) (ak (aS (by simp[aB]))))
   ·by_cases hk4:x % 9 < 4;·refine⟨.tup [.str "many",d1],Pl.t2 (.str _) p1,λn st=>?_⟩;refine call_of (n:=n+(e+1)+1) eS rfl (bc (p:=.d _) (st:=[]) rfl (head n _ ?_) rfl);refine az (bM (st1:=[]) (by simp[Bs]) aG) ?_;exact ak (bX (st1:=[]) (by simp[hk4]) (ak (aS (by simp[aB]))))
    ·have go:∀s:Str,oE [D.str "then",.str "then",.str "or",.str "or",.str "and"] (x % 9 - 4)=Δ (.str s)->∃d,Pl (e+1+1) d/\∀n st,callC Fs (n+(e+1)+2) 11 [.d (.int x),.d (.int w),.d (.int (e+1:Nat))] st=.ok (.d d) st:=λs ha=>by
      refine⟨.tup [.str s,d1,d2],Pl.t3 (.str _) p1 p2,λn st=>?_⟩;refine call_of (n:=n+(e+1)+1) eS rfl (bc (p:=.d _) (st:=[]) rfl (head n _ ?_) rfl);refine az (bM (st1:=[]) (by simp[Bs]) aG) ?_;refine az (bM (st1:=[]) (by simp;omega) aG) ?_;refine az (cZ (v:=.d d2) (st1:=[]) ?_) ?_;·simp[a2,b2]
      ·exact ak (aS (by simp[aB,ha]))
     have hc:x % 9=4\/x % 9=5\/x % 9=6\/x % 9=7\/x % 9=8:=by omega
     rcases hc with z|z|z|z|z<;>rw[z] at go;·exact go "then" rfl
     ·exact go "then" rfl
     ·exact go "or" rfl
     ·exact go "or" rfl
     ·exact go "and" rfl
 termination_by deep=>deep
theorem rG x w(hw:1<=w/\w<=3):∃d,Pl 4 d/\∀n st,callC Fs (n+5) 12 [.d (.int x),.d (.int w)] st=.ok (.d d) st:=by
 obtain⟨k1,k2⟩:=bU x (show(0:Int) < 5 by decide);obtain⟨d1,p1,q1⟩:=iH w hw 2 (drawn x 3);obtain⟨d2,p2,q2⟩:=iH w hw 2 (drawn x 4);have a3:∀n st,callC Fs (n+4) 9 [.d (.int x),.d (.int 3)] st=.ok (.d (.int (drawn x 3))) st:=λn st=>gH (n+3) x 3 st;have a4:∀n st,callC Fs (n+4) 9 [.d (.int x),.d (.int 4)] st=.ok (.d (.int (drawn x 4))) st:=λn st=>gH (n+3) x 4 st;have b1:∀n st,callC Fs (n+4) 11 [.d (.int (drawn x 3)),.d (.int w),.d (.int 2)] st=.ok (.d d1) st:=λn st=>q1 n st;have b2:∀n st,callC Fs (n+4) 11 [.d (.int (drawn x 4)),.d (.int w),.d (.int 2)] st=.ok (.d d2) st:=λn st=>q2 n st;have head:∀(n:Nat) (res:R Fl),aw (callC Fs (n+4)) [.ifs (.cmp .lt (.var 3) (.cst (.int 2))) [.ret (.var 2)] [],
   .ifs (.cmp .eq (.var 3) (.cst (.int 2))) [.ret (.tup [.cst (.str "not"),.var 2])] [],
   .ret (.tup [.ix (.lst Ξ (.fe [.cst (.str "or"),.cst (.str "and")])) (.op .sub (.var 3) (.cst (.int 3))),.var 2,.call 11 [.call 9 [.var 0,.cst (.int 4)],.var 1,.cst (.int 2)]])]
   [Δ (.d (.int x)),Δ (.d (.int w)),Δ (.d d1),Δ (.d (.int (x % 5)))] []=res->
   aw (callC Fs (n+4)) bW.body (af bW.nn [.d (.int x),.d (.int w)]) []=res:=λn res hr=>by
  refine az (cZ (v:=.d d1) (st1:=[]) (by simp[af,bW,a3,b1])) ?_;exact az (cZ (v:=.d (.int (x % 5))) (st1:=[]) (by simp[af,bW,ba])) hr
 by_cases h2:x % 5 < 2;·refine⟨d1,p1.le (by omega),λn st=>?_⟩;refine call_of (n:=n+4) eG rfl (bc (p:=.d _) (st:=[]) rfl (head n _ ?_) rfl);exact ak (bX (st1:=[]) (by simp[h2]) (ak (aS (by simp))))
 ·by_cases h3:x % 5=2;·refine⟨.tup [.str "not",d1],Pl.t2 (.str _) p1,λn st=>?_⟩;refine call_of (n:=n+4) eG rfl (bc (p:=.d _) (st:=[]) rfl (head n _ ?_) rfl);refine az (bM (st1:=[]) (by simp;omega) aG) ?_;exact ak (bX (st1:=[]) (by simp[h3]) (ak (aS (by simp[aB]))))
  ·have go:∀s:Str,oE [D.str "or",.str "and"] (x % 5 - 3)=Δ (.str s)->∃d,Pl 4 d/\∀n st,callC Fs (n+5) 12 [.d (.int x),.d (.int w)] st=.ok (.d d) st:=λs ha=>by refine⟨.tup [.str s,d1,d2],Pl.t3 (.str _) p1 p2,λn st=>?_⟩;refine call_of (n:=n+4) eG rfl (bc (p:=.d _) (st:=[]) rfl (head n _ ?_) rfl);refine az (bM (st1:=[]) (by simp;omega) aG) ?_;refine az (bM (st1:=[]) (by simp[h3]) aG) ?_;exact ak (aS (by simp[aB,ha,a4,b2]))
   have hc:x % 5=3\/x % 5=4:=by omega
   rcases hc with z|z<;>rw[z] at go;·exact go "or" rfl
   ·exact go "and" rfl
theorem yO n x h st:callC Fs (n+1) 13 [.d x,.d (.int h)] st=.ok (.d (.bl (oo x (h+1)))) st:=by
 refine call_of om rfl (bc (p:=.d (.bl (oo x (h+1)))) (st:=[]) rfl (ak (aS ?_)) rfl);cases x with
 |int i=>
  by_cases h0:0<=i
  ·have e:decide (i < h+1)=decide (i<=h):=by rw[decide_eq_decide];omega
   simp[cD,af,bO,oo,h0,e]
  ·simp[cD,af,bO,oo,h0]
 |_=>simp[cD,af,bO,oo]
theorem Ig nm a b c st:gL .isin (.d (.str nm)) (.d (.tup [.str a,.str b,.str c])) st=Δ (a==nm||b==nm||c==nm):=by show Δ (a==nm||(b==nm||(c==nm||false)))=_;rw[Ve,Bool.or_assoc]
theorem Pz nm a b st:gL .isin (.d (.str nm)) (.d (.tup [.str a,.str b])) st=Δ (a==nm||b==nm):=by show Δ (a==nm||(b==nm||false))=_;rw[Ve]
theorem filter_none:∀xs:List D,(xs.filter λy=>!p y).isEmpty=xs.all p
 |[]=>rfl|x::xs=>by
  cases h:p x;·rw[Sl (by simp[h]),Rc,h];rfl
  ·rw[Sm (by simp[h]),Rc,h,filter_none xs];rfl
theorem um nm:(lG cH nm=Δ 0/\(("none":Str)==nm||("empty":Str)==nm||("any":Str)==nm)=Λ)\/
  (lG cH nm=Δ 1/\(("none":Str)==nm||("empty":Str)==nm||("any":Str)==nm)=Ξ/\(("not":Str)==nm||("many":Str)==nm)=Λ/\(("then":Str)==nm||("or":Str)==nm||("and":Str)==nm)=Ξ)\/
  (lG cH nm=Δ 2/\(("none":Str)==nm||("empty":Str)==nm||("any":Str)==nm)=Ξ/\(("not":Str)==nm||("many":Str)==nm)=Ξ/\(("then":Str)==nm||("or":Str)==nm||("and":Str)==nm)=Λ)\/
  (lG cH nm=Θ/\(("none":Str)==nm||("empty":Str)==nm||("any":Str)==nm)=Ξ/\(("not":Str)==nm||("many":Str)==nm)=Ξ/\(("then":Str)==nm||("or":Str)==nm||("and":Str)==nm)=Ξ):=by
 by_cases h1:nm="none";·subst h1;exact .inl (by decide+kernel)
 by_cases h2:nm="empty";·subst h2;exact .inl (by decide+kernel)
 by_cases h3:nm="any";·subst h3;exact .inl (by decide+kernel)
 by_cases h4:nm="then";·subst h4;exact .inr (.inr (.inl (by decide+kernel)))
 by_cases h5:nm="or";·subst h5;exact .inr (.inr (.inl (by decide+kernel)))
 by_cases h6:nm="and";·subst h6;exact .inr (.inr (.inl (by decide+kernel)))
 by_cases h7:nm="not";·subst h7;exact .inr (.inl (by decide+kernel))
 by_cases h8:nm="many";·subst h8;exact .inr (.inl (by decide+kernel))
 have b:∀s:Str,nm≠s->(s==nm)=Ξ:=λs h=>beq_false_of_ne h.symm;refine .inr (.inr (.inr ⟨?_,?_,?_,?_⟩));·simp only[cH,lG,h1,h2,h3,h4,h5,h6,h7,h8,if_false]
 ·rw[b _ h1,b _ h2,b _ h3];rfl
 ·rw[b _ h7,b _ h8];rfl
 ·rw[b _ h4,b _ h5,b _ h6];rfl
theorem Ih:lG cH "letter"=Θ:=by decide+kernel
theorem qh w:∀(m:Nat) (o:Int),o+m=41->∀(n) (x) (st),sm x=Λ->callC Fs (n+m+2) 14 [.d x,.d (.int w),.d (.int o)] st=.ok (.d (.bl (pat m w x))) st
 |0,o,ho,n,x,st,hx=>by
  refine call_of fw rfl (bc (p:=.d (.bl Ξ)) (st:=[]) rfl ?_ rfl);have h1:(40:Int) < o:=by omega
  exact ak (bX (st1:=[]) (by simp[af,ah,h1]) (ak (aS rfl)))
 |m+1,o,ho,n,x,st,hx=>by
  have h1:¬(40:Int) < o:=by omega
  have ih:=qh w m (o+1) (by omega) n;refine call_of (n:=n+m+2) fw rfl (bc (p:=.d (.bl (pat (m+1) w x))) (st:=[]) rfl ?_ rfl);have no:∀y:D,(∀xs,y≠.tup xs)->aw (callC Fs (n+m+2)) ah.body (af ah.nn [.d y,.d (.int w),.d (.int o)]) []=.ok (.rt (.d (.bl (pat (m+1) w y)))) []:=λy hy=>by
   refine ak (bX (st1:=[]) ?_ (ak (aS (by cases y<;>first|rfl|exact absurd rfl (hy _)))));cases y<;>first
    |exact absurd rfl (hy _)
    |simp[af,ah,bO,h1]
  cases x with
  |tup zs=>
   cases zs with
   |nil=>exact ak (bX (st1:=[]) (by simp[af,ah,bO,h1,aB]) (ak (aS (by simp[pat,ez]))))|cons y xs=>
    have Px:∀z:D,(∀nm,z≠.str nm)->aw (callC Fs (n+m+2)) ah.body (af ah.nn [.d (.tup (z::xs)),.d (.int w),.d (.int o)]) []=.ok (.rt (.d (.bl (pat (m+1) w (.tup (z::xs)))))) []:=λz hz=>by
     refine ak (bX (st1:=[]) ?_ (ak (aS (by cases z<;>first|rfl|exact absurd rfl (hz _)))));cases z<;>first
      |exact absurd rfl (hz _)
      |simp[af,ah,bO,h1,aB]
    cases y with
    |str nm=>
     have hs:=(v5 hx).2;have hlen:=(v5 hx).1;have oU:xs.length<=aB:=by unfold aB;simp at hlen;omega
     have hp:pat (m+1) w (.tup (.str nm::xs))=((if nm="letter" then rE w xs else decide (lG cH nm=Δ (xs.length:Int)))&&(if nm="letter" then[] else xs).all λy=>pat m w y):=rfl;have hc:∀st,bR (callC Fs (n+m+2)) (.comp (.ex (.slice (.var 0) (Δ (.cst (.int 1))) Θ)) 1 [1,2] (Δ (.not (.call 14 [.var 0,.var 1,.op .add (.var 2) (.cst (.int 1))]))) (.var 0)) [Δ (.d (.tup (.str nm::xs))),Δ (.d (.int w)),Δ (.d (.int o))] st=.ok ((xs.filter λy=>!pat m w y).map λy=>.d y) st:=λst=>rA (f:=λy=>y) (p:=λy=>!pat m w y) (by simp[iG]) oU (λy hy=>by simp[cy,ih y st (hs y (P6 _ hy))]) λy _=>by simp
     refine az (bM (st1:=[]) (by simp[af,ah,bO,h1,aB]) aG) ?_;by_cases hn:nm="letter"
     ·subst hn;refine az (bM (st1:=[]) ?_ aG) ?_
      ·have e:(("none":Str)=="letter"||("empty":Str)=="letter"||("any":Str)=="letter")=Ξ:=by decide+kernel
       simp[af,ah,aB,Ig,e]
      refine ak (bX (st1:=[]) (by simp[af,ah]) (ak (aS ?_)));rw[hp];cases xs with
      |nil=>simp[af,ah,rE]|cons k ks=>
       cases ks with
       |nil=>simp[af,ah,rE,yO]|cons k2 ks=>
        have h1:¬((ks.length:Int)+1+1+1=2):=by omega
        simp[af,ah,rE,h1]
     ·rw[if_neg hn,if_neg hn] at hp;rw[hp];rcases um nm with ⟨e,e1⟩|⟨e,e1,e2,e3⟩|⟨e,e1,e2,e3⟩|⟨e,e1,e2,e3⟩
      ·refine ak (bX (st1:=[]) (by simp[af,ah,aB,Ig,e1]) (ak (aS ?_)));cases xs with
       |nil=>simp[af,ah,e]|cons k ks=>
        have h2:¬((ks.length:Int)+1+1=1):=by omega
        have h3:¬((0:Int)=(ks.length:Int)+1):=by omega
        simp[af,ah,e,h2,h3]
      all_goals
       refine az (bM (st1:=[]) (by simp[af,ah,aB,Ig,e1]) aG) ?_;refine az (bM (st1:=[]) (by simp[af,ah,hn]) aG) ?_
      ·by_cases h2:xs.length=1
       ·have h3:((xs.length:Int)+1==2)=Λ:=by rw[h2];rfl
        refine ak (bX (st1:=[]) (by simp[af,ah,aB,Pz,e2,h3]) (ak (aS ?_)));simp[af,ah,hc,filter_none,e,h2,aB]
       ·have h3:((xs.length:Int)+1==2)=Ξ:=by rw[beq_eq_false_iff_ne];omega
        have h4:¬((1:Int)=(xs.length:Int)):=by omega
        refine az (bM (st1:=[]) ?_ aG) (ak (aS (by simp[e,h4])));by_cases h5:xs.length=2
        ·have h6:((xs.length:Int)+1==3)=Λ:=by rw[h5];rfl
         simp[af,ah,aB,Ig,e3,h3,h6]
        ·have h6:((xs.length:Int)+1==3)=Ξ:=by rw[beq_eq_false_iff_ne];omega
         simp[af,ah,h3,h6]
      ·by_cases h2:xs.length=2
       ·have h3:((xs.length:Int)+1==2)=Ξ:=by rw[h2];rfl
        have h6:((xs.length:Int)+1==3)=Λ:=by rw[h2];rfl
        refine ak (bX (st1:=[]) (by simp[af,ah,aB,Ig,e3,h3,h6]) (ak (aS ?_)));simp[af,ah,hc,filter_none,e,h2,aB]
       ·have h6:((xs.length:Int)+1==3)=Ξ:=by rw[beq_eq_false_iff_ne];omega
        have h4:¬((2:Int)=(xs.length:Int)):=by omega
        refine az (bM (st1:=[]) ?_ aG) (ak (aS (by simp[e,h4])));by_cases h5:xs.length=1
        ·have h3:((xs.length:Int)+1==2)=Λ:=by rw[h5];rfl
         simp[af,ah,aB,Pz,e2,h3,h6]
        ·have h3:((xs.length:Int)+1==2)=Ξ:=by rw[beq_eq_false_iff_ne];omega
         simp[af,ah,h3,h6]
      ·refine az (bM (st1:=[]) ?_ aG) (ak (aS (by simp[e])));by_cases h5:xs.length=1
       ·have h3:((xs.length:Int)+1==2)=Λ:=by rw[h5];rfl
        have h6:((xs.length:Int)+1==3)=Ξ:=by rw[h5];rfl
        simp[af,ah,aB,Pz,e2,h3,h6]
       ·have h3:((xs.length:Int)+1==2)=Ξ:=by rw[beq_eq_false_iff_ne];omega
        by_cases h7:xs.length=2
        ·have h6:((xs.length:Int)+1==3)=Λ:=by rw[h7];rfl
         simp[af,ah,aB,Ig,e3,h3,h6]
        ·have h6:((xs.length:Int)+1==3)=Ξ:=by rw[beq_eq_false_iff_ne];omega
         simp[af,ah,h3,h6]
    |_=>exact Px _ λ_ z=>nomatch z
  |_=>exact no _ λ_ z=>nomatch z
theorem rH{i:Int}(h0:0<=i)(h1:i < xs.length):∃a,oE xs i=Δ a/\a∈xs:=by
 have hk:i.toNat < xs.length:=by omega
 refine⟨xs[i.toNat],?_,UE hk⟩;have e:i=((i.toNat:Nat):Int):=by omega
 have q:=mH (xs:=xs) (k:=i.toNat) (Qh hk);rw[<-e] at q;exact q
noncomputable def kg:List D:=[.int (-1),.int 0,.int 1,.int 2,.int 3,.bl Λ,.bl Ξ,.bu,.str "",.str "a",.str "none",.str "empty",.str "any",.str "then",.str "not",.tup [],.pl [],.tup [.int 0],.tup [.int 1,.tup [.int 0]],
 .tup [.str "none"],.tup [.str "letter",.int 0],.tup [.str "letter",.bl Λ],.tup [.str "any",.int 0],.tup [.str "not"]]
theorem Dm:∀x∈kg,mi 2 x=Λ:=Rl.mp (show(kg.all λx=>mi 2 x)=Λ by decide+kernel)
theorem Bd x:∃d,mi 2 d=Λ/\∀n st,callC Fs (n+1) 15 [.d (.int x)] st=.ok (.d d) st:=by
 obtain⟨k1,k2⟩:=bU x (show(0:Int) < 24 by decide);obtain⟨d,hd,hm⟩:=rH (xs:=kg) k1 (by show x % 24 < (24:Nat);omega);refine⟨d,Dm d hm,λn st=>?_⟩;refine call_of ui rfl (bc (p:=.d d) (st:=[]) rfl ?_ rfl);refine az (cZ (v:=.d (.pl (kg.take 19))) (st1:=[]) (by simp[af,fu,aB,kg])) ?_;have e:kg.take 19++kg.drop 19=kg:=List.take_append_drop _ _;have h2:∀r st,aa (callC Fs n) (.lst Ξ (.fe [.tup [.cst (.str "none")],.tup [.cst (.str "letter"),.cst (.int 0)],.tup [.cst (.str "letter"),.cst (.bl Λ)],.tup [.cst (.str "any"),.cst (.int 0)],.tup [.cst (.str "not")]])) r st=.ok (.d (.pl (kg.drop 19))) st:=λr st=>by simp[aB,kg]
 have h3:(kg.take 19).length+(kg.drop 19).length<=aB:=by decide
 refine ak (aS ?_);simp only[nt,nr,h2,vY,eW,ax,Lw,if_pos h3,e,Eb,ba (show(0:Int) < 24 by decide),af,fu];have h4:min 19 kg.length+(kg.length - 19)<=aB:=by decide
 simp[ba,hd,h4]
theorem mI(h:a∈eD xs lo hi):a∈xs:=List.mem_of_mem_drop (List.mem_of_mem_take h)
theorem iI{α:Type}(xs:List α)lo hi:(eD xs lo hi).length<=xs.length:=by unfold eD;rw[SH,UD];omega
theorem Be{xs:List D}(hl:xs.length<=1000)(h:∀x∈xs,mi k x=Λ):mi (k+1) (.tup (eD xs lo hi))=Λ:=lx (QJ (iI _ _ _) hl) λx hx=>h x (mI hx)
theorem lT:∀(deep k) (t) (x),Pl k t->∃d,mi (k+2) d=Λ/\∀n st,callC Fs (n+deep+2) 16 [.d t,.d (.int x),.d (.int deep)] st=.ok (.d d) st
 |deep,k,t,x,pt=>by
  obtain⟨k1,k2⟩:=bU x (show(0:Int) < 6 by decide);obtain⟨dO,sO,hO⟩:=Bd (x / 6);have rest:(∀n:Nat,aa (callC Fs (n+deep+1)) (.and [.cmp .gt (.var 2) (.cst (.int 0)),.oF (.var 0) "tuple",.cmp .gt (.bf .len [.var 0]) (.cst (.int 0)),.cmp .gt (.op .mod (.var 1) (.cst (.int 6))) (.cst (.int 0))])
     (af au.nn [.d t,.d (.int x),.d (.int deep)]) []=.ok (.d (.bl Ξ)) [])->∃d,mi (k+2) d=Λ/\∀n st,callC Fs (n+deep+2) 16 [.d t,.d (.int x),.d (.int deep)] st=.ok (.d d) st:=λEJ=>by
   have last:(∀n:Nat,aa (callC Fs (n+deep+1)) (.and [.oF (.var 0) "tuple",.cmp .gt (.bf .len [.var 0]) (.cst (.int 0)),.cmp .eq (.op .mod (.op .fdiv (.var 1) (.cst (.int 6))) (.cst (.int 2))) (.cst (.int 0))]) (af au.nn [.d t,.d (.int x),.d (.int deep)]) []=.ok (.d (.bl Ξ)) [])->
     (∀n:Nat,aa (callC Fs (n+deep+1)) (.and [.oF (.var 0) "int",.cmp .eq (.op .mod (.op .fdiv (.var 1) (.cst (.int 6))) (.cst (.int 2))) (.cst (.int 0))]) (af au.nn [.d t,.d (.int x),.d (.int deep)]) []=.ok (.d (.bl Ξ)) [])->
     ∃d,mi (k+2) d=Λ/\∀n st,callC Fs (n+deep+2) 16 [.d t,.d (.int x),.d (.int deep)] st=.ok (.d d) st:=λh2 h3=>by
    refine⟨dO,ot sO (by omega),λn st=>?_⟩;refine call_of (n:=n+deep+1) dv rfl (bc (p:=.d dO) (st:=[]) rfl ?_ rfl);refine az (bM (EJ n) aG) (az (bM (h2 n) aG) (az (bM (h3 n) aG) (ak (aS ?_))));simp[af,au,bV,hO]
   by_cases he:x / 6 % 2=0
   ·cases pt with
    |str s=>exact last (λn=>by simp[af,au,bO]) λn=>by simp[af,au,bO]|@int _ i h0 h10=>
     obtain⟨l1,l2⟩:=bU (x / 12) (show(0:Int) < 5 by decide);have Bg:i.natAbs.log2 < 1920:=S0 (UC _) (by omega);obtain⟨d,hd,hm⟩:=rH (xs:=[D.str (Qs (toString i)),.int (-i),.int (i+1),.bl (i==1),.int (i+2)]) l1 (by show x / 12 % 5 < (5:Nat);omega);refine⟨d,?_,λn st=>?_⟩;·simp at hm;rcases hm with rfl|rfl|rfl|rfl|rfl<;>rfl
     refine call_of (n:=n+deep+1) dv rfl (bc (p:=.d d) (st:=[]) rfl ?_ rfl);refine az (bM (EJ n) aG) ?_;refine az (bM (st1:=[]) (by simp[af,au,bO]) aG) ?_;refine ak (bX (st1:=[]) (by simp[af,au,bO,bV,ba,he]) (ak (aS ?_)));have hs:∀st,Bw .str [.d (.int i)] st=Δ (.d (.str (Qs (toString i)))):=λst=>by show(if i.natAbs.log2 < 1920 then _ else _)=_;rw[if_pos Bg]
     simp only[nt,rB,jh,bh,aX,tu,vY,kS,nr,eW,pQ,af,au];simp only[ax,dh,List.getElem?_cons_zero,List.getElem?_cons_succ,Option.join_some,QD,Th,List.cons_append,List.nil_append,hs,Eb,Di,bV (show(0:Int) < 12/\(12:Int) < 1073741824 by decide),ba (show(0:Int) < 5 by decide),Option.map_some,Hr,Dj];rw[if_pos (by simp only[Qm,TN];decide)];simp only[ax,dh,Dk,Hs,Option.map_some,Pw,hd]
    |@tup k xs hl hx=>
     cases xs with
     |nil=>exact last (λn=>by simp[af,au,bO]) λn=>by simp[af,au,bO]|cons y ys=>
      have yd:∀z∈y::ys,mi (k+2) z=Λ:=λz hz=>ot (hx z hz).mi (by omega);have hz:(0:Int) < (ys.length:Int)+1:=by omega
      obtain⟨l1,l2⟩:=bU (x / 12) (show(0:Int) < 6 by decide);have jw:ys.length+1<=100:=by simpa using hl
      have OG:=iI (y::ys) (Δ (-1)) Θ;simp only[Qm] at OG;obtain⟨d,hd,hm⟩:=rH (xs:=[D.pl (y::ys),.tup (eD (y::ys) Θ (Δ (-1))),.tup (y::ys++eD (y::ys) (Δ (-1)) Θ),.tup (eD (y::ys) (Δ 1) Θ),.tup (y::ys).reverse,.tup (y::ys++(y::ys))]) l1 (by show x / 12 % 6 < (6:Nat);omega);refine⟨d,?_,λn st=>?_⟩
      ·simp only[Uu,Tx,or_false] at hm;rcases hm with rfl|rfl|rfl|rfl|rfl|rfl;·rfl
       ·exact Be (by simp;omega) yd
       ·refine lx (by rw[Qp];simp;omega) λz hz=>?_;rcases List.mem_append.mp hz with q|q;·exact yd z q
        ·exact yd z (mI q)
       ·exact Be (by simp;omega) yd
       ·exact lx (by simp;omega) λz hz=>yd z (List.mem_reverse.mp hz)
       ·refine lx (by rw[Qp];simp;omega) λz hz=>?_;rcases List.mem_append.mp hz with q|q<;>exact yd z q
      refine call_of (n:=n+deep+1) dv rfl (bc (p:=.d d) (st:=[]) rfl ?_ rfl);refine az (bM (EJ n) aG) ?_;refine ak (bX (st1:=[]) (by simp[af,au,bO,bV,ba,he,hz]) (ak (aS ?_)));have hb:ys.length+1+(eD (y::ys) (Δ (-1)) Θ).length<=16777216:=by omega
      have rV:ys.length+1<=100000:=by omega
      simp only[nt,rB,jh,nv,bh,aX,lK,pS,jg,nu,vY,kS,nr,eW,af,au];simp at hd;simp[aB,bV,ba,hb,rV,hd]
   ·refine last (λn=>?_) λn=>?_
    ·cases pt with
     |str s=>simp[af,au,bO]|int _ _=>simp[af,au,bO]|@tup k xs hl hx=>
      by_cases hz:xs.length=0;·simp[af,au,bO,hz]
      ·have HE:(0:Int) < (xs.length:Int):=by omega
       simp[af,au,bO,bV,ba,he,HE]
    ·cases pt with|str s=>simp[af,au,bO]|int _ _=>simp[af,au,bO,bV,ba,he]|tup _ _=>simp[af,au,bO]
  cases pt with
  |str s=>
   refine rest λn=>?_;by_cases hd:deep=0;·subst hd;simp[af,au]
   ·have:(0:Int) < (deep:Int):=by omega
    simp[af,au,bO,this]
  |int _ _=>
   refine rest λn=>?_;by_cases hd:deep=0;·subst hd;simp[af,au]
   ·have:(0:Int) < (deep:Int):=by omega
    simp[af,au,bO,this]
  |@tup k xs hl hx=>
   by_cases hc:0 < deep/\0 < xs.length/\0 < x % 6
   ·obtain⟨c1,c2,c3⟩:=hc;obtain⟨e,rfl⟩:∃e,deep=e+1:=⟨deep - 1,by omega⟩;have hn:(0:Int) < (xs.length:Int):=by omega
    obtain⟨a1,a2⟩:=bU (x / 6) hn;obtain⟨y,hy,hm⟩:=rH a1 a2;obtain⟨d,sd,hd⟩:=lT e k y (x / 6 / xs.length) (hx y hm);have yd:∀z∈xs,mi (k+2) z=Λ:=λz hz=>ot (hx z hz).mi (by omega);refine⟨.tup (eD xs Θ (Δ (x / 6 % xs.length))++[d]++eD xs (Δ (x / 6 % xs.length+1)) Θ),?_,λn st=>?_⟩
    ·have h1:=iI xs Θ (Δ (x / 6 % xs.length));have h2:=iI xs (Δ (x / 6 % xs.length+1)) Θ;refine lx (by rw[Qp,Qp];simp;omega) λz hz=>?_;rcases List.mem_append.mp hz with q|q
     ·rcases List.mem_append.mp q with q|q;·exact yd z (mI q)
      ·have:z=d:=by simpa using q
       rw[this];exact sd
     ·exact yd z (mI q)
    ·have hd2:∀st,callC Fs (n+(e+1)+1) 16 [.d y,.d (.int (x / 6 / xs.length)),.d (.int e)] st=.ok (.d d) st:=λst=>hd n st;have PB:0 < (xs.length:Int)/\(xs.length:Int) < 1073741824:=by omega
     have f1:∀z:Int,lY .fdiv z xs.length=Δ (z / xs.length):=λz=>bV PB;have f2:∀z:Int,lY .mod z xs.length=Δ (z % xs.length):=λz=>ba hn;have h1:=iI xs Θ (Δ (x / 6 % xs.length));have h2:=iI xs (Δ (x / 6 % xs.length+1)) Θ;refine call_of (n:=n+(e+1)+1) dv rfl (bc (p:=.d _) (st:=[]) rfl ?_ rfl);refine ak (bX (st1:=[]) ?_ (az (cZ (v:=.d (.int (x / 6 % xs.length))) (st1:=[]) ?_) (az (cZ (v:=.d d) (st1:=[]) ?_) (ak (aS ?_)))))
     ·have:(0:Int) < (e:Int)+1:=by omega
      simp[af,au,bO,ba,c3,this,c2]
     ·simp[af,au,bV,f2]
     ·simp[af,au,bV,f1,hy,hd2]
     ·have b1:(eD xs Θ (Δ (x / 6 % xs.length))).length+1<=aB:=by unfold aB;omega
      have b2:(eD xs Θ (Δ (x / 6 % xs.length))).length+1+(eD xs (Δ (x / 6 % xs.length+1)) Θ).length<=aB:=by unfold aB;omega
      have b3:1<=aB:=by decide
      have b4:(eD xs Θ (Δ (x / 6 % xs.length))).length+((eD xs (Δ (x / 6 % xs.length+1)) Θ).length+1)<=aB:=by omega
      simp[af,au,b1,b2,b3,b4]
   ·refine rest λn=>?_;by_cases hd:deep=0;·subst hd;simp[af,au]
    ·have h1:(0:Int) < (deep:Int):=by omega
     by_cases hz:xs.length=0;·simp[af,au,bO,h1,hz]
     ·have HE:(0:Int) < (xs.length:Int):=by omega
      have h6:¬0 < x % 6:=λz=>hc ⟨by omega,by omega,z⟩;simp[af,au,bO,h1,HE,ba];omega
 termination_by deep=>deep
noncomputable def MC(f:D->Str):D->Str
 |.int i=>Qs (toString i)|y=>f y
def txt:Nat->D->Str
 |k+1,.tup [.str nm]=>nm|k+1,.tup [.str nm,a]=>nm++" "++MC (txt k) a|k+1,.tup [.str nm,a,b]=>nm++" "++MC (txt k) a++" "++MC (txt k) b|_,_=>""
noncomputable def tb:Nat->Nat
 |0=>0|k+1=>2*tb k+12
theorem Lz(h:k<=10):tb k<=20000:=by
 have:∀j,j < 11->tb j<=20000:=by decide+kernel
 exact this k (by omega)
theorem j5:∀l,strsOf (l.map λs=>.d (.str s))=Δ l
 |[]=>rfl|s::l=>by simp[strsOf,yi,j5 l]
theorem xl l(hb:(l.map (·.length)).sum+l.length*(" ":Str).length<=1000000):Au (" ":Str) (.d (.pl (l.map .str))) []=Δ (.d (.str (UA " " l))):=by show((strsOf ((l.map D.str).map .d)).bind λts=>_)=_;rw[List.map_map];show((strsOf (l.map λs=>.d (.str s))).bind λts=>_)=_;rw[j5];exact if_pos hb
theorem v8 n{nm:Str}(h:nm≠"letter")xs f(hx:∀y∈xs,∀st,callC Fs n 5 [.d y] st=.ok (.d (.str (f y))) st)(hl:xs.length<=2)(hb:((nm::xs.map f).map (·.length)).sum+(nm::xs.map f).length*(" ":Str).length<=1000000)st:
  callC Fs (n+1) 5 [.d (.tup (.str nm::xs))] st=.ok (.d (.str (UA " " (nm::xs.map f)))) st:=by
 refine call_of oj rfl (bc (p:=.d (.str (UA " " (nm::xs.map f)))) (st:=[]) rfl ?_ rfl);have oU:xs.length<=aB:=by unfold aB;omega
 have hc:bR (callC Fs n) (.comp (.ex (.slice (.var 0) (Δ (.cst (.int 1))) Θ)) 1 [] Θ (.call 5 [.var 0])) [Δ (.d (.tup (.str nm::xs)))] []=.ok (xs.map λy=>.d (.str (f y))) []:=
  yK (f:=λy=>.str (f y)) (by simp[iG]) oU λy hy=>by simp[cy,hx y hy]
 refine az (bM (st1:=[]) (by simp[af,gf,h]) aG) ?_;refine ak (aS ?_);have ha:aa (callC Fs n) (.op .add (.lst Ξ (.fe [.ix (.var 0) (.cst (.int 0))])) (.lst Ξ (.comp (.ex (.slice (.var 0) (Δ (.cst (.int 1))) Θ)) 1 [] Θ (.call 5 [.var 0])))) [Δ (.d (.tup (.str nm::xs)))] []=.ok (.d (.pl ((nm::xs.map f).map .str))) []:=by simp[hc,aB];rw[if_pos (by omega)];rfl
 have hj:=xl (nm::xs.map f) hb;show aa (callC Fs n) (.join (.cst (.str " ")) _) [Δ (.d (.tup (.str nm::xs)))] []=_;rw[je,eW,ax];show(aa (callC Fs n) _ _ _).bind _=_;rw[ha,ax,hj];rfl
theorem uo n(h0:0<=i)(h3:i < 3)st:callC Fs (n+1) 5 [.d (.tup [.str "letter",.int i])] st=.ok (.d (.str (("letter":Str)++" "++Qs (toString i)))) st:=by
 refine call_of oj rfl (bc (p:=.d (.str (("letter":Str)++" "++Qs (toString i)))) (st:=[]) rfl ?_ rfl);have Bg:i.natAbs.log2 < 1920:=S0 (UC _) (by omega);have hs:∀st,Bw .str [.d (.int i)] st=Δ (.d (.str (Qs (toString i)))):=λst=>by show(if i.natAbs.log2 < 1920 then _ else _)=_;rw[if_pos Bg]
 refine ak (bX (st1:=[]) (by simp[af,gf]) (ak (aS ?_)));have ha:aa (callC Fs n) (.lst Ξ (.fe [.cst (.str "letter"),.bf .str [.ix (.var 0) (.cst (.int 1))]])) [Δ (.d (.tup [.str "letter",.int i]))] []=.ok (.d (.pl (([("letter":Str),Qs (toString i)]).map .str))) []:=by simp[hs,aB]
 have hj:=xl [("letter":Str),Qs (toString i)] (by
  have hi:i=0\/i=1\/i=2:=by omega
  rcases hi with rfl|rfl|rfl<;>decide+kernel)
 show aa (callC Fs n) (.join (.cst (.str " ")) _) [Δ (.d (.tup [.str "letter",.int i]))] []=_;rw[je,eW,ax];show(aa (callC Fs n) _ _ _).bind _=_;rw[ha,ax,hj];rfl
theorem v9{i:Int}(h0:0<=i)(h3:i < 3):(("letter":Str)++" "++Qs (toString i)).length=8:=by
 have hi:i=0\/i=1\/i=2:=by omega
 rcases hi with rfl|rfl|rfl<;>decide+kernel
theorem Hu(h:lG cH nm=Δ j):nm.length<=5:=by
 by_cases h1:nm="none";·subst h1;decide+kernel
 by_cases h2:nm="empty";·subst h2;decide+kernel
 by_cases h3:nm="any";·subst h3;decide+kernel
 by_cases h4:nm="then";·subst h4;decide+kernel
 by_cases h5:nm="or";·subst h5;decide+kernel
 by_cases h6:nm="and";·subst h6;decide+kernel
 by_cases h7:nm="not";·subst h7;decide+kernel
 by_cases h8:nm="many";·subst h8;decide+kernel
 simp only[cH,lG,h1,h2,h3,h4,h5,h6,h7,h8,if_false] at h;cases h
theorem Bh(hw:w<=3)(h:pat m w x=Λ):∃j,m=j+1/\((∃i,x=.tup [.str "letter",.int i]/\0<=i/\i < 3)\/
  (∃nm xs,x=.tup (.str nm::xs)/\nm≠"letter"/\nm.length<=5/\xs.length<=2/\∀y∈xs,pat j w y=Λ)):=by
 cases m with
 |zero=>cases h|succ j=>
  refine⟨j,rfl,?_⟩;simp only[pat,PZ] at h;obtain⟨nm,xs,rfl⟩:=oq h.1;by_cases hn:nm="letter"
  ·subst hn;have h1:=h.1;simp only[ez,if_true] at h1
   match xs,h1 with
   |[k],h1=>simp only[rE] at h1;cases k with|int i=>simp only[oo,PZ,qqq] at h1;exact .inl ⟨i,rfl,h1.1,by omega⟩|_=>cases h1
   |[],h1=>cases h1|_::_::_,h1=>cases h1
  ·have h1:=h.1;simp only[ez,if_neg hn,qqq] at h1;have h2:=h.2;simp only[kids,if_neg hn,Rl] at h2;refine .inr ⟨nm,xs,rfl,hn,?_,?_,h2⟩;·exact Hu h1
   ·rcases um nm with z|z|z|z<;>rw[z.1] at h1;·injection h1 with h1;omega
    ·injection h1 with h1;omega
    ·injection h1 with h1;omega
    ·cases h1
theorem uq(a b:Str):(a++b).length=a.length+b.length:=by show(a.cps++b.cps).size=_;rw[Array.size_append];rfl
theorem PC(a b c:Str):a++b++c=a++(b++c):=by show(⟨a.cps++b.cps++c.cps⟩:Str)=⟨a.cps++(b.cps++c.cps)⟩;rw[Ue]
theorem wa(h:C 17 [.d (.tup ys)] st=.ok (.d (.str t)) st)(hl:acc.length+1+t.length<=100000):
  aw C bB [X,Δ (.d (.str acc)),Δ (.d (.tup ys))] st=.ok (.nx [X,Δ (.d (.str (acc++" "++t))),Δ (.d (.tup ys))]) st:=by
 have l1:(" ":Str).length=1:=by decide+kernel
 have l2:(acc++" ").length=acc.length+1:=by rw[uq,l1]
 refine az (bX (st1:=st) (by simp[bO]) (az (cZ (v:=.d (.str (acc++" "++t))) (st1:=st) ?_) aG)) aG;have b1:acc.length+1<=aB:=by unfold aB;omega
 have b2:acc.length+1+t.length<=aB:=by unfold aB;omega
 simp[h,l1,l2,b1,b2]
theorem Hv(h0:0<=i)(h3:i < 3)(hl:acc.length<=100000):
  aw C bB [X,Δ (.d (.str acc)),Δ (.d (.int i))] st=.ok (.nx [X,Δ (.d (.str (acc++" "++Qs (toString i)))),Δ (.d (.int i))]) st:=by
 have l1:(" ":Str).length=1:=by decide+kernel
 have l2:(acc++" ").length=acc.length+1:=by rw[uq,l1]
 have l3:(Qs (toString i)).length=1:=by
  have hi:i=0\/i=1\/i=2:=by omega
  rcases hi with rfl|rfl|rfl<;>decide+kernel
 have Bg:i.natAbs.log2 < 1920:=S0 (UC _) (by omega);have hs:∀st,Bw .str [.d (.int i)] st=Δ (.d (.str (Qs (toString i)))):=λst=>by show(if i.natAbs.log2 < 1920 then _ else _)=_;rw[if_pos Bg]
 generalize Qs (toString i)=t at*;refine az (bM (st1:=st) (by simp[bO]) (az (cZ (v:=.d (.str (acc++" "++t))) (st1:=st) ?_) aG)) aG;have b1:acc.length+1<=aB:=by unfold aB;omega
 have b2:acc.length+1+1<=aB:=by unfold aB;omega
 simp[hs,l1,l2,l3,b1,b2]
theorem rJ n{xs:List D}(hf:forL (rX (.nm 2)) (aw (callC Fs n) bB) (xs.map .d) [Δ (.d (.tup (.str nm::xs))),Δ (.d (.str nm)),Θ] []=
   .ok (.nx [Δ (.d (.tup (.str nm::xs))),Δ (.d (.str fin)),u]) [])st:callC Fs (n+1) 17 [.d (.tup (.str nm::xs))] st=.ok (.d (.str fin)) st:=by
 refine call_of mf rfl (bc (p:=.d (.str fin)) (st:=[]) rfl ?_ rfl);refine az (cZ (v:=.d (.str nm)) (st1:=[]) (by simp[af,cM])) ?_;refine az (A9 (ps:=xs.map .d) (st1:=[]) (by simp[af,cM,iG]) hf) ?_;exact ak (aS (by simp))
theorem xm(h:pat m w x=Λ):∃ys,x=.tup ys:=by cases m with|zero=>cases h|succ j=>simp only[pat,PZ] at h;obtain⟨nm,xs,rfl⟩:=oq h.1;exact⟨_,rfl⟩
theorem ly(hw:w<=3):∀(k m) (x),k<=10->pat m w x=Λ->dp k x=Λ->(txt k x).length<=tb k/\
  (∀n st,callC Fs (n+k) 5 [.d x] st=.ok (.d (.str (txt k x))) st)/\∀n st,callC Fs (n+k) 17 [.d x] st=.ok (.d (.str (txt k x))) st
 |0,m,x,_,hp,hd=>by obtain⟨ys,rfl⟩:=xm hp;cases hd|k+1,m,x,hk,hp,hd=>by
  have l1:(" ":Str).length=1:=by decide+kernel
  have tk:=Lz (k:=k) (by omega);have t1:tb (k+1)=2*tb k+12:=rfl;obtain⟨j,rfl,⟨i,rfl,h0,h3⟩|⟨nm,xs,rfl,hn,hl,hx,hq⟩⟩:=Bh hw hp;·have e:txt (k+1) (.tup [.str "letter",.int i])=("letter":Str)++" "++Qs (toString i):=rfl;rw[e];refine⟨by rw[v9 h0 h3];omega,λn st=>uo (n+k) h0 h3 st,λn st=>?_⟩;refine rJ (n+k) (u:=Δ (.d (.int i))) ?_ st;show((aw (callC Fs (n+k)) bB [_,Δ (.d (.str "letter")),Δ (.d (.int i))] []).bind _)=_;rw[Hv h0 h3 (by decide+kernel)];rfl
  ·have FE:∀y∈xs,dp k y=Λ:=by simp only[dp,Rc,PZ,Rl] at hd;exact hd.2
   have ih:∀y∈xs,(∃ys,y=.tup ys)/\MC (txt k) y=txt k y/\(txt k y).length<=tb k/\(∀n st,callC Fs (n+k) 5 [.d y] st=.ok (.d (.str (txt k y))) st)/\∀n st,callC Fs (n+k) 17 [.d y] st=.ok (.d (.str (txt k y))) st:=λy hy=>by obtain⟨ys,rfl⟩:=xm (hq y hy);exact⟨⟨ys,rfl⟩,rfl,ly hw k j _ (by omega) (hq _ hy) (FE _ hy)⟩
   have tp:=λn hb st=>v8 (n+k) hn xs (txt k) (λy hy=>(ih y hy).2.2.2.1 n) hx hb st
   match xs,hx with
   |[],_=>refine⟨by show nm.length<=_;omega,λn st=>tp n (by simp[l1];omega) st,λn st=>rJ (n+k) (u:=Θ) rfl st⟩|[a],_=>obtain⟨⟨ys,rfl⟩,e1,e2,e3,e4⟩:=ih a (by simp);have e:txt (k+1) (.tup [.str nm,.tup ys])=nm++" "++txt k (.tup ys):=rfl;rw[e];refine⟨by rw[uq,uq,l1];omega,λn st=>tp n (by simp[l1];omega) st,λn st=>rJ (n+k) (u:=Δ (.d (.tup ys))) ?_ st⟩;show((aw (callC Fs (n+k)) bB [_,Δ (.d (.str nm)),Δ (.d (.tup ys))] []).bind _)=_;rw[wa (e4 n []) (by omega)];rfl|[a,b],_=>
    obtain⟨⟨ys,rfl⟩,e1,e2,e3,e4⟩:=ih a (by simp);obtain⟨⟨zs,rfl⟩,f1,f2,f3,f4⟩:=ih b (by simp);have e:txt (k+1) (.tup [.str nm,.tup ys,.tup zs])=nm++" "++txt k (.tup ys)++" "++txt k (.tup zs):=rfl;have e5:UA " " (nm::[D.tup ys,.tup zs].map (txt k))=nm++" "++txt k (.tup ys)++" "++txt k (.tup zs):=by show nm++" "++(txt k (.tup ys)++" "++txt k (.tup zs))=_;simp only[PC]
    rw[e];rw[e5] at tp;have l2:(nm++" "++txt k (.tup ys)).length=nm.length+1+(txt k (.tup ys)).length:=by rw[uq,uq,l1]
    refine⟨by rw[uq,uq,l2,l1];omega,λn st=>tp n (by simp[l1];omega) st,λn st=>rJ (n+k) (u:=Δ (.d (.tup zs))) ?_ st⟩;show((aw (callC Fs (n+k)) bB [_,Δ (.d (.str nm)),Δ (.d (.tup ys))] []).bind _)=_;rw[wa (e4 n []) (by omega)];show((aw (callC Fs (n+k)) bB [_,Δ (.d (.str (nm++" "++txt k (.tup ys)))),Δ (.d (.tup zs))] []).bind _)=_;rw[wa (f4 n []) (by omega)];rfl
   |_::_::_::_,h=>exact absurd h (by simp)
theorem rK n(hw:w<=3)(hx:mi 6 x=Λ)(hp:pat 41 w x=Λ)st:callC Fs (n+46) 6 [.d x,.d (.int w)] st=.ok (.d (.str (txt 6 x))) st:=by
 refine call_of (n:=n+45) vZ rfl (bc (p:=.d (.str (txt 6 x))) (st:=[]) rfl ?_ rfl);have a1:∀st,callC Fs (n+45) 4 [.d x,.d (.int w)] st=.ok (.d (.bl Λ)) st:=λst=>by rw[gF n x w (lr hx) st,hp]
 have a2:∀st,callC Fs (n+45) 5 [.d x] st=.ok (.d (.str (txt 6 x))) st:=λst=>(ly hw 6 41 x (by decide) hp (rF hx)).2.1 (n+39) st;refine az (bM (st1:=[]) (by simp[af,gg,a1]) aG) ?_;exact ak (aS (by simp[af,gg,a2]))
theorem rL n(hx:mi 6 x=Λ)(hp:pat 41 w x=Ξ)st:callC Fs (n+46) 18 [.d x,.d (.int w)] st=.ok (.d (.bl Λ)) st:=by
 refine call_of (n:=n+45) mh rfl (bc (p:=.d (.bl Λ)) (st:=[]) rfl ?_ rfl);have a1:∀st,callC Fs (n+45) 4 [.d x,.d (.int w)] st=.ok (.d (.bl Ξ)) st:=λst=>by rw[gF n x w (lr hx) st,hp]
 refine az (bM (st1:=[]) (by simp[af,du,a1]) aG) ?_;exact ak (aS (by simp))
theorem kh n(hx:mi 6 x=Λ)(hp:pat 41 w x=Ξ)st:callC Fs (n+46) 19 [.d x,.d (.int w)] st=.ok (.d (.bl Λ)) st:=by
 refine call_of (n:=n+45) gh rfl (bc (p:=.d (.bl Λ)) (st:=[]) rfl ?_ rfl);have a1:∀st,callC Fs (n+45) 4 [.d x,.d (.int w)] st=.ok (.d (.bl Ξ)) st:=λst=>by rw[gF n x w (lr hx) st,hp]
 refine az (bM (st1:=[]) (by simp[af,bP,a1]) aG) ?_;exact ak (aS (by simp))
theorem Bi ns(Ci:ns.length<=63):callC Fs 60 20 [.fb ns] []=.ok (.d (.bl Λ)) []:=by
 refine call_of (n:=59) Ht rfl (bc (p:=.d (.bl Λ)) (st:=[]) rfl ?_ rfl);obtain⟨w1,w2⟩:=bU (mixed ns 0) (show(0:Int) < 3 by decide);have hw:(1:Int)<=1+mixed ns 0 % 3/\1+mixed ns 0 % 3<=3:=by omega
 have m0:∀st,callC Fs 59 8 [.fb ns,.d (.int 0)] st=.ok (.d (.int (mixed ns 0))) st:=λst=>gG 57 ns 0 (by decide) st;have m1:∀st,callC Fs 59 8 [.fb ns,.d (.int 1)] st=.ok (.d (.int (mixed ns 1))) st:=λst=>gG 57 ns 1 (by decide) st;have m2:∀st,callC Fs 59 8 [.fb ns,.d (.int 2)] st=.ok (.d (.int (mixed ns 2))) st:=λst=>gG 57 ns 2 (by decide) st;have m3:∀st,callC Fs 59 8 [.fb ns,.d (.int 3)] st=.ok (.d (.int (mixed ns 3))) st:=λst=>gG 57 ns 3 (by decide) st;refine az (cZ (v:=.d (.int (1+mixed ns 0 % 3))) (st1:=[]) (by simp[af,ke,m0,ba])) ?_;generalize 1+mixed ns 0 % 3=w at hw ⊢;obtain⟨d0,p0,q0⟩:=rG (mixed ns 1) w hw;refine az (cZ (v:=.d d0) (st1:=[]) (by simp[af,ke,m1,q0 54])) ?_;have go:∀d:D,mi 6 d=Λ->aw (callC Fs 59) (ke.body.drop 3) [Δ (.fb ns),Δ (.d (.int w)),Δ (.d d),Θ] []=.ok (.rt (.d (.bl Λ))) []:=λd hd=>by
  have l1:∀st,callC Fs 59 14 [.d d,.d (.int w),.d (.int 0)] st=.ok (.d (.bl (pat 41 w d))) st:=λst=>qh w 41 0 (by decide) 16 d st (lr hd);cases hp:pat 41 w d with
  |false=>
   have r1:∀st,callC Fs 59 18 [.d d,.d (.int w)] st=.ok (.d (.bl Λ)) st:=rL 13 hd hp;have r2:∀st,callC Fs 59 19 [.d d,.d (.int w)] st=.ok (.d (.bl Λ)) st:=kh 13 hd hp;refine ak (bX (st1:=[]) (by simp[l1,hp]) ?_);by_cases hk:mixed ns 2 / 18 % 2=0;·exact ak (bX (st1:=[]) (by simp[m2,bV,ba,hk]) (ak (aS (by simp[r1]))))
   ·refine az (bM (st1:=[]) (by simp[m2,bV,ba,hk]) aG) ?_;exact ak (aS (by simp[r2]))
  |true=>have r1:∀st,callC Fs 59 6 [.d d,.d (.int w)] st=.ok (.d (.str (txt 6 d))) st:=rK 13 hw.2 hd hp;have r2:∀st,callC Fs 59 17 [.d d] st=.ok (.d (.str (txt 6 d))) st:=(ly hw.2 6 41 d (by decide) hp (rF hd)).2.2 53;refine az (bM (st1:=[]) (by simp[l1,hp]) aG) ?_;refine az (cZ (v:=.d (.str (txt 6 d))) (st1:=[]) (by simp[r1])) ?_;exact ak (aS (by simp[r1,r2,bO]))
 by_cases h3:mixed ns 2 % 3=1
 ·obtain⟨s1,s2⟩:=bU (mixed ns 2 / 3) (show(0:Int) < 6 by decide);obtain⟨e,he⟩:∃e:Nat,mixed ns 2 / 3 % 6=(e:Int):=⟨(mixed ns 2 / 3 % 6).toNat,by omega⟩;obtain⟨d,sd,hd⟩:=lT e 4 d0 (mixed ns 3) p0;have xu:∀st,callC Fs 59 16 [.d d0,.d (.int (mixed ns 3)),.d (.int (e:Int))] st=.ok (.d d) st:=λst=>by have:=hd (57 - e) st;rwa [show 57 - e+e+2=59 by omega] at this
  refine az (bX (st1:=[]) (by simp[af,ke,m2,ba,h3]) (az (cZ (v:=.d d) (st1:=[]) (by simp[af,ke,m2,m3,bV,ba,he,xu])) aG)) ?_;exact go d sd
 ·refine az (bM (st1:=[]) (by simp[af,ke,m2,ba,h3]) aG) ?_;exact go d0 (ot p0.mi (by decide))
end Ic
namespace Ic
open PySem L2 Y
noncomputable def top(i:Nat):Stmt:=PySem.Challenge.pw_wordyard_k03_written.main.body.getD i (.Pass ⟨0,0,0,0⟩)
abbrev fI:Stmt:=top 6
def ki:Info:=⟨"is_number_below",fI,["thing","end"],["thing","end"],b0⟩
abbrev ou:Stmt:=top 7
def wb:Info:=⟨"has_form",ou,["thing","wide"],["thing","wide"],aV⟩
abbrev ow:Stmt:=top 8
def wc:Info:=⟨"parts_of",ow,["pattern"],["pattern"],fm⟩
abbrev eL:Stmt:=top 9
def iQ:Info:=⟨"is_pattern_within",eL,["thing","wide","others","part"],["thing","wide","others"],bE⟩
abbrev kj:Stmt:=top 10
def rM:Info:=⟨"is_pattern",kj,["thing","wide"],["thing","wide"],eR⟩
abbrev qi:Stmt:=top 12
def yP:Info:=⟨"text_of",qi,["pattern"],["pattern"],gf⟩
abbrev qj:Stmt:=top 13
def iJ:Info:=⟨"written",qj,["pattern","wide"],["pattern","wide"],gg⟩
abbrev ie:Stmt:=top 15
def ox:Info:=⟨"_law_cell_at",ie,["_law_script","_law_k"],["_law_script","_law_k"],cm⟩
abbrev kl:Stmt:=top 16
def rN:Info:=⟨"_law_mixed",kl,["_law_script","_law_k","_law_drawn_here"],["_law_script","_law_k"],dn⟩
abbrev kn:Stmt:=top 17
def rO:Info:=⟨"_law_drawn",kn,["_law_number_here","_law_k","_law_drawn_here"],["_law_number_here","_law_k"],dq⟩
abbrev lU:Stmt:=top 18
def ur:Info:=⟨"_law_leaf",lU,["_law_number_here","_law_wide","_law_kind"],["_law_number_here","_law_wide"],b7⟩
abbrev lV:Stmt:=top 19
def uu:Info:=⟨"_law_part",lV,["_law_number_here","_law_wide","_law_deep","_law_kind","_law_one","_law_other"],["_law_number_here","_law_wide","_law_deep"],bA⟩
abbrev ig:Stmt:=top 20
def oy:Info:=⟨"_law_pattern",ig,["_law_number_here","_law_wide","_law_one","_law_kind"],["_law_number_here","_law_wide"],bW⟩
abbrev i3:Stmt:=top 21
def o9:Info:=⟨"_law_number",i3,["_law_thing","_law_high"],["_law_thing","_law_high"],cD⟩
abbrev fJ:Stmt:=top 22
def kq:Info:=⟨"_law_is_pattern",fJ,["_law_thing","_law_wide","_law_deep"],["_law_thing","_law_wide","_law_deep"],ah⟩
abbrev oz:Stmt:=top 23
def wd:Info:=⟨"_law_odd",oz,["_law_number_here","_law_some"],["_law_number_here"],fu⟩
abbrev i4:Stmt:=top 24
def pd:Info:=⟨"_law_spoilt",i4,["_law_thing","_law_number_here","_law_deep","_law_at","_law_part_here"],["_law_thing","_law_number_here","_law_deep"],au⟩
abbrev ij:Stmt:=top 25
def oA:Info:=⟨"_law_written",ij,["_law_pattern_here","_law_found","_law_part_here"],["_law_pattern_here"],cM⟩
abbrev ik:Stmt:=top 26
def ip:Info:=⟨"_law_refused",ik,["_law_thing","_law_wide"],["_law_thing","_law_wide"],du⟩
abbrev dw:Stmt:=top 27
def dy:Info:=⟨"_law_refused_by_base",dw,["_law_thing","_law_wide","e"],["_law_thing","_law_wide"],bP⟩
abbrev Ef:Stmt:=top 28
def LA:Info:=⟨"law",Ef,["_law_script","_law_wide","_law_thing","_law_found"],["_law_script"],ke⟩
def tx:TX:={is:=[(ki,[]),(wb,[]),(wc,[]),(iQ,[]),(rM,[]),(yP,[]),(iJ,[]),(ox,[]),(rN,[]),(rO,[]),(ur,[]),(uu,[]),(oy,[]),(o9,[]),(kq,[]),(wd,[]),(pd,[]),(oA,[]),(ip,[]),(dy,[]),(LA,[])],O5:=[],cs:=[("MOST_OTHERS",40)],ts:=[("PARTS",cH)],nf:=21,ks:=[],K5:=[18,19]}
theorem is_Fs:tx.Fs=Fs:=rfl
theorem mF:D8 tx=Λ:=by decide+kernel
noncomputable def bmV:List Value:=[.type "ValueError",.type "Exception",.type "BaseException",.type "object"]
section
variable{P:QE}{w:World}{K:P5}{mg:Str->Option Value}{tabs:List (Addr×List (Pos×Str))}{a:Nat->Addr}{fd:Nat->QX}{cP:Nat->Addr×Addr}
theorem Dn(T:jq K mg tx tabs a fd cP)(mC:mg "NoPattern"=Δ (.ref C))(mU:mg "YardError"=Δ (.ref U))(mV:mg "ValueError"=Θ)(q:Us K C bmV "ValueError.__new__"=Λ)(hx:U1 K (.ref C) (.ref U)=Δ Λ)(i1:RE K (.ref C) (.ref C)=Δ Λ)(i2:RE K (.ref C) (.type "ValueError")=Δ Λ):n9 P w K mg tx tabs a fd cP:=by
 intro n base bo DL k i hi hk;obtain⟨D,L⟩:=DL n (P8 n);have W:=Hf (P:=P) (w:=w) (C:=C) (x:="NoPattern") (c:=.not (.call 4 [.var 0,.var 1])) (d:=.call 5 [.var 0]) T D L (k:=6) (i:=(iJ,[])) rfl rfl rfl (by decide+kernel) (by decide+kernel) (by decide+kernel) F.excBase_ValueError (by decide+kernel) F.excBase_ValueError q mC;have hk:k=18\/k=19:=by have:k∈[18,19]:=List.contains_iff_mem.mp hk;simpa using this
 rcases hk with rfl|rfl;·cases hi;exact Hg (kW:=6) (iW:=(iJ,[])) (kp:=4) (kt:=5) (C:=C) T D L rfl (by decide) rfl W (k:=18) (i:=(ip,[])) rfl rfl rfl rfl rfl rfl rfl (by decide+kernel) (by decide+kernel) (by decide+kernel) q (by decide+kernel) mC
 ·cases hi;exact Hh (kW:=6) (iW:=(iJ,[])) (kp:=4) (kt:=5) (C:=C) (U:=U) (ix:=2) T D L rfl (by decide) rfl W (k:=19) (i:=(dy,[])) rfl rfl rfl rfl rfl rfl rfl (by decide+kernel) (by decide+kernel) (by decide+kernel) (by decide+kernel) (by decide+kernel) (by decide+kernel) (by decide+kernel) rfl hx mU mC (T.bl _ (by decide+kernel)) mV rfl i1 i2
end
def tpK(K:P5)(x:Str):Addr:=((Sa K x).map (·.2)).getD 0
theorem PD(h:(Sa K x).map (·.1)=Δ c):Sa K x=Δ (c,tpK K x):=by unfold tpK;cases e:Sa K x with|none=>rw[e] at h;cases h|some p=>rw[e] at h;cases h;rfl
noncomputable def xs:List Str:=[]
noncomputable def PF:List (List (Pos×Str)):=[]
def oB(pt:List (Addr×Addr)):List (Addr×List (Pos×Str)):=(pt.zip PF).map λp=>(p.1.2,p.2)
set_option maxHeartbeats 0 in
theorem all_mk{l:UU}{w:World}{K:P5}{h:Heap}{mg:Str->Option Value}{fa f0 f1 f2 f3 f4 f5 f6 f7 f8 f9 PH PJ PK PL PM PN PQ PR PU PV f20:Addr}{d0 d1 d2 d3 d4 d5 d6 d7 d8 d9 d10 d11 d12 d13 d14 d15 d16 d17 d18 d19 MD:QX}(X:K.In h)(G:h.Ns Qa mg)(hfa:mg "law"=Δ (.ref fa))
  (a0:Qf K Qa "is_number_below"=Δ (Δ (.ref f0)))
  (F0:kK K "is_number_below" "is_number_below" fI f0 d0)
  (a1:Qf K Qa "has_form"=Δ (Δ (.ref f1)))
  (F1:kK K "has_form" "has_form" ou f1 d1)
  (a2:Qf K Qa "parts_of"=Δ (Δ (.ref f2)))
  (F2:kK K "parts_of" "parts_of" ow f2 d2)
  (a3:Qf K Qa "is_pattern_within"=Δ (Δ (.ref f3)))
  (F3:kK K "is_pattern_within" "is_pattern_within" eL f3 d3)
  (a4:Qf K Qa "is_pattern"=Δ (Δ (.ref f4)))
  (F4:kK K "is_pattern" "is_pattern" kj f4 d4)
  (a5:Qf K Qa "text_of"=Δ (Δ (.ref f5)))
  (F5:kK K "text_of" "text_of" qi f5 d5)
  (a6:Qf K Qa "written"=Δ (Δ (.ref f6)))
  (F6:kK K "written" "written" qj f6 d6)
  (a7:Qf K Qa "_law_cell_at"=Δ (Δ (.ref f7)))
  (F7:kK K "_law_cell_at" "_law_cell_at" ie f7 d7)
  (a8:Qf K Qa "_law_mixed"=Δ (Δ (.ref f8)))
  (F8:kK K "_law_mixed" "_law_mixed" kl f8 d8)
  (a9:Qf K Qa "_law_drawn"=Δ (Δ (.ref f9)))
  (F9:kK K "_law_drawn" "_law_drawn" kn f9 d9)
  (a10:Qf K Qa "_law_leaf"=Δ (Δ (.ref PH)))
  (F10:kK K "_law_leaf" "_law_leaf" lU PH d10)
  (a11:Qf K Qa "_law_part"=Δ (Δ (.ref PJ)))
  (F11:kK K "_law_part" "_law_part" lV PJ d11)
  (a12:Qf K Qa "_law_pattern"=Δ (Δ (.ref PK)))
  (F12:kK K "_law_pattern" "_law_pattern" ig PK d12)
  (a13:Qf K Qa "_law_number"=Δ (Δ (.ref PL)))
  (F13:kK K "_law_number" "_law_number" i3 PL d13)
  (a14:Qf K Qa "_law_is_pattern"=Δ (Δ (.ref PM)))
  (F14:kK K "_law_is_pattern" "_law_is_pattern" fJ PM d14)
  (a15:Qf K Qa "_law_odd"=Δ (Δ (.ref PN)))
  (F15:kK K "_law_odd" "_law_odd" oz PN d15)
  (a16:Qf K Qa "_law_spoilt"=Δ (Δ (.ref PQ)))
  (F16:kK K "_law_spoilt" "_law_spoilt" i4 PQ d16)
  (a17:Qf K Qa "_law_written"=Δ (Δ (.ref PR)))
  (F17:kK K "_law_written" "_law_written" ij PR d17)
  (a18:Qf K Qa "_law_refused"=Δ (Δ (.ref PU)))
  (F18:kK K "_law_refused" "_law_refused" ik PU d18)
  (a19:Qf K Qa "_law_refused_by_base"=Δ (Δ (.ref PV)))
  (F19:kK K "_law_refused_by_base" "_law_refused_by_base" dw PV d19)
  (a20:Qf K Qa "law"=Δ (Δ (.ref f20)))
  (PX:kK K "law" "law" Ef f20 MD)
  (LB:Qf K Qa "len"=Δ Θ)
  (LC:Qf K Qa "min"=Δ Θ)
  (LD:Qf K Qa "max"=Δ Θ)
  (LF:Qf K Qa "all"=Δ Θ)
  (LG:Qf K Qa "any"=Δ Θ)
  (LH:Qf K Qa "sum"=Δ Θ)
  (LI:Qf K Qa "str"=Δ Θ)
  (Dp:Qf K Qa "tuple"=Δ Θ)
  (Hw:Qf K Qa "list"=Δ Θ)
  (LJ:Qf K Qa "int"=Δ Θ)
  (Hx:Qf K Qa "bool"=Δ Θ)
  (rP:Qf K Qa "isinstance"=Δ Θ)
  (Dq:Qf K Qa "range"=Δ Θ)
  (LK:Qf K Qa "zip"=Δ Θ)
  (uv:Qf K Qa "enumerate"=Δ Θ)
  (Bj:Qf K Qa "sorted"=Δ Θ)
  {pf:Tok}
  (ph:Qf K Qa "MOST_OTHERS"=Δ (Δ (.int 40 pf)))
  {rQ:Addr} {xn:Obj}
  (Dr:Qf K Qa "PARTS"=Δ (Δ (.ref rQ)))
  (Ds:K.lookup rQ=Δ xn)
  (Dt:E3 xn=Δ cH)
  (Du:(rQ==Ri)=Ξ)
  {Ii U_e:Addr}
  (e_C:Qf K Qa "NoPattern"=Δ (Δ (.ref Ii)))
  (e_U:Qf K Qa "YardError"=Δ (Δ (.ref U_e)))
  (e_V:Qf K Qa "ValueError"=Δ Θ)
  (e_q:Us K Ii bmV "ValueError.__new__"=Λ)
  (e_m:U1 K (.ref Ii) (.ref U_e)=Δ Λ)
  (e_1:RE K (.ref Ii) (.ref Ii)=Δ Λ)
  (e_2:RE K (.ref Ii) (.type "ValueError")=Δ Λ)
  :(xs≠[]->T9 K=Λ)/\∃(tabs:List (Addr×Addr)) (fd:QX),xs.map (Sa K)=tabs.map Δ/\(∀(s:Qd) (v:Value),T3 s fd ⟨[v],[]⟩ [("_law_script",v)])/\
   (∀base:Heap,K.In base->base.Ns Qa mg->(∀q∈tabs,RF base q.1 q.2)->BMain mg base->cz l.prog w K mg base ju (lv 60) fa fd ["_law_script"] (qV (gj tx K base (oB tabs)) (callC Fs 60 20) 1))/\tabs.length=PF.length:=by
 have e:=hfa.symm.trans (Qw X G a20);cases e;have T:jq K mg tx (oB []) (λk=>[f0,f1,f2,f3,f4,f5,f6,f7,f8,f9,PH,PJ,PK,PL,PM,PN,PQ,PR,PU,PV,fa].getD k 0) (λk=>[d0,d1,d2,d3,d4,d5,d6,d7,d8,d9,d10,d11,d12,d13,d14,d15,d16,d17,d18,d19,MD].getD k MD) (λ_=>(0,0)):=by
  refine⟨vX ?_,?_,λx i hx=>?_,λx t hx=>?_,λq hq=>?_,vX ?_⟩;·exact(bz ⟨⟨_,F0⟩,λ_=>Qw X G a0,F0.binds λ_ _ _ _ _ _=>ma λ_ _=>rfl,lq mF (k:=0) rfl⟩ (bz ⟨⟨_,F1⟩,λ_=>Qw X G a1,F1.binds λ_ _ _ _ _ _=>ma λ_ _=>rfl,lq mF (k:=1) rfl⟩ (bz ⟨⟨_,F2⟩,λ_=>Qw X G a2,F2.binds λ_ _ _ _ _ _=>A7 λ_=>rfl,lq mF (k:=2) rfl⟩ (bz ⟨⟨_,F3⟩,λ_=>Qw X G a3,F3.binds λ_ _ _ _ _ _=>Dd λ_ _ _=>rfl,lq mF (k:=3) rfl⟩ (bz ⟨⟨_,F4⟩,λ_=>Qw X G a4,F4.binds λ_ _ _ _ _ _=>ma λ_ _=>rfl,lq mF (k:=4) rfl⟩ (bz ⟨⟨_,F5⟩,λ_=>Qw X G a5,F5.binds λ_ _ _ _ _ _=>A7 λ_=>rfl,lq mF (k:=5) rfl⟩ (bz ⟨⟨_,F6⟩,λ_=>Qw X G a6,F6.binds λ_ _ _ _ _ _=>ma λ_ _=>rfl,lq mF (k:=6) rfl⟩ (bz ⟨⟨_,F7⟩,λ_=>Qw X G a7,F7.binds λ_ _ _ _ _ _=>ma λ_ _=>rfl,lq mF (k:=7) rfl⟩ (bz ⟨⟨_,F8⟩,λ_=>Qw X G a8,F8.binds λ_ _ _ _ _ _=>ma λ_ _=>rfl,lq mF (k:=8) rfl⟩ (bz ⟨⟨_,F9⟩,λ_=>Qw X G a9,F9.binds λ_ _ _ _ _ _=>ma λ_ _=>rfl,lq mF (k:=9) rfl⟩ (bz ⟨⟨_,F10⟩,λ_=>Qw X G a10,F10.binds λ_ _ _ _ _ _=>ma λ_ _=>rfl,lq mF (k:=10) rfl⟩ (bz ⟨⟨_,F11⟩,λ_=>Qw X G a11,F11.binds λ_ _ _ _ _ _=>Dd λ_ _ _=>rfl,lq mF (k:=11) rfl⟩ (bz ⟨⟨_,F12⟩,λ_=>Qw X G a12,F12.binds λ_ _ _ _ _ _=>ma λ_ _=>rfl,lq mF (k:=12) rfl⟩ (bz ⟨⟨_,F13⟩,λ_=>Qw X G a13,F13.binds λ_ _ _ _ _ _=>ma λ_ _=>rfl,lq mF (k:=13) rfl⟩ (bz ⟨⟨_,F14⟩,λ_=>Qw X G a14,F14.binds λ_ _ _ _ _ _=>Dd λ_ _ _=>rfl,lq mF (k:=14) rfl⟩ (bz ⟨⟨_,F15⟩,λ_=>Qw X G a15,F15.binds λ_ _ _ _ _ _=>A7 λ_=>rfl,lq mF (k:=15) rfl⟩ (bz ⟨⟨_,F16⟩,λ_=>Qw X G a16,F16.binds λ_ _ _ _ _ _=>Dd λ_ _ _=>rfl,lq mF (k:=16) rfl⟩ (bz ⟨⟨_,F17⟩,λ_=>Qw X G a17,F17.binds λ_ _ _ _ _ _=>A7 λ_=>rfl,lq mF (k:=17) rfl⟩ (bz ⟨⟨_,F18⟩,λ_=>Qw X G a18,F18.binds λ_ _ _ _ _ _=>ma λ_ _=>rfl,lq mF (k:=18) rfl⟩ (bz ⟨⟨_,F19⟩,λ_=>Qw X G a19,F19.binds λ_ _ _ _ _ _=>ma λ_ _=>rfl,lq mF (k:=19) rfl⟩ (bz ⟨⟨_,PX⟩,λ_=>Qw X G a20,PX.binds λ_ _ _ _ _ _=>A7 λ_=>rfl,lq mF (k:=20) rfl⟩ Hd)))))))))))))))))))))
  ·exact(memC (Qz X G LB) (memC (Qz X G LC) (memC (Qz X G LD) (memC (Qz X G LF) (memC (Qz X G LG) (memC (Qz X G LH) (memC (Qz X G LI) (memC (Qz X G Dp) (memC (Qz X G Hw) (memC (Qz X G LJ) (memC (Qz X G Hx) (memC (Qz X G rP) (memC (Qz X G Dq) (memC (Qz X G LK) (memC (Qz X G uv) (memC (Qz X G Bj) Pa))))))))))))))))
  ·simp only[tx,Ql,List.lookup_nil] at hx;split at hx;·rename_i hq;have hq:=eq_of_beq hq;subst hq;cases hx;exact⟨_,Qw X G ph⟩
   ·cases hx
  ·simp only[tx,Ql,List.lookup_nil] at hx;split at hx;·rename_i hq;have hq:=eq_of_beq hq;subst hq;cases hx;exact⟨_,Qw X G Dr,⟨Du,_,Ds,Dt⟩⟩
   ·cases hx
  ·exact absurd hq (by simp[tx])
  ·exact(bz (λhi=>absurd rfl hi) (bz (λhi=>absurd rfl hi) (bz (λhi=>absurd rfl hi) (bz (λhi=>absurd rfl hi) (bz (λhi=>absurd rfl hi) (bz (λhi=>absurd rfl hi) (bz (λhi=>absurd rfl hi) (bz (λhi=>absurd rfl hi) (bz (λhi=>absurd rfl hi) (bz (λhi=>absurd rfl hi) (bz (λhi=>absurd rfl hi) (bz (λhi=>absurd rfl hi) (bz (λhi=>absurd rfl hi) (bz (λhi=>absurd rfl hi) (bz (λhi=>absurd rfl hi) (bz (λhi=>absurd rfl hi) (bz (λhi=>absurd rfl hi) (bz (λhi=>absurd rfl hi) (bz (λhi=>absurd rfl hi) (bz (λhi=>absurd rfl hi) (bz (λhi=>absurd rfl hi) Hd)))))))))))))))))))))
 refine⟨λ_=>absurd rfl ‹_›,[],MD,by simp only[xs,QD,Th],λs v=>?_,λbase kb nb iR bm=>?_,rfl⟩;·obtain⟨_,_,_,_,_,_,_,_,_,rfl,_⟩:=PX.ex;exact .of_eq rfl
 have bo:eE mg tx (λ_=>(0,0)) base:=⟨vX (bz (λhi=>absurd rfl hi) (bz (λhi=>absurd rfl hi) (bz (λhi=>absurd rfl hi) (bz (λhi=>absurd rfl hi) (bz (λhi=>absurd rfl hi) (bz (λhi=>absurd rfl hi) (bz (λhi=>absurd rfl hi) (bz (λhi=>absurd rfl hi) (bz (λhi=>absurd rfl hi) (bz (λhi=>absurd rfl hi) (bz (λhi=>absurd rfl hi) (bz (λhi=>absurd rfl hi) (bz (λhi=>absurd rfl hi) (bz (λhi=>absurd rfl hi) (bz (λhi=>absurd rfl hi) (bz (λhi=>absurd rfl hi) (bz (λhi=>absurd rfl hi) (bz (λhi=>absurd rfl hi) (bz (λhi=>absurd rfl hi) (bz (λhi=>absurd rfl hi) (bz (λhi=>absurd rfl hi) Hd))))))))))))))))))))),bm⟩;exact(De (P:=l.prog) (w:=w) T (Dn T (Qw X G e_C) (Qw X G e_U) (Qz X G e_V) e_q e_m e_1 e_2) 60).1 base bo 20 _ rfl
theorem walk{l:UU}{K:Params->P5}(hn:l.most=Δ 63)(xQ:d.params.defaults=[])(hY:∀(w:World) (h:Heap),YP w h->(K w.params).In h)(qI:∀y∈xs,((PyProof.Rows.recsOf q).find? (λe=>e.name==y)).isSome=Λ)(F:∀(w:World) (mg:Str->Option Value) (fa:Addr) (h:Heap),(K w.params).In h->h.Ns Qa mg->mg d.name=Δ (.ref fa)->
   (xs≠[]->T9 (K w.params)=Λ)/\∃(tabs:List (Addr×Addr)) (fd:QX),xs.map (Sa (K w.params))=tabs.map Δ/\(∀(s:Qd) (u:Value),T3 s fd ⟨[u],[]⟩ [("_law_script",u)])/\
    (∀base:Heap,(K w.params).In base->base.Ns Qa mg->(∀q∈tabs,RF base q.1 q.2)->BMain mg base->cz l.prog w (K w.params) mg base ju (lv 60) fa fd ["_law_script"] (qV (gj tx (K w.params) base (oB tabs)) (callC Fs 60 20) 1))/\tabs.length=PF.length):
  PySem.W.WalkO q loose XP YP l.row.toRowW d [] (λf vs=>Vz f vs):=
 L2.zX (n:=63) (k:=lv 60) (x:="_law_script") (CX:=λ_=>ju) (sp:=λw _ pt base=>qV (gj tx (K w.params) base (oB pt)) (callC Fs 60 20) 1) xs hn (by decide) xQ ⟨rfl,by decide,by decide⟩ hY (λy hy=>by obtain⟨dr,h⟩:=Option.isSome_iff_exists.mp (qI y hy);exact⟨dr,h⟩) (λw mg fa h X N m=>by obtain⟨h1,tabs,fd,h2,h3,h4,h5⟩:=F w mg fa h X N m;refine⟨h1,tabs,fd,h2,h3,h4,λbase H a ns hl _ _ ho hS=>Df (λt ht=>?_) (Bi ns hl) ho hS⟩;unfold oB at ht;obtain⟨p,hp,rfl⟩:=List.mem_map.mp ht;exact List.mem_map.mpr ⟨p.1,(Sq hp).1,rfl⟩) λ_ _ _ _ _ z=>z
end Ic
open PySem PySem.W PyProof.Rows
set_option maxRecDepth 100000 in
set_option maxHeartbeats 0 in
theorem PySem.Challenge.cw_wordyard_k03_written_holds : PySem.Challenge.rw_wordyard_k03_written.Holds := by
 w_on;o_law;k_head;(case hw=>w_witness2)
 k_fill
 refine Ic.walk (l:=PySem.Challenge.rw_wordyard_k03_written) rfl rfl (λw h Y=>by first|exact PySem.W.kIn_of Y|exact PySem.W.km_in_of Y) (by decide+kernel) ?F
 case F=>intro w mg fa h KX G Jk;refine' Ic.all_mk KX G Jk ?_ ?_ ?_ ?_ ?_ ?_ ?_ ?_ ?_ ?_ ?_ ?_ ?_ ?_ ?_ ?_ ?_ ?_ ?_ ?_ ?_ ?_ ?_ ?_ ?_ ?_ ?_ ?_ ?_ ?_ ?_ ?_ ?_ ?_ ?_ ?_ ?_ ?_ ?_ ?_ ?_ ?_ ?_ ?_ ?_ ?_ ?_ ?_ ?_ ?_ ?_ ?_ ?_ ?_ ?_ ?_ ?_ ?_ ?_ ?_ ?_ ?_ ?_ ?_ ?_ ?_ ?_ ?_ ?_ ?_;all_goals try first|k_is|(refine' L2.EX ?l ?c ?k;(case l=>k_is);(case c=>k_is);(case k=>k_is))|rfl|kernel_rfl
