import PyProof.Rows.All
import Wide.All
import OpenK.AllK
import Wide.FinOn
import Lean
import PyProof.EqAt
import PyProof.EqKinds
import PyProof.TupleCall
import PyProof.NeKinds
import KE.KTab
import PyProof.SliceStr2
import PyProof.StrBlock2
import PyProof.StrBlockI
import PyProof.StrBlockL
import PyProof.Rows.StrNews
import PyProof.StrLawsTight
import PyProof.StrLawsChain
import PyProof.FitsReplace
import KE.KIsNot
import PyProof.ExcArgs
import PyProof.StationsW
import PyProof.ExcClass3
import KE.KTryDeep
import OpenK.KOwn
import KE.KTryMore
import PyProof.ExcBaseAll.ValueError
import PySem.Challenge.RW_wordyard_k04_whole_read
set_option Elab.async false
set_option linter.all false
set_option maxRecDepth 100000
set_option maxHeartbeats 4000000
noncomputable section
open Option renaming some->Δ,none->Θ
open Bool renaming true->Λ,false->Ξ
open PySem renaming wpAny_bind->Pu,wpAny_pure->Py,Shared->PJ,mainGlobals->PL,sizeLine->PQ,starEach->P5,wpAny_callSpecial?_slot->Qp,Program->Qr,wpAny_field->Qs,wpAny_newObj_type->Qt,wpAny_holding->Qu,compareOp->QA,wpAny_call_entry->QF,sizeLine_eq->QG,Around->QJ,wpAny_truthy_bool->QN,wpAny_loadPart'->QW,wpAny_mono->QY,sysModules->QZ,mem_of_lookup->Q7,wpAny_setField_rec->Rf,wpAny_Call_Name_kw->Rg,Spec->Rh,wpAny_seqItems->Rk,binaryOp->Rl,FuncData->Rn,backTo->Rp,bootBuiltins->Rt,wpAny_pyIter_tuple->Rx,IsPair->RA,wpAny_passesOwn->RG,call_meets->RK,attributeBase->RL,keywordEach->RY,Builtin->R1,wpAny_execs_nil->R3,wpAny_attempt->R6,NameKind->Sb,getItem->Sg,wpAny_binaryOp_repeat_ref->Sn,wpAny_rule->Su,tupleKind_room_in1->Sv,sliceBounds->Sy,wpAny_pyIter_enum->SG,codeAny_mono->SH,codeAny->SI,typeIs_int->S2,swapsWith->S3,wpAny_updateSeq_pair->S9,backToKw->Ta,wpAny_updateSeq->Tb,letOwnedTupleGo->Tc,wpAny_typeOf->To,call_meetsIn->Tp,typeIs_str->Tw,wpAny_sequenceKey->TQ,wpAny_letGo->TR,wpAny_Call_method->TU,foldedSetIterable->TV,Keyword->T4,wpAny_onRaise->T7,pyNext->T8,Comprehension->Uc,wpAny_isInstance->Ug,wpAny_execs_cons->Uh,tupleKind->Ui,noFill_tuple_add->Uj,getMethod->Uk,valueAt->Ut,standAt->Uu,holding->Uv,builtinsNs->Ux,assignEach->Uy,IsPart->UC,ExcBaseFacts->UD,wpAny_specialOf->UE,codeAny_builtin->UG,wpAny_setField->UM,subscripted->UN,isSubtype_stop->UO,callerA->UR,wpAny_standAt->UW,seq_tuple_add->UY,evalPart_none->UZ,behindInMarks->U0,wpAny_call->U4,rawInt->U5,isInstance->U6,Paired->U7,seqIndex_neg->U9,concat_meets->Va,compEnvC->Vb,callWith->Vc,Within->Ve,BindsTo->Vh,updateSeq->Vj,typeOf->Vk,strValues->Vl,isTrue->Vm,wpAny_of_eq->Vn,seqIndex_of->Vo,relabel->Vr,leaving->Vs,wpAny_Name->Vt,typeLookup->Vu,closureFor->Vv,call->Vw,Operator->Vx,pyIter->Vy
open Bool renaming and_eq_true->Pw,not_eq_true'->PY,false_ne_true->Ql,false_eq_true->QD,or_eq_true->Th,or_false->Ud,not_true->Ue
open PySem.Heap renaming get?_push_of_some->Px,lt_size->PK,get?_push_size->PR,get?_update_other->Qx,get?_update_self->QR,size_push->QU,SameBut->Q5,size_update->S7,HeldW->U8,IsTuple->Vf
open List renaming mem_cons_of_mem->Pz,mem_cons_self->PC,size_toArray->PF,isEmpty_iff->PM,length_cons->PU,getElem?_eq_getElem->PV,length_map->PX,lookup_cons->P7,getElem?_append_left->P8,mem_append_right->P9,getElem?_map->Qa,length_append->Qh,getElem?_append_right->Qk,replicate->Qo,map_cons->Qq,mem_append_left->QB,getElem?_set_self->QC,append_nil->QK,append_assoc->QQ,range->Q0,getD_eq_getElem?_getD->Q4,lookup->Q9,find?_cons->Ra,all_eq_true->Ri,getElem?_set_ne->Rm,length_range->Ro,any_cons->Rw,drop_eq_getElem_cons->RF,mem_of_getElem?->RI,all_cons->RO,filterMap_cons->RP,getElem?_replicate->RV,filter_cons_of_pos->RW,filter_cons_of_neg->RX,length_set->R4,forIn_cons->R5,drop_zero->Sd,drop_length->Sl,any_eq_true->Sm,mem_map_of_mem->So,reverse_cons->SS,forIn_nil->SU,length_replicate->SY,not_mem_nil->S5,foldl->S6,of_mem_zip->Tf,replicate_succ->Tn,map_nil->Ts,length->T3,mem_cons->Ub,length_take->Ul,length_drop->Um,getElem_mem->Uo,length_nil->UK,sum_cons->U1,map_take->U2,map_drop->U3
open PySem.W renaming Frag->PD,nsIn->PN,mg_none_of->Qc,findIn->Qi,mg_of->Qn,kitOne->Qw,kia_one->QE,emptyDict->QO,instObj->Rq,keepIn->Rz,tabIn->RM,CodeHd->RQ,plainGet->Sj,isFn->Sk,hasDictIn->SJ,fnOf->SK,methodCall_KW->SV,plainGet_of->Tj,noTabs->TC,lookIn->TF,exmOne->TH,callWith_K->TJ,plainOver->TY,methodObj->TZ,clsIn->T9,takerIn->UH,makesIn->UI,OpenLaw->UJ,tabObj->UP,codeIn->UQ
open Nat renaming le_refl->PH,lt_of_lt_of_le->P0,ne_of_lt->Qe,le_trans->Qj,zero_le->QH,ne_of_gt->QX,lt_irrefl->Rj,min_le_right->RS,lt_succ_self->RT,le_add_right->RU,le_succ->RZ,lt_of_sub_eq_succ->R8,sub_succ_lt_self->Sa,min_le_left->Te,zero_add->Tq,le_of_lt->Tr,add_right_comm->TK,le_of_eq->UA
open PySem.Value renaming ref->PZ,none->Ry,type->R0,int->Sh,bool->Sw,str->Sz,float->Vp
open Option.some renaming inj->P4
open PySem.NameKind renaming free->P6,cell->QS
open PySem.Builtin.SmallTypes renaming nextOf->Qb,ownedTupleIsFree->QV
open PySem.Str renaming join->Qd,ofString->Qg,length->Uz
open PySem.Builtin.Tuple renaming tupleExact->Qf,tupleTooMany->QI,tupleItemsOf->Sf
open PySem.Txt renaming split->Qm,slice_le->Si,slice->Tv,mul->Vd
open PySem.Builtin.Slice renaming slicePlaces->Qv,sliceAdjust->QL,sliceApplied->RC
open PyProof.Rows renaming callWith_type1->Qy,slot_tuple_getitem->Qz,kindOf->S4,subscriptTail->S8,boot_isinstance->Td,entry_tuple_getitem->Ti,AllBare->Tu,slicePart_none->Tx,args_tuple_getitem->Tz,envOfC->Uw,boot_list->US,tupleItemsOf_->UX
open True renaming intro->QM
open Ne renaming symm->QP
open List.cons renaming inj->QT
open False renaming elim->Q1
open PySem.Builtin.Str renaming occurrences->Q2,partsBetween->Ss
open PySem.F renaming slot_tuple_iterator_next->Q3,slot_int_rmul->Rc,slot_enumerate_next->Ru,plain_extend_loop->RD,plainAttrs_dict->RR,slot_zip_next->R7,args_tuple_mul_2->Sq,args_tuple_add_2->Sr,entry_tuple_mul->SA,entry_tuple_add->SD,args_int_rmul_2->SF,slot_tuple_mul->SN,slot_tuple_add->SO,entry_int_rmul->SQ,fills_int_mul->SX,args_str_split_2->TM,entry_str_split->T6,slot_str_split->Ur
open PySem.Calls renaming callWith_builtin->Q6,spliced_cons->RB,evalArgs_plain->RJ,spliced_nil->R9,Name_function_global->Se
open Array renaming length_toList->Q8,getElem?_toList->S0,append_assoc->TN
open Option renaming isNone_iff_eq_none->Rb,isSome_map->SR
open ForInStep renaming yield->Rr
open PySem.Builtin.List renaming listExtendWith->Rv
open PyProof.Rows.KTD.Dat renaming flat->RE,flat->UB
open PySem.Obj renaming mapSeq->RN,data_mapFields->Sx
open PySem.StrLaws renaming join_split->TB
open Int renaming emod_lt_of_pos->TL,toNat_natCast->T5,toNat->Uq,emod_nonneg->UL
open PySem.Paired renaming length->Ua
open PyProof.Rows.IsTup renaming new->Up
open PySem.AutoSeq1 renaming idx_int->Us
open Sum renaming inr->UT,inl->UU
open PySem.Code renaming isFrame->Vg
open PySem.Around renaming under->Vi
open PySem.Shared renaming heap->Vq
namespace PySem.W.Fast
def tw5277275067062907841:=0
def tw15600517293654529434:=0
def tw8869808748478572614:=0
def tw2427785336720321152:=0
def tw5160945220097209660:=0
def tw15638563286963221333:=0
def tw13055366415501098340:=0
def tw2787363414688049503:=0
def tw13478640623169122097:=0
def tw13909119168727644212:=0
def tw11770420743062559814:=0
def tw12190398316250803827:=0
def tw6920113282857819705:=0
def tw17927453530239966478:=0
def tw9662401286109864388:=0
def tw8021242692113502336:=0
def tw11426838456340917198:=0
def tw3741510292469280215:=0
def tw8989861934895054259:=0
def tw12138208938500259219:=0
def tw11921858850944998180:=0
def tw3363942959039042334:=0
def tw14405118446374774936:=0
def tw18034412033029538530:=0
def tw6487750053200774388:=0
def tw4934032622195002961:=0
def tw3886185244933325208:=0
def tw6412187991300712050:=0
def tw6980927143838621594:=0
def tw11493227575949413490:=0
def tw14984608063262334932:=0
def tw9268563053852323494:=0
def tw12725970291003908916:=0
def tw5893435449940035578:=0
def tw401485201748684847:=0
def tw12177804055668683602:=0
def tw172625684871070692:=0
def tw540185831047082650:=0
def tw1212783809479868402:=0
def tw1520142929902687498:=0
def tw11254426812186309519:=0
def tw8400196888968055093:=0
def tw664167933470953373:=0
end PySem.W.Fast
theorem qqq{p:Prop}[Decidable p]:(decide p=Bool.true)=p:=decide_eq_true_eq
theorem qqz{A:Type u}{l:List A}{i:Nat}{a:A}(h:l[i]?=Option.some a):∃h:i<l.length,l[i]=a:=List.getElem?_eq_some_iff.mp h
theorem ft{g:Prop}(h:Ξ=Λ):g:=Bool.noConfusion h
namespace L2
open PySem PySem.Spec PyProof.Rows
abbrev Key:=Sum Int Str
noncomputable def n4:Key->Value->Bool
 |.inl k,v=>Value.isInt k v|.inr x,v=>Value.isStrOf x v
noncomputable def My(w:World):Key->Int
 |.inl k=>hashInt k|.inr x=>hashStr w x
theorem bM:∀{k} {v},n4 k v=Λ->(∃i t,k=UU i/\v=Sh i t)\/(∃x t,k=UT x/\v=Sz x t)
 |.inl i,v,h=>by obtain⟨t,e⟩:=Value.isInt_shape (k:=i) (v:=v) h;exact .inl ⟨i,t,rfl,e⟩|.inr x,v,h=>by obtain⟨t,e⟩:=Value.isStrOf_shape (x:=x) (v:=v) h;exact .inr ⟨x,t,rfl,e⟩
theorem wx i t:n4 (.inl i) (.int i t)=Λ:=by simp[n4,Value.isInt]
theorem wy x t:n4 (.inr x) (.str x t)=Λ:=by simp[n4,Value.isStrOf]
theorem DQ a b:decide ((UU a:Key)=UU b)=(a==b):=by
 by_cases e:a=b;·subst e;simp
 ·have h:¬(UU a:Key)=UU b:=λq=>e (UU.inj q);rw[decide_eq_false h];exact(beq_eq_false_iff_ne.mpr e).symm
theorem DR a b:decide ((UT a:Key)=UT b)=decide (a=b):=by
 by_cases e:a=b;·subst e;simp
 ·have h:¬(UT a:Key)=UT b:=λq=>e (UT.inj q);rw[decide_eq_false h,decide_eq_false e]
theorem DS a b:decide ((UU a:Key)=UT b)=Ξ:=decide_eq_false (λq=>nomatch q)
theorem DT a b:decide ((UT a:Key)=UU b)=Ξ:=decide_eq_false (λq=>nomatch q)
def bg(prog:Qr)(w:World):PySem.KeyKind prog w Key where
 is:=n4
 hash:=My w
 inj:=λv a b ha hb=>by
  rcases bM ha with ⟨i,t,rfl,rfl⟩|⟨x,t,rfl,rfl⟩
  ·rcases bM hb with ⟨j,u,rfl,e⟩|⟨y,u,rfl,e⟩
   ·injection e with e1 _;rw[e1]
   ·exact nomatch e
  ·rcases bM hb with ⟨j,u,rfl,e⟩|⟨y,u,rfl,e⟩
   ·exact nomatch e
   ·injection e with e1 _;rw[e1]
 byValue:=λk v h=>by rcases bM h with ⟨i,t,rfl,rfl⟩|⟨x,t,rfl,rfl⟩<;>rfl
 pyHash:=λhv h=>by
  rcases bM hv with ⟨i,t,rfl,rfl⟩|⟨x,t,rfl,rfl⟩
  ·exact wpAny_pyHash_int h
  ·exact wpAny_pyHash_str h
 eqBool:=λhu hv h=>by
  rcases bM hu with ⟨i,t,rfl,rfl⟩|⟨x,t,rfl,rfl⟩
  ·rcases bM hv with ⟨j,u,rfl,rfl⟩|⟨y,u,rfl,rfl⟩
   ·rw[DQ] at h;exact wpAny_eqBool_int h
   ·rw[DS] at h;exact SeqAt.EqAt.int_str i t y u _ _ _ _ h
  ·rcases bM hv with ⟨j,u,rfl,rfl⟩|⟨y,u,rfl,rfl⟩
   ·rw[DT] at h;exact SeqAt.EqAt.str_int x t j u _ _ _ _ h
   ·rw[DR] at h;exact wpAny_eqBool_str h
 «strs»:=λk x t v h=>by
  rcases bM h with ⟨i,u,rfl,e⟩|⟨y,u,rfl,e⟩
  ·exact nomatch e
  ·injection e with e1 _;subst e1;cases v<;>rfl
theorem qK prog w i t:(bg prog w).is (.inl i) (.int i t)=Λ:=wx i t
theorem qL prog w x t:(bg prog w).is (.inr x) (.str x t)=Λ:=wy x t
inductive V where
 |aU|bl (b:Bool)|int (i:Int)|str (x:Str)|He (b:Array UInt8)|DU (b:UInt64)|ref (a:Addr)|ty (n:String)
 deriving DecidableEq
noncomputable def RelV:V->Value->Prop
 |.aU,u=>u=Ry|.bl b,u=>u=Sw b|.int i,u=>∃t,u=Sh i t|.str x,u=>∃t,u=Sz x t|.He b,u=>∃t,u=Value.bytes b t|.DU b,u=>∃t,u=Vp b t|.ref a,u=>u=PZ a|.ty n,u=>u=R0 n
abbrev aL:List V->List Value->Prop:=U7 RelV
theorem aL.length(r:aL xs us):xs.length=us.length:=Ua r
theorem aL.get:∀{xs} {us} {i:Nat} {x},aL xs us->xs[i]?=Δ x->∃u,us[i]?=Δ u/\RelV x u
 |_,_,_,_,.nil,e=>by simp at e|_,_,0,_,.cons r _,e=>by simp at e;subst e;exact⟨_,rfl,r⟩|_,_,i+1,x,.cons _ t,e=>by obtain⟨u,h1,h2⟩:=aL.get (i:=i) (x:=x) t (by simpa using e);exact⟨u,by simpa using h1,h2⟩
theorem aL.set(r:RelV x u):∀{xs} {us} (i),aL xs us->aL (xs.set i x) (us.set i u)
 |_,_,_,.nil=>.nil|_,_,0,.cons _ t=>.cons r t|_,_,i+1,.cons q t=>.cons q (aL.set r i t)
theorem aL.append:∀{xs ys} {us ws},aL xs us->aL ys ws->aL (xs++ys) (us++ws)
 |_,_,_,_,.nil,s=>s|_,_,_,_,.cons r t,s=>.cons r (aL.append t s)
theorem aL.take:∀{xs} {us} (n),aL xs us->aL (xs.take n) (us.take n)
 |_,_,0,_=>.nil|_,_,_+1,.nil=>.nil|_,_,n+1,.cons r t=>.cons r (aL.take n t)
theorem aL.drop:∀{xs} {us} (n),aL xs us->aL (xs.drop n) (us.drop n)
 |_,_,0,r=>r|_,_,_+1,.nil=>.nil|_,_,n+1,.cons _ t=>aL.drop n t
def gh:Option V->Option Value->Prop
 |some v,Δ u=>RelV v u|none,Θ=>True|_,_=>False
def KV{κ:Type}:List (κ×V)->List (κ×Value)->Prop:=U7 λ(p:κ×V) (q:κ×Value)=>p.1=q.1/\RelV p.2 q.2
def kV:Key->V
 |.inl i=>.int i|.inr x=>.str x
inductive HO where
 |lst (xs:List V)
 |tup (xs:List V)
 |dK (kvs:List (Key×V))|dT (kvs:List (List Key×V))
 |set (S:Int->Bool) (n:Nat)
 |ins (C dx:Addr) (fs:List (Str×V))
 |own (x:Addr)
 |xd (fs:List (Str×V))
 |met (f x:Addr)
 |gd (lo hi:Int)
 |cC (o:Obj) (u:HO)
 |iz (ps:Array Value)
 |ext (φ:Heap->Prop)
abbrev Hp:=Addr->Option HO
noncomputable def upd(H:Hp)(a:Addr)(o:HO):Hp:=λb=>if b=a then Δ o else H b
theorem aF:upd H a o a=Δ o:=by unfold upd;rw[if_pos rfl]
theorem aw(h:b≠a):upd H a o b=H b:=by unfold upd;rw[if_neg h]
theorem vo:upd (upd H a o) a u=upd H a u:=by funext b;unfold upd;split<;>rfl
theorem C8{H:Hp}(h:H a=Δ o)(h':H b=Δ u)(d:o≠u):a≠b:=by intro e;subst e;rw[h] at h';exact d (P4 h')
theorem aN{H:Hp}(h:H a=Δ o)(h':H b=Θ):a≠b:=by intro e;subst e;rw[h] at h';cases h'
section
variable(P:Qr)(w:World)
def bA(H:Hp)(h:Heap)(a:Addr):HO->Prop
 |.lst xs=>xs.length<=PQ/\∃(aD:List Value) (n:Nat),aL xs aD/\h.get? a=Δ {cls:=.type "list",data:=.seq aD.toArray n}|.tup xs=>xs.length<=PQ/\∃aD:List Value,aL xs aD/\IsTup h a aD.toArray|.dK kvs=>kvs.length<=PQ/\(a==QZ)=Ξ/\∃vs,KV kvs vs/\h.DictOf (bg P w) a vs
 |.dT kvs=>kvs.length<=PQ/\(a==QZ)=Ξ/\∃xs:List (List Key×Addr×Value),
   U7 (λ(p:List Key×V) (q:List Key×Addr×Value)=>p.1=q.1/\H q.2.1=Δ (.tup (p.1.map kV))/\RelV p.2 q.2.2) kvs xs/\
   ∃o es ep,h.get? a=Δ o/\o.ExactDict/\o.data=.dict es ep/\es.toList=xs.map (entryOfKey (Ui (bg P w)))/\(xs.map (·.1)).Nodup
 |.set S n=>h.SetOf (intKind P w) a S n
 |.ins C dx fs=>H dx=Δ (.own a)/\fs.length<=1000/\dx≠a/\h.get? a=Δ (Rq C dx)/\
   ∃mA,h.Ns1 dx mA/\(∀f,gh (fs.lookup f) (mA f))/\Ve mA (fs.map (·.1))
 |.own _=>∃o,h.get? a=Δ o|.xd fs=>∃mA,h.Ns1 a mA/\∀f,gh (fs.lookup f) (mA f)|.gd lo hi=>∃t u v,h.get? a=Δ {cls:=.type "range",data:=.fields #[.int lo t,.int hi u,.int 1 v]}|.cC o u=>h.get? a=Δ o/\bA H h a u|.iz ps=>h.get? a=Δ {cls:=.none,data:=.fields ps}|.met f x=>h.get? a=Δ (TZ (.ref f) (.ref x))|.ext φ=>φ h/\(∃o,h.get? a=Δ o)/\∀h1 h2:Heap,φ h1->(∀o,h1.get? a=Δ o->h2.get? a=Δ o)->φ h2
def gf(H:Hp)(h:Heap):Prop:=∀a o,H a=Δ o->bA P w H h a o
end
section
variable{P:Qr}{w:World}{H H':Hp}{h h':Heap}{a:Addr}{o:HO}
theorem bA.lt(x:bA P w H h a o):a < h.objs.size:=by cases o with|lst xs=>obtain⟨_,_,_,_,e⟩:=x;exact PK e|tup xs=>obtain⟨_,_,_,p⟩:=x;exact p.lt|dK kvs=>obtain⟨_,_,_,_,o,_,_,e,_⟩:=x;exact PK e|dT kvs=>obtain⟨_,_,_,_,o,_,_,e,_⟩:=x;exact PK e|set S n=>obtain⟨o,_,_,_,e,_⟩:=x;exact PK e|ins C dx fs=>obtain⟨_,_,_,e,_⟩:=x;exact PK e|own y=>obtain⟨_,e⟩:=x;exact PK e|xd fs=>obtain⟨_,⟨_,_,_,e,_⟩,_⟩:=x;exact PK e|gd lo hi=>obtain⟨_,_,_,e⟩:=x;exact PK e|cC ob u=>obtain⟨e,_⟩:=x;exact PK e|iz ps=>exact PK (show h.get? a=Δ _ from x)|met f y=>exact PK (show h.get? a=Δ _ from x)|ext φ=>obtain⟨_,⟨_,e⟩,_⟩:=x;exact PK e
theorem U7.DV:∀{yq} {yr},U7 F yq yr->(∀a b,F a b->G a b)->U7 G yq yr
 |_,_,.nil,_=>.nil|_,_,.cons r t,f=>.cons (f _ _ r) (U7.DV t f)
theorem bA.jP(x:bA P w H h a o)(k:∀b u,(b=a\/H b=Δ (.own a))->h.get? b=Δ u->h'.get? b=Δ u)
  (ho:∀b,H b=Δ (.own a)->H' b=Δ (.own a)) (ht:∀b xs,H b=Δ (.tup xs)->H' b=Δ (.tup xs)):bA P w H' h' a o:=by
 induction o with
 |lst xs=>obtain⟨z,aD,n,r,e⟩:=x;exact⟨z,aD,n,r,k _ _ (.inl rfl) e⟩|tup xs=>obtain⟨z,aD,r,ob,e,c⟩:=x;exact⟨z,aD,r,ob,k _ _ (.inl rfl) e,c⟩|dK kvs=>obtain⟨z,y,vs,r,ob,es,ep,e,c⟩:=x;exact⟨z,y,vs,r,ob,es,ep,k _ _ (.inl rfl) e,c⟩|dT kvs=>obtain⟨z,y,xs,r,ob,es,ep,e,c⟩:=x;exact⟨z,y,xs,U7.DV r λp q z=>⟨z.1,ht _ _ z.2.1,z.2.2⟩,ob,es,ep,k _ _ (.inl rfl) e,c⟩
 |set S n=>obtain⟨ob,es,ep,t,e,c⟩:=x;exact⟨ob,es,ep,t,k _ _ (.inl rfl) e,c⟩|ins C dx fs=>obtain⟨d,z,ne,e,mA,⟨od,es,ep,e2,c⟩,r⟩:=x;exact⟨ho _ d,z,ne,k _ _ (.inl rfl) e,mA,⟨od,es,ep,k _ _ (.inr d) e2,c⟩,r⟩
 |own y=>obtain⟨ob,e⟩:=x;exact⟨ob,k _ _ (.inl rfl) e⟩|xd fs=>obtain⟨mA,⟨od,es,ep,e,c⟩,r⟩:=x;exact⟨mA,⟨od,es,ep,k _ _ (.inl rfl) e,c⟩,r⟩|gd lo hi=>obtain⟨t,u,v,e⟩:=x;exact⟨t,u,v,k _ _ (.inl rfl) e⟩|cC ob u ih=>obtain⟨e,q⟩:=x;exact⟨k _ _ (.inl rfl) e,ih q⟩|iz ps=>have e:h.get? a=Δ {cls:=.none,data:=.fields ps}:=x;show h'.get? a=Δ {cls:=.none,data:=.fields ps};exact k a _ (.inl rfl) e
 |met f y=>have e:h.get? a=Δ (TZ (.ref f) (.ref y)):=x;show h'.get? a=Δ (TZ (.ref f) (.ref y));exact k a _ (.inl rfl) e|ext φ=>obtain⟨p,⟨o,e⟩,st⟩:=x;exact⟨st _ _ p λo q=>k _ _ (.inl rfl) q,⟨o,k _ _ (.inl rfl) e⟩,st⟩
theorem gf.lt(x:gf P w H h)(e:H a=Δ o):a < h.objs.size:=(x a o e).lt
theorem gf.fresh(x:gf P w H h)(e:h.objs.size<=a):H a=Θ:=by cases q:H a with|none=>rfl|some u=>exact absurd (P0 (x.lt q) e) (Rj _)
theorem gf.kept(x:gf P w H h)(k:∀b u,h.get? b=Δ u->h'.get? b=Δ u):gf P w H h':=λa o e=>(x a o e).jP (λb u _ q=>k b u q) (λ_ q=>q) λ_ _ q=>q
theorem gf.laid(x:gf P w H h)(k:∀b u,h.get? b=Δ u->h'.get? b=Δ u)(hp:h.objs.size<=a)(new:bA P w (upd H a o) h' a o):gf P w (upd H a o) h':=λb u e=>by
 have hn:=x.fresh hp;by_cases hb:b=a;·subst hb;rw[aF] at e;cases e;exact new
 ·rw[aw hb] at e;exact(x b u e).jP (λc v _ q=>k c v q) (λc q=>by rw[aw (aN q hn)];exact q) λc xs q=>by rw[aw (aN q hn)];exact q
end
noncomputable def Rd(H:Hp)(a:Addr)(u:HO):Prop:=H a=Δ u\/∃o,H a=Δ (.cC o u)
theorem Rd.ok(r:Rd H a u)(x:gf P w H h):bA P w H h a u:=by
 rcases r with r|⟨o,r⟩;·exact x a u r
 ·obtain⟨_,q⟩:=x a _ r;exact q
noncomputable def HP:Option HO->Prop
 |some (.lst _)=>True|some (.dK _)=>True|some (.dT _)=>True|some (.set _ _)=>True|some (.ins _ _ _)=>True|some (.ext _)=>True|_=>False
section
variable{P:Qr}{w:World}{H:Hp}{h h':Heap}{x e:Addr}{o':HO}
theorem gf.write(ok:gf P w H h)(mu:HP (H x))(he:e=x\/H e=Δ (.own x))(k:∀b u,b≠e->h.get? b=Δ u->h'.get? b=Δ u)(Hf:∃u,h'.get? e=Δ u)
  (new:bA P w (upd H x o') h' x o'):gf P w (upd H x o') h':=λb u q=>by
 have HQ:∀c y,H c=Δ (.own y)->c≠x:=λc y r z=>by subst z;rw[r] at mu;exact mu
 have Mz:∀c xs,H c=Δ (.tup xs)->c≠x:=λc xs r z=>by subst z;rw[r] at mu;exact mu
 by_cases hb:b=x;·subst hb;rw[aF] at q;cases q;exact new
 ·rw[aw hb] at q;by_cases DW:b=e
  ·have q':H b=Δ (.own x):=by
    rcases he with z|z;·exact absurd (DW.trans z) hb
    ·rw[DW];exact z
   rw[q] at q';cases q';obtain⟨v,hv⟩:=Hf;exact⟨v,by rw[DW];exact hv⟩
  ·refine(ok b u q).jP (λc v hc r=>k c v ?_ r) (λc r=>by rw[aw (HQ c b r)];exact r) λc xs r=>by rw[aw (Mz c xs r)];exact r
   rcases hc with rfl|hc;·exact DW
   ·rintro rfl;rcases he with z|z;·exact HQ c b hc z
    ·rw[hc] at z;cases z;exact hb rfl
end
structure Un(fs ex:List Addr)(H H':Hp)(h h':Heap):Prop where
 keep:∀b o,h.get? b=Δ o->H b=Θ->b∉fs->b∉ex->h'.get? b=Δ o
 slot:∀b o,h.get? b=Δ o->H b=Θ->b∈fs->b∉ex->∃sl,h'.get? b=Δ {o with slots:=sl}
 free:∀b o,h.get? b=Δ o->H b=Θ->b∉ex->H' b=Θ
 there:∀b o,h.get? b=Δ o->b∉ex->∃o',h'.get? b=Δ o'
 kQ:∀b xs,H b=Δ (.tup xs)->H' b=Δ (.tup xs)
 i4:∀b o u,H b=Δ (.cC o u)->H' b=Δ (.cC o u)
 jQ:∀b ps,H b=Δ (.iz ps)->∃more,H' b=Δ (.iz (ps++more))
section
variable{fs C9 ex ex':List Addr}{H H1 H2:Hp}{h h1 h2 h':Heap}{a x e:Addr}{o:HO}
theorem Un.any(u:Un fs ex H H1 h h1)(q:h.get? b=Δ ob)(n:H b=Θ)(hx:b∉ex):∃sl,h1.get? b=Δ {ob with slots:=sl}:=by
 by_cases hb:b∈fs;·exact u.slot b ob q n hb hx
 ·exact⟨ob.slots,u.keep b ob q n hb hx⟩
theorem Un.kept(k:∀b u,h.get? b=Δ u->h'.get? b=Δ u):Un fs ex H H h h':=
 ⟨λb ob q _ _ _=>k b ob q,λb ob q _ _ _=>⟨ob.slots,k b ob q⟩,λ_ _ _ n _=>n,λb ob q _=>⟨ob,k b ob q⟩,λ_ _ q=>q,λ_ _ _ q=>q,λ_ ps q=>⟨#[],by rw[q];simp⟩⟩
theorem Un.refl:Un fs ex H H h h:=Un.kept λ_ _ q=>q
theorem Un.laid(k:∀b u,h.get? b=Δ u->h'.get? b=Δ u)(hp:h.objs.size<=a)(hn:H a=Θ):Un fs ex H (upd H a o) h h' where
 keep:=λb u q _ _ _=>k b u q
 slot:=λb u q _ _ _=>⟨u.slots,k b u q⟩
 free:=λb u q n _=>by rw[aw (Qe (P0 (PK q) hp))];exact n
 there:=λb u q _=>⟨u,k b u q⟩
 kQ:=λb xs q=>by rw[aw (aN q hn)];exact q
 i4:=λb u xs q=>by rw[aw (aN q hn)];exact q
 jQ:=λb ps q=>⟨#[],by rw[aw (aN q hn),q];simp⟩
theorem Un.write(mu:HP (H x))(he:e=x\/H e=Δ (.own x))(k:∀b u,b≠e->h.get? b=Δ u->h'.get? b=Δ u)(Hf:∃u,h'.get? e=Δ u):Un fs ex H (upd H x o) h h':=by
 have hx:∀b,H b=Θ->b≠x:=λb n z=>by subst z;rw[n] at mu;exact mu
 have hb:∀b,H b=Θ->b≠e:=λb n z=>by
  subst z;rcases he with r|r;·exact hx b n r
  ·rw[n] at r;cases r
 have hm:∀b u,H b=Δ u->¬HP (Δ u)->b≠x:=λb u q nm z=>by subst z;rw[q] at mu;exact nm mu
 refine⟨λb u q n _ _=>k b u (hb b n) q,λb u q n _ _=>⟨u.slots,k b u (hb b n) q⟩,λb u q n _=>by rw[aw (hx b n)];exact n,λb u q _=>?_,
  λb xs q=>by rw[aw (hm b _ q λz=>z)];exact q,λb u xs q=>by rw[aw (hm b _ q λz=>z)];exact q,λb ps q=>⟨#[],by rw[aw (hm b _ q λz=>z),q];simp⟩⟩
 by_cases DW:b=e;·subst DW;exact Hf
 ·exact⟨u,k b u DW q⟩
end
noncomputable def lj(h:Heap)(H:Hp):List Addr:=(Q0 h.objs.size).filter λa=>(H a).isSome
def lL(h:Heap)(H:Hp):Heap:=PySem.W.hideAll h (lj h H)
theorem wz h H:(lL h H).objs.size=h.objs.size:=PySem.W.hideAll_size _ _
theorem yt(e:h.get? b=Δ o)(n:H b=Θ):(lL h H).get? b=Δ o:=
 PySem.W.hideAll_get _ e λhm=>by have q:(H b).isSome=Λ:=(List.mem_filter.mp hm).2;rw[n] at q;simp at q
theorem A9(e:(lL h H).get? b=Δ o):h.get? b=Δ o/\H b=Θ:=by have e':h.get? b=Δ o:=PySem.W.of_hideAll (lj h H) e;refine⟨e',?_⟩;cases q:H b with|none=>rfl|some x=>have hm:b∈lj h H:=List.mem_filter.mpr ⟨List.mem_range.mpr (PK e'),by simp[q]⟩;have z:(lL h H).get? b=Θ:=PySem.W.hideAll_none (lj h H) hm;rw[z] at e;cases e
structure Mod(K:PD)(mg:Str->Option Value)(base:Heap):Prop where
 tu:K.In base
 glob:base.Ns PL mg
 blt:∃mb,base.Ns Ux mb/\∀x:Str,x≠"__name__"->mb x=Rt x
 nolimit:base.NoLimit
structure Cx where
 prog:Qr
 w:World
 K:PD
 mg:Str->Option Value
 base:Heap
 A:QJ
 N:List Str
 cQ:PJ
 kR:Hp
 env:Env
 outer:List Env
 stack:List Env
 ex:List Addr
 fn:Str->Bool
 calm:Bool
 pn:List (Addr×Obj)
 xe:Value->PJ->Prop
def gi(l:List Env):List Addr:=l.filterMap (·.frame)
abbrev Cx.fs(X:Cx):List Addr:=gi X.outer
def Lv(sc:Scope)(x:Str):Prop:=sc.names.lookup x=Δ .local\/sc.names.lookup x=Δ .cell\/sc.names.lookup x=Δ .free
def Loc(sc:Scope)(x:Str):Prop:=sc.names.lookup x=Δ .local\/sc.names.lookup x=Δ .cell
def Look(env:Env)(h:Heap)(m:Str->Option Value)(x:Str)(u:Value):Prop:=
 (env.kindOf x=Δ .local/\m x=Δ u)\/((env.kindOf x=Δ .cell\/env.kindOf x=Δ .free)/\∃c,env.cells.lookup x=Δ c/\h.IsCell c (Δ u))
structure Cx.Ok(X:Cx):Prop where
 mod:Mod X.K X.mg X.base
 kind:X.env.scope.kind=.function
 glob:X.env.globals=PL
 blt:X.env.builtins=Ux
 above:X.cQ.heap.objs.size<=X.env.locals
 inj:∀x y c,X.env.cells.lookup x=Δ c->X.env.cells.lookup y=Δ c->x=y
 has:∀x,(X.env.kindOf x=Δ .cell\/X.env.kindOf x=Δ .free)->∃c,X.env.cells.lookup x=Δ c
 Dc:∀x c,X.fn x=Λ->X.env.cells.lookup x=Δ c->X.cQ.heap.objs.size<=c
 hd:X.calm=Λ->X.A.handled=Θ
 frames:X.A.frames=Δ X.stack
 DX:X.stack=X.outer\/(X.stack=X.env::X.outer/\X.env.frame=Δ X.env.locals)
 HR:∀b∈X.ex,b≠X.env.locals/\∀x c,X.env.cells.lookup x=Δ c->c≠b
 bs:∀b o,X.base.get? b=Δ o->X.cQ.heap.get? b=Δ o/\X.kR b=Θ
 yg:X.base.objs.size<=X.cQ.heap.objs.size
 qM:∀b o,X.base.get? b=Δ o->b∉X.ex
 tF:∀b∈X.ex,b∉X.fs
 eM:X.cQ.heap.FunFrames X.base X.outer
 tG:∀b∈X.fs,X.kR b=Θ
structure Inv(X:Cx)(η:List (Addr×Obj))(σ:List (Option V))(H:Hp)(s:PJ):Prop where
 ok:X.Ok
 os:s.os=X.cQ.os
 bare:Tu s.gens
 base:Un X.fs X.ex X.kR H X.cQ.heap s.heap
 loc:∃m,s.heap.Ns X.env.locals m/\∀(i:Nat) (x:Str) (v:V),X.N[i]?=Δ x->σ[i]?=Δ (Δ v)->Lv X.env.scope x->∃u,RelV v u/\Look X.env s.heap m x u
 cell:∀x c,X.env.cells.lookup x=Δ c->∃v,s.heap.IsCell c v
 free:H X.env.locals=Θ
 dI:∀x c,X.env.cells.lookup x=Δ c->H c=Θ
 pin:∀p∈X.pn++η,s.heap.get? p.1=Δ p.2/\H p.1=Θ/\p.1≠X.env.locals/\p.1∉X.fs/\∀v,p.2.data≠.cell v
 aQ:gf X.prog X.w H s.heap
 len:σ.length=X.N.length
section
variable{X:Cx}{η:List (Addr×Obj)}{σ:List (Option V)}{H H':Hp}{s:PJ}{h':Heap}
theorem Cx.Ok.MA(ok:X.Ok)(e:X.base.get? b=Δ o):b∉X.fs:=λhb=>by have:=(ok.eM.mem hb).1;rw[e] at this;cases this
theorem Inv.bs(I:Inv X η σ H s):∀b o,X.base.get? b=Δ o->s.heap.get? b=Δ o/\H b=Θ:=λb o e=>⟨I.base.keep b o (I.ok.bs b o e).1 (I.ok.bs b o e).2 (I.ok.MA e) (I.ok.qM b o e),I.base.free b o (I.ok.bs b o e).1 (I.ok.bs b o e).2 (I.ok.qM b o e)⟩
theorem Inv.bk(I:Inv X η σ H s):∀b o,X.base.get? b=Δ o->s.heap.get? b=Δ o:=λb o e=>(I.bs b o e).1
theorem Inv.mod(I:Inv X η σ H s):Mod X.K X.mg X.base:=I.ok.mod
theorem Inv.iY(I:Inv X η σ H s):X.K.In s.heap:=I.ok.mod.tu.keeps I.bk
theorem Inv.lt(I:Inv X η σ H s):X.env.locals < s.heap.objs.size:=let ⟨_,hn,_⟩:=I.loc;hn.lt
theorem Inv.sz(I:Inv X η σ H s):X.cQ.heap.objs.size<=s.heap.objs.size:=Qj I.ok.above (Tr I.lt)
theorem Inv.MB(I:Inv X η σ H s)(h:s.heap.objs.size<=a):a∉X.fs:=λhb=>by obtain⟨_,o,ho,_⟩:=I.ok.eM.mem hb;exact absurd (P0 (PK ho) (Qj I.sz h)) (Rj _)
theorem Inv.Dd(I:Inv X η σ H s):∀x c,X.env.cells.lookup x=Δ c->c≠X.env.locals:=λx c e z=>by obtain⟨v,o,ho,hd⟩:=I.cell x c e;obtain⟨m,⟨o',es,ep,ll,yu,_⟩,_⟩:=I.loc;rw[z,ll] at ho;cases ho;rw[yu] at hd;cases hd
theorem Inv.eM(I:Inv X η σ H s):s.heap.FunFrames X.base X.outer:=by
 have all:∀(l:List Env),(∀b∈gi l,b∈X.fs)->X.cQ.heap.FunFrames X.base l->s.heap.FunFrames X.base l:=by intro l;induction l with|nil=>intro _ _;trivial|cons env r ih=>intro hs hl;obtain⟨hk,⟨L,o,hf,hn,ho,hd⟩,hr⟩:=hl;have hL:L∈X.fs:=hs L (by unfold gi;rw[RP,hf];exact PC);obtain⟨sl,e⟩:=I.base.slot L o ho (I.ok.tG L hL) hL λz=>I.ok.tF L z hL;exact⟨hk,⟨L,_,hf,hn,e,hd⟩,ih (λb hb=>hs b (by unfold gi;rw[RP,hf];exact Pz _ hb)) hr⟩
 exact all X.outer (λ_ hb=>hb) I.ok.eM
theorem Inv.stack(I:Inv X η σ H s):s.heap.FunFrames X.base X.stack:=by
 rcases I.ok.DX with e|⟨e,hf⟩;·rw[e];exact I.eM
 ·rw[e];obtain⟨m,hn,_⟩:=I.loc;refine .cons (by rw[I.ok.kind];decide) hf hn ?_ I.eM;exact Heap.get?_none_of_le (Qj I.ok.yg I.ok.above)
theorem Inv.pw(I:Inv X η σ H s):∀b∈gi X.stack,b∈X.env.locals::X.fs:=λb hb=>by
 rcases I.ok.DX with e|⟨e,hf⟩;·rw[e] at hb;exact Pz _ hb
 ·rw[e] at hb;unfold gi at hb;rw[RP,hf] at hb;exact hb
theorem Inv.vp(I:Inv X η σ H s):∀b∈gi X.stack,H b=Θ:=λb hb=>by
 rcases Ub.mp (I.pw b hb) with e|hb;·rw[e];exact I.free
 ·obtain⟨_,o,ho,_⟩:=I.ok.eM.mem hb;exact I.base.free b o ho (I.ok.tG b hb) λz=>I.ok.tF b z hb
theorem Inv.step{ch:List Addr}(I:Inv X η σ H s)(AS:∀b∈ch,(b∈X.ex\/X.cQ.heap.objs.size<=b)/\b≠X.env.locals/\(∀x c,X.env.cells.lookup x=Δ c->c≠b)/\∀p∈X.pn++η,p.1≠b)(keep:∀b o,b≠X.env.locals->b∉X.fs->b∉ch->s.heap.get? b=Δ o->H b=Θ->h'.get? b=Δ o)(slot:∀b o,b≠X.env.locals->b∈X.fs->b∉ch->s.heap.get? b=Δ o->H b=Θ->∃sl,h'.get? b=Δ {o with slots:=sl})(free:∀b o,b∉ch->s.heap.get? b=Δ o->H b=Θ->H' b=Θ)(there:∀b o,b∉ch->s.heap.get? b=Δ o->∃o',h'.get? b=Δ o')(kQ:∀b xs,H b=Δ (.tup xs)->H' b=Δ (.tup xs))(i4:∀b o u,H b=Δ (.cC o u)->H' b=Δ (.cC o u))(jQ:∀b ps,H b=Δ (.iz ps)->∃more,H' b=Δ (.iz (ps++more)))(ns:∀m,s.heap.Ns X.env.locals m->h'.Ns X.env.locals m)(aQ:gf X.prog X.w H' h')(hg:Tu g'):
  Inv X η σ H' {s with heap:=h',gens:=g',drawn:=d',toks:=t'}:=by
 have neL:∀b o,X.cQ.heap.get? b=Δ o->b≠X.env.locals:=λb o e=>Qe (P0 (PK e) I.ok.above);have Lw:∀b o,X.cQ.heap.get? b=Δ o->b∉X.ex->b∉ch:=λb o e hx hb=>by
  rcases(AS b hb).1 with z|z;·exact hx z
  ·exact absurd (P0 (PK e) z) (Rj _)
 have cellK:∀x c,X.env.cells.lookup x=Δ c->∀v,s.heap.IsCell c v->h'.IsCell c v:=λx c e v ⟨o,ho,hd⟩=>by
  have HS:c∉ch:=λz=>(AS c z).2.2.1 x c e rfl;by_cases hc:c∈X.fs;·obtain⟨sl,q⟩:=slot c o (I.Dd x c e) hc HS ho (I.dI x c e);exact⟨_,q,hd⟩
  ·exact⟨o,keep c o (I.Dd x c e) hc HS ho (I.dI x c e),hd⟩
 refine⟨I.ok,I.os,hg,⟨λb o e n hb hx=>?_,λb o e n hb hx=>?_,λb o e n hx=>?_,λb o e hx=>?_,λb xs e=>kQ b xs (I.base.kQ b xs e),λb o xs e=>i4 b o xs (I.base.i4 b o xs e),λb ps e=>?_⟩,?_,λx c e=>?_,?_,λx c e=>?_,λp hp=>?_,aQ,I.len⟩;·exact keep b o (neL b o e) hb (Lw b o e hx) (I.base.keep b o e n hb hx) (I.base.free b o e n hx)
 ·obtain⟨sl,e1⟩:=I.base.slot b o e n hb hx;obtain⟨MC,e2⟩:=slot b _ (neL b o e) hb (Lw b o e hx) e1 (I.base.free b o e n hx);exact⟨MC,e2⟩
 ·obtain⟨o',e1⟩:=I.base.there b o e hx;exact free b o' (Lw b o e hx) e1 (I.base.free b o e n hx)
 ·obtain⟨o',e1⟩:=I.base.there b o e hx;exact there b o' (Lw b o e hx) e1
 ·obtain⟨m1,e1⟩:=I.base.jQ b ps e;obtain⟨m2,e2⟩:=jQ b _ e1;exact⟨m1++m2,by rw[e2,TN]⟩
 ·obtain⟨m,hn,hl⟩:=I.loc;refine⟨m,ns m hn,λi x v e1 e2 e3=>?_⟩;obtain⟨u,r,l⟩:=hl i x v e1 e2 e3;refine⟨u,r,?_⟩;rcases l with l|⟨k,c,e,z⟩;·exact .inl l
  ·exact .inr ⟨k,c,e,cellK x c e _ z⟩
 ·obtain⟨v,z⟩:=I.cell x c e;exact⟨v,cellK x c e v z⟩
 ·obtain⟨m,⟨o,_,_,ho,_⟩,_⟩:=I.loc;exact free _ o (λz=>(AS _ z).2.1 rfl) ho I.free
 ·obtain⟨v,o,ho,hd⟩:=I.cell x c e;exact free c o (λz=>(AS c z).2.2.1 x c e rfl) ho (I.dI x c e)
 ·obtain⟨e,n,ne,nf,d⟩:=I.pin p hp;have HS:p.1∉ch:=λz=>(AS p.1 z).2.2.2 p hp rfl;exact⟨keep p.1 p.2 ne nf HS e n,free p.1 p.2 HS e n,ne,nf,d⟩
theorem Inv.un(I:Inv X η σ H s)(u:Un X.fs [] H H' s.heap h')(aQ:gf X.prog X.w H' h'):Inv X η σ H' {s with heap:=h',toks:=t'}:=by obtain⟨m,⟨o,es,ep,ho,r⟩,_⟩:=id I.loc;obtain⟨sl,hL⟩:=u.any ho I.free (by simp);exact I.step (g':=s.gens) (d':=s.drawn) (ch:=[]) (λ_ z=>nomatch z) (λb o _ hb _ e n=>u.keep b o e n hb (by simp)) (λb o _ hb _ e n=>u.slot b o e n hb (by simp)) (λb o _ e n=>u.free b o e n (by simp)) (λb o _ e=>u.there b o e (by simp)) u.kQ u.i4 u.jQ (λm' hm=>by obtain⟨o',Lx,Ly,ll,r'⟩:=hm;rw[ho] at ll;cases ll;exact⟨_,Lx,Ly,hL,r'⟩) aQ I.bare
theorem Inv.call(I:Inv X η σ H s)(u:Un (gi X.stack) ch H H' s.heap h')(aQ:gf X.prog X.w H' h')(hg:Tu g')(AS:∀b∈ch,(b∈X.ex\/X.cQ.heap.objs.size<=b)/\b≠X.env.locals/\(∀x c,X.env.cells.lookup x=Δ c->c≠b)/\∀p∈X.pn++η,p.1≠b):
  Inv X η σ H' {s with heap:=h',gens:=g',drawn:=d',toks:=t'}:=by
 obtain⟨m,⟨o,es,ep,ho,r⟩,_⟩:=id I.loc;obtain⟨sl,hL⟩:=u.any ho I.free λz=>(AS _ z).2.1 rfl;exact I.step (ch:=ch) AS (λb o hL hb hc e n=>u.keep b o e n (λz=>(Ub.mp (I.pw b z)).elim hL hb) hc) (λb o _ _ hc e n=>u.any e n hc) (λb o hc e n=>u.free b o e n hc) (λb o hc e=>u.there b o e hc) u.kQ u.i4 u.jQ (λm' hm=>by obtain⟨o',Lx,Ly,ll,r'⟩:=hm;rw[ho] at ll;cases ll;exact⟨_,Lx,Ly,hL,r'⟩) aQ hg
theorem Inv.turned(I:Inv X η σ H s)(k:∀b o,b≠it->s.heap.get? b=Δ o->h'.get? b=Δ o)(hn:H it=Θ)(hL:it≠X.env.locals)(h1:it∈X.ex\/X.cQ.heap.objs.size<=it)(h2:∀x c,X.env.cells.lookup x=Δ c->c≠it)(h3:∀p∈X.pn++η,p.1≠it):Inv X η σ H {s with heap:=h',toks:=t'}:=by
 have yv:∀b u,H b=Δ u->b≠it:=λb u e z=>by rw[z,hn] at e;cases e
 refine I.step (g':=s.gens) (d':=s.drawn) (ch:=[it]) (λb hb=>?_) (λb o _ _ hc e _=>k b o (λz=>hc (by simp[z])) e) (λb o _ _ hc e _=>⟨o.slots,k b o (λz=>hc (by simp[z])) e⟩) (λ_ _ _ _ n=>n)
  (λb o hc e=>⟨o,k b o (λz=>hc (by simp[z])) e⟩) (λ_ _ e=>e) (λ_ _ _ e=>e) (λb ps e=>⟨#[],by rw[e];simp⟩) (λm hm=>?_) (λb u e=>?_) I.bare
 ·have e:b=it:=by simpa using hb
  subst e;exact⟨h1,hL,h2,h3⟩
 ·obtain⟨o,es,ep,ho,r⟩:=hm;exact⟨o,es,ep,k _ o (QP hL) ho,r⟩
 ·refine(I.aQ b u e).jP (λc v hc q=>k c v ?_ q) (λ_ q=>q) λ_ _ q=>q;rcases hc with z|z;·rw[z];exact yv b u e
  ·exact yv c _ z
theorem Inv.tok(I:Inv X η σ H s)t:Inv X η σ H {s with toks:=t}:=I.un (h':=s.heap) (t':=t) Un.refl I.aQ
theorem Inv.kept(I:Inv X η σ H s)(k:∀b u,s.heap.get? b=Δ u->h'.get? b=Δ u):Inv X η σ H {s with heap:=h',toks:=t'}:=I.un (Un.kept k) (I.aQ.kept k)
theorem Inv.laid(I:Inv X η σ H s)(k:∀b u,s.heap.get? b=Δ u->h'.get? b=Δ u)(hp:s.heap.objs.size<=a)(new:bA X.prog X.w (upd H a o) h' a o):
  Inv X η σ (upd H a o) {s with heap:=h',toks:=t'}:=I.un (Un.laid k hp (I.aQ.fresh hp)) (I.aQ.laid k hp new)
theorem Inv.write(I:Inv X η σ H s)(mu:HP (H x))(he:e=x\/H e=Δ (.own x))(k:∀b u,b≠e->s.heap.get? b=Δ u->h'.get? b=Δ u)(Hf:∃u,h'.get? e=Δ u)(new:bA X.prog X.w (upd H x o) h' x o):Inv X η σ (upd H x o) {s with heap:=h',toks:=t'}:=I.un (Un.write mu he k Hf) (I.aQ.write mu he k Hf new)
theorem Inv.lq(I:Inv X η σ H s)(h:∀p∈dc,s.heap.get? p.1=Δ p.2/\H p.1=Θ/\p.1≠X.env.locals/\p.1∉X.fs/\∀v,p.2.data≠.cell v):Inv X dc σ H s:=
 ⟨I.ok,I.os,I.bare,I.base,I.loc,I.cell,I.free,I.dI,λp hp=>(List.mem_append.mp hp).elim (λz=>I.pin p (QB _ z)) (h p),I.aQ,I.len⟩
theorem gj{N:List Str}(hN:N.Nodup){i j:Nat}(a:N[i]?=Δ x)(b:N[j]?=Δ x):i=j:=by obtain⟨h1,e1⟩:=qqz a;obtain⟨h2,e2⟩:=qqz b;exact(List.getElem_inj hN).mp (e1.trans e2.symm)
theorem wA(I:Inv X η σ H s)(hN:X.N.Nodup)(hi:X.N[i]?=Δ x)(hx:Loc X.env.scope x)(r:RelV v u)(h:∀s',Inv X η (σ.set i (Δ v)) H s'->(∃a,Q5 a s.heap s'.heap/\(a=X.env.locals\/X.env.cells.lookup x=Δ a))->Q () s')(hf:X.fn x=Λ\/X.env.scope.names.lookup x=Δ .local:=by first|exact .inl rfl|exact .inr rfl|assumption):wpAny M A (storeName X.env x u) Q E s:=by
 obtain⟨m,hn,hl⟩:=id I.loc;have MD:(X.env.scope.kind==.class||(X.env.scope.kind==.module&&X.env.locals !=X.env.globals))=Ξ:=by rw[I.ok.kind];rfl
 have HU:i < σ.length:=by rw[I.len];exact(qqz hi).1
 have Dd:=I.Dd;have tracked:∀{a:Addr} {h':Heap},(∃o,s.heap.get? a=Δ o/\H a=Θ)->Q5 a s.heap h'->gf X.prog X.w H h':=λ{a h'} ha hs b ob e=>by
  obtain⟨_,_,De⟩:=ha;refine(I.aQ b ob e).jP (λc w' hc q=>(hs.2 c ?_).trans q) (λ_ q=>q) λ_ _ q=>q;rintro rfl;rcases hc with rfl|hc;·rw[De] at e;cases e
  ·rw[De] at hc;cases hc
 rcases hx with hk|hk
 ·refine wpAny_storeName_local hk hn (λh' pz hs=>?_) MD;obtain⟨oL,_,_,hoL,_⟩:=id hn;refine h _ ⟨I.ok,I.os,I.bare,⟨λb o e n hb hx=>?_,λb o e n hb hx=>?_,I.base.free,λb o e hx=>?_,I.base.kQ,I.base.i4,I.base.jQ⟩,⟨_,pz,λj y v' e1 e2 e3=>?_⟩,λy c e=>?_,I.free,I.dI,λp hp=>?_,tracked ⟨oL,hoL,I.free⟩ hs,by simpa using I.len⟩ ⟨_,hs,.inl rfl⟩;·exact(hs.2 b (Qe (P0 (PK e) I.ok.above))).trans (I.base.keep b o e n hb hx)
  ·obtain⟨sl,e1⟩:=I.base.slot b o e n hb hx;exact⟨sl,(hs.2 b (Qe (P0 (PK e) I.ok.above))).trans e1⟩
  ·obtain⟨o',e1⟩:=I.base.there b o e hx;exact⟨o',(hs.2 b (Qe (P0 (PK e) I.ok.above))).trans e1⟩
  ·by_cases hj:j=i;·subst hj;rw[hi] at e1;cases e1;rw[QC HU] at e2;cases e2;exact⟨u,r,.inl ⟨hk,by simp⟩⟩
   ·rw[Rm (QP hj)] at e2;obtain⟨u',r',q⟩:=hl j y v' e1 e2 e3;refine⟨u',r',?_⟩;rcases q with ⟨k,e⟩|⟨k,c,e,z⟩
    ·refine .inl ⟨k,?_⟩;have:y≠x:=λe=>hj (gj hN e1 (e▸hi));simp[this,e]
    ·exact .inr ⟨k,c,e,z.sameBut hs (Dd y c e)⟩
  ·obtain⟨w',z⟩:=I.cell y c e;exact⟨w',z.sameBut hs (Dd y c e)⟩
  ·obtain⟨e,n,ne,nf,d⟩:=I.pin p hp;exact⟨(hs.2 p.1 ne).trans e,n,ne,nf,d⟩
 ·have HV:X.fn x=Λ:=by
   rcases hf with z|z;·exact z
   ·rw[z] at hk;cases hk
  obtain⟨c,hc⟩:=I.ok.has x (.inl hk);obtain⟨w',z⟩:=I.cell x c hc;refine wpAny_storeName_cell I.ok.kind hk hc z (λh' HW hs=>?_);obtain⟨oc,hoc,ME⟩:=id z;refine h {s with heap:=h'} ⟨I.ok,I.os,I.bare,⟨λb o e n hb hx=>?_,λb o e n hb hx=>?_,I.base.free,λb o e hx=>?_,I.base.kQ,I.base.i4,I.base.jQ⟩,⟨m,hn.sameBut hs (QP (Dd x c hc)),λj y v' e1 e2 e3=>?_⟩,λy c' e=>?_,I.free,I.dI,λp hp=>?_,tracked ⟨oc,hoc,I.dI x c hc⟩ hs,by simpa using I.len⟩ ⟨c,hs,.inr hc⟩;·exact(hs.2 b (Qe (P0 (PK e) (I.ok.Dc x c HV hc)))).trans (I.base.keep b o e n hb hx)
  ·obtain⟨sl,e1⟩:=I.base.slot b o e n hb hx;exact⟨sl,(hs.2 b (Qe (P0 (PK e) (I.ok.Dc x c HV hc)))).trans e1⟩
  ·obtain⟨o',e1⟩:=I.base.there b o e hx;exact⟨o',(hs.2 b (Qe (P0 (PK e) (I.ok.Dc x c HV hc)))).trans e1⟩
  ·by_cases hj:j=i;·subst hj;rw[hi] at e1;cases e1;rw[QC HU] at e2;cases e2;exact⟨u,r,.inr ⟨.inl hk,c,hc,HW⟩⟩
   ·rw[Rm (QP hj)] at e2;obtain⟨u',r',q⟩:=hl j y v' e1 e2 e3;refine⟨u',r',?_⟩;rcases q with q|⟨k,c',e,z'⟩;·exact .inl q
    ·refine .inr ⟨k,c',e,z'.sameBut hs ?_⟩;rintro rfl;exact hj (gj hN e1 (I.ok.inj _ _ _ e hc▸hi))
  ·by_cases hcc:c'=c;·subst hcc;exact⟨_,HW⟩
   ·obtain⟨w2,z2⟩:=I.cell y c' e;exact⟨w2,z2.sameBut hs hcc⟩
  ·obtain⟨e,n,ne,nf,d⟩:=I.pin p hp;refine⟨(hs.2 p.1 ?_).trans e,n,ne,nf,d⟩;intro q;rw[q,hoc] at e;have q':oc=p.2:=P4 e;exact d w' (by rw[<-q'];exact ME)
theorem lM(I:Inv X η σ H s)(hN:X.N.Nodup)(hi:X.N[i]?=Δ x)(hx:Loc X.env.scope x)(r:RelV v u)(h:∀s',Inv X η (σ.set i (Δ v)) H s'->Q () s')(hf:X.fn x=Λ\/X.env.scope.names.lookup x=Δ .local:=by first|exact .inl rfl|exact .inr rfl|assumption):wpAny M A (storeName X.env x u) Q E s:=
 wA I hN hi hx r (λs' I' _=>h s' I') hf
theorem Inv.HX(I:Inv X η σ H s)(ho:s'.os=s.os)(u:Un (gi X.stack) ch H H' s.heap s'.heap)(aQ:gf X.prog X.w H' s'.heap)(hg:Tu s'.gens)(AS:∀b∈ch,(b∈X.ex\/X.cQ.heap.objs.size<=b)/\b≠X.env.locals/\(∀x c,X.env.cells.lookup x=Δ c->c≠b)/\∀p∈X.pn++η,p.1≠b):Inv X η σ H' s':=by obtain⟨h',g',d',t',o'⟩:=s';have e:o'=s.os:=ho;subst e;exact I.call (g':=g') (t':=t') (d':=d') u aQ hg AS
end
abbrev XK:=Value->Option Addr->Hp->Prop
abbrev St:=List (Option V)
abbrev VK:=V->Hp->Prop
abbrev TE:=St->Hp->VK->Prop
abbrev TT:=St->Hp->(Bool->Hp->Prop)->Prop
abbrev TA:=St->Hp->(List V->Hp->Prop)->Prop
structure Ends where
 nx:St->Hp->Prop
 rt:VK
 bk:St->Hp->Prop:=λ_ _=>False
 ct:St->Hp->Prop:=λ_ _=>False
abbrev TS:=Ends->St->Hp->Prop
inductive EP (X:Cx) (η:List (Addr×Obj)) (σ:St) (Q:VK) (u:Value) (s':PJ):Prop
 |mk (v:V) (H':Hp) (a:Inv X η σ H' s') (b:RelV v u) (c:Q v H'):EP X η σ Q u s'
inductive TP (X:Cx) (η:List (Addr×Obj)) (σ:St) (Q:Bool->Hp->Prop) (b:Bool) (s':PJ):Prop
 |mk (H':Hp) (a:Inv X η σ H' s') (c:Q b H'):TP X η σ Q b s'
inductive AP (X:Cx) (η:List (Addr×Obj)) (σ:St) (Q:List V->Hp->Prop) (us:List Value) (s':PJ):Prop
 |mk (vs:List V) (H':Hp) (a:Inv X η σ H' s') (b:aL vs us) (c:Q vs H'):AP X η σ Q us s'
def SP(X:Cx)(η:List (Addr×Obj))(D:Ends)(f:Flow)(s':PJ):Prop:=
 match f with|.next=>∃bZ H',Inv X η bZ H' s'/\D.nx bZ H'|.brk=>∃bZ H',Inv X η bZ H' s'/\D.bk bZ H'|.cont=>∃bZ H',Inv X η bZ H' s'/\D.ct bZ H'|.ret u=>∃v bZ H',Inv X η bZ H' s'/\RelV v u/\D.rt v H'
noncomputable def PE(X:Cx)(e:Expr)(t:TE):Prop:=
 ∀(η:List (Addr×Obj)) (s:PJ) (σ:St) (H:Hp) (Q:VK),Inv X η σ H s->t σ H Q->wpAny (model X.prog X.w) X.A (eval e X.env) (EP X η σ Q) X.xe s
noncomputable def PT(X:Cx)(e:Expr)(t:TT):Prop:=
 ∀(η:List (Addr×Obj)) (s:PJ) (σ:St) (H:Hp) (Q:Bool->Hp->Prop),Inv X η σ H s->t σ H Q->wpAny (model X.prog X.w) X.A (Vm e X.env (eval e X.env)) (TP X η σ Q) X.xe s
noncomputable def PW(X:Cx)(e:Expr)(t:TT):Prop:=
 ∀(whole:Sem Value) (η:List (Addr×Obj)) (s:PJ) (σ:St) (H:Hp) (Q:Bool->Hp->Prop),Inv X η σ H s->t σ H Q->wpAny (model X.prog X.w) X.A (Vm e X.env whole) (TP X η σ Q) X.xe s
theorem PW.pt(h:PW X e t):PT X e t:=h _
noncomputable def PA(X:Cx)(es:List Expr)(t:TA):Prop:=
 ∀(pos:Pos) (η:List (Addr×Obj)) (s:PJ) (σ:St) (H:Hp) (Q:List V->Hp->Prop),Inv X η σ H s->t σ H Q->wpAny (model X.prog X.w) X.A (spliced (Rp pos (P5 es X.env))) (AP X η σ Q) X.xe s
def PS(X:Cx)(st:Stmt)(t:TS):Prop:=
 ∀(η:List (Addr×Obj)) (s:PJ) (σ:St) (H:Hp) (D:Ends),Inv X η σ H s->t D σ H->wpAny (model X.prog X.w) X.A (exec st X.env) (SP X η D) X.xe s
def i5(X:Cx)(st:List Stmt)(t:TS):Prop:=
 ∀(η:List (Addr×Obj)) (s:PJ) (σ:St) (H:Hp) (D:Ends),Inv X η σ H s->t D σ H->wpAny (model X.prog X.w) X.A (execs st X.env) (SP X η D) X.xe s
theorem bG(h:wpAny M A t Q E s)(hQ:∀a s,Q a s->Q' a s):wpAny M A t Q' E s:=QY h hQ λ_ _ x=>x
section
variable{X:Cx}
theorem bin(ha:PE X a ta)(hb:PE X b tb){R:V->V->Hp->Prop}(I:Inv X η σ H s)(h:ta σ H λx H1=>tb σ H1 λy H2=>R x y H2){α:Type}{Q:α->PJ->Prop}{f:Value->Value->Sem α}(hf:∀v u s2 x y H2,Inv X η σ H2 s2->RelV x v->RelV y u->R x y H2->wpAny (model X.prog X.w) X.A (f v u) Q X.xe s2):
  wpAny (model X.prog X.w) X.A (eval a X.env) (λv bB=>wpAny (model X.prog X.w) X.A (eval b X.env) (λu pA=>wpAny (model X.prog X.w) X.A (f v u) Q X.xe pA) X.xe bB) X.xe s:=by
 refine bG (ha η s σ H _ I h) λv s1 ⟨x,H1,I1,r1,q1⟩=>?_;refine bG (hb η s1 σ H1 _ I1 q1) λu s2 ⟨y,H2,I2,r2,q2⟩=>?_;exact hf v u s2 x y H2 I2 r1 r2 q2
def HY(i:Nat):TE:=λσ H Q=>∃v,σ[i]?=Δ (Δ v)/\Q v H
def tC(v:V):TE:=λ_ H Q=>Q v H
theorem iF(hN:X.N[i]?=Δ x)(hv:Lv X.env.scope x)(hd:(x==("__debug__":Str))=Ξ:=by decide)(n6:(x==("__classdict__":Str))=Ξ:=by decide):PE X (.Name x pos) (HY i):=by
 intro η s σ H Q I h;obtain⟨v,e,h⟩:=h;obtain⟨m,hn,hl⟩:=I.loc;obtain⟨u,r,l⟩:=hl i x v hN e hv;have fin:EP X η σ Q u s:=⟨v,H,I,r,h⟩;rcases l with ⟨hk,hm⟩|⟨hk,c,hc,vq⟩
 ·exact Vt (wpAny_loadName_local I.ok.kind hk hn hm fin) hd
 ·rcases hk with hk|hk;·exact Vt (wpAny_loadName_cell I.ok.kind hk hc vq fin) hd
  ·exact Vt (wpAny_loadName_free I.ok.kind hk hc vq fin n6) hd
theorem pB{i j pos}:PE X (.Constant (.int i) j pos) (tC (.int i)):=λ_ _ _ H _ I h=>wpAny_Constant_int ⟨.int i,H,I.tok _,⟨_,rfl⟩,h⟩
theorem Df{b j pos}:PE X (.Constant (.bool b) j pos) (tC (.bl b)):=λ_ _ _ H _ I h=>Constant_bool ⟨.bl b,H,I,rfl,h⟩
theorem tH{j pos}:PE X (.Constant .none j pos) (tC .aU):=λ_ _ _ H _ I h=>Constant_none ⟨.aU,H,I,rfl,h⟩
theorem pC{x j pos}:PE X (.Constant (.str x) j pos) (tC (.str x)):=λ_ _ _ H _ I h=>Calls.Constant_str ⟨.str x,H,I.tok _,⟨_,rfl⟩,h⟩
def Gl(X:Cx)(x:Str):Prop:=X.env.kindOf x=Δ .globalImplicit
theorem i6(I:Inv X η σ H s)(hg:Gl X x)(hm:X.mg x=Δ u)(h:Q u s)(hd:(x==("__debug__":Str))=Ξ:=by decide):wpAny (model X.prog X.w) X.A (eval (.Name x pos) X.env) Q E s:=
 Se I.ok.kind hg (Calls.loadGlobal_global (by rw[I.ok.glob];exact I.mod.glob.keeps I.bk) hm h) hd
theorem fI(I:Inv X η σ H s)(hg:Gl X x)(hm:X.mg x=Θ)(hv:Rt x=Δ u)(h:Q u s)(hn:x≠"__name__":=by decide)(hd:(x==("__debug__":Str))=Ξ:=by decide):wpAny (model X.prog X.w) X.A (eval (.Name x pos) X.env) Q E s:=by obtain⟨mb,h1,h2⟩:=I.mod.blt;exact Se I.ok.kind hg (Calls.loadGlobal_builtin (by rw[I.ok.glob];exact I.mod.glob.keeps I.bk) hm (by rw[I.ok.blt];exact h1.keeps I.bk) ((h2 x hn).trans hv) h) hd
theorem fJ(hg:Gl X x)(hm:X.mg x=Δ u)(r:RelV v u)(hd:(x==("__debug__":Str))=Ξ:=by decide):PE X (.Name x pos) (tC v):=
 λ_ _ _ H _ I h=>i6 I hg hm ⟨v,H,I,r,h⟩ hd
theorem vt(hg:Gl X x)(hm:X.mg x=Θ)(hv:Rt x=Δ u)(r:RelV v u)(hn:x≠"__name__":=by decide)(hd:(x==("__debug__":Str))=Ξ:=by decide):PE X (.Name x pos) (tC v):=
 λ_ _ _ H _ I h=>fI I hg hm hv ⟨v,H,I,r,h⟩ hn hd
variable{a b:Expr}{ta tb:TE}{pos:Pos}
variable{tA Lz:TT}{rest:List Expr}
noncomputable def MF(t u:TT):TT:=λσ H Q=>t σ H λc H1=>if c=Λ then u σ H1 Q else Q Ξ H1
noncomputable def tOr(t u:TT):TT:=λσ H Q=>t σ H λc H1=>if c=Λ then Q Λ H1 else u σ H1 Q
def MG(t:TT):TT:=λσ H Q=>t σ H λc H1=>Q (!c) H1
theorem pw_and1(ha:PT X a tA):PW X (.BoolOp .And [a] pos) tA:=by intro wh η s σ H Q I h;refine isTrue_and (bG (ha η s σ H Q I h) λc s1 e=>?_);cases c with|true=>exact isTrue_and_nil e|false=>exact e
theorem pw_or1(ha:PT X a tA):PW X (.BoolOp .Or [a] pos) tA:=by intro wh η s σ H Q I h;refine isTrue_or (bG (ha η s σ H Q I h) λc s1 e=>?_);cases c with|false=>exact isTrue_or_nil e|true=>exact e
theorem pw_and(ha:PT X a tA)(hb:PW X (.BoolOp .And (b::rest) pos) Lz):PW X (.BoolOp .And (a::b::rest) pos) (MF tA Lz):=by intro wh η s σ H Q I h;refine isTrue_and (bG (ha η s σ H _ I h) λc s1 ⟨H1,I1,q1⟩=>?_);cases c with|true=>exact hb wh η s1 σ H1 Q I1 q1|false=>exact⟨H1,I1,q1⟩
theorem pw_or(ha:PT X a tA)(hb:PW X (.BoolOp .Or (b::rest) pos) Lz):PW X (.BoolOp .Or (a::b::rest) pos) (tOr tA Lz):=by intro wh η s σ H Q I h;refine isTrue_or (bG (ha η s σ H _ I h) λc s1 ⟨H1,I1,q1⟩=>?_);cases c with|true=>exact⟨H1,I1,q1⟩|false=>exact hb wh η s1 σ H1 Q I1 q1
theorem DY(ha:PT X a tA):PT X (.UnaryOp .Not a pos) (MG tA):=by intro η s σ H Q I h;exact isTrue_not (bG (ha η s σ H (λc H1=>Q (!c) H1) I h) λc s1 ⟨H1,I1,q⟩=>⟨H1,I1,q⟩)
noncomputable def HZ(ta tb:TE):TE:=λσ H Q=>ta σ H λx H1=>∃c,x=.bl c/\if c=Λ then tb σ H1 Q else Q (.bl Ξ) H1
noncomputable def MH(ta tb:TE):TE:=λσ H Q=>ta σ H λx H1=>∃c,x=.bl c/\if c=Λ then Q (.bl Λ) H1 else tb σ H1 Q
noncomputable def Ia(ta:TE):TE:=λσ H Q=>ta σ H λx H1=>∃c,x=.bl c/\Q (.bl (!c)) H1
theorem tI{op}(h:PE X a t):PE X (.BoolOp op [a] pos) t:=λη s σ H Q I hw=>BoolOp_one (h η s σ H Q I hw)
theorem tJ(ha:PE X a ta)(hb:PE X (.BoolOp .And (b::rest) pos) tb):PE X (.BoolOp .And (a::b::rest) pos) (HZ ta tb):=by intro η s σ H Q I h;refine BoolOp_and (bG (ha η s σ H _ I h) λv s1 ⟨x,H1,I1,r1,q1⟩=>?_);obtain⟨c,rfl,q1⟩:=q1;cases r1;refine QN ?_;cases c with|true=>exact hb η s1 σ H1 Q I1 q1|false=>exact⟨.bl Ξ,H1,I1,rfl,q1⟩
theorem Ib(ha:PE X a ta)(hb:PE X (.BoolOp .Or (b::rest) pos) tb):PE X (.BoolOp .Or (a::b::rest) pos) (MH ta tb):=by intro η s σ H Q I h;refine BoolOp_or (bG (ha η s σ H _ I h) λv s1 ⟨x,H1,I1,r1,q1⟩=>?_);obtain⟨c,rfl,q1⟩:=q1;cases r1;refine QN ?_;cases c with|false=>exact hb η s1 σ H1 Q I1 q1|true=>exact⟨.bl Λ,H1,I1,rfl,q1⟩
theorem DZ(ha:PE X a ta):PE X (.UnaryOp .Not a pos) (Ia ta):=by intro η s σ H Q I h;refine UnaryOp_ (bG (ha η s σ H _ I h) λv s1 ⟨x,H1,I1,r1,q1⟩=>?_);obtain⟨c,rfl,q1⟩:=q1;cases r1;exact not_of (QN ⟨.bl (!c),H1,I1,rfl,q1⟩)
noncomputable def tIf(t:TT)(ta tb:TE):TE:=λσ H Q=>t σ H λc H1=>if c=Λ then ta σ H1 Q else tb σ H1 Q
theorem yw(hc:PT X c tA)(ha:PE X a ta)(hb:PE X b tb):PE X (.IfExp c a b pos) (tIf tA ta tb):=by intro η s σ H Q I h;refine wpAny_IfExp (bG (hc η s σ H _ I h) λd s1 ⟨H1,I1,q1⟩=>?_);cases d with|true=>exact ha η s1 σ H1 Q I1 q1|false=>exact hb η s1 σ H1 Q I1 q1
end
def gZ(K:PD)(H:Hp)(a:Addr)(xs:List V):Prop:=
 Rd H a (.lst xs)\/
  ∃(o:Obj) (aD:Array Value) (n:Nat),K.lookup a=Δ o/\o.cls=.type "list"/\o.dict=Θ/\o.data=.seq aD n/\aD.size<=PQ/\aL xs aD.toList
def de(K:PD)(H:Hp)(a:Addr)(xs:List V):Prop:=
 Rd H a (.tup xs)\/
  ∃(o:Obj) (aD:Array Value) (n:Nat),K.lookup a=Δ o/\o.cls=.type "tuple"/\o.data=.seq aD n/\aD.size<=PQ/\aL xs aD.toList
noncomputable def MI:Value->Option V
 |.none=>Δ .aU|.bool b=>Δ (.bl b)|.int i _=>Δ (.int i)|.str x _=>Δ (.str x)|.bytes b _=>Δ (.He b)|.float b _=>Δ (.DU b)|.ref a=>Δ (.ref a)|.type n=>Δ (.ty n)|_=>Θ
theorem RelV.abs(r:RelV x u):MI u=Δ x:=by cases x with|aU=>cases r;rfl|bl _=>cases r;rfl|int _=>obtain⟨t,rfl⟩:=r;rfl|str _=>obtain⟨t,rfl⟩:=r;rfl|He _=>obtain⟨t,rfl⟩:=r;rfl|DU _=>obtain⟨t,rfl⟩:=r;rfl|ref _=>cases r;rfl|ty _=>cases r;rfl
theorem RelV.inj(r:RelV x u)(q:RelV y u):x=y:=P4 (r.abs.symm.trans q.abs)
theorem aL.inj:∀{xs ys} {us},aL xs us->aL ys us->xs=ys
 |_,_,_,.nil,.nil=>rfl|_,_,_,.cons r t,.cons r' t'=>by rw[r.inj r',aL.inj t t']
section
variable{X:Cx}{η:List (Addr×Obj)}{σ:St}{H:Hp}{s:PJ}{a:Addr}{xs ys:List V}
theorem de.of{K:PD}(h:H a=Δ (.tup xs)):de K H a xs:=.inl (.inl h)
theorem Inv.list(I:Inv X η σ H s)(h:gZ X.K H a xs):∃aD,aL xs aD/\PlainL s.heap a aD.toArray/\xs.length<=PQ:=by
 rcases h with h|⟨o,aD,n,hk,hc,hd,hs,hz,r⟩;·obtain⟨z,aD,n,r,e⟩:=h.ok I.aQ;exact⟨aD,r,⟨_,n,e,rfl,rfl,rfl⟩,z⟩
 ·refine⟨aD.toList,r,⟨o,n,I.iY a o hk,hc,hd,by simpa using hs⟩,?_⟩;have e:=r.length;simp only[Q8] at e
  lia
theorem Inv.tuple(I:Inv X η σ H s)(h:de X.K H a xs):∃aD,aL xs aD/\IsTup s.heap a aD.toArray/\xs.length<=PQ:=by
 rcases h with h|⟨o,aD,n,hk,hc,hs,hz,r⟩;·obtain⟨z,aD,r,p⟩:=h.ok I.aQ;exact⟨aD,r,p,z⟩
 ·refine⟨aD.toList,r,⟨o,I.iY a o hk,hc,n,by simpa using hs⟩,?_⟩;have e:=r.length;simp only[Q8] at e
  lia
theorem Inv.qN(I:Inv X η σ H s)(h:gZ X.K H a xs)(h':gZ X.K H a ys):xs=ys:=by
 obtain⟨aD,r,⟨o,n,e,_,_,d⟩,_⟩:=I.list h;obtain⟨its',r',⟨o',n',e',_,_,d'⟩,_⟩:=I.list h';rw[e] at e';cases e';rw[d] at d';injection d' with d1 _;have:aD=its':=by simpa using congrArg Array.toList d1
 subst this;exact r.inj r'
theorem Inv.n8(I:Inv X η σ H s)(h:de X.K H a xs)(h':de X.K H a ys):xs=ys:=by
 obtain⟨aD,r,⟨o,e,_,n,d⟩,_⟩:=I.tuple h;obtain⟨its',r',⟨o',e',_,n',d'⟩,_⟩:=I.tuple h';rw[e] at e';cases e';rw[d] at d';injection d' with d1 _;have:aD=its':=by simpa using congrArg Array.toList d1
 subst this;exact r.inj r'
end
abbrev Cx.pD(X:Cx)(E:Value->PJ->Prop):Cx:={X with xe:=E}
theorem Cx.Ok.pD{X:Cx}(ok:X.Ok)E:(X.pD E).Ok:=
 ⟨ok.mod,ok.kind,ok.glob,ok.blt,ok.above,ok.inj,ok.has,ok.Dc,ok.hd,ok.frames,ok.DX,ok.HR,ok.bs,ok.yg,ok.qM,ok.tF,ok.eM,ok.tG⟩
theorem Cx.Ok.lN{X:Cx}(ok:(X.pD E).Ok):X.Ok:=
 ⟨ok.mod,ok.kind,ok.glob,ok.blt,ok.above,ok.inj,ok.has,ok.Dc,ok.hd,ok.frames,ok.DX,ok.HR,ok.bs,ok.yg,ok.qM,ok.tF,ok.eM,ok.tG⟩
section
variable{X:Cx}{η:List (Addr×Obj)}{σ:St}{H:Hp}{s:PJ}{E:Value->PJ->Prop}
theorem Inv.pD(I:Inv X η σ H s)E:Inv (X.pD E) η σ H s:=⟨I.ok.pD E,I.os,I.bare,I.base,I.loc,I.cell,I.free,I.dI,I.pin,I.aQ,I.len⟩
theorem Inv.lN(I:Inv (X.pD E) η σ H s):Inv X η σ H s:=⟨I.ok.lN,I.os,I.bare,I.base,I.loc,I.cell,I.free,I.dI,I.pin,I.aQ,I.len⟩
end
section
variable{X:Cx}{st:Stmt}{rest:List Stmt}{t u:TS}{e:Expr}{te:TE}{pos:Pos}
def Ic:TS:=λD σ H=>D.nx σ H
def MJ(t u:TS):TS:=λD σ H=>t {D with nx:=u D} σ H
theorem Ba:i5 X [] Ic:=λ_ _ σ H _ I h=>R3 ⟨σ,H,I,h⟩
theorem lO(h1:PS X st t)(h2:i5 X rest u):i5 X (st::rest) (MJ t u):=by intro η s σ H D I h;refine Uh (bG (h1 η s σ H {D with nx:=u D} I h) λf s1 q=>?_);cases f with|next=>obtain⟨bZ,H',I',q⟩:=q;exact h2 η s1 bZ H' D I' q|ret v=>exact q|brk=>exact q|cont=>exact q
theorem vz(h1:PS X st t):i5 X [st] t:=by intro η s σ H D I h;refine Uh (bG (h1 η s σ H D I h) λf s1 q=>?_);cases f with|next=>exact R3 q|ret v=>exact q|brk=>exact q|cont=>exact q
theorem Inv.quiet(I:Inv X η σ H s):interactive X.env=Ξ:=by simp[interactive,I.ok.kind]
def Ie(te:TE):TS:=λD σ H=>te σ H λ_ H1=>D.nx σ H1
theorem vA(he:PE X e te)(hs:S3 e Θ pos.line X.env=pure Ξ:=by rfl):PS X (.Expr e pos) (Ie te):=by intro η s σ H D I h;exact wpAny_Expr_any (bG (he η s σ H _ I h) λv s1 ⟨x,H1,I1,r1,q1⟩=>⟨σ,H1,I1,q1⟩) I.quiet hs
def MK(te:TE):TS:=λD σ H=>te σ H D.rt
theorem yx(he:PE X e te):PS X (.Return (Δ e) pos) (MK te):=by intro η s σ H D I h;exact wpAny_Return_some (bG (he η s σ H _ I h) λv s1 ⟨x,H1,I1,r1,q1⟩=>⟨x,σ,H1,I1,r1,q1⟩)
def Ig:TS:=λD _ H=>D.rt .aU H
theorem Bb:PS X (.Return Θ pos) Ig:=λ_ _ σ H _ I h=>wpAny_Return_none ⟨.aU,σ,H,I,rfl,h⟩
noncomputable def ML(c:TT)(t u:TS):TS:=λD σ H=>c σ H λb H1=>if b=Λ then t D σ H1 else u D σ H1
theorem Ih(hc:PT X c tc)(ha:i5 X a t)(hb:i5 X b u):PS X (.If c a b pos) (ML tc t u):=by intro η s σ H D I h;refine wpAny_If (bG (hc η s σ H _ I h) λd s1 ⟨H1,I1,q1⟩=>?_);cases d with|true=>exact ha η s1 σ H1 D I1 q1|false=>exact hb η s1 σ H1 D I1 q1
end
abbrev TG:=V->St->Hp->(St->Hp->Prop)->Prop
abbrev Ii:=List V->St->Hp->(St->Hp->Prop)->Prop
def PG(X:Cx)(target:Expr)(t:TG):Prop:=
 ∀(η:List (Addr×Obj)) (s:PJ) (σ:St) (H:Hp) (v:V) (u:Value) (Q:St->Hp->Prop),Inv X η σ H s->RelV v u->t v σ H Q->
  wpAny (model X.prog X.w) X.A (assign target X.env u) (λ_ s'=>∃bZ H',Inv X η bZ H' s'/\Q bZ H') X.xe s
noncomputable def LA(X:Cx)(ts:List Expr)(t:Ii):Prop:=
 ∀(η:List (Addr×Obj)) (s:PJ) (σ:St) (H:Hp) (vs:List V) (us:List Value) (Q:St->Hp->Prop),Inv X η σ H s->aL vs us->t vs σ H Q->
  wpAny (model X.prog X.w) X.A (assignInOrder ((Uy ts X.env).map (·.2)) us) (λ_ s'=>∃bZ H',Inv X η bZ H' s'/\Q bZ H') X.xe s
abbrev Ij:=V->V->V->Hp->(Hp->Prop)->Prop
def wC(X:Cx)(t:Ij):Prop:=
 ∀(η:List (Addr×Obj)) (s:PJ) (σ:St) (H:Hp) (o i v:V) (ov iv u:Value) (Q:Hp->Prop),Inv X η σ H s->RelV o ov->RelV i iv->RelV v u->t o i v H Q->
  wpAny (model X.prog X.w) X.A (setItem ov iv u) (λ_ s'=>∃H',Inv X η σ H' s'/\Q H') X.xe s
section
variable{X:Cx}{pos:Pos}
def n9(i:Nat):TG:=λv σ H Q=>Q (σ.set i (Δ v)) H
theorem g6(hN:X.N.Nodup)(hi:X.N[i]?=Δ x)(hx:Loc X.env.scope x)(hf:X.fn x=Λ\/X.env.scope.names.lookup x=Δ .local:=by first|exact .inl rfl|exact .inr rfl|assumption):PG X (.Name x pos) (n9 i):=by intro η s σ H v u Q I r h;exact wpAny_assign_Name (lM I hN hi hx r (λs' I'=>⟨_,H,I',h⟩) hf)
def MM:Ii:=λvs σ H Q=>vs=[]/\Q σ H
noncomputable def Ik(t:TG)(u:Ii):Ii:=λvs σ H Q=>∃v r,vs=v::r/\t v σ H λbZ H'=>u r bZ H' Q
theorem pE:LA X [] MM:=by intro η s σ H vs us Q I r h;obtain⟨e,h⟩:=h;subst e;cases r;exact assignInOrder_nil ⟨σ,H,I,h⟩
theorem fi(h1:PG X e t)(h2:LA X es u)(hs:(Uy (e::es) X.env).map (·.2)=assign e X.env::(Uy es X.env).map (·.2):=by rfl):LA X (e::es) (Ik t u):=by intro η s σ H vs us Q I r h;obtain⟨v,vr,e1,h⟩:=h;subst e1;cases r with|cons r rr=>rw[hs];refine assignInOrder_cons (bG (h1 η s σ H _ _ _ I r h) λ_ s1 ⟨Hg,H1,I1,q1⟩=>?_);exact h2 η s1 Hg H1 _ _ Q I1 rr q1
def MN(K:PD)(n:Nat)(t:Ii):TG:=λv σ H Q=>∃a xs,v=.ref a/\de K H a xs/\xs.length=n/\t xs σ H Q
theorem tK(hc:X.calm=Λ)(h:LA X es t)(hn:(Uy es X.env).length=n:=by rfl)(pF:(Uy es X.env).findIdx? (·.1)=Θ:=by rfl):PG X (.Tuple es k pos) (MN X.K n t):=by intro η s σ H v u Q I r hw;obtain⟨a,xs,e1,hq,hl,hw⟩:=hw;subst e1;cases r;obtain⟨aD,rv,ht,hz⟩:=I.tuple hq;refine assign_Tuple_tuple (I.ok.hd hc) ht (by simp[hn,<-hl,rv.length]) pF λh' hx=>?_;have I1:Inv X η σ H {s with heap:=h'}:=I.kept (t':=s.toks) λb o e=>hx b o (Qe (PK e)) e;exact h η _ σ H xs _ Q I1 (by simpa using rv) hw
def MO(te:TE)(g:TG):TS:=λD σ H=>te σ H λx H1=>g x σ H1 D.nx
theorem tM(hN:X.N.Nodup)(hi:X.N[i]?=Δ x)(hx:Loc X.env.scope x)(he:PE X e te)(hs:S3 e (Δ (.Name x pos')) pos.line X.env=pure Ξ:=by rfl)(hf:X.fn x=Λ\/X.env.scope.names.lookup x=Δ .local:=by first|exact .inl rfl|exact .inr rfl|assumption):
  PS X (.Assign [.Name x pos'] e pos) (MO te (n9 i)):=by
 intro η s σ H D I h;refine wpAny_Assign_Name (bG (he η s σ H _ I h) λv s1 ⟨y,H1,I1,r1,q1⟩=>?_) hs;exact lM I1 hN hi hx r1 (λs2 I2=>⟨_,H1,I2,q1⟩) hf
end
section
variable{X:Cx}{pos:Pos}
def D0(c:TT)(tb:TS):TS:=λD σ H=>∃W:Nat->St->Hp->Prop,(∃m,W m σ H)/\∀m σ H,W m σ H->
 c σ H λb H1=>if b=Λ then ∃N:St->Hp->Prop,(∀bZ H',N bZ H'->∃m',m' < m/\W m' bZ H')/\tb {D with nx:=N,ct:=N,bk:=D.nx} σ H1 else D.nx σ H1
theorem yy(hp:PassesOwn (model X.prog X.w) X.A X.env X.xe)(hc:PT X c tc)(hb:i5 X body tb):PS X (.While c body [] pos) (D0 tc tb):=by
 intro η s σ H D I h;obtain⟨W,⟨m0,w0⟩,turn⟩:=h;refine wpAny_While (codeAny_whileLoop (λn s'=>∃bZ H',Inv X η bZ H' s'/\W n bZ H') ?_ m0 ⟨σ,H,I,w0⟩);rintro n s1 ⟨Hg,H1,I1,w1⟩;refine RG hp (bG (hc η s1 Hg H1 _ I1 (turn n Hg H1 w1)) λb s2 ⟨H2,I2,q2⟩=>?_);cases b with
 |true=>obtain⟨N,hN,q2⟩:=q2;rw[if_pos rfl];refine RG hp (bG (hb η s2 Hg H2 _ I2 q2) λf s3 q3=>?_);cases f with|next=>obtain⟨yz,H3,I3,n3⟩:=q3;obtain⟨m',hm,w3⟩:=hN yz H3 n3;exact⟨m',hm,yz,H3,I3,w3⟩|cont=>obtain⟨yz,H3,I3,n3⟩:=q3;obtain⟨m',hm,w3⟩:=hN yz H3 n3;exact⟨m',hm,yz,H3,I3,w3⟩|brk=>exact q3|ret v=>exact q3
 |false=>rw[if_neg Ql];exact R3 ⟨Hg,H2,I2,q2⟩
end
structure It where
 go:Nat->Hp->Prop
 Il:Nat->Hp->V->Hp->Prop
 stop:Nat->Hp->Prop
noncomputable def jR(X:Cx)(η:List (Addr×Obj))(H:Hp)(b:Addr):Prop:=
 H b=Θ/\b≠X.env.locals/\b∉X.fs/\(b∈X.ex\/X.cQ.heap.objs.size<=b)/\(∀x c,X.env.cells.lookup x=Δ c->c≠b)/\∀p∈X.pn++η,p.1≠b
theorem Inv.qO(I:Inv X η σ H s)(hb:s.heap.objs.size<=b)(hn:H' b=Θ):jR X η H' b:=by
 refine⟨hn,QX (P0 I.lt hb),I.MB hb,.inr (Qj I.sz hb),λx c e z=>?_,λp hp z=>?_⟩;·obtain⟨v,q⟩:=I.cell x c e;exact absurd (P0 q.lt (by rw[z];exact hb)) (Rj _)
 ·exact absurd (P0 (PK (I.pin p hp).1) (by rw[z];exact hb)) (Rj _)
structure Turn(P:Qr)(w:World)(K:PD)(tg:Expr)(J:It)(fp:List Addr)(it:Addr)(tn:Nat->Heap->Prop):Prop where
 mem:it∈fp
 obj:∀i h,tn i h->∀b∈fp,∃o,h.get? b=Δ o/\∀v,o.data≠.cell v
 keep:∀i h h',tn i h->(∀b∈fp,∀o,h.get? b=Δ o->h'.get? b=Δ o)->tn i h'
 item:∀(X:Cx),X.prog=P->X.w=w->X.K=K->X.calm=Λ->∀(i:Nat) (η:List (Addr×Obj)) (s:PJ) (σ:St) (H:Hp) (E:Value->PJ->Prop),Inv X η σ H s->(∀b∈fp,jR X η H b)->tn i s.heap->J.go i H->
  wpAny (model P w) X.A (T8 (.ref it)) (λr s1=>∃u,r=Δ u/\
   wpAny (model P w) X.A (Tc tg (.ref it) u) (λ_ s2=>∃x H',Inv X η σ H' s2/\RelV x u/\J.Il i H x H'/\tn (i+1) s2.heap/\∀b∈fp,H' b=Θ) E s1) E s
 done:∀(X:Cx),X.prog=P->X.w=w->X.K=K->X.calm=Λ->∀(i:Nat) (η:List (Addr×Obj)) (s:PJ) (σ:St) (H:Hp) (E:Value->PJ->Prop),Inv X η σ H s->(∀b∈fp,jR X η H b)->tn i s.heap->J.stop i H->
  wpAny (model P w) X.A (T8 (.ref it)) (λr s1=>r=Θ/\Inv X η σ H s1) E s
 self:∀(A:QJ) (i:Nat) (s:PJ) (Q:Value->PJ->Prop) (E:Value->PJ->Prop),tn i s.heap->Q (.ref it) s->wpAny (model P w) A (Vy (.ref it)) Q E s
abbrev TI:=St->Hp->(It->Hp->Prop)->Prop
def PIE(X:Cx)(η:List (Addr×Obj))(σ:St)(tg:Expr)(R:It->Hp->Prop)(MP:Value)(s2:PJ):Prop:=
 ∃(it:Addr) (fp:List Addr) (tn:Nat->Heap->Prop) (J:It) (H':Hp),MP=.ref it/\Inv X η σ H' s2/\Turn X.prog X.w X.K tg J fp it tn/\tn 0 s2.heap/\(∀b∈fp,jR X η H' b)/\R J H'
def PI(X:Cx)(tg iter:Expr)(wi:TI):Prop:=
 ∀(η:List (Addr×Obj)) (s:PJ) (σ:St) (H:Hp) (R:It->Hp->Prop),Inv X η σ H s->wi σ H R->
  wpAny (model X.prog X.w) X.A (eval iter X.env) (λv s1=>wpAny (model X.prog X.w) X.A (Vy v) (PIE X η σ tg R) X.xe s1) X.xe s
theorem yA(ho:s.heap.get? it=Δ o)(hc:o.cls=.type n)(hd:o.data=.fields vs)(hn:["enumerate","zip","dict_itemiterator","dict_reverseitemiterator","odict_iterator","itertools.zip_longest","itertools.pairwise"].contains n=Ξ)(hQ:Q () s):wpAny M A (Tc tg (.ref it) u) Q E s:=by
 unfold Tc;cases tg<;>first
  |exact Py hQ
  |(cases u<;>first
    |exact Py hQ
    |(refine Pu (wpAny_load ho ?_)
      rw[hc,hd];show wpAny M A (if(["enumerate","zip","dict_itemiterator","dict_reverseitemiterator","odict_iterator","itertools.zip_longest","itertools.pairwise"].contains n&&vs[0]?==Δ (U5 _))=Λ then _ else _) Q E s;rw[if_neg (by intro h;rw[hn,Bool.false_and] at h;cases h)];exact Py hQ))
def MQ(K:PD)(a:Addr):It:=
 ⟨λi H=>∃xs x,gZ K H a xs/\xs[i]?=Δ x,λi H x H'=>H'=H/\∀xs,gZ K H a xs->xs[i]?=Δ x,λi H=>∃xs,gZ K H a xs/\xs.length<=i⟩
def MR(K:PD)(a:Addr):It:=
 ⟨λi H=>∃xs x,de K H a xs/\xs[i]?=Δ x,λi H x H'=>H'=H/\∀xs,de K H a xs->xs[i]?=Δ x,λi H=>∃xs,de K H a xs/\xs.length<=i⟩
noncomputable def D3(lo:Int)(n:Nat):It:=⟨λi _=>i < n,λi H x H'=>H'=H/\x=.int (lo+i),λi _=>n<=i⟩
theorem wD{P:Qr}{w:World}{K:PD}{tg:Expr}(a it:Addr):Turn P w K tg (MQ K a) [it] it (λi h=>h.IsListIter it a i) where
 mem:=by simp
 obj:=λi h st b hb=>by
  have e:b=it:=by simpa using hb
  subst e;obtain⟨o,e,c,d⟩:=st;exact⟨o,e,λv z=>by rw[d] at z;cases z⟩
 keep:=λi h h' st k=>st.at λo e=>k it (by simp) o e
 item:=by intro X hP hw hK hc i η s σ H E I hf st hg;subst hP hw hK;obtain⟨xs,x,hq,hx⟩:=hg;obtain⟨aD,rv,p,hz⟩:=I.list hq;obtain⟨u,hu,ru⟩:=rv.get hx;obtain⟨f0,f1,f2,f3,f4,f5⟩:=hf it (by simp);refine wpAny_pyNext_list_item st p.isList (x:=u) (by simpa using hu) λh' bI sb=>?_;have I1:Inv X η σ H {s with heap:=h'}:=I.turned (t':=s.toks) (λb o hb e=>(sb.2 b hb).trans e) f0 f1 f3 f4 f5;obtain⟨o,e,c,d⟩:=id bI;exact⟨u,rfl,yA (s:={s with heap:=h'}) e c d (by decide) ⟨x,H,I1,ru,⟨rfl,λys hy=>by rw[I.qN hy hq];exact hx⟩,bI,λb hb=>(hf b hb).1⟩⟩
 done:=by intro X hP hw hK hc i η s σ H E I hf st hg;subst hP hw hK;obtain⟨xs,hq,hx⟩:=hg;obtain⟨aD,rv,p,hz⟩:=I.list hq;obtain⟨f0,f1,f2,f3,f4,f5⟩:=hf it (by simp);have hl:=rv.length;exact wpAny_pyNext_list_end (I.ok.hd hc) st p.isList (by simp;lia) λh' eb=>⟨rfl,I.turned (t':=s.toks) (λb o hb e=>eb b o hb e) f0 f1 f3 f4 f5⟩
 self:=λ_ _ _ _ _ st h=>wpAny_pyIter_listiter st h
theorem tN{P:Qr}{w:World}{K:PD}{tg:Expr}(a it:Addr):Turn P w K tg (MR K a) [it] it (λi h=>h.IsTupleIter it a i) where
 mem:=by simp
 obj:=λi h st b hb=>by
  have e:b=it:=by simpa using hb
  subst e;obtain⟨o,e,c,d⟩:=st;exact⟨o,e,λv z=>by rw[d] at z;cases z⟩
 keep:=λi h h' st k=>st.at λo e=>k it (by simp) o e
 item:=by intro X hP hw hK hc i η s σ H E I hf st hg;subst hP hw hK;obtain⟨xs,x,hq,hx⟩:=hg;obtain⟨aD,rv,p,hz⟩:=I.tuple hq;obtain⟨u,hu,ru⟩:=rv.get hx;obtain⟨f0,f1,f2,f3,f4,f5⟩:=hf it (by simp);refine wpAny_pyNext_tuple_item st (show s.heap.IsTuple a aD.toArray from p) (x:=u) (by simpa using hu) λh' bI sb=>?_;have I1:Inv X η σ H {s with heap:=h'}:=I.turned (t':=s.toks) (λb o hb e=>(sb.2 b hb).trans e) f0 f1 f3 f4 f5;obtain⟨o,e,c,d⟩:=id bI;exact⟨u,rfl,yA (s:={s with heap:=h'}) e c d (by decide) ⟨x,H,I1,ru,⟨rfl,λys hy=>by rw[I.n8 hy hq];exact hx⟩,bI,λb hb=>(hf b hb).1⟩⟩
 done:=by intro X hP hw hK hc i η s σ H E I hf st hg;subst hP hw hK;obtain⟨xs,hq,hx⟩:=hg;obtain⟨aD,rv,p,hz⟩:=I.tuple hq;obtain⟨f0,f1,f2,f3,f4,f5⟩:=hf it (by simp);have hl:=rv.length;exact wpAny_pyNext_tuple_end (I.ok.hd hc) st (show s.heap.IsTuple a aD.toArray from p) (by simp;lia) λh' eb=>⟨rfl,I.turned (t':=s.toks) (λb o hb e=>eb b o hb e) f0 f1 f3 f4 f5⟩
 self:=λ_ _ _ _ _ st h=>wpAny_pyIter_tupleiter st h
theorem tP{P:Qr}{w:World}{K:PD}{tg:Expr}(it:Addr)(lo:Int)(n:Nat):Turn P w K tg (D3 lo n) [it] it (λi h=>IsRangeIter h it (lo+(i:Nat)*1) ((n:Int) - (i:Nat)) 1) where
 mem:=by simp
 obj:=λi h st b hb=>by
  have e:b=it:=by simpa using hb
  subst e;exact⟨_,st,λv z=>by have z':Data.fields _=Data.cell v:=z;cases z'⟩
 keep:=λi h h' st k=>k it (by simp) _ st
 item:=by intro X hP hw hK hc i η s σ H E I hf st hg;subst hP hw hK;obtain⟨f0,f1,f2,f3,f4,f5⟩:=hf it (by simp);have W:=Walks.range (prog:=X.prog) (w:=X.w) (I.ok.hd hc) it lo 1 n;refine W.item i s _ _ hg st λv h' tk hv bI kk=>?_;obtain⟨t,rfl⟩:=hv;have I1:Inv X η σ H {s with heap:=h',toks:=tk}:=I.turned (λb o hb e=>kk b o (by simpa using hb) e) f0 f1 f3 f4 f5;refine⟨_,rfl,yA (s:={s with heap:=h',toks:=tk}) (n:="range_iterator") bI rfl rfl (by decide) ⟨.int (lo+i),H,I1,⟨t,?_⟩,⟨rfl,rfl⟩,bI,λb hb=>(hf b hb).1⟩⟩;rw[Int.mul_one]
 done:=by intro X hP hw hK hc i η s σ H E I hf st hg;subst hP hw hK;obtain⟨f0,f1,f2,f3,f4,f5⟩:=hf it (by simp);exact wpAny_pyNext_range_end (I.ok.hd hc) st (by have:n<=i:=hg;lia) λh' eb=>⟨rfl,I.turned (t':=s.toks) (λb o hb e=>eb b o hb e) f0 f1 f3 f4 f5⟩
 self:=λ_ _ _ _ _ st h=>wpAny_pyIter_rangeiter st h
section
variable{X:Cx}{tg:Expr}
def Im(K:PD)(tl:TE):TI:=λσ H R=>tl σ H λx H1=>∃a,x=.ref a/\(∃xs,gZ K H1 a xs)/\R (MQ K a) H1
def MS(K:PD)(tl:TE):TI:=λσ H R=>tl σ H λx H1=>∃a,x=.ref a/\(∃xs,de K H1 a xs)/\R (MR K a) H1
theorem vB(hl:PE X l tl):PI X tg l (Im X.K tl):=by
 intro η s σ H R I h;refine bG (hl η s σ H _ I h) λv s1 ⟨x,H1,I1,r1,q1⟩=>?_;obtain⟨a,e,⟨xs,hq⟩,q⟩:=q1;subst e;cases r1;obtain⟨aD,rv,p,hz⟩:=I1.list hq;refine wpAny_pyIter_list p.isList ?_;refine⟨s1.heap.objs.size,[s1.heap.objs.size],_,_,H1,rfl,I1.kept (t':=s1.toks) λb o e=>Px _ e,wD a _,⟨_,PR _ rfl,rfl,rfl⟩,λb hb=>?_,q⟩;have e:b=s1.heap.objs.size:=by simpa using hb
 subst e;exact I1.qO (PH _) (I1.aQ.fresh (PH _))
theorem D4(hl:PE X l tl):PI X tg l (MS X.K tl):=by
 intro η s σ H R I h;refine bG (hl η s σ H _ I h) λv s1 ⟨x,H1,I1,r1,q1⟩=>?_;obtain⟨a,e,⟨xs,hq⟩,q⟩:=q1;subst e;cases r1;obtain⟨aD,rv,p,hz⟩:=I1.tuple hq;refine Rx (show s1.heap.IsTuple a aD.toArray from p) ?_;refine⟨s1.heap.objs.size,[s1.heap.objs.size],_,_,H1,rfl,I1.kept (t':=s1.toks) λb o e=>Px _ e,tN a _,⟨_,PR _ rfl,rfl,rfl⟩,λb hb=>?_,q⟩;have e:b=s1.heap.objs.size:=by simpa using hb
 subst e;exact I1.qO (PH _) (I1.aQ.fresh (PH _))
theorem qP{lo hi:Int}(I:Inv X η σ H s)(h1: -(2 ^ 62)<=lo)(h2:lo < 2 ^ 62)(h3: -(2 ^ 62)<=hi)(h4:hi < 2 ^ 62)(q:R (D3 lo (hi - lo).toNat) H):wpAny (model X.prog X.w) X.A (Vy (.ref s.heap.objs.size)) (PIE X η σ tg R) E {s with heap:=s.heap.push {cls:=.type "range",data:=.fields #[.int lo t,.int hi u,.int 1 v]},toks:=tk}:=by
 refine wpAny_pyIter_range (IsRange.new ..) (small_one h1 h2 h3 h4) ?_;have I1:Inv X η σ H {s with heap:=s.heap.push {cls:=.type "range",data:=.fields #[.int lo t,.int hi u,.int 1 v]},toks:=tk}:=I.kept λb o e=>Px _ e;refine⟨(s.heap.push {cls:=.type "range",data:=.fields #[.int lo t,.int hi u,.int 1 v]}).objs.size,[(s.heap.push {cls:=.type "range",data:=.fields #[.int lo t,.int hi u,.int 1 v]}).objs.size],_,_,H,rfl,
  I1.kept (t':=tk) λb o e=>Px _ e,tP _ lo (hi - lo).toNat,?_,λb hb=>?_,q⟩
 ·have e1:lo+((0:Nat):Int)*1=lo:=by simp
  have e2:(((hi - lo).toNat:Nat):Int) - ((0:Nat):Int)=R1.Range.rangeSize lo hi 1:=by rw[rangeSize_one];split<;>lia
  show IsRangeIter _ _ (lo+((0:Nat):Int)*1) ((((hi - lo).toNat:Nat):Int) - ((0:Nat):Int)) 1;rw[e1,e2];exact PR _ rfl
 ·have e:b=(s.heap.push {cls:=.type "range",data:=.fields #[.int lo t,.int hi u,.int 1 v]}).objs.size:=by simpa using hb
  subst e;exact I1.qO (PH _) (I1.aQ.fresh (PH _))
def Io(ta:TA):TI:=λσ H R=>ta σ H λvs H1=>∃j:Int,vs=[.int j]/\ -(2 ^ 62)<=j/\j < 2 ^ 62/\R (D3 0 j.toNat) H1
def Ip(ta:TA):TI:=λσ H R=>ta σ H λvs H1=>∃i j:Int,vs=[.int i,.int j]/\(-(2 ^ 62)<=i/\i < 2 ^ 62/\ -(2 ^ 62)<=j/\j < 2 ^ 62)/\R (D3 i (j - i).toNat) H1
theorem wF(hg:Gl X "range")(hm:X.mg "range"=Θ)(ha:PA X [a] ta)(hs:P5 [a] X.env=[(Ξ,eval a X.env)]:=by rfl):PI X tg (.Call (.Name "range" p) [a] [] pos) (Io ta):=by intro η s σ H R I h;refine Call_ (fI I hg hm boot_range (Qy (bG (ha pos η s σ H _ I h) λus s1 ⟨vs,H1,I1,r1,q1⟩=>?_) hs rfl));obtain⟨j,e,q1,q2,q⟩:=q1;subst e;cases r1 with|cons r rr=>cases rr;obtain⟨t,rfl⟩:=r;exact call_range_1 (qP I1 (by lia) (by lia) q1 q2 (by simpa using q))
theorem wG(hg:Gl X "range")(hm:X.mg "range"=Θ)(ha:PA X [a,b] ta)(hs:P5 [a,b] X.env=[(Ξ,eval a X.env),(Ξ,eval b X.env)]:=by rfl)(wH:P5 [b] X.env=[(Ξ,eval b X.env)]:=by rfl):
  PI X tg (.Call (.Name "range" p) [a,b] [] pos) (Ip ta):=by
 intro η s σ H R I h;refine Call_ (fI I hg hm boot_range (Qy (bG (ha pos η s σ H _ I h) λus s1 ⟨vs,H1,I1,r1,q1⟩=>?_) (by rw[hs,wH]) (by rw[wH];rfl)));obtain⟨i,j,e,⟨q1,q2,q3,q4⟩,q⟩:=q1;subst e;cases r1 with|cons r rr=>cases rr with|cons r' rr=>cases rr;obtain⟨t,rfl⟩:=r;obtain⟨t',rfl⟩:=r';exact call_range_2 (qP I1 q1 q2 q3 q4 q)
def MT(wi:TI)(g:TG)(tb:TS):TS:=λD σ H=>wi σ H λJ H1=>∃W:Nat->Nat->St->Hp->Prop,(∃m,W 0 m σ H1)/\∀i m σ H,W i m σ H->
 (J.stop i H/\D.nx σ H)\/(J.go i H/\∃N:St->Hp->Prop,(∀bZ H',N bZ H'->∃m',m' < m/\W (i+1) m' bZ H')/\∀x H',J.Il i H x H'->g x σ H' λHh H2=>tb {D with nx:=N,ct:=N,bk:=D.nx} Hh H2)
noncomputable def lP(fp:List Addr)(h:Heap):List (Addr×Obj):=fp.filterMap λb=>(h.get? b).map λo=>(b,o)
theorem fK(hb:b∈fp)(e:h.get? b=Δ o):(b,o)∈lP fp h:=List.mem_filterMap.mpr ⟨b,hb,by rw[e];rfl⟩
theorem wI(hp:p∈lP fp h):p.1∈fp/\h.get? p.1=Δ p.2:=by obtain⟨b,hb,e⟩:=List.mem_filterMap.mp hp;cases q:h.get? b with|none=>rw[q] at e;cases e|some o=>rw[q] at e;have e':(b,o)=p:=P4 e;subst e';exact⟨hb,q⟩
theorem Inv.pinned(I:Inv X η σ H s)(hf:∀b∈fp,jR X η H b)(ho:∀b∈fp,∃o,s.heap.get? b=Δ o/\∀v,o.data≠.cell v):Inv X (η++lP fp s.heap) σ H s:=
 I.lq λp hp=>(List.mem_append.mp hp).elim (λz=>I.pin p (P9 _ z)) λz=>by obtain⟨hb,e⟩:=wI z;obtain⟨f0,f1,f2,_⟩:=hf p.1 hb;obtain⟨o,e',d⟩:=ho p.1 hb;rw[e] at e';cases e';exact⟨e,f0,f1,f2,d⟩
theorem Inv.i7(I:Inv X (η++pl) σ H s):Inv X η σ H s:=I.lq λp hp=>I.pin p (P9 _ (QB _ hp))
theorem pG(hp:PassesOwn (model X.prog X.w) X.A X.env X.xe)(hc:X.calm=Λ)(hi:PI X tg iter wi)(hg:PG X tg g)(hb:i5 X body tb)(hs:∀x,TV iter X.env x=pure x:=by intro _;rfl):PS X (.For tg iter body [] pos) (MT wi g tb):=by
 intro η s σ H D I h;refine wpAny_For (bG (hi η s σ H _ I h) λv s1 h1=>bG h1 λMP s2 h2=>?_) hs;obtain⟨it,fp,tn,J,H2,e,I2,T,aB,f2,W,⟨m0,w0⟩,turn⟩:=h2;subst e;have tQ:∀{H':Hp},(∀b∈fp,H' b=Θ)->∀b∈fp,jR X η H' b:=λhn b hb=>⟨hn b hb,(f2 b hb).2⟩;refine codeAny_forLoop_any (λn s'=>∃i bZ H',Inv X η bZ H' s'/\tn i s'.heap/\(∀b∈fp,H' b=Θ)/\W i n bZ H') ?_ m0 ⟨0,σ,H2,I2,aB,λb hb=>(f2 b hb).1,w0⟩;rintro n s3 ⟨i,yz,H3,I3,cf,fr3,w3⟩;rcases turn i n yz H3 w3 with ⟨stop,qn⟩|⟨go,N,hN,step⟩
 ·refine RG hp (bG (T.done X rfl rfl rfl hc i η s3 yz H3 X.xe I3 (tQ fr3) cf stop) λr s4 ⟨hr,I4⟩=>?_);subst hr;exact R3 ⟨yz,H3,I4,qn⟩
 ·refine RG hp (bG (T.item X rfl rfl rfl hc i η s3 yz H3 X.xe I3 (tQ fr3) cf go) λr s4 ⟨u,hr,h4⟩=>?_);subst hr;refine RG hp (bG h4 λ_ s5 ⟨x,H5,I5,r5,y5,yh,LB⟩=>?_);have I5':=I5.pinned (tQ LB) (T.obj _ _ yh);refine RG hp (bG (hg _ s5 yz H5 x u _ I5' r5 (step x H5 y5)) λ_ s6 ⟨σ6,H6,I6,q6⟩=>?_);refine RG hp (bG (hb _ s6 σ6 H6 _ I6 q6) λf s7 q7=>?_);have again:∀{yB:St} {H7:Hp},Inv X (η++lP fp s5.heap) yB H7 s7->N yB H7->∃m,m < n/\∃i bZ H',Inv X η bZ H' s7/\tn i s7.heap/\(∀b∈fp,H' b=Θ)/\W i m bZ H':=λ{yB H7} I7 n7=>by obtain⟨m',hm,w7⟩:=hN yB H7 n7;refine⟨m',hm,i+1,yB,H7,I7.i7,T.keep _ _ _ yh λb hb o e=>(I7.pin (b,o) (P9 _ (P9 _ (fK hb e)))).1,λb hb=>?_,w7⟩;obtain⟨o,e,d⟩:=T.obj _ _ yh b hb;exact(I7.pin (b,o) (P9 _ (P9 _ (fK hb e)))).2.1
  cases f with|next=>obtain⟨yB,H7,I7,n7⟩:=q7;exact again I7 n7|cont=>obtain⟨yB,H7,I7,n7⟩:=q7;exact again I7 n7|brk=>obtain⟨yB,H7,I7,q7⟩:=q7;exact⟨yB,H7,I7.i7,q7⟩|ret v=>obtain⟨x7,yB,H7,I7,r7,q7⟩:=q7;exact⟨x7,yB,H7,I7.i7,r7,q7⟩
end
abbrev R2:=V->V->Hp->VK->Prop
def fg(X:Cx)(f:Value->Value->Sem Value)(r:R2):Prop:=
 ∀(η:List (Addr×Obj)) (s:PJ) (σ:St) (H:Hp) (x y:V) (v u:Value) (Q:VK),Inv X η σ H s->RelV x v->RelV y u->r x y H Q->
  wpAny (model X.prog X.w) X.A (f v u) (EP X η σ Q) X.xe s
def MU(X:Cx)(f:Value->Sem Value)(r:V->Hp->VK->Prop):Prop:=
 ∀(η:List (Addr×Obj)) (s:PJ) (σ:St) (H:Hp) (x:V) (v:Value) (Q:VK),Inv X η σ H s->RelV x v->r x H Q->
  wpAny (model X.prog X.w) X.A (f v) (EP X η σ Q) X.xe s
def cY(X:Cx)(f:Value)(r:List V->Hp->VK->Prop):Prop:=
 ∀(η:List (Addr×Obj)) (s:PJ) (σ:St) (H:Hp) (xs:List V) (us:List Value) (Q:VK),Inv X η σ H s->aL xs us->r xs H Q->
  wpAny (model X.prog X.w) X.A (call f us) (EP X η σ Q) X.xe s
def MV(X:Cx)(r:V->Hp->(Bool->Hp->Prop)->Prop):Prop:=
 ∀(η:List (Addr×Obj)) (s:PJ) (σ:St) (H:Hp) (x:V) (v:Value) (Q:Bool->Hp->Prop),Inv X η σ H s->RelV x v->r x H Q->
  wpAny (model X.prog X.w) X.A (truthy v) (TP X η σ Q) X.xe s
noncomputable def Iq(r:R2)(ta tb:TE):TE:=λσ H Q=>ta σ H λx H1=>tb σ H1 λy H2=>r x y H2 Q
noncomputable def tUn(r:V->Hp->VK->Prop)(ta:TE):TE:=λσ H Q=>ta σ H λx H1=>r x H1 Q
noncomputable def rI(C:Int->Int->Prop)(g:Int->Int->V):R2:=λx y H Q=>∃i j,x=.int i/\y=.int j/\C i j/\Q (g i j) H
noncomputable def vC(g:Int->Int->V):R2:=λx y H Q=>∃i j,x=.int i/\y=.int j/\Q (g i j) H
noncomputable def rU(g:Int->V):V->Hp->VK->Prop:=λx H Q=>∃i,x=.int i/\Q (g i) H
section
variable{X:Cx}{a b c:Expr}{ta tb tc:TE}{pos:Pos}
theorem D5(ha:PE X a ta)(hb:PE X b tb){R:V->V->Hp->Prop}(I:Inv X η σ H s)(h:ta σ H λx H1=>tb σ H1 λy H2=>R x y H2){f:Value->Value->Sem Value}(hf:∀v u s2 x y H2,Inv X η σ H2 s2->RelV x v->RelV y u->R x y H2->wpAny (model X.prog X.w) X.A (f v u) Q X.xe s2):
  wpAny (model X.prog X.w) X.A (eval a X.env) (λv bB=>wpAny (model X.prog X.w) X.A (eval b X.env) (λu pA=>wpAny (model X.prog X.w) X.A (f v u) Q X.xe pA) X.xe bB) X.xe s:=by
 refine bG (ha η s σ H _ I h) λv s1 ⟨x,H1,I1,r1,q1⟩=>?_;refine bG (hb η s1 σ H1 _ I1 q1) λu s2 ⟨y,H2,I2,r2,q2⟩=>?_;exact hf v u s2 x y H2 I2 r1 r2 q2
theorem Dg(ho:fg X (Rl op) r)(ha:PE X a ta)(hb:PE X b tb):PE X (.BinOp a op b pos) (Iq r ta tb):=by intro η s σ H Q I h;exact wpAny_BinOp (D5 ha hb I h λv u s2 x y H2 I2 rx ry q=>ho η s2 σ H2 x y v u Q I2 rx ry q)
theorem Dh(ho:MU X (unaryOp op) r)(ha:PE X a ta):PE X (.UnaryOp op a pos) (tUn r ta):=by intro η s σ H Q I h;exact UnaryOp_ (bG (ha η s σ H _ I h) λv s1 ⟨x,H1,I1,r1,q1⟩=>ho η s1 σ H1 x v Q I1 r1 q1)
theorem ko{g:Int->Int->Int}(rule:∀(i j:Int) (t u:Tok) (s:PJ) (Q:Value->PJ->Prop) (E:Value->PJ->Prop),C i j->Q (.int (g i j) s.toks) {s with toks:=s.toks+1}->wpAny (model X.prog X.w) X.A (f (.int i t) (.int j u)) Q E s):
  fg X f (rI C λi j=>.int (g i j)):=by
 intro η s σ H x y v u Q I rx ry h;obtain⟨i,j,rfl,rfl,hc,q⟩:=h;obtain⟨t,rfl⟩:=rx;obtain⟨t',rfl⟩:=ry;exact rule i j t t' s _ _ hc ⟨.int (g i j),H,I.tok _,⟨_,rfl⟩,q⟩
theorem Ir{g:Int->Int->Int}(rule:∀(i j:Int) (t u:Tok) (s:PJ) (Q:Value->PJ->Prop) (E:Value->PJ->Prop),Q (.int (g i j) s.toks) {s with toks:=s.toks+1}->wpAny (model X.prog X.w) X.A (f (.int i t) (.int j u)) Q E s):
  fg X f (vC λi j=>.int (g i j)):=by
 intro η s σ H x y v u Q I rx ry h;obtain⟨i,j,rfl,rfl,q⟩:=h;obtain⟨t,rfl⟩:=rx;obtain⟨t',rfl⟩:=ry;exact rule i j t t' s _ _ ⟨.int (g i j),H,I.tok _,⟨_,rfl⟩,q⟩
theorem Bc{g:Int->Int->Bool}(rule:∀(i j:Int) (t u:Tok) (s:PJ) (Q:Value->PJ->Prop) (E:Value->PJ->Prop),Q (.bool (g i j)) s->wpAny (model X.prog X.w) X.A (f (.int i t) (.int j u)) Q E s):
  fg X f (vC λi j=>.bl (g i j)):=by
 intro η s σ H x y v u Q I rx ry h;obtain⟨i,j,rfl,rfl,q⟩:=h;obtain⟨t,rfl⟩:=rx;obtain⟨t',rfl⟩:=ry;exact rule i j t t' s _ _ ⟨.bl (g i j),H,I,rfl,q⟩
def Iu(i j:Int):Prop:=0 < j/\j < 1073741824
noncomputable def Bd(i j:Int):Prop:=(-(2 ^ 64) < i/\i < 2 ^ 64)\/(-(2 ^ 64) < j/\j < 2 ^ 64)
theorem Bd.ok(h:Bd i j):IntMulOk i j:=by
 rcases h with ⟨h1,h2⟩|⟨h1,h2⟩
 ·exact .of_left (intBits_le_64 h1 h2)
 ·exact .of_right (intBits_le_64 h1 h2)
theorem D6:fg X (Rl .Add) (vC λi j=>.int (i+j)):=Ir λ_ _ _ _ _ _ _ q=>add_int q
theorem D7:fg X (Rl .Sub) (vC λi j=>.int (i - j)):=Ir λ_ _ _ _ _ _ _ q=>sub_int q
theorem D8:fg X (Rl .Mult) (rI Bd λi j=>.int (i*j)):=ko λ_ _ _ _ _ _ _ hc q=>mul_int q hc.ok
theorem Be:fg X (Rl .FloorDiv) (rI Iu λi j=>.int (i / j)):=ko λi j _ _ _ _ _ hc q=>by have h1:(0:Int) < j:=hc.1;have h2:j < 1073741824:=hc.2;exact floordiv_int (by lia) (by rw[Int.fdiv_eq_ediv_of_nonneg i (by lia)];exact q) (.inl (PyProof.noPylong_small (by lia)))
theorem D9:fg X (Rl .Mod) (rI (λ_ j=>0 < j) λi j=>.int (i % j)):=ko λi j _ _ _ _ _ hc q=>by have h1:(0:Int) < j:=hc;exact mod_int' (by lia) (by rw[Int.fmod_eq_emod_of_nonneg i (by lia)];exact q)
theorem unI{g:Int->Int}(rule:∀(i:Int) (t:Tok) (s:PJ) (Q:Value->PJ->Prop) (E:Value->PJ->Prop),Q (.int (g i) s.toks) {s with toks:=s.toks+1}->wpAny (model X.prog X.w) X.A (f (.int i t)) Q E s):
  MU X f (rU λi=>.int (g i)):=by
 intro η s σ H x v Q I rx h;obtain⟨i,rfl,q⟩:=h;obtain⟨t,rfl⟩:=rx;exact rule i t s _ _ ⟨.int (g i),H,I.tok _,⟨_,rfl⟩,q⟩
theorem yC:MU X (unaryOp .USub) (rU λi=>.int (-i)):=unI λ_ _ _ _ _ q=>neg_int q
end
section
variable{X:Cx}{a b c:Expr}{ta tb tc:TE}{pos:Pos}
theorem yD(I:Inv X η σ H s)(q:Q (.bl k) H)(e:k=k'):EP X η σ Q (.bool k') s:=by subst e;exact⟨.bl k,H,I,rfl,q⟩
theorem Iv:fg X (QA .Lt) (vC λi j=>.bl (decide (i < j))):=Bc λ_ _ _ _ _ _ _ q=>lt_int q
theorem Iw:fg X (QA .LtE) (vC λi j=>.bl (decide (i<=j))):=Bc λ_ _ _ _ _ _ _ q=>le_int q
theorem Iy:fg X (QA .Gt) (vC λi j=>.bl (decide (j < i))):=Bc λ_ _ _ _ _ _ _ q=>gt_int q
theorem Iz:fg X (QA .GtE) (vC λi j=>.bl (decide (j<=i))):=Bc λ_ _ _ _ _ _ _ q=>ge_int q
theorem Ea:fg X (QA .Is) (λx y H Q=>y=.aU/\Q (.bl (decide (x=.aU))) H):=by
 intro η s σ H x y v u Q I rx ry h;obtain⟨rfl,q⟩:=h;cases ry;refine is_none_gen (yD I q ?_);cases x<;>first
  |(cases rx;rfl)
  |(obtain⟨t,rfl⟩:=rx;rfl)
theorem Bg:fg X (QA .IsNot) (λx y H Q=>y=.aU/\Q (.bl (!decide (x=.aU))) H):=by
 intro η s σ H x y v u Q I rx ry h;obtain⟨rfl,q⟩:=h;cases ry;refine isnot_none_gen (yD I q ?_);cases x<;>first
  |(cases rx;rfl)
  |(obtain⟨t,rfl⟩:=rx;rfl)
theorem fg.or(h:fg X f r)(h':fg X f r'):fg X f (λx y H Q=>r x y H Q\/r' x y H Q):=by
 intro η s σ H x y v u Q I rx ry q;rcases q with q|q;·exact h η s σ H x y v u Q I rx ry q
 ·exact h' η s σ H x y v u Q I rx ry q
theorem vD(ho:fg X (QA op) r)(ha:PE X a ta)(hb:PE X b tb)(hm:U0 op b=Ξ):PE X (.Compare a [op] [b] pos) (Iq r ta tb):=by intro η s σ H Q I h;exact wpAny_Compare1 (D5 ha hb I h λv u s2 x y H2 I2 rx ry q=>ho η s2 σ H2 x y v u Q I2 rx ry q) hm
noncomputable def Di(t:TE):TT:=λσ H Q=>t σ H λx H'=>∃k,x=.bl k/\Q k H'
theorem vE(ho:fg X (QA op) r)(ha:PE X a ta)(hb:PE X b tb)(hm:U0 op b=Ξ):PT X (.Compare a [op] [b] pos) (Di (Iq r ta tb)):=by intro η s σ H Q I h;refine wpAny_isTrue_Compare1 (bG (ha η s σ H _ I h) λv s1 ⟨x,H1,I1,r1,q1⟩=>bG (hb η s1 σ H1 _ I1 q1) λu s2 ⟨y,H2,I2,r2,q2⟩=>bG (ho η s2 σ H2 x y v u _ I2 r1 r2 q2) λc s3 ⟨z,H3,I3,r3,k,e,q3⟩=>?_) hm;subst e;cases r3;exact QN ⟨H3,I3,q3⟩
noncomputable def tR(r r':R2)(ta tb tc:TE):TE:=λσ H Q=>ta σ H λx H1=>tb σ H1 λy H2=>r x y H2 λz H3=>∃k,z=.bl k/\
 (if k=Λ then tc σ H3 λw' H4=>r' y w' H4 Q else Q (.bl Ξ) H3)
theorem yE(ho:fg X (QA op) r)(ll:fg X (QA IA) r')(ha:PE X a ta)(hb:PE X b tb)(hc:PE X c tc)(hm:lastMarks [op,IA] [b,c]=Ξ:=by with_unfolding_all rfl):PE X (.Compare a [op,IA] [b,c] pos) (tR r r' ta tb tc):=by intro η s σ H Q I h;refine Compare_chain (bG (ha η s σ H _ I h) λv s1 ⟨x,H1,I1,r1,q1⟩=>chain_link (bG (hb η s1 σ H1 _ I1 q1) λu s2 ⟨y,H2,I2,r2,q2⟩=>bG (ho η s2 σ H2 x y v u _ I2 r1 r2 q2) λd s3 ⟨z,H3,I3,r3,k,e,q3⟩=>?_)) hm;subst e;cases r3;refine QN ?_;cases k with|false=>exact ite_ff ⟨.bl Ξ,H3,I3,rfl,q3⟩|true=>exact ite_tt (chain_last (bG (hc η s3 σ H3 _ I3 q3) λw' s4 ⟨z',H4,I4,r4,q4⟩=>ll η s4 σ H4 y z' u w' Q I4 r2 r4 q4))
theorem yF(ho:fg X (QA op) r)(ll:fg X (QA IA) r')(ha:PE X a ta)(hb:PE X b tb)(hc:PE X c tc)(hm:lastMarks [op,IA] [b,c]=Ξ:=by with_unfolding_all rfl):PT X (.Compare a [op,IA] [b,c] pos) (Di (tR r r' ta tb tc)):=by intro η s σ H Q I h;refine isTrue_chain (bG (ha η s σ H _ I h) λv s1 ⟨x,H1,I1,r1,q1⟩=>test_link (bG (hb η s1 σ H1 _ I1 q1) λu s2 ⟨y,H2,I2,r2,q2⟩=>bG (ho η s2 σ H2 x y v u _ I2 r1 r2 q2) λd s3 ⟨z,H3,I3,r3,k,e,q3⟩=>?_)) hm;subst e;cases r3;refine QN ?_;cases k with|false=>obtain⟨k',e',q'⟩:=q3;cases e';exact ite_ff ⟨H3,I3,q'⟩|true=>refine ite_tt (test_last (bG (hc η s3 σ H3 _ I3 q3) λw' s4 ⟨z',H4,I4,r4,q4⟩=>bG (ll η s4 σ H4 y z' u w' _ I4 r2 r4 q4) λd' s5 ⟨z2,H5,I5,r5,k2,e2,q5⟩=>?_));subst e2;cases r5;exact QN ⟨H5,I5,q5⟩
def wJ(K:PD)(x:V)(H:Hp)(k:Bool):Prop:=
 match x with|.aU=>k=Ξ|.bl b=>k=b|.int i=>k=(i !=0)|.str y=>y.length<=PQ/\k=((y.length:Int)!=0)|.He y=>y.size<=PQ/\k=((y.size:Int)!=0)|.ref p=>(∃xs,gZ K H p xs/\k=!xs.isEmpty)\/(∃xs,de K H p xs/\k=!xs.isEmpty)\/∃kvs,H p=Δ (.dK kvs)/\k=!kvs.isEmpty|_=>False
theorem tU(r:KV kvs vs):(!vs.isEmpty)=!kvs.isEmpty:=by cases r<;>rfl
theorem lQ(r:aL xs aD):(!aD.toArray.isEmpty)=!xs.isEmpty:=by cases r<;>simp
theorem iG:(PQ:Nat) < 2 ^ 63:=by rw[QG];decide
theorem yG:MV X (λx H Q=>∃k,wJ X.K x H k/\Q k H):=by
 intro η s σ H x v Q I rx h;obtain⟨k,e,q⟩:=h;have hl:=iG;have hs:PQ=16777216:=QG;cases x with
 |aU=>cases rx;have e':k=Ξ:=e;subst e';exact truthy_none ⟨H,I,q⟩|bl b=>cases rx;have e':k=b:=e;subst e';exact QN ⟨H,I,q⟩|int i=>obtain⟨t,rfl⟩:=rx;have e':k=(i !=0):=e;subst e';exact PySem.P.truthy_int ⟨H,I,q⟩|str y=>obtain⟨t,rfl⟩:=rx;obtain⟨hy,e'⟩:y.length<=PQ/\k=((y.length:Int)!=0):=e;subst e';exact PySem.P.truthy_str (by lia) ⟨H,I.tok _,q⟩|He y=>obtain⟨t,rfl⟩:=rx;obtain⟨hy,e'⟩:y.size<=PQ/\k=((y.size:Int)!=0):=e;subst e';exact PySem.W.truthy_bytes (by lia) ⟨H,I.tok _,q⟩|ref p=>
  cases rx;have e':(∃xs,gZ X.K H p xs/\k=!xs.isEmpty)\/(∃xs,de X.K H p xs/\k=!xs.isEmpty)\/∃kvs,H p=Δ (.dK kvs)/\k=!kvs.isEmpty:=e;rcases e' with ⟨xs,hx,e'⟩|⟨xs,hx,e'⟩|⟨kvs,hx,e'⟩
  ·subst e';obtain⟨aD,r,pl,hz⟩:=I.list hx;have hlen:=r.length;exact wpAny_truthy_list pl.isList (by simp only[PF];lia) ⟨H,I.tok _,by rw[lQ r];exact q⟩
  ·subst e';obtain⟨aD,r,pl,hz⟩:=I.tuple hx;have hlen:=r.length;exact truthy_tuple pl (by simp only[PF];lia) ⟨H,I.tok _,by rw[lQ r];exact q⟩
  ·subst e';obtain⟨hz,hS,vs,r,m⟩:kvs.length<=PQ/\(p==QZ)=Ξ/\∃vs,KV kvs vs/\s.heap.DictOf (bg X.prog X.w) p vs:=I.aQ p _ hx;have hlen:kvs.length=vs.length:=Ua r;exact wpAny_truthy_dict hS m (by lia) ⟨H,I.tok _,by rw[tU r];exact q⟩
 |_=>exact(show False from e).elim
theorem yH(ha:PE X a ta)(he:∀whole,Vm a X.env whole=(do let v<-whole;Uu a.pos;Uv [v] (truthy v))):
  PT X a (λσ H Q=>ta σ H λx H'=>∃k,wJ X.K x H' k/\Q k H'):=by
 intro η s σ H Q I h;exact isTrue_plain (bG (ha η s σ H _ I h) λv s1 ⟨x,H1,I1,r1,q1⟩=>yG η s1 σ H1 x v Q I1 r1 q1) (he _)
theorem tV:fg X (Rl .Add) (λx y H Q=>∃i j,x=.str i/\y=.str j/\i.length+j.length<=PQ/\Q (.str (i++j)) H):=by intro η s σ H x y v u Q I rx ry h;obtain⟨i,j,rfl,rfl,hz,q⟩:=h;obtain⟨t,rfl⟩:=rx;obtain⟨t',rfl⟩:=ry;exact add_str (λt' tk=>⟨.str (i++j),H,I.tok _,⟨_,rfl⟩,q⟩) hz
theorem vals1(r:aL [x] us):∃u,us=[u]/\RelV x u:=by cases r with|cons r1 r2=>cases r2;exact⟨_,rfl,r1⟩
theorem vals2(r:aL [x,y] us):∃u w',us=[u,w']/\RelV x u/\RelV y w':=by cases r with|cons r1 r2=>cases r2 with|cons r3 r4=>cases r4;exact⟨_,_,rfl,r1,r3⟩
theorem oa:cY X (.type "int") (λxs H Q=>(∃i,xs=[.int i]/\Q (.int i) H)\/∃k,xs=[.bl k]/\Q (.int (if k then 1 else 0)) H):=by
 intro η s σ H xs us Q I r h;rcases h with ⟨i,rfl,q⟩|⟨k,rfl,q⟩
 ·obtain⟨u,rfl,t,rfl⟩:=vals1 r;exact call_int_int ⟨.int i,H,I,⟨_,rfl⟩,q⟩
 ·obtain⟨u,rfl,r1⟩:=vals1 r;cases r1;exact call_int_bool ⟨.int (if k then 1 else 0),H,I.tok _,⟨_,rfl⟩,q⟩
theorem pH:cY X (.type "str") (λxs H Q=>∃i,xs=[.int i]/\i.natAbs.log2 < 1920/\Q (.str (toString i)) H):=by intro η s σ H xs us Q I r h;obtain⟨i,rfl,hz,q⟩:=h;obtain⟨u,rfl,t,rfl⟩:=vals1 r;exact PySem.P.str_of_int hz ⟨.str _,H,I.tok _,⟨_,rfl⟩,q⟩
end
structure tX(h:Heap)(x dx C:Addr)(mA:Str->Option Value):Prop where
 obj:h.get? x=Δ (Rq C dx)
 ns:h.Ns1 dx mA
 ne:dx≠x
theorem wK{h:Heap}(n:h.Ns1 dx mA):∃od,h.get? dx=Δ od/\∀name,TF name od=Δ (mA name):=by
 obtain⟨o,es,ep,ho,hd,hk,_,hm⟩:=n;refine⟨o,ho,λname=>?_⟩;have e:=hm name;unfold nsFind findBy at e;rw[<-Array.find?_toList] at e;unfold TF;rw[hd];dsimp only;split;·rename_i y q;rw[q] at e;exact congrArg Δ e
 ·rename_i q;rw[q] at e;have a:es.toList.any (·.refKey)=Ξ:=by rw[List.any_eq_false];intro y hy;obtain⟨z,t,MW⟩:=hk y (Array.mem_toList_iff.mp hy);simp[DictEntry.refKey,MW]
  have a':¬es.toList.any (·.refKey)=Λ:=by rw[a];exact Ql
  rw[if_neg a'];exact congrArg Δ e
theorem tX.look(I:tX h x dx C mA):∃od,PySem.W.InstAt h x (Rq C dx) C (Δ od)/\∀name,TF name od=Δ (mA name):=
 let ⟨od,ho,hl⟩:=wK I.ns
 ⟨od,⟨I.obj,rfl,rfl,ho⟩,hl⟩
section
variable{prog:Qr}{w:World}{A:QJ}{E:Value->PJ->Prop}{s:PJ}{K:PD}{x dx C f:Addr}{mA:Str->Option Value}{name:Str}{v:Value}
theorem get_map(X:K.In s.heap)(I:tX s.heap x dx C mA)(hg:Sj K C name=Λ)(hh:SJ K C=Λ)(ha:Qi K (.ref C) name=Δ Θ)(hv:mA name=Δ v)(LC:PySem.W.handedIn v=Λ)(h:Q v {s with toks:=s.toks+1}):
  wpAny (model prog w) A (getAttr (.ref x) name expr) Q E s:=by
 obtain⟨od,J,hl⟩:=I.look;exact PySem.W.get_value X J (Tj hg).1 (PySem.W.findObj_own hh ha rfl (by rw[hl,hv])) LC h
theorem yI(X:K.In s.heap)(I:tX s.heap x dx C mA)(hg:Sj K C name=Λ)(hf:Qi K (.ref C) name=Δ (Δ (.ref f)))(ht:Sk K (.ref f)=Λ)(hv:mA name=Θ)(h:Q (.ref f,[.ref x]) s):
  wpAny (model prog w) A (Uk (.ref x) name pl) Q E s:=by
 obtain⟨od,J,hl⟩:=I.look;exact PySem.W.method_fn X J (Tj hg).1 (Tj hg).2 hf (beq_iff_eq.mp ht) (by show(TF name od).map (·.isSome)=Δ Ξ;rw[hl,hv];rfl) h
theorem Bh(X:K.In s.heap)(I:tX s.heap x dx C mA)(hs:Qi K (.ref C) "__setattr__"=Δ (Δ (.builtin "object.__setattr__")))(hp:TY K C=Λ)(ht:UH K C name=Δ Θ)(hh:SJ K C=Λ)(hw:Ve mA ns)(hsz:ns.length<=PQ)(h:∀h',tX h' x dx C (λy=>if y=name then Δ v else mA y)->Q5 dx s.heap h'->Q () {s with heap:=h',toks:=s.toks+2}):
  wpAny (model prog w) A (setAttr (.ref x) name v) Q E s:=by
 obtain⟨od,J,hl⟩:=I.look;refine PySem.W.set_plain X J hs (PySem.W.osa_open (s:={s with toks:=s.toks+1}) (r:=Θ) X J hp ht λb=>?_);obtain⟨cd,hc,yu⟩:=PySem.W.any_some hh;have hx:s.heap.get? x=Δ ⟨.ref C,Δ dx,.plain,#[]⟩:=I.obj;refine Pu (Py (Pu (Pu (wpAny_loadPart hx (Pu (PySem.W.Looks.here (s:={s with toks:=s.toks+1}) (PySem.W.looks_clsIn X hc) ?_))))));rw[yu];refine Py (a:=Δ dx) (Pu (Py (Pu ?_)));refine wpAny_nsSet1 (s:={s with toks:=s.toks+1}) I.ns λh' LD wH=>?_;obtain⟨oD,esD,epD,hoD,hdD,hcD⟩:=LD.count (Ve.cons name v hw);refine Pu (wpAny_lookBehind hoD (by rw[hdD];exact pastItsLine_dict (Qj hcD (by rw[PU];lia))) ?_);exact Py (h _ ⟨(wH.2 _ (QP I.ne)).trans I.obj,LD,I.ne⟩ wH)
theorem yJ(X:K.In s.heap)(hm:UI K C=Λ)(hi:Qi K (.ref C) "__init__"=Δ (Δ (.ref f)))(hf:PySem.W.typeIn K (.ref f)=Δ (.type "function"))(h:SI (model prog w) (A.under (.builtin "type.__call__" ⟨.ref C::vs,kw⟩)) (.call (.ref f) ⟨.ref (s.heap.objs.size+1)::vs,kw⟩) (PySem.W.InitBack (s.heap.objs.size+1) R)
   {s with heap:=(s.heap.push QO).push (Rq C s.heap.objs.size)}):
  SI (model prog w) A (.call (.ref C) ⟨vs,kw⟩) R s:=by
 obtain⟨hh,g,d,t,os⟩:=s;exact PySem.W.make_core (PySem.W.makes_of X hm) (PySem.W.looks_findIn X hi) (λself=>PySem.W.bind_fn X self hf) (.inl rfl) h
end
noncomputable def eW(f:Str)(v:V):List (Str×V)->List (Str×V)
 |[]=>[(f,v)]|(g,x)::r=>if g=f then(g,v)::r else(g,x)::eW f v r
theorem kq f g v:∀fs:List (Str×V),(eW f v fs).lookup g=if g=f then Δ v else fs.lookup g
 |[]=>by
  show Q9 g [(f,v)]=_;by_cases h:g=f;·have hb:(g==f)=Λ:=beq_iff_eq.mpr h;simp only[Q9,hb,if_pos h]
  ·have hb:(g==f)=Ξ:=beq_eq_false_iff_ne.mpr h;simp only[Q9,hb,if_neg h]
 |(k,x)::r=>by
  have ih:=kq f g v r;rw[show eW f v ((k,x)::r)=(if k=f then(k,v)::r else(k,x)::eW f v r) from rfl];by_cases hk:k=f
  ·rw[if_pos hk];by_cases h:g=k;·have hb:(g==k)=Λ:=beq_iff_eq.mpr h;simp only[Q9,hb,if_pos (h.trans hk)]
   ·have hb:(g==k)=Ξ:=beq_eq_false_iff_ne.mpr h;simp only[Q9,hb,if_neg (λe:g=f=>h (e.trans hk.symm))]
  ·rw[if_neg hk];by_cases h:g=k;·have hb:(g==k)=Λ:=beq_iff_eq.mpr h;simp only[Q9,hb,if_neg (λe:g=f=>hk (h.symm.trans e))]
   ·have hb:(g==k)=Ξ:=beq_eq_false_iff_ne.mpr h;simp only[Q9,hb];exact ih
theorem jS f v:∀fs:List (Str×V),f∈(eW f v fs).map (·.1)/\∀g,g∈fs.map (·.1)->g∈(eW f v fs).map (·.1)
 |[]=>⟨by simp[eW],λg h=>by simp at h⟩|(k,x)::r=>by
  obtain⟨i1,i2⟩:=jS f v r;rw[show eW f v ((k,x)::r)=(if k=f then(k,v)::r else(k,x)::eW f v r) from rfl];by_cases hk:k=f;·rw[if_pos hk];subst hk;exact⟨by simp,λg h=>by simpa using h⟩
  ·rw[if_neg hk];refine⟨?_,λg h=>?_⟩;·rw[Qq];exact Pz _ i1
   ·rw[Qq] at h ⊢;rcases Ub.mp h with e|e;·exact Ub.mpr (.inl e)
    ·exact Pz _ (i2 g e)
theorem kr f v:∀fs:List (Str×V),(eW f v fs).length<=fs.length+1
 |[]=>by simp[eW]|(k,x)::r=>by
  have ih:=kr f v r;rw[show eW f v ((k,x)::r)=(if k=f then(k,v)::r else(k,x)::eW f v r) from rfl];by_cases hk:k=f;·rw[if_pos hk,PU,PU];lia
  ·rw[if_neg hk,PU,PU];lia
theorem gh.some_of(r:gh (Δ v) o):∃u,o=Δ u/\RelV v u:=by cases o with|none=>exact(show False from r).elim|some u=>exact⟨u,rfl,r⟩
theorem gh.none_of(r:gh Θ o):o=Θ:=by cases o with|none=>rfl|some u=>exact(show False from r).elim
theorem wL(r:RelV v u):PySem.W.handedIn u=Λ:=by cases v with|aU=>cases (show u=Ry from r);rfl|bl b=>cases (show u=Sw b from r);rfl|int i=>obtain⟨t,e⟩:=(show ∃t,u=Sh i t from r);cases e;rfl|str x=>obtain⟨t,e⟩:=(show ∃t,u=Sz x t from r);cases e;rfl|He b=>obtain⟨t,e⟩:=(show ∃t,u=Value.bytes b t from r);cases e;rfl|DU b=>obtain⟨t,e⟩:=(show ∃t,u=Vp b t from r);cases e;rfl|ref a=>cases (show u=PZ a from r);rfl|ty n=>cases (show u=R0 n from r);rfl
section
variable{P:Qr}{w:World}{H H':Hp}{h h':Heap}{a C dx:Addr}{fs C9:List (Str×V)}
theorem lr(aQ:gf P w H h)(e:H a=Δ (.ins C dx fs)):∃mA,tX h a dx C mA/\(∀f,gh (fs.lookup f) (mA f))/\Ve mA (fs.map (·.1))/\fs.length<=1000/\H dx=Δ (.own a):=by obtain⟨d,z,ne,ob,mA,n,r,q⟩:=(show bA P w H h a (.ins C dx fs) from aQ a _ e);exact⟨mA,⟨ob,n,ne⟩,r,q,z,d⟩
end
structure qQ(K:PD)(C:Addr):Prop where
 pg:Sj K C Str.empty=Λ
 hd:SJ K C=Λ
 po:TY K C=Λ
 sa:Qi K (.ref C) "__setattr__"=Δ (Δ (.builtin "object.__setattr__"))
theorem qQ.get{K:PD}(c:qQ K C)f:Sj K C f=Λ:=c.pg
noncomputable def eX(K:PD)(C:Addr)(f:Str):Prop:=Qi K (.ref C) f=Δ Θ
theorem eX.IC{K:PD}(n:eX K C f):UH K C f=Δ Θ:=by unfold UH;rw[show Qi K (.ref C) f=Δ Θ from n];rfl
structure tY(K:PD)(C:Addr)(m:Str)(f:Addr):Prop where
 at_:Qi K (.ref C) m=Δ (Δ (.ref f))
 fn:Sk K (.ref f)=Λ
 kp:Rz K (.ref f)=Λ
section
variable{X:Cx}{η:List (Addr×Obj)}{σ:St}{H:Hp}{s:PJ}{a C dx:Addr}{fs:List (Str×V)}{f:Str}{v:V}{A:QJ}{E:Value->PJ->Prop}
theorem lR(I:Inv X η σ H s)(e:H a=Δ (.ins C dx fs))(c:qQ X.K C)(n:eX X.K C f)(l:fs.lookup f=Δ v)(h:∀u s',Inv X η σ H s'->RelV v u->Q u s'):wpAny (model X.prog X.w) A (getAttr (.ref a) f b) Q E s:=by obtain⟨mA,O,r,_,_,_⟩:=lr I.aQ e;obtain⟨u,hu,ru⟩:=gh.some_of (v:=v) (o:=mA f) (by rw[<-l];exact r f);exact get_map I.iY O (c.get f) c.hd n hu (wL ru) (h u _ (I.tok _) ru)
theorem iH(I:Inv X η σ H s)(e:H a=Δ (.ins C dx fs))(c:qQ X.K C)(k:tY X.K C m g)(l:fs.lookup m=Θ)(h:Q (.ref g,[.ref a]) s):wpAny (model X.prog X.w) A (Uk (.ref a) m pl) Q E s:=by obtain⟨mA,O,r,_,_,_⟩:=lr I.aQ e;have hn:mA m=Θ:=gh.none_of (by rw[<-l];exact r m);exact yI I.iY O (c.get m) k.at_ k.fn hn h
theorem lS(I:Inv X η σ H s)(e:H a=Δ (.ins C dx fs))(c:qQ X.K C)(n:eX X.K C f)(hl:fs.length < 1000)(ry:RelV y u)(h:∀s',Inv X η σ (upd H a (.ins C dx (eW f y fs))) s'->Q () s'):wpAny (model X.prog X.w) A (setAttr (.ref a) f u) Q E s:=by
 obtain⟨mA,O,r,wi,_,ho⟩:=lr I.aQ e;have hz:(fs.map (·.1)).length<=PQ:=by rw[PX,QG];lia
 refine Bh I.iY O c.sa c.po n.IC c.hd wi hz λh' O' sb=>h _ ?_;have hd:∃o,h'.get? dx=Δ o:=let ⟨o,_,_,e',_⟩:=O'.ns;⟨o,e'⟩
 refine I.write (x:=a) (e:=dx) (by rw[e];exact QM) (.inr ho) (λb q hb z=>(sb.2 b hb).trans z) hd ?_;refine⟨by rw[aw O.ne];exact ho,?_,O.ne,O'.obj,_,O'.ns,λg=>?_,λg hg=>?_⟩;·have:=kr f y fs;lia
 ·show gh ((eW f y fs).lookup g) (if g=f then Δ u else mA g);rw[kq];by_cases q:g=f;·rw[if_pos q,if_pos q];exact ry
  ·rw[if_neg q,if_neg q];exact r g
 ·by_cases q:g=f;·rw[q];exact(jS f y fs).1
  ·refine(jS f y fs).2 g (wi g λz=>hg ?_);show(if g=f then Δ u else mA g)=Θ;rw[if_neg q];exact z
theorem Inv.made(I:Inv X η σ H s):Inv X η σ (upd (upd H s.heap.objs.size (.own (s.heap.objs.size+1))) (s.heap.objs.size+1) (.ins C s.heap.objs.size []))
  {s with heap:=(s.heap.push QO).push (Rq C s.heap.objs.size)}:=by
 have e1:(s.heap.push QO).get? s.heap.objs.size=Δ QO:=PR s.heap rfl;have e2:((s.heap.push QO).push (Rq C s.heap.objs.size)).get? (s.heap.objs.size+1)=Δ (Rq C s.heap.objs.size):=by have:=PR (s.heap.push QO) (o:=Rq C s.heap.objs.size) rfl;rwa [QU] at this
 have e3:(s.heap.push QO).Ns s.heap.objs.size (λ_=>Θ):=⟨QO,#[],_,e1,rfl,(λe he=>absurd he (by simp)),λ_=>rfl⟩;have I1:=I.laid (a:=s.heap.objs.size) (o:=.own (s.heap.objs.size+1)) (h':=s.heap.push QO) (t':=s.toks) (λb u q=>Px _ q) (PH _) ⟨_,e1⟩;refine I1.laid (a:=s.heap.objs.size+1) (o:=.ins C s.heap.objs.size []) (t':=s.toks) (λb u q=>Px _ q) (UA (QU _ _)) ?_;have ne:s.heap.objs.size≠s.heap.objs.size+1:=Qe (RT _);refine⟨by rw[aw ne,aF],QH _,ne,e2,λ_=>Θ,(Heap.Ns1.of_empty e3).at λo q=>Px _ q,λ_=>QM,λy hy=>absurd rfl hy⟩
theorem Bi(hb:RL e f env (eval e env)=eval e env)(h:wpAny (model prog w) A (eval e env) (λo bB=>wpAny (model prog w) A (getAttr o f Λ) Q E bB) E s):wpAny (model prog w) A (eval (.Attribute e f pos) env) Q E s:=
 Attribute_any_ h (by rw[arm_eval_Attribute,hb])
end
def MX(K:PD)(ta:TE)(f:Str):TE:=λσ H Q=>ta σ H λx H1=>∃a C dx fs v,x=.ref a/\H1 a=Δ (.ins C dx fs)/\qQ K C/\eX K C f/\fs.lookup f=Δ v/\Q v H1
def MY(K:PD)(ta tv:TE)(f:Str):TS:=λD σ H=>tv σ H λy H1=>ta σ H1 λx H2=>∃a C dx fs,x=.ref a/\H2 a=Δ (.ins C dx fs)/\qQ K C/\eX K C f/\fs.length < 1000/\
 D.nx σ (upd H2 a (.ins C dx (eW f y fs)))
def ID(X:Cx)(op:Vx)(rd:V->V->Hp->VK->Prop):Prop:=
 ∀(η:List (Addr×Obj)) (s:PJ) (σ:St) (H:Hp) (x y:V) (u v:Value) (Q:VK),Inv X η σ H s->RelV x u->RelV y v->rd x y H Q->wpAny (model X.prog X.w) X.A (inplaceOp op u v) (EP X η σ Q) X.xe s
def Bj(K:PD)(ta tv:TE)(rd:V->V->Hp->VK->Prop)(f:Str):TS:=λD σ H=>ta σ H λx H1=>∃a C dx fs v,x=.ref a/\H1 a=Δ (.ins C dx fs)/\qQ K C/\eX K C f/\fs.lookup f=Δ v/\
 tv σ H1 λy H2=>rd v y H2 λz H3=>∃MZ C9,H3 a=Δ (.ins C MZ C9)/\C9.length < 1000/\D.nx σ (upd H3 a (.ins C MZ (eW f z C9)))
section
variable{X:Cx}{o e value:Expr}{f:Str}{pos pos' Eb:Pos}{ta tv:TE}
theorem Ec(he:PE X e ta)(hb:RL e f X.env (eval e X.env)=eval e X.env):PE X (.Attribute e f pos) (MX X.K ta f):=by intro η s σ H Q I h;refine Bi hb (bG (he η s σ H _ I h) λu s1 ⟨x,H1,I1,rx,a,C,dx,fs,v,ex,ea,c,n,l,q⟩=>?_);subst ex;obtain rfl:u=PZ a:=rx;exact lR I1 ea c n l λu' s2 I2 ru=>⟨v,H1,I2,ru,q⟩
theorem Ed(ha:PE X o ta)(hv:PE X value tv)(hs:S3 value (Δ (.Attribute o f pos')) pos.line X.env=pure Ξ):PS X (.Assign [.Attribute o f pos'] value pos) (MY X.K ta tv f):=by intro η s σ H D I h;refine plainObj_wpAny_Assign_Attribute (bG (hv η s σ H _ I h) λu s1 ⟨y,H1,I1,ry,q⟩=>bG (ha η s1 σ H1 _ I1 q) λov s2 ⟨x,H2,I2,rx,a,C,dx,fs,ex,ea,c,n,l,q2⟩=>?_) hs;subst ex;obtain rfl:ov=PZ a:=rx;exact lS I2 ea c n l ry λs3 I3=>⟨σ,_,I3,q2⟩
theorem wM(ha:PE X o ta)(hv:PE X value tv)(M0:ID X op rd):PS X (.AugAssign (.Attribute o f Eb) op value pos) (Bj X.K ta tv rd f):=by intro η s σ H D I h;refine wpAny_AugAssign_AttributeAny (bG (ha η s σ H _ I h) λov s1 ⟨x,H1,I1,rx,a,C,dx,fs,v,ex,ea,c,n,l,q⟩=>?_);subst ex;obtain rfl:ov=PZ a:=rx;refine lR I1 ea c n l λu s2 I2 ru=>bG (hv η s2 σ H1 _ I2 q) λw3 s3 ⟨y,H2,I3,ry,q3⟩=>bG (M0 η s3 σ H2 v y u w3 _ I3 ru ry q3) λw4 s4 ⟨z,H3,I4,rz,MZ,C9,ea',l',q4⟩=>?_;exact lS I4 ea' c n l' rz λs5 I5=>⟨σ,_,I5,q4⟩
noncomputable def M3:V->V->Hp->VK->Prop:=λx y H Q=>∃i j,x=.int i/\y=.int j/\Q (.int (i+j)) H
theorem Ee:ID X .Add M3:=by rintro η s σ H x y u v Q I rx ry ⟨i,j,rfl,rfl,q⟩;obtain⟨t,rfl⟩:=(show ∃t,u=Sh i t from rx);obtain⟨t',rfl⟩:=(show ∃t',v=Sh j t' from ry);exact PyProof.Rows.iadd_int ⟨.int (i+j),H,I.tok _,⟨_,rfl⟩,q⟩
theorem Dj(he:PE X e te)(I:Inv X η σ H s)(h:te σ H λx H1=>∃a C dx fs g,x=.ref a/\H1 a=Δ (.ins C dx fs)/\qQ X.K C/\tY X.K C m g/\fs.lookup m=Θ/\
   ∀s1,Inv X η σ H1 s1->wpAny (model X.prog X.w) X.A (Vc pos (.ref g) [.ref a] (Rp pos (P5 args X.env)) (Ta pos (RY [] X.env))) Q X.xe s1)(ht:eval (.Call (.Attribute e m apos) args [] pos) X.env=(do
   let ov<-eval e X.env
   Uu apos.atName
   let (f,first)<-Uv [ov] (Uk ov m pl)
   Vc pos f first (Rp pos (P5 args X.env)) (Ta pos (RY [] X.env)))):
  wpAny (model X.prog X.w) X.A (eval (.Call (.Attribute e m apos) args [] pos) X.env) Q X.xe s:=by
 refine SV (pl:=pl) (bG (he η s σ H _ I h) λu s1 ⟨x,H1,I1,rx,a,C,dx,fs,g,ex,ea,c,k,l,q⟩=>?_) ht;subst ex;obtain rfl:u=PZ a:=rx;exact iH I1 ea c k l (q s1 I1)
end
section
variable{X:Cx}{η:List (Addr×Obj)}{σ:St}{H:Hp}{s:PJ}{A:QJ}{E:Value->PJ->Prop}{Q:Value->PJ->Prop}{c:Value}{b:Bool}
inductive iI (K:PD) (H:Hp):V->Value->Prop where
 |aU:iI K H .aU (.type "NoneType")
 |bl (x:Bool):iI K H (.bl x) (.type "bool")
 |int (i:Int):iI K H (.int i) (.type "int")
 |str (x:Str):iI K H (.str x) (.type "str")
 |DU (x:UInt64):iI K H (.DU x) (.type "float")
 |lst {a:Addr} {xs:List V} (e:H a=Δ (.lst xs)):iI K H (.ref a) (.type "list")
 |cC {a:Addr} {o:Obj} {xs:List V} (e:H a=Δ (.cC o (.lst xs))):iI K H (.ref a) (.type "list")
 |tup {a:Addr} {xs:List V} (e:H a=Δ (.tup xs)):iI K H (.ref a) (.type "tuple")
 |dK {a:Addr} {kvs:List (Key×V)} (e:H a=Δ (.dK kvs)):iI K H (.ref a) (.type "dict")
 |dT {a:Addr} {kvs:List (List Key×V)} (e:H a=Δ (.dT kvs)):iI K H (.ref a) (.type "dict")
 |ins {a C dx:Addr} {fs:List (Str×V)} (e:H a=Δ (.ins C dx fs)) (cl:qQ K C) (ha:Qi K (.ref C) "__class__"=Δ (Δ (.builtin "object.__class__")))
   (hn:PySem.W.specialIn K (.builtin "object.__class__") "__get__"=Δ (Δ (.builtin "getset_descriptor.__get__"))) (htk:PySem.W.takesIn K (.builtin "object.__class__")=Δ Λ)
   (hm:PySem.W.mroIn K C (.type "object")=Δ Λ):iI K H (.ref a) (.ref C)
theorem jT(I:Inv X η σ H s)(rx:RelV x u)(ty:iI X.K H x t)(e:Qw X.K t c=Δ b)(h:∀tk,Q (.bool b) {s with toks:=tk}):
  wpAny (model X.prog X.w) A (call (.builtin "isinstance") [u,c]) Q E s:=by
 cases ty with
 |aU=>cases (show u=Ry from rx);exact QE PySem.W.kitx_none I.iY QM e (λz=>nomatch z) h|bl y=>cases (show u=Sw y from rx);exact QE PySem.W.kitx_bool I.iY QM e (λz=>nomatch z) h|int i=>obtain⟨t,q⟩:=(show ∃t,u=Sh i t from rx);cases q;exact QE PySem.W.kitx_int I.iY QM e (λz=>nomatch z) h|str y=>obtain⟨t,q⟩:=(show ∃t,u=Sz y t from rx);cases q;exact QE PySem.W.kitx_str I.iY QM e (λz=>nomatch z) h|DU y=>obtain⟨t,q⟩:=(show ∃t,u=Vp y t from rx);cases q;exact QE PySem.W.kitx_float I.iY QM e (λz=>nomatch z) h|@lst a xs ea=>cases (show u=PZ a from rx);obtain⟨_,_,n,_,h1⟩:=(show bA X.prog X.w H s.heap a (.lst xs) from I.aQ a _ ea);exact QE PySem.W.kitx_list I.iY ⟨_,h1,rfl⟩ e (λz=>nomatch z) h
 |@cC a ob xs ea=>cases (show u=PZ a from rx);obtain⟨_,_,_,n,_,h1⟩:=(show bA X.prog X.w H s.heap a (.cC ob (.lst xs)) from I.aQ a _ ea);exact QE PySem.W.kitx_list I.iY ⟨_,h1,rfl⟩ e (λz=>nomatch z) h|@tup a xs ea=>cases (show u=PZ a from rx);obtain⟨_,_,_,p⟩:=(show bA X.prog X.w H s.heap a (.tup xs) from I.aQ a _ ea);obtain⟨o,h1,h2,_⟩:=p;exact QE PySem.W.kitx_tuple I.iY ⟨o,h1,h2⟩ e (λz=>nomatch z) h|@dK a kvs ea=>cases (show u=PZ a from rx);obtain⟨_,_,vs,_,p⟩:=(show bA X.prog X.w H s.heap a (.dK kvs) from I.aQ a _ ea);obtain⟨o,es,ep,h1,h2,_⟩:=p;exact QE PySem.W.kitx_dict I.iY ⟨o,h1,h2.1⟩ e (λz=>nomatch z) h|@dT a kvs ea=>cases (show u=PZ a from rx);obtain⟨_,_,xs,_,o,es,ep,h1,h2,_⟩:=(show bA X.prog X.w H s.heap a (.dT kvs) from I.aQ a _ ea);exact QE PySem.W.kitx_dict I.iY ⟨o,h1,h2.1⟩ e (λz=>nomatch z) h|@ins a C dx fs ea cl ha hn htk hm=>cases (show u=PZ a from rx);obtain⟨mA,O,_⟩:=lr I.aQ ea;obtain⟨od,J,_⟩:=O.look;exact QE (PySem.W.kitx_own (cl.get _) cl.hd ha hn htk hm) I.iY J e (λz=>nomatch z) h
end
structure cR(k:Nat)(A:QJ):Prop where
 hd:A.handled=Θ
 dp:A.depth+3*k+5 < recursionLimit
 un:A.units+16*k+200 < cLine
theorem cR.mono(r:cR k A)(h:j<=k):cR j A:=⟨r.hd,by have:=r.dp;lia,by have:=r.un;lia⟩
theorem cR.deeper(r:cR (k+1) A)env:cR k (A.deeper env):=
 ⟨r.hd,by have:=r.dp;show A.depth+1+3*k+5 < _;lia,by have:=r.un;show A.units+3+16*k+200 < _;lia⟩
theorem tZ{A:QJ}:(A.under (.builtin "type.__call__" ⟨.ref C::us,kw⟩)).depth=A.depth+1:=by first|rfl|simp[Vi,Code.weight,Code.isCreation,Code.isGuard,Code.isCaller,Code.frames,Vg,guardIds]
theorem t7{A:QJ}:(A.under (.builtin "type.__call__" ⟨.ref C::us,kw⟩)).units=A.units+1:=by first|rfl|simp[Vi,Code.cUnits,Code.frames,Vg]
theorem cR.make(r:cR (k+1) A)C us kw:cR k (A.under (.builtin "type.__call__" ⟨.ref C::us,kw⟩)):=
 ⟨r.hd,by have:=r.dp;rw[tZ];lia,by have:=r.un;rw[t7];lia⟩
theorem cR.depth(r:cR k A):A.depth < recursionLimit:=by have:=r.dp;lia
def Ef:TA:=λ_ H Q=>Q [] H
def IE(ta:TE)(tr:TA):TA:=λσ H Q=>ta σ H λx H1=>tr σ H1 λxs H2=>Q (x::xs) H2
section
variable{X:Cx}{e:Expr}{es:List Expr}{te:TE}{t:TA}{pos:Pos}
theorem ez:PA X [] Ef:=λ_ _ _ _ H Q I h=>R9 ⟨[],H,I,.nil,h⟩
theorem cj(ha:PE X e te)(hr:PA X es t)(hs:P5 (e::es) X.env=(Ξ,eval e X.env)::P5 es X.env:=by rfl):PA X (e::es) (IE te t):=by intro pos η s σ H Q I h;rw[hs];show wpAny _ _ (spliced ((Ξ,eval e X.env)::Rp pos (P5 es X.env))) _ _ s;refine RB (bG (ha η s σ H _ I h) λu s1 ⟨x,H1,I1,r1,q1⟩=>?_);exact bG (hr pos η s1 σ H1 _ I1 q1) λus s2 ⟨xs,H2,I2,r2,q2⟩=>⟨x::xs,H2,I2,.cons r1 r2,q2⟩
def M4(t:TA):TE:=λσ H Q=>t σ H λxs H1=>xs.length<=PQ/\∀p,H1 p=Θ->Q (.ref p) (upd H1 p (.tup xs))
def M5(t:TA):TE:=λσ H Q=>t σ H λxs H1=>xs.length<=PQ/\∀p,H1 p=Θ->Q (.ref p) (upd H1 p (.lst xs))
theorem yK{x1}(h:PA X es t):PE X (.Tuple es x1 pos) (M4 t):=by intro η s σ H Q I hq;refine wpAny_Tuple_spliced (bG (h pos η s σ H _ I hq) λus s1 ⟨xs,H1,I1,r,z,q⟩=>⟨by rw[<-r.length];exact z,?_⟩);have hf:H1 s1.heap.objs.size=Θ:=I1.aQ.fresh (PH _);refine⟨.ref s1.heap.objs.size,upd H1 s1.heap.objs.size (.tup xs),I1.laid (t':=s1.toks) (λb u e=>Px _ e) (PH _) ?_,rfl,q _ hf⟩;exact⟨z,us,r,⟨_,PR _ rfl,rfl,_,rfl⟩⟩
theorem yL(h:PA X es t):PE X (.List es pos) (M5 t):=by intro η s σ H Q I hq;refine wpAny_List_spliced (bG (h pos η s σ H _ I hq) λus s1 ⟨xs,H1,I1,r,z,q⟩=>⟨by rw[<-r.length];exact z,?_⟩);have hf:H1 s1.heap.objs.size=Θ:=I1.aQ.fresh (PH _);refine⟨.ref s1.heap.objs.size,upd H1 s1.heap.objs.size (.lst xs),I1.laid (t':=s1.toks) (λb u e=>Px _ e) (PH _) ?_,rfl,q _ hf⟩;exact⟨z,us,0,r,PR _ rfl⟩
end
abbrev Sp:=List V->Hp->VK->XK->Prop
abbrev vF:=List Env->Hp->PJ->XK->Value->PJ->Prop
structure t8(P:Qr)(w:World)(K:PD)(mg:Str->Option Value)(base:Heap)(A:QJ)(outer:List Env)(s:PJ)(H:Hp):Prop where
 frames:A.frames=Δ outer
 mod:Mod K mg base
 bs:∀b o,base.get? b=Δ o->s.heap.get? b=Δ o/\H b=Θ
 yg:base.objs.size<=s.heap.objs.size
 eM:s.heap.FunFrames base outer
 tG:∀b∈gi outer,H b=Θ
 aQ:gf P w H s.heap
 bare:Tu s.gens
def CE(outer:List Env)(P:Qr)(w:World)(H:Hp)(s:PJ)(Q:VK)(u:Value)(s':PJ):Prop:=
 ∃v H',s'.os=s.os/\Tu s'.gens/\Un (gi outer) [] H H' s.heap s'.heap/\gf P w H' s'.heap/\RelV v u/\Q v H'
def CR(CX:vF)(outer:List Env)(P:Qr)(w:World)(H:Hp)(s:PJ)(Q:VK)(E:XK)(r:Result)(s':PJ):Prop:=
 match r with|.ok (.ret u)=>CE outer P w H s Q u s'|.ok _=>False|.error e=>CX outer H s E e s'
structure dy(P:Qr)(w:World)(K:PD)(mg:Str->Option Value)(base:Heap)(CX:vF)(k:Nat)(f:Addr)(fd:Rn)(ps:List Str)(sp:Sp):Prop where
 len:∀vs H Q E,sp vs H Q E->vs.length=ps.length
 run:∀(A:QJ) (outer:List Env) (s:PJ) (H:Hp) (args:Args) (us:List Value) (vs:List V) (Q:VK) (E:XK),cR k A->t8 P w K mg base A outer s H->Vh s fd args (ps.zip us)->aL vs us->sp vs H Q E->
  SI (model P w) A (.call (.ref f) args) (CR CX outer P w H s Q E) s
theorem dy.mono{K:PD}(F:dy P w K mg base CX j f fd ps sp)(h:j<=k):
  dy P w K mg base CX k f fd ps sp:=⟨F.len,λA outer s H args us vs Q E hr=>F.run A outer s H args us vs Q E (hr.mono h)⟩
theorem t8.make{K:PD}(e:t8 P w K mg base A outer s H)C us kw:
  t8 P w K mg base (A.under (.builtin "type.__call__" ⟨.ref C::us,kw⟩)) outer s H:=⟨by first|exact e.frames|(simpa[Vi,Code.envs,Vg,pushEnvs] using e.frames),e.mod,e.bs,e.yg,e.eM,e.tG,e.aQ,e.bare⟩
section
variable{X:Cx}{η:List (Addr×Obj)}{σ:St}{H:Hp}{s s':PJ}
theorem Inv.qR(I:Inv X η σ H s):t8 X.prog X.w X.K X.mg X.base X.A X.stack s H:=
 ⟨I.ok.frames,I.ok.mod,I.bs,Qj I.ok.yg I.sz,I.stack,I.vp,I.aQ,I.bare⟩
theorem Inv.after(I:Inv X η σ H s)(h:CE X.stack X.prog X.w H s Q u s'):EP X η σ Q u s':=by obtain⟨v,H',os,bare,un,aQ,r,q⟩:=h;obtain⟨hh,g,d,t,os'⟩:=s';obtain rfl:os'=s.os:=os;exact⟨v,H',I.call (h':=hh) (g':=g) (d':=d) (t':=t) (ch:=[]) un aQ bare (λb z=>absurd z (by simp)),r,q⟩
end
noncomputable def yM(sp:Sp)(lT:List V)(E:XK)(t:TA):TE:=λσ H Q=>t σ H λvs H1=>sp (vs++lT) H1 Q E
noncomputable def vG(C:Addr)(m:Str)(sp:Sp)(lT:List V)(E:XK)(ta:TE)(t:TA):TE:=λσ H Q=>ta σ H λx H1=>∃a dx fs,x=.ref a/\H1 a=Δ (.ins C dx fs)/\fs.lookup m=Θ/\
 t σ H1 λvs H2=>sp (x::(vs++lT)) H2 Q E
def IF(C:Addr)(sp:Sp)(lT:List V)(E:XK)(t:TA):TE:=λσ H Q=>t σ H λvs H1=>∀x dx,H1 x=Θ->H1 dx=Θ->dx≠x->
 sp (.ref x::(vs++lT)) (upd (upd H1 dx (.own x)) x (.ins C dx [])) (λv H2=>v=.aU/\Q (.ref x) H2) E
noncomputable def Binds(K:PD)(fd:Rn)(ps:List Str)(ds:List Value):Prop:=
 ∀(s:PJ) (us:List Value),K.In s.heap->(us++ds).length=ps.length->Vh s fd ⟨us,[]⟩ (ps.zip (us++ds))
theorem Binds.all{K:PD}(h:∀us:List Value,us.length=ps.length->bindArgs fd ⟨us,[]⟩=pure (ps.zip us)):Binds K fd ps []:=λs us _ hl=>by rw[QK] at hl ⊢;exact .of_eq (h us hl)
noncomputable def gk(CX:vF)(X:Cx)(E:XK):Prop:=∀(η:List (Addr×Obj)) (σ:St) (H:Hp) (s:PJ) (e:Value) (s':PJ),Inv X η σ H s->CX X.stack H s E e s'->X.xe e s'
section
variable{X:Cx}{CX:vF}{k:Nat}{f C:Addr}{fd:Rn}{ps:List Str}{sp:Sp}{lT:List V}{ds:List Value}{E:XK}{x m:Str}{p pos apos:Pos}{e o:Expr}{es:List Expr}{ta:TE}{t:TA}
theorem pI(F:dy X.prog X.w X.K X.mg X.base CX k f fd ps sp)(hr:cR k X.A)(hb:Binds X.K fd ps ds)(hd:aL lT ds)(hx:gk CX X E)(I:Inv X η σ H s)(r:aL vs us)(h:sp (vs++lT) H Q E):wpAny (model X.prog X.w) X.A (call (.ref f) us) (EP X η σ Q) X.xe s:=by
 have r2:aL (vs++lT) (us++ds):=r.append hd;have hl:(us++ds).length=ps.length:=by rw[<-r2.length];exact F.len _ _ _ _ h
 refine U4 (SH (F.run X.A X.stack s H ⟨us,[]⟩ (us++ds) (vs++lT) Q E hr I.qR (hb s us I.iY hl) r2 h) λr s' hq=>?_);cases r with|error e=>exact hx η σ H s e s' I hq|ok fl=>cases fl with|ret u=>exact I.after hq|next=>exact Q1 hq|brk=>exact Q1 hq|cont=>exact Q1 hq
theorem Bk(F:dy X.prog X.w X.K X.mg X.base CX k f fd ps sp)(hr:cR k X.A)(hg:Gl X x)(hm:X.mg x=Δ (.ref f))(hk:Rz X.K (.ref f)=Λ)(hb:Binds X.K fd ps ds)(hd:aL lT ds)(hx:gk CX X E)
  (ha:PA X (e::es) t) (Bl:(x==("__debug__":Str))=Ξ:=by decide) (he:P5 (e::es) X.env=(Ξ,eval e X.env)::P5 es X.env:=by rfl) (yi:(Rp pos (P5 es X.env)).any (·.1)=Ξ:=by rfl):
  PE X (.Call (.Name x p) (e::es) [] pos) (yM sp lT E t):=by
 intro η s σ H Q I h;refine Rg (i6 I hg hm ?_ Bl);refine TJ (h₀:=X.base) I.ok.mod.tu hk (bG (ha pos η s σ H _ I h) λus s1 ⟨vs,H1,I1,r,q⟩=>⟨I1.iY,?_⟩) he yi;exact pI F hr hb hd hx I1 r q
theorem yN(F:dy X.prog X.w X.K X.mg X.base CX k f fd ps sp)(hr:cR k X.A)(hg:Gl X x)(hm:X.mg x=Δ (.ref f))(hk:Rz X.K (.ref f)=Λ)(hb:Binds X.K fd ps ds)(hd:aL lT ds)(hx:gk CX X E)
  (Bl:(x==("__debug__":Str))=Ξ:=by decide):PE X (.Call (.Name x p) [] [] pos) (yM sp lT E Ef):=by
 intro η s σ H Q I h;refine Rg (i6 I hg hm ?_ Bl);exact PySem.W.callWith_K0 I.iY hk (pI (us:=[]) F hr hb hd hx I .nil h)
theorem Bm(he:PE X o ta)(c:qQ X.K C)(hm:tY X.K C m f)(F:dy X.prog X.w X.K X.mg X.base CX k f fd ps sp)(hr:cR k X.A)(hb:Binds X.K fd ps ds)(hd:aL lT ds)(hx:gk CX X E)(ha:PA X (e::es) t)(pF:P5 (e::es) X.env=(Ξ,eval e X.env)::P5 es X.env:=by rfl)(yi:(Rp pos (P5 es X.env)).any (·.1)=Ξ:=by rfl)(ht:eval (.Call (.Attribute o m apos) (e::es) [] pos) X.env=(do
   let ov<-eval o X.env
   Uu apos.atName
   let (f,first)<-Uv [ov] (Uk ov m pl)
   Vc pos f first (Rp pos (P5 (e::es) X.env)) (Ta pos (RY [] X.env))):=by rfl):
  PE X (.Call (.Attribute o m apos) (e::es) [] pos) (vG C m sp lT E ta t):=by
 intro η s σ H Q I h;refine SV (pl:=pl) (bG (he η s σ H _ I h) λu s1 ⟨x,H1,I1,rx,a,dx,fs,ex,ea,l,q⟩=>?_) ht;subst ex;obtain rfl:u=PZ a:=rx;refine iH I1 ea c hm l ?_;refine TJ (first:=[.ref a]) (h₀:=X.base) I.ok.mod.tu hm.kp (bG (ha pos η s1 σ H1 _ I1 q) λus s2 ⟨vs,H2,I2,r,q2⟩=>⟨I2.iY,?_⟩) pF yi;exact pI (us:=.ref a::us) (vs:=.ref a::vs) F hr hb hd hx I2 (.cons rfl r) q2
theorem yO(he:PE X o ta)(c:qQ X.K C)(hm:tY X.K C m f)(F:dy X.prog X.w X.K X.mg X.base CX k f fd ps sp)(hr:cR k X.A)(hb:Binds X.K fd ps ds)(hd:aL lT ds)(hx:gk CX X E)(ht:eval (.Call (.Attribute o m apos) [] [] pos) X.env=(do
   let ov<-eval o X.env
   Uu apos.atName
   let (f,first)<-Uv [ov] (Uk ov m pl)
   Vc pos f first (Rp pos (P5 [] X.env)) (Ta pos (RY [] X.env))):=by rfl):
  PE X (.Call (.Attribute o m apos) [] [] pos) (vG C m sp lT E ta Ef):=by
 intro η s σ H Q I h;refine SV (pl:=pl) (bG (he η s σ H _ I h) λu s1 ⟨x,H1,I1,rx,a,dx,fs,ex,ea,l,q⟩=>?_) ht;subst ex;obtain rfl:u=PZ a:=rx;refine iH I1 ea c hm l ?_;exact PySem.W.callWith_K0 (first:=[.ref a]) I1.iY hm.kp (pI (us:=[.ref a]) (vs:=[.ref a]) F hr hb hd hx I1 (.cons rfl .nil) q)
structure Mk(K:PD)(C f:Addr):Prop where
 makes:UI K C=Λ
 init:Qi K (.ref C) "__init__"=Δ (Δ (.ref f))
 fn:Sk K (.ref f)=Λ
 kp:Rz K (.ref C)=Λ
theorem yP(M:Mk X.K C f)(F:dy X.prog X.w X.K X.mg X.base CX k f fd ps sp)(hr:cR (k+1) X.A)(hb:Binds X.K fd ps ds)(hd:aL lT ds)(hx:gk CX X E)(I:Inv X η σ H s)(r:aL vs us)(h:∀x dx,H x=Θ->H dx=Θ->dx≠x->sp (.ref x::(vs++lT)) (upd (upd H dx (.own x)) x (.ins C dx [])) (λv H2=>v=.aU/\Q (.ref x) H2) E):
  wpAny (model X.prog X.w) X.A (call (.ref C) us) (EP X η σ Q) X.xe s:=by
 have hq:=h (s.heap.objs.size+1) s.heap.objs.size (I.aQ.fresh (RZ _)) (I.aQ.fresh (PH _)) (Qe (RT _));have I2:=Inv.made (C:=C) I;have r2:aL (V.ref (s.heap.objs.size+1)::(vs++lT)) (PZ (s.heap.objs.size+1)::(us++ds)):=.cons rfl (r.append hd);have hl:(PZ (s.heap.objs.size+1)::us++ds).length=ps.length:=by have e:=r2.length;rw[F.len _ _ _ _ hq] at e;exact e.symm
 refine U4 (yJ (f:=f) I.iY M.makes M.init (beq_iff_eq.mp M.fn) (SH (F.run _ X.stack _ _ ⟨PZ (s.heap.objs.size+1)::us,[]⟩ (PZ (s.heap.objs.size+1)::(us++ds)) _ _ E (hr.make C us [])
  (I2.qR.make C us []) (hb _ (PZ (s.heap.objs.size+1)::us) I2.iY hl) r2 hq) λr s' IG=>?_))
 cases r with|error e=>exact hx η σ _ _ e s' I2 IG|ok fl=>cases fl with|ret u=>obtain⟨v,H',I3,rv,ev,q3⟩:=I2.after IG;subst ev;exact⟨rv,⟨V.ref (s.heap.objs.size+1),H',I3,rfl,q3⟩⟩|next=>exact Q1 IG|brk=>exact Q1 IG|cont=>exact Q1 IG
theorem Bo(M:Mk X.K C f)(F:dy X.prog X.w X.K X.mg X.base CX k f fd ps sp)(hr:cR (k+1) X.A)(hg:Gl X x)(hm:X.mg x=Δ (.ref C))(hb:Binds X.K fd ps ds)(hd:aL lT ds)(hx:gk CX X E)
  (ha:PA X (e::es) t) (Bl:(x==("__debug__":Str))=Ξ:=by decide) (he:P5 (e::es) X.env=(Ξ,eval e X.env)::P5 es X.env:=by rfl) (yi:(Rp pos (P5 es X.env)).any (·.1)=Ξ:=by rfl):
  PE X (.Call (.Name x p) (e::es) [] pos) (IF C sp lT E t):=by
 intro η s σ H Q I h;refine Rg (i6 I hg hm ?_ Bl);refine TJ (h₀:=X.base) I.ok.mod.tu M.kp (bG (ha pos η s σ H _ I h) λus s1 ⟨vs,H1,I1,r,q⟩=>⟨I1.iY,?_⟩) he yi;exact yP M F hr hb hd hx I1 r q
end
section
variable{X:Cx}{CX:vF}{k:Nat}{f C:Addr}{fd:Rn}{ps ks:List Str}{sp:Sp}{E:XK}{x m:Str}{p pos apos kpos:Pos}{e o:Expr}{es:List Expr}{eL:List T4}{te ta:TE}{t tk:TA}{nm:Option Str}
variable{g:List Value->List Value->List Value}{gV:List V->List V->List V}
end
structure g7(N P:List Str)(sc:Scope):Prop where
 kind:sc.kind=.function
 co:sc.isCoroutine=Ξ
 gen:sc.isGenerator=Ξ
 nd:N.Nodup
 pre:N.take P.length=P
 par:∀x∈P,sc.names.lookup x=Δ .local\/sc.names.lookup x=Δ .cell
 Eg:∀y∈sc.names,y.2≠.free
theorem og{S4:Str->Option Sb}:∀{binds} {m},(∀v,(x,v)∉binds)->bindL S4 binds m x=m x
 |[],_,_=>rfl|(n,v)::r,m,h=>by
  unfold bindL;rw[og λw hw=>h w (Pz _ hw)];split
  ·have:x≠n:=by rintro rfl;exact h v PC
   simp[this]
  ·rfl
theorem oi{S4:Str->Option Sb}:∀{binds} {m},(∀v,(x,v)∉binds)->bindC S4 binds m x=m x
 |[],_,_=>rfl|(n,v)::r,m,h=>by
  unfold bindC;rw[oi λw hw=>h w (Pz _ hw)];split;·rfl
  ·have:x≠n:=by rintro rfl;exact h v PC
   simp[this]
theorem oj{S4:Str->Option Sb}:∀{P:List Str} {vs} {i:Nat} {m},P.Nodup->P[i]?=Δ x->vs[i]?=Δ v->S4 x=Δ .local->
  bindL S4 (P.zip vs) m x=Δ v
 |[],_,_,_,_,h,_,_=>by simp at h|_::_,[],_,_,_,_,h,_=>by simp at h|p::P,w::vs,0,m,nd,h1,h2,hk=>by simp at h1 h2;subst h1;subst h2;show bindL S4 ((p,w)::P.zip vs) m p=_;unfold bindL;rw[og λv hv=>(List.nodup_cons.mp nd).1 (Tf hv).1,if_pos hk];simp
 |p::P,w::vs,i+1,m,nd,h1,h2,hk=>by show bindL S4 ((p,w)::P.zip vs) m x=_;unfold bindL;exact oj (i:=i) (List.nodup_cons.mp nd).2 (by simpa using h1) (by simpa using h2) hk
theorem om{S4:Str->Option Sb}:∀{P:List Str} {vs} {i:Nat} {m},P.Nodup->P[i]?=Δ x->vs[i]?=Δ v->S4 x≠Δ .local->
  bindC S4 (P.zip vs) m x=Δ v
 |[],_,_,_,_,h,_,_=>by simp at h|_::_,[],_,_,_,_,h,_=>by simp at h|p::P,w::vs,0,m,nd,h1,h2,hk=>by simp at h1 h2;subst h1;subst h2;show bindC S4 ((p,w)::P.zip vs) m p=_;unfold bindC;rw[oi λv hv=>(List.nodup_cons.mp nd).1 (Tf hv).1,if_neg hk];simp
 |p::P,w::vs,i+1,m,nd,h1,h2,hk=>by show bindC S4 ((p,w)::P.zip vs) m x=_;unfold bindC;exact om (i:=i) (List.nodup_cons.mp nd).2 (by simpa using h1) (by simpa using h2) hk
noncomputable def start(N:List Str)(vs:List V):St:=vs.map Δ++Qo (N.length - vs.length) Θ
noncomputable def lU(CX:vF)(P:Qr)(w:World)(K:PD)(mg:Str->Option Value)(base:Heap)(N:List Str)(qual:Str)(scope:Scope)(f:Addr)(cd:Value)(A:QJ)(outer:List Env)(s:PJ)(H:Hp)(E:XK):Cx where
 prog:=P
 w:=w
 K:=K
 mg:=mg
 base:=base
 A:=A.deeper (Uw qual scope s.heap.objs.size f cd)
 N:=N
 cQ:=s
 kR:=H
 env:=Uw qual scope s.heap.objs.size f cd
 outer:=outer
 stack:=Uw qual scope s.heap.objs.size f cd::outer
 ex:=[]
 calm:=Λ
 fn:=λ_=>Λ
 pn:=[]
 xe:=λe s'=>wpAny (model P w) (A.deeper (Uw qual scope s.heap.objs.size f cd)) (Vs (Uw qual scope s.heap.objs.size f cd) e) (λ_ yQ=>CX outer H s E e yQ) (λe' yQ=>CX outer H s E e' yQ) s'
theorem qS{sc:Scope}(h:sc.names.lookup x=Δ .cell):∃c,(cellsFrom n sc.names []).lookup x=Δ c:=by have q:=PySem.W.cellsFrom_some sc.names n [] (.inl h);exact Option.isSome_iff_exists.mp q
theorem wN{K:PD}(S:g7 N ps scope)(hd:A.handled=Θ)(e0:t8 P w K mg base A outer s H)(hl:vs.length=ps.length)(r:aL vs us)(x:InCallC s s.heap.objs.size (bindL (Uw qual scope s.heap.objs.size f cd).kindOf (ps.zip us) λ_=>Θ) (cellsFrom (s.heap.objs.size+1) scope.names []) (bindC (Uw qual scope s.heap.objs.size f cd).kindOf (ps.zip us) λ_=>Θ) s1):
  Inv (lU CX P w K mg base N qual scope f cd A outer s H E) [] (start N vs) H s1:=by
 have yi:ps.length<=N.length:=by have:=congrArg T3 S.pre;rw[Ul] at this;lia
 obtain⟨h1,tk,rfl,hk⟩:=x.done;have Hi:∀b:Addr,b∉(lU CX P w K mg base N qual scope f cd A outer s H E).ex:=λb z=>absurd (show b∈([]:List Addr) from z) (by simp);refine⟨⟨e0.mod,S.kind,rfl,rfl,PH _,λy z c h1 h2=>?_,λy hy=>?_,λy c _ h=>?_,λ_=>hd,QJ.frames_deeper e0.frames,.inr ⟨rfl,rfl⟩,λb z=>absurd z (Hi b),e0.bs,e0.yg,λb _ _=>Hi b,λb z=>absurd z (Hi b),e0.eM,e0.tG⟩,
  rfl,e0.bare,Un.kept hk,⟨_,x.toInCall.ns,λi y v h1 h2 h3=>?_⟩,λy c h=>⟨_,x.cell y c h⟩,e0.aQ.fresh (PH _),λy c h=>?_,λp hp=>absurd (show p∈([]:List (Addr×Obj)) from hp) (by simp),e0.aQ.kept hk,?_⟩
 ·exact name_of_addr x.apart (Q7 h1) (Q7 h2)
 ·have hy:scope.names.lookup y=Δ .cell\/scope.names.lookup y=Δ .free:=hy;rcases hy with hy|hy;·exact qS hy
  ·exact absurd rfl (S.Eg _ (Q7 hy))
 ·exact Tr (x.above y c (Q7 h))
 ·have hi:i < vs.length:=by
   unfold start at h2;by_cases hi:i < vs.length;·exact hi
   ·rw[Qk (by simpa using hi)] at h2;rw[RV] at h2;split at h2<;>cases h2
  have ha:vs[i]?=Δ v:=by unfold start at h2;rw[P8 (by simpa using hi),Qa] at h2;cases e:vs[i]? with|none=>rw[e] at h2;cases h2|some a=>rw[e] at h2;cases h2;rfl
  obtain⟨u,hu,rv⟩:=r.get ha;have hp:ps[i]?=Δ y:=by rw[<-S.pre,List.getElem?_take_of_lt (by lia)];exact h1
  have ndP:ps.Nodup:=by rw[<-S.pre];exact S.nd.sublist (List.take_sublist _ _)
  refine⟨u,rv,?_⟩;rcases S.par y (RI hp) with k|k;·exact .inl ⟨k,oj ndP hp hu k⟩
  ·obtain⟨c,e⟩:=qS (n:=s.heap.objs.size+1) k;refine .inr ⟨.inl k,c,e,?_⟩;have q:=x.cell y c e;rw[om ndP hp hu (by show scope.names.lookup y≠_;rw[k];decide)] at q;exact q
 ·exact e0.aQ.fresh (Tr (x.above y c (Q7 h)))
 ·unfold start;show _=N.length;rw[Qh,PX,SY]
  lia
theorem IH{K:PD}{dV kV doc pm nA ct oc:Value}(lk:K.lookup f=Δ ⟨oc,od,.func (SK name qual params body scope dV kV doc pm an nA ct),Eh⟩)(n6:UQ K nA qual=Λ)(S:g7 N ps scope)(len:∀vs H Q E,sp vs H Q E->vs.length=ps.length)(qT:∀(A:QJ) (outer:List Env) (s:PJ) (H:Hp) (vs:List V) (Q:VK) (E:XK),cR k (A.deeper (Uw qual scope s.heap.objs.size f nA))->sp vs H Q E->
   ∃t,i5 (lU CX P w K mg base N qual scope f nA A outer s H E) body t/\t {nx:=λ_ H'=>Q .aU H',rt:=Q} (start N vs) H):
  dy P w K mg base CX (k+1) f (SK name qual params body scope dV kV doc pm an nA ct) ps sp:=by
 refine⟨len,λA outer s H args us vs Q E hr e0 hb r tw=>?_⟩;have hl:=len _ _ _ _ tw;have KX:K.In s.heap:=e0.mod.tu.keeps λb o e=>(e0.bs b o e).1;have lim:s.heap.NoLimit:=e0.mod.nolimit.keeps λb o e=>(e0.bs b o e).1;have II:∀y∈ps.zip us,scope.names.lookup y.1=Δ .local\/(scope.names.lookup y.1=Δ .cell/\((cellsFrom (s.heap.objs.size+1) scope.names []).lookup y.1).isSome=Λ):=λ⟨n,v⟩ hy=>by
  rcases S.par n (Tf hy).1 with q|q;·exact .inl q
  ·exact .inr ⟨q,PySem.W.cellsFrom_some _ _ _ (.inl q)⟩
 refine codeAny_call_function hr.depth (KX _ _ lk) rfl S.co S.gen rfl (PySem.W.codeRec_of KX n6) (hb _ _ _ _ ?_);refine wpAny_newFunctionEnv_cells S.kind II λenv he s1 x=>?_;subst he;refine⟨lim.keeps x.toInCall.keep,codeAny_func ?_⟩;obtain⟨t,ht,hq⟩:=qT A outer s H vs Q E (hr.deeper _) tw;have I:Inv (lU CX P w K mg base N qual scope f nA A outer s H E) [] (start N vs) H s1:=wN S hr.hd e0 hl r x;refine QY (ht [] s1 (start N vs) H _ I hq) (λfl s' hs=>?_) λe s' hs=>hs;have fin:∀{bZ:St} {H':Hp} {v:V} {u:Value},Inv (lU CX P w K mg base N qual scope f nA A outer s H E) [] bZ H' s'->RelV v u->Q v H'->CE outer P w H s Q u s':=
  λ{bZ H' v u} J rv q=>⟨v,H',J.os,J.bare,J.base,J.aQ,rv,q⟩
 cases fl with|ret u=>obtain⟨v,bZ,H',J,rv,q⟩:=hs;exact fin J rv q|next=>obtain⟨bZ,H',J,q⟩:=hs;exact fin (v:=V.aU) (u:=Ry) J rfl q|brk=>obtain⟨_,_,_,q⟩:=hs;exact Q1 q|cont=>obtain⟨_,_,_,q⟩:=hs;exact Q1 q
section
variable{X:Cx}{x:Str}{p pos:Pos}{e:Expr}{es:List Expr}{t:TA}{id T:String}{r:List V->Hp->VK->Prop}
noncomputable def M6(r:List V->Hp->VK->Prop)(t:TA):TE:=λσ H Q=>t σ H λvs H1=>r vs H1 Q
theorem fj(hc:cY X (.builtin id) r)(hg:Gl X x)(hm:X.mg x=Θ)(hv:Rt x=Δ (.builtin id))(ha:PA X (e::es) t)(hn:x≠"__name__":=by decide)(Bl:(x==("__debug__":Str))=Ξ:=by decide)
  (he:P5 (e::es) X.env=(Ξ,eval e X.env)::P5 es X.env:=by rfl) (yi:(Rp pos (P5 es X.env)).any (·.1)=Ξ:=by rfl):PE X (.Call (.Name x p) (e::es) [] pos) (M6 r t):=by
 intro η s σ H Q I h;refine Rg (fI I hg hm hv ?_ hn Bl);exact PyProof.Rows.callWith_builtin1 (bG (ha pos η s σ H _ I h) λus s1 ⟨vs,H1,I1,r1,q1⟩=>hc η s1 σ H1 vs us Q I1 r1 q1) he yi
theorem cZ(hc:cY X (.type T) r)(hg:Gl X x)(hm:X.mg x=Θ)(hv:Rt x=Δ (.type T))(ha:PA X (e::es) t)(hn:x≠"__name__":=by decide)(Bl:(x==("__debug__":Str))=Ξ:=by decide)
  (he:P5 (e::es) X.env=(Ξ,eval e X.env)::P5 es X.env:=by rfl) (yi:(Rp pos (P5 es X.env)).any (·.1)=Ξ:=by rfl):PE X (.Call (.Name x p) (e::es) [] pos) (M6 r t):=by
 intro η s σ H Q I h;refine Rg (fI I hg hm hv ?_ hn Bl);exact Qy (bG (ha pos η s σ H _ I h) λus s1 ⟨vs,H1,I1,r1,q1⟩=>hc η s1 σ H1 vs us Q I1 r1 q1) he yi
end
end L2
namespace HT
open PySem PyProof.Rows
section
open PySem.SeqAt
open PySem.AutoSeq1 (wpAny_loadPart')
open PySem.MeetsSeq PySem.MeetsSeq2 PySem.MeetsSeq3
end
section
variable{prog:Qr}{w:World}{A:QJ}{E:Value->PJ->Prop}{s:PJ}
theorem Bp(ht:IsTup s.heap t vs.toArray)(hb:IsTup s.heap b ws.toArray)(hv:vs≠[])(h1:ws=[]->Q (.ref t) s)(h2:ws≠[]->Q (.ref s.heap.objs.size) {s with heap:=s.heap.push {cls:=.type "tuple",data:=.seq (vs++ws).toArray}})(hsz:vs.length+ws.length<=PQ):wpAny (model prog w) A (Rl .Add (.ref t) (.ref b)) Q E s:=by
 obtain⟨⟨cls,dd,data,sl⟩,ho,hc,n,hd⟩:=id ht;obtain⟨⟨M7,LF,data2,LG⟩,Ei,Ej,n2,hd2⟩:=id hb;simp only at hc hd Ej hd2;subst hc hd Ej hd2;have e:vs.toArray++ws.toArray=(vs++ws).toArray:=by simp
 by_cases hw:ws=[]
 ·exact Va ⟨_,ho,rfl⟩ ⟨_,Ei,rfl⟩ Uj UY SO SD (Sr _ _)
   (tuple_addW1 t b vs.toArray ws.toArray n n2 dd LF sl LG (by simpa using hv) (by simp[hw])) ⟨ho,Ei,h1 hw⟩
 ·refine Va ⟨_,ho,rfl⟩ ⟨_,Ei,rfl⟩ Uj UY SO SD (Sr _ _)
   (tuple_addW2 t b vs.toArray ws.toArray n n2 dd LF sl LG (by simpa using hv) (by simpa using hw) (by rw[PF,PF];exact hsz)) ⟨ho,Ei,?_⟩
  rw[e];exact h2 hw
noncomputable def cm(n d:Nat):Option Int->Nat
 |none=>d|some v=>if v < 0 then(v+(n:Int)).toNat else min v.toNat n
theorem Ek n d(hd:d<=n)o:cm n d o<=n:=by
 cases o with
 |none=>exact hd|some v=>
  show(if v < 0 then(v+(n:Int)).toNat else min v.toNat n)<=n;by_cases hv:v < 0;·rw[if_pos hv];lia
  ·rw[if_neg hv];exact RS _ _
theorem vH v(n d:Nat):(if v < 0 then max (v+(n:Int)) 0 else min v (n:Int))=((cm n d (Δ v):Nat):Int):=by
 show(if v < 0 then max (v+(n:Int)) 0 else min v (n:Int))=(((if v < 0 then(v+(n:Int)).toNat else min v.toNat n):Nat):Int);by_cases hv:v < 0;·simp only[if_pos hv];lia
 ·simp only[if_neg hv];lia
theorem t9 lo hi(n:Nat):QL lo hi 1 (n:Int)=(((cm n 0 lo:Nat):Int),((cm n n hi:Nat):Int)):=by
 have h1:¬((1:Int) < 0):=by lia
 unfold QL;simp only[h1,if_false];refine Prod.ext ?_ ?_;·cases lo with|none=>rfl|some v=>exact vH v n 0
 ·cases hi with|none=>rfl|some v=>exact vH v n n
theorem uc(i j:Nat):Qv (i:Int) (j) 1=j - i:=by
 unfold Qv;have h1:(1:Int) > 0:=by lia
 simp only[h1,if_true,Int.ediv_one];split<;>lia
theorem lV(p:UC v o)(h:Q o s):wpAny (model prog w) A (R1.Slice.slicePartIndex v) Q E s:=by cases p with|none=>exact Tx h|int i t=>exact slicePart_int h
theorem fk{vl vu:Value}{lo hi:Option Int}{n:Nat}{Q:Int×Int×Nat->PJ->Prop}(hs:s.heap.IsSliceOf sl vl vu .none)(pl:UC vl lo)(pu:UC vu hi)(h:Q (((cm n 0 lo:Nat):Int),1,cm n n hi - cm n 0 lo) s):wpAny (model prog w) A (RC (.ref sl) (pure (n:Int))) Q E s:=by obtain⟨os,wO,El,AU⟩:=id hs;unfold RC R1.Slice.sliceFields;refine Pu (Pu (Qs wO AU (x:=vl) rfl (Pu (Qs wO AU (x:=vu) rfl (Pu (Qs wO AU (x:=.none) rfl (Py ?_)))))));refine Pu (Tx ?_);show wpAny _ _ (if((1:Int)==0)=Λ then _ else _) _ _ s;rw[if_neg (by decide)];refine Pu (lV pl (Pu (lV pu (Pu (Py ?_)))));show wpAny _ _ (match QL lo hi 1 (n:Int) with|(lo,hi)=>pure (lo,(1:Int),Qv lo hi 1)) _ _ s;rw[t9 lo hi n];show wpAny _ _ (pure (((cm n 0 lo:Nat):Int),(1:Int),Qv ((cm n 0 lo:Nat):Int) ((cm n n hi:Nat):Int) 1)) _ _ s;rw[uc];exact Py h
theorem yR(xs:Array Value)(i k:Nat):((Q0 k).filterMap λ(m:Nat)=>xs[((i:Int)+(m:Int)*1).toNat]?).toArray=((xs.toList.drop i).take k).toArray:=by
 have e:(λ(m:Nat)=>xs[((i:Int)+(m:Int)*1).toNat]?)=λm=>xs[i+m]?:=by
  funext m;have:((i:Int)+(m:Int)*1).toNat=i+m:=by lia
  rw[this]
 rw[e];have:=pick_run xs i k;rw[List.filterMap_map] at this;have e2:((λx=>xs[x]?)∘λx=>i+x)=λm=>xs[i+m]?:=rfl;rw[e2] at this;rw[this]
theorem i8{lo hi:Option Int}(ht:IsTup s.heap t items)(hs:s.heap.IsSliceOf sl vl vu .none)(pl:UC vl lo)(pu:UC vu hi)(hw:¬(cm items.size 0 lo=0/\cm items.size items.size hi=items.size))(h:Q (.ref s.heap.objs.size) {s with heap:=s.heap.push {cls:=.type "tuple",data:=.seq ((items.toList.drop (cm items.size 0 lo)).take (cm items.size items.size hi - cm items.size 0 lo)).toArray}})(hsz:items.size<=PQ):wpAny (model prog w) A (Sg (.ref t) (.ref sl)) Q E s:=by
 have i9:sizeOk (.seq ((items.toList.drop (cm items.size 0 lo)).take (cm items.size items.size hi - cm items.size 0 lo)).toArray):=by
  show((items.toList.drop (cm items.size 0 lo)).take (cm items.size items.size hi - cm items.size 0 lo)).toArray.size<=PQ;rw[PF,Ul,Um,Q8]
  lia
 have hj:cm items.size items.size hi<=items.size:=Ek _ _ (PH _) hi;obtain⟨os,wO,El,AU⟩:=id hs;have IJ:s.TypeIs (.ref sl) "slice":=⟨os,wO,El⟩;unfold Sg;try with_reducible refine Qu ?_
 first|refine Pu (Py ?_)|skip
 refine Pu (TQ ht.typeIs (by decide) ?_);refine Pu (Qp (name:=Qg "__getitem__") ht.typeIs Qz
  (QF Qz ht.typeIs Ti ?_ (Tz _ _)))
 show wpAny _ _ (Sf (.ref t) >>=_) _ _ s;refine Pu (UX ht ?_);refine Pu (To IJ ?_);rw[if_pos (by decide)];refine Pu (fk hs pl pu ?_);have IK:¬((((cm items.size 0 lo:Nat):Int)==0&&(1:Int)==1&&(cm items.size items.size hi - cm items.size 0 lo)==items.size)=Λ):=by intro q;rw[Pw,Pw] at q;have q1:((cm items.size 0 lo:Nat):Int)=0:=eq_of_beq q.1.1;have q2:cm items.size items.size hi - cm items.size 0 lo=items.size:=eq_of_beq q.2;exact hw ⟨by lia,by lia⟩
 show wpAny _ _ (if(((cm items.size 0 lo:Nat):Int)==0&&(1:Int)==1&&(cm items.size items.size hi - cm items.size 0 lo)==items.size)=Λ then _ else _) _ _ s;rw[if_neg IK,yR];first
  |exact Pu (m:=Qf _) (Qt (Py ⟨_,rfl,Py h⟩) i9)
  |exact Pu (m:=Qf _) (Qt (Pu (Py (Py ⟨_,rfl,Py h⟩))) i9)
  |exact Pu (Pu (m:=Qf _) (Qt (Py (Py ⟨_,rfl,Py h⟩)) i9))
  |exact Pu (Pu (m:=Qf _) (Qt (Py ⟨_,rfl,Py h⟩) i9))
end
end HT
namespace L2
open PySem PySem.Spec PyProof.Rows
abbrev TO:=St->Hp->(Option Int->Hp->Prop)->Prop
noncomputable def PO(X:Cx)(e:Option Expr)(t:TO):Prop:=
 ∀(η:List (Addr×Obj)) (s:PJ) (σ:St) (H:Hp) (Q:Option Int->Hp->Prop),Inv X η σ H s->t σ H Q->
  wpAny (model X.prog X.w) X.A (evalPart e X.env) (λu s'=>∃o H',Inv X η σ H' s'/\UC u o/\Q o H') X.xe s
def Bq:TO:=λ_ H Q=>Q Θ H
noncomputable def IL(t:TE):TO:=λσ H Q=>t σ H λx H1=>∃i,x=.int i/\Q (Δ i) H1
section
variable{X:Cx}{e:Expr}{te:TE}{lo hi:Option Expr}{tl th:TO}{pos p2:Pos}
theorem Br:PO X Θ Bq:=by intro η s σ H Q I h;rw[UZ];exact Py ⟨Θ,H,I,.none,h⟩
theorem Bs(h:PE X e te):PO X (Δ e) (IL te):=by intro η s σ H Q I hw;rw[evalPart_some];refine bG (h η s σ H _ I hw) λu s1 ⟨x,H1,I1,r1,q1⟩=>?_;obtain⟨i,rfl,q⟩:=q1;obtain⟨t,rfl⟩:=r1;exact⟨Δ i,H1,I1,.int i t,q⟩
def Bt(X:Cx)(r:V->Option Int->Option Int->Hp->VK->Prop):Prop:=
 ∀(η:List (Addr×Obj)) (s:PJ) (σ:St) (H:Hp) (x:V) (v vl vu:Value) (lo hi:Option Int) (sl:Addr) (Q:VK),Inv X η σ H s->RelV x v->s.heap.IsSliceOf sl vl vu .none->UC vl lo->UC vu hi->r x lo hi H Q->
  ∃T id,Vu (.type T) "__getitem__"=pure (Δ (.builtin id))/\s.TypeIs v T/\wpAny (model X.prog X.w) X.A (Sg v (.ref sl)) (EP X η σ Q) X.xe s
theorem Bt.or(h:Bt X r)(h':Bt X r'):Bt X (λx lo hi H Q=>r x lo hi H Q\/r' x lo hi H Q):=by
 intro η s σ H x v vl vu lo hi sl Q I rx hs pl pu q;rcases q with q|q;·exact h η s σ H x v vl vu lo hi sl Q I rx hs pl pu q
 ·exact h' η s σ H x v vl vu lo hi sl Q I rx hs pl pu q
noncomputable def tSl(r:V->Option Int->Option Int->Hp->VK->Prop)(te:TE)(tl th:TO):TE:=λσ H Q=>te σ H λx H1=>tl σ H1 λl H2=>th σ H2 λu H3=>r x l u H3 Q
theorem qU(hr:Bt X r)(he:PE X e te)(hl:PO X lo tl)(hu:PO X hi th):PE X (.Subscript e (.Slice lo hi Θ p2) pos) (tSl r te tl th):=by intro η s σ H Q I h;refine Subscript_ (bG (he η s σ H _ I h) λv s1 ⟨x,H1,I1,r1,q1⟩=>?_);refine wpAny_Slice (bG (hl η s1 σ H1 _ I1 q1) λvl s2 ⟨l,H2,I2,pl,q2⟩=>bG (hu η s2 σ H2 _ I2 q2) λvu s3 ⟨u,H3,I3,pu,q3⟩=>?_);rw[UZ];refine Py ?_;have I4:Inv X η σ H3 {s3 with heap:=s3.heap.push {cls:=.type "slice",data:=.fields #[vl,vu,.none]}}:=I3.kept (t':=s3.toks) λb ob q=>Px _ q;obtain⟨T,id,hT,ht,hg⟩:=hr η {s3 with heap:=s3.heap.push {cls:=.type "slice",data:=.fields #[vl,vu,.none]}} σ H3 x v vl vu l u s3.heap.objs.size Q I4 r1 (Heap.IsSliceOf.new ..) pl pu q3;show wpAny (model X.prog X.w) X.A (S8 e (.Slice lo hi Θ p2) v (.ref s3.heap.objs.size)) (EP X η σ Q) X.xe {s3 with heap:=s3.heap.push {cls:=.type "slice",data:=.fields #[vl,vu,.none]}};exact tail_any (ops:=[.ref s3.heap.objs.size,v]) ht hT hg (by with_unfolding_all rfl)
def jU(xs:List V)(lo hi:Option Int):List V:=(xs.drop (HT.cm xs.length 0 lo)).take (HT.cm xs.length xs.length hi - HT.cm xs.length 0 lo)
theorem ku xs lo hi:(jU xs lo hi).length<=xs.length:=by
 unfold jU;rw[Ul,Um]
 lia
def M8(K:PD):V->Option Int->Option Int->Hp->VK->Prop:=λx lo hi H Q=>∃a xs,x=.ref a/\de K H a xs/\
 ¬(HT.cm xs.length 0 lo=0/\HT.cm xs.length xs.length hi=xs.length)/\∀p,H p=Θ->Q (.ref p) (upd H p (.tup (jU xs lo hi)))
theorem Em:Bt X (M8 X.K):=by
 intro η s σ H x v vl vu lo hi sl Q I rx hs pl pu h;obtain⟨a,xs,rfl,hx,hw,q⟩:=h;cases rx;obtain⟨aD,r,ht,hz⟩:=I.tuple hx;have hlen:aD.toArray.size=xs.length:=by rw[PF];exact r.length.symm
 refine⟨"tuple",_,Qz.lookup,ht.typeIs,?_⟩;refine HT.i8 ht hs pl pu (by rw[hlen];exact hw) ?_ (by rw[hlen];exact hz);rw[hlen];refine⟨.ref s.heap.objs.size,_,I.laid (t':=s.toks) (o:=.tup (jU xs lo hi)) (λb ob q=>Px _ q) (PH _) ?_,rfl,q _ (I.aQ.fresh (PH _))⟩;exact⟨Qj (ku xs lo hi) hz,_,(r.drop (HT.cm xs.length 0 lo)).take (HT.cm xs.length xs.length hi - HT.cm xs.length 0 lo),Up _ _⟩
def IM(K:PD):R2:=λx y H Q=>∃a b xs ys,x=.ref a/\y=.ref b/\de K H a xs/\de K H b ys/\xs≠[]/\xs.length+ys.length<=PQ/\
 (ys=[]->Q (.ref a) H)/\(ys≠[]->∀p,H p=Θ->Q (.ref p) (upd H p (.tup (xs++ys))))
theorem aL.ja(r:aL xs us):us=[]↔xs=[]:=by cases r with|nil=>simp|cons _ _=>simp
theorem Bu:fg X (Rl .Add) (IM X.K):=by intro η s σ H x y v u Q I rx ry h;obtain⟨a,b,xs,ys,rfl,rfl,ha,hb,hx,hz,q1,q2⟩:=h;cases rx;cases ry;obtain⟨aD,r1,p1,_⟩:=I.tuple ha;obtain⟨yS,r2,p2,_⟩:=I.tuple hb;refine HT.Bp p1 p2 (λz=>hx (r1.ja.mp z)) (λz=>⟨.ref a,H,I,rfl,q1 (r2.ja.mp z)⟩) (λz=>?_) (by rw[<-r1.length,<-r2.length];exact hz);refine⟨.ref s.heap.objs.size,_,I.laid (t':=s.toks) (o:=.tup (xs++ys)) (λb ob q=>Px _ q) (PH _) ?_,rfl,q2 (λw=>z (r2.ja.mpr w)) _ (I.aQ.fresh (PH _))⟩;exact⟨by rw[Qh];exact hz,_,r1.append r2,Up _ _⟩
end
noncomputable def wQ(n:Nat)(i:Int):Option Nat:=if 0<=i then(if i < n then Δ i.toNat else Θ) else if -(n:Int)<=i then Δ (i+n).toNat else Θ
def jV{α:Type}(xs:List α)(i:Int):Option α:=(wQ xs.length i).bind λj=>xs[j]?
theorem vI(h:wQ n i=Δ j):seqIndex? i n=Δ j/\j < n/\ -(n:Int)<=i/\i < n:=by
 unfold wQ at h;by_cases h0:0<=i
 ·rw[if_pos h0] at h;by_cases h1:i < n;·rw[if_pos h1] at h;have e:i.toNat=j:=P4 h;exact⟨by rw[Vo h0 h1,e],by lia,by lia,h1⟩
  ·rw[if_neg h1] at h;cases h
 ·rw[if_neg h0] at h;by_cases h1: -(n:Int)<=i;·rw[if_pos h1] at h;have e:(i+n).toNat=j:=P4 h;exact⟨by rw[U9 (by lia) h1,e],by lia,h1,by lia⟩
  ·rw[if_neg h1] at h;cases h
theorem pJ(h:jV xs i=Δ v):∃j,seqIndex? i xs.length=Δ j/\xs[j]?=Δ v/\j < xs.length/\ -(xs.length:Int)<=i/\i < xs.length:=by unfold jV at h;cases e:wQ xs.length i with|none=>rw[e] at h;cases h|some j=>rw[e] at h;obtain⟨h1,h2,h3,h4⟩:=vI e;exact⟨j,h1,h,h2,h3,h4⟩
noncomputable def vJ(b:Expr):Prop:=∀o i,UN b Ξ o i=operate [o,i] (Sg o i)
def AV(X:Cx)(r:R2):Prop:=
 ∀(value slice:Expr) (η:List (Addr×Obj)) (s:PJ) (σ:St) (H:Hp) (x y:V) (v u:Value) (Q:VK),Inv X η σ H s->RelV x v->RelV y u->r x y H Q->
  UN slice Ξ v u=operate [v,u] (Sg v u)->wpAny (model X.prog X.w) X.A (S8 value slice v u) (EP X η σ Q) X.xe s
def MtR(X:Cx)(id:String)(r:V->List V->Hp->VK->Prop):Prop:=
 ∀(η:List (Addr×Obj)) (s:PJ) (σ:St) (H:Hp) (x:V) (xs:List V) (v:Value) (us:List Value) (Q:VK),Inv X η σ H s->RelV x v->aL xs us->r x xs H Q->
  wpAny (model X.prog X.w) X.A (call (.builtin id) (v::us)) (EP X η σ Q) X.xe s
section
variable{X:Cx}{a b:Expr}{ta tb:TE}{pos:Pos}
theorem AV.or(h:AV X r)(h':AV X r'):AV X (λx y H Q=>r x y H Q\/r' x y H Q):=by
 intro value slice η s σ H x y v u Q I rx ry q hs;rcases q with q|q;·exact h value slice η s σ H x y v u Q I rx ry q hs
 ·exact h' value slice η s σ H x y v u Q I rx ry q hs
theorem vK(hr:AV X r)(ha:PE X a ta)(hb:PE X b tb)(hs:vJ b):PE X (.Subscript a b pos) (Iq r ta tb):=by intro η s σ H Q I h;exact Subscript_ (D5 ha hb I h λv u s2 x y H2 I2 rx ry q=>hr a b η s2 σ H2 x y v u Q I2 rx ry q (hs _ _))
def M9(K:PD):R2:=λx y H Q=>∃p xs i v,x=.ref p/\y=.int i/\gZ K H p xs/\jV xs i=Δ v/\Q v H
def Na(K:PD):R2:=λx y H Q=>∃p xs i v,x=.ref p/\y=.int i/\de K H p xs/\jV xs i=Δ v/\Q v H
def Nb:R2:=λx y H Q=>∃z i c,x=.str z/\y=.int i/\z.length<=PQ/\jV z.cps.toList i=Δ c/\Q (.str ⟨#[c]⟩) H
theorem vL:AV X (M9 X.K):=by
 intro value slice η s σ H x y v u Q I rx ry h hs;obtain⟨p,xs,i,z,rfl,rfl,hq,he,q⟩:=h;cases rx;obtain⟨t,rfl⟩:=ry;obtain⟨aD,r,pl,hz⟩:=I.list hq;obtain⟨j,h1,h2,h3,h4,h5⟩:=pJ he;obtain⟨w,ew,ik⟩:=r.get h2;have hl:=r.length;have hn:=iG;have fin:EP X η σ Q w s:=⟨z,H,I,ik,q⟩;by_cases h0:0<=i
 ·have hj:i.toNat=j:=by rw[Vo h0 h5] at h1;exact P4 h1
  exact item_listR pl.isList h0 (by lia) (by rw[hj];simpa using ew) fin hs
 ·have hj:(i+(aD.toArray.size:Int)).toNat=j:=by rw[U9 (by lia) h4] at h1;rw[PF,<-hl];exact P4 h1
  exact subscriptTail_builtinR (x:=w) pl.isList.typeIs slot_list_getitem.lookup
   (wpAny_getItem_list_neg (Q:=λr s'=>r=w/\EP X η σ Q r s') pl.isList (by lia) (by rw[PF]<;>lia) (by lia) (by rw[hj];simpa using ew) ⟨rfl,fin⟩) hs
theorem En:AV X (Na X.K):=by
 intro value slice η s σ H x y v u Q I rx ry h hs;obtain⟨p,xs,i,z,rfl,rfl,hq,he,q⟩:=h;cases rx;obtain⟨t,rfl⟩:=ry;obtain⟨aD,r,pl,hz⟩:=I.tuple hq;obtain⟨j,h1,h2,h3,h4,h5⟩:=pJ he;obtain⟨w,ew,ik⟩:=r.get h2;have hl:=r.length;have hn:=iG;have fin:EP X η σ Q w s:=⟨z,H,I,ik,q⟩;exact subscriptTail_builtinR (x:=w) pl.typeIs slot_tuple_getitem.lookup
  (getItem_tuple (j:=j) (Q:=λr s'=>r=w/\EP X η σ Q r s') pl (by lia) (by lia) (by rw[PF,<-hl];exact h1) (by simpa using ew) ⟨rfl,fin⟩) hs
theorem Eo:AV X Nb:=by
 intro value slice η s σ H x y v u Q I rx ry h hs;obtain⟨z,i,c,rfl,rfl,hz,he,q⟩:=h;obtain⟨t,rfl⟩:=rx;obtain⟨t',rfl⟩:=ry;obtain⟨j,h1,h2,h3,h4,h5⟩:=pJ he;have hl:z.cps.toList.length=z.length:=by simp[Uz]
 rw[hl] at h1 h4 h5;have hn:=iG;exact tail_any (Tw s z t) slot_str_getitem.lookup (getItem_str (c:=c) (by have e1:decide (i < -(2 ^ 63:Int))=Ξ:=decide_eq_false (by lia);have e2:decide (i>=2 ^ 63)=Ξ:=decide_eq_false (by lia);rw[e1,e2,Ud]) (by rw[h1];simpa using h2) ⟨.str ⟨#[c]⟩,H,I.tok _,⟨_,rfl⟩,q⟩) hs
theorem ud(aD:List Value)n j u:RN (·.setIfInBounds j u) {cls:=.type "list",data:=.seq aD.toArray n}={cls:=.type "list",data:=.seq (aD.set j u).toArray n}:=by simp[RN]
theorem Inv.lst(I:Inv X η σ H s)(h:H p=Δ (.lst xs)):
  ∃(aD:List Value) (n:Nat),aL xs aD/\s.heap.get? p=Δ {cls:=.type "list",data:=.seq aD.toArray n}/\xs.length<=PQ:=by
 obtain⟨z,aD,n,r,e⟩:=I.aQ p _ h;exact⟨aD,n,r,e,z⟩
theorem Inv.Ep{aD its':List Value}(I:Inv X η σ H s)(h:H p=Δ (.lst xs))(ho:s.heap.get? p=Δ {cls:=.type "list",data:=.seq aD.toArray n})(hf:f {cls:=.type "list",data:=.seq aD.toArray n}={cls:=.type "list",data:=.seq its'.toArray n'})(r:aL ys its')(hz:ys.length<=PQ)t:
  Inv X η σ (upd H p (.lst ys)) {s with heap:=s.heap.update p f,toks:=t}:=by
 have e:(s.heap.update p f).get? p=Δ {cls:=.type "list",data:=.seq its'.toArray n'}:=by rw[QR f ho (by rw[hf]<;>rfl),hf]
 refine I.write (x:=p) (e:=p) (by rw[h];trivial) (.inl rfl) (λb u hb q=>(Qx _ _ (QP hb)).trans q) ⟨_,e⟩ ?_;exact⟨hz,its',n',r,e⟩
def IP:V->V->V->Hp->(Hp->Prop)->Prop:=λo i v H Q=>∃p xs k j,o=.ref p/\i=.int k/\H p=Δ (.lst xs)/\wQ xs.length k=Δ j/\Q (upd H p (.lst (xs.set j v)))
theorem set_list:wC X IP:=by
 intro η s σ H o i v ov iv u Q I ro ri rv h;obtain⟨p,xs,k,j,rfl,rfl,hp,hj,q⟩:=h;cases ro;obtain⟨t,rfl⟩:=ri;obtain⟨aD,n,r,ho,hz⟩:=I.lst hp;obtain⟨h1,h2,h3,h4⟩:=vI hj;have hl:=r.length;have hn:=iG;have I':Inv X η σ (upd H p (.lst (xs.set j v))) {s with heap:=s.heap.update p (RN (·.setIfInBounds j u))}:=
  I.Ep hp ho (ud aD n j u) (r.set rv j) (by rw[R4];exact hz) s.toks
 by_cases h0:0<=k
 ·have hk:k.toNat=j:=by rw[Vo h0 h4] at h1;exact P4 h1
  exact PySem.W.ki_setAt ho h0 (by lia) (by rw[PF,<-hl];exact h4) (by rw[hk];exact⟨_,I',q⟩)
 ·have hk:(k+(aD.toArray.size:Int)).toNat=j:=by rw[U9 (by lia) h3] at h1;rw[PF,<-hl];exact P4 h1
  exact PySem.W.ki_setBack ho (by lia) (by rw[PF,<-hl];exact h3) (by lia) (by rw[hk];exact⟨_,I',q⟩)
theorem pK lo hi n:(Sy lo hi Θ n).1=((HT.cm n 0 lo:Nat):Int)/\(Sy lo hi Θ n).2.1=((HT.cm n n hi:Nat):Int)/\(Sy lo hi Θ n).2.2=1:=by
 refine⟨?_,?_,rfl⟩
 ·cases lo with
  |none=>simp[Sy,HT.cm]|some i=>
   simp only[Sy,HT.cm,Option.getD_none,show(1:Int) > 0 by decide,if_true];by_cases h:i < 0;·simp only[h,if_true]<;>lia
   ·simp only[h,if_false]<;>lia
 ·cases hi with
  |none=>simp[Sy,HT.cm]|some i=>
   simp only[Sy,HT.cm,Option.getD_none,show(1:Int) > 0 by decide,if_true];by_cases h:i < 0;·simp only[h,if_true]<;>lia
   ·simp only[h,if_false]<;>lia
theorem nB(aD:List Value)lo hi:slicePick aD.toArray lo hi Θ=((aD.drop (HT.cm aD.length 0 lo)).take (HT.cm aD.length aD.length hi - HT.cm aD.length 0 lo)).toArray:=by obtain⟨h1,h2,h3⟩:=pK lo hi aD.toArray.size;unfold slicePick;rw[h1,h2,h3];simp only[sliceRange_one,pick_run,PF]<;>rfl
def IQ(K:PD):V->Option Int->Option Int->Hp->VK->Prop:=λx lo hi H Q=>∃a xs,x=.ref a/\gZ K H a xs/\∀p,H p=Θ->Q (.ref p) (upd H p (.lst (jU xs lo hi)))
theorem Bv:Bt X (IQ X.K):=by intro η s σ H x v vl vu lo hi sl Q I rx hs pl pu h;obtain⟨a,xs,rfl,hx,q⟩:=h;cases rx;obtain⟨aD,r,ht,hz⟩:=I.list hx;have hlen:=r.length;refine⟨"list",_,slot_list_getitem.lookup,ht.isList.typeIs,?_⟩;refine wpAny_getItem_list_slice ht.isList hs pl pu .none (by simp) ?_ (by rw[PF]<;>lia);rw[nB,<-hlen];refine⟨.ref s.heap.objs.size,_,I.laid (t':=s.toks) (o:=.lst (jU xs lo hi)) (λb ob q=>Px _ q) (PH _) ?_,rfl,q _ (I.aQ.fresh (PH _))⟩;exact⟨Qj (ku xs lo hi) hz,_,0,(r.drop (HT.cm xs.length 0 lo)).take (HT.cm xs.length xs.length hi - HT.cm xs.length 0 lo),PR _ rfl⟩
noncomputable def iA:V->Bool
 |.aU=>Λ|.bl _=>Λ|.int _=>Λ|.str _=>Λ|_=>Ξ
noncomputable def Bw:V->V->Bool
 |.aU,.aU=>Λ|.bl a,.bl b=>a==b|.bl a,.int b=>(if a then 1 else 0)==b|.int a,.bl b=>a==(if b then 1 else 0)|.int a,.int b=>a==b|.str a,.str b=>a==b|_,_=>Ξ
theorem Er(ry:RelV y u)(rx:RelV x v)(fy:iA y=Λ)(fx:iA x=Λ):SeqAt.EqAt A s u v (Bw y x):=by
 cases y with
 |aU=>cases ry;cases x with|aU=>cases rx;exact SeqAt.EqAt.same _|bl b=>cases rx;exact SeqAt.EqAt.none_bool b|int b=>obtain⟨t,rfl⟩:=rx;exact SeqAt.EqAt.none_int b t|str b=>obtain⟨t,rfl⟩:=rx;exact SeqAt.EqAt.none_str b t|_=>exact absurd (show Ξ=Λ from fx) Ql
 |bl a=>cases ry;cases x with|aU=>cases rx;exact SeqAt.EqAt.bool_none a|bl b=>cases rx;exact SeqAt.EqAt.bool_bool a b|int b=>obtain⟨t,rfl⟩:=rx;exact SeqAt.EqAt.bool_int a b t|str b=>obtain⟨t,rfl⟩:=rx;exact SeqAt.EqAt.bool_str a b t|_=>exact absurd (show Ξ=Λ from fx) Ql
 |int a=>obtain⟨t',rfl⟩:=ry;cases x with|aU=>cases rx;exact SeqAt.EqAt.int_none a t'|bl b=>cases rx;exact SeqAt.EqAt.int_bool a t' b|int b=>obtain⟨t,rfl⟩:=rx;exact SeqAt.EqAt.int_int a t' b t|str b=>obtain⟨t,rfl⟩:=rx;exact SeqAt.EqAt.int_str a t' b t|_=>exact absurd (show Ξ=Λ from fx) Ql
 |str a=>obtain⟨t',rfl⟩:=ry;cases x with|aU=>cases rx;exact SeqAt.EqAt.str_none a t'|bl b=>cases rx;exact SeqAt.EqAt.str_bool a t' b|int b=>obtain⟨t,rfl⟩:=rx;exact SeqAt.EqAt.str_int a t' b t|str b=>obtain⟨t,rfl⟩:=rx;exact SeqAt.EqAt.str_str a t' b t|_=>exact absurd (show Ξ=Λ from fx) Ql
 |_=>exact absurd (show Ξ=Λ from fy) Ql
def ue(x:V)(u:Value):Bool:=match u with|.none=>Bw .aU x|.bool b=>Bw (.bl b) x|.int i _=>Bw (.int i) x|.str z _=>Bw (.str z) x|_=>Ξ
theorem yT(r:RelV y u)(f:iA y=Λ):ue x u=Bw y x:=by cases y with|aU=>cases r;rfl|bl b=>cases r;rfl|int i=>obtain⟨t,rfl⟩:=r;rfl|str z=>obtain⟨t,rfl⟩:=r;rfl|_=>exact absurd (show Ξ=Λ from f) Ql
theorem jb:∀{xs} {us},aL xs us->xs.all iA=Λ->us.any (ue x)=xs.any λy=>Bw y x
 |_,_,.nil,_=>rfl|y::xs,u::us,.cons r t,f=>by rw[RO,Pw] at f;rw[Rw,Rw,yT r f.1,jb t f.2]
theorem gm(rx:RelV x v)(fx:iA x=Λ):∀{xs} {us},aL xs us->xs.all iA=Λ->∀u∈us,SeqAt.EqAt A s u v (ue x u)
 |_,_,.nil,_=>λu hu=>by cases hu|y::xs,u::us,.cons r t,f=>λu' hu=>by
  rw[RO,Pw] at f;rcases Ub.mp hu with rfl|hu;·rw[yT r f.1];exact Er r rx f.1 fx
  ·exact gm rx fx t f.2 u' hu
def LH(x:V)(xs:List V):Bool:=xs.any λy=>Bw y x
def IS(K:PD)(neg:Bool):R2:=λx y H Q=>∃p xs,y=.ref p/\(gZ K H p xs\/de K H p xs)/\iA x=Λ/\xs.all iA=Λ/\Q (.bl (if neg then !LH x xs else LH x xs)) H
theorem wR:fg X (QA .In) (IS X.K Ξ):=by
 intro η s σ H x y v u Q I rx ry h;obtain⟨p,xs,rfl,hq,fx,fs,q⟩:=h;cases ry;rcases hq with hq|hq;·obtain⟨aD,r,pl,hz⟩:=I.list hq;refine SeqAt.in_listAt (ue x) pl.isList (λw hw=>gm rx fx r fs w (by simpa using hw)) ⟨.bl _,H,I,rfl,?_⟩;rw[show aD.toArray.any (ue x)=aD.any (ue x) by simp,jb r fs];exact q
 ·obtain⟨aD,r,pl,hz⟩:=I.tuple hq;refine SeqAt.in_tupleAt (ue x) pl (λw hw=>gm rx fx r fs w (by simpa using hw)) ⟨.bl _,H,I,rfl,?_⟩;rw[show aD.toArray.any (ue x)=aD.any (ue x) by simp,jb r fs];exact q
theorem pL:fg X (QA .NotIn) (IS X.K Λ):=by
 intro η s σ H x y v u Q I rx ry h;obtain⟨p,xs,rfl,hq,fx,fs,q⟩:=h;cases ry;rcases hq with hq|hq;·obtain⟨aD,r,pl,hz⟩:=I.list hq;refine SeqAt.notIn_listAt (ue x) pl.isList (λw hw=>gm rx fx r fs w (by simpa using hw)) ⟨.bl _,H,I,rfl,?_⟩;rw[show aD.toArray.any (ue x)=aD.any (ue x) by simp,jb r fs];exact q
 ·obtain⟨aD,r,pl,hz⟩:=I.tuple hq;refine SeqAt.notIn_tupleAt (ue x) pl (λw hw=>gm rx fx r fs w (by simpa using hw)) ⟨.bl _,H,I,rfl,?_⟩;rw[show aD.toArray.any (ue x)=aD.any (ue x) by simp,jb r fs];exact q
theorem pM:cY X (.builtin "len") (λxs H Q=>∃p ys,xs=[.ref p]/\(gZ X.K H p ys\/de X.K H p ys)/\Q (.int ys.length) H):=by
 intro η s σ H xs us Q I r h;obtain⟨p,ys,rfl,hq,q⟩:=h;obtain⟨u,rfl,rx⟩:=vals1 r;cases rx;have hn:=iG;rcases hq with hq|hq;·obtain⟨aD,r',pl,hz⟩:=I.list hq;have hlen:=r'.length;exact Calls.call_len_list pl.isList (by simp only[PF]<;>lia) ⟨.int ys.length,H,I.tok _,⟨s.toks+1,by rw[PF,hlen]⟩,q⟩
 ·obtain⟨aD,r',pl,hz⟩:=I.tuple hq;have hlen:=r'.length;exact len_tuple pl (by simp only[PF]<;>lia) ⟨.int ys.length,H,I.tok _,⟨s.toks+1,by rw[PF,hlen]⟩,q⟩
theorem pN:cY X (.builtin "len") (λxs H Q=>∃z,xs=[.str z]/\z.length<=PQ/\Q (.int z.length) H):=by intro η s σ H xs us Q I r h;obtain⟨z,rfl,hz,q⟩:=h;obtain⟨u,rfl,t,rfl⟩:=vals1 r;have hn:=iG;exact len_str (by lia) ⟨.int z.length,H,I.tok _,⟨_,rfl⟩,q⟩
theorem pO:cY X (.type "list") (λxs H Q=>∃p ys,xs=[.ref p]/\(gZ X.K H p ys\/de X.K H p ys)/\∀l,H l=Θ->Q (.ref l) (upd H l (.lst ys))):=by
 intro η s σ H xs us Q I r h;obtain⟨p,ys,rfl,hq,q⟩:=h;obtain⟨u,rfl,rx⟩:=vals1 r;cases rx;have fin:∀(aD:List Value),aL ys aD->ys.length<=PQ->∀(h':Heap) (c':Nat),(∀b o',s.heap.get? b=Δ o'->h'.get? b=Δ o')->
   h'.get? s.heap.objs.size=Δ {cls:=.type "list",dict:=Θ,data:=.seq aD.toArray c',slots:=#[]}->EP X η σ Q (.ref s.heap.objs.size) {s with heap:=h'}:=λaD r' hz h' c' kp e=>
  ⟨.ref s.heap.objs.size,_,I.laid (t':=s.toks) kp (PH _) (show bA X.prog X.w _ h' _ (.lst ys) from⟨hz,aD,c',r',e⟩),rfl,q _ (I.aQ.fresh (PH _))⟩
 rcases hq with hq|hq;·obtain⟨aD,r',pl,hz⟩:=I.list hq;have hlen:=r'.length;obtain⟨o,ho,hc,n,hd⟩:=pl.isList;exact call_list_seq p (.inl rfl) ho hc hd (λh' c' kp e=>fin aD r' hz h' c' kp e) (by simp only[PF]<;>lia)
 ·obtain⟨aD,r',pl,hz⟩:=I.tuple hq;have hlen:=r'.length;obtain⟨o,ho,hc,n,hd⟩:=pl;exact call_list_seq p (.inr rfl) ho hc hd (λh' c' kp e=>fin aD r' hz h' c' kp e) (by simp only[PF]<;>lia)
theorem nC:cY X (.type "tuple") (λxs H Q=>∃p ys,xs=[.ref p]/\((gZ X.K H p ys/\∀l,H l=Θ->Q (.ref l) (upd H l (.tup ys)))\/(de X.K H p ys/\Q (.ref p) H))):=by
 intro η s σ H xs us Q I r h;obtain⟨p,ys,rfl,h⟩:=h;obtain⟨u,rfl,rx⟩:=vals1 r;cases rx;rcases h with ⟨hq,q⟩|⟨hq,q⟩
 ·obtain⟨aD,r',pl,hz⟩:=I.list hq;have hlen:=r'.length;refine call_tuple_list pl.isList (λh' kp=>?_) (by simp only[PF]<;>lia);have I1:Inv X η σ H {s with heap:=h'}:=I.kept (t':=s.toks) kp;have I2:Inv X η σ (upd H h'.objs.size (.tup ys)) {s with heap:=h'.push {cls:=.type "tuple",data:=.seq aD.toArray}}:=
   I1.laid (t':=s.toks) (λb o e=>Px _ e) (PH _) (show bA X.prog X.w _ _ _ (.tup ys) from⟨hz,aD,r',Up _ _⟩)
  exact⟨.ref h'.objs.size,_,I2,rfl,q _ (I1.aQ.fresh (PH _))⟩
 ·obtain⟨aD,r',pl,hz⟩:=I.tuple hq;exact call_tuple_same pl ⟨.ref p,H,I,rfl,q⟩
def Nc(K:PD)(T:String)(x:V)(H:Hp):Prop:=match x with
 |.str _=>T="str"|.int _=>T="int"
 |.ref p=>(T="list"/\∃xs,gZ K H p xs)\/(T="tuple"/\∃o,K.lookup p=Δ o/\o.cls=.type "tuple"/\o.dict=Θ)\/
   (T="dict"/\((∃kvs,H p=Δ (.dK kvs))\/∃kvs,H p=Δ (.dT kvs)))\/(T="set"/\∃S n,H p=Δ (.set S n))
 |_=>False
theorem yU(I:Inv X η σ H s)(r:RelV x v)(ty:Nc X.K T x H):
  s.TypeIs v T/\∀a,v=.ref a->∃ob,s.heap.get? a=Δ ob/\ob.dict=Θ:=by
 cases x with
 |str z=>obtain⟨t,rfl⟩:=r;cases (show T="str" from ty);exact⟨Tw s z t,λ_ e=>nomatch e⟩|int i=>obtain⟨t,rfl⟩:=r;cases (show T="int" from ty);exact⟨S2 s i t,λ_ e=>nomatch e⟩|ref p=>
  cases r;rcases ty with ⟨rfl,xs,hq⟩|⟨rfl,o,hk,hc,hd⟩|⟨rfl,hk⟩|⟨rfl,S,n,hk⟩
  ·obtain⟨aD,_,pl,_⟩:=I.list hq;refine⟨pl.isList.typeIs,λa e=>?_⟩;cases e;obtain⟨o,n,e,c,hd,_⟩:=pl;exact⟨o,e,hd⟩
  ·refine⟨⟨o,I.iY p o hk,hc⟩,λa e=>?_⟩;cases e;exact⟨o,I.iY _ o hk,hd⟩
  ·have z:∃o,s.heap.get? p=Δ o/\o.ExactDict:=by
    rcases hk with ⟨kvs,hk⟩|⟨kvs,hk⟩
    ·obtain⟨_,_,_,_,o,_,_,e,ex,_⟩:=I.aQ p _ hk;exact⟨o,e,ex⟩
    ·obtain⟨_,_,_,_,o,_,_,e,ex,_⟩:=I.aQ p _ hk;exact⟨o,e,ex⟩
   obtain⟨o,e,ex⟩:=z;refine⟨⟨o,e,ex.1⟩,λa e2=>?_⟩;cases e2;exact⟨o,e,ex.2.1⟩
  ·obtain⟨o,_,_,_,e,ex,_⟩:=I.aQ p _ hk;refine⟨⟨o,e,ex.1⟩,λa e2=>?_⟩;cases e2;exact⟨o,e,ex.2.1⟩
 |_=>exact Q1 ty
def Nd(K:PD)(T:String)(r:V->List V->Hp->VK->Prop)(to:TE):TE:=λσ H Q=>to σ H λx H1=>Nc K T x H1/\r x [] H1 Q
def tBM(K:PD)(T:String)(r:V->List V->Hp->VK->Prop)(to:TE)(t:TA):TE:=λσ H Q=>to σ H λx H1=>Nc K T x H1/\t σ H1 λxs H2=>r x xs H2 Q
variable{o e:Expr}{es:List Expr}{to:TE}{t:TA}{name:Str}{apos cM:Pos}{T id:String}{r:V->List V->Hp->VK->Prop}
theorem Es(pa:PlainAttrs T)(slot:Slot T name id)(Nf:Vk (.builtin id)=pure (.type "method_descriptor"))(hm:MtR X id r)(ho:PE X o to)
  (qV:RL o name X.env (eval o X.env)=eval o X.env:=by rfl) (iB:(apos.endLine==cM.line)=Λ:=by rfl):PE X (.Call (.Attribute o name apos) [] [] cM) (Nd X.K T r to):=by
 intro η s σ H Q I h;refine wpAny_Call_method0_late qV iB (bG (ho η s σ H _ I h) λv s1 ⟨x,H1,I1,r1,ty,q1⟩=>?_);obtain⟨h1,h2⟩:=yU I1 r1 ty;exact⟨T,id,pa,slot,Nf,h1,h2,Q6 rfl (PySem.evalArgs_none (hm η s1 σ H1 x [] v [] Q I1 r1 .nil q1))⟩
theorem yV(pa:PlainAttrs T)(slot:Slot T name id)(Nf:Vk (.builtin id)=pure (.type "method_descriptor"))(hm:MtR X id r)(ho:PE X o to)(ha:PA X (e::es) t)
  (qV:RL o name X.env (eval o X.env)=eval o X.env:=by rfl)
  (Ng:((Rp cM (P5 (e::es) X.env)).all (λx=>!x.1)&&(Ta cM (RY [] X.env)).all (λx=>x.1.isSome)
   &&decide ((e::es).length+([]:List T4).length+(if([]:List T4).isEmpty then 0 else 1) < 30))=Λ:=by rfl)
  (iB:(apos.endLine==cM.line)=Λ:=by rfl) (hs:P5 (e::es) X.env=(Ξ,eval e X.env)::P5 es X.env:=by rfl) (Et:(Rp cM (P5 es X.env)).any (·.1)=Ξ:=by rfl):
  PE X (.Call (.Attribute o name apos) (e::es) [] cM) (tBM X.K T r to t):=by
 intro η s σ H Q I h;refine wpAny_Call_method_late qV Ng iB rfl (bG (ho η s σ H _ I h) λv s1 ⟨x,H1,I1,r1,ty,q1⟩=>?_);obtain⟨h1,h2⟩:=yU I1 r1 ty;refine⟨T,id,pa,slot,Nf,h1,h2,?_⟩;have hA:=ha cM η s1 σ H1 _ I1 q1;rw[hs] at hA ⊢;refine Q6 (by show(Ξ||(Rp cM (P5 es X.env)).any (·.1))=Ξ;rw[Et]<;>rfl) (RJ ?_);exact bG hA λus s2 ⟨vs,H2,I2,r2,q2⟩=>hm η s2 σ H2 x vs v us Q I2 r1 r2 q2
end
def LI(X:Cx)(id:String)(r:V->List V->Hp->VK->Prop):Prop:=
 ∀(η:List (Addr×Obj)) (s:PJ) (σ:St) (H:Hp) (x:V) (xs:List V) (v:Value) (us:List Value) (Q:VK),Inv X η σ H s->RelV x v->aL xs us->r x xs H Q->
  wpAny (model X.prog X.w) X.A (call (.builtin id) (v::us)) (EP X η σ Q) X.xe s
theorem aL.one:∀{x} {us},aL [x] us->∃u,us=[u]/\RelV x u:=by intro x us h;cases h with|cons r t=>cases t with|nil=>exact⟨_,rfl,r⟩
theorem aL.two:∀{x y} {us},aL [x,y] us->∃u v,us=[u,v]/\RelV x u/\RelV y v:=by intro x y us h;cases h with|cons r t=>obtain⟨u,hu⟩:=aL.one t;obtain⟨rfl,q⟩:=hu;exact⟨_,_,rfl,r,q⟩
theorem aL.zero:∀{us},aL [] us->us=[]
 |_,.nil=>rfl
theorem aL.dropLast(h:aL xs us):aL xs.dropLast us.dropLast:=by induction h with|nil=>exact .nil|cons r t ih=>cases t with|nil=>exact .nil|cons q t'=>exact .cons r ih
theorem aL.reverse(h:aL xs us):aL xs.reverse us.reverse:=by induction h with|nil=>exact .nil|cons r t ih=>rw[SS,SS];exact aL.append ih (.cons r .nil)
theorem uf{α:Type}(l:List α):l.eraseIdx (l.length - 1)=l.dropLast:=by
 induction l with
 |nil=>rfl|cons a r ih=>
  cases r with
  |nil=>rfl|cons b r=>
   have e:(a::b::r).length - 1=((b::r).length - 1)+1:=by
    have h1:(a::b::r).length=r.length+2:=rfl;have h2:(b::r).length=r.length+1:=rfl
    lia
   rw[e,List.eraseIdx_cons_succ,ih];all_goals rfl
section
variable{X:Cx}{η:List (Addr×Obj)}{σ:St}{H:Hp}{s:PJ}{l b:Addr}{xs ys zs:List V}
theorem Inv.IT{aD its':List Value}(I:Inv X η σ H s)(hH:H l=Δ (.lst xs))(e:s.heap.get? l=Δ {cls:=.type "list",data:=.seq aD.toArray n})(hf:f aD.toArray=its'.toArray)(hv:aL ys its')(hz:ys.length<=PQ):
  Inv X η σ (upd H l (.lst ys)) {s with heap:=s.heap.update l (RN f),toks:=t'}:=by
 have q:=PySem.IsL.update e f;rw[hf] at q;refine I.write (x:=l) (e:=l) (by rw[hH];exact trivial) (.inl rfl) (λb' u hb hu=>(Qx s.heap (RN f) (QP hb)).trans hu) ⟨_,q⟩ ?_;exact⟨hz,its',_,hv,q⟩
theorem Inv.Nh(I:Inv X η σ H s)(hv:aL ys aD)(hz:ys.length<=PQ):
  Inv X η σ (upd H s.heap.objs.size (.lst ys)) {s with heap:=s.heap.push {cls:=.type "list",data:=.seq aD.toArray},toks:=t'}:=
 I.laid (λ_ _ q=>Px _ q) (PH _) ⟨hz,aD,0,hv,PR _ rfl⟩
theorem Inv.fresh(I:Inv X η σ H s):H s.heap.objs.size=Θ:=I.aQ.fresh (PH _)
theorem Inv.IU(I:Inv X η σ H s)(hH:H l=Δ (.lst xs)):xs.length<=PQ/\∃(aD:List Value) (n:Nat),aL xs aD/\xs.length=aD.length/\s.heap.get? l=Δ {cls:=.type "list",data:=.seq aD.toArray n}:=by obtain⟨z,aD,n,r,e⟩:=I.aQ l _ hH;exact⟨z,aD,n,r,r.length,e⟩
end
section
variable{X:Cx}
def Bx:V->List V->Hp->VK->Prop:=λx vs H Q=>∃l xs y,x=.ref l/\vs=[y]/\H l=Δ (.lst xs)/\xs.length < PQ/\Q .aU (upd H l (.lst (xs++[y])))
theorem oo:LI X "list.append" Bx:=by
 intro η s σ H x vs v us Q I rx rv h;obtain⟨l,xs,y,rfl,rfl,hH,hz,q⟩:=h;cases rx;obtain⟨u,rfl,ru⟩:=rv.one;obtain⟨z,aD,n,r,hl,e⟩:=I.IU hH;refine RK F.slot_list_append ⟨_,e,rfl⟩ F.entry_list_append (F.args_list_append_2 _ _) (PySem.list_append l aD.toArray n u (by rw[PF];lia)) ⟨e,?_⟩;refine⟨.aU,_,I.IT (its':=aD++[u]) hH e (by simp) (r.append (.cons ru .nil)) ?_,rfl,q⟩;rw[Qh,List.length_singleton]
 lia
def Ni:V->List V->Hp->VK->Prop:=λx vs H Q=>∃l xs y,x=.ref l/\vs=[]/\H l=Δ (.lst xs)/\xs[xs.length - 1]?=Δ y/\Q y (upd H l (.lst xs.dropLast))
theorem Eu:LI X "list.pop" Ni:=by
 intro η s σ H x vs v us Q I rx rv h;obtain⟨l,xs,y,rfl,rfl,hH,hy,q⟩:=h;cases rx;have hus:=rv.zero;subst hus;obtain⟨z,aD,n,r,hl,e⟩:=I.IU hH;obtain⟨u,hu,ru⟩:=r.get hy;have hy':aD.toArray[aD.toArray.size - 1]?=Δ u:=by show aD.toArray[aD.length - 1]?=Δ u;rw[<-S0,<-hl];exact hu
 refine RK F.slot_list_pop ⟨_,e,rfl⟩ F.entry_list_pop (F.args_list_pop_1 _) (MeetsSeq.list_pop_last l aD.toArray n u hy' (by rw[PF];lia)) ⟨e,?_⟩;refine⟨y,_,I.IT (its':=aD.dropLast) hH e ?_ r.dropLast ?_,ru,q⟩;·show aD.toArray.eraseIdxIfInBounds (aD.toArray.size - 1)=aD.dropLast.toArray;rw[PF,List.eraseIdxIfInBounds_toArray,uf]
 ·rw[List.length_dropLast]
  lia
end
section
variable{prog:Qr}{w:World}{A:QJ}{E:Value->PJ->Prop}{s:PJ}
end
section
variable{X:Cx}
end
section
variable{κ:Type}[DecidableEq κ]
noncomputable def dq(kvs:List (κ×V))(k:κ):Option V:=(kvs.find? λkv=>decide (kv.1=k)).map (·.2)
noncomputable def putK(kvs:List (κ×V))(k:κ)(v:V):List (κ×V):=
 if(kvs.any λkv=>decide (kv.1=k))=Λ then kvs.map (λkv=>if kv.1=k then(kv.1,v) else kv) else kvs++[(k,v)]
noncomputable def jc(kvs:List (κ×V))(k:κ):List (κ×V):=kvs.filter λkv=>decide (kv.1≠k)
theorem jd{r:List (κ×V)}{k:κ}(e:p.1=k):dq (p::r) k=Δ p.2:=by simp[dq,Ra,e]
theorem je{r:List (κ×V)}{k:κ}(e:¬p.1=k):dq (p::r) k=dq r k:=by simp[dq,Ra,e]
theorem lW(k:κ):∀kvs:List (κ×V),(kvs.any λkv=>decide (kv.1=k))=(dq kvs k).isSome
 |[]=>rfl|p::r=>by
  rw[Rw];by_cases e:p.1=k;·simp only[jd e,decide_eq_true e,Bool.true_or,Option.isSome_some]
  ·rw[je e,decide_eq_false e,Bool.false_or];exact lW k r
theorem eQ kvs(k:κ)v:(putK kvs k v).length<=kvs.length+1:=by
 unfold putK;split;·rw[PX];lia
 ·rw[Qh,PU,UK];lia
theorem gh.eu(r:gh o u):o.isSome=u.isSome:=by
 cases o with
 |none=>cases u with|none=>rfl|some _=>exact(show False from r).elim
 |some _=>cases u with|none=>exact(show False from r).elim|some _=>rfl
theorem KV.val(r:KV kvs vs)(k:κ):gh (dq kvs k) (Ut vs k):=by
 unfold KV at r;induction r with
 |nil=>exact QM|@cons p q ps qs h t ih=>
  obtain⟨h1,h2⟩:=h;by_cases e:p.1=k
  ·have e':q.1=k:=h1.symm.trans e;have b:Ut (q::qs) k=Δ q.2:=by simp[Ut,Ra,e']
   rw[jd e,b];exact h2
  ·have e':¬q.1=k:=λz=>e (h1.trans z);have b:Ut (q::qs) k=Ut qs k:=by simp[Ut,Ra,e']
   rw[je e,b];exact ih
theorem KV.any(r:KV kvs vs)(k:κ):(kvs.any λkv=>decide (kv.1=k))=vs.any λkv=>decide (kv.1=k):=by unfold KV at r;induction r with|nil=>rfl|cons h t ih=>rw[Rw,Rw,ih,h.1]
theorem KV.wU(r:KV kvs vs)(k:κ)(ry:RelV y u):
  KV (kvs.map λkv=>if kv.1=k then(kv.1,y) else kv) (vs.map λkv=>if kv.1=k then(kv.1,u) else kv):=by
 unfold KV at r ⊢;induction r with
 |nil=>exact .nil|@cons p q ps qs h t ih=>
  rw[Qq,Qq];refine .cons ?_ ih;obtain⟨h1,h2⟩:=h;by_cases e:p.1=k;·rw[if_pos e,if_pos (h1.symm.trans e)];exact⟨h1,ry⟩
  ·rw[if_neg e,if_neg (λz=>e (h1.trans z))];exact⟨h1,h2⟩
theorem KV.put(r:KV kvs vs)(k:κ)(ry:RelV y u):KV (putK kvs k y) (stored vs k u):=by
 unfold putK stored;rw[r.any k];by_cases e:(vs.any λkv=>decide (kv.1=k))=Λ;·rw[if_pos e,if_pos e];exact r.wU k ry
 ·rw[if_neg e,if_neg e];exact U7.snoc r ⟨rfl,ry⟩
theorem KV.drop(r:KV kvs vs)(k:κ):KV (jc kvs k) (without vs k):=by
 unfold KV at r ⊢;unfold jc without;induction r with
 |nil=>exact .nil|@cons p q ps qs h t ih=>
  obtain⟨h1,h2⟩:=h;rw[List.filter_cons,List.filter_cons];by_cases e:p.1=k
  ·have a:¬decide (p.1≠k)=Λ:=by simp[e]
   have b:¬decide (q.1≠k)=Λ:=by simp[h1.symm.trans e]
   rw[if_neg a,if_neg b];exact ih
  ·have e':¬q.1=k:=λz=>e (h1.trans z);have a:decide (p.1≠k)=Λ:=by simp[e]
   have b:decide (q.1≠k)=Λ:=by simp[e']
   rw[if_pos a,if_pos b];exact .cons ⟨h1,h2⟩ ih
theorem KV.length{vs:List (κ×Value)}(r:KV kvs vs):kvs.length=vs.length:=Ua r
theorem qW kvs(k:κ):(jc kvs k).length<=kvs.length:=List.length_filter_le _ _
end
theorem jf(r:RelV (kV k) u):(bg P w).is k u=Λ:=by cases k with|inl i=>obtain⟨t,e⟩:=(show ∃t,u=Sh i t from r);subst e;exact qK P w i t|inr x=>obtain⟨t,e⟩:=(show ∃t,u=Sz x t from r);subst e;exact qL P w x t
theorem oq:∀{ks} {us},aL (ks.map kV) us->ItemsAre (bg P w) ks us
 |[],_,r=>by rw[Ts] at r;cases r;exact .nil|k::ks,_,r=>by rw[Qq] at r;cases r with|cons h t=>exact .cons (jf h) (oq t)
abbrev KT(H:Hp):List (List Key×V)->List (List Key×Addr×Value)->Prop:=U7 λp q=>p.1=q.1/\H q.2.1=Δ (.tup (p.1.map kV))/\RelV p.2 q.2.2
theorem KT.val(r:KT H kvs xs)k:gh (dq kvs k) ((atKey xs k).map (·.2)):=by
 induction r with
 |nil=>exact QM|@cons p q ps qs h t ih=>
  obtain⟨h1,_,h2⟩:=h;by_cases e:p.1=k
  ·have e':q.1=k:=h1.symm.trans e;have b:atKey (q::qs) k=Δ q.2:=by simp[atKey,Ra,e']
   rw[jd e,b];exact h2
  ·have e':¬q.1=k:=λz=>e (h1.trans z);have b:atKey (q::qs) k=atKey qs k:=by simp[atKey,Ra,e']
   rw[je e,b];exact ih
theorem KT.wU(r:KT H kvs xs)k(ry:RelV y u):
  KT H (kvs.map λkv=>if kv.1=k then(kv.1,y) else kv) (xs.map (putAt k u)):=by
 induction r with
 |nil=>exact .nil|@cons p q ps qs h t ih=>
  rw[Qq,Qq];refine .cons ?_ ih;obtain⟨h1,h2,h3⟩:=h;unfold putAt;by_cases e:p.1=k;·rw[if_pos e,if_pos (h1.symm.trans e)];exact⟨h1,h2,ry⟩
  ·rw[if_neg e,if_neg (λz=>e (h1.trans z))];exact⟨h1,h2,h3⟩
theorem KT.put(r:KT H kvs xs)k(hb:H b=Δ (.tup (k.map kV)))(ry:RelV y u):
  KT H (putK kvs k y) (storedH xs k b u):=by
 have e:(kvs.any λkv=>decide (kv.1=k))=(atKey xs k).isSome:=by rw[lW,(r.val k).eu,SR]
 unfold putK storedH;rw[e];by_cases q:(atKey xs k).isSome=Λ;·rw[if_pos q,if_pos q];exact r.wU k ry
 ·rw[if_neg q,if_neg q];exact U7.snoc r ⟨rfl,hb,ry⟩
theorem KT.keeps(r:KT H kvs xs)(ht:∀b ys,H b=Δ (.tup ys)->H' b=Δ (.tup ys)):KT H' kvs xs:=
 U7.DV r λ_ _ z=>⟨z.1,ht _ _ z.2.1,z.2.2⟩
section
variable{P:Qr}{w:World}{H:Hp}{h:Heap}{a:Addr}
theorem Dk(ok:gf P w H h)(e:Rd H a u):bA P w H h a u:=e.ok ok
theorem ky(ok:gf P w H h)(e:Rd H a (.dK kvs)):kvs.length<=PQ/\(a==QZ)=Ξ/\∃vs,KV kvs vs/\h.DictOf (bg P w) a vs:=
 show bA P w H h a (.dK kvs) from Dk ok e
theorem ot(ok:gf P w H h)(e:H a=Δ (.dK kvs)):kvs.length<=PQ/\(a==QZ)=Ξ/\∃vs,KV kvs vs/\h.DictOf (bg P w) a vs:=ky ok (.inl e)
theorem jW(ok:gf P w H h)(e:H a=Δ (.tup (ks.map kV))):(Ui (bg P w)).is h ks a:=by obtain⟨_,aD,r,o,h1,h2,n,h3⟩:=(show bA P w H h a (.tup (ks.map kV)) from ok a _ e);exact⟨o,aD.toArray,n,h1,h2,h3,by simpa using oq r⟩
theorem kz(ok:gf P w H h)(e:Rd H a (.dT kvs)):kvs.length<=PQ/\(a==QZ)=Ξ/\
  ∃xs,KT H kvs xs/\h.DictOfH (Ui (bg P w)) a xs:=by
 obtain⟨z,y,xs,r,o,es,ep,h1,h2,h3,h4,h5⟩:=(show bA P w H h a (.dT kvs) from Dk ok e);refine⟨z,y,xs,r,o,es,ep,h1,h2,h3,h4,λx hx=>?_,h5⟩;have all:∀{l:List (List Key×V)} {m:List (List Key×Addr×Value)},KT H l m->∀x∈m,(Ui (bg P w)).is h x.1 x.2.1:=by
  intro l m q;induction q with
  |nil=>intro x hx;exact nomatch hx|@cons p q ps qs hq t ih=>
   intro x hx;rcases Ub.mp hx with e|hx;·subst e;exact jW ok (by rw[<-hq.1];exact hq.2.1)
   ·exact ih x hx
 exact all r x hx
theorem Dl(ok:gf P w H h)(e:H a=Δ (.dT kvs)):kvs.length<=PQ/\(a==QZ)=Ξ/\
  ∃xs,KT H kvs xs/\h.DictOfH (Ui (bg P w)) a xs:=kz ok (.inl e)
end
def jg(H:Hp)(a:Addr)(y:V)(r:Option V):Prop:=
 (∃kvs k,Rd H a (.dK kvs)/\y=kV k/\r=dq kvs k)\/∃kvs k b,Rd H a (.dT kvs)/\y=.ref b/\H b=Δ (.tup (k.map kV))/\r=dq kvs k
def qX(H:Hp)(a:Addr)(y v:V)(H':Hp):Prop:=
 (∃kvs k,H a=Δ (.dK kvs)/\y=kV k/\kvs.length < PQ/\H'=upd H a (.dK (putK kvs k v)))\/
 ∃kvs k b,H a=Δ (.dT kvs)/\y=.ref b/\H b=Δ (.tup (k.map kV))/\kvs.length < PQ/\H'=upd H a (.dT (putK kvs k v))
theorem jg.k{k:Key}(e:H a=Δ (.dK kvs)):jg H a (kV k) (dq kvs k):=.inl ⟨kvs,k,.inl e,rfl,rfl⟩
theorem jg.t{k:List Key}(e:H a=Δ (.dT kvs))(eb:H b=Δ (.tup (k.map kV))):jg H a (.ref b) (dq kvs k):=.inr ⟨kvs,k,b,.inl e,rfl,eb,rfl⟩
theorem qX.k{k:Key}(e:H a=Δ (.dK kvs))(hl:kvs.length < PQ):qX H a (kV k) v (upd H a (.dK (putK kvs k v))):=.inl ⟨kvs,k,e,rfl,hl,rfl⟩
theorem qX.t{k:List Key}(e:H a=Δ (.dT kvs))(eb:H b=Δ (.tup (k.map kV)))(hl:kvs.length < PQ):
  qX H a (.ref b) v (upd H a (.dT (putK kvs k v))):=.inr ⟨kvs,k,b,e,rfl,eb,hl,rfl⟩
section
variable{X:Cx}{η:List (Addr×Obj)}{σ:St}{H:Hp}{s:PJ}{a:Addr}{y v:V}{u r:Value}{o:Option V}{A:QJ}{E:Value->PJ->Prop}
theorem Inv.LJ(I:Inv X η σ H s):QZ < s.heap.objs.size:=by have h:PL < s.heap.objs.size:=(I.mod.glob.keeps I.bk).lt;exact Nat.lt_trans (by decide) h
theorem wV(hu:A.units+1 < cLine)(I:Inv X η σ H s)(g:jg H a y (Δ v))(ry:RelV y u)(h:∀w' s',Inv X η σ H s'->RelV v w'->Q w' s'):
  wpAny (model X.prog X.w) A (Sg (.ref a) u) Q E s:=by
 rcases g with ⟨kvs,k,e,ey,l⟩|⟨kvs,k,b,e,ey,eb,l⟩
 ·subst ey;obtain⟨z,hd,vs,rel,dd⟩:=ky I.aQ e;obtain⟨w',hw,ik⟩:=gh.some_of (v:=v) (o:=Ut vs k) (by rw[l];exact rel.val k);exact wpAny_getItem_of (jf ry) dd.mapOf hw (h w' _ (I.tok _) ik)
 ·subst ey;cases (show u=PZ b from ry);obtain⟨z,hd,xs,rel,dd⟩:=kz I.aQ e;obtain⟨w',hw,ik⟩:=gh.some_of (v:=v) (o:=(atKey xs k).map (·.2)) (by rw[l];exact rel.val k);obtain⟨p,hp,IV⟩:=Option.map_eq_some_iff.mp hw;refine wpAny_getItem_heap (Sv hu) (jW I.aQ eb) dd hp ?_;rw[IV];exact h w' _ (I.tok _) ik
theorem Nj(hu:A.units+1 < cLine)(I:Inv X η σ H s)(g:jg H a y o)(ry:RelV y u)(h:∀s',Inv X η σ H s'->Q (.bool o.isSome) s'):
  wpAny (model X.prog X.w) A (QA .In u (.ref a)) Q E s:=by
 rcases g with ⟨kvs,k,e,ey,l⟩|⟨kvs,k,b,e,ey,eb,l⟩
 ·subst ey;obtain⟨z,hd,vs,rel,dd⟩:=ky I.aQ e;refine wpAny_in_of (jf ry) hd dd.mapOf ?_;rw[<-(rel.val k).eu,<-l];exact h _ (I.tok _)
 ·subst ey;cases (show u=PZ b from ry);obtain⟨z,hd,xs,rel,dd⟩:=kz I.aQ e;refine wpAny_in_heap (Sv hu) (jW I.aQ eb) hd dd ?_;have q:=(rel.val k).eu;rw[SR] at q;rw[<-q,<-l];exact h _ (I.tok _)
theorem By(hu:A.units+1 < cLine)(I:Inv X η σ H s)(g:jg H a y o)(ry:RelV y u)(h:∀s',Inv X η σ H s'->Q (.bool (!o.isSome)) s'):
  wpAny (model X.prog X.w) A (QA .NotIn u (.ref a)) Q E s:=by
 rcases g with ⟨kvs,k,e,ey,l⟩|⟨kvs,k,b,e,ey,eb,l⟩
 ·subst ey;obtain⟨z,hd,vs,rel,dd⟩:=ky I.aQ e;refine wpAny_notIn_of (jf ry) hd dd.mapOf ?_;rw[<-(rel.val k).eu,<-l];exact h _ (I.tok _)
 ·subst ey;cases (show u=PZ b from ry);obtain⟨z,hd,xs,rel,dd⟩:=kz I.aQ e;refine wpAny_notIn_heap (Sv hu) (jW I.aQ eb) hd dd ?_;have q:=(rel.val k).eu;rw[SR] at q;rw[<-q,<-l];exact h _ (I.tok _)
theorem fL(I:Inv X η σ H s)(mu:HP (H a))(hs:Q5 a s.heap h')(he:∃q,h'.get? a=Δ q)(new:bA X.prog X.w (upd H a ob) h' a ob):
  Inv X η σ (upd H a ob) {s with heap:=h',toks:=t'}:=
 I.write (x:=a) (e:=a) mu (.inl rfl) (λb q hb z=>(hs.2 b hb).trans z) he new
theorem lX(z:kvs.length<=PQ)(hd:(a==QZ)=Ξ)(rel:KV kvs vs)(dd:h'.DictOf (bg P w) a vs):
  bA P w H' h' a (.dK kvs):=⟨z,hd,vs,rel,dd⟩
theorem wW(hu:A.units+1 < cLine)(I:Inv X η σ H s)(g:qX H a y v H')(ry:RelV y u)(rv:RelV v r)(h:∀s',Inv X η σ H' s'->Q () s'):
  wpAny (model X.prog X.w) A (setItem (.ref a) u r) Q E s:=by
 rcases g with ⟨kvs,k,e,ey,l,eH⟩|⟨kvs,k,b,e,ey,eb,l,eH⟩
 ·subst ey eH;obtain⟨z,hd,vs,rel,dd⟩:=ot I.aQ e;have hz:vs.length<=PQ:=by rw[<-rel.length];exact z
  have hl:(putK kvs k v).length<=PQ:=by have:=eQ kvs k v;lia
  refine wpAny_setItem_pairs (hsz:=hz) (jf ry) dd λh' qG hs=>h _ ?_;have he:∃q,h'.get? a=Δ q:=let ⟨q,_,_,hq,_⟩:=qG;⟨q,hq⟩
  exact fL I (by rw[e];exact QM) hs he (lX hl hd (rel.put k rv) qG)
 ·subst ey eH;cases (show u=PZ b from ry);obtain⟨z,hd,xs,rel,dd⟩:=Dl I.aQ e;have hz:xs.length<=PQ:=by rw[<-Ua rel];exact z
  have hl:(putK kvs k v).length<=PQ:=by have:=eQ kvs k v;lia
  refine wpAny_setItem_heap (hsz:=hz) (Sv hu) (jW I.aQ eb) dd λh' qG hs=>h _ ?_;obtain⟨q,es,ep,hq,h2,h3,h4,_,h5⟩:=qG;refine fL I (by rw[e];exact QM) hs ⟨q,hq⟩ ⟨hl,hd,_,(rel.put k eb rv).keeps λc ys ec=>?_,q,es,ep,hq,h2,h3,h4,h5⟩;rw[aw (C8 ec e (λz=>nomatch z))];exact ec
end
section
variable{X:Cx}{η:List (Addr×Obj)}{σ:St}{H:Hp}{s:PJ}{a:Addr}{kvs:List (Key×V)}{k:Key}{u:Value}{A:QJ}{E:Value->PJ->Prop}
theorem Hj(I:Inv X η σ H s)(e:H a=Δ (.dK kvs))(ry:RelV (kV k) u)(l:(dq kvs k).isSome=Λ)(h:∀s',Inv X η σ (upd H a (.dK (jc kvs k))) s'->Q () s'):
  wpAny (model X.prog X.w) A (delItem (.ref a) u) Q E s:=by
 obtain⟨z,hd,vs,rel,dd⟩:=ot I.aQ e;refine wpAny_delItem_slot dd.typeIs (by decide) PySem.F.slot_dict_delitem
  (Tp PySem.F.slot_dict_delitem dd.typeIs PySem.F.entry_dict_delitem (PySem.F.args_dict_delitem_2 _ _) (meets_dict_delitem_pairs (bg X.prog X.w) a (jf ry)) ⟨vs,dd,by rw[<-rel.length];exact z,by rw[<-(rel.val k).eu];exact l,λh' qG hs=>h _ ?_⟩)
 have he:∃q,h'.get? a=Δ q:=let ⟨q,_,_,hq,_⟩:=qG;⟨q,hq⟩
 exact fL I (by rw[e];exact QM) hs he (lX (Qj (qW kvs k) z) hd (rel.drop k) qG)
theorem IW(I:Inv X η σ H s)(e:H a=Δ (.dK kvs))(ry:RelV (kV k) u)(l:dq kvs k=Δ v)(hm:more=[]\/∃x,more=[x])(h:∀w' s',Inv X η σ (upd H a (.dK (jc kvs k))) s'->RelV v w'->Q w' s'):wpAny (model X.prog X.w) A (call (.builtin "dict.pop") (.ref a::u::more)) Q E s:=by
 obtain⟨z,hd,vs,rel,dd⟩:=ot I.aQ e;obtain⟨w',hw,ik⟩:=gh.some_of (v:=v) (o:=Ut vs k) (by rw[<-l];exact rel.val k);have hp:(keyPart u).isSome=Λ:=by cases k with|inl i=>obtain⟨t,q⟩:=(show ∃t,u=Sh i t from ry);subst q;rfl|inr x=>obtain⟨t,q⟩:=(show ∃t,u=Sz x t from ry);subst q;rfl
 have ha:argsOk "dict.pop" ⟨.ref a::u::more,[]⟩:=by
  rcases hm with q|⟨x,q⟩;·subst q;exact PySem.F.args_dict_pop_2 _ _
  ·subst q;exact PySem.F.args_dict_pop_3 _ _ _
 refine Tp PySem.F.slot_dict_pop dd.typeIs PySem.F.entry_dict_pop ha (meets_dict_pop_there (bg X.prog X.w) a (jf ry) more hm hp)
  ⟨vs,w',dd,by rw[<-rel.length];exact z,hw,λh' qG hs=>h w' _ ?_ ik⟩
 have he:∃q,h'.get? a=Δ q:=let ⟨q,_,_,hq,_⟩:=qG;⟨q,hq⟩
 exact fL I (by rw[e];exact QM) hs he (lX (Qj (qW kvs k) z) hd (rel.drop k) qG)
theorem IY(I:Inv X η σ H s)(e:Rd H a (.dK kvs))(h:∀t s',Inv X η σ H s'->Q (.int kvs.length t) s'):wpAny (model X.prog X.w) A (call (.builtin "len") [.ref a]) Q E s:=by obtain⟨z,hd,vs,rel,dd⟩:=ky I.aQ e;refine call_len_dict hd dd (by rw[<-rel.length];rw[QG] at z;lia) ?_;rw[<-rel.length];exact h _ _ (I.tok _)
end
theorem qY(I:Inv X η σ H s)(g:jg H a y o):s.TypeIs (.ref a) "dict":=by
 rcases g with ⟨kvs,k,e,_,_⟩|⟨kvs,k,b,e,_,_,_⟩
 ·obtain⟨_,_,vs,_,dd⟩:=ky I.aQ e;exact dd.typeIs
 ·obtain⟨_,_,xs,_,dd⟩:=kz I.aQ e;exact dd.typeIs
theorem qZ(I:Inv X η σ H s)(g:jg H a y o):
  ∀b,PZ a=.ref b->∃ob,s.heap.get? b=Δ ob/\ob.dict=Θ:=λb q=>by
 cases q;rcases g with ⟨kvs,k,e,_,_⟩|⟨kvs,k,b,e,_,_,_⟩
 ·obtain⟨_,_,vs,_,ob,_,_,h1,h2,_⟩:=ky I.aQ e;exact⟨ob,h1,h2.2.1⟩
 ·obtain⟨_,_,xs,_,ob,_,_,h1,h2,_⟩:=kz I.aQ e;exact⟨ob,h1,h2.2.1⟩
section
variable{X:Cx}{o i e value:Expr}{pos pos' Eb:Pos}{td ty tv:TE}
end
theorem rf(h:Heap)(hb:QZ < h.objs.size):bA P w H (h.push {cls:=.type "dict",data:=.dict #[]}) h.objs.size (.dK []):=
 ⟨QH _,beq_eq_false_iff_ne.mpr (QP (Qe hb)),[],.nil,Heap.DictOf.new h⟩
theorem rg(h:Heap)(hb:QZ < h.objs.size):bA P w H (h.push {cls:=.type "dict",data:=.dict #[]}) h.objs.size (.dT []):=
 ⟨QH _,beq_eq_false_iff_ne.mpr (QP (Qe hb)),[],.nil,_,#[],0,PR _ rfl,⟨rfl,rfl,rfl⟩,rfl,rfl,List.nodup_nil⟩
def Ew:TE:=λ_ H Q=>∀p,H p=Θ->Q (.ref p) (upd H p (.dK []))
def Ey:TE:=λ_ H Q=>∀p,H p=Θ->Q (.ref p) (upd H p (.dT []))
section
variable{X:Cx}{pos:Pos}
theorem yW:PE X (.Dict [] [] pos) Ew:=λη s σ H Q I h=>wpAny_Dict_empty ⟨.ref s.heap.objs.size,_,I.laid (a:=s.heap.objs.size) (o:=.dK []) (t':=s.toks) (λ_ _ q=>Px _ q) (PH _) (rf s.heap I.LJ),rfl,h _ (I.aQ.fresh (PH _))⟩
theorem yX:PE X (.Dict [] [] pos) Ey:=λη s σ H Q I h=>wpAny_Dict_empty ⟨.ref s.heap.objs.size,_,I.laid (a:=s.heap.objs.size) (o:=.dT []) (t':=s.toks) (λ_ _ q=>Px _ q) (PH _) (rg s.heap I.LJ),rfl,h _ (I.aQ.fresh (PH _))⟩
end
noncomputable def ug:List (TE×TE)->St->Hp->(List (V×V)->Hp->Prop)->Prop
 |[],_,H,Q=>Q [] H|(tk,tv)::r,σ,H,Q=>tk σ H λx H1=>tv σ H1 λy H2=>ug r σ H2 λps H3=>Q ((x,y)::ps) H3
abbrev VV:List (V×V)->List (Value×Value)->Prop:=U7 λp q=>RelV p.1 q.1/\RelV p.2 q.2
def LK(X:Cx)(pos:Pos)(keys:List (Option Expr))(values:List Expr)(Ez:List (TE×TE)):Prop:=
 ∀(η:List (Addr×Obj)) (s:PJ) (σ:St) (H:Hp) (Q:List (V×V)->Hp->Prop),Inv X η σ H s->ug Ez σ H Q->
  wpAny (model X.prog X.w) X.A (evalPairs (pairTrees keys values X.env pos)) (λvs s'=>∃ps H',Inv X η σ H' s'/\VV ps vs/\Q ps H') X.xe s
theorem vM:LK X pos [] [] []:=λη s σ H Q I h=>pairTrees_nil_walk ⟨[],H,I,.nil,h⟩
theorem rj(hk:PE X k tk)(hv:PE X v tv)(hr:LK X pos ks vs Ez):
  LK X pos (Δ k::ks) (v::vs) ((tk,tv)::Ez):=λη s σ H Q I h=>
 pairTrees_cons_walk (bG (hk η s σ H _ I h) λu s1 ⟨x,H1,I1,rx,q1⟩=>bG (hv η s1 σ H1 _ I1 q1) λw2 s2 ⟨y,H2,I2,ry,q2⟩=>bG (hr η s2 σ H2 _ I2 q2) λws s3 ⟨ps,H3,I3,rel,q3⟩=>⟨(x,y)::ps,H3,I3,.cons ⟨rx,ry⟩ rel,q3⟩)
def jX(kvs more:List (Key×V)):List (Key×V):=more.foldl (λacc kv=>putK acc kv.1 kv.2) kvs
theorem KV.merge:∀{more} {rs} {kvs} {vs},KV more rs->KV kvs vs->KV (jX kvs more) (merged vs rs):=by
 intro more rs kvs vs r;unfold KV at r;induction r generalizing kvs vs with
 |nil=>intro q;exact q|@cons p q ps qs h t ih=>
  intro r0;have e:KV (putK kvs p.1 p.2) (stored vs q.1 q.2):=by have:=r0.put p.1 h.2;rw[<-h.1];exact this
  exact ih e
theorem iC:∀(more kvs),(jX kvs more).length<=kvs.length+more.length
 |[],kvs=>by show kvs.length<=kvs.length+0;lia|p::r,kvs=>by have h1:=iC r (putK kvs p.1 p.2);have h2:=eQ kvs p.1 p.2;show(jX (putK kvs p.1 p.2) r).length<=_;rw[PU];lia
theorem lY:∀{kvs} {ws},VV (kvs.map λkv=>(kV kv.1,kv.2)) ws->∃rs,Carries (bg P w) ws rs/\KV kvs rs
 |[],_,r=>by rw[Ts] at r;cases r;exact⟨[],QM,.nil⟩|p::kvs,_,r=>by rw[Qq] at r;cases r with|@cons a b as bs h t=>obtain⟨rs,c,q⟩:=lY (P:=P) (w:=w) t;obtain⟨b1,b2⟩:=b;exact⟨(p.1,b2)::rs,⟨jf h.1,rfl,c⟩,.cons ⟨rfl,h.2⟩ q⟩
def IZ(Ez:List (TE×TE)):TE:=λσ H Q=>∀p,H p=Θ->ug Ez σ (upd H p (.dK [])) λps H2=>H2 p=Δ (.dK [])/\∃kvs:List (Key×V),ps=kvs.map (λkv=>(kV kv.1,kv.2))/\kvs.length<=15/\Q (.ref p) (upd H2 p (.dK (jX [] kvs)))
theorem Bz(h:LK X pos keys values Ez)(yY:keys.all (·.isSome)=Λ)(hl:keys.length=values.length)(h0:keys≠[])(h15:keys.length<=15):PE X (.Dict keys values pos) (IZ Ez):=by
 intro η s σ H Q I q;have hn:=I.aQ.fresh (PH s.heap.objs.size);have I1:=I.laid (a:=s.heap.objs.size) (o:=.dK []) (h':=s.heap.push {cls:=.type "dict",data:=.dict #[]}) (t':=s.toks) (λ_ _ q=>Px _ q) (PH _) (rf s.heap I.LJ);refine wpAny_Dict_walk (knd:=bg X.prog X.w) yY hl h0 h15 (bG (h η _ σ _ _ I1 (q _ hn)) λws s2 ⟨ps,H2,I2,rel,e,kvs,ep,lk,q2⟩=>?_);subst ep;obtain⟨rs,c,rk⟩:=lY (P:=X.prog) (w:=X.w) rel;obtain⟨z,hd,vs0,r0,dd⟩:=ot I2.aQ e;cases r0;refine⟨rs,c,dd,λh' qG hs=>⟨.ref s.heap.objs.size,_,?_,rfl,q2⟩⟩;have hz:(jX [] kvs).length<=PQ:=by have h1:=iC kvs [];rw[UK] at h1;rw[QG];lia
 have he:∃q,h'.get? s.heap.objs.size=Δ q:=let ⟨q,_,_,hq,_⟩:=qG;⟨q,hq⟩
 exact fL I2 (by rw[e];exact QM) hs he (lX hz hd (rk.merge .nil) qG)
structure M1(X:Cx)(o:Expr)(m:Str)(apos:Pos)(e:Expr)(cM:Pos):Prop where
 base:RL o m X.env (eval o X.env)=eval o X.env
 LL:((Rp cM (P5 [e] X.env)).all (λx=>!x.1)&&(Ta cM (RY [] X.env)).all (λx=>x.1.isSome)
  &&decide (([e]:List Expr).length+([]:List T4).length+(if([]:List T4).isEmpty then 0 else 1) < 30))=Λ
 line:(apos.endLine==cM.line)=Λ
 trees:Rp cM (P5 [e] X.env)=[(Ξ,eval e X.env)]
structure M2(X:Cx)(o:Expr)(m:Str)(apos:Pos)(e f:Expr)(cM:Pos):Prop where
 base:RL o m X.env (eval o X.env)=eval o X.env
 LL:((Rp cM (P5 [e,f] X.env)).all (λx=>!x.1)&&(Ta cM (RY [] X.env)).all (λx=>x.1.isSome)
  &&decide (([e,f]:List Expr).length+([]:List T4).length+(if([]:List T4).isEmpty then 0 else 1) < 30))=Λ
 line:(apos.endLine==cM.line)=Λ
 trees:Rp cM (P5 [e,f] X.env)=[(Ξ,eval e X.env),(Ξ,eval f X.env)]
def LM(H:Hp)(a:Addr):Prop:=(∃kvs,Rd H a (.dK kvs))\/∃kvs,Rd H a (.dT kvs)
theorem uh(I:Inv X η σ H s)(d:LM H a):
  s.TypeIs (.ref a) "dict"/\(∀b,PZ a=.ref b->∃ob,s.heap.get? b=Δ ob/\ob.dict=Θ)/\(a==QZ)=Ξ:=by
 rcases d with ⟨kvs,e⟩|⟨kvs,e⟩
 ·obtain⟨_,hd,vs,_,dd⟩:=ky I.aQ e;refine⟨dd.typeIs,λb q=>?_,hd⟩;cases q;obtain⟨ob,_,_,h1,h2,_⟩:=dd;exact⟨ob,h1,h2.2.1⟩
 ·obtain⟨_,hd,xs,_,dd⟩:=kz I.aQ e;refine⟨dd.typeIs,λb q=>?_,hd⟩;cases q;obtain⟨ob,_,_,h1,h2,_⟩:=dd;exact⟨ob,h1,h2.2.1⟩
section
variable{X:Cx}{η:List (Addr×Obj)}{σ:St}{H:Hp}{s:PJ}{a:Addr}{y d:V}{u r:Value}{o:Option V}{A:QJ}{E:Value->PJ->Prop}
end
def EA(td ty:TE):TE:=λσ H Q=>td σ H λx H1=>∃a,x=.ref a/\LM H1 a/\ty σ H1 λy H2=>∃kvs k v,H2 a=Δ (.dK kvs)/\y=kV k/\dq kvs k=Δ v/\Q v (upd H2 a (.dK (jc kvs k)))
section
variable{X:Cx}{o e f:Expr}{apos cM:Pos}{td ty tx:TE}
theorem yZ(ho:PE X o td)(he:PE X e ty)(m:M1 X o "pop" apos e cM):PE X (.Call (.Attribute o "pop" apos) [e] [] cM) (EA td ty):=by intro η s σ H Q I h;refine TU m.base m.LL m.line RR PySem.F.slot_dict_pop PySem.F.type_dict_pop (bG (ho η s σ H _ I h) λu s1 ⟨x,H1,I1,rx,a,ex,d,q1⟩=>?_);subst ex;obtain rfl:u=PZ a:=rx;obtain⟨t1,t2,_⟩:=uh I1 d;refine⟨t1,t2,?_⟩;rw[m.trees];refine Q6 rfl (RJ (RB (bG (he η s1 σ H1 _ I1 q1) λiv s2 ⟨y,H2,I2,ry,kvs,k,v,ea,ey,l,q2⟩=>R9 ?_)));subst ey;exact IW I2 ea ry l (.inl rfl) λw' s3 I3 ik=>⟨v,_,I3,ik,q2⟩
end
section
variable{X:Cx}{η:List (Addr×Obj)}{σ:St}{H:Hp}{s:PJ}{a:Addr}{kvs:List (Key×V)}{A:QJ}{E:Value->PJ->Prop}
end
section
variable{X:Cx}{η:List (Addr×Obj)}{σ:St}{H:Hp}{s:PJ}{a:Addr}{y:V}{u:Value}{A:QJ}{E:Value->PJ->Prop}
end
end L2
namespace Att
open PySem PySem.W PySem.Calls PyProof.Rows
theorem kS:∀(ns) (vs),WellAll P h vs (ns.map WData.int)->IntsAre vs ns:=by intro ns;induction ns with|nil=>intro vs w;rw[Ts] at w;cases w;exact .nil|cons n ns ih=>intro vs w;rw[Qq] at w;cases w with|cons a b=>cases a;exact .cons _ _ (ih _ b)
theorem wX{l:OpenLaw}(hn:l.most=Δ n)(BA:l.row.toRowW.claim.pre args=Λ)(BB:WellAll P h vals args):
  ∃a vs ns,vals=[PZ a]/\args=[WData.list (ns.map WData.int)]/\h.get? a=Δ {cls:=.type "list",data:=.seq vs.toArray}/\IntsAre vs ns/\ns.length<=n:=by
 have vN:WShape.hasAll [] args [.list .int]=Λ:=(pre_splitW BA).1;have hc:l.pre.holds [] {args:=args}=Λ:=(pre_splitW BA).2;obtain⟨d,r,rfl,h1,h2⟩:=hasAllW_cons vN;obtain rfl:=hasAllW_nil h2;obtain⟨xs,rfl,h3⟩:=hasW_list h1;obtain⟨ns,rfl⟩:=items_int h3;have hlen:ns.length<=n:=by
  unfold OpenLaw.pre at hc;have h4:(WTm.not (.lt (.lit (.int (n:Int))) (.len (.arg 0)))).holds [] {args:=[.list (ns.map .int)]}=Λ:=by have h4:=(holds_andW hc).1;rw[hn] at h4;exact h4
  have h5:=condW_of h4 (w_not (w_lt w_lit (w_len_list (w_arg rfl))));rw[PX] at h5;refine Nat.le_of_not_lt λq=>?_;have q':(n:Int) < ((ns.length:Nat):Int):=by lia
  first
   |(rw[decide_eq_true q'] at h5;exact absurd h5 (by decide))
   |(simp at h5;lia)
 cases BB with|cons w1 w2=>cases w2;cases w1 with|list ho yY=>exact⟨_,_,ns,rfl,rfl,ho,kS ns _ yY,hlen⟩
theorem wY(l:OpenLaw)args:l.row.toRowW.claim.post args (.bool Λ) args=Λ:=
 postW_of (r:=l.row.toRowW) (X:=(Λ==Λ))
  (show WShape.has [] (.bool Λ) .bool=Λ by first|rfl|decide|simp[WShape.has,WShape.arms,WShape.armsAll])
  (show(WTm.eq .res (.lit (.bool Λ))).value [] {args:=args,res:=Δ (.bool Λ),after:=args}=Δ (.bool (Λ==Λ)) from w_eq_bool (w_res rfl) w_lit) rfl
theorem rm{l:OpenLaw}(hn:l.most=Δ n)(I0:d.params.defaults=[])(call:∀(w:World) (cQ bB:PJ) (mg mb:Str->Option Value) (fa:Addr) (o:Obj) (pm cd doc:Value) (a:Addr) (vs:List Value) (ns:List Int),
   Ground q loose [] XP w cQ mg mb bB.heap->YP w bB.heap->
   bB.heap.get? fa=Δ o->o.data=.func (docDef d.name d.params d.body d.scope pm cd doc)->bB.heap.CodeRec cd d.name->mg d.name=Δ (.ref fa)->
   bB.heap.get? a=Δ {cls:=.type "list",data:=.seq vs.toArray}->IntsAre vs ns->ns.length<=n->bB.gens=#[]->
   SI (model l.prog w) UR (.call (.ref fa) ⟨[.ref a],[]⟩) (λr s'=>r=.ok (.ret (.bool Λ))/\OldK bB.heap s'.heap/\s'.os=bB.os/\Tu s'.gens) bB):
  WalkO q loose XP YP l.row.toRowW d [] (λf vs=>Vw f vs):=by
 intro w cQ bB mg mb G Y fa o pm cd doc dV kV ho hd n6 hD Ja hg args vals as BA hlay hrd BB hlo;obtain rfl:dV=.none:=Dflts.none hD I0;obtain rfl:kV=.none:=Dflts.noKw hD;obtain⟨a,vs,ns,rfl,rfl,EB,hints,hlen⟩:=wX hn BA BB;refine enter_call (SH (call w cQ bB mg mb fa o pm cd doc a vs ns G Y ho (fd_plain hd) n6 Ja EB hints hlen hg) λr s' hq=>?_);obtain⟨rfl,h2,h3,h4⟩:=hq;exact⟨.inl ⟨.bool Λ,.bool Λ,[],rfl,λ_=>rfl,.bool Λ,wY l _,λ_=>⟨List.Pairwise.nil,λ_ hm=>(nomatch hm)⟩⟩,h2,h3,h4⟩
section
variable{prog:Qr}{w:World}{A:QJ}{E:Value->PJ->Prop}{s:PJ}{K:Frag}
end
end Att
namespace L2
open PySem PySem.Spec PyProof.Rows
theorem ou:∀{vs} {ns},IntsAre vs ns->aL (ns.map V.int) vs
 |_,_,.nil=>.nil|_,_,.cons n t h=>.cons ⟨t,rfl⟩ (ou h)
noncomputable def ls(s:Stmt):Arguments:=match s with|.FunctionDef _ a _ _ _ _ _ _ _ _=>a|_=>{posonlyargs:=[],args:=[],vararg:=Θ,kwonlyargs:=[],kw_defaults:=[],kwarg:=Θ,defaults:=[]}
noncomputable def fM(s:Stmt):List Stmt:=match s with|.FunctionDef _ _ b _ _ _ _ _ _ _=>b|_=>[]
noncomputable def aR(s:Stmt):Scope:=match s with|.FunctionDef _ _ _ _ _ _ sc _ _ _=>sc|_=>{kind:=.function,names:=[],isGenerator:=Ξ,isCoroutine:=Ξ}
abbrev Jb:vF:=λ_ _ _ _ _ _=>False
structure nt(K:PD)(x qual:Str)(st:Stmt)(f:Addr)(fd:Rn):Prop where
 ex:∃(oc:Value) (od:Option Addr) (kV doc pm:Value) (an:Option Addr) (nA ct:Value) (Eh:Array (Option Value)),
  fd=SK x qual (ls st) (fM st) (aR st) .none kV doc pm an nA ct/\K.lookup f=Δ ⟨oc,od,.func fd,Eh⟩/\UQ K nA qual=Λ
 kp:Rz K (.ref f)=Λ
section
variable{P:Qr}{w:World}{K:PD}{mg:Str->Option Value}{base:Heap}
theorem nt.binds{st:Stmt}(F:nt K x qual st f fd)(h:∀(kV doc pm:Value) (an:Option Addr) (nA ct:Value) (us:List Value),us.length=ps.length->bindArgs (SK x qual (ls st) (fM st) (aR st) .none kV doc pm an nA ct) ⟨us,[]⟩=pure (ps.zip us)):Binds K fd ps []:=by obtain⟨oc,od,kV,doc,pm,an,nA,ct,Eh,rfl,lk,n6⟩:=F.ex;exact .all (h kV doc pm an nA ct)
theorem EC{st:Stmt}{kV doc pm nA ct:Value}(l:K.lookup f=Δ ⟨oc,od,.func (SK x qual (ls st) (fM st) (aR st) .none kV doc pm an nA ct),Eh⟩)(c:UQ K nA qual=Λ)(k:Rz K (.ref f)=Λ):nt K x qual st f (SK x qual (ls st) (fM st) (aR st) .none kV doc pm an nA ct):=⟨⟨oc,od,kV,doc,pm,an,nA,ct,Eh,rfl,l,c⟩,k⟩
end
section
variable{X:Cx}
end
def du(H H':Hp):Prop:=∀b o,H b=Δ o->H' b=Δ o
theorem du.refl H:du H H:=λ_ _ h=>h
theorem du.trans(a:du H H1)(b:du H1 H2):du H H2:=λc o h=>b c o (a c o h)
section
variable{κ:Type}[DecidableEq κ]
end
noncomputable def cn(env:Env):List (Str×Sb)->List (Str×Addr)->List (Str×Addr)
 |[],cs=>cs|(n,k)::r,cs=>cn env r (if(k==P6)=Λ then(n,(env.cells.lookup n).getD 0)::cs else cs)
theorem ui(h:∀x∈sc.names,x.2=.free->∃c,env.cells.lookup x.1=Δ c):Vv sc env=pure (cn env sc.names []):=by
 have go:∀(l:List (Str×Sb)) (cs:List (Str×Addr)),(∀x∈l,x.2=.free->∃c,env.cells.lookup x.1=Δ c)->
   (forIn l cs (λ(x:Str×Sb) (r:List (Str×Addr))=>if(x.2==P6)=Λ then do let a<-cellOf env x.1;pure (Rr ((x.1,a)::r)) else pure (Rr r)):Sem (List (Str×Addr)))=pure (cn env l cs):=by
  intro l;induction l with
  |nil=>intro cs _;rfl|cons x r ih=>
   intro cs hx;obtain⟨n,k⟩:=x;have hr:∀y∈r,y.2=.free->∃c,env.cells.lookup y.1=Δ c:=λy hy=>hx y (Pz _ hy);rw[R5];by_cases hk:(k==P6)=Λ
   ·obtain⟨c,hc⟩:=hx (n,k) PC (by simpa using hk);have e:cellOf env n=pure c:=by unfold cellOf;simp only at hc;rw[hc]
    simp only[hk,if_true,e];show _=pure (cn env r (if(k==P6)=Λ then(n,(env.cells.lookup n).getD 0)::cs else cs));rw[if_pos hk];simp only at hc;rw[hc];exact ih _ hr
   ·simp only[hk];show _=pure (cn env r (if(k==P6)=Λ then(n,(env.cells.lookup n).getD 0)::cs else cs));rw[if_neg hk];exact ih _ hr
 have q:=go sc.names [] h;unfold Vv;show((forIn sc.names [] (λ(x:Str×Sb) (r:List (Str×Addr))=>if(x.2==P6)=Λ then do let a<-cellOf env x.1;pure (Rr ((x.1,a)::r)) else pure (Rr r)):Sem (List (Str×Addr))) >>=λcs=>pure cs)=_;rw[q];rfl
theorem gq:∀{l} {cs},((x,P6)∈l\/∃c,cs.lookup x=Δ c)->∃c,(cn env l cs).lookup x=Δ c
 |[],cs,h=>by
  rcases h with h|h;·exact nomatch h
  ·exact h
 |(n,k)::r,cs,h=>by
  show ∃c,(cn env r (if(k==P6)=Λ then(n,(env.cells.lookup n).getD 0)::cs else cs)).lookup x=Δ c;refine gq ?_;rcases h with h|⟨c,h⟩
  ·rcases Ub.mp h with e|e;·injection e with e1 e2;subst e1 e2;right;rw[if_pos (by rfl)];exact⟨_,by rw[P7];simp;rfl⟩
   ·exact .inl e
  ·right;by_cases hk:(k==P6)=Λ
   ·rw[if_pos hk,P7];split;·exact⟨_,rfl⟩
    ·exact⟨c,h⟩
   ·rw[if_neg hk];exact⟨c,h⟩
theorem kA:∀{l} {cs},(∀y∈l,y.2=.free->∃d,env.cells.lookup y.1=Δ d)->
  (cn env l cs).lookup x=Δ c->cs.lookup x=Δ c\/((x,P6)∈l/\env.cells.lookup x=Δ c)
 |[],cs,_,h=>.inl h|(n,k)::r,cs,hx,h=>by
  have h':(cn env r (if(k==P6)=Λ then(n,(env.cells.lookup n).getD 0)::cs else cs)).lookup x=Δ c:=h;rcases kA (λy hy=>hx y (Pz _ hy)) h' with q|⟨q1,q2⟩
  ·by_cases hk:(k==P6)=Λ
   ·rw[if_pos hk,P7] at q;split at q
    ·rename_i e;have e':x=n:=by simpa using e
     subst e';have tz:k=.free:=by simpa using hk
     subst tz;obtain⟨d,hd⟩:=hx (x,.free) PC rfl;simp only at hd;rw[hd] at q;simp only[Option.getD_some] at q;exact .inr ⟨PC,by rw[hd];exact q⟩
    ·exact .inl q
   ·rw[if_neg hk] at q;exact .inl q
  ·exact .inr ⟨Pz _ q1,q2⟩
section
variable{prog:Qr}{w:World}{A:QJ}{R:Result->PJ->Prop}{s:PJ}
end
theorem fN{env:Env}:∀{names:List (Str×Sb)} {x},names.lookup x=Δ .free->
  (names.map λ(n,k)=>if(k==P6&&env.scope.kind==.function&&env.kindOf n==Δ .cell) then(n,QS) else(n,k)).lookup x=Δ .cell\/
  (names.map λ(n,k)=>if(k==P6&&env.scope.kind==.function&&env.kindOf n==Δ .cell) then(n,QS) else(n,k)).lookup x=Δ .free
 |[],_,h=>by simp at h|(n,k)::r,x,h=>by
  have ih:=@fN env r x;show Q9 x ((if(k==P6&&env.scope.kind==.function&&env.kindOf n==Δ .cell)=Λ then(n,QS) else(n,k))::_)=_\/Q9 x ((if(k==P6&&env.scope.kind==.function&&env.kindOf n==Δ .cell)=Λ then(n,QS) else(n,k))::_)=_;cases hx:x==n with
  |true=>
   simp only[P7,hx] at h;cases h;by_cases hc:(P6==P6&&env.scope.kind==.function&&env.kindOf n==Δ .cell)=Λ;·rw[if_pos hc];simp[P7,hx]
   ·rw[if_neg hc];simp[P7,hx]
  |false=>
   simp only[P7,hx] at h;by_cases hc:(k==P6&&env.scope.kind==.function&&env.kindOf n==Δ .cell)=Λ;·rw[if_pos hc];simp only[P7,hx];exact ih h
   ·rw[if_neg hc];simp only[P7,hx];exact ih h
theorem kB{env:Env}:∀{names:List (Str×Sb)} {x} {q},q=.cell\/q=.free->
  (names.map λ(n,k)=>if(k==P6&&env.scope.kind==.function&&env.kindOf n==Δ .cell) then(n,QS) else(n,k)).lookup x=Δ q->∃k,(x,k)∈names/\(k=.free\/k=.cell)
 |[],_,_,_,h=>by simp at h|(n,k)::r,x,q,hq,h=>by
  have h':Q9 x ((if(k==P6&&env.scope.kind==.function&&env.kindOf n==Δ .cell)=Λ then(n,QS) else(n,k))::(r.map λ(n,k)=>if(k==P6&&env.scope.kind==.function&&env.kindOf n==Δ .cell) then(n,QS) else(n,k)))=Δ q:=h;cases hx:x==n with
  |true=>
   have e:x=n:=by simpa using hx
   by_cases hc:(k==P6&&env.scope.kind==.function&&env.kindOf n==Δ .cell)=Λ
   ·have hk:k=.free:=by simp only[Pw] at hc;simpa using hc.1.1
    exact⟨k,by rw[e];exact PC,.inl hk⟩
   ·rw[if_neg hc] at h';simp only[P7,hx] at h';cases h';exact⟨k,by rw[e];exact PC,hq.symm⟩
  |false=>
   have h2:Q9 x (r.map λ(n,k)=>if(k==P6&&env.scope.kind==.function&&env.kindOf n==Δ .cell) then(n,QS) else(n,k))=Δ q:=by
    by_cases hc:(k==P6&&env.scope.kind==.function&&env.kindOf n==Δ .cell)=Λ;·rw[if_pos hc] at h';simpa only[P7,hx] using h'
    ·rw[if_neg hc] at h';simpa only[P7,hx] using h'
   obtain⟨k',m,z⟩:=kB hq h2;exact⟨k',Pz _ m,z⟩
def AW(X:Cx)(η:List (Addr×Obj))(N:List Str)(sc:Scope)(fp:List Addr)(C:Addr)(s:PJ)(H:Hp):Cx where
 prog:=X.prog
 w:=X.w
 K:=X.K
 mg:=X.mg
 base:=X.base
 A:=X.A
 N:=N
 cQ:=s
 kR:=H
 env:=Vb sc (cn X.env sc.names []) C X.env
 outer:=X.stack
 stack:=X.stack
 ex:=fp
 calm:=X.calm
 fn:=λ_=>Ξ
 pn:=X.pn++η
 xe:=λ_ _=>False
structure fO(X:Cx)(N:List Str)(ts:Nat)(js:List Nat)(sc:Scope):Prop where
 kind:sc.kind=.function
 len:N.length=ts+js.length
 uj:∀x∈sc.names,x.2≠.cell
 names:∀x∈sc.names,x.2=.local->sc.names.lookup x.1=Δ .local
 frees:∀x∈sc.names,x.2=.free->X.env.kindOf x.1=Δ .cell\/X.env.kindOf x.1=Δ .free
 slots:∀(i:Nat) (y:Str) (j:Nat),N[ts+i]?=Δ y->js[i]?=Δ j->X.N[j]?=Δ y/\sc.names.lookup y=Δ .free
noncomputable def fP(ts:Nat)(js:List Nat)(σ:St):St:=Qo ts Θ++js.map λj=>(σ[j]?).join
section
variable{X:Cx}{η:List (Addr×Obj)}{σ:St}{H:Hp}{s:PJ}{N:List Str}{ts:Nat}{js:List Nat}{sc:Scope}{fp:List Addr}
theorem fO.cl(B:fO X N ts js sc)(ok:X.Ok):∀x∈sc.names,x.2=.free->∃c,X.env.cells.lookup x.1=Δ c:=λx hx hk=>ok.has x.1 (B.frees x hx hk)
theorem fO.get(B:fO X N ts js sc)(ok:X.Ok)(h:(cn X.env sc.names []).lookup x=Δ c):X.env.cells.lookup x=Δ c:=by
 rcases kA (B.cl ok) h with q|⟨_,q⟩;·cases q
 ·exact q
theorem Inv.fpB(I:Inv X η σ H s)(f:jR X η H b):b∉gi X.stack:=λz=>by
 rcases Ub.mp (I.pw b z) with e|e;·exact f.2.1 e
 ·exact f.2.2.1 e
theorem Inv.okB(I:Inv X η σ H s)(B:fO X N ts js sc)(hf:∀b∈fp,jR X η H b)(ho:∀b∈fp,b < s.heap.objs.size):(AW X η N sc fp s.heap.objs.size s H).Ok where
 mod:=I.ok.mod
 kind:=B.kind
 glob:=I.ok.glob
 blt:=I.ok.blt
 above:=PH _
 inj:=λx y c h1 h2=>I.ok.inj x y c (B.get I.ok h1) (B.get I.ok h2)
 has:=λx hx=>by
  have rn:∃q,(q=QS\/q=.free)/\(sc.names.map λ(n,k)=>if(k==P6&&X.env.scope.kind==.function&&X.env.kindOf n==Δ .cell) then(n,QS) else(n,k)).lookup x=Δ q:=by
   rcases hx with h|h;·exact⟨_,.inl rfl,h⟩
   ·exact⟨_,.inr rfl,h⟩
  obtain⟨q,hq,hl⟩:=rn;obtain⟨k,hm,hk⟩:=kB hq hl;have tz:k=.free:=hk.resolve_right (B.uj _ hm);subst tz;exact gq (.inl hm)
 Dc:=λx c h=>absurd (show Ξ=Λ from h) Ql
 hd:=I.ok.hd
 frames:=I.ok.frames
 DX:=.inl rfl
 HR:=λb hb=>⟨Qe (ho b hb),λx c h=>(hf b hb).2.2.2.2.1 x c (B.get I.ok h)⟩
 bs:=I.bs
 yg:=Qj I.ok.yg I.sz
 qM:=λb o e hb=>by
  rcases(hf b hb).2.2.2.1 with z|z;·exact I.ok.qM b o e z
  ·exact absurd (P0 (PK e) (Qj I.ok.yg z)) (Rj _)
 tF:=λb hb=>I.fpB (hf b hb)
 eM:=I.stack
 tG:=I.vp
theorem Inv.block(I:Inv X η σ H s)(B:fO X N ts js sc)(hf:∀b∈fp,jR X η H b)(ho:∀b∈fp,b < s.heap.objs.size)(hn:h'.Ns s.heap.objs.size m)(k:∀b o,s.heap.get? b=Δ o->h'.get? b=Δ o):Inv (AW X η N sc fp s.heap.objs.size s H) [] (fP ts js σ) H {s with heap:=h',toks:=tk}:=by
 refine⟨I.okB B hf ho,rfl,I.bare,Un.kept k,⟨m,hn,λi y v h1 h2 h3=>?_⟩,λx c h=>?_,I.aQ.fresh (PH _),λx c h=>I.dI x c (B.get I.ok h),λp hp=>?_,I.aQ.kept k,?_⟩
 ·have hi:ts<=i:=by
   by_cases hi:ts<=i;·exact hi
   ·unfold fP at h2;rw[P8 (by simpa using hi),RV] at h2;split at h2<;>cases h2
  obtain⟨d,rfl⟩:∃d,i=ts+d:=⟨i - ts,by lia⟩;have ED:(js.map λj=>(σ[j]?).join)[d]?=Δ (Δ v):=by unfold fP at h2;rw[Qk (by simp)] at h2;simpa using h2
  rw[Qa] at ED;cases ej:js[d]? with
  |none=>rw[ej] at ED;cases ED|some j=>
   rw[ej] at ED;have h4:(σ[j]?).join=Δ v:=by simpa using ED
   have h5:σ[j]?=Δ (Δ v):=by cases e:σ[j]? with|none=>rw[e] at h4;cases h4|some o=>rw[e] at h4;simp at h4;rw[h4]
   obtain⟨g1,g2⟩:=B.slots d y j h1 ej;have hm:(y,P6)∈sc.names:=Q7 g2;have hk:=B.frees _ hm rfl;obtain⟨m0,Hk,hl0⟩:=I.loc;have hv:Lv X.env.scope y:=by
    rcases hk with z|z;·exact .inr (.inl z)
    ·exact .inr (.inr z)
   obtain⟨u,ru,lk⟩:=hl0 j y v g1 h5 hv;refine⟨u,ru,.inr ⟨fN g2,?_⟩⟩;rcases lk with ⟨z,_⟩|⟨_,c,hc,vq⟩
   ·rcases hk with z'|z'<;>(rw[z] at z';cases z')
   ·obtain⟨c',HW⟩:=gq (env:=X.env) (l:=sc.names) (cs:=[]) (.inl hm);have e:=B.get I.ok HW;rw[hc] at e;cases e;obtain⟨o,ll,yu⟩:=vq;exact⟨c,HW,o,k _ _ ll,yu⟩
 ·obtain⟨v,o,ll,yu⟩:=I.cell x c (B.get I.ok h);exact⟨v,o,k _ _ ll,yu⟩
 ·have wZ:p∈X.pn++η:=by simpa[AW] using hp
  obtain⟨e,n,ne,nf,d⟩:=I.pin p wZ;refine⟨k _ _ e,n,Qe (PK e),λz=>?_,d⟩;rcases Ub.mp (I.pw p.1 z) with q|q;·exact ne q
  ·exact nf q
 ·show(fP ts js σ).length=N.length;unfold fP;rw[Qh,SY,PX,B.len]
end
noncomputable def AX(X:Cx)(ifs:List Expr)(t:TT):Prop:=
 ∀(η:List (Addr×Obj)) (s:PJ) (σ:St) (H:Hp) (Q:Bool->Hp->Prop),Inv X η σ H s->t σ H Q->
  wpAny (model X.prog X.w) X.A (forIn ifs Λ λc r=>if r=Λ then do let ok<-Vm c X.env (eval c X.env);pure (Rr ok) else pure (Rr r)) (TP X η σ Q) X.xe s
def Nk:TT:=λ_ H Q=>Q Λ H
theorem BC:AX X [] Nk:=λ_ _ _ H _ I h=>wpAny_tests_nil ⟨H,I,h⟩
theorem BD(h:PT X c t):AX X [c] t:=λη s σ H Q I q=>wpAny_tests_one (h η s σ H Q I q)
def y1(wi:TI)(g:TG)(tc:TT)(te:TE)(ts:Nat)(js:List Nat):TE:=λσ H Q=>wi σ H λJ H1=>∀acc,H1 acc=Θ->
 ∃W:Nat->Nat->St->Hp->Prop,(∃m,W 0 m (fP ts js σ) (upd H1 acc (.lst [])))/\∀i m τ H,W i m τ H->
  (J.stop i H/\Q (.ref acc) H)\/(J.go i H/\∀x H',J.Il i H x H'->g x τ H' λLN H2=>tc LN H2 λb H3=>
   if b=Λ then te LN H3 λy H4=>∃ys,H4 acc=Δ (.lst ys)/\ys.length < PQ/\∃m',m' < m/\W (i+1) m' LN (upd H4 acc (.lst (ys++[y])))
   else ∃m',m' < m/\W (i+1) m' LN H3)
section
variable{X:Cx}{elt iter tg:Expr}{ifs:List Expr}{sc:Scope}{pos:Pos}{N:List Str}{ts:Nat}{js:List Nat}{wi:TI}{g:TG}{tc:TT}{te:TE}
theorem Inv.rA(I:Inv X η σ H s)(hf:∀b∈fp,jR X η H b)(J:Inv (AW X η N sc fp s.heap.objs.size s H) [] τ H' s')(sb:Q5 s.heap.objs.size s'.heap EF):Inv X η σ H' {s' with heap:=EF}:=by
 have hC:H' s.heap.objs.size=Θ:=J.free;have k:∀b o,b≠s.heap.objs.size->s'.heap.get? b=Δ o->EF.get? b=Δ o:=λb o hb e=>sb.extBut b o hb e;have ne:∀b o,s.heap.get? b=Δ o->b≠s.heap.objs.size:=λb o e=>Qe (PK e);have u:Un (gi X.stack) fp H H' s.heap EF:=
  ⟨λb o e n hb hx=>k b o (ne b o e) (J.base.keep b o e n hb hx),
   λb o e n hb hx=>by
   obtain⟨sl,q⟩:=J.base.slot b o e n hb hx;exact⟨sl,k b _ (ne b o e) q⟩,
   J.base.free,
   λb o e hx=>by
   obtain⟨o',q⟩:=J.base.there b o e hx;exact⟨o',k b _ (ne b o e) q⟩,
   J.base.kQ,J.base.i4,J.base.jQ⟩
 have aQ:gf X.prog X.w H' EF:=λb ob e=>by
  refine(J.aQ b ob e).jP (λc v hc q=>k c v ?_ q) (λ_ q=>q) λ_ _ q=>q;rintro rfl;rcases hc with z|z;·rw[z] at hC;rw[hC] at e;cases e
  ·rw[hC] at z;cases z
 exact I.HX (s':={s' with heap:=EF}) (ch:=fp) J.os u aQ J.bare λb hb=>⟨(hf b hb).2.2.2.1,(hf b hb).2.1,(hf b hb).2.2.2.2.1,(hf b hb).2.2.2.2.2⟩
end
end L2
namespace L2
open PySem
end L2
namespace L2
open PySem PySem.Spec PyProof.Rows PySem.SeqAt
open PySem.AutoSeq1 (wpAny_loadPart')
def dS(t T:String):Bool:=t==T||(t=="bool"&&T=="int")
noncomputable def Jc(H:Hp):V->Option String
 |.aU=>Δ "NoneType"|.bl _=>Δ "bool"|.int _=>Δ "int"|.str _=>Δ "str"|.ref a=>match H a with|some (.lst _)=>Δ "list"|some (.tup _)=>Δ "tuple"|_=>Θ
 |_=>Θ
theorem EG(h:Jc H v=Δ t):t="NoneType"\/t="bool"\/t="int"\/t="str"\/t="list"\/t="tuple":=by
 cases v with
 |ref a=>
  unfold Jc at h;simp only at h;split at h<;>first
   |(cases h;simp)
   |cases h
 |_=>first
  |(cases h;simp)
  |cases h
theorem BE{K:PD}(h:Jc H v=Δ t):iI K H v (.type t):=by
 cases v with
 |aU=>cases h;exact .aU|bl b=>cases h;exact .bl b|int i=>cases h;exact .int i|str x=>cases h;exact .str x|ref a=>
  unfold Jc at h;simp only at h;split at h;·rename_i xs e;cases h;exact .lst e
  ·rename_i xs e;cases h;exact .tup e
  ·cases h
 |_=>cases h
theorem lx K(ht:t="NoneType"\/t="bool"\/t="int"\/t="str"\/t="list"\/t="tuple")(hT:T="int"\/T="bool"\/T="tuple"\/T="str"\/T="list"):
  Qw K (.type t) (.type T)=Δ (dS t T):=by
 rcases ht with rfl|rfl|rfl|rfl|rfl|rfl<;>rcases hT with rfl|rfl|rfl|rfl|rfl<;>first
  |rfl
  |kernel_rfl
section
variable{X:Cx}
theorem aZ(h:H p=Θ)o:du H (upd H p o):=λb u q=>by rw[aw (aN q h)];exact q
def Dm:R2:=λx y H Q=>∃a b xs ys,x=.ref a/\y=.ref b/\H a=Δ (.tup xs)/\H b=Δ (.tup ys)/\xs.length+ys.length<=PQ/\∀r H',du H H'->H' r=Δ (.tup (xs++ys))->Q (.ref r) H'
theorem BF:fg X (Rl .Add) Dm:=by
 intro η s σ H x y v u Q I rx ry h;obtain⟨a,b,xs,ys,rfl,rfl,ha,hb,hz,q⟩:=h;cases rx;cases ry;obtain⟨aD,r1,p1,_⟩:=I.tuple (de.of ha);obtain⟨yS,r2,p2,_⟩:=I.tuple (de.of hb);by_cases hx:xs=[]
 ·subst hx;cases r1;obtain⟨⟨cls,dd,data,sl⟩,ho,hc,n,hd⟩:=id p1;obtain⟨⟨M7,LF,data2,LG⟩,Ei,Ej,n2,hd2⟩:=id p2;simp only at hc hd Ej hd2;subst hc hd Ej hd2;exact Va ⟨_,ho,rfl⟩ ⟨_,Ei,rfl⟩ Uj UY SO SD (Sr _ _)
   (tuple_addW0 a b ([]:List Value).toArray yS.toArray n n2 dd LF sl LG (by simp)) ⟨ho,Ei,⟨.ref b,H,I,rfl,q b H (du.refl H) hb⟩⟩
 ·refine Bu η s σ H (.ref a) (.ref b) _ _ Q I rfl rfl ⟨a,b,xs,ys,rfl,rfl,de.of ha,de.of hb,hx,hz,λe=>?_,λe p hp=>?_⟩;·subst e;exact q a H (du.refl H) (by rw[QK];exact ha)
  ·exact q p _ (aZ hp _) aF
theorem iq{lo hi:Option Int}(ht:IsTup s.heap t items)(hs:s.heap.IsSliceOf sl vl vu .none)(pl:UC vl lo)(pu:UC vu hi)(hw:HT.cm items.size 0 lo=0/\HT.cm items.size items.size hi=items.size)(h:Q (.ref t) s):wpAny (model prog w) A (Sg (.ref t) (.ref sl)) Q E s:=by
 obtain⟨os,wO,El,AU⟩:=id hs;have IJ:s.TypeIs (.ref sl) "slice":=⟨os,wO,El⟩;unfold Sg;try with_reducible refine Qu ?_
 first|refine Pu (Py ?_)|skip
 refine Pu (TQ ht.typeIs (by decide) ?_);refine Pu (Qp (name:=Qg "__getitem__") ht.typeIs Qz
  (QF Qz ht.typeIs Ti ?_ (Tz _ _)))
 show wpAny _ _ (Sf (.ref t) >>=_) _ _ s;refine Pu (UX ht ?_);refine Pu (To IJ ?_);rw[if_pos (by decide)];refine Pu (HT.fk hs pl pu ?_);have Nl:(((HT.cm items.size 0 lo:Nat):Int)==0&&(1:Int)==1&&(HT.cm items.size items.size hi - HT.cm items.size 0 lo)==items.size)=Λ:=by rw[hw.1,hw.2];simp
 show wpAny _ _ (if(((HT.cm items.size 0 lo:Nat):Int)==0&&(1:Int)==1&&(HT.cm items.size items.size hi - HT.cm items.size 0 lo)==items.size)=Λ then _ else _) _ _ s;rw[if_pos Nl];refine Pu ?_;unfold R1.Tuple.tupleIsExact;refine Pu (To ht.typeIs (Py ?_));rw[if_pos (by decide)];first
  |exact Pu (Su (Pu (Py (Py ⟨_,rfl,Py h⟩))))
  |exact Pu (Su (Py ⟨_,rfl,Py h⟩))
  |exact Pu (Su (Py (Py ⟨_,rfl,Py h⟩)))
def Jd:V->Option Int->Option Int->Hp->VK->Prop:=λx lo hi H Q=>∃a xs,x=.ref a/\H a=Δ (.tup xs)/\∀r H',du H H'->H' r=Δ (.tup (jU xs lo hi))->Q (.ref r) H'
theorem BG:Bt X Jd:=by
 intro η s σ H x v vl vu lo hi sl Q I rx hs pl pu h;obtain⟨a,xs,rfl,ha,q⟩:=h;cases rx;by_cases hw:HT.cm xs.length 0 lo=0/\HT.cm xs.length xs.length hi=xs.length
 ·obtain⟨aD,r,ht,hz⟩:=I.tuple (de.of ha);have hlen:aD.toArray.size=xs.length:=by rw[PF];exact r.length.symm
  refine⟨"tuple",_,Qz.lookup,ht.typeIs,?_⟩;refine iq ht hs pl pu (by rw[hlen];exact hw) ⟨.ref a,H,I,rfl,q a H (du.refl H) ?_⟩;have e:jU xs lo hi=xs:=by unfold jU;rw[hw.1,hw.2];simp
  rw[e];exact ha
 ·exact Em η s σ H (.ref a) _ vl vu lo hi sl Q I rfl hs pl pu ⟨a,xs,rfl,de.of ha,hw,λp hp=>q p _ (aZ hp _) aF⟩
theorem jY{n:Nat}(hs:s.heap.IsSliceOf sl .none .none (.int (-1) tk))(h:Q ((n:Int) - 1, -1,n) s):wpAny (model prog w) A (RC (.ref sl) (pure (n:Int))) Q E s:=by
 obtain⟨os,wO,El,AU⟩:=id hs;unfold RC R1.Slice.sliceFields;refine Pu (Pu (Qs wO AU (x:=.none) rfl (Pu (Qs wO AU (x:=.none) rfl (Pu (Qs wO AU (x:=.int (-1) tk) rfl (Py ?_)))))));refine Pu (slicePart_int ?_);show wpAny _ _ (if((-1:Int)==0)=Λ then _ else _) _ _ s;rw[if_neg (by decide)];refine Pu (Tx (Pu (Tx (Pu (Py ?_)))));have e1:QL Θ Θ (-1) (n:Int)=((n:Int) - 1, -1):=by unfold QL;simp
 have e2:Qv ((n:Int) - 1) (-1) (-1)=n:=by
  unfold Qv;have h1:¬((-1:Int) > 0):=by decide
  simp only[h1,if_false];have h2:(-(-1):Int)=1:=by decide
  rw[h2,Int.ediv_one];split<;>lia
 show wpAny _ _ (match QL Θ Θ (-1) (n:Int) with|(lo,hi)=>pure (lo,(-1:Int),Qv lo hi (-1))) _ _ s;rw[e1];show wpAny _ _ (pure ((n:Int) - 1,(-1:Int),Qv ((n:Int) - 1) (-1) (-1))) _ _ s;rw[e2];exact Py h
theorem rB{α β:Type}{f g:α->Option β}:∀{l:List α},(∀x∈l,f x=g x)->l.filterMap f=l.filterMap g
 |[],_=>rfl|a::r,h=>by rw[RP,RP,h a PC,rB λx hx=>h x (Pz _ hx)]
theorem y2(xs:Array Value):((Q0 xs.size).filterMap λ(m:Nat)=>xs[((xs.size:Int) - 1+(m:Int)*(-1)).toNat]?).toArray=xs.toList.reverse.toArray:=by
 congr 1;have e:((Q0 xs.size).filterMap λ(m:Nat)=>xs[((xs.size:Int) - 1+(m:Int)*(-1)).toNat]?)=((Q0 xs.size).map λk=>xs.size - 1 - k).filterMap λm=>xs[m]?:=by
  rw[List.filterMap_map];refine rB λm hm=>?_;have hm':=List.mem_range.mp hm;have:((xs.size:Int) - 1+(m:Int)*(-1)).toNat=xs.size - 1 - m:=by lia
  rw[this];rfl
 rw[e,PySem.W.krv_range,List.filterMap_reverse,PySem.W.krv_all]
theorem jh(ht:IsTup s.heap t items)(hs:s.heap.IsSliceOf sl .none .none (.int (-1) tk))(hsz:items.size<=PQ)(h:Q (.ref s.heap.objs.size) {s with heap:=s.heap.push {cls:=.type "tuple",data:=.seq items.toList.reverse.toArray}}):wpAny (model prog w) A (Sg (.ref t) (.ref sl)) Q E s:=by
 have i9:sizeOk (.seq items.toList.reverse.toArray):=by show items.toList.reverse.toArray.size<=PQ;rw[PF,List.length_reverse,Q8];exact hsz
 obtain⟨os,wO,El,AU⟩:=id hs;have IJ:s.TypeIs (.ref sl) "slice":=⟨os,wO,El⟩;unfold Sg;try with_reducible refine Qu ?_
 first|refine Pu (Py ?_)|skip
 refine Pu (TQ ht.typeIs (by decide) ?_);refine Pu (Qp (name:=Qg "__getitem__") ht.typeIs Qz
  (QF Qz ht.typeIs Ti ?_ (Tz _ _)))
 show wpAny _ _ (Sf (.ref t) >>=_) _ _ s;refine Pu (UX ht ?_);refine Pu (To IJ ?_);rw[if_pos (by decide)];refine Pu (jY hs ?_);show wpAny _ _ (if((((items.size:Nat):Int) - 1)==0&&(-1:Int)==1&&items.size==items.size)=Λ then _ else _) _ _ s;rw[if_neg (by simp),y2];first
  |exact Pu (m:=Qf _) (Qt (Py ⟨_,rfl,Py h⟩) i9)
  |exact Pu (m:=Qf _) (Qt (Pu (Py (Py ⟨_,rfl,Py h⟩))) i9)
  |exact Pu (Pu (m:=Qf _) (Qt (Py (Py ⟨_,rfl,Py h⟩)) i9))
  |exact Pu (Pu (m:=Qf _) (Qt (Py ⟨_,rfl,Py h⟩) i9))
def Nm(te tk:TE):TE:=λσ H Q=>te σ H λx H1=>tk σ H1 λk H2=>∃a xs,x=.ref a/\k=.int (-1)/\H2 a=Δ (.tup xs)/\∀p,H2 p=Θ->Q (.ref p) (upd H2 p (.tup xs.reverse))
theorem BH{e st:Expr}(he:PE X e te)(hk:PE X st tk):PE X (.Subscript e (.Slice Θ Θ (Δ st) p2) pos) (Nm te tk):=by
 intro η s σ H Q I h;refine Subscript_ (bG (he η s σ H _ I h) λv s1 ⟨x,H1,I1,r1,q1⟩=>?_);refine wpAny_Slice ?_;rw[UZ,evalPart_some];refine Py (Py (bG (hk η s1 σ H1 _ I1 q1) λkv s3 ⟨k,H3,I3,rk,a,xs,ex,ek,ha,q⟩=>?_));subst ex ek;obtain⟨LO,rfl⟩:=rk;cases r1;have I4:Inv X η σ H3 {s3 with heap:=s3.heap.push {cls:=.type "slice",data:=.fields #[.none,.none,.int (-1) LO]}}:=I3.kept (t':=s3.toks) λb ob q=>Px _ q;obtain⟨aD,r,ht,hz⟩:=I4.tuple (de.of ha);have hlen:aD.toArray.size=xs.length:=by rw[PF];exact r.length.symm
 show wpAny (model X.prog X.w) X.A (S8 e (.Slice Θ Θ (Δ st) p2) (.ref a) (.ref s3.heap.objs.size)) (EP X η σ Q) X.xe {s3 with heap:=s3.heap.push {cls:=.type "slice",data:=.fields #[.none,.none,.int (-1) LO]}};refine tail_any (ops:=[.ref a,.ref s3.heap.objs.size]) ht.typeIs Qz.lookup (jh ht (Heap.IsSliceOf.new ..) (by rw[hlen];exact hz) ?_) (by with_unfolding_all rfl);refine⟨.ref _,_,I4.laid (t':=s3.toks) (o:=.tup xs.reverse) (λb ob q=>Px _ q) (PH _) ?_,rfl,q _ (I4.aQ.fresh (PH _))⟩;exact⟨by rw[List.length_reverse];exact hz,_,r.reverse,Up _ _⟩
theorem dz:fillsNumberSlot (.type "tuple") "mul"=pure Ξ:=
 PySem.fillsNumberSlot_seq (id:="tuple.__mul__") (r:=Δ (.builtin "tuple.__rmul__")) SN.lookup (by decide+kernel) PySem.F.slot_tuple_rmul.lookup (by decide+kernel)
theorem fQ:seqRepeat? (.type "tuple")=pure (Δ (.builtin "tuple.__mul__")):=by unfold seqRepeat?;rw[PySem.seqSlot_of (T:="tuple") (name:="__mul__") (id:="tuple.__mul__") SN.lookup (by decide+kernel),PySem.seqSlot_of (T:="tuple") (name:="__rmul__") (id:="tuple.__rmul__") PySem.F.slot_tuple_rmul.lookup (by decide+kernel)];rfl
theorem eA a t l items n d sl:
  Meets (R1.«int.__rmul__» ⟨[.int a t,.ref l],[]⟩) (λ_ R s=>s.heap.get? l=Δ {cls:=.type "tuple",dict:=d,data:=.seq items n,slots:=sl}/\R (.ok (.ret Value.notImplemented)) s):=
 .of_wp λprog w A R s h=>by obtain⟨hp,g,d,tk,os⟩:=s;obtain⟨hl,h⟩:=h;wp_walk;exact⟨_,rfl,h⟩
theorem uk l items n d sl u(iZ:¬items.isEmpty=Λ)(hz:items.size*2<=1000000):
  Meets (R1.«tuple.__mul__» ⟨[.ref l,.int 2 u],[]⟩) (λ_ R s=>s.heap.get? l=Δ {cls:=.type "tuple",dict:=d,data:=.seq items n,slots:=sl}/\
   R (.ok (.ret (PZ s.heap.objs.size))) {s with heap:=s.heap.push {cls:=R0 "tuple",data:=Data.seq (#[]++items++items)},toks:=s.toks}):=
 .of_wp λprog w A R s h=>by
  obtain⟨hp,g,dr,tk,os⟩:=s;obtain⟨hl,h⟩:=h;have f1:=Us;have h1:¬((items.size:Int)*2 > (2 ^ 63 - 1) / 8):=by lia
  have h2:¬QI ((items.size:Int)*2)=Λ:=by
   unfold QI;simp[PQ]
   lia
  have h3:(items.isEmpty||(2:Int)==1)=Ξ:=by simpa using iZ
  have h4:((2:Int)<=0||items.isEmpty)=Ξ:=by simpa using iZ
  wp_walk using QW hl
  rw[if_neg h1];show wpAny _ _ (if QI ((items.size:Int)*2)=Λ then _ else _) _ _ _;rw[if_neg h2];have hsz:sizeOk (.seq (S6 (λx1 x2=>x1++x2) #[] (Qo (Uq 2) items))):=by
   show(S6 (λx1 x2=>x1++x2) #[] (Qo (Uq 2) items)).size<=PQ;show(#[]++items++items).size<=PQ;simp[PQ]
   lia
  show wpAny _ _ (Qf (S6 (λx1 x2=>x1++x2) #[] (Qo (Uq 2) items)) >>=λv=>ret v) _ _ _;exact Pu (m:=Qf _) (Qt (Py ⟨_,rfl,h⟩) hsz)
def Dn:R2:=λx y H Q=>∃a xs,x=.ref a/\y=.int 2/\H a=Δ (.tup xs)/\xs≠[]/\xs.length<=100000/\∀p,H p=Θ->Q (.ref p) (upd H p (.tup (xs++xs)))
theorem y3:fg X (Rl .Mult) Dn:=by
 intro η s σ H x y v u Q I rx ry h;obtain⟨a,xs,rfl,rfl,ha,iZ,hz,q⟩:=h;cases rx;obtain⟨t,rfl⟩:=ry;obtain⟨aD,r,ht,hz'⟩:=I.tuple (de.of ha);have hl:=r.length;obtain⟨⟨cls,dd,data,sl⟩,ho,hc,n,hd⟩:=id ht;simp only at hc hd;subst hc hd;have EH:¬aD.toArray.isEmpty=Λ:=by
  intro z;have:aD=[]:=by simpa using z
  exact iZ (r.ja.mp this)
 refine Sn (T:="tuple") (U:="int") (by decide) ⟨_,ho,rfl⟩ (λs'=>S2 s' 2 t) dz SX Rc fQ PySem.F.slot_int_index.lookup
  (RK Rc (S2 s 2 t) SQ (SF _ _) (eA 2 t a aD.toArray n dd sl)
   ⟨ho,rfl,⟨_,ho,rfl⟩,RK SN ⟨_,ho,rfl⟩ SA (Sq _ _)
    (uk a aD.toArray n dd sl t EH (by rw[PF];lia)) ⟨ho,?_⟩⟩)
 refine⟨.ref s.heap.objs.size,_,I.laid (t':=s.toks) (o:=.tup (xs++xs)) (λb ob q=>Px _ q) (PH _) ?_,rfl,q _ (I.aQ.fresh (PH _))⟩;refine⟨by rw[Qh,QG];lia,aD++aD,r.append r,?_⟩;have e:(#[]++aD.toArray++aD.toArray:Array Value)=(aD++aD).toArray:=by simp
 rw[e];exact Up _ _
noncomputable def dA:List (Str×Int)->Str->Option Int
 |[],_=>Θ|(y,i)::r,x=>if x=y then Δ i else dA r x
noncomputable def rC:List DictEntry->Option (List (Str×Int))
 |[]=>Δ []|⟨_,.str x _,.int i _⟩::r=>(rC r).map λD=>(x,i)::D|_=>Θ
def EI(o:Obj):Option (List (Str×Int)):=match o with|⟨.type t,Θ,.dict es _,sl⟩=>if t="dict"/\sl=#[] then rC es.toList else Θ|_=>Θ
open PyProof.Rows.KTD in
theorem lZ:∀{es} {D},rC es=Δ D->PyProof.Rows.KTD.Rows (Dat.At h) es (D.map λp=>(p.1,Dat.flat (.int p.2)))
 |[],D,e=>by cases e;exact .nil|⟨hs,k,v⟩::r,D,e=>by
  cases k<;>first
   |(cases e;done)
   |skip
  rename_i x t;cases v<;>first
   |(cases e;done)
   |skip
  rename_i i u;have e':(rC r).map (λD=>(x,i)::D)=Δ D:=e;cases hr:rC r with|none=>rw[hr] at e';cases e'|some D'=>rw[hr] at e';cases e';exact .cons rfl (PyProof.V.Flat.int i u) (lZ hr)
structure um(K:PD)(a:Addr)(D:List (Str×Int)):Prop where
 low:(a==QZ)=Ξ
 at_:∃o,K.lookup a=Δ o/\EI o=Δ D
theorem um.text{K:PD}(T:um K a D)(X:K.In h):PyProof.Rows.KTD.TextTab h a (D.map λp=>(p.1,RE (.int p.2))):=by
 obtain⟨lo,o,lk,e⟩:=T;refine⟨lo,o,?_⟩;obtain⟨c,d,dt,sl⟩:=o;unfold EI at e;split at e
 ·rename_i t es ep MC he;injection he with h1 h2 h3 h4;subst h1 h2 h3 h4;split at e;·rename_i hc;obtain⟨rfl,rfl⟩:=hc;exact⟨es,ep,X _ _ lk,⟨rfl,rfl,rfl⟩,rfl,lZ e⟩
  ·cases e
 ·cases e
theorem vO:∀{D},(match dA D k with|some i=>∀t,P (.int i t)|none=>els)->PyProof.Rows.KTD.Each h k P els (D.map λp=>(p.1,RE (.int p.2)))
 |[],q=>q|(y,i)::r,q=>by
  show if decide (k=y)=Λ then _ else _
  unfold dA at q;by_cases e:k=y;·rw[if_pos e] at q;rw[decide_eq_true e,if_pos rfl];exact q
  ·rw[if_neg e] at q;rw[decide_eq_false e,if_neg Ql];exact vO q
def BI(a:Addr)(D:List (Str×Int))(td ty:TE):TE:=λσ H Q=>td σ H λx H1=>x=.ref a/\ty σ H1 λy H2=>∃k,y=.str k/\Q (match dA D k with|some i=>.int i|none=>.aU) H2
theorem w6(tb:um X.K a D)(ho:PE X o td)(he:PE X e ty)(m:M1 X o "get" apos e cM:=by exact⟨rfl,rfl,rfl,rfl⟩):PE X (.Call (.Attribute o "get" apos) [e] [] cM) (BI a D td ty):=by intro η s σ H Q I h;refine TU m.base m.LL m.line RR PySem.F.slot_dict_get PySem.F.type_dict_get (bG (ho η s σ H _ I h) λu s1 ⟨x,H1,I1,rx,ex,q1⟩=>?_);subst ex;obtain rfl:u=PZ a:=rx;have T1:PyProof.Rows.KTD.Here X.base s1.heap a (D.map λp=>(p.1,RE (.int p.2))):=⟨tb.text I1.mod.tu,I1.bk⟩;refine⟨T1.typeIs,T1.noDict,?_⟩;rw[m.trees];refine Q6 rfl (RJ (RB (bG (he η s1 σ H1 _ I1 q1) λiv s2 ⟨y,H2,I2,ry,k,ek,q2⟩=>R9 ?_)));subst ek;obtain⟨tk,rfl⟩:=ry;have T2:PyProof.Rows.KTD.Here X.base s2.heap a (D.map λp=>(p.1,RE (.int p.2))):=⟨tb.text I2.mod.tu,I2.bk⟩;refine PyProof.Rows.KTD.get1_text T2 (vO ?_);cases hk:dA D k with|none=>rw[hk] at q2;exact⟨.aU,H2,I2.tok _,rfl,q2⟩|some i=>rw[hk] at q2;exact λt=>⟨.int i,H2,I2.tok _,⟨t,rfl⟩,q2⟩
end
end L2
namespace L2
open PySem PySem.Spec PyProof.Rows PySem.SeqAt
open PySem.AutoSeq1 (wpAny_loadPart')
section
variable{X:Cx}
theorem any_range(bs:List Bool):(Q0 bs.length).any (λi=>bs.getD i Λ)=bs.any id:=by
 rw[Bool.eq_iff_iff];simp only[Sm,List.mem_range,id];constructor;·rintro⟨i,hi,h⟩;rw[Q4,PV hi] at h;exact⟨bs[i],Uo hi,by simpa using h⟩
 ·rintro⟨b,hb,h⟩;obtain⟨i,hi,e⟩:=List.mem_iff_getElem.mp hb;refine⟨i,hi,?_⟩;rw[Q4,PV hi];simpa[e] using h
theorem w8(hc:X.calm=Λ):cY X (.builtin "any") (λxs H Q=>∃(p:Addr) (bs:List Bool),xs=[.ref p]/\gZ X.K H p (bs.map V.bl)/\Q (.bl (bs.any id)) H):=by
 intro η s σ H xs us Q I r h;obtain⟨p,bs,rfl,hq,q⟩:=h;obtain⟨u,rfl,rx⟩:=vals1 r;cases rx;obtain⟨aD,rv,pl,hz⟩:=I.list hq;have hl:=rv.length;rw[PX] at hl;have fH:p < s.heap.objs.size:=by obtain⟨o,n,e,_⟩:=pl;exact PK e
 refine call_any_walk (wpAny_pyIter_list pl.isList ?_);refine⟨s.heap.objs.size,_,_,aD.toArray.size,_,_,λi=>bs.getD i Λ,rfl,Walks.list (A:=X.A.in1) (show X.A.in1.handled=Θ from I.ok.hd hc) s.heap.objs.size p (Qe fH) aD.toArray,⟨⟨_,PR _ rfl,rfl,rfl⟩,?_⟩,?_,?_⟩;·obtain⟨o,e,c⟩:=pl.isList;exact⟨o,Px _ e,c⟩
 ·intro i v s' Q' E' hP hQ;have hP':aD[i]?=Δ v:=by simpa using hP
  have hi:i < aD.length:=(qqz hP').1;have hb:(bs.map V.bl)[i]?=Δ (V.bl (bs.getD i Λ)):=by rw[Qa,PV (by lia),Q4,PV (by lia)];rfl
  obtain⟨u,hu,ru⟩:=rv.get hb;rw[hP'] at hu;cases hu;cases ru;exact QN hQ
 ·intro h' tk hk;refine⟨.bl (bs.any id),H,I.kept (t':=tk) (λb o e=>hk b o (by simpa using Qe (PK e)) (Px _ e)),?_,q⟩;show Sw _=Sw _;rw[PF,<-hl,any_range]
theorem kT(hd:(d==QZ)=Ξ)(ho:∀s:PJ,s.heap.get? d=Δ o->True):
  MeetsIn prog w (R1.«dict.__len__» ⟨[.ref d],[]⟩) (λ_ R s=>(s.heap.get? d=Δ o/\o.ExactDict/\o.data=.dict es ep)/\R (.ok (.ret (.int es.size s.toks))) {s with toks:=s.toks+1}):=
 .of_wp λA R s ⟨⟨ho,hc,EJ⟩,h⟩=>by show wpAny _ _ (dictSize d >>=_) _ _ s;unfold dictSize;refine Pu (Pu (wpAny_dictEntries ho EJ (Py ?_)));show wpAny _ _ (R1.Dict.pendingCount d >>=_) _ _ s;refine Pu (wpAny_pendingCount_other hd ?_);refine wpAny_ret_mkInt ?_;rw[Nat.add_zero];exact h
theorem pP(hd:(d==QZ)=Ξ)(ho:s.heap.get? d=Δ o)(hc:o.ExactDict)(EJ:o.data=.dict es ep)(hfit:(es.size:Int) < 2 ^ 63)(h:Q (.int es.size (s.toks+1)) {s with toks:=s.toks+1+1}):wpAny (model prog w) A (call (.builtin "len") [.ref d]) Q E s:=by
 have hT:s.TypeIs (.ref d) "dict":=⟨o,ho,hc.1⟩;refine Calls.call_function_entry kind_len plain_len entry_len (args_len1 _) ?_;unfold R1.«len»;refine Pu (m:=oneArg "len" _) (Py ?_);refine Pu (m:=callSpecial? (.ref d) (Qg "__len__")) (Qp (name:=Qg "__len__") hT F.slot_dict_len
  (Tp F.slot_dict_len hT F.entry_dict_len (F.args_dict_len_1 _) (kT (o:=o) (es:=es) (ep:=ep) hd λ_ _=>trivial) ⟨⟨ho,hc,EJ⟩,?_⟩))
 show wpAny _ _ _ _ _ {s with toks:=s.toks+1};refine Pu (Qu (Py ?_));refine Pu (TR ?_);show wpAny _ _ (if((es.size:Nat):Int) < 0 then _ else _) _ _ _;rw[if_neg (by lia)];show wpAny _ _ (if((es.size:Nat):Int)>=2 ^ 63 then _ else _) _ _ _;rw[if_neg (by lia)];exact Pu (wpAny_mkInt (Py ⟨_,rfl,h⟩))
def Je(H:Hp)(a:Addr)(n:Nat):Prop:=(∃kvs,Rd H a (.dK kvs)/\kvs.length=n)\/∃kvs,Rd H a (.dT kvs)/\kvs.length=n
theorem pQ:cY X (.builtin "len") (λxs H Q=>∃p n,xs=[.ref p]/\Je H p n/\Q (.int n) H):=by
 intro η s σ H xs us Q I r h;obtain⟨p,n,rfl,hd,q⟩:=h;obtain⟨u,rfl,rx⟩:=vals1 r;cases rx;rcases hd with ⟨kvs,e,rfl⟩|⟨kvs,e,rfl⟩
 ·exact IY I e λt s' I'=>⟨.int kvs.length,H,I',⟨t,rfl⟩,q⟩
 ·obtain⟨z,hd,xs,rel,o,es,ep,h1,h2,h3,h4,_⟩:=kz I.aQ e;have hl:es.size=kvs.length:=by
   have:es.toList.length=xs.length:=by rw[h4,PX]
   rw[<-Q8,this,<-rel.length]
  refine pP hd h1 h2 h3 (by rw[QG] at z;lia) ?_;rw[hl];exact⟨.int kvs.length,H,I.tok _,⟨_,rfl⟩,q⟩
theorem ji(hT:pA.TypeIs o "dict")(iJ:wpAny (model prog w) A (Sg o i) Q E pA)(hs:UN slice Ξ o i=operate [o,i] (Sg o i)):wpAny (model prog w) A (S8 value slice o i) Q E pA:=by
 unfold S8;refine Pu ?_;rw[getitemInPython_of_ne hT.not_modules];refine Pu (UE hT PySem.F.slot_dict_getitem.lookup ?_);have fin:wpAny (model prog w) A (UN slice Ξ o i) (λr BJ=>wpAny (model prog w) A (letTemporaryGo value o r >>=λ_=>pure r) Q E BJ) E pA:=by rw[hs];exact wpAny_operating (QY iJ (λr BJ gg=>Pu (wpAny_letTemporaryGo (Py gg))) λ_ _ x=>x)
 first
  |exact Py (Pu fin)
  |exact Pu (Py (Pu fin))
  |exact Pu fin
theorem rD:cY X (.type "range") (λxs H Q=>∃lo hi,(xs=[.int lo,.int hi]\/(lo=0/\xs=[.int hi]))/\∀p,H p=Θ->Q (.ref p) (upd H p (.gd lo hi))):=by
 intro η s σ H xs us Q I r h;obtain⟨lo,hi,hx,q⟩:=h;rcases hx with rfl|⟨rfl,rfl⟩;·obtain⟨u,w',rfl,rx,ry⟩:=vals2 r;obtain⟨t,rfl⟩:=rx;obtain⟨t',rfl⟩:=ry;refine call_range_2 ⟨.ref s.heap.objs.size,_,I.laid (a:=s.heap.objs.size) (o:=.gd lo hi) (λb o e=>Px _ e) (PH _) ⟨_,_,_,PR _ rfl⟩,rfl,q _ (I.aQ.fresh (PH _))⟩
 ·obtain⟨u,rfl,rx⟩:=vals1 r;obtain⟨t,rfl⟩:=rx;refine call_range_1 ⟨.ref s.heap.objs.size,_,I.laid (a:=s.heap.objs.size) (o:=.gd 0 hi) (λb o e=>Px _ e) (PH _) ⟨_,_,_,PR _ rfl⟩,rfl,q _ (I.aQ.fresh (PH _))⟩
noncomputable def uo(lo:Int)(n:Nat):List V:=(Q0 n).map λk=>.int (lo+(k:Nat))
theorem y4{lo:Int}:∀{acc} {n},acc.length=n->(∀(j:Nat) v,acc[j]?=Δ v->∃t,v=.int (lo+j*1) t)->aL (uo lo n) acc:=by
 intro acc n hl h
 suffices ∀(k:Nat) (dU:List Value),dU.length+k=n->(∀(j:Nat) v,dU[j]?=Δ v->∃t,v=.int (lo+((k+j:Nat):Int)) t)->aL ((List.range' k dU.length).map λi=>V.int (lo+(i:Nat))) dU by
  have q:=this 0 acc (by lia) λj v hj=>by obtain⟨t,e⟩:=h j v hj;exact⟨t,by rw[e];congr 1<;>simp⟩
  unfold uo;rw[List.range_eq_range',<-hl];exact q
 intro k dU;induction dU generalizing k with
 |nil=>intro _ _;exact .nil|cons x xs ih=>
  intro hn hx;rw[PU,List.range'_succ,Qq];refine .cons ?_ ?_;·obtain⟨t,e⟩:=hx 0 x rfl;exact⟨t,by rw[e];simp⟩
  ·refine ih (k+1) (by rw[PU] at hn;lia) λj v hj=>?_;obtain⟨t,e⟩:=hx (j+1) v (by simpa using hj);exact⟨t,by rw[e];congr 1;lia⟩
theorem nD(hc:X.calm=Λ):cY X (.type "list") (λxs H Q=>∃p lo hi,xs=[.ref p]/\H p=Δ (.gd lo hi)/\(-(2 ^ 62)<=lo/\lo < 2 ^ 62/\ -(2 ^ 62)<=hi/\hi < 2 ^ 62)/\(hi - lo).toNat<=PQ/\
  ∀l,H l=Θ->Q (.ref l) (upd H l (.lst (uo lo (hi - lo).toNat)))):=by
 intro η s σ H xs us Q I r h;obtain⟨p,lo,hi,rfl,hp,⟨h1,h2,h3,h4⟩,hz,q⟩:=h;obtain⟨u,rfl,rx⟩:=vals1 r;cases rx;obtain⟨t,u,v,e⟩:=(show bA X.prog X.w H s.heap p (.gd lo hi) from I.aQ p _ hp);refine call_list_range (n:=(hi - lo).toNat) (I.ok.hd hc) (show IsRange s.heap p lo hi 1 t u v from e) (small_one h1 h2 h3 h4) (by rw[rangeSize_one];split<;>lia) (by rw[QG] at hz;lia) λh' tk dU c' hk hS BK=>?_;obtain⟨i1,i2⟩:=BK;have hv:aL (uo lo (hi - lo).toNat) dU.toList:=y4 (by rw[Q8];exact i1) λj v hj=>i2 j v (by simpa using hj);have hlen:=hv.length;refine⟨.ref s.heap.objs.size,_,I.laid (a:=s.heap.objs.size) (o:=.lst (uo lo (hi - lo).toNat)) (t':=tk) hk (PH _) ⟨by unfold uo;rw[PX,Ro];exact hz,dU.toList,c',hv,by simpa using hS⟩,rfl,q _ (I.aQ.fresh (PH _))⟩
theorem uq l items n d sl u(iZ:¬items.isEmpty=Λ)(hz:items.size*3<=1000000):
  Meets (R1.«tuple.__mul__» ⟨[.ref l,.int 3 u],[]⟩) (λ_ R s=>s.heap.get? l=Δ {cls:=.type "tuple",dict:=d,data:=.seq items n,slots:=sl}/\
   R (.ok (.ret (PZ s.heap.objs.size))) {s with heap:=s.heap.push {cls:=R0 "tuple",data:=Data.seq (#[]++items++items++items)},toks:=s.toks}):=
 .of_wp λprog w A R s h=>by
  obtain⟨hp,g,dr,tk,os⟩:=s;obtain⟨hl,h⟩:=h;have f1:=Us;have h1:¬((items.size:Int)*3 > (2 ^ 63 - 1) / 8):=by lia
  have h2:¬QI ((items.size:Int)*3)=Λ:=by
   unfold QI;simp[PQ]
   lia
  have h3:(items.isEmpty||(3:Int)==1)=Ξ:=by simpa using iZ
  have h4:((3:Int)<=0||items.isEmpty)=Ξ:=by simpa using iZ
  wp_walk using QW hl
  rw[if_neg h1];show wpAny _ _ (if QI ((items.size:Int)*3)=Λ then _ else _) _ _ _;rw[if_neg h2];have hsz:sizeOk (.seq (S6 (λx1 x2=>x1++x2) #[] (Qo (Uq 3) items))):=by
   show(S6 (λx1 x2=>x1++x2) #[] (Qo (Uq 3) items)).size<=PQ;show(#[]++items++items++items).size<=PQ;simp[PQ]
   lia
  show wpAny _ _ (Qf (S6 (λx1 x2=>x1++x2) #[] (Qo (Uq 3) items)) >>=λv=>ret v) _ _ _;exact Pu (m:=Qf _) (Qt (Py ⟨_,rfl,h⟩) hsz)
def Dp:R2:=λx y H Q=>∃a xs,x=.ref a/\y=.int 3/\H a=Δ (.tup xs)/\xs≠[]/\xs.length<=100000/\∀p,H p=Θ->Q (.ref p) (upd H p (.tup (xs++xs++xs)))
theorem y6:fg X (Rl .Mult) Dp:=by
 intro η s σ H x y v u Q I rx ry h;obtain⟨a,xs,rfl,rfl,ha,iZ,hz,q⟩:=h;cases rx;obtain⟨t,rfl⟩:=ry;obtain⟨aD,r,ht,hz'⟩:=I.tuple (de.of ha);have hl:=r.length;obtain⟨⟨cls,dd,data,sl⟩,ho,hc,n,hd⟩:=id ht;simp only at hc hd;subst hc hd;have EH:¬aD.toArray.isEmpty=Λ:=by
  intro z;have:aD=[]:=by simpa using z
  exact iZ (r.ja.mp this)
 refine Sn (T:="tuple") (U:="int") (by decide) ⟨_,ho,rfl⟩ (λs'=>S2 s' 3 t) dz SX Rc fQ PySem.F.slot_int_index.lookup
  (RK Rc (S2 s 3 t) SQ (SF _ _) (eA 3 t a aD.toArray n dd sl)
   ⟨ho,rfl,⟨_,ho,rfl⟩,RK SN ⟨_,ho,rfl⟩ SA (Sq _ _)
    (uq a aD.toArray n dd sl t EH (by rw[PF];lia)) ⟨ho,?_⟩⟩)
 refine⟨.ref s.heap.objs.size,_,I.laid (t':=s.toks) (o:=.tup (xs++xs++xs)) (λb ob q=>Px _ q) (PH _) ?_,rfl,q _ (I.aQ.fresh (PH _))⟩;refine⟨by rw[Qh,Qh,QG];lia,aD++aD++aD,(r.append r).append r,?_⟩;have e:(#[]++aD.toArray++aD.toArray++aD.toArray:Array Value)=(aD++aD++aD).toArray:=by simp
 rw[e];exact Up _ _
theorem ur l items n d sl u:
  Meets (R1.«tuple.__mul__» ⟨[.ref l,.int 1 u],[]⟩) (λ_ R s=>s.heap.get? l=Δ {cls:=.type "tuple",dict:=d,data:=.seq items n,slots:=sl}/\R (.ok (.ret (PZ l))) s):=
 .of_wp λprog w A R s h=>by
  obtain⟨hp,g,dr,tk,os⟩:=s;obtain⟨hl,h⟩:=h;have f1:=Us;have h3:(items.isEmpty||(1:Int)==1)=Λ:=by simp
  wp_walk using QW hl
  all_goals exact⟨_,rfl,h⟩
def Dq:R2:=λx y H Q=>∃a xs,x=.ref a/\y=.int 1/\H a=Δ (.tup xs)/\Q (.ref a) H
theorem y8:fg X (Rl .Mult) Dq:=by
 intro η s σ H x y v u Q I rx ry h;obtain⟨a,xs,rfl,rfl,ha,q⟩:=h;cases rx;obtain⟨t,rfl⟩:=ry;obtain⟨aD,r,ht,hz'⟩:=I.tuple (de.of ha);obtain⟨⟨cls,dd,data,sl⟩,ho,hc,n,hd⟩:=id ht;simp only at hc hd;subst hc hd;refine Sn (T:="tuple") (U:="int") (by decide) ⟨_,ho,rfl⟩ (λs'=>S2 s' 1 t) dz SX Rc fQ PySem.F.slot_int_index.lookup
  (RK Rc (S2 s 1 t) SQ (SF _ _) (eA 1 t a aD.toArray n dd sl)
   ⟨ho,rfl,⟨_,ho,rfl⟩,RK SN ⟨_,ho,rfl⟩ SA (Sq _ _)
    (ur a aD.toArray n dd sl t) ⟨ho,?_⟩⟩)
 exact⟨.ref a,H,I,rfl,q⟩
end
end L2
namespace L2
open PySem PySem.Spec PyProof.Rows
section
variable{X:Cx}{elt iter tg:Expr}{ifs:List Expr}{sc:Scope}{pos:Pos}{N:List Str}{ts:Nat}{js:List Nat}{wi:TI}{g:TG}{tc:TT}{te:TE}
end
section
variable{prog:Qr}{w:World}{A:QJ}{E:Value->PJ->Prop}{s:PJ}
theorem jj{items}(hit:s.heap.IsTupleIter it t i)(ht:s.heap.IsTuple t items)(hx:items[i]?=Δ x)(hQ:∀h',h'.IsTupleIter it t (i+1)->Q5 it s.heap h'->Q x {s with heap:=h'}):
  wpAny (model prog w) A (Qb (.ref it)) Q E s:=by
 obtain⟨o,ho,hc,hd⟩:=id hit;obtain⟨ol,Nn,_,nl,Np⟩:=ht;unfold Qb;refine Pu (Qp (name:=Qg "__next__") hit.typeIs Q3
  (QF Q3 hit.typeIs PySem.F.entry_tuple_iterator_next ?_ (PySem.F.args_tuple_iterator_next_1 _)))
 show wpAny _ _ (field (.ref it) 0 >>=_) _ _ s;refine Pu (Qs ho hd (x:=.ref t) rfl ?_);show wpAny _ _ (if(PZ t==Ry)=Λ then _ else _) _ _ s;rw[if_neg (show ¬((PZ t==Ry)=Λ) from Ql)];show wpAny _ _ (field (.ref it) 1 >>=_) _ _ s;refine Pu (Qs ho hd (x:=.int i 0) rfl ?_);show wpAny _ _ (seqItems? (.ref t) >>=_) _ _ s;refine Pu (Rk Nn Np ?_);simp only[T5,hx];refine Pu (UM ho hd (by simp) (Py ⟨x,rfl,Py (hQ _ ?_ (Q5.update ..))⟩));exact⟨_,QR _ ho (Obj.isFreed_of_fields (Sx hd _)),(Obj.cls_mapFields ..).trans hc,by rw[Sx hd];simp[U5]⟩
theorem fm{items}(hh:A.handled=Θ)(hit:s.heap.IsTupleIter it t i)(ht:s.heap.IsTuple t items)(hx:items[i]?=Θ)(hE:∀h' e,Heap.ExtBut it s.heap h'->(∃o,h'.get? e=Δ o/\o.cls=.type "StopIteration")->E (.ref e) {s with heap:=h'}):
  wpAny (model prog w) A (Qb (.ref it)) Q E s:=by
 obtain⟨o,ho,hc,hd⟩:=id hit;obtain⟨ol,Nn,_,nl,Np⟩:=ht;unfold Qb;refine Pu (Qp (name:=Qg "__next__") hit.typeIs Q3
  (QF Q3 hit.typeIs PySem.F.entry_tuple_iterator_next ?_ (PySem.F.args_tuple_iterator_next_1 _)))
 show wpAny _ _ (field (.ref it) 0 >>=_) _ _ s;refine Pu (Qs ho hd (x:=.ref t) rfl ?_);show wpAny _ _ (if(PZ t==Ry)=Λ then _ else _) _ _ s;rw[if_neg (show ¬((PZ t==Ry)=Λ) from Ql)];show wpAny _ _ (field (.ref it) 1 >>=_) _ _ s;refine Pu (Qs ho hd (x:=.int i 0) rfl ?_);show wpAny _ _ (seqItems? (.ref t) >>=_) _ _ s;refine Pu (Rk Nn Np ?_);simp only[T5,hx];refine Pu (Su (Pu (UM ho hd (by simp) ?_)));show wpAny _ _ (newExc (.type "StopIteration") [] >>=_) _ _ _;refine Pu ?_;simp only[newExc,newTuple];refine Pu (Qt ?_ (by size_fits));refine Pu (m:=firstArgMember _ _) (Vn (a:=Ry) (by first|rfl|(simp only[firstArgMember];rfl)) ?_);refine Qt ?_ (by size_fits);simp only[raiseNew];refine Pu (wpAny_handled ?_);first|rw[show A.in1.handled=Θ from hh]|rw[hh]
 refine Pu (Py (wpAny_throw ?_));exact hE _ _ (((Q5.update ..).extBut.push _).push _) ⟨_,PR _ rfl,rfl⟩
end
theorem gr{prog:Qr}{w:World}{A:QJ}(hh:A.handled=Θ)(it l:Addr)(iZ:l≠it)(items:Array Value):
  Draws prog w A it [it,l] items.size (λi v=>items[i]?=Δ v) (λi h=>h.IsTupleIter it l i/\h.IsTuple l items) where
 live:=λ_ _ st=>let ⟨o,ho,_⟩:=st.1;⟨o,ho⟩
 frame:=λ_ _ _ st hk=>⟨st.1.at λo e=>hk it (by simp) o e,let ⟨o,ho,r⟩:=st.2;⟨o,hk l (by simp) o ho,r⟩⟩
 item:=λi s Q E hi st hQ=>by refine jj st.1 st.2 (x:=items[i]) (by simp[hi]) λh' Nq yj=>?_;exact hQ _ h' s.toks (by simp[hi]) ⟨Nq,st.2.extBut yj.extBut iZ⟩ yj
 done:=λs Q E st hE=>fm hh st.1 st.2 (by simp) hE
abbrev qH(h:Heap)(z TI TO:Addr)(f0 f1:Value):Prop:=
 h.get? z=Δ {cls:=.type "zip",dict:=Θ,data:=.fields #[f0,f1,.bool Ξ,.ref TI,.ref TO],slots:=#[]}
noncomputable def ZF(f0 f1:Value):Prop:=(f0=.none\/∃(T:Int) (t:Tok),f0=.int T t)/\∃b,f1=.bool b
structure BL(z TI TO i1 i2:Addr)(jZ j4:List Addr):Prop where
 TIz:TI≠z
 TOz:TO≠z
 i1z:i1≠z
 i2z:i2≠z
 TITO:TI≠TO
 TIi1:TI≠i1
 TIi2:TI≠i2
 TOi1:TO≠i1
 TOi2:TO≠i2
 i12:i1≠i2
 z1:z∉jZ
 z2:z∉j4
 T1:TO∉jZ
 T2:TO∉j4
 x1:i2∉jZ
 x2:i1∉j4
section
variable{prog:Qr}{w:World}{A:QJ}{E:Value->PJ->Prop}{s:PJ}{z TI TO i1 i2:Addr}{jZ j4:List Addr}{n1 n2:Nat}{P1 P2:Nat->Value->Prop}{nE nG:Nat->Heap->Prop}
theorem rE(h:Q (s.heap.get? a) s):wpAny M A (loadIfAlive a) Q E s:=λΓ p _=>by unfold loadIfAlive;rw[Sem.wp_loadIfAlive];exact Py (M:=M) (A:=A) (E:=E) (Q:=Q) h Γ p (by assumption)
theorem Dr(hf:ZF f0 f1)(hz:qH s.heap z TI TO f0 f1)(h1:Q Λ s)(h2:∀h',qH h' z TI TO f0 (.bool Λ)->Q5 z s.heap h'->Q Ξ {s with heap:=h'}):
  wpAny (model prog w) A (QV (.ref z)) Q E s:=by
 unfold QV;refine Pu (Qs hz rfl (x:=f0) rfl ?_);obtain⟨hf0,b,rfl⟩:=hf;rcases hf0 with rfl|⟨T,t,rfl⟩;·exact Py h1
 ·dsimp only;refine Pu (rE ?_);cases s.heap.get? T.toNat with|none=>exact Py h1|some o=>show wpAny _ _ (field (.ref z) 1 >>=_) _ _ _;refine Pu (Qs hz rfl (x:=.bool b) rfl ?_);cases b with|true=>exact Py (h2 s.heap hz ⟨rfl,λ_ _=>rfl⟩)|false=>show wpAny _ _ (setField (.ref z) 1 (.bool Λ) >>=_) _ _ _;exact Pu (Rf hz (by simp) λfR fq cO=>Py (h2 fR fq cO))
theorem y9(D1:Draws prog w A i1 jZ n1 P1 nE)(D2:Draws prog w A i2 j4 n2 P2 nG)(ap:BL z TI TO i1 i2 jZ j4){Q:Value->PJ->Prop}(hf:ZF f0 f1)(hz:qH s.heap z TI TO f0 f1)(EK:RA s.heap TI (.ref i1) (.ref i2))(Ds:RA s.heap TO a b)(AY:k < n1)(Dt:k < n2)(h1:nE k s.heap)(h2:nG k s.heap)(hQ:∀h' tk T x y f0 f1 a b,ZF f0 f1->qH h' z TI TO f0 f1->RA h' TO a b->nE (k+1) h'->nG (k+1) h'->P1 k x->P2 k y->s.heap.objs.size<=T->RA h' T x y->
   (∀c o,c≠z->c≠TO->c≠i1->c≠i2->s.heap.get? c=Δ o->h'.get? c=Δ o)->Q (.ref T) {s with heap:=h',toks:=tk}):
  wpAny (model prog w) A (R1.«zip.__next__» ⟨[.ref z],[]⟩) (λfin s'=>∃v,fin=.done (.ret v)/\Q v s') E s:=by
 show wpAny _ _ (field (.ref z) 2 >>=_) _ _ _;refine Pu (Qs hz rfl (x:=.bool Ξ) rfl ?_);show wpAny _ _ (field (.ref z) 3 >>=_) _ _ _;refine Pu (Qs hz rfl (x:=.ref TI) rfl ?_);refine Pu (Rk EK rfl ?_);show wpAny _ _ (QV (.ref z) >>=_) _ _ _;refine Pu (Dr hf hz ?_ ?_)
 ·simp only[if_true];refine Pu (Su ?_);refine Pu (Qs hz rfl (x:=.ref TO) rfl ?_);refine Pu (Rf hz (by simp) λfR fq cO=>?_);replace fq:qH fR z TI TO .ellipsis f1:=fq;refine Pu ?_;simp only[List.zipIdx_cons,List.zipIdx_nil,R5,SU];refine Pu (Pu (T7 ?_));show wpAny _ _ (Qb (.ref i1) >>=_) _ _ _;refine Pu (D1.item k _ _ _ AY (D1.frame k _ fR h1 λc hc o e=>cO.extBut _ _ (λx=>ap.z1 (x▸hc)) e) λx iJ Jf px rF cP=>Py ?_);have l0:RA iJ TO a b:=cP.extBut _ _ ap.TOi1 (cO.extBut _ _ ap.TOz Ds);refine Pu (Rk l0 rfl ?_);refine Pu (S9 l0 λgg pR dv=>?_);replace pR:RA gg TO x b:=pR;refine Pu (TR (Py ?_));refine Pu (Pu (T7 ?_));show wpAny _ _ (Qb (.ref i2) >>=_) _ _ _;have k3:∀c o,c≠z->c≠TO->c≠i1->s.heap.get? c=Δ o->gg.get? c=Δ o:=λc o c1 c2 c3 e=>dv.extBut _ _ c2 (cP.extBut _ _ c3 (cO.extBut _ _ c1 e));refine Pu (D2.item k _ _ _ Dt (D2.frame k _ gg h2 λc hc o e=>k3 c o (λx=>ap.z2 (x▸hc)) (λx=>ap.T2 (x▸hc)) (λx=>ap.x2 (x▸hc)) e) λy BM tk4 py Jg kC=>Py ?_);have zc:RA BM TO x b:=kC.extBut _ _ ap.TOi2 pR;refine Pu (Rk zc rfl ?_);refine Pu (S9 zc λjk pS kD=>?_);replace pS:RA jk TO x y:=pS;refine Pu (TR (Py (Py ?_)));refine Pu (Rk pS rfl ?_);refine Pu (wpAny_newTuple ?_);have hsz:jk.objs.size=s.heap.objs.size:=by rw[kD.1,kC.1,dv.1,cP.1,cO.1]
  have Du:qH jk z TI TO .ellipsis f1:=kD.extBut _ _ ap.TOz.symm (kC.extBut _ _ ap.i2z.symm (dv.extBut _ _ ap.TOz.symm (cP.extBut _ _ ap.i1z.symm fq)));have Jh:∀c o,c≠z->c≠TO->c≠i1->c≠i2->s.heap.get? c=Δ o->jk.get? c=Δ o:=λc o c1 c2 c3 c4 e=>kD.extBut _ _ c2 (kC.extBut _ _ c4 (k3 c o c1 c2 c3 e));have Ji:z < jk.objs.size:=PK Du;show wpAny _ _ (R1.SmallTypes.ownedTupleHandOut (.ref z) (.ref jk.objs.size) >>=_) _ _ _;refine Pu ?_;unfold R1.SmallTypes.ownedTupleHandOut;have Jj:qH (jk.push {cls:=.type "tuple",data:=.seq #[x,y]}) z TI TO .ellipsis f1:=Px _ Du;refine Pu (Rf Jj (by simp) λNr zd Dv=>?_);replace zd:qH Nr z TI TO (U5 jk.objs.size) f1:=zd;refine Rf zd (by simp) λw9 ze Dw=>?_;replace ze:qH w9 z TI TO (U5 jk.objs.size) (.bool Ξ):=ze;have up:∀c o,c≠z->jk.get? c=Δ o->w9.get? c=Δ o:=λc o c1 e=>Dw.extBut _ _ c1 (Dv.extBut _ _ c1 (Px _ e));have Jk:RA w9 jk.objs.size x y:=Dw.extBut _ _ (QX Ji) (Dv.extBut _ _ (QX Ji) (PR _ rfl));refine Py ⟨_,rfl,?_⟩;refine hQ w9 _ jk.objs.size x y _ _ x y ⟨.inr ⟨_,_,rfl⟩,Ξ,rfl⟩ ze (up _ _ ap.TOz pS) (D1.frame _ iJ w9 rF λc hc o e=>?_) (D2.frame _ BM w9 Jg λc hc o e=>?_) px py (by rw[hsz];exact PH _) Jk λc o c1 c2 c3 c4 e=>up c o c1 (Jh c o c1 c2 c3 c4 e);·exact up c o (λx=>ap.z1 (x▸hc)) (kD.extBut _ _ (λx=>ap.T1 (x▸hc)) (kC.extBut _ _ (λx=>ap.x1 (x▸hc)) (dv.extBut _ _ (λx=>ap.T1 (x▸hc)) e)))
  ·exact up c o (λx=>ap.z2 (x▸hc)) (kD.extBut _ _ (λx=>ap.T2 (x▸hc)) e)
 ·intro fR fq cO;simp only[QD,if_false,List.forIn_toArray,R5,SU];refine Pu ?_;refine Pu ?_;refine Pu ?_;refine Qu ?_;show wpAny _ _ (Qb (.ref i1) >>=_) _ _ _;refine Pu (D1.item k _ _ _ AY (D1.frame k _ fR h1 λc hc o e=>cO.extBut _ _ (λx=>ap.z1 (x▸hc)) e) λx iJ Jf px rF cP=>Py ?_);refine Py ?_;refine Pu ?_;refine Pu ?_;refine Qu ?_;show wpAny _ _ (Qb (.ref i2) >>=_) _ _ _;refine Pu (D2.item k _ _ _ Dt (D2.frame k _ iJ h2 λc hc o e=>cP.extBut _ _ (λx=>ap.x2 (x▸hc)) (cO.extBut _ _ (λx=>ap.z2 (x▸hc)) e)) λy gg tk3 py Jl dv=>Py ?_);refine Py ?_;refine Py ?_;show wpAny _ _ (newTuple [x,y] >>=_) _ _ _;refine Pu (wpAny_newTuple (items:=[x,y]) ?_);have hsz:gg.objs.size=s.heap.objs.size:=by rw[dv.1,cP.1,cO.1]
  have up:∀c o,gg.get? c=Δ o->(gg.push {cls:=.type "tuple",data:=.seq #[x,y]}).get? c=Δ o:=λc o e=>Px _ e;refine Py ⟨_,rfl,?_⟩;refine hQ _ _ gg.objs.size x y f0 (.bool Λ) a b ⟨hf.1,Λ,rfl⟩ (up _ _ (dv.extBut _ _ ap.i2z.symm (cP.extBut _ _ ap.i1z.symm fq))) (up _ _ (dv.extBut _ _ ap.TOi2 (cP.extBut _ _ ap.TOi1 (cO.extBut _ _ ap.TOz Ds))))
   (D1.frame _ iJ _ rF λc hc o e=>up _ _ (dv.extBut _ _ (λx=>ap.x1 (x▸hc)) e)) (D2.frame _ gg _ Jl λc hc o e=>up _ _ e) px py (by rw[hsz];exact PH _) (PR _ rfl) λc o c1 c2 c3 c4 e=>up _ _ (dv.extBut _ _ c4 (cP.extBut _ _ c3 (cO.extBut _ _ c1 e)))
theorem zf(D1:Draws prog w A i1 jZ n1 P1 nE)(D2:Draws prog w A i2 j4 n2 P2 nG)(ap:BL z TI TO i1 i2 jZ j4)(hf:ZF f0 f1)(hz:qH s.heap z TI TO f0 f1)(EK:RA s.heap TI (.ref i1) (.ref i2))(Ds:RA s.heap TO a b)(hk:k=n1\/(k < n1/\k=n2))(h1:nE k s.heap)(h2:nG k s.heap)(hE:∀h' tk e,(∀c o,c≠z->c≠TO->c≠i1->c≠i2->s.heap.get? c=Δ o->h'.get? c=Δ o)->(∃o,h'.get? e=Δ o/\o.cls=.type "StopIteration")->E (.ref e) {s with heap:=h',toks:=tk}):
  wpAny (model prog w) A (R1.«zip.__next__» ⟨[.ref z],[]⟩) Q E s:=by
 show wpAny _ _ (field (.ref z) 2 >>=_) _ _ _;refine Pu (Qs hz rfl (x:=.bool Ξ) rfl ?_);show wpAny _ _ (field (.ref z) 3 >>=_) _ _ _;refine Pu (Qs hz rfl (x:=.ref TI) rfl ?_);refine Pu (Rk EK rfl ?_);show wpAny _ _ (QV (.ref z) >>=_) _ _ _;refine Pu (Dr hf hz ?_ ?_)
 ·simp only[if_true];refine Pu (Su ?_);refine Pu (Qs hz rfl (x:=.ref TO) rfl ?_);refine Pu (Rf hz (by simp) λfR fq cO=>?_);replace fq:qH fR z TI TO .ellipsis f1:=fq;refine Pu ?_;simp only[List.zipIdx_cons,List.zipIdx_nil,R5,SU];refine Pu (Pu (T7 ?_));show wpAny _ _ (Qb (.ref i1) >>=_) _ _ _;have rG:=D1.frame k _ fR h1 λc hc o e=>cO.extBut _ _ (λx=>ap.z1 (x▸hc)) e;rcases hk with rfl|⟨hk,rfl⟩
  ·refine Pu (D1.done _ _ _ rG λiJ e cP he=>?_);obtain⟨oe,EL,Jm⟩:=he;have Dx:qH iJ z TI TO .ellipsis f1:=cP _ _ ap.i1z.symm fq;have Nt:e≠z:=λx=>by subst x;rw[Dx] at EL;cases EL;simp at Jm
   exact Rf Dx (by simp) λgg _ dv=>hE gg s.toks e (λc o c1 _ c3 _ x=>dv.extBut _ _ c1 (cP _ _ c3 (cO.extBut _ _ c1 x))) ⟨oe,dv.extBut _ _ Nt EL,Jm⟩
  ·refine Pu (D1.item k _ _ _ hk rG λx iJ Jf px rF cP=>Py ?_);have l0:RA iJ TO a b:=cP.extBut _ _ ap.TOi1 (cO.extBut _ _ ap.TOz Ds);refine Pu (Rk l0 rfl ?_);refine Pu (S9 l0 λgg pR dv=>?_);refine Pu (TR (Py ?_));refine Pu (Pu (T7 ?_));show wpAny _ _ (Qb (.ref i2) >>=_) _ _ _;have k3:∀c o,c≠z->c≠TO->c≠i1->s.heap.get? c=Δ o->gg.get? c=Δ o:=λc o c1 c2 c3 e=>dv.extBut _ _ c2 (cP.extBut _ _ c3 (cO.extBut _ _ c1 e));refine Pu (D2.done _ _ _ (D2.frame k _ gg h2 λc hc o e=>k3 c o (λx=>ap.z2 (x▸hc)) (λx=>ap.T2 (x▸hc)) (λx=>ap.x2 (x▸hc)) e) λBM e kC he=>?_);obtain⟨oe,EL,Jm⟩:=he;have Dy:qH BM z TI TO .ellipsis f1:=kC _ _ ap.i2z.symm (dv.extBut _ _ ap.TOz.symm (cP.extBut _ _ ap.i1z.symm fq));have Nt:e≠z:=λx=>by subst x;rw[Dy] at EL;cases EL;simp at Jm
   exact Rf Dy (by simp) λjk _ kD=>hE jk Jf e (λc o c1 c2 c3 c4 x=>kD.extBut _ _ c1 (kC _ _ c4 (k3 c o c1 c2 c3 x))) ⟨oe,kD.extBut _ _ Nt EL,Jm⟩
 ·intro fR fq cO;simp only[QD,if_false,List.forIn_toArray,R5,SU];refine Pu ?_;refine Pu ?_;refine Pu ?_;refine Qu ?_;show wpAny _ _ (Qb (.ref i1) >>=_) _ _ _;have rG:=D1.frame k _ fR h1 λc hc o e=>cO.extBut _ _ (λx=>ap.z1 (x▸hc)) e;rcases hk with rfl|⟨hk,rfl⟩;·exact Pu (D1.done _ _ _ rG λiJ e cP he=>hE iJ s.toks e (λc o c1 _ c3 _ x=>cP _ _ c3 (cO.extBut _ _ c1 x)) he)
  ·refine Pu (D1.item k _ _ _ hk rG λx iJ Jf px rF cP=>Py ?_);refine Py ?_;refine Pu ?_;refine Pu ?_;refine Qu ?_;show wpAny _ _ (Qb (.ref i2) >>=_) _ _ _;exact Pu (D2.done _ _ _ (D2.frame k _ iJ h2 λc hc o e=>cP.extBut _ _ (λx=>ap.x2 (x▸hc)) (cO.extBut _ _ (λx=>ap.z2 (x▸hc)) e)) λgg e dv he=>hE gg Jf e (λc o c1 _ c3 c4 x=>dv _ _ c4 (cP.extBut _ _ c3 (cO.extBut _ _ c1 x))) he)
theorem kU(D1:Draws prog w A.in1 i1 jZ n1 P1 nE)(D2:Draws prog w A.in1 i2 j4 n2 P2 nG)(ap:BL z TI TO i1 i2 jZ j4)(hf:ZF f0 f1)(hz:qH s.heap z TI TO f0 f1)(EK:RA s.heap TI (.ref i1) (.ref i2))(Ds:RA s.heap TO a b)(AY:k < n1)(Dt:k < n2)(h1:nE k s.heap)(h2:nG k s.heap)(hQ:∀h' tk T x y f0 f1 a b,ZF f0 f1->qH h' z TI TO f0 f1->RA h' TO a b->nE (k+1) h'->nG (k+1) h'->P1 k x->P2 k y->s.heap.objs.size<=T->RA h' T x y->
   (∀c o,c≠z->c≠TO->c≠i1->c≠i2->s.heap.get? c=Δ o->h'.get? c=Δ o)->Q (Δ (.ref T)) {s with heap:=h',toks:=tk}):wpAny (model prog w) A (T8 (.ref z)) Q E s:=by
 have hT:s.TypeIs (.ref z) "zip":=⟨_,hz,rfl⟩;unfold T8;exact Pu (R6 (Qp (name:=Qg "__next__") hT R7
  (QF R7 hT PySem.F.entry_zip_next
   (y9 D1 D2 ap hf hz EK Ds AY Dt h1 h2 λh' tk T x y f0 f1 a b c1 c2 c3 c4 c5 c6 c7 c8 c9 c10=>Py (hQ h' tk T x y f0 f1 a b c1 c2 c3 c4 c5 c6 c7 c8 c9 c10)) (PySem.F.args_zip_next_1 _))))
theorem kW(D1:Draws prog w A.in1 i1 jZ n1 P1 nE)(D2:Draws prog w A.in1 i2 j4 n2 P2 nG)(ap:BL z TI TO i1 i2 jZ j4)(hf:ZF f0 f1)(hz:qH s.heap z TI TO f0 f1)(EK:RA s.heap TI (.ref i1) (.ref i2))(Ds:RA s.heap TO a b)(hk:k=n1\/(k < n1/\k=n2))(h1:nE k s.heap)(h2:nG k s.heap)(hQ:∀h' tk,(∀c o,c≠z->c≠TO->c≠i1->c≠i2->s.heap.get? c=Δ o->h'.get? c=Δ o)->Q Θ {s with heap:=h',toks:=tk}):wpAny (model prog w) A (T8 (.ref z)) Q E s:=by
 have hT:s.TypeIs (.ref z) "zip":=⟨_,hz,rfl⟩;unfold T8;refine Pu (R6 (Qp (name:=Qg "__next__") hT R7
  (QF R7 hT PySem.F.entry_zip_next (zf D1 D2 ap hf hz EK Ds hk h1 h2 λh' tk e xa he=>?_) (PySem.F.args_zip_next_1 _))))
 obtain⟨o,ho,hc⟩:=he;refine Pu (Ug (T:="StopIteration") (b:=Λ) ⟨o,ho,hc⟩ UO ?_);exact Py (hQ _ _ xa)
def ZI(z TI TO i1 i2:Addr)(nE nG:Nat->Heap->Prop)(k:Nat)(h:Heap):Prop:=∃f0 f1 a b,ZF f0 f1/\qH h z TI TO f0 f1/\RA h TI (.ref i1) (.ref i2)/\RA h TO a b/\nE k h/\nG k h
theorem ZI.frame(ap:BL z TI TO i1 i2 jZ j4)(D1:Draws prog w A i1 jZ n1 P1 nE)(D2:Draws prog w A i2 j4 n2 P2 nG)(x:ZI z TI TO i1 i2 nE nG k h)(hk:∀b,(b=z\/b=TI\/b=TO\/b∈jZ\/b∈j4)->∀o,h.get? b=Δ o->h'.get? b=Δ o):ZI z TI TO i1 i2 nE nG k h':=by obtain⟨f0,f1,a,b,c1,c2,c3,c4,c5,c6⟩:=x;exact⟨f0,f1,a,b,c1,hk _ (.inl rfl) _ c2,hk _ (.inr (.inl rfl)) _ c3,hk _ (.inr (.inr (.inl rfl))) _ c4,D1.frame _ _ _ c5 λb hb=>hk b (.inr (.inr (.inr (.inl hb)))),D2.frame _ _ _ c6 λb hb=>hk b (.inr (.inr (.inr (.inr hb))))⟩
noncomputable def ZP(B:Nat)(bad:List Addr)(P1 P2:Nat->Value->Prop)(acc:Array Value)(k:Nat)(h:Heap):Prop:=acc.size=k/\(∀j v,acc[j]?=Δ v->∃T x y,v=.ref T/\B<=T/\T∉bad/\RA h T x y/\P1 j x/\P2 j y)/\∀(i j:Nat) (v:Value),acc[i]?=Δ v->acc[j]?=Δ v->i=j
theorem ZP.frame(x:ZP B bad P1 P2 acc k h)(hk:∀b o,b∉bad->h.get? b=Δ o->h'.get? b=Δ o):ZP B bad P1 P2 acc k h':=by refine⟨x.1,λj v hj=>?_,x.2.2⟩;obtain⟨T,a,b,e,c1,c2,c3,c4,c5⟩:=x.2.1 j v hj;exact⟨T,a,b,e,c1,c2,hk _ _ c2 c3,c4,c5⟩
theorem ZP.push(x:ZP B bad P1 P2 acc k h)(c1:B<=T)(c2:T∉bad)(c3:RA h T a b)(c4:P1 k a)(c5:P2 k b)(c6:∀j:Nat,acc[j]?≠Δ (PZ T)):ZP B bad P1 P2 (acc.push (.ref T)) (k+1) h:=by
 refine⟨by rw[Array.size_push,x.1],λj v hj=>?_,λi j v hi hj=>?_⟩
 ·rw[Array.getElem?_push] at hj;split at hj;·rename_i e;rw[x.1] at e;cases hj;exact⟨T,a,b,rfl,c1,c2,c3,by rw[e];exact c4,by rw[e];exact c5⟩
  ·exact x.2.1 j v hj
 ·rw[Array.getElem?_push] at hi hj;split at hi
  ·split at hj
   ·lia
   ·cases hi;exact absurd hj (c6 j)
  ·split at hj;·cases hj;exact absurd hi (c6 i)
   ·exact x.2.2 i j v hi hj
theorem uu(ap:BL z TI TO i1 i2 jZ j4)(D1:Draws prog w A.in1.in1 i1 jZ n1 P1 nE)(D2:Draws prog w A.in1.in1 i2 j4 n2 P2 nG)(hn:n1<=PQ)(pT:S≠z/\S≠TI/\S≠TO/\S∉jZ/\S∉j4)(Jn:i1∈jZ)(zg:i2∈j4):
  ∀(m k) (s) (acc) (c),min n1 n2 - k=m->k<=n1->k<=n2->B<=s.heap.objs.size->ZI z TI TO i1 i2 nE nG k s.heap->s.heap.get? S=Δ {cls:=.type "list",dict:=Θ,data:=.seq acc c,slots:=#[]}->
  ZP B [z,TO,i1,i2,S] P1 P2 acc k s.heap->
  (∀h' tk dU c',(∀b o,b∉[z,TO,i1,i2,S]->s.heap.get? b=Δ o->h'.get? b=Δ o)->h'.get? S=Δ {cls:=.type "list",dict:=Θ,data:=.seq dU c',slots:=#[]}->ZP B [z,TO,i1,i2,S] P1 P2 dU (min n1 n2) h'->
   R (.ok (.ret res)) {s with heap:=h',toks:=tk})->
  SI (model prog w) A (.builtin "list.extend.loop" ⟨[.ref S,.ref z,res],[]⟩) R s:=by
 have Jo:S≠i1:=λe=>pT.2.2.2.1 (e▸Jn);have Jp:S≠i2:=λe=>pT.2.2.2.2 (e▸zg);intro m;induction m with
 |zero=>
  intro k s acc c hm AY Dt hB Dz hS eN hR;refine UG PySem.F.entry_extend_loop ?_;rw[QJ.under_plainId RD _];show wpAny _ A.in1 (T8 (.ref z) >>=_) _ _ s;obtain⟨f0,f1,a,b,c1,c2,c3,c4,c5,c6⟩:=Dz;have Nu:min n1 n2=k:=by lia
  refine Pu (kW D1 D2 ap c1 c2 c3 c4 (k:=k) (by lia) c5 c6 λh' tk hk=>Py ?_);refine hR h' tk acc c (λb o hb e=>hk b o (λx=>hb (by simp[x])) (λx=>hb (by simp[x])) (λx=>hb (by simp[x])) (λx=>hb (by simp[x])) e) (hk _ _ pT.1 pT.2.2.1 Jo Jp hS) ?_;rw[Nu];exact eN.frame λb o hb e=>hk b o (λx=>hb (by simp[x])) (λx=>hb (by simp[x])) (λx=>hb (by simp[x])) (λx=>hb (by simp[x])) e
 |succ m ih=>
  intro k s acc c hm AY Dt hB Dz hS eN hR;refine UG PySem.F.entry_extend_loop ?_;rw[QJ.under_plainId RD _];show wpAny _ A.in1 (T8 (.ref z) >>=_) _ _ s;obtain⟨f0,f1,a,b,c1,c2,c3,c4,c5,c6⟩:=Dz;refine Pu (kU D1 D2 ap c1 c2 c3 c4 (k:=k) (P0 (R8 hm) (Te ..)) (P0 (R8 hm) (RS ..)) c5 c6 λh' tk T x y g0 g1 a' b' d1 d2 d3 d4 d5 px py hT hp hk=>?_);have kk:∀b o,b∉[z,TO,i1,i2,S]->s.heap.get? b=Δ o->h'.get? b=Δ o:=λb o hb e=>hk b o (λx=>hb (by simp[x])) (λx=>hb (by simp[x])) (λx=>hb (by simp[x])) (λx=>hb (by simp[x])) e;have Hl:=hk _ _ pT.1 pT.2.2.1 Jo Jp hS;have Nv:=hk _ _ ap.TIz ap.TITO ap.TIi1 ap.TIi2 c3;have lt:∀{b o},s.heap.get? b=Δ o->T≠b:=λe=>QX (P0 (PK e) hT);have Jq:T∉[z,TO,i1,i2,S]:=by obtain⟨o1,e1⟩:=D1.live _ _ c5;obtain⟨o2,e2⟩:=D2.live _ _ c6;simp only[Ub,S5,or_false,not_or];exact⟨lt c2,lt c4,lt e1,lt e2,lt hS⟩
  show wpAny _ A.in1 (Vj S (·.push (.ref T)) >>=_) _ _ _;refine Pu ?_;refine Tb Hl rfl (Py ⟨plainId_quiet RD _,ih (k+1) _ (acc.push (.ref T)) _ (by rw[Nat.sub_succ,hm];rfl) (P0 (R8 hm) (Te ..)) (P0 (R8 hm) (RS ..)) ?_ ?_ (QR _ Hl rfl) ?_ λEF LO dU c' Nw Nx Jr=>?_⟩)
   (by rw[eN.1];lia) (by show(acc.push (PZ T)).size<=PQ+1;rw[Array.size_push,eN.1];lia)
  ·show B<=(h'.update S _).objs.size;rw[S7];exact Qj hB (Qj hT (Tr (PK hp)))
  ·refine ZI.frame ap D1 D2 ⟨g0,g1,a',b',d1,d2,Nv,d3,d4,d5⟩ λb hb o e=>(Qx _ _ (λh:S=b=>?_)).trans e;subst h;rcases hb with h|h|h|h|h;·exact pT.1 h
   ·exact pT.2.1 h
   ·exact pT.2.2.1 h
   ·exact pT.2.2.2.1 h
   ·exact pT.2.2.2.2 h
  ·refine ZP.frame ((eN.frame kk).push (Qj hB hT) Jq hp px py λj hj=>by obtain⟨T',_,_,e,_,_,c3',_⟩:=eN.2.1 j _ hj;cases e;exact lt c3' rfl) λb o hb e=>(Qx _ _ (λh:S=b=>hb (by simp[h]))).trans e
  ·refine hR EF LO dU c' (λb o hb e=>Nw b o hb ((Qx _ _ (λh:S=b=>hb (by simp[h]))).trans (kk b o hb e))) Nx Jr
theorem uv:Vu (.type "zip") "__len__"=pure Θ:=by rw[typeLookup_type,builtinLookup_eq_fast];kernel_rfl
theorem rH:Vu (.type "zip") "__length_hint__"=pure Θ:=by rw[typeLookup_type,builtinLookup_eq_fast];kernel_rfl
theorem l4(ap:BL z TI TO i1 i2 jZ j4)(D1:Draws prog w A.in1.in1 i1 jZ n1 P1 nE)(D2:Draws prog w A.in1.in1 i2 j4 n2 P2 nG)(hn:n1<=PQ)(pT:S≠z/\S≠TI/\S≠TO/\S∉jZ/\S∉j4)(Jn:i1∈jZ)(zg:i2∈j4)(hB:B<=s.heap.objs.size)(Dz:ZI z TI TO i1 i2 nE nG 0 s.heap)(hS:s.heap.get? S=Δ {cls:=.type "list",data:=.seq #[] c₀})(hR:∀h' tk dU c',(∀b o,b∉[z,TO,i1,i2,S]->s.heap.get? b=Δ o->h'.get? b=Δ o)->h'.get? S=Δ {cls:=.type "list",dict:=Θ,data:=.seq dU c',slots:=#[]}->ZP B [z,TO,i1,i2,S] P1 P2 dU (min n1 n2) h'->
   R (.ok (.ret res)) {s with heap:=h',toks:=tk}):
  wpAny (model prog w) A.in1 (Rv (.ref S) (.ref z) res)
   (λfin s'=>match fin with|.done f=>R (.ok f) s'|.again c'=>c'.quiet=Λ/\SI (model prog w) A c' R s') (λe s'=>R (.error e) s') s:=by
 obtain⟨f0,f1,a,b,c1,c2,c3,c4,c5,c6⟩:=id Dz;have hT:s.TypeIs (.ref z) "zip":=⟨_,c2,rfl⟩;unfold Rv;refine Pu (To hT ?_);have h1:R1.List.listSameRef (.ref S) (.ref z)=Ξ:=by simp[R1.List.listSameRef,pT.1]
 have h2:(R0 "zip"==R0 "list")=Ξ:=by decide
 have h3:(R0 "zip"==R0 "tuple")=Ξ:=by decide
 simp only[h1,h2,h3,Ud,QD,if_false];refine Pu (wpAny_pyIter_slot hT PySem.F.slot_zip_iter (QF PySem.F.slot_zip_iter hT PySem.F.entry_zip_iter ?_ (PySem.F.args_zip_iter_1 _)));show wpAny _ _ (ret (.ref z)) _ _ s;refine Py ⟨_,rfl,"zip",_,hT,R7.lookup,?_⟩;refine Pu (Qu ?_);unfold R1.List.listLengthHint;refine Pu (UE hT uv ?_);show wpAny _ A.in1 (specialOf (PZ z) (Qg "__length_hint__") >>=_) _ _ _;refine Pu (UE hT rH ?_);refine Py ?_;show wpAny _ A.in1 (rule "list.extend.makes-room" >>=λ_=>R1.List.listTouch (.ref S) >>=λ_=>again (.builtin "list.extend.loop" ⟨[.ref S,.ref z,res],[]⟩)) _ _ _;refine Pu (Su ?_);refine Pu ?_;show wpAny _ A.in1 (Vj S (·.push .none) >>=λ_=>Vj S (·.pop)) _ _ _;refine Pu (Tb hS rfl ?_);have vP:=QR (RN (·.push Ry)) hS rfl;refine Tb (hz:=by seq_fits) vP rfl ?_;have Js:=QR (RN (·.pop)) vP rfl;have AZ:∀b o,b≠S->s.heap.get? b=Δ o->((s.heap.update S (RN (·.push Ry))).update S (RN (·.pop))).get? b=Δ o:=
  λb o hb e=>(Qx _ _ (QP hb)).trans ((Qx _ _ (QP hb)).trans e)
 refine Py ⟨plainId_quiet RD _,uu ap D1 D2 (B:=B) hn pT Jn zg _ 0 _ _ _ rfl (QH _) (QH _) ?_ (ZI.frame ap D1 D2 Dz λb hb o e=>AZ b o (λh=>?_) e) Js ⟨rfl,(λj v hj=>by simp at hj),(λi j v hi _=>by simp at hi)⟩ λh' tk dU c' hk Hl eN=>?_⟩;·show B<=((s.heap.update S _).update S _).objs.size;rw[S7,S7];exact hB
 ·subst h;rcases hb with h|h|h|h|h;·exact pT.1 h
  ·exact pT.2.1 h
  ·exact pT.2.2.1 h
  ·exact pT.2.2.2.1 h
  ·exact pT.2.2.2.2 h
 ·exact hR h' tk dU c' (λb o hb e=>hk b o hb (AZ b o (λh=>hb (by simp[h])) e)) Hl eN
theorem nI(ap:BL z TI TO i1 i2 jZ j4)(D1:Draws prog w A.in1.in1.in1 i1 jZ n1 P1 nE)(D2:Draws prog w A.in1.in1.in1 i2 j4 n2 P2 nG)(hn:n1<=PQ)(fH:z < s.heap.objs.size/\TI < s.heap.objs.size/\TO < s.heap.objs.size/\(∀b∈jZ,b < s.heap.objs.size)/\∀b∈j4,b < s.heap.objs.size)(Jn:i1∈jZ)(zg:i2∈j4)(hB:B<=s.heap.objs.size)(Dz:ZI z TI TO i1 i2 nE nG 0 s.heap)(hQ:∀h' tk dU c',(∀b o,b∉[z,TO,i1,i2]->s.heap.get? b=Δ o->h'.get? b=Δ o)->h'.get? s.heap.objs.size=Δ {cls:=.type "list",dict:=Θ,data:=.seq dU c',slots:=#[]}->ZP B [z,TO,i1,i2,s.heap.objs.size] P1 P2 dU (min n1 n2) h'->
   Q (.ref s.heap.objs.size) {s with heap:=h',toks:=tk}):
  wpAny (model prog w) A (call (.type "list") [.ref z]) Q E s:=by
 refine callType_codes (Q₁:=λobj bB=>obj=.ref s.heap.objs.size/\bB={s with heap:=s.heap.push {cls:=.type "list",data:=.seq #[]}}) PySem.F.called_list (PySem.F.typeCall_list_1 _) PySem.F.entry_list_init
  (code_list_new _ ⟨rfl,rfl⟩) λobj bB fR=>?_
 obtain⟨rfl,rfl⟩:=fR;have hS:(s.heap.push {cls:=.type "list",data:=.seq #[]}).get? s.heap.objs.size=Δ {cls:=.type "list",data:=.seq #[]}:=PR _ rfl;refine⟨⟨_,hS,rfl⟩,PySem.F.args_list_init_2 _ _,?_⟩;show wpAny _ A.in1.in1 (do let old<-R1.List.listItems (.ref s.heap.objs.size);R1.List.listUpdate (.ref s.heap.objs.size) (λ_=>#[]);letGo old.toList.reverse;Rv (.ref s.heap.objs.size) (.ref z) .none) _ _ _;refine Pu ?_;unfold R1.List.listItems;refine Pu (Rk hS rfl (Py ?_));show wpAny _ _ (Vj s.heap.objs.size (λ_=>#[]) >>=λ_=>letGo (#[]:Array Value).toList.reverse >>=λ_=>Rv (.ref s.heap.objs.size) (.ref z) .none) _ _ _;refine Pu (Tb hS rfl ?_);have vP:=QR (RN (λ_=>(#[]:Array Value))) hS rfl;have AZ:∀b o,s.heap.get? b=Δ o->((s.heap.push {cls:=.type "list",data:=.seq #[]}).update s.heap.objs.size (RN (λ_=>(#[]:Array Value)))).get? b=Δ o:=
  λb o e=>(Qx _ _ (QX (PK e))).trans (Px _ e)
 refine Pu (TR ?_);refine l4 ap D1 D2 (B:=B) hn ⟨QX fH.1,QX fH.2.1,QX fH.2.2.1,λh=>Rj _ (fH.2.2.2.1 _ h),λh=>Rj _ (fH.2.2.2.2 _ h)⟩ Jn zg ?_ (ZI.frame ap D1 D2 Dz λb _ o e=>AZ b o e) vP λh' tk dU c' hk Hl eN=>?_
 ·show B<=((s.heap.push _).update _ _).objs.size;rw[S7,QU]
  lia
 ·refine⟨rfl,hQ h' tk dU c' (λb o hb e=>hk b o ?_ (AZ b o e)) Hl eN⟩;intro hm;simp only[Ub,S5,or_false] at hm hb;rcases hm with h|h|h|h|h;·exact hb (.inl h)
  ·exact hb (.inr (.inl h))
  ·exact hb (.inr (.inr (.inl h)))
  ·exact hb (.inr (.inr (.inr h)))
  ·exact absurd (PK e) (by rw[h];exact Rj _)
abbrev LP(h:Heap)(l1:Addr):Heap:=h.push {cls:=.type "tuple_iterator",data:=.fields #[.ref l1,.int 0 0]}
abbrev LR(h:Heap)(l1 l2:Addr):Heap:=(LP h l1).push {cls:=.type "tuple_iterator",data:=.fields #[.ref l2,.int 0 0]}
abbrev LS(h:Heap)(l1 l2:Addr):Heap:=(LR h l1 l2).push {cls:=.type "tuple",data:=.seq #[.ref h.objs.size,.ref (LP h l1).objs.size]}
abbrev LU(h:Heap)(l1 l2:Addr):Heap:=(LS h l1 l2).push {cls:=.type "tuple",data:=.seq #[.none,.none]}
abbrev EM(h:Heap)(l1 l2:Addr):Heap:=(LU h l1 l2).push {cls:=.type "zip",data:=.fields #[.none,.bool Ξ,.bool Ξ,.ref (LR h l1 l2).objs.size,.ref (LS h l1 l2).objs.size]}
theorem l5 l1 l2 xs ys:
  Meets (R1.«zip.__new__» ⟨[.type "zip",.ref l1,.ref l2],[]⟩) (λ_ R s=>s.heap.IsTuple l1 xs/\s.heap.IsTuple l2 ys/\
   R (.ok (.ret (.ref (LU s.heap l1 l2).objs.size))) {s with heap:=EM s.heap l1 l2}):=
 .of_wp λprog w A R s h=>by
  obtain⟨hp,g,d,tk,os⟩:=s;obtain⟨Ny,ow,h⟩:=h;have Nz:=sub_zip;have hL1:Vf (Vq ⟨hp,g,d,tk,os⟩) l1 xs:=Ny;have hL2:Vf (Vq ⟨hp.push {cls:=.type "tuple_iterator",data:=.fields #[.ref l1,.int 0 0]},g,d,tk,os⟩) l2 ys:=Vf.push ow _
  wp_walk using Rx hL1,Rx hL2
  exact⟨_,rfl,h⟩
theorem uw(Ny:s.heap.IsTuple l1 xs)(ow:s.heap.IsTuple l2 ys)(h:∀h',qH h' (s.heap.objs.size+4) (s.heap.objs.size+2) (s.heap.objs.size+3) .none (.bool Ξ)->RA h' (s.heap.objs.size+2) (.ref s.heap.objs.size) (.ref (s.heap.objs.size+1))->
   RA h' (s.heap.objs.size+3) .none .none->h'.IsTupleIter s.heap.objs.size l1 0->h'.IsTupleIter (s.heap.objs.size+1) l2 0->h'.objs.size=s.heap.objs.size+5->
   (∀c o,s.heap.get? c=Δ o->h'.get? c=Δ o)->Q (.ref (s.heap.objs.size+4)) {s with heap:=h'}):
  wpAny (model prog w) A (call (.type "zip") [.ref l1,.ref l2]) Q E s:=by
 refine callType_new PySem.F.called_zip (by decide) (PySem.F.typeCall_zip_2 _ _) (PySem.F.newCall_zip_2 _ _) (λobj=>PySem.F.args_object_init_3 obj _ _) PySem.F.entry_zip_new
  (l5 l1 l2 xs ys) ⟨Ny,ow,?_⟩
 have z1:(LP s.heap l1).objs.size=s.heap.objs.size+1:=QU ..;have z2:(LR s.heap l1 l2).objs.size=s.heap.objs.size+2:=by rw[QU,z1]
 have z3:(LS s.heap l1 l2).objs.size=s.heap.objs.size+3:=by rw[QU,z2]
 have z4:(LU s.heap l1 l2).objs.size=s.heap.objs.size+4:=by rw[QU,z3]
 have z5:(EM s.heap l1 l2).objs.size=s.heap.objs.size+5:=by rw[QU,z4]
 have g5:(EM s.heap l1 l2).get? (LU s.heap l1 l2).objs.size=Δ _:=PR _ rfl;have g4:(EM s.heap l1 l2).get? (LS s.heap l1 l2).objs.size=Δ _:=Px _ (PR _ rfl);have g3:(EM s.heap l1 l2).get? (LR s.heap l1 l2).objs.size=Δ _:=Px _ (Px _ (PR _ rfl));have g2:(EM s.heap l1 l2).get? (LP s.heap l1).objs.size=Δ _:=Px _ (Px _ (Px _ (PR _ rfl)));have g1:(EM s.heap l1 l2).get? s.heap.objs.size=Δ _:=Px _ (Px _ (Px _ (Px _ (PR _ rfl))));show _/\_;rw[z2,z3,z4] at g5;rw[z1,z2] at g3;rw[z3] at g4;rw[z1] at g2;rw[z4];exact⟨⟨_,g5,rfl⟩,h _ g5 g3 g4 ⟨_,g1,rfl,rfl⟩ ⟨_,g2,rfl,rfl⟩ z5 λc o x=>Px _ (Px _ (Px _ (Px _ (Px _ x))))⟩
theorem Inv.NA(I:Inv X η σ H s)(k:∀b u,s.heap.get? b=Δ u->h'.get? b=Δ u)(hs:du H H')(BN:∀b o,H' b=Δ o->H b=Δ o\/(s.heap.objs.size<=b/\bA X.prog X.w H' h' b o)):Inv X η σ H' {s with heap:=h',toks:=t'}:=by
 refine I.un ⟨λb u q _ _ _=>k b u q,λb u q _ _ _=>⟨u.slots,k b u q⟩,λb u q n _=>?_,λb u q _=>⟨u,k b u q⟩,λb xs q=>hs _ _ q,λb u xs q=>hs _ _ q,λb ps q=>⟨#[],by rw[hs _ _ q];simp⟩⟩ λb o e=>?_
 ·cases e:H' b with
  |none=>rfl|some o=>
   rcases BN b o e with z|⟨z,_⟩;·rw[n] at z;cases z
   ·exact absurd (PK q) (Nat.not_lt.mpr z)
 ·rcases BN b o e with z|⟨_,z⟩;·exact(I.aQ b o z).jP (λc v _ q=>k c v q) (λc q=>hs _ _ q) λc xs q=>hs _ _ q
  ·exact z
noncomputable def EN(H:Hp)(us ws ts:List V):Prop:=ts.length=min us.length ws.length/\∀(j:Nat) t,ts[j]?=Δ t->∃T u w,t=.ref T/\H T=Δ (.tup [u,w])/\us[j]?=Δ u/\ws[j]?=Δ w
def zh:Value->V
 |.ref a=>.ref a|_=>.aU
theorem oy:∀{l},(∀v∈l,∃T,v=PZ T)->aL (l.map zh) l
 |[],_=>.nil|v::l,h=>by obtain⟨T,rfl⟩:=h v PC;exact .cons rfl (oy λv hv=>h v (Pz _ hv))
theorem NB(h:a=c)(k:b=d):(Δ (HO.tup [a,b]):Option HO)=Δ (HO.tup [c,d]):=by rw[h,k]
theorem BO(N a b:Nat)(la:a < N)(lb:b < N):BL (N+4) (N+2) (N+3) N (N+1) [N,a] [N+1,b]:=by
 have e2:∀{x y z:Nat},x≠y->x≠z->x∉[y,z]:=λh1 h2 h=>by
  rcases Ub.mp h with h|h;·exact h1 h
  ·exact h2 (by simpa using h)
 have ne:∀{x y:Nat},x < y\/y < x->x≠y:=λh=>by lia
 exact⟨ne (by lia),ne (by lia),ne (by lia),ne (by lia),ne (by lia),ne (by lia),ne (by lia),ne (by lia),ne (by lia),ne (by lia),e2 (by lia) (by lia),e2 (by lia) (by lia),e2 (by lia) (by lia),e2 (by lia) (by lia),e2 (by lia) (by lia),e2 (by lia) (by lia)⟩
theorem zi(la:a < N)(hc:c∈[N+k,a])(hk:k < 5):c < N+5:=by simp at hc;rcases hc with rfl|rfl<;>lia
open Classical in
theorem rJ(hc:X.calm=Λ)(hgL:Gl X "list")(hmL:X.mg "list"=Θ)(hgZ:Gl X "zip")(hmZ:X.mg "zip"=Θ)(ha:PA X [x1,x2] t)(he:P5 [x1,x2] X.env=(Ξ,eval x1 X.env)::P5 [x2] X.env)(yi:(Rp pos (P5 [x2] X.env)).any (·.1)=Ξ):
  PE X (.Call (.Name "list" p2) [.Call (.Name "zip" p) [x1,x2] [] pos] [] Jt) (λσ H Q=>t σ H λvs H1=>∃a b us ws,vs=[.ref a,.ref b]/\de X.K H1 a us/\de X.K H1 b ws/\
   ∀l H' ts,du H1 H'->H1 l=Θ->H' l=Δ (.lst ts)->EN H' us ws ts->Q (.ref l) H'):=by
 intro η s σ H Q I h;refine Rg (fI I hgL hmL US ?_ (by decide+kernel) (by decide+kernel));refine Qy ?_ rfl rfl;show wpAny _ _ (spliced [(Ξ,eval (.Call (.Name "zip" p) [x1,x2] [] pos) X.env)]) _ _ s;refine RB ?_;refine Rg (fI I hgZ hmZ PyProof.Rows.boot_zip ?_ (by decide+kernel) (by decide+kernel));refine Qy (bG (ha pos η s σ H _ I h) λus s1 ⟨vs,H1,I1,r1,q1⟩=>?_) he yi;obtain⟨a,b,ua,ub,rfl,ta,tb,q⟩:=q1;obtain⟨va,vb,rfl,ra,rb⟩:=vals2 r1;cases ra;cases rb;obtain⟨ia,NC,pa,za⟩:=I1.tuple ta;obtain⟨ib,rvb,pb,zb⟩:=I1.tuple tb;have ND:s1.heap.IsTuple a ia.toArray:=pa;have NG:s1.heap.IsTuple b ib.toArray:=pb;obtain⟨N,hN⟩:∃N:Nat,N=s1.heap.objs.size:=⟨_,rfl⟩;have la:(a:Nat) < s1.heap.objs.size:=by obtain⟨o,e,_⟩:=ND;exact PK e
 have lb:(b:Nat) < s1.heap.objs.size:=by obtain⟨o,e,_⟩:=NG;exact PK e
 refine uw ND NG λh2 g1 g2 g3 g4 g5 hsz hk=>?_;refine R9 ?_;have hh:X.A.in1.in1.in1.handled=Θ:=I1.ok.hd hc;have BP:({s1 with heap:=h2}:PJ).heap.objs.size=s1.heap.objs.size+5:=hsz;have up:∀{c:Addr} {items:Array Value},s1.heap.IsTuple c items->h2.IsTuple c items:=λ{c items} x=>let ⟨o,e,r⟩:=x;⟨o,hk _ _ e,r⟩
 have ap:=BO s1.heap.objs.size a b la lb;have LV:∀k:Nat,k < 5->s1.heap.objs.size+k < ({s1 with heap:=h2}:PJ).heap.objs.size:=λk hk=>by rw[BP];exact Nat.add_lt_add_left hk _
 refine nI (s:={s1 with heap:=h2}) ap (gr hh s1.heap.objs.size a (Qe la) ia.toArray) (gr hh (s1.heap.objs.size+1) b (Qe (Nat.lt_succ_of_lt lb)) ib.toArray) (B:=s1.heap.objs.size) (by rw[PF,<-NC.length];exact za)
  ⟨LV 4 (by decide),LV 2 (by decide),LV 3 (by decide),λc hc=>?_,λc hc=>?_⟩ (by simp) (by simp) (Tr (LV 0 (by decide))) ⟨.none,.bool Ξ,.none,.none,⟨.inl rfl,Ξ,rfl⟩,g1,g2,g3,⟨g4,up ND⟩,⟨g5,up NG⟩⟩ λh' tk acc c' tz hS eN=>?_
 ·rw[BP];exact zi (k:=0) la hc (by decide)
 ·rw[BP];exact zi (k:=1) lb hc (by decide)
 rw[BP] at hS eN ⊢;obtain⟨a1,a2,a3⟩:=eN;have n5:∀b o,s1.heap.get? b=Δ o->h'.get? b=Δ o:=λb o e=>by
  have hb:(b:Nat) < s1.heap.objs.size:=PK e;refine tz b o (λhm=>?_) (hk b o e);simp only[Ub,S5,or_false] at hm;have:(b:Nat)>=s1.heap.objs.size:=by
   rcases hm with h|h|h|h;·exact h▸RU _ _
   ·exact h▸RU _ _
   ·exact h▸PH _
   ·exact h▸RU _ _
  exact absurd hb (Nat.not_lt.mpr this)
 have hrefs:∀v∈acc.toList,∃T,v=PZ T:=λv hv=>by obtain⟨j,hj,e⟩:=List.mem_iff_getElem.mp hv;obtain⟨T,_,_,e',_⟩:=a2 j v (by rw[<-S0,PV hj,e]);exact⟨T,e'⟩
 have hV:=oy hrefs
 let H2:Hp:=λc=>if c=s1.heap.objs.size+5 then Δ (.lst (acc.toList.map zh)) else
  if hj:∃(j:Nat) (u w':V),acc[j]?=Δ (PZ c)/\ua[j]?=Δ u/\ub[j]?=Δ w' then Δ (.tup [hj.choose_spec.choose,hj.choose_spec.choose_spec.choose]) else H1 c
 have fr:∀c,s1.heap.objs.size<=c->H1 c=Θ:=λc hc=>I1.aQ.fresh hc;have NH:∀(j:Nat) T,acc[j]?=Δ (PZ T)->T≠s1.heap.objs.size+5:=λj T e z=>by obtain⟨T',_,_,e',_,hb,_⟩:=a2 j _ e;cases e';exact hb (by rw[z];simp)
 have NI:∀(j:Nat) T,acc[j]?=Δ (PZ T)->s1.heap.objs.size<=T:=λj T e=>by obtain⟨T',_,_,e',h1,_⟩:=a2 j _ e;cases e';exact h1
 have atT:∀(j:Nat) T u w',acc[j]?=Δ (PZ T)->ua[j]?=Δ u->ub[j]?=Δ w'->H2 T=Δ (.tup [u,w']):=λj T u w' e1 e2 e3=>by have hj:∃(j:Nat) (u w':V),acc[j]?=Δ (PZ T)/\ua[j]?=Δ u/\ub[j]?=Δ w':=⟨j,u,w',e1,e2,e3⟩;show(if T=s1.heap.objs.size+5 then _ else if hj:_ then _ else _)=_;rw[if_neg (NH j T e1),dif_pos hj];obtain⟨c1,c2,c3⟩:=hj.choose_spec.choose_spec.choose_spec;have ej:=a3 _ _ _ c1 e1;have q1:=P4 (c2.symm.trans (show ua[hj.choose]?=Δ u by rw[ej];exact e2));have q2:=P4 (c3.symm.trans (show ub[hj.choose]?=Δ w' by rw[ej];exact e3));exact NB q1 q2
 have hS2:H2 (s1.heap.objs.size+5)=Δ (.lst (acc.toList.map zh)):=if_pos rfl;have sm:du H1 H2:=λc o e=>by
  show(if c=s1.heap.objs.size+5 then _ else if hj:_ then _ else _)=_;rw[if_neg,dif_neg];·exact e
  ·rintro⟨j,u,w',e1,_⟩;rw[fr c (NI j c e1)] at e;cases e
  ·rintro rfl;rw[fr _ (RU _ _)] at e;cases e
 have hlen:acc.toList.length=min ua.length ub.length:=by rw[Q8,a1,PF,PF,<-NC.length,<-rvb.length]
 have I2:Inv X η σ H2 {s1 with heap:=h',toks:=tk}:=by
  refine I1.NA n5 sm λc o e=>?_;have e':(if c=s1.heap.objs.size+5 then Δ (HO.lst (acc.toList.map zh)) else
   if hj:∃(j:Nat) (u w':V),acc[j]?=Δ (PZ c)/\ua[j]?=Δ u/\ub[j]?=Δ w' then Δ (.tup [hj.choose_spec.choose,hj.choose_spec.choose_spec.choose]) else H1 c)=Δ o:=e
  split at e';·rename_i hc;cases e';refine .inr ⟨by rw[hc];exact RU _ _,?_⟩;rw[hc];refine⟨?_,acc.toList,c',hV,by simpa using hS⟩;rw[PX,hlen];exact Qj (Te _ _) za
  ·split at e'
   ·rename_i hj;cases e';obtain⟨c1,c2,c3⟩:=hj.choose_spec.choose_spec.choose_spec;obtain⟨T,x,y,eT,b1,b2,b3,b4,b5⟩:=a2 _ _ c1;cases eT;refine .inr ⟨b1,?_,[x,y],?_,⟨_,b3,rfl,_,rfl⟩⟩;·rw[QG];simp
    ·obtain⟨x',ex,rx⟩:=NC.get c2;obtain⟨y',ey,ry⟩:=rvb.get c3;have e1:ia[hj.choose]?=Δ x:=by simpa using b4
     have e2:ib[hj.choose]?=Δ y:=by simpa using b5
     rw[ex] at e1;rw[ey] at e2;cases e1;cases e2;exact .cons rx (.cons ry .nil)
   ·exact .inl e'
 refine⟨.ref (s1.heap.objs.size+5),H2,I2,rfl,q _ H2 _ sm (fr _ (RU _ _)) hS2 ⟨by rw[PX,hlen],λj t ht=>?_⟩⟩;rw[Qa] at ht;obtain⟨v,hv,rfl⟩:∃v,acc.toList[j]?=Δ v/\zh v=t:=by cases hq:acc.toList[j]? with|none=>rw[hq] at ht;cases ht|some v=>rw[hq] at ht;exact⟨v,rfl,by simpa using ht⟩
 have Hm:j < min ua.length ub.length:=by rw[<-hlen];exact(qqz hv).1
 have LC:acc[j]?=Δ v:=by rw[<-S0];exact hv
 obtain⟨T,x,y,rfl,_⟩:=a2 j v LC;have l1:j < ua.length:=P0 Hm (Te _ _);have l2:j < ub.length:=P0 Hm (RS _ _);exact⟨T,ua[j],ub[j],rfl,atT j T _ _ LC (PV l1) (PV l2),PV l1,PV l2⟩
end
theorem gu l items o(ht:o.cls=.type "tuple")n(hd:o.data=.seq items n):
  Meets (R1.«enumerate.__new__» ⟨[.type "enumerate",.ref l],[]⟩) (λ_ R s=>s.heap.get? l=Δ o/\
   R (.ok (.ret (.ref (s.heap.push {cls:=.type "tuple_iterator",data:=.fields #[.ref l,.int 0 0]}).objs.size)))
    {s with heap:=(s.heap.push {cls:=.type "tuple_iterator",data:=.fields #[.ref l,.int 0 0]}).push {cls:=.type "enumerate",data:=.fields #[.none,.bool Ξ,.ref s.heap.objs.size,U5 0,.none,.none]}}):=
 .of_wp λprog w A R s h=>by
  obtain⟨hp,g,d,tk,os⟩:=s;obtain⟨hl,h⟩:=h;have Nz:=sub_enumerate;have hL:Vf (Vq ⟨hp,g,d,tk,os⟩) l items:=⟨_,hl,ht,n,hd⟩
  wp_walk using QW hl
  refine wpAny_stack_any λst=>Py ?_;split
  ·rename_i c _ _ _ _ _;cases (c==R0 "enumerate")
   ·wp_walk using QW hl,Rx hL
    exact⟨_,rfl,h⟩
   ·wp_walk using QW hl,Rx hL
    exact⟨_,rfl,h⟩
  ·wp_walk using QW hl,Rx hL
   exact⟨_,rfl,h⟩
section
variable{prog:Qr}{w:World}{A:QJ}{E:Value->PJ->Prop}{s:PJ}
theorem j5(hl:s.heap.IsTuple l items)(h:∀h',IsEnum h' (s.heap.objs.size+1) s.heap.objs.size 0 .none->h'.IsTupleIter s.heap.objs.size l 0->h'.objs.size=s.heap.objs.size+2->
   (∀b o,s.heap.get? b=Δ o->h'.get? b=Δ o)->Q (.ref (s.heap.objs.size+1)) {s with heap:=h'}):
  wpAny (model prog w) A (call (.type "enumerate") [.ref l]) Q E s:=by
 obtain⟨o,ho,hc,n,hd⟩:=hl;refine callType_new PySem.F.called_enumerate (by decide) (PySem.F.typeCall_enumerate_1 _) (PySem.F.newCall_enumerate_1 _) (λobj=>PySem.F.args_object_init_2 obj _) PySem.F.entry_enumerate_new
  (gu l items o hc n hd) ⟨ho,?_⟩
 have hz:(s.heap.push {cls:=.type "tuple_iterator",data:=.fields #[.ref l,.int 0 0]}).objs.size=s.heap.objs.size+1:=QU ..;show _/\_;rw[hz];have he:IsEnum ((s.heap.push {cls:=.type "tuple_iterator",data:=.fields #[.ref l,.int 0 0]}).push
   {cls:=.type "enumerate",data:=.fields #[.none,.bool Ξ,.ref s.heap.objs.size,U5 0,.none,.none]}) (s.heap.objs.size+1) s.heap.objs.size 0 .none:=by
  have:=PR (s.heap.push {cls:=.type "tuple_iterator",data:=.fields #[.ref l,.int 0 0]})
   (o:={cls:=.type "enumerate",data:=.fields #[.none,.bool Ξ,.ref s.heap.objs.size,U5 0,.none,.none]}) rfl
  rw[hz] at this;exact this
 refine⟨⟨_,he,rfl⟩,h _ he ⟨_,Px _ (PR _ rfl),rfl,rfl⟩ (by rw[QU,hz]) λb o x=>Px _ (Px _ x)⟩
end
def NJ(K:PD)(a:Addr):It:=
 ⟨λi H=>∃xs x,de K H a xs/\xs[i]?=Δ x,λi H x H'=>∃T v,H T=Θ/\H'=upd H T (.tup [.int i,v])/\x=.ref T/\∀xs,de K H a xs->xs[i]?=Δ v,λi H=>∃xs,de K H a xs/\xs.length<=i⟩
theorem uy{P:Qr}{w:World}{K:PD}{elts:List Expr}{kk:Nat}{pos:Pos}(a it e:Addr)(Hn:e≠it):Turn P w K (.Tuple elts kk pos) (NJ K a) [e,it] e (λi h=>(∃old,IsEnum h e it i old)/\h.IsTupleIter it a i) where
 mem:=by simp
 obj:=λi h st b hb=>by
  obtain⟨⟨old,he⟩,o,eo,c,d⟩:=st;have fh:b=e\/b=it:=by simpa using hb
  rcases fh with z|z;·rw[z];exact⟨_,he,λv z=>nomatch z⟩
  ·rw[z];exact⟨o,eo,λv z=>by rw[d] at z;cases z⟩
 keep:=λi h h' st k=>⟨let ⟨old,he⟩:=st.1;⟨old,k e (by simp) _ he⟩,st.2.at λo x=>k it (by simp) o x⟩
 item:=by
  intro X hP hw hK hc i η s σ H E I hf st hg;subst hP hw hK;obtain⟨xs,x,hq,hx⟩:=hg;obtain⟨aD,rv,p,hz⟩:=I.tuple hq;have p':s.heap.IsTuple a aD.toArray:=p;obtain⟨u,hu,ru⟩:=rv.get hx;obtain⟨f0,f1,f2,f3,f4,f5⟩:=hf it (by simp);obtain⟨g0,g1,g2,g3,g4,g5⟩:=hf e (by simp);obtain⟨⟨old,he⟩,hit⟩:=st;have hai:a≠it:=λz=>by obtain⟨o1,e1,c1,_⟩:=p';obtain⟨o2,e2,c2,_⟩:=id hit;rw[z,e2] at e1;cases e1;rw[c1] at c2;simp at c2
  have hae:a≠e:=λz=>by obtain⟨o1,e1,c1,_⟩:=p';rw[z,he] at e1;cases e1;simp at c1
  have fH:i < aD.toArray.size:=by have:=(qqz hu).1;simpa using this
  refine wpAny_pyNext_enum_itemD (gr (A:=X.A.in1) (I.ok.hd hc) it a hai aD.toArray) he ⟨hit,p'⟩ fH Hn (by simp[Hn,QP hae]) λx1 h' tk px ho yj hT hsz hk=>?_;have ex1:x1=u:=by
   have:aD[i]?=Δ x1:=by simpa using px
   rw[hu] at this;cases this;rfl
  subst ex1;refine⟨_,rfl,?_⟩;refine wpAny_letOwnedTupleGo_enum ho λh2 Ju A0=>?_;have A1:s.heap.objs.size≠e:=QX (PK he);have Ho:s.heap.objs.size≠it:=by obtain⟨o,eo,_⟩:=hit;exact QX (PK eo)
  have rK:∀b o,b≠e->b≠it->s.heap.get? b=Δ o->h2.get? b=Δ o:=λb o h1 h3 q=>A0.extBut b o h1 (hk b o h1 h3 q);have hn:H s.heap.objs.size=Θ:=I.aQ.fresh (PH _);have yv:∀b v,H b=Δ v->b≠e/\b≠it:=λb v q=>⟨(λz=>by rw[z,g0] at q;cases q),(λz=>by rw[z,f0] at q;cases q)⟩;have Jv:h2.get? s.heap.objs.size=Δ {cls:=.type "tuple",data:=.seq #[.int i tk,x1]}:=A0.extBut _ _ A1 hT;have I1:Inv X η σ (upd H s.heap.objs.size (.tup [.int i,x])) {s with heap:=h2,toks:=tk+1}:=by
   refine I.step (g':=s.gens) (d':=s.drawn) (ch:=[e,it]) (λb hb=>?_) (λb o _ _ hc q _=>rK b o (λz=>hc (by simp[z])) (λz=>hc (by simp[z])) q) (λb o _ _ hc q _=>⟨o.slots,rK b o (λz=>hc (by simp[z])) (λz=>hc (by simp[z])) q⟩)
    (λb o _ q n=>by rw[aw (Qe (PK q))];exact n) (λb o hc q=>⟨o,rK b o (λz=>hc (by simp[z])) (λz=>hc (by simp[z])) q⟩) (λb xs q=>by rw[aw (aN q hn)];exact q) (λb o v q=>by rw[aw (aN q hn)];exact q)
    (λb ps q=>⟨#[],by rw[aw (aN q hn),q];simp⟩) (λm hm=>?_) (λb v q=>?_) I.bare
   ·have fh:b=e\/b=it:=by simpa using hb
    rcases fh with z|z;·rw[z];exact⟨g3,g1,g4,g5⟩
    ·rw[z];exact⟨f3,f1,f4,f5⟩
   ·obtain⟨o,es,ep,ll,r⟩:=hm;exact⟨o,es,ep,rK _ o (QP g1) (QP f1) ll,r⟩
   ·by_cases hb:b=s.heap.objs.size;·rw[hb,aF] at q;cases q;rw[hb];exact⟨by rw[QG];simp,[.int i tk,x1],.cons ⟨tk,rfl⟩ (.cons ru .nil),⟨_,Jv,rfl,_,rfl⟩⟩
    ·rw[aw hb] at q;refine(I.aQ b v q).jP (λc y hc qq=>?_) (λc qq=>by rw[aw (aN qq hn)];exact qq) λc xs qq=>by rw[aw (aN qq hn)];exact qq
     have:c≠e/\c≠it:=by
      rcases hc with z|z;·rw[z];exact yv b v q
      ·exact yv c _ z
     exact rK c y this.1 this.2 qq
  refine⟨.ref s.heap.objs.size,_,I1,rfl,⟨s.heap.objs.size,x,hn,rfl,rfl,λys hy=>by rw[I.n8 hy hq];exact hx⟩,⟨⟨x1,by simpa using Ju⟩,yj.1.at λo q=>A0.extBut _ _ (QP Hn) q⟩,λb hb=>?_⟩;have fh:b=e\/b=it:=by simpa using hb
  rcases fh with z|z;·rw[z,aw (QP A1)];exact g0
  ·rw[z,aw (QP Ho)];exact f0
 done:=by
  intro X hP hw hK hc i η s σ H E I hf st hg;subst hP hw hK;obtain⟨xs,hq,hx⟩:=hg;obtain⟨aD,rv,p,hz⟩:=I.tuple hq;obtain⟨f0,f1,f2,f3,f4,f5⟩:=hf it (by simp);obtain⟨⟨old,he⟩,hit⟩:=st;have hl:=rv.length;have hT:s.TypeIs (.ref e) "enumerate":=⟨_,he,rfl⟩;unfold T8;refine Pu (R6 (Qp (name:=Qg "__next__") hT Ru
   (QF Ru hT PySem.F.entry_enumerate_next ?_ (PySem.F.args_enumerate_next_1 _))))
  show wpAny _ _ (field (.ref e) 2 >>=_) _ _ _;refine Pu (Qs he rfl (x:=.ref it) rfl ?_);refine Pu (fm (I.ok.hd hc) hit (show s.heap.IsTuple a aD.toArray from p) (by simp;lia) λh' y NK rn=>?_);obtain⟨o,ho,NL⟩:=rn;refine Pu (Ug (T:="StopIteration") (b:=Λ) ⟨o,ho,NL⟩ UO ?_);exact Py ⟨rfl,I.turned (t':=s.toks) (λb o hb q=>NK b o hb q) f0 f1 f3 f4 f5⟩
 self:=λ_ _ _ _ _ st h=>let ⟨old,he⟩:=st.1;SG he h
section
variable{X:Cx}
def Jw(K:PD)(ta:TA):TI:=λσ H R=>ta σ H λvs H1=>∃a,vs=[.ref a]/\(∃xs,de K H1 a xs)/\R (NJ K a) H1
theorem zj(hg:Gl X "enumerate")(hm:X.mg "enumerate"=Θ)(ha:PA X [x] ta)(hs:P5 [x] X.env=[(Ξ,eval x X.env)]):
  PI X (.Tuple elts kk p3) (.Call (.Name "enumerate" p) [x] [] pos) (Jw X.K ta):=by
 intro η s σ H R I h;refine Call_ (fI I hg hm boot_enumerate (Qy (bG (ha pos η s σ H _ I h) λus s1 ⟨vs,H1,I1,r1,q1⟩=>?_) hs rfl) (by decide+kernel) (by decide+kernel));obtain⟨a,rfl,⟨xs,hq⟩,q⟩:=q1;obtain⟨u,rfl,ru⟩:=vals1 r1;cases ru;obtain⟨aD,rv,pl,hz⟩:=I1.tuple hq;refine j5 (show s1.heap.IsTuple a aD.toArray from pl) λh' he hit hsz hk=>?_;refine SG he ?_;have I2:Inv X η σ H1 {s1 with heap:=h'}:=I1.kept (t':=s1.toks) hk;refine⟨s1.heap.objs.size+1,[s1.heap.objs.size+1,s1.heap.objs.size],_,_,H1,rfl,I2,uy a _ _ (Nat.succ_ne_self _),⟨⟨_,he⟩,hit⟩,λb hb=>?_,q⟩;have fh:b=s1.heap.objs.size+1\/b=s1.heap.objs.size:=by simpa using hb
 rcases fh with z|z;·rw[z];exact I1.qO (RZ _) (I1.aQ.fresh (RZ _))
 ·rw[z];exact I1.qO (PH _) (I1.aQ.fresh (PH _))
end
section
variable{prog:Qr}{w:World}{A:QJ}{E:Value->PJ->Prop}{s:PJ}
end
section
variable{X:Cx}
end
noncomputable def kE(c:Addr)(q:Str):Heap->Prop:=λh=>h.CodeRec (.ref c) q
section
variable{CX:vF}{P:Qr}{w:World}{K:PD}{mg:Str->Option Value}{base:Heap}{k:Nat}{f:Addr}{name qual:Str}{params:Arguments}{scope:Scope}{cl:List (Str×Addr)}{dV kV doc pm nA ct oc:Value}{an od:Option Addr}
  {Eh:Array (Option Value)} {N ps F:List Str} {ir:List V} {sp:Sp}
end
open Classical in
noncomputable def nJ(H:Hp):Hp:=λb=>match H b with|some (.ext φ)=>if ∃q,φ=kE b q then Δ (.ext φ) else Θ|o=>o
open Classical in
def FnX(b:Addr)(φ:Heap->Prop):Prop:=∀q,φ≠kE b q
theorem zk(h:H b=Θ):nJ H b=Θ:=by unfold nJ;rw[h]
theorem zl(h:H b=Δ (.ext (kE b q))):nJ H b=Δ (.ext (kE b q)):=by unfold nJ;rw[h];exact if_pos ⟨q,rfl⟩
theorem zo(h:nJ H b=Δ o):H b=Δ o/\∀φ,o=.ext φ->¬FnX b φ:=by
 unfold nJ at h;split at h
 ·rename_i φ e;split at h;·rename_i hq;cases h;obtain⟨q,hq⟩:=hq;exact⟨e,λψ z hf=>by cases z;exact hf q hq⟩
  ·cases h
 ·rename_i iZ;exact⟨h,λφ z=>absurd (h.trans (by rw[z])) (iZ φ)⟩
theorem gv(h:H b=Δ o)(iZ:∀φ,o≠.ext φ):nJ H b=Δ o:=by unfold nJ;rw[h];cases o with|ext φ=>exact absurd rfl (iZ φ)|_=>rfl
section
variable{X:Cx}{η:List (Addr×Obj)}{σ:St}{H:Hp}{s s':PJ}
end
def gw(H:Hp)(zp:List (Pos×Str))(ps:Array Value):Prop:=TriplesOk ps.toList/\∀p∈zp,∀cv,codeAmong p.1 ps.toList=Δ cv->∃c,cv=.ref c/\H c=Δ (.ext (kE c p.2))
noncomputable def BMain(mg:Str->Option Value)(B:Heap):Prop:=∃bm ob,mg "__builtins__"=Δ (.ref bm)/\bm≠Ux/\B.get? bm=Δ ob/\ob.cls=.type "module"/\ob.dict=Δ Ux/\ob.data=.plain
section
variable{X:Cx}{η:List (Addr×Obj)}{σ:St}{H:Hp}{s:PJ}
end
def vQ(tabs:List (Addr×Addr))(H:Hp):Prop:=(∀b,H b=Θ\/(∃o xs,H b=Δ (.cC o (.lst xs)))\/(H b=Δ (.iz #[])/\b∈tabs.map (·.2)))/\∀q∈tabs,H q.2=Δ (.iz #[])
theorem xb{K:PD}{sp:Heap->Sp}(KX:K.In bB.heap)(NM:bB.heap.Ns PL mg)(hb:bB.heap.Ns Ux mb)(hbb:∀x:Str,x≠"__name__"->mb x=Rt x)(NN:bB.heap.NoLimit)(hg:bB.gens=#[])(hT:PySem.W.TabsAt tabs bB.heap)(EO:tabs≠[]->TC K=Λ)(hbm:BMain mg bB.heap)(ha:bB.heap.get? a=Δ {cls:=.type "list",data:=.seq vs.toArray})(hi:IntsAre vs ns)(hl:ns.length<=PQ)(hr:cR k UR)(F:∀base:Heap,K.In base->base.Ns PL mg->(∀q∈tabs,RQ base q.1 q.2)->BMain mg base->dy P w K mg base CX k fa fd [x] (sp base))(Jx:∀(s:PJ) (u:Value),Vh s fd ⟨[u],[]⟩ [(x,u)])(tw:∀(base:Heap) (H:Hp),(∀q∈tabs,RQ base q.1 q.2)->BMain mg base->vQ tabs H->gZ K H a (ns.map V.int)->sp base [.ref a] H (λv _=>v=.bl Λ) λ_ _ _=>False)(NO:∀H e s',CX [] H bB (λ_ _ _=>False) e s'->False):
  SI (model P w) UR (.call (.ref fa) ⟨[.ref a],[]⟩) (λr s'=>r=.ok (.ret (.bool Λ))/\OldK bB.heap s'.heap/\s'.os=bB.os/\Tu s'.gens) bB:=by
 have rv:=ou hi;have NP:=hi.length;have xf:∀b,b∈tabs.map (·.2)->bB.heap.get? b=Δ (UP #[]):=λb hb=>by obtain⟨q,hq,rfl⟩:=List.mem_map.mp hb;exact(hT q hq).2
 have aT:a∉tabs.map (·.2):=λz=>by have:=xf a z;rw[ha] at this;cases this
 have core:∀H:Hp,vQ tabs H->gZ K H a (ns.map V.int)->gf P w H bB.heap->(∀b,H b≠Θ->b=a\/b∈tabs.map (·.2))->(H a≠Θ->K.lookup a=Θ)->
   SI (model P w) UR (.call (.ref fa) ⟨[.ref a],[]⟩) (λr s'=>r=.ok (.ret (.bool Λ))/\OldK bB.heap s'.heap/\s'.os=bB.os/\Tu s'.gens) bB:=by
  intro H hO hS aQ hA hK;have lz:∀{b:Addr} {o:Obj},bB.heap.get? b=Δ o->H b=Θ->(lL bB.heap H).get? b=Δ o:=λe n=>yt e n;have Hi:∀{b:Addr} {o:Obj},bB.heap.get? b=Δ o->o.cls≠.none->(∀aD n,o.data≠.seq aD n)->H b=Θ:=λ{b o} e d1 d2=>by
   cases q:H b with
   |none=>rfl|some u=>
    rcases hA b (by rw[q];simp) with e'|e';·subst e';rw[ha] at e;cases e;exact absurd rfl (d2 _ _)
    ·rw[xf b e'] at e;cases e;exact absurd rfl d1
  have noD:∀{b:Addr} {o:Obj} {es:Array DictEntry} {ep:Nat},bB.heap.get? b=Δ o->o.data=.dict es ep->H b=Θ:=λ{b o es ep} e d=>by
   cases q:H b with
   |none=>rfl|some u=>
    rcases hA b (by rw[q];simp) with e'|e';·subst e';rw[ha] at e;cases e;cases d
    ·rw[xf b e'] at e;cases e;cases d
  have LW:∀{b:Addr} {m:Str->Option Value},bB.heap.Ns b m->(lL bB.heap H).Ns b m:=λ{b m} ⟨o,es,ep,e,d,r⟩=>⟨o,es,ep,lz e (noD e d),d,r⟩;have hKb:K.In (lL bB.heap H):=λb o e=>lz (KX b o e) (by
   cases q:H b with
   |none=>rfl|some u=>
    rcases hA b (by rw[q];simp) with e'|e';·subst e';rw[hK (by rw[q];simp)] at e;cases e
    ·have e2:=KX b o e;rw[xf b e'] at e2;cases e2;have h2:=Ri.mp (EO λz=>by rw[z] at e';cases e') _ (PySem.W.mem_of_lookupK e);exact absurd (show Ξ=Λ from h2) Ql)
  have hM:Mod K mg (lL bB.heap H):=⟨hKb,LW NM,⟨mb,LW hb,hbb⟩,let ⟨mc,h1,h2⟩:=NN;⟨mc,LW h1,h2⟩⟩;have e0:t8 P w K mg (lL bB.heap H) UR [] bB H:=⟨rfl,hM,λb o e=>A9 e,UA (wz _ _),trivial,λb hb=>absurd (show b∈([]:List Addr) from hb) (by simp),aQ,.of_eq hg⟩;have n6:∀q∈tabs,RQ (lL bB.heap H) q.1 q.2:=λq hq=>by obtain⟨o,us,file,tf,flags,tg,inF,text,tt,e1,r1,r2,r⟩:=(hT q hq).1;exact⟨o,us,file,tf,flags,tg,inF,text,tt,lz e1 (Hi e1 (by rw[r1];nofun) (by rw[r2];nofun)),r1,r2,r⟩
  have Jy:BMain mg (lL bB.heap H):=by obtain⟨bm,ob,b1,b2,b3,b4,b5,b6⟩:=hbm;exact⟨bm,ob,b1,b2,lz b3 (Hi b3 (by rw[b4];nofun) (by rw[b6];nofun)),b4,b5,b6⟩
  refine SH ((F _ hKb (LW NM) n6 Jy).run UR [] bB H ⟨[.ref a],[]⟩ [.ref a] [.ref a] _ _ hr e0 (Jx bB (.ref a)) (.cons rfl .nil) (tw _ H n6 Jy hO hS)) λr s' h=>?_;cases r with
  |error e=>exact(NO H e s' h).elim|ok fl=>
   cases fl with
   |next=>exact Q1 h|brk=>exact Q1 h|cont=>exact Q1 h|ret u=>
    obtain⟨v,H',os,bare,un,Jz,r',q⟩:=h;have q':v=.bl Λ:=q;subst q';obtain rfl:u=Sw Λ:=r';have way:∀b o,bB.heap.get? b=Δ o->s'.heap.get? b=Δ o\/(isCodeTable bB.heap b/\o=UP #[]/\∃ps,s'.heap.get? b=Δ (UP ps)):=λb o e=>by
     rcases hO.1 b with z|⟨ob,xs,z⟩|⟨z,zt⟩;·exact .inl (un.keep b o e z (by intro z;exact absurd (show b∈([]:List Addr) from z) (by simp)) (by simp))
     ·have z2:=un.i4 b ob _ z;obtain⟨e1,_⟩:=aQ b _ z;obtain⟨e2,_⟩:=Jz b _ z2;rw[e] at e1;cases e1;exact .inl e2
     ·obtain⟨more,z2⟩:=un.jQ b _ z;have e2:=Jz b _ z2;have e3:=xf b zt;rw[e] at e3;obtain⟨q,hq,rfl⟩:=List.mem_map.mp zt;exact .inr ⟨((hT q hq).1.tab (hT q hq).2).isCodeTable,P4 e3,_,e2⟩
    refine⟨rfl,⟨λb o e=>?_,λb o e=>?_⟩,os,bare⟩
    ·rcases way b o e with z|⟨z1,rfl,ps,z2⟩;·exact .inl z
     ·exact .inr (.inl ⟨z1,rfl,#[],ps,rfl,by rw[Array.empty_append];exact z2⟩)
    ·rcases way b o e with z|⟨_,_,ps,z2⟩;·exact⟨o,z⟩
     ·exact⟨_,z2⟩
 have tb:∀(b:Addr) (u:HO),u=.iz #[]->b∈tabs.map (·.2)->∀H:Hp,bA P w H bB.heap b u:=λb u e hb H=>by rw[e];exact xf b hb
 let H0:Hp:=λb=>if b∈tabs.map (·.2) then Δ (.iz #[]) else Θ
 cases hk:K.lookup a with
 |some o=>
  have e:=KX a o hk;rw[ha] at e;cases e;refine core H0 ⟨λb=>?_,λq hq=>if_pos (So hq)⟩ (.inr ⟨_,vs.toArray,_,hk,rfl,rfl,rfl,by rw[PF,NP];exact hl,by simpa using rv⟩) (λb u z=>?_) (λb z=>.inr ?_) λz=>absurd (if_neg aT) z
  ·by_cases hb:b∈tabs.map (·.2);·exact .inr (.inr ⟨if_pos hb,hb⟩)
   ·exact .inl (if_neg hb)
  ·by_cases hb:b∈tabs.map (·.2);·have z':=(if_pos hb).symm.trans z;exact tb b u (P4 z').symm hb _
   ·have z':=(if_neg hb).symm.trans z;cases z'
  ·by_cases hb:b∈tabs.map (·.2);·exact hb
   ·exact absurd (if_neg hb) z
 |none=>
  let H1:Hp:=λb=>if b=a then Δ (.cC {cls:=.type "list",data:=.seq vs.toArray} (.lst (ns.map V.int))) else H0 b
  have LX:∀b,b≠a->H1 b=H0 b:=λb hb=>if_neg hb;refine core H1 ⟨λb=>?_,λq hq=>?_⟩ (.inl (.inr ⟨{cls:=.type "list",data:=.seq vs.toArray},if_pos rfl⟩)) (λb u z=>?_) (λb z=>?_) λ_=>hk
  ·by_cases hb:b=a;·exact .inr (.inl ⟨_,_,if_pos hb⟩)
   ·rw[LX b hb];by_cases tB:b∈tabs.map (·.2);·exact .inr (.inr ⟨if_pos tB,tB⟩)
    ·exact .inl (if_neg tB)
  ·rw[LX q.2 λz=>aT (z▸So hq)];exact if_pos (So hq)
  ·by_cases hb:b=a;·have z':=(if_pos hb).symm.trans z;cases z';subst hb;exact⟨ha,by rw[PX];exact hl,vs,_,rv,ha⟩
   ·rw[LX b hb] at z;by_cases tB:b∈tabs.map (·.2);·have z':=(if_pos tB).symm.trans z;exact tb b u (P4 z').symm tB _
    ·have z':=(if_neg tB).symm.trans z;cases z'
  ·by_cases hb:b=a;·exact .inl hb
   ·rw[LX b hb] at z;by_cases tB:b∈tabs.map (·.2);·exact .inr tB
    ·exact absurd (if_neg tB) z
theorem zq{l:UJ}{K:Params->PD}{CX:World->vF}{sp:World->(Str->Option Value)->List (Addr×Addr)->Heap->Sp}xs(hn:l.most=Δ n)(LD:n<=PQ)(I0:d.params.defaults=[])(hr:cR k UR)(hY:∀(w:World) (h:Heap),YP w h->(K w.params).In h)(ER:∀y∈xs,∃dr,(recsOf q).find? (λe=>e.name==y)=Δ dr)(F:∀(w:World) (mg:Str->Option Value) (fa:Addr) (h:Heap),(K w.params).In h->h.Ns PL mg->mg d.name=Δ (.ref fa)->
   (xs≠[]->TC (K w.params)=Λ)/\∃(tabs:List (Addr×Addr)) (fd:Rn),xs.map (RM (K w.params))=tabs.map Δ/\(∀(s:PJ) (u:Value),Vh s fd ⟨[u],[]⟩ [(x,u)])/\
    (∀base:Heap,(K w.params).In base->base.Ns PL mg->(∀q∈tabs,RQ base q.1 q.2)->BMain mg base->dy l.prog w (K w.params) mg base (CX w) k fa fd [x] (sp w mg tabs base))/\
    ∀(base:Heap) (H:Hp) (a:Addr) (ns:List Int),ns.length<=n->(∀q∈tabs,RQ base q.1 q.2)->BMain mg base->vQ tabs H->gZ (K w.params) H a (ns.map V.int)->sp w mg tabs base [.ref a] H (λv _=>v=.bl Λ) λ_ _ _=>False)(NO:∀(w:World) (H:Hp) (s:PJ) (e:Value) (s':PJ),CX w [] H s (λ_ _ _=>False) e s'->False):
  PySem.W.WalkO q loose XP YP l.row.toRowW d [] (λf vs=>Vw f vs):=by
 refine Att.rm hn I0 λw cQ bB mg mb fa o pm cd doc a vs ns G Y ho hd n6 Ja EB hints hlen hg=>?_;have KX:=hY w _ Y;obtain⟨EO,tabs,fd,ES,hb,hF,tw⟩:=F w mg fa _ KX G.T.g Ja;have hT:PySem.W.TabsAt tabs bB.heap:=λt ht=>by
  have hm:Δ t∈xs.map (RM (K w.params)):=by rw[ES];exact So ht
  obtain⟨y,hy,e⟩:=List.mem_map.mp hm;obtain⟨dr,ET⟩:=ER y hy;exact PySem.W.tab_of G.T KX ET e
 exact xb KX G.T.g G.T.b G.T.builtins G.T.nolimit hg hT (λz=>EO λy=>z (by rw[y] at ES;exact List.map_eq_nil_iff.mp ES.symm)) G.T.bmain EB hints (Qj hlen LD) hr hF hb (λbase H h1 h2 h3 h4=>tw base H a ns hlen h1 h2 h3 h4) λH e s'=>NO w H bB e s'
section
variable{X:Cx}{η:List (Addr×Obj)}{σ:St}{H:Hp}{s:PJ}{a:Addr}{kvs:List (Key×V)}{k:Key}{u r:Value}{z:V}{A:QJ}{E:Value->PJ->Prop}
theorem zr(I:Inv X η σ H s)(e:H a=Δ (.dK kvs))(ry:RelV (kV k) u)(rz:RelV z r)(hl:kvs.length < PQ)(h1:∀v w' s',dq kvs k=Δ v->Inv X η σ H s'->RelV v w'->Q w' s')(h2:dq kvs k=Θ->∀s',Inv X η σ (upd H a (.dK (putK kvs k z))) s'->Q r s'):
  wpAny (model X.prog X.w) A (call (.builtin "dict.setdefault") [.ref a,u,r]) Q E s:=by
 obtain⟨zz,hd,vs,rel,dd⟩:=ot I.aQ e;refine Tp PySem.F.slot_dict_setdefault dd.typeIs PySem.F.entry_dict_setdefault (PySem.F.args_dict_setdefault_3 _ _ _) (kt_meets_setdefault (bg X.prog X.w) a (jf ry) hd r)
  ⟨vs,dd,by rw[<-rel.length];exact zz,λw' hw=>?_,λhn h' qG hs=>?_⟩
 ·have rr:=rel.val k;rw[hw] at rr;cases hv:dq kvs k with|none=>rw[hv] at rr;exact(show False from rr).elim|some v=>rw[hv] at rr;exact h1 v w' _ hv (I.tok _) rr
 ·have rr:=rel.val k;rw[hn] at rr;cases hv:dq kvs k with
  |some v=>rw[hv] at rr;exact(show False from rr).elim|none=>
   have he:∃q,h'.get? a=Δ q:=let ⟨q,_,_,hq,_⟩:=qG;⟨q,hq⟩
   have jl:(putK kvs k z).length<=PQ:=by have:=eQ kvs k z;lia
   exact h2 hv _ (fL I (by rw[e];exact QM) hs he (lX jl hd (rel.put k rz) qG))
end
def EU(td ty tx:TE):TE:=λσ H Q=>td σ H λx H1=>∃a,x=.ref a/\LM H1 a/\ty σ H1 λy H2=>tx σ H2 λz H3=>∃kvs k,H3 a=Δ (.dK kvs)/\y=kV k/\kvs.length < PQ/\
 (∀v,dq kvs k=Δ v->Q v H3)/\(dq kvs k=Θ->Q z (upd H3 a (.dK (putK kvs k z))))
section
variable{X:Cx}{o e f:Expr}{apos cM:Pos}{td ty tx:TE}
theorem zu(ho:PE X o td)(he:PE X e ty)(hf:PE X f tx)(m:M2 X o "setdefault" apos e f cM):PE X (.Call (.Attribute o "setdefault" apos) [e,f] [] cM) (EU td ty tx):=by intro η s σ H Q I h;refine TU m.base m.LL m.line RR PySem.F.slot_dict_setdefault PySem.F.type_dict_setdefault (bG (ho η s σ H _ I h) λu s1 ⟨x,H1,I1,rx,a,ex,d,q1⟩=>?_);subst ex;obtain rfl:u=PZ a:=rx;obtain⟨t1,t2,_⟩:=uh I1 d;refine⟨t1,t2,?_⟩;rw[m.trees];refine Q6 rfl (RJ (RB (bG (he η s1 σ H1 _ I1 q1) λiv s2 ⟨y,H2,I2,ry,q2⟩=>RB (bG (hf η s2 σ H2 _ I2 q2) λfv s3 ⟨z,H3,I3,rz,kvs,k,ea,ey,hl,q3,q4⟩=>R9 ?_))));subst ey;exact zr I3 ea ry rz hl (λv w' s4 hv I4 ik=>⟨v,H3,I4,ik,q3 v hv⟩) λhn s4 I4=>⟨z,_,I4,rz,q4 hn⟩
end
def JA(K:PD)(a:Addr):It:=
 ⟨λi H=>∃xs x,gZ K H a xs/\xs[i]?=Δ x,λi H x H'=>∃T v,H T=Θ/\H'=upd H T (.tup [.int i,v])/\x=.ref T/\∀xs,gZ K H a xs->xs[i]?=Δ v,λi H=>∃xs,gZ K H a xs/\xs.length<=i⟩
theorem uz{P:Qr}{w:World}{K:PD}{elts:List Expr}{kk:Nat}{pos:Pos}(a it e:Addr)(Hn:e≠it):Turn P w K (.Tuple elts kk pos) (JA K a) [e,it] e (λi h=>(∃old,IsEnum h e it i old)/\h.IsListIter it a i) where
 mem:=by simp
 obj:=λi h st b hb=>by
  obtain⟨⟨old,he⟩,o,eo,c,d⟩:=st;have fh:b=e\/b=it:=by simpa using hb
  rcases fh with z|z;·rw[z];exact⟨_,he,λv z=>nomatch z⟩
  ·rw[z];exact⟨o,eo,λv z=>by rw[d] at z;cases z⟩
 keep:=λi h h' st k=>⟨let ⟨old,he⟩:=st.1;⟨old,k e (by simp) _ he⟩,st.2.at λo x=>k it (by simp) o x⟩
 item:=by
  intro X hP hw hK hc i η s σ H E I hf st hg;subst hP hw hK;obtain⟨xs,x,hq,hx⟩:=hg;obtain⟨aD,rv,p,hz⟩:=I.list hq;have p':s.heap.IsList a aD.toArray:=p.isList;obtain⟨u,hu,ru⟩:=rv.get hx;obtain⟨f0,f1,f2,f3,f4,f5⟩:=hf it (by simp);obtain⟨g0,g1,g2,g3,g4,g5⟩:=hf e (by simp);obtain⟨⟨old,he⟩,hit⟩:=st;refine wpAny_pyNext_enum_item he hit p' (x:=u) (by simpa using hu) Hn λh' ho yj hT hsz hk=>?_;refine⟨_,rfl,?_⟩;refine wpAny_letOwnedTupleGo_enum ho λh2 Ju A0=>?_;have A1:s.heap.objs.size≠e:=QX (PK he);have Ho:s.heap.objs.size≠it:=by obtain⟨o,eo,_⟩:=hit;exact QX (PK eo)
  have rK:∀b o,b≠e->b≠it->s.heap.get? b=Δ o->h2.get? b=Δ o:=λb o h1 h3 q=>A0.extBut b o h1 (hk b o h1 h3 q);have hn:H s.heap.objs.size=Θ:=I.aQ.fresh (PH _);have yv:∀b v,H b=Δ v->b≠e/\b≠it:=λb v q=>⟨(λz=>by rw[z,g0] at q;cases q),(λz=>by rw[z,f0] at q;cases q)⟩;have Jv:h2.get? s.heap.objs.size=Δ {cls:=.type "tuple",data:=.seq #[.int i s.toks,u]}:=A0.extBut _ _ A1 hT;have I1:Inv X η σ (upd H s.heap.objs.size (.tup [.int i,x])) {s with heap:=h2,toks:=s.toks+1}:=by
   refine I.step (g':=s.gens) (d':=s.drawn) (ch:=[e,it]) (λb hb=>?_) (λb o _ _ hc q _=>rK b o (λz=>hc (by simp[z])) (λz=>hc (by simp[z])) q) (λb o _ _ hc q _=>⟨o.slots,rK b o (λz=>hc (by simp[z])) (λz=>hc (by simp[z])) q⟩)
    (λb o _ q n=>by rw[aw (Qe (PK q))];exact n) (λb o hc q=>⟨o,rK b o (λz=>hc (by simp[z])) (λz=>hc (by simp[z])) q⟩) (λb xs q=>by rw[aw (aN q hn)];exact q) (λb o v q=>by rw[aw (aN q hn)];exact q)
    (λb ps q=>⟨#[],by rw[aw (aN q hn),q];simp⟩) (λm hm=>?_) (λb v q=>?_) I.bare
   ·have fh:b=e\/b=it:=by simpa using hb
    rcases fh with z|z;·rw[z];exact⟨g3,g1,g4,g5⟩
    ·rw[z];exact⟨f3,f1,f4,f5⟩
   ·obtain⟨o,es,ep,ll,r⟩:=hm;exact⟨o,es,ep,rK _ o (QP g1) (QP f1) ll,r⟩
   ·by_cases hb:b=s.heap.objs.size;·rw[hb,aF] at q;cases q;rw[hb];exact⟨by rw[QG];simp,[.int i s.toks,u],.cons ⟨_,rfl⟩ (.cons ru .nil),⟨_,Jv,rfl,_,rfl⟩⟩
    ·rw[aw hb] at q;refine(I.aQ b v q).jP (λc y hc qq=>?_) (λc qq=>by rw[aw (aN qq hn)];exact qq) λc xs qq=>by rw[aw (aN qq hn)];exact qq
     have:c≠e/\c≠it:=by
      rcases hc with z|z;·rw[z];exact yv b v q
      ·exact yv c _ z
     exact rK c y this.1 this.2 qq
  refine⟨.ref s.heap.objs.size,_,I1,rfl,⟨s.heap.objs.size,x,hn,rfl,rfl,λys hy=>by rw[I.qN hy hq];exact hx⟩,⟨⟨u,by simpa using Ju⟩,yj.at λo q=>A0.extBut _ _ (QP Hn) q⟩,λb hb=>?_⟩;have fh:b=e\/b=it:=by simpa using hb
  rcases fh with z|z;·rw[z,aw (QP A1)];exact g0
  ·rw[z,aw (QP Ho)];exact f0
 done:=by
  intro X hP hw hK hc i η s σ H E I hf st hg;subst hP hw hK;obtain⟨xs,hq,hx⟩:=hg;obtain⟨aD,rv,p,hz⟩:=I.list hq;obtain⟨f0,f1,f2,f3,f4,f5⟩:=hf it (by simp);obtain⟨⟨old,he⟩,hit⟩:=st;have hl:=rv.length;have hT:s.TypeIs (.ref e) "enumerate":=⟨_,he,rfl⟩;unfold T8;refine Pu (R6 (Qp (name:=Qg "__next__") hT Ru
   (QF Ru hT PySem.F.entry_enumerate_next ?_ (PySem.F.args_enumerate_next_1 _))))
  show wpAny _ _ (field (.ref e) 2 >>=_) _ _ _;refine Pu (Qs he rfl (x:=.ref it) rfl ?_);refine Pu (wpAny_nextOf_list_end (I.ok.hd hc) hit p.isList (by simp;lia) λh' y NK rn=>?_);obtain⟨o,ho,NL⟩:=rn;refine Pu (Ug (T:="StopIteration") (b:=Λ) ⟨o,ho,NL⟩ UO ?_);exact Py ⟨rfl,I.turned (t':=s.toks) (λb o hb q=>NK b o hb q) f0 f1 f3 f4 f5⟩
 self:=λ_ _ _ _ _ st h=>let ⟨old,he⟩:=st.1;SG he h
section
variable{X:Cx}
def EV(K:PD)(ta:TA):TI:=λσ H R=>ta σ H λvs H1=>∃a,vs=[.ref a]/\(∃xs,gZ K H1 a xs)/\R (JA K a) H1
theorem zv(hg:Gl X "enumerate")(hm:X.mg "enumerate"=Θ)(ha:PA X [x] ta)(hs:P5 [x] X.env=[(Ξ,eval x X.env)]):
  PI X (.Tuple elts kk p3) (.Call (.Name "enumerate" p) [x] [] pos) (EV X.K ta):=by
 intro η s σ H R I h;refine Call_ (fI I hg hm boot_enumerate (Qy (bG (ha pos η s σ H _ I h) λus s1 ⟨vs,H1,I1,r1,q1⟩=>?_) hs rfl) (by decide+kernel) (by decide+kernel));obtain⟨a,rfl,⟨xs,hq⟩,q⟩:=q1;obtain⟨u,rfl,ru⟩:=vals1 r1;cases ru;obtain⟨aD,rv,pl,hz⟩:=I1.list hq;refine call_enumerate_list pl.isList λh' he hit hsz hk=>?_;refine SG he ?_;have I2:Inv X η σ H1 {s1 with heap:=h'}:=I1.kept (t':=s1.toks) hk;refine⟨s1.heap.objs.size+1,[s1.heap.objs.size+1,s1.heap.objs.size],_,_,H1,rfl,I2,uz a _ _ (Nat.succ_ne_self _),⟨⟨_,he⟩,hit⟩,λb hb=>?_,q⟩;have fh:b=s1.heap.objs.size+1\/b=s1.heap.objs.size:=by simpa using hb
 rcases fh with z|z;·rw[z];exact I1.qO (RZ _) (I1.aQ.fresh (RZ _))
 ·rw[z];exact I1.qO (PH _) (I1.aQ.fresh (PH _))
end
theorem U7.get'{α β:Type}{F:α->β->Prop}{yq:List α}{yr:List β}(r:U7 F yq yr):∀{i:Nat} {x},yq[i]?=Δ x->∃u,yr[i]?=Δ u/\F x u:=by induction r with|nil=>intro i x e;simp at e|@cons a b as bs h t ih=>intro i x e;cases i with|zero=>simp at e;subst e;exact⟨b,rfl,h⟩|succ i=>simpa using ih (by simpa using e)
def Iti(d:Addr)(o:Obj)(kvs:List (Key×V)):It:=
 ⟨λi H=>H d=Δ (.cC o (.dK kvs))/\i < kvs.length,λi H x H'=>∃T k v,kvs[i]?=Δ (k,v)/\H T=Θ/\H'=upd H T (.tup [kV k,v])/\x=.ref T,λi H=>H d=Δ (.cC o (.dK kvs))/\kvs.length<=i⟩
theorem zw(ok:gf P w H h)(e:H d=Δ (.cC o (.dK kvs)))(ho:o.data=.dict es ep):
  ∃vs,KV kvs vs/\Heap.DictAt (bg P w) h d vs ep:=by
 obtain⟨h1,z,hs,vs,r,o',Lx,Ly,h2,h3,h4,h5⟩:=(show bA P w H h d (.cC o (.dK kvs)) from ok d _ e);rw[h1] at h2;cases h2;rw[ho] at h4;cases h4;exact⟨vs,r,o,es,h1,h3,ho,h5⟩
theorem zx(h:(bg P w).is k u=Λ):RelV (kV k) u:=by
 rcases bM h with ⟨i,t,rfl,rfl⟩|⟨x,t,rfl,rfl⟩
 ·exact⟨t,rfl⟩
 ·exact⟨t,rfl⟩
theorem iu:entryFor table "dict_itemiterator.__iter__"=Δ R1.«dict_keyiterator.__iter__»:=
 entryFor_alias (id':="dict_keyiterator.__iter__") (by kernel_rfl) rfl (by decide+kernel) (by kernel_rfl)
theorem nK(hit:IsItemIter s.heap it d i n ep ok ov)(h:Q (.ref it) s):wpAny (model prog w) A (Vy (.ref it)) Q E s:=by have ht:s.TypeIs (.ref it) "dict_itemiterator":=⟨_,hit,rfl⟩;refine wpAny_pyIter_slot ht F.slot_dict_itemiterator_iter (QF F.slot_dict_itemiterator_iter ht iu ?_ (F.args_dict_itemiterator_iter_1 _));show wpAny _ _ (ret (.ref it)) _ _ s;exact Py ⟨_,rfl,"dict_itemiterator",_,ht,F.slot_dict_itemiterator_next.lookup,h⟩
theorem uA{P:Qr}{w:World}{K:PD}{elts:List Expr}{kk:Nat}{pos:Pos}(d it:Addr)(o:Obj)(kvs:List (Key×V))(es:Array DictEntry)(ep:Nat)(ho:o.data=.dict es ep):
  Turn P w K (.Tuple elts kk pos) (Iti d o kvs) [it] it (λi h=>∃ok ov,IsItemIter h it d i kvs.length ep ok ov) where
 mem:=by simp
 obj:=λi h st b hb=>by
  obtain⟨ok,ov,he⟩:=st;have fh:b=it:=by simpa using hb
  rw[fh];exact⟨_,he,λv z=>nomatch z⟩
 keep:=λi h h' st k=>let ⟨ok,ov,he⟩:=st;⟨ok,ov,k it (by simp) _ he⟩
 item:=by
  intro X hP hw hK hc i η s σ H E I hf st hg;subst hP hw hK;obtain⟨hd,hi⟩:=hg;obtain⟨ok,ov,hit⟩:=st;obtain⟨vs,rel,da⟩:=zw I.aQ hd ho;have hlen:kvs.length=vs.length:=rel.length;obtain⟨f0,f1,f2,f3,f4,f5⟩:=hf it (by simp);obtain⟨⟨k,v⟩,A2⟩:∃p,kvs[i]?=Δ p:=⟨kvs[i],PV hi⟩;obtain⟨⟨k',u⟩,hu,ek,ru⟩:=U7.get' rel A2;cases (show k=k' from ek);rw[hlen] at hit;refine wpAny_pyNext_items_item hit da hu λkey h' hk out hT hsz xa=>?_;refine⟨_,rfl,?_⟩;refine wpAny_letOwnedTupleGo_items out λh2 Ju A0=>?_;have Ho:s.heap.objs.size≠it:=QX (PK hit);have rK:∀b o,b≠it->s.heap.get? b=Δ o->h2.get? b=Δ o:=λb o h1 q=>A0.extBut b o h1 (xa b o h1 q);have hn:H s.heap.objs.size=Θ:=I.aQ.fresh (PH _);have yv:∀b v,H b=Δ v->b≠it:=λb v q z=>by rw[z,f0] at q;cases q
  have Jv:h2.get? s.heap.objs.size=Δ {cls:=.type "tuple",data:=.seq #[key,u]}:=A0.extBut _ _ Ho hT;have I1:Inv X η σ (upd H s.heap.objs.size (.tup [kV k,v])) {s with heap:=h2}:=by
   refine I.step (g':=s.gens) (d':=s.drawn) (t':=s.toks) (ch:=[it]) (λb hb=>?_) (λb o _ _ hc q _=>rK b o (λz=>hc (by simp[z])) q) (λb o _ _ hc q _=>⟨o.slots,rK b o (λz=>hc (by simp[z])) q⟩)
    (λb o _ q n=>by rw[aw (Qe (PK q))];exact n) (λb o hc q=>⟨o,rK b o (λz=>hc (by simp[z])) q⟩) (λb xs q=>by rw[aw (aN q hn)];exact q) (λb o v q=>by rw[aw (aN q hn)];exact q)
    (λb ps q=>⟨#[],by rw[aw (aN q hn),q];simp⟩) (λm hm=>?_) (λb v' q=>?_) I.bare
   ·have fh:b=it:=by simpa using hb
    rw[fh];exact⟨f3,f1,f4,f5⟩
   ·obtain⟨o,es,ep,ll,r⟩:=hm;exact⟨o,es,ep,rK _ o (QP f1) ll,r⟩
   ·by_cases hb:b=s.heap.objs.size;·rw[hb,aF] at q;cases q;rw[hb];exact⟨by rw[QG];simp,[key,u],.cons (zx hk) (.cons ru .nil),⟨_,Jv,rfl,_,rfl⟩⟩
    ·rw[aw hb] at q;refine(I.aQ b v' q).jP (λc y hc qq=>?_) (λc qq=>by rw[aw (aN qq hn)];exact qq) λc xs qq=>by rw[aw (aN qq hn)];exact qq
     have:c≠it:=by
      rcases hc with z|z;·rw[z];exact yv b v' q
      ·exact yv c _ z
     exact rK c y this qq
  refine⟨.ref s.heap.objs.size,_,I1,rfl,⟨s.heap.objs.size,k,v,A2,hn,rfl,rfl⟩,⟨key,u,by rw[hlen];exact Ju⟩,λb hb=>?_⟩;have fh:b=it:=by simpa using hb
  rw[fh,aw (QP Ho)];exact f0
 done:=by intro X hP hw hK hc i η s σ H E I hf st hg;subst hP hw hK;obtain⟨hd,hi⟩:=hg;obtain⟨ok,ov,hit⟩:=st;obtain⟨vs,rel,da⟩:=zw I.aQ hd ho;have hlen:kvs.length=vs.length:=rel.length;obtain⟨f0,f1,f2,f3,f4,f5⟩:=hf it (by simp);rw[hlen] at hit;exact wpAny_pyNext_items_end (I.ok.hd hc) hit da (List.getElem?_eq_none (by lia)) λh' eb=>⟨rfl,I.turned (t':=s.toks) (λb o hb q=>eb b o hb q) f0 f1 f3 f4 f5⟩
 self:=λA i s Q E st h=>by obtain⟨ok,ov,he⟩:=st;exact nK he h
section
variable{X:Cx}{η:List (Addr×Obj)}{σ:St}{H:Hp}{s:PJ}
theorem Inv.re(I:Inv X η σ H s)(e:H d=Δ u)(h1:∀xs,u≠.tup xs)(h2:∀ps,u≠.iz ps)(h3:∀b,u≠.own b)(hf:∀o v,X.kR d=Δ (.cC o v)->u'=.cC o v)(new:bA X.prog X.w H s.heap d u'):Inv X η σ (upd H d u') s:=by
 have st:∀{b:Addr} {v:HO},bA X.prog X.w H s.heap b v->bA X.prog X.w (upd H d u') s.heap b v:=λx=>x.jP (λ_ _ _ q=>q) (λc q=>by
  rw[aw (λz=>by rw[z,e] at q;exact h3 _ (P4 q))];exact q) λc xs q=>by
  rw[aw (λz=>by rw[z,e] at q;exact h1 _ (P4 q))];exact q
 have nn:∀{b:Addr},H b=Θ->upd H d u' b=Θ:=λ{b} q=>by rw[aw (λz=>by rw[z,e] at q;cases q)];exact q
 refine⟨I.ok,I.os,I.bare,⟨I.base.keep,I.base.slot,λb o q n hx=>nn (I.base.free b o q n hx),I.base.there,λb xs q=>?_,λb o v q=>?_,λb ps q=>?_⟩,I.loc,I.cell,nn I.free,λx c q=>nn (I.dI x c q),λp hp=>?_,λb v q=>?_,I.len⟩;·have:=I.base.kQ b xs q;rw[aw (λz=>by rw[z,e] at this;exact h1 _ (P4 this))];exact this
 ·by_cases z:b=d;·rw[z] at q ⊢;rw[aF,hf o v q]
  ·rw[aw z];exact I.base.i4 b o v q
 ·obtain⟨more,this⟩:=I.base.jQ b ps q;exact⟨more,by rw[aw (λz=>by rw[z,e] at this;exact h2 _ (P4 this))];exact this⟩
 ·obtain⟨q1,q2,q3⟩:=I.pin p hp;exact⟨q1,nn q2,q3⟩
 ·by_cases z:b=d;·rw[z,aF] at q;cases q;rw[z];exact st new
  ·rw[aw z] at q;exact st (I.aQ b v q)
def NF(X:Cx)(d:Addr):Prop:=∀o v,X.kR d≠Δ (.cC o v)
theorem Inv.hold(I:Inv X η σ H s)(e:H d=Δ (.dK kvs)):∃o es ep,s.heap.get? d=Δ o/\o.data=.dict es ep/\NF X d/\Inv X η σ (upd H d (.cC o (.dK kvs))) s:=by
 have ok:bA X.prog X.w H s.heap d (.dK kvs):=I.aQ d _ e;obtain⟨z,hs,vs,r,o,es,ep,h2,h3,h4,h5⟩:=id ok;have nf:NF X d:=λo' v q=>by have:=I.base.i4 d o' v q;rw[e] at this;cases this
 exact⟨o,es,ep,h2,h4,nf,I.re e (λ_ z=>nomatch z) (λ_ z=>nomatch z) (λ_ z=>nomatch z) (λo' v q=>absurd q (nf o' v)) ⟨h2,ok⟩⟩
theorem Inv.xg(I:Inv X η σ H s)(e:H d=Δ (.cC o u))(nf:NF X d):Inv X η σ (upd H d u) s:=by obtain⟨h1,h2⟩:=(show bA X.prog X.w H s.heap d (.cC o u) from I.aQ d _ e);exact I.re e (λ_ z=>nomatch z) (λ_ z=>nomatch z) (λ_ z=>nomatch z) (λo' v q=>absurd q (nf o' v)) h2
def oz(X:Cx)(D:Ends):Ends where
 nx:=λσ H=>∃d o u,H d=Δ (.cC o u)/\NF X d/\D.nx σ (upd H d u)
 rt:=λv H=>∃d o u,H d=Δ (.cC o u)/\NF X d/\D.rt v (upd H d u)
 bk:=λσ H=>∃d o u,H d=Δ (.cC o u)/\NF X d/\D.bk σ (upd H d u)
 ct:=λσ H=>∃d o u,H d=Δ (.cC o u)/\NF X d/\D.ct σ (upd H d u)
theorem BQ{st:Stmt}(h:PS X st t):PS X st (λD σ H=>t (oz X D) σ H):=by intro η s σ H D I q;refine bG (h η s σ H _ I q) λf s1 q1=>?_;cases f with|next=>obtain⟨bZ,H',I',d,o,u,e,nf,q'⟩:=q1;exact⟨bZ,_,I'.xg e nf,q'⟩|brk=>obtain⟨bZ,H',I',d,o,u,e,nf,q'⟩:=q1;exact⟨bZ,_,I'.xg e nf,q'⟩|cont=>obtain⟨bZ,H',I',d,o,u,e,nf,q'⟩:=q1;exact⟨bZ,_,I'.xg e nf,q'⟩|ret w'=>obtain⟨v,bZ,H',I',r,d,o,u,e,nf,q'⟩:=q1;exact⟨v,bZ,_,I'.xg e nf,r,q'⟩
end
section
variable{X:Cx}
def EW(X:Cx)(td:TE):TI:=λσ H R=>td σ H λx H1=>∃d kvs,x=.ref d/\H1 d=Δ (.dK kvs)/\∀o,NF X d->R (Iti d o kvs) (upd H1 d (.cC o (.dK kvs)))
theorem zy(ho:PE X x td)(qV:RL x "items" X.env (eval x X.env)=eval x X.env)(iB:(apos.endLine==cM.line)=Λ):
  PI X (.Tuple elts kk p3) (.Call (.Attribute x "items" apos) [] [] cM) (EW X td):=by
 intro η s σ H R I h;refine wpAny_Call_method0_late qV iB (bG (ho η s σ H _ I h) λv s1 ⟨y,H1,I1,r1,d,kvs,ey,ed,q1⟩=>?_);subst ey;cases r1;obtain⟨t1,t2,NQ⟩:=uh I1 (.inl ⟨kvs,.inl ed⟩);refine⟨"dict","dict.items",RR,PySem.F.slot_dict_items,PySem.F.type_dict_items,t1,t2,Q6 rfl (PySem.evalArgs_none ?_)⟩;obtain⟨o,es,ep,ll,yu,nf,I2⟩:=I1.hold ed;obtain⟨vs,rel,da⟩:=zw I2.aQ aF yu;have dd:Heap.DictOf (bg X.prog X.w) s1.heap d vs:=da.dictOf;refine Tp PySem.F.slot_dict_items dd.typeIs PySem.F.entry_dict_items (PySem.F.args_dict_items_1 _) (meets_dict_items (bg X.prog X.w) d NQ) ⟨⟨vs,dd⟩,?_⟩;have hv:Heap.IsItemsView (s1.heap.push {cls:=.type "dict_items",data:=.fields #[.ref d]}) s1.heap.objs.size d:=⟨_,PR _ rfl,rfl,rfl⟩;refine wpAny_pyIter_items (knd:=bg X.prog X.w) (ep:=ep) (kvs:=vs) hv (da.at' λo' q=>Px _ q) ?_;have hlen:kvs.length=vs.length:=rel.length;have I3:Inv X η σ (upd H1 d (.cC o (.dK kvs))) {s1 with heap:=s1.heap.push {cls:=.type "dict_items",data:=.fields #[.ref d]}}:=I2.kept (t':=s1.toks) λb o' q=>Px _ q;refine⟨_,[_],_,_,_,rfl,I3.kept (t':=s1.toks) λb o' q=>Px _ q,uA d _ o kvs es ep yu,⟨.none,.none,?_⟩,λb hb=>?_,q1 o nf⟩;·rw[hlen];exact PR _ rfl
 ·have fh:b=(s1.heap.push {cls:=.type "dict_items",data:=.fields #[.ref d]}).objs.size:=by simpa using hb
  rw[fh];exact I3.qO (PH _) (I3.aQ.fresh (PH _))
theorem xh(rel:KV kvs vs):∀{us},us.length=vs.length->(∀(j:Nat) (v),us[j]?=Δ v->∃k x,vs[j]?=Δ (k,x)/\(bg P w).is k v=Λ)->aL (kvs.map λkv=>kV kv.1) us:=by
 unfold KV at rel;induction rel with
 |nil=>intro us hl h;cases us with|nil=>exact .nil|cons _ _=>simp at hl
 |@cons p q ps qs e t ih=>
  intro us hl h;cases us with
  |nil=>simp at hl|cons v us=>
   refine .cons ?_ (ih (by simpa using hl) λj v' hv=>h (j+1) v' (by simpa using hv));obtain⟨k,x,hk,hi⟩:=h 0 v rfl;simp at hk;have e1:p.1=k:=by rw[e.1,hk]
   show RelV (kV p.1) v;rw[e1];exact zx hi
theorem nM(hc:X.calm=Λ):cY X (.type "list") (λxs H Q=>∃p kvs,xs=[.ref p]/\H p=Δ (.dK kvs)/\∀l,H l=Θ->Q (.ref l) (upd H l (.lst (kvs.map λkv=>kV kv.1)))):=by intro η s σ H xs us Q I r h;obtain⟨p,kvs,rfl,hq,q⟩:=h;obtain⟨u,rfl,rx⟩:=vals1 r;cases rx;obtain⟨z,NQ,vs,rel,dd⟩:=ot I.aQ hq;have hlen:kvs.length=vs.length:=rel.length;obtain⟨ep,da⟩:=dd.dictAt;refine PySem.W.kdl_call (PySem.W.kdl_dict (knd:=bg X.prog X.w) (kvs:=vs) (ep:=ep) NQ) (I.ok.hd hc) da (by lia) λh' tk acc c' kp e io=>?_;obtain⟨hsz,hit⟩:=io;have rv:aL (kvs.map λkv=>kV kv.1) acc.toList:=xh rel (by simpa using hsz) λj v hv=>hit j v (by simpa using hv);refine⟨.ref s.heap.objs.size,_,I.laid (t':=tk) kp (PH _) (show bA X.prog X.w _ h' _ (.lst (kvs.map λkv=>kV kv.1)) from⟨by simpa using z,acc.toList,c',rv,by simpa using e⟩),rfl,q _ (I.aQ.fresh (PH _))⟩
end
def EX(tk tv:TE):TE:=λσ H Q=>∀p,H p=Θ->tk σ (upd H p (.dT [])) λx H1=>tv σ H1 λy H2=>H2 p=Δ (.dT [])/\∃ks b,x=.ref b/\H2 b=Δ (.tup (ks.map kV))/\Q (.ref p) (upd H2 p (.dT [(ks,y)]))
theorem zA(hu:X.A.units+1 < cLine)(hk:PE X k tk)(hv:PE X v tv):PE X (.Dict [Δ k] [v] pos) (EX tk tv):=by
 intro η s σ H Q I q;have hn:=I.aQ.fresh (PH s.heap.objs.size);have I1:=I.laid (a:=s.heap.objs.size) (o:=.dT []) (h':=s.heap.push {cls:=.type "dict",data:=.dict #[]}) (t':=s.toks) (λ_ _ q=>Px _ q) (PH _) (rg s.heap I.LJ);rw[arm_eval_Dict];have e0:(evalEachOpt [Δ k] X.env).zip (List.map (λv=>do let x<-v;Uu pos;pure x) (evalEach [v] X.env))=List.map (λp=>(Δ p.1,p.2)) (pairTrees [Δ k] [v] X.env pos):=by rfl
 rw[e0,dictDisplay_pairs (pairTrees [Δ k] [v] X.env pos) (List.cons_ne_nil _ _) (Nat.le_of_ble_eq_true rfl)];refine Pu (UW (Pu (wpAny_subDict_any (Nat.le_of_ble_eq_true rfl) (bG ((rj hk hv vM) η _ σ _ (λps H2=>match ps with
  |[(x,y)]=>H2 s.heap.objs.size=Δ (.dT [])/\∃ks b,x=.ref b/\H2 b=Δ (.tup (ks.map kV))/\Q (.ref s.heap.objs.size) (upd H2 s.heap.objs.size (.dT [(ks,y)]))
  |_=>False) I1 (q _ hn)) λws s2 ⟨ps,H2,I2,rel,h⟩=>?_))))
 cases rel with
 |nil=>exact h.elim|@cons p1 q1 ps1 qs1 r rs=>
  cases rs with
  |cons _ _=>exact h.elim|nil=>
  obtain⟨x,y⟩:=p1;obtain⟨w1,w2⟩:=q1;obtain⟨e,ks,b,ex,eb,q2⟩:=h;subst ex;cases (show w1=PZ b from r.1);obtain⟨z,hd,xs,rl,dd⟩:=Dl I2.aQ e;cases rl;unfold storeAll;rw[R5];have room:(Ui (bg X.prog X.w)).room X.A:=by
   show X.A.units < cLine
   lia
  refine Pu (Pu (wpAny_dictSet_heap room (jW I2.aQ eb) dd (λh' qG hs=>Py ?_) (by simp)));dsimp only;rw[SU];refine Py (Py ?_);obtain⟨qq,es,ep,hq,h2,h3,h4,_,h5⟩:=qG;refine⟨.ref s.heap.objs.size,_,fL (ob:=.dT [(ks,y)]) I2 (by rw[e];exact QM) hs ⟨qq,hq⟩ ⟨by simp[QG],hd,_,(KT.put (H:=H2) .nil ks eb r.2).keeps λc ys ec=>?_,qq,es,ep,hq,h2,h3,h4,h5⟩,rfl,q2⟩;rw[aw (C8 ec e (λz=>nomatch z))];exact ec
section
open PySem.W (hideAll of_hideAll hideAll_get funFrames_hide)
section
variable{P:Qr}{w:World}{H:Hp}{h h1 h' B base:Heap}{l:List Env}
noncomputable def Hq(B:Heap)(fs:List Addr)(H':Hp)(h0 h:Heap):Prop:=∀b o,h.get? b=Δ o->(H' b≠Θ\/∃o',h0.get? b=Δ o')->b∉fs->B.get? b=Δ o
theorem gf.at(ok:gf P w H h)(e:H a=Δ o):∃u,h.get? a=Δ u:=by have x:=ok a o e;cases o with|lst xs=>obtain⟨_,_,_,_,e⟩:=x;exact⟨_,e⟩|tup xs=>obtain⟨_,_,_,o,e,_⟩:=x;exact⟨_,e⟩|dK kvs=>obtain⟨_,_,_,_,o,_,_,e,_⟩:=x;exact⟨_,e⟩|dT kvs=>obtain⟨_,_,_,_,o,_,_,e,_⟩:=x;exact⟨_,e⟩|set S n=>obtain⟨o,_,_,_,e,_⟩:=x;exact⟨_,e⟩|ins C dx fs=>obtain⟨_,_,_,e,_⟩:=x;exact⟨_,e⟩|own y=>exact x|xd fs=>obtain⟨_,⟨_,_,_,e,_⟩,_⟩:=x;exact⟨_,e⟩|gd lo hi=>obtain⟨_,_,_,e⟩:=x;exact⟨_,e⟩|cC ob u=>obtain⟨e,_⟩:=x;exact⟨_,e⟩|iz ps=>exact⟨_,show h.get? a=Δ _ from x⟩|met f y=>exact⟨_,show h.get? a=Δ _ from x⟩|ext φ=>obtain⟨_,e,_⟩:=x;exact e
theorem gx(un:Un (gi l) [] H H' h0 h)(ok:gf P w H' h)(xi:Hq B (gi l) H' h0 h)(st:∀b o,B.get? b=Δ o->h'.get? b=Δ o)(us:h.UpToSlots h')(fr:h0.FunFrames base l)(hf:∀b∈gi l,H b=Θ):Un (gi l) [] H H' h0 h'/\gf P w H' h'/\Hq B (gi l) H' h0 h':=by
 have sl:∀b o,h0.get? b=Δ o->b∈gi l->∃sl,h'.get? b=Δ {o with slots:=sl}:=λb o e m=>by obtain⟨_,o',e',q⟩:=fr.mem m;rw[e] at e';cases e';obtain⟨s1,e1⟩:=un.slot b o e (hf b m) m (λz=>nomatch z);obtain⟨s2,e2⟩:=us b _ e1 q;exact⟨s2,e2⟩
 have fn:∀b∈gi l,H' b=Θ:=λb m=>by obtain⟨_,o',e',_⟩:=fr.mem m;exact un.free b o' e' (hf b m) (λz=>nomatch z)
 have kp:∀b o,h.get? b=Δ o->(H' b≠Θ\/∃o',h0.get? b=Δ o')->b∉gi l->h'.get? b=Δ o:=λb o e c m=>st b o (xi b o e c m);refine⟨⟨λb o e n m x=>kp b o (un.keep b o e n m x) (.inr ⟨o,e⟩) m,λb o e _ m _=>sl b o e m,un.free,λb o e x=>?_,un.kQ,un.i4,un.jQ⟩,λa o e=>?_,λb o e c m=>?_⟩
 ·by_cases m:b∈gi l;·obtain⟨s,e'⟩:=sl b o e m;exact⟨_,e'⟩
  ·obtain⟨o',e'⟩:=un.there b o e x;exact⟨o',kp b o' e' (.inr ⟨o,e⟩) m⟩
 ·refine(ok a o e).jP (λb u q1 q2=>?_) (λ_ q=>q) λ_ _ q=>q;have hb:H' b≠Θ:=by
   rcases q1 with rfl|q1;·rw[e];exact λz=>nomatch z
   ·rw[q1];exact λz=>nomatch z
  exact kp b u q2 (.inl hb) λm=>hb (fn b m)
 ·have:∃o1,h.get? b=Δ o1:=by
   rcases c with c|⟨o',c⟩;·cases q:H' b with|none=>exact absurd q c|some u=>exact ok.at q
   ·exact un.there b o' c (λz=>nomatch z)
  obtain⟨o1,e1⟩:=this;have:=kp b o1 e1 c m;rw[e] at this;cases this;exact xi b o e1 c m
def kF(P:Qr)(w:World)(C:Addr):vF:=λouter H s E e s'=>∃ea t B H',e=.ref ea/\s'.os=s.os/\Tu s'.gens/\Un (gi outer) [] H H' s.heap s'.heap/\gf P w H' s'.heap/\Hq B (gi outer) H' s.heap s'.heap/\
 Heap.FlyingW B outer ea (.ref C) (.ref t) s'.heap/\E e (Δ t) H'
theorem zB(I:Inv X η σ H s)(hs:X.stack=X.env::X.outer)(hf:X.env.frame=Δ X.env.locals)(hex:X.ex=[])(hx:Heap.MadeExcOf s.heap h' e (.ref C) args)(hE:∀t,E (.ref e) (Δ t) H):
  wpAny (model X.prog X.w) X.A (Vs X.env (.ref e)) (λ_ yQ=>kF X.prog X.w C X.outer X.kR X.cQ E (.ref e) yQ) EE {s with heap:=h'}:=by
 have e0:=I.qR;have EY:X.A.frames=Δ (X.env::X.outer):=hs▸e0.frames;have HV:s.heap.FunFrames X.base (X.env::X.outer):=hs▸e0.eM;have hin:∀env∈(X.env::X.outer),∀b,env.frame=Δ b->b∈gi (X.env::X.outer):=λenv he b hb=>List.mem_filterMap.mpr ⟨env,he,hb⟩;refine wpAny_leaves_madeW (s:={s with heap:=h'}) (base:=hideAll s.heap (gi (X.env::X.outer))) EY hf (λb o q=>of_hideAll _ q) (funFrames_hide HV hin) hx λh2 t x1 x2 x3 x4=>?_;have us:s.heap.UpToSlots h2:=(Heap.UpToSlots.of_keeps hx.keeps).trans x4;have xi:Hq (hideAll s.heap (gi (X.env::X.outer))) (gi X.outer) H X.cQ.heap s.heap:=λb o q c m=>hideAll_get _ q λhm=>by
  obtain⟨env,he,zC⟩:=List.mem_filterMap.mp hm;rcases Ub.mp he with rfl|he
  ·rw[hf] at zC;cases zC;rcases c with c|⟨o',c⟩;·exact c I.free
   ·exact absurd (PK c) (Nat.not_lt.mpr I.ok.above)
  ·exact m (List.mem_filterMap.mpr ⟨env,he,zC⟩)
 have ub:Un (gi X.outer) [] X.kR H X.cQ.heap s.heap:=hex▸I.base;obtain⟨u1,u2,u3⟩:=gx ub I.aQ xi x1.1 us I.ok.eM I.ok.tG;exact⟨e,t,_,H,rfl,I.os,I.bare,u1,u2,u3,x1,hE t⟩
end
end
section
open PySem.W (excIn tail_of_in isNs_of_in nsMap_none_of_in)
section
variable{X:Cx}{E:XK}
theorem BR{K:PD}(IN:K.In h)(q:excIn K C bmB newId=Λ):∃bm N nm qn bs hdct sn sub ab col dd k0 k1 k2 k3 k5 mN,
  h.get? C=Δ (excClassObj nm qn C N bs bm hdct sn sub ab col dd k0 k1 k2 k3 k5 newId)/\h.Ns N mN/\mN "__init__"=Θ/\OwnTail h bmB bm:=by
 unfold excIn at q;split at q
 ·rename_i dd cd sl ho;split at q
  ·rename_i C' bm k0 k1 k2 k3 n k5 hm hs;simp only[Pw,beq_iff_eq,PY] at q;obtain⟨⟨⟨⟨⟨rfl,rfl⟩,JB⟩,ht⟩,aQ⟩,LY⟩:=q;obtain⟨nm,bs,mro,ns,qn,hd,sn,sub,ab,col,del⟩:=cd;dsimp only at hm JB aQ LY;subst hm JB;obtain rfl:sl=#[k0,k1,k2,k3,Δ (.builtin n),k5]:=by obtain⟨l⟩:=sl;simp only at hs;rw[hs]
   exact⟨bm,ns,nm,qn,bs,hd,sn,sub,ab,col,dd,k0,k1,k2,k3,k5,_,IN _ _ ho,.of_isNs (isNs_of_in IN aQ),nsMap_none_of_in IN aQ LY,tail_of_in IN ht⟩
  ·cases q
 ·cases q
theorem zD(Fn:UD Bn newId NR NS)(hBn:bm.contains (.type Bn)=Λ)(FB:UD B NT uB bm)(q:excIn X.K C bm newId=Λ)(hm:X.mg x=Δ (.ref C))(hg:Gl X x)(hc:X.calm=Λ)(hx:∀(η:List (Addr×Obj)) (σ:St) (H:Hp) (s:PJ) (h':Heap) (e:Addr) (args:List Value),Inv X η σ H s->Heap.MadeExcOf s.heap h' e (.ref C) args->(∀t,E (.ref e) (Δ t) H)->X.xe (.ref e) {s with heap:=h'})(hd:(x==("__debug__":Str))=Ξ:=by decide):
  PS X (.Raise (Δ (.Call (.Name x np) [.Constant (.str msg) j cp] [] cM)) Θ pos) (λ_ _ H=>∀e t,E (.ref e) (Δ t) H):=by
 intro η s σ H D I h;obtain⟨tl,N,nm,qn,bs,hdct,sn,sub,ab,col,dd,k0,k1,k2,k3,k5,mN,hC,hN,LY,T⟩:=BR I.ok.mod.tu q;refine wpAny_Raise_call_subU (C:=C) (nm:=nm) (q:=qn) (N:=N) (bs:=bs) (bm:=tl) (hdct:=hdct) (sn:=sn) (sub:=sub) (ab:=ab) (col:=col) (dd:=dd) (k0:=k0) (k1:=k1) (k2:=k2) (k3:=k3) (k5:=k5)
  Fn hBn FB (mN:=mN) (T.hasType FB.hasBase) (I.ok.hd hc) rfl LY (i6 I hg hm ⟨rfl,?_⟩ hd)
 refine RJ (bG ((cj pC ez) cM η s σ H (λvs H1=>vs.length=1/\H1=H) I ⟨rfl,rfl⟩) λus s2 ⟨vs,H1,I1,r,hl,e1⟩=>?_);subst e1;exact⟨rfl,by rw[<-r.length,hl];decide,I1.bk _ _ hC,hN.keeps I1.bk,T.keeps I1.bk,λh' e hm=>hx η σ H1 s2 h' e us I1 hm (h e)⟩
end
end
end L2
namespace L2
open PySem PySem.Spec PyProof.Rows PySem.W
section
variable{X:Cx}{E:XK}
end
section
variable{X:Cx}
end
end L2
namespace L2
open PySem PySem.Spec PyProof.Rows PySem.W PySem.Calls
section
variable{X:Cx}{E:XK}
abbrev Cx.held(X:Cx)(ea:Addr)(ob:Obj):Cx:={X with A:=X.A.mark (Δ (.ref ea)),calm:=Ξ,pn:=(ea,ob)::X.pn,xe:=λ_ _=>False}
theorem Inv.held(I:Inv X ((ea,ob)::η) σ H s):Inv (X.held ea ob) η σ H s:=
 ⟨⟨I.ok.mod,I.ok.kind,I.ok.glob,I.ok.blt,I.ok.above,I.ok.inj,I.ok.has,I.ok.Dc,λz=>(Bool.noConfusion z),I.ok.frames,I.ok.DX,I.ok.HR,I.ok.bs,I.ok.yg,I.ok.qM,I.ok.tF,I.ok.eM,I.ok.tG⟩,
  I.os,I.bare,I.base,I.loc,I.cell,I.free,I.dI,λp hp=>I.pin p (by
   rcases List.mem_append.mp hp with z|z
   ·rcases Ub.mp z with z|z;·exact P9 _ (z▸PC)
    ·exact QB _ z
   ·exact P9 _ (Pz _ z)),I.aQ,I.len⟩
theorem Inv.EZ(ok:X.Ok)(I:Inv (X.held ea ob) η σ H s):Inv X η σ H s:=
 ⟨ok,I.os,I.bare,I.base,I.loc,I.cell,I.free,I.dI,λp hp=>I.pin p (by
   rcases List.mem_append.mp hp with z|z;·exact QB _ (Pz _ z)
   ·exact P9 _ z),I.aQ,I.len⟩
theorem Inv.gone(I:Inv X η σ H s)(pz:h'.Ns X.env.locals m')(hs:Q5 X.env.locals s.heap h'):
  Inv X η (Qo X.N.length Θ) H {s with heap:=h',toks:=t}:=by
 have ne:∀{b:Addr} {o:Obj},X.cQ.heap.get? b=Δ o->b≠X.env.locals:=λe=>Qe (P0 (PK e) I.ok.above);refine⟨I.ok,I.os,I.bare,⟨λb o e n hb hx=>(hs.2 b (ne e)).trans (I.base.keep b o e n hb hx),λb o e n hb hx=>?_,I.base.free,λb o e hx=>?_,I.base.kQ,I.base.i4,I.base.jQ⟩,⟨m',pz,λj y v' e1 e2 e3=>?_⟩,λy c e=>?_,I.free,I.dI,λp hp=>?_,λb o e=>?_,by simp⟩;·obtain⟨sl,e1⟩:=I.base.slot b o e n hb hx;exact⟨sl,(hs.2 b (ne e)).trans e1⟩
 ·obtain⟨o',e1⟩:=I.base.there b o e hx;exact⟨o',(hs.2 b (ne e)).trans e1⟩
 ·rw[RV] at e2;split at e2<;>cases e2
 ·obtain⟨w',z⟩:=I.cell y c e;exact⟨w',z.sameBut hs (I.Dd y c e)⟩
 ·obtain⟨e,n,ne',nf,d⟩:=I.pin p hp;exact⟨(hs.2 p.1 ne').trans e,n,ne',nf,d⟩
 ·refine(I.aQ b o e).jP (λc w' hc q=>(hs.2 c ?_).trans q) (λ_ q=>q) λ_ _ q=>q;rintro rfl;rcases hc with z|z;·rw[<-z,I.free] at e;cases e
  ·rw[I.free] at z;cases z
theorem zE{K:Frag}{HH:Heap->Prop}(ty:∀(M:Model) (h:Heap),HH h->Looks M h (Vk x) t)(e:kitOne K t c=Δ Λ):Answers (λs=>K.In s.heap/\HH s.heap) x c Λ:=by
 intro dep tk prog w A R s hs;obtain⟨h0,g,d,tt,os⟩:=s;obtain⟨⟨tu,p⟩,hq⟩:=hs;have lt:=ty (model prog w) h0 p;unfold kitOne at e;unfold R1.«isinstance.nested»;refine Pu (lt.at ?_);by_cases q:(t==c)=Λ
 ·rw[if_pos q]
  (repeat lk);exact hq tt
 ·rw[if_neg q] at e ⊢;obtain⟨k1,k2,k3⟩:=kit_cls (M:=model prog w) tu e;have li:Looks (model prog w) h0 (U6 x c) Λ:=lt.andThen k3;refine Pu (k1.at ?_);rw[if_pos (by decide)]
  k_delta "plainIsInstance"
  refine Pu (Pu (k2.at ?_));simp only[Ue,QD,if_false];refine Pu (li.at ?_);exact Py (Py (hq tt))
theorem oA(ho:ob.cls=.ref C)(e:kitOne X.K (.ref C) c=Δ Λ)(hv:∀u,RelV v u->u=c):
  cY (X.held ea ob) (.builtin "isinstance") (λxs H Q=>xs=[.ref ea,v]/\Q (.bl Λ) H):=by
 intro η s σ H xs us Q I NU h;obtain⟨rfl,h⟩:=h;obtain⟨u1,u2,rfl,r1,r2⟩:=aL.two NU;cases (show u1=PZ ea from r1);obtain rfl:=hv u2 r2;have zF:s.heap.get? ea=Δ ob:=(I.pin (ea,ob) (QB _ PC)).1;refine call_isinstance (S:=λ_ R s=>(X.K.In s.heap/\∃o,s.heap.get? ea=Δ o/\o.cls=.ref C)/\∀tk,R (.ok (.ret (.bool Λ))) {s with toks:=tk})
  (λprog w A R s hs=>isinstance_outer (zE (HH:=λh=>∃o,h.get? ea=Δ o/\o.cls=.ref C) (λM h ⟨o,h1,h2⟩=>h2▸(Looks.ld h1).andThen .now) e 0 _ prog w A R s hs) (λz=>nomatch z)) ⟨⟨I.iY,ob,zF,ho⟩,λtk=>?_⟩
 exact⟨.bl Λ,H,I.tok tk,rfl,h⟩
theorem zG{rest:List ExceptHandler}(I:Inv X η σ H s)(hs:X.stack=X.env::X.outer)(hf:X.env.frame=Δ X.env.locals)(F:kF X.prog X.w C X.stack H s E e s')(hx:exmOne X.K (.ref C) (.ref Y)=Δ Λ)(hm:X.mg x=Δ (.ref Y))(hg:Gl X x)(hN:X.N.Nodup)(hi:X.N[ix]?=Δ n)(hl:X.env.scope.names.lookup n=Δ .local)(k:∀ea t H' ob s6,e=.ref ea->E e (Δ t) H'->ob.cls=.ref C->Inv (X.held ea ob) η (σ.set ix (Δ (.ref ea))) H' s6->wpAny (model X.prog X.w) (X.A.mark (Δ (.ref ea))) (execs (NV::JC) X.env) (SP (X.held ea ob) η {nx:=λ_ _=>False,rt:=D.rt}) (λ_ _=>False) s6)(hd:(x==("__debug__":Str))=Ξ:=by decide):
  wpAny (model X.prog X.w) X.A (noteFrame e X.env) (λ_ pA=>wpAny (model X.prog X.w) X.A (setFlight e Θ) (λ_ BJ=>wpAny (model X.prog X.w) X.A (handleBy e X.env (.ExceptHandler (Δ (.Name x np)) (Δ n) (NV::JC) pos::rest)) (SP X η D) E' BJ) E' pA) E' s':=by
 obtain⟨ea,t,B,H',rfl,os,bare,un,ok,xi,A3,JD⟩:=F;have e0:=I.qR;have EY:X.A.frames=Δ (X.env::X.outer):=hs▸e0.frames;rw[hs] at A3;have inv:∀h5,(∀b o,B.get? b=Δ o->h5.get? b=Δ o)->s'.heap.UpToSlots h5->Inv X η σ H' {s' with heap:=h5}/\Hq B (gi X.stack) H' s.heap h5:=λh5 st us=>by obtain⟨u1,u2,u3⟩:=gx un ok xi st us e0.eM e0.tG;obtain⟨v,H2,I2,_,rfl⟩:=I.after (Q:=λ_ H2=>H2=H') (u:=.none) (s':={s' with heap:=h5}) ⟨.aU,H',os,bare,u1,u2,rfl,rfl⟩;exact⟨I2,u3⟩
 refine wpAny_looks_onW EY hf A3 λh4 JE LZ=>?_;refine wpAny_landsW JE λh5 zH us5=>?_;obtain⟨I5,_⟩:=inv h5 zH.1 (LZ.trans us5);obtain⟨ob5,NW,JF⟩:=zH.there;refine wpAny_handleBy_cons (codeAny_handlers_test (Se I.ok.kind hg (Calls.loadGlobal_global (by rw[I.ok.glob];exact I.mod.glob.keeps I5.bk) hm ?_) hd)) (by intro q;cases q);refine(exm_one I5.iY (JF▸(Looks.ld NW).andThen .now) hx).here (codeAny_handlers_suite_as ?_);refine lands_againW zH λh6 JG NX=>?_;obtain⟨I6,NY⟩:=inv h6 JG.1 ((LZ.trans us5).trans NX);obtain⟨_,f2,f3,oe,ws,T,oT,ts,he,hc,hda,_⟩:=id JG;have NZ:ea∉gi X.stack:=λm=>by rw[hs] at m;obtain⟨_,o,ho,IK⟩:=f3.mem m;rw[he] at ho;cases ho;exact IK _ hda
 have nH:H' ea=Θ:=by cases q:H' ea with|none=>rfl|some u=>have:=NY ea oe he (.inl (by rw[q];exact λz=>nomatch z)) NZ;rw[f2] at this;cases this
 have nL:ea≠X.env.locals:=λz=>NZ (by rw[hs,z];exact List.mem_filterMap.mpr ⟨X.env,PC,hf⟩);have nF:ea∉X.fs:=λz=>NZ (by rw[hs];obtain⟨v,h1,h2⟩:=List.mem_filterMap.mp z;exact List.mem_filterMap.mpr ⟨v,Pz _ h1,h2⟩);have I6':Inv X ((ea,oe)::η) σ H' {s' with heap:=h6}:=I6.lq λp hp=>by
  rcases Ub.mp hp with z|z;·subst z;exact⟨he,nH,nL,nF,λv=>by rw[hda];exact λz=>nomatch z⟩
  ·exact I6.pin p (P9 _ z)
 refine lM I6' hN hi (.inl hl) (v:=.ref ea) rfl (λs7 I7=>?_) (.inr hl);refine QY (k ea t H' oe s7 rfl JD hc.1 I7.held) (λf s8 h8=>?_) λ_ _ z=>Q1 z;cases f with|ret u=>obtain⟨v,bZ,H2,I8,rv,hq⟩:=h8;have I9:=I8.EZ I.ok;obtain⟨m,hn,_⟩:=I9.loc;refine wpAny_nameGoes hl hn (by rw[I.ok.kind];rfl) λh' m' pz hsb=>?_;exact⟨v,_,H2,I9.gone pz hsb,rv,hq⟩|next=>obtain⟨_,_,_,z⟩:=h8;exact Q1 z|brk=>obtain⟨_,_,_,z⟩:=h8;exact Q1 z|cont=>obtain⟨_,_,_,z⟩:=h8;exact Q1 z
end
end L2
namespace L2
open PySem PySem.Spec PyProof.Rows PySem.W
section
variable{X:Cx}
end
noncomputable def zI(M:Model)(A:QJ)(E:Value->PJ->Prop)(Q:Value->PJ->Prop)(acc:Value)(cenv:Env):Result->PJ->Prop
 |.ok _,s'=>∃m,s'.heap.Ns cenv.locals m/\∀h',Q5 cenv.locals s'.heap h'->Q acc {s' with heap:=h'}|.error x,s'=>∃m,s'.heap.Ns cenv.locals m/\∀h',Q5 cenv.locals s'.heap h'->wpAny M A (passOn "comprehension.variables-let-go" x cenv:Sem Value) (λ_ _=>False) E {s' with heap:=h'}
theorem xj(hc:clausesOf e=g::gs)(hs:∀x,TV g.iter env x=pure x)(ho:Vv sc env=pure cl)(hk:sc.kind=.function)(hn:∀x∈sc.names,x.2=.local->sc.names.lookup x.1=Δ .local)(h:wpAny M A first (λx s1=>wpAny M A (Vy x) (λit s2=>wpAny M A new (λacc s3=>wpAny M A (newFunctionEnv sc env.globals cl [] env.qual Θ .none (Δ env)) (λce s4=>SI M A (.compStart e 0 it acc {ce with scope:=Vr sc env}) (zI M A E Q acc {ce with scope:=Vr sc env}) s4) E s3) E s2) E s1) E s):
  wpAny M A (comprehension e sc env pos new Ξ first Θ) Q E s:=by
 unfold comprehension;rw[ho,hc];refine Pu (QY h (λx s1 h1=>Pu (UW (Pu (Vn (hs x) (Pu (Qu (QY h1 (λit s2 h2=>wpAny_standIf (Pu (QY h2 (λacc s3 h3=>Pu (Py (Pu (QY h3 (λce s4 h4=>?_) λ_ _ z=>z)))) λ_ _ z=>z))) λ_ _ z=>z))))))) λ_ _ z=>z);dsimp only;have hv:∀x∈(sc.names.filter λx=>(x.2==.local||x.2==.cell)&&x.1 !=(".0":Str)).reverse,x.2=.local->Env.kindOf {ce with scope:=Vr sc env} x.1=Δ .local:=
  λx hx hl=>lookup_relabel_local (hn x (List.mem_filter.mp (List.mem_reverse.mp hx)).1 hl)
 refine Qu (Pu (R6 (Qu (wpAny_run (SH h4 λr s' hr=>?_)))));cases r with|ok f=>obtain⟨m,n,hr⟩:=hr;exact Pu (Qu (wpAny_comp_letGo (cenv:={ce with scope:=Vr sc env}) hk _ s' m hv n λh' m' _ yj=>Py (hr h' yj)))|error x=>obtain⟨m,n,hr⟩:=hr;exact Pu (Qu (wpAny_comp_letGo (cenv:={ce with scope:=Vr sc env}) hk _ s' m hv n λh' m' _ yj=>QY (hr h' yj) (λ_ _ f=>f.elim) λ_ _ y=>y))
section
variable{prog:Qr}{w:World}{A:QJ}{R:Result->PJ->Prop}{s:PJ}
theorem uC(I:Nat->PJ->Prop)(hE:∀e s,E e s->notedBy (model prog w) A env (λx s'=>R (.error x) s') e s)(turn:∀n s,I n s->wpAny (model prog w) A (T8 it) (λr s1=>match r with
   |none=>R (.ok .next) s1
   |some v=>wpAny (model prog w) A (Tc tg it v) (λ_ s2=>wpAny (model prog w) A (assign tg env v) (λ_ s3=>
     wpAny (model prog w) A (forIn ifs Λ λc r=>if r=Λ then do let ok<-Vm c env (eval c env);pure (Rr ok) else pure (Rr r)) (λok s4=>
      if ok=Λ then wpAny (model prog w) A (eval elt env) (λx s5=>wpAny (model prog w) A (call (.builtin "list.append") [acc,x]) (λ_ s6=>∃m,m < n/\I m s6) E s5) E s4
      else ∃m,m < n/\I m s4) E s3) E s2) E s1) E s)n(h:I n s):SI (model prog w) A (.compLoop (.ListComp elt [⟨tg,iter,ifs,0⟩] sc pos) 0 it acc env) R s:=by
 refine codeAny_loop rfl I (λn s hI=>?_) n h;show wpAny _ A ((compTurn (.ListComp elt [⟨tg,iter,ifs,0⟩] sc pos) 0 it acc env).onRaise (λx=>do noteFrame x env;theTreesLotGoes x)) _ _ s;refine wpAny_noted ?_;rw[compTurn_list];refine Pu (UW (Pu (QY (turn n s hI) (λr s1 h1=>?_) hE)));cases r with|none=>exact Py h1|some v=>refine Pu (QY h1 (λ_ s2 h2=>?_) hE);refine Pu (QY h2 (λ_ s3 h3=>Pu (QY h3 (λok s4 h4=>?_) hE)) hE);cases ok with|false=>exact Py ⟨rfl,h4⟩|true=>exact Pu (Pu (QY h4 (λx s5 h5=>Pu (QY h5 (λ_ s6 h6=>Py (Py ⟨rfl,h6⟩)) hE)) hE))
end
abbrev j6(cx:vF)(Ex:XK)(X:Cx)(η:List (Addr×Obj))(N:List Str)(sc:Scope)(fp:List Addr)(C:Addr)(s:PJ)(H:Hp):Cx:=
 (AW X η N sc fp C s H).pD λe s'=>∃dc τ H1 s1,Inv (AW X η N sc fp C s H) dc τ H1 s1/\cx X.stack H1 s1 Ex e s'
def PB(cx:vF)(X:Cx)(Ex:XK):Prop:=∀(η:List (Addr×Obj)) (σ:St) (H:Hp) (s:PJ) (N:List Str) (ts:Nat) (js:List Nat) (sc:Scope) (fp:List Addr),fO X N ts js sc->∀(dc:List (Addr×Obj)) (τ:St) (H1:Hp) (s1:PJ) (e:Value) (s':PJ) (Q:Value->PJ->Prop) (acc:Value),
 Inv X η σ H s->(∀b∈fp,jR X η H b)->Inv (AW X η N sc fp s.heap.objs.size s H) dc τ H1 s1->cx X.stack H1 s1 Ex e s'->
  notedBy (model X.prog X.w) X.A (Vb sc (cn X.env sc.names []) s.heap.objs.size X.env) (λx yQ=>zI (model X.prog X.w) X.A X.xe Q acc (Vb sc (cn X.env sc.names []) s.heap.objs.size X.env) (.error x) yQ) e s'
section
variable{X:Cx}{elt iter tg:Expr}{ifs:List Expr}{sc:Scope}{pos:Pos}{N:List Str}{ts:Nat}{js:List Nat}{wi:TI}{g:TG}{tc:TT}{te:TE}
theorem zJ(pb:PB cx X Ex)(hc:X.calm=Λ)(B:fO X N ts js sc)(hi:PI X tg iter wi)(hg:∀η fp C s H,PG (j6 cx Ex X η N sc fp C s H) tg g)(ht:∀η fp C s H,AX (j6 cx Ex X η N sc fp C s H) ifs tc)(he:∀η fp C s H,PE (j6 cx Ex X η N sc fp C s H) elt te)(hs:∀x,TV iter X.env x=pure x:=by intro _;rfl):PE X (.ListComp elt [⟨tg,iter,ifs,0⟩] sc pos) (y1 wi g tc te ts js):=by
 intro η s σ H Q I h;rw[eval_ListComp];refine xj rfl hs (ui (B.cl I.ok)) B.kind B.names (bG (hi η s σ H _ I h) λv s1 h1=>bG h1 λMP s2 h2=>?_);obtain⟨it,fp,tn,J,H2,e,I2,T,aB,f2,ED⟩:=h2;subst e;have BN:H2 s2.heap.objs.size=Θ:=I2.aQ.fresh (PH _);obtain⟨W,⟨m0,w0⟩,turn⟩:=ED s2.heap.objs.size BN;refine Qt (wpAny_newFunctionEnv B.uj (by intro y hy;simp at hy) (λfR E0 E1=>?_) B.kind);obtain⟨s3,N0⟩:∃s3:PJ,({s2 with heap:=s2.heap.push {cls:=.type "list",dict:=Θ,data:=.seq ([]:List Value).toArray}}:PJ)=s3:=⟨_,rfl⟩;have e3:s3.heap=s2.heap.push {cls:=.type "list",dict:=Θ,data:=.seq ([]:List Value).toArray}:=by rw[<-N0]
 have E2:fR.Ns s3.heap.objs.size λx=>([]:List (Str×Value)).reverse.lookup x:=by rw[e3];exact E0
 have E3:Q5 s3.heap.objs.size (s3.heap.push {cls:=.type (if(Δ X.env).isSome then "dict" else "frame"),data:=.dict #[]}) fR:=by rw[e3];exact E1
 have I3:Inv X η σ (upd H2 s2.heap.objs.size (.lst [])) s3:=by rw[<-N0];exact I2.laid (t':=s2.toks) (λb u e=>Px _ e) (PH _) ⟨QH _,[],0,.nil,PR _ rfl⟩
 have lt2:∀b∈fp,b < s2.heap.objs.size:=λb hb=>by obtain⟨o,e,_⟩:=T.obj _ _ aB b hb;exact PK e
 have f3:∀b∈fp,jR X η (upd H2 s2.heap.objs.size (.lst [])) b:=λb hb=>⟨by rw[aw (Qe (lt2 b hb))];exact(f2 b hb).1,(f2 b hb).2⟩;have sz3:s2.heap.objs.size < s3.heap.objs.size:=by rw[e3,QU];exact RT _
 have lt3:∀b∈fp,b < s3.heap.objs.size:=λb hb=>Nat.lt_trans (lt2 b hb) sz3;have k1:∀b o,s3.heap.get? b=Δ o->fR.get? b=Δ o:=λb o e=>E3.extBut b o (Qe (PK e)) (Px _ e);have IB:=(I3.block (tk:=s3.toks+([]:List (Str×Value)).length) (N:=N) B f3 lt3 E2 k1).pD (λe s'=>∃dc τ H1 s1,Inv (AW X η N sc fp s3.heap.objs.size s3 (upd H2 s2.heap.objs.size (.lst []))) dc τ H1 s1/\cx X.stack H1 s1 Ex e s');have lA:tn 0 fR:=T.keep _ _ _ aB λb hb o e=>k1 b o (by rw[e3];exact Px _ e);have tQ:∀{H':Hp},(∀b∈fp,H' b=Θ)->∀b∈fp,jR (j6 cx Ex X η N sc fp s3.heap.objs.size s3 (upd H2 s2.heap.objs.size (.lst []))) [] H' b:=λhn b hb=>⟨hn b hb,Qe (lt3 b hb),I3.fpB (f3 b hb),.inl hb,λx c h=>(f3 b hb).2.2.2.2.1 x c (B.get I3.ok h),λp hp=>(f3 b hb).2.2.2.2.2 p (by simpa[AW] using hp)⟩;have loop:SI (model X.prog X.w) X.A (.compLoop (.ListComp elt [⟨tg,iter,ifs,0⟩] sc pos) 0 (.ref it) (.ref s2.heap.objs.size) (Vb sc (cn X.env sc.names []) s3.heap.objs.size X.env))
   (zI (model X.prog X.w) X.A X.xe (EP X η σ Q) (.ref s2.heap.objs.size) (Vb sc (cn X.env sc.names []) s3.heap.objs.size X.env)) {s3 with heap:=fR,toks:=s3.toks+([]:List (Str×Value)).length}:=by
  refine uC (E:=(j6 cx Ex X η N sc fp s3.heap.objs.size s3 (upd H2 s2.heap.objs.size (.lst []))).xe) (λn s'=>∃i τ H',Inv (j6 cx Ex X η N sc fp s3.heap.objs.size s3 (upd H2 s2.heap.objs.size (.lst []))) [] τ H' s'/\tn i s'.heap/\(∀b∈fp,H' b=Θ)/\W i n τ H') (λe s' ⟨dc,Hr,H1',s1',J',rn⟩=>pb η σ _ s3 N ts js sc fp B dc Hr H1' s1' e s' _ _ I3 f3 J' rn) ?_ m0
   ⟨0,fP ts js σ,_,IB,lA,λb hb=>(f3 b hb).1,w0⟩
  rintro n s5 ⟨i,τ,H5,I5,yh,LB,w5⟩;rcases turn i n τ H5 w5 with ⟨stop,qn⟩|⟨go,step⟩
  ·refine bG (T.done (j6 cx Ex X η N sc fp s3.heap.objs.size s3 (upd H2 s2.heap.objs.size (.lst []))) rfl rfl rfl hc i [] s5 τ H5 _ I5 (tQ LB) yh stop) λr s6 ⟨hr,I6⟩=>?_;subst hr;obtain⟨m,hn,_⟩:=I6.loc;exact⟨m,hn,λh' yj=>⟨.ref s2.heap.objs.size,H5,I3.rA f3 I6.lN yj,rfl,qn⟩⟩
  ·refine bG (T.item (j6 cx Ex X η N sc fp s3.heap.objs.size s3 (upd H2 s2.heap.objs.size (.lst []))) rfl rfl rfl hc i [] s5 τ H5 _ I5 (tQ LB) yh go) λr s6 ⟨u,hr,h6⟩=>?_;subst hr;refine bG h6 λ_ s7 ⟨x,H7,I7,r7,y7,N1,fr7⟩=>?_;have I7':=I7.pinned (tQ fr7) (T.obj _ _ N1);refine bG (hg _ _ _ _ _ _ s7 τ H7 x u _ I7' r7 (step x H7 y7)) λ_ s8 ⟨L0,H8,I8,q8⟩=>?_;refine bG (ht _ _ _ _ _ _ s8 L0 H8 _ I8 q8) λok s9 ⟨H9,I9,q9⟩=>?_;have again:∀{s':PJ} {Hr:St} {H':Hp},Inv (j6 cx Ex X η N sc fp s3.heap.objs.size s3 (upd H2 s2.heap.objs.size (.lst []))) ([]++lP fp s7.heap) Hr H' s'->(∃m',m' < n/\W (i+1) m' Hr H')->
     ∃m,m < n/\∃i τ H',Inv (j6 cx Ex X η N sc fp s3.heap.objs.size s3 (upd H2 s2.heap.objs.size (.lst []))) [] τ H' s'/\tn i s'.heap/\(∀b∈fp,H' b=Θ)/\W i m τ H':=λ{s' Hr H'} I' ⟨m',hm,w'⟩=>by
    refine⟨m',hm,i+1,Hr,H',I'.i7,T.keep _ _ _ N1 λb hb o e=>(I'.pin (b,o) (P9 _ (P9 _ (fK hb e)))).1,λb hb=>?_,w'⟩;obtain⟨o,e,d⟩:=T.obj _ _ N1 b hb;exact(I'.pin (b,o) (P9 _ (P9 _ (fK hb e)))).2.1
   cases ok with|false=>exact again I9 q9|true=>refine bG (he _ _ _ _ _ _ s9 L0 H9 _ I9 q9) λxv s10 ⟨y,H10,I10,r10,ys,ha,hz,q10⟩=>?_;refine bG (oo _ s10 L0 H10 (.ref s2.heap.objs.size) [y] (.ref s2.heap.objs.size) [xv] (λ_ H'=>∃m',m' < n/\W (i+1) m' L0 H') I10 rfl (.cons r10 .nil) ⟨_,ys,y,rfl,rfl,ha,hz,q10⟩) λ_ s11 ⟨_,H11,I11,_,q11⟩=>?_;exact again I11 q11
 subst N0;exact codeAny_compStart_list loop (T.self _ 0 _ _ _ lA loop)
end
section
variable{M:Model}{A:QJ}{EE:Value->PJ->Prop}{s:PJ}{B h h':Heap}{l:List Env}{e L C:Addr}{cls a0:Value}
theorem xk(x:U8 B l e cls a0 L h)(hC:B.get? C=Δ oC)(sb:Q5 C h h'):U8 (hideAll B [C]) l e cls a0 L h':=by
 obtain⟨f1,f2,f3,oe,vs,T,oT,ts,he,hc,hd,h1,JH,A1,hT,Hs,h3⟩:=x;have no:∀{b:Addr},B.get? b=Θ->(hideAll B [C]).get? b=Θ:=λ{b} q=>by cases z:(hideAll B [C]).get? b with|none=>rfl|some o=>rw[of_hideAll _ z] at q;cases q
 have ne:∀{b:Addr},B.get? b=Θ->b≠C:=λq z=>by rw[z,hC] at q;cases q
 have frm:∀{l:List Env},h.FunFrames B l->h'.FunFrames (hideAll B [C]) l:=λ{l}=>by induction l with|nil=>exact λ_=>trivial|cons env r ih=>exact λ⟨hk,⟨L,o,hf,hn,ho,hd⟩,hr⟩=>⟨hk,⟨L,o,hf,no hn,(sb.2 L (ne hn)).trans ho,hd⟩,ih hr⟩
 exact⟨λb o q=>(sb.2 b λz=>by rw[z,hideAll_none [C] (.head _)] at q;cases q).trans (f1 b o (of_hideAll _ q)),no f2,frm f3,oe,vs,T,oT,ts,(sb.2 e (ne f2)).trans he,hc,hd,h1,no JH,A1,(sb.2 T (ne JH)).trans hT,Hs,h3⟩
theorem xl(hf:env.frame=Δ L)(x:U8 B l e cls a0 L s.heap)(h:∀h',U8 B l e cls a0 L h'->s.heap.UpToSlots h'->EE (.ref e) {s with heap:=h'}):wpAny M A (PySem.passOn what (.ref e) env:Sem Value) Q EE s:=by
 obtain⟨f1,f2,f3,oe,vs,T,oT,ts,he,hc,hd,h1,JH,A1,hT,Hs,h3⟩:=x;have z3:3 < ts.size:=(Array.getElem?_eq_some_iff.mp h3).1;have AZ:∀b,b≠T->(s.heap.update T (Obj.mapFields (·.setIfInBounds 3 (U5 L)))).get? b=s.heap.get? b:=λb q=>Qx _ _ (QP q);have nor:∀b o,s.heap.get? b=Δ o->(∀vs,o.data≠.fields vs)->b≠T:=λb o q k z=>by rw[z,hT] at q;cases q;exact k ts Hs
 unfold PySem.passOn;refine Pu (Qs he hd h1 ?_);rw[if_neg (by simp)];unfold setFlight;refine Pu (Pu (Qs he hd h1 ?_));rw[if_pos (by simp)];rw[hf];refine UM hT Hs z3 (wpAny_throw (h _ ⟨λb o q=>(AZ b λz=>by rw[z,JH] at q;cases q).trans (f1 b o q),f2,f3.of_keeps λb o q k=>⟨o,(AZ b (nor b o q k)).trans q,rfl⟩,
  oe,vs,T,_,_,(AZ e (QP A1)).trans he,hc,hd,h1,JH,A1,QR _ hT (Obj.isFreed_of_fields (Sx Hs _)),Sx Hs _,by simp[z3]⟩ λb o q k=>⟨o.slots,(AZ b (nor b o q k)).trans q⟩))
end
section
variable{X:Cx}{C:Addr}{E Ex:XK}{EE:Value->PJ->Prop}
theorem BU(I:Inv X η σ H' s')(hs:X.stack=X.env::X.outer)(hf:X.env.frame=Δ X.env.locals)(hex:X.ex=[])(xi:∀b o,s'.heap.get? b=Δ o->(H' b≠Θ\/∃o',X.cQ.heap.get? b=Δ o')->b∉gi X.stack->B.get? b=Δ o)(A3:Heap.FlyingW B X.outer ea (.ref C) (.ref t) s'.heap)(hE:E (.ref ea) (Δ t) H'):
  kF X.prog X.w C X.outer X.kR X.cQ E (.ref ea) s':=by
 refine⟨ea,t,B,H',rfl,I.os,I.bare,hex▸I.base,I.aQ,λb o q c m=>xi b o q c λz=>?_,A3,hE⟩;rw[hs] at z;obtain⟨env,he,zC⟩:=List.mem_filterMap.mp z;rcases Ub.mp he with rfl|he
 ·rw[hf] at zC;cases zC;rcases c with c|⟨o',c⟩;·exact c I.free
  ·exact absurd (PK c) (Nat.not_lt.mpr I.ok.above)
 ·exact m (List.mem_filterMap.mpr ⟨env,he,zC⟩)
theorem E4(I:Inv X η σ H s)(hs:X.stack=X.env::X.outer)(hf:X.env.frame=Δ X.env.locals)(hex:X.ex=[])(F:kF X.prog X.w C X.stack H s Ex e s')(hE:∀e t H',Ex (.ref e) (Δ t) H'->E (.ref e) (Δ t) H'):
  wpAny (model X.prog X.w) X.A (Vs X.env e) (λ_ yQ=>kF X.prog X.w C X.outer X.kR X.cQ E e yQ) EE s':=by
 obtain⟨ea,t,B,H',rfl,os,bare,un,ok,xi,A3,JD⟩:=F;have e0:=I.qR;have EY:X.A.frames=Δ (X.env::X.outer):=hs▸e0.frames;rw[hs] at A3;refine wpAny_leaves_onW EY hf A3 λh2 JI us=>?_;obtain⟨u1,u2,u3⟩:=gx un ok xi JI.1 us e0.eM e0.tG;obtain⟨v,H2,I2,_,rfl⟩:=I.after (Q:=λ_ H2=>H2=H') (u:=.none) (s':={s' with heap:=h2}) ⟨.aU,H',os,bare,u1,u2,rfl,rfl⟩;exact BU I2 hs hf hex (λb o q c m=>u3 b o q (c.imp id λ⟨o',z⟩=>I.base.there b o' z (by rw[hex];exact λz=>nomatch z)) m) JI (hE _ _ _ JD)
theorem E5(hs:X.stack=X.env::X.outer)(hf:X.env.frame=Δ X.env.locals)(hex:X.ex=[])(hE:∀e t H',Ex (.ref e) (Δ t) H'->E (.ref e) (Δ t) H')
  (hxe:∀e s',wpAny (model X.prog X.w) X.A (Vs X.env e) (λ_ yQ=>kF X.prog X.w C X.outer X.kR X.cQ E e yQ) EE s'->X.xe e s'):PB (kF X.prog X.w C) X Ex:=by
 intro η σ H s N ts js sc fp BS dc τ H1 s1 e s' Q acc I fo J F;obtain⟨ea,t,B,H',rfl,os,bare,un,ok,xi,A3,JD⟩:=F;have e0:=J.qR;have EY:X.A.frames=Δ (X.env::X.outer):=hs▸I.qR.frames;rw[hs] at A3;obtain⟨m,hn,_⟩:=J.loc;obtain⟨oC,es,dn,hoC,JJ⟩:=id hn;have hHC:H1 s.heap.objs.size=Θ:=J.free;have nst:s.heap.objs.size∉gi X.stack:=λz=>by obtain⟨_,o,ho,_⟩:=I.qR.eM.mem z;exact absurd (PK ho) (Rj _)
 have hBC:B.get? s.heap.objs.size=Δ oC:=xi _ _ (un.keep _ _ hoC hHC nst λz=>nomatch z) (.inr ⟨_,hoC⟩) nst;show wpAny (model X.prog X.w) X.A (noteFrame (.ref ea) X.env) _ _ s';refine wpAny_looks_onW EY hf A3 λh4 held LZ=>?_;refine⟨m,⟨oC,es,dn,held.1 _ _ hBC,JJ⟩,λh5 sb=>?_⟩;refine xl (L:=X.env.locals) hf (xk held hBC sb) λh6 DA NX=>hxe _ _ ?_;unfold Vs;refine Pu (wpAny_noteFrame_againW hf DA.2.2.2 ?_);refine wpAny_landsW DA λh7 N2 us7=>?_;obtain⟨k1,k2,⟨_,_,k3⟩,k4⟩:=N2;obtain⟨u1,u2,u3⟩:=gx un ok xi held.1 LZ e0.eM e0.tG;obtain⟨v,H2,J2,_,rfl⟩:=J.after (Q:=λ_ H2=>H2=H') (u:=.none) (s':={s' with heap:=h4}) ⟨.aU,H',os,bare,u1,u2,rfl,rfl⟩;have J3:Inv (AW X η N sc fp s.heap.objs.size s H) [] τ H2 {s' with heap:=h4}:=J2.lq λ_ z=>nomatch z;have I5:=I.rA fo J3 sb;have hC2:H2 s.heap.objs.size=Θ:=J3.free;have c5:Hq (hideAll B [s.heap.objs.size]) (gi X.outer) H2 X.cQ.heap h5:=λb o q c mm=>by
  have bC:b≠s.heap.objs.size:=λz=>by
   rcases c with c|⟨o',c⟩;·exact c (z▸hC2)
   ·exact absurd (PK c) (Nat.not_lt.mpr (z▸I.sz))
  have bs:b∉gi X.stack:=λz=>by
   rw[hs] at z;obtain⟨env,he,zC⟩:=List.mem_filterMap.mp z;rcases Ub.mp he with rfl|he
   ·rw[hf] at zC;cases zC;rcases c with c|⟨o',c⟩;·exact c I5.free
    ·exact absurd (PK c) (Nat.not_lt.mpr I.ok.above)
   ·exact mm (List.mem_filterMap.mpr ⟨env,he,zC⟩)
  have q4:h4.get? b=Δ o:=(sb.2 b bC).symm.trans q;refine hideAll_get _ (u3 b o q4 (c.imp id λ⟨o',z⟩=>?_) bs) λz=>bC (List.mem_singleton.mp z);obtain⟨o2,z2⟩:=I.base.there b o' z (by rw[hex];exact λz=>nomatch z);exact J.base.there b o2 z2 λz=>by
   rcases(fo b z).2.2.2.1 with y|y;·rw[hex] at y;cases y
   ·exact absurd (PK ‹X.cQ.heap.get? b=Δ o'›) (Nat.not_lt.mpr y)
 obtain⟨w1,w2,w3⟩:=gx (hex▸I5.base) I5.aQ c5 k1 (NX.trans us7) I.ok.eM I.ok.tG;exact⟨ea,t,_,H2,rfl,I5.os,I5.bare,w1,w2,w3,⟨k1,k2,k3,k4⟩,hE _ _ _ JD⟩
end
section
variable{X:Cx}
noncomputable def N3:V->Option Int->Option Int->Hp->VK->Prop:=λx lo hi H Q=>∃z,x=.str z/\z.length<=PQ/\Q (.str (Tv z lo hi)) H
theorem E6:Bt X N3:=by
 intro η s σ H x v vl vu lo hi sl Q I rx hs pl pu h;obtain⟨z,rfl,hz,q⟩:=h;obtain⟨t,rfl⟩:=rx;refine⟨"str",_,F.slot_str_getitem.lookup,Tw _ _ _,?_⟩;have fin:∀(l u:Option (Int×Tok)),s.heap.IsSlice sl l u Θ->Q (.str (Tv z (l.map (·.1)) (u.map (·.1)))) H->wpAny (model X.prog X.w) X.A (Sg (.str z t) (.ref sl)) (EP X η σ Q) X.xe s:=λl u hl hq=>wpAny_getItem_str_slice hl rfl (post_val_or_str ⟨Qj (Si z _ _) hz,λt' k=>⟨.str _,H,I.tok k,⟨t',rfl⟩,hq⟩⟩);cases pl with
 |none=>cases pu with|none=>exact fin Θ Θ hs q|int j u=>exact fin Θ (Δ (j,u)) hs q
 |int i u1=>cases pu with|none=>exact fin (Δ (i,u1)) Θ hs q|int j u=>exact fin (Δ (i,u1)) (Δ (j,u)) hs q
theorem BV:fg X (Rl .Mult) (λx y H Q=>∃z i,x=.str z/\y=.int i/\MulOk z i/\Q (.str (Vd z i)) H):=by intro η s σ H x y v u Q I rx ry h;obtain⟨z,i,rfl,rfl,hz,q⟩:=h;obtain⟨t,rfl⟩:=rx;obtain⟨t',rfl⟩:=ry;exact SB.mul hz λt' k=>⟨.str _,H,I.tok k,⟨t',rfl⟩,q⟩
def E7:V->List V->Hp->VK->Prop:=λx vs H Q=>∃z y,x=.str z/\vs=[.str y]/\(y.length==0)=Ξ/\z.length+2<=PQ/\∀a,H a=Θ->Q (.ref a) (upd H a (.lst ((Qm z y).map V.str)))
theorem rL:∀l:List (Str×Tok),aL ((l.map (·.1)).map V.str) (Vl l)
 |[]=>.nil|(x,t)::l=>.cons ⟨t,rfl⟩ (rL l)
theorem kG(hz:z.length+2<=PQ):(Qm z y).length<=PQ:=by
 unfold Qm;split;·exact Qj (by simp) hz
 ·split;·exact Qj (by simp) hz
  ·have e1:=StrLaws.occ_length_le z y 0 z.length (z.length+1);rw[PySem.length_partsBetween]
   lia
theorem zK:LI X "str.split" E7:=by
 intro η s σ H x vs v us Q I rx rv h;obtain⟨z,y,rfl,rfl,hy,hz,q⟩:=h;obtain⟨t,rfl⟩:=rx;obtain⟨u,rfl,ru⟩:=rv.one;obtain⟨t',rfl⟩:=ru;have fin:∀(l:List (Str×Tok)) (k:Nat),l.map (·.1)=Qm z y->EP X η σ Q (.ref s.heap.objs.size) {s with heap:=s.heap.push {cls:=.type "list",data:=.seq (Vl l).toArray},toks:=k}:=λl k e=>by refine⟨.ref s.heap.objs.size,_,I.laid (t':=k) (o:=.lst ((Qm z y).map V.str)) (λb ob q=>Px _ q) (PH _) ?_,rfl,q _ (I.aQ.fresh (PH _))⟩;refine⟨?_,Vl l,0,by rw[<-e];exact rL l,PR _ rfl⟩;rw[PX,<-e,PX];have:=congrArg T3 e;rw[PX] at this;rw[this];exact kG hz
 cases h1:(decide (z.length < y.length)||decide (R1.Str.strKind z < R1.Str.strKind y)) with
 |true=>exact RK Ur (Tw _ _ _) T6 (TM _ _) (meets_str_split_cannot_occur z y t t' h1) (fin [(z,t)] s.toks (if_pos h1).symm)|false=>
  have n1:Qm z y=if(Q2 z y 0 z.length (z.length+1)).isEmpty=Λ then[z] else Ss z (Q2 z y 0 z.length (z.length+1)) y.length:=if_neg (ne_true_of_eq_false h1)
  cases hf:(Q2 z y 0 z.length (z.length+1)).isEmpty with|true=>exact RK Ur (Tw _ _ _) T6 (TM _ _) (meets_str_split_not_found z y t t' h1 hy hf) (fin [(z,t)] s.toks (n1.trans (if_pos hf)).symm)|false=>have e0:Qm z y=Ss z (Q2 z y 0 z.length (z.length+1)) y.length:=n1.trans (if_neg (ne_true_of_eq_false hf));refine RK Ur (Tw _ _ _) T6 (TM _ _) (meets_str_split_sep z y t t' h1 hy hf (by lia) (by rw[<-e0];exact kG hz)) ?_;show EP X η σ Q _ {s with toks:=_,heap:=s.heap.push {cls:=.type "list",data:=.seq (strsFrom s.toks (Ss z (Q2 z y 0 z.length (z.length+1)) y.length)).toArray}};rw[strsFrom_eq];exact fin _ _ ((numbered_texts _ _).trans e0.symm)
theorem zL:KTD.inKeys k (D.map λp=>(p.1,UB (.int p.2)))=(dA D k).isSome:=by
 induction D with
 |nil=>rfl|cons p r ih=>
  obtain⟨y,i⟩:=p;unfold dA;by_cases e:k=y;·rw[if_pos e];simp[KTD.inKeys,e]
  ·rw[if_neg e,<-ih];simp[KTD.inKeys,e]
theorem rM:∀{D},dA D k=Δ i->(∀t,P (.int i t))->KTD.EachL h k P (D.map λp=>(p.1,UB (.int p.2)))
 |[],e,_=>by cases e|[(y,j)],e,q=>by unfold dA at e;refine KTD.eachL_last λz=>?_;rw[if_pos z] at e;cases e;exact KTD.opened_int q
 |(y,j)::p::r,e,q=>by
  unfold dA at e;refine KTD.eachL_ite ?_;by_cases z:k=y;·rw[if_pos z] at e;cases e;rw[decide_eq_true z,if_pos rfl];exact KTD.opened_int q
  ·rw[if_neg z] at e;rw[decide_eq_false z,if_neg Ql];exact rM e q
theorem oB(tb:um X.K a D):fg X (QA .NotIn) (λx y H Q=>∃k,x=.str k/\y=.ref a/\Q (.bl (!(dA D k).isSome)) H):=by intro η s σ H x y v u Q I rx ry h;obtain⟨k,rfl,rfl,q⟩:=h;obtain⟨t,rfl⟩:=rx;cases ry;refine KTD.notin_text (D:=D.map λp=>(p.1,UB (.int p.2))) ⟨tb.text I.mod.tu,I.bk⟩ ⟨.bl _,H,I.tok _,?_,q⟩;rw[zL];rfl
theorem E8(tb:um X.K a D):AV X (λx y H Q=>∃k i,y=.str k/\x=.ref a/\dA D k=Δ i/\Q (.int i) H):=by
 intro value slice η s σ H x y v u Q I rx ry h hs;obtain⟨k,i,rfl,rfl,hk,q⟩:=h;cases rx;obtain⟨t,rfl⟩:=ry;refine KTD.item_textA (D:=D.map λp=>(p.1,UB (.int p.2))) ⟨tb.text I.mod.tu,I.bk⟩ ?_ ?_ ?_ hs;·rw[Ri];intro p hp;obtain⟨q,_,rfl⟩:=List.mem_map.mp hp;rfl
 ·rw[zL,hk];rfl
 ·exact rM hk λt=>⟨.int i,H,I.tok _,⟨t,rfl⟩,q⟩
end
end L2
namespace L2
open PySem PySem.Spec PyProof.Rows PySem.W PySem.Calls PySem.Builtin.Getset_descriptor PySem.Builtin.ObjectAttr
section
variable{prog:Qr}{w:World}{A:QJ}{E:Value->PJ->Prop}{s:PJ}{K:Frag}{x D:Addr}{ox:Obj}
structure gy(K:Frag)(D:Addr):Prop where
 ga:findIn K (.ref D) "__getattribute__"=Δ (Δ (.builtin "BaseException.__getattribute__"))
 ha:findIn K (.ref D) "__getattr__"=Δ Θ
 cl:findIn K (.ref D) "__class__"=Δ (Δ (.builtin "object.__class__"))
 gt:specialIn K (.builtin "object.__class__") "__get__"=Δ (Δ (.builtin "getset_descriptor.__get__"))
 tk:takesIn K (.builtin "object.__class__")=Δ Λ
 ob:mroIn K D (.type "object")=Δ Λ
 be:subIn K (.ref D) (.type "BaseException")=Δ Λ
theorem xm(X:K.In s.heap)(G:gy K D)(lt:Looks (model prog w) s.heap (Vk (.ref x)) (.ref D))(h:Q () s)(ha:argsOk "BaseException.__getattribute__" ⟨[.ref x,nm],[]⟩):
  wpAny (model prog w) A (checkBuiltinCall "BaseException.__getattribute__" ⟨[.ref x,nm],[]⟩) Q E s:=by
 have k1:builtinKind "BaseException.__getattribute__"=Δ .slot:=by decide+kernel
 have k2:splitId "BaseException.__getattribute__"=Δ ("BaseException","__getattribute__"):=by decide+kernel
 have li:Looks (model prog w) s.heap (U6 (.ref x) (.type "BaseException")) Λ:=lt.andThen (looks_subIn X G.be);simp only[checkBuiltinCall,k1,k2];refine Pu (li.here ?_);simp only[Ue,QD,if_false];cases N4:Manifest.signature? "BaseException.__getattribute__" with|none=>exact Py h|some sig=>simp only[argsOk,N4] at ha;show wpAny _ _ (Bind.checkArgs "BaseException.__getattribute__" sig ⟨[.ref x,nm],[]⟩) _ _ _;rw[show Bind.checkArgs "BaseException.__getattribute__" sig ⟨[.ref x,nm],[]⟩=pure () from ha];exact Py h
theorem uD(X:K.In s.heap)(lt:Looks (model prog w) s.heap (Vk (.ref x)) (.ref D))(hm:mroIn K D (.type "object")=Δ Λ)(h:R (.ok (.ret (.ref D))) s):
  SI (model prog w) A (.call (.builtin "getset_descriptor.__get__") ⟨[.builtin "object.__class__",.ref x,tp],[]⟩) R s:=by
 obtain⟨hh,g,dr,t,os⟩:=s;have l1:=looks_mroIn (M:=model prog w) X hm;refine codeAny_call_builtin KF.slot_gs.plain KF.entry_gs (KF.slot_gs.check _ _ _ _ _ _ _ _ KF.type_class (KF.args_gs _ _ _) ?_);unfold R1.«getset_descriptor.__get__» descrGet;rw[dga_obj];refine Pu (Py ?_);unfold descrGetter descrCheckInstance descrNameAndClass U6;simp only[KF.owner_class];repeat lk
 refine⟨Code.quiet_builtin _ (by decide+kernel),UG KF.entry_class ?_⟩;unfold R1.«object.__class__» shownTypeOf;repeat lk
 exact h
theorem xn(X:K.In s.heap)(G:gy K D)(lt:Looks (model prog w) s.heap (Vk (.ref x)) (.ref D))(h:Q (Δ (.ref D)) {s with toks:=s.toks+1}):
  wpAny (model prog w) A (getAttr? (.ref x) "__class__") Q E s:=by
 obtain⟨hh,g,d,t,os⟩:=s;have l1:=looks_findIn (M:=model prog w) X G.ga;have l2:=looks_findIn (M:=model prog w) X G.ha;have l3:Looks (model prog w) hh (R1.ObjectAttr.find (.ref x) (.ref D) "__class__") (.bind (.builtin "getset_descriptor.__get__") (.builtin "object.__class__")):=by unfold R1.ObjectAttr.find;refine(looks_findIn X G.cl).andThen ?_;refine Looks.andThen (show Looks (model prog w) hh (R1.ObjectAttr.getOf (Δ (.builtin "object.__class__"))) (Δ (.builtin "getset_descriptor.__get__")) from looks_specialIn X G.gt) ?_;exact(show Looks (model prog w) hh (R1.ObjectAttr.dataDescriptor? (Δ (.builtin "object.__class__")) (Δ (.builtin "getset_descriptor.__get__"))) (Δ (.builtin "getset_descriptor.__get__",.builtin "object.__class__")) from(looks_takesIn X G.tk).andThen .now).andThen (Looks.tag .now)
 unfold getAttr? getAttrBy? getAttrBy;refine Pu (wpAny_mkText (Pu (R6 (Qu (Pu (lt.at (Pu (l1.at ?_))))))));show wpAny _ _ (getAttrByItsOwn (.ref x) (.str "__class__" t) (.ref D) (.builtin "BaseException.__getattribute__") Ξ Ξ) _ _ _;unfold getAttrByItsOwn hookBefore callGetattribute boundAndCalled;refine Pu (l2.at ?_);refine Pu (R6 (Qu ?_));show wpAny _ _ (bindSpecial (.builtin "BaseException.__getattribute__") (.ref x) >>=_) _ _ _;refine Pu (Vn (F.excAttr_ValueError.ga.bind _) ?_);refine U4 (codeAny_call_builtin F.excAttr_ValueError.ga.plain F.entry_bexc_ga (xm X G lt ?_ (F.args_bexc_ga _ _)));unfold R1.«object.__getattribute__»;refine Pu (Py (Pu (Py (Pu (lt.at (Pu (l3.at ?_)))))));show wpAny _ _ (Uv [.builtin "object.__class__"] (call (.builtin "getset_descriptor.__get__") [.builtin "object.__class__",.ref x,.ref D]) >>=ret) _ _ _;refine Pu (Qu (U4 (uD (s:=⟨hh,g,d,t+1,os⟩) X lt G.ob ?_)));exact Py (Py (Py h))
theorem xo(G:gy K D)(hD:(clsIn K D).isSome=Λ)(e:kitOne K (.ref D) c=Δ Ξ):Answers (λs=>K.In s.heap/\∃o,s.heap.get? x=Δ o/\o.cls=.ref D) (.ref x) c Ξ:=by
 intro dep tk prog w A R s hs;obtain⟨h0,g,d,tt,os⟩:=s;obtain⟨⟨tu,o,ho,hc⟩,hq⟩:=hs;have lt:Looks (model prog w) h0 (Vk (.ref x)) (.ref D):=hc▸(Looks.ld ho).andThen .now;have it:Looks (model prog w) h0 (isType (.ref D)) Λ:=by
  unfold clsIn at hD;split at hD;·rename_i c' d' cd' MC hl;intro A' Q' E' s' k q;unfold isType loadHead;exact Pu (wpAny_loadPart (k _ _ (tu _ _ hl)) (Py q))
  ·cases hD
 unfold kitOne at e;unfold R1.«isinstance.nested»;refine Pu (lt.at ?_);by_cases q:(PZ D==c)=Λ;·rw[if_pos q] at e;cases e
 ·rw[if_neg q] at e ⊢;obtain⟨k1,k2,k3⟩:=kit_cls (M:=model prog w) tu e;have li:Looks (model prog w) h0 (U6 (.ref x) c) Ξ:=lt.andThen k3;refine Pu (k1.at ?_);rw[if_pos (by decide)]
  k_delta "plainIsInstance"
  refine Pu (Pu (k2.at ?_));simp only[Ue,QD,if_false];refine Pu (li.at ?_);simp only[QD,if_false];refine Pu (xn tu G lt ?_);refine Pu (it.at ?_);simp only[Ue,QD,if_false];refine Pu (Su ?_);refine k3.at ?_;first
   |exact Py (hq _)
   |exact Py (Py (hq _))
end
section
variable{X:Cx}
theorem uE(ho:ob.cls=.ref C)(G:gy X.K C)(hD:(clsIn X.K C).isSome=Λ)(e:kitOne X.K (.ref C) c=Δ Ξ)(hv:∀u,RelV v u->u=c):
  cY (X.held ea ob) (.builtin "isinstance") (λxs H Q=>xs=[.ref ea,v]/\Q (.bl Ξ) H):=by
 intro η s σ H xs us Q I NU h;obtain⟨rfl,h⟩:=h;obtain⟨u1,u2,rfl,r1,r2⟩:=aL.two NU;cases (show u1=PZ ea from r1);obtain rfl:=hv u2 r2;have zF:s.heap.get? ea=Δ ob:=(I.pin (ea,ob) (QB _ PC)).1;refine call_isinstance (S:=λ_ R s=>(X.K.In s.heap/\∃o,s.heap.get? ea=Δ o/\o.cls=.ref C)/\∀tk,R (.ok (.ret (.bool Ξ))) {s with toks:=tk})
  (λprog w A R s hs=>isinstance_outer (xo G hD e 0 _ prog w A R s hs) (λz=>nomatch z)) ⟨⟨I.iY,ob,zF,ho⟩,λtk=>?_⟩
 exact⟨.bl Ξ,H,I.tok tk,rfl,h⟩
end
end L2
namespace Y
open PySem
inductive D where
 |aU|bl (b:Bool)|int (i:Int)|str (x:Str)|tup (xs:List D)|pl (xs:List D)
inductive P where
 |d (x:D)|obj (n:Nat)|dw (ns:List Int)
 |fn (k:Nat) (dB:List P)|lf (k:Nat)
inductive O where
 |lst (xs:List P)|dK (kvs:List (Sum Int Str×P))|dT (kvs:List (List (Sum Int Str)×P))|ins (c:Str) (fs:List (Str×P))
 |qI
abbrev aW:=List O
abbrev cE:=List (Option P)
inductive R (α:Type) where
 |ok (a:α) (st:aW)|ex (x:Str) (st:aW)|no
noncomputable def R.bind{α β:Type}(r:R α)(k:α->aW->R β):R β:=match r with|.ok a st=>k a st|.ex x st=>.ex x st|.no=>.no
noncomputable def R.nx{α:Type}(r:R α):R α:=match r with|.ok a st=>.ok a st|_=>.no
@[simp] theorem l6{α:Type}(a:α)st:(R.ok a st).nx=.ok a st:=rfl
noncomputable def R.of{α:Type}(o:Option α)(st:aW):R α:=match o with|some a=>.ok a st|none=>.no
@[simp] theorem ag{α β:Type}(a:α)st(k:α->aW->R β):(R.ok a st).bind k=k a st:=rfl
@[simp] theorem L1{α β:Type}x st(k:α->aW->R β):(R.ex x st:R α).bind k=.ex x st:=rfl
@[simp] theorem L3{α β:Type}(k:α->aW->R β):(R.no:R α).bind k=.no:=rfl
@[simp] theorem dW{α:Type}(a:α)st:R.of (Δ a) st=.ok a st:=rfl
@[simp] theorem of_none{α:Type}st:R.of (Θ:Option α) st=.no:=rfl
inductive JK where|add|sub|mul|mod|fdiv
inductive DB where|lt|le|gt|ge|eq|ne|isin|rN|xr|nN
inductive Bf where|len|any|str|tuple
mutual
inductive E where
 |var (i:Nat)
 |cst (x:D)
 |op (o:JK) (a b:E)
 |neg (a:E)
 |not (a:E)
 |cmp (o:DB) (a b:E)
 |chain (o o':DB) (a b c:E)
 |and (es:List E)
 |or (es:List E)
 |ite (c a b:E)
 |tup (es:List E)
 |lst (m:Bool) (l:L)
 |call (f:Nat) (es:List E)
 |zM (a:E) (T:String)
 |bf (f:Bf) (es:List E)
 |ix (a b:E)
 |slice (a:E) (lo hi:Option E)
 |eY (a:E) (lo hi:Option E)
 |tchar (a b:E)
 |pU (a b:E)
 |toint (a:E)
 |pV (t:List (Str×Int)) (a:E)
 |A4 (t:List (Str×Int)) (a:E)
 |rev (a:E)
 |join (a:E) (b:E)
 |xt (t:List (Str×Int)) (a:E)
 |zN (t:Bool)
 |attr (c f:Str) (i:Nat)
 |eO (k:Nat) (c m:Str) (i:Nat) (es:List E)
 |make (k:Nat) (c:Str) (es:List E)
 |zO (a b:E)
 |zP (a:E)
 |rO (a b c:E)
 |zQ (k:E) (x:D)
inductive L where
 |eP (es:List E)
 |comp (it:W) (ts:Nat) (js:List Nat) (c:Option E) (e:E)
 |list (e:E)
 |gd (es:List E)
 |zip (a b:E)
 |split (e:E)
 |keys (e:E)
inductive W where
 |ex (e:E)
 |gd (es:List E)
 |enum (e:E)
end
inductive Tg where
 |nm (i:Nat)
 |tup (is:List Nat)
 |two (i j:Nat)
inductive S where
 |ret (e:E)
 |zR
 |set (i:Nat) (e:E)
 |ifs (c:E) (a b:List S)
 |l7 (t:Tg) (w:W) (b:List S)
 |l8 (c:E) (b:List S)
 |gz (t:Tg) (e:E) (b:List S)
 |zS (i j:Nat) (e:E) (b:List S)
 |gA (i j:Nat) (e:E) (b:List S)
 |expr (e:E)
 |pW (c f:Str) (i:Nat) (e:E)
 |app (a e:E)
 |put (a i e:E)
 |raise (x:Str)
 |uF (c f:Str) (i:Nat) (k:Int)
 |uG (i:Nat) (e:E) (b:List S)
inductive Fl where
 |nx (r:cE)|bk (r:cE)|ct (r:cE)|rt (v:P)
noncomputable def aC:Nat:=16777216
noncomputable def iw:Int:=18446744073709551616
def dX:Int:=4611686018427387904
def ko(o:JK)(i j:Int):Option Int:=match o with|.add=>Δ (i+j)|.sub=>Δ (i - j)|.mul=>if(-iw < i/\i < iw)\/(-iw < j/\j < iw) then Δ (i*j) else Θ|.mod=>if 0 < j then Δ (i % j) else Θ|.fdiv=>if 0 < j/\j < 1073741824 then Δ (i / j) else Θ
def BW:P->Option D
 |.d x=>Δ x|_=>Θ
def ba:List P->Option (List D)
 |[]=>Δ []|p::r=>(BW p).bind λx=>(ba r).map λxs=>x::xs
def b0(st:aW):P->Option (List P)
 |.d (.pl xs)=>Δ (xs.map .d)|.obj n=>match st[n]? with|some (.lst xs)=>Δ xs|_=>Θ
 |_=>Θ
def A5(o:JK)(a b:P)(st:aW):Option P:=match o,a,b with|o,.d (.int i),.d (.int j)=>(ko o i j).map λk=>.d (.int k)|.add,.d (.str x),.d (.str y)=>if x.length+y.length<=aC then Δ (.d (.str (x++y))) else Θ|.add,.d (.tup xs),.d (.tup ys)=>if xs.length+ys.length<=aC then Δ (.d (.tup (xs++ys))) else Θ|.mul,.d (.tup xs),.d (.int k)=>if k=1 then Δ (.d (.tup xs)) else if k=2/\0 < xs.length/\xs.length<=100000 then Δ (.d (.tup (xs++xs))) else if k=3/\0 < xs.length/\xs.length<=100000 then Δ (.d (.tup (xs++xs++xs))) else Θ|.add,a,b=>(b0 st a).bind λxs=>(b0 st b).bind λys=>(ba (xs++ys)).bind λzs=>if zs.length<=aC then Δ (.d (.pl zs)) else Θ|_,_,_=>Θ
mutual
def l9:D->D->Bool
 |.aU,.aU=>Λ|.bl a,.bl b=>a==b|.bl a,.int j=>(if a then 1 else 0)==j|.int i,.bl b=>i==(if b then 1 else 0)|.int i,.int j=>i==j|.str x,.str y=>x==y|.tup xs,.tup ys=>eB xs ys|.pl xs,.pl ys=>eB xs ys|_,_=>Ξ
def eB:List D->List D->Bool
 |[],[]=>Λ|x::xs,y::ys=>l9 x y&&eB xs ys|_,_=>Ξ
end
mutual
def iK:D->Nat
 |.tup xs=>jm xs+1|.pl xs=>jm xs+1|_=>0
def jm:List D->Nat
 |[]=>0|x::xs=>max (iK x) (jm xs)
end
theorem E9:l9 (.int i) (.int j)=(i==j):=rfl
theorem Fb:l9 (.bl i) (.bl j)=(i==j):=rfl
theorem Fc:l9 (.str i) (.str j)=(i==j):=rfl
theorem Fd:l9 (.tup xs) (.tup ys)=eB xs ys:=rfl
theorem BX:eB (x::xs) (y::ys)=(l9 x y&&eB xs ys):=rfl
theorem zT:iK (.tup xs)=jm xs+1:=rfl
theorem lB:jm (x::xs)=max (iK x) (jm xs):=rfl
def nu(x y:D):Option Bool:=if min (iK x) (iK y)<=100 then Δ (l9 x y) else Θ
def ma:D->Bool
 |.tup _=>Ξ|.pl _=>Ξ|_=>Λ
noncomputable def JL(o:DB)(i j:Int):Option Bool:=match o with|.lt=>Δ (decide (i < j))|.le=>Δ (decide (i<=j))|.gt=>Δ (decide (j < i))|.ge=>Δ (decide (j<=i))|_=>Θ
def eC(st:aW):P->Option (List P)
 |.d (.tup xs)=>Δ (xs.map .d)|.dw ns=>Δ (ns.map λi=>.d (.int i))|p=>b0 st p
def eR:P->Bool
 |.d .aU=>Λ|_=>Ξ
def iy(st:aW):P->Option D
 |.d x=>Δ x|.obj n=>match st[n]? with|some (.lst xs)=>(ba xs).map .pl|_=>Θ
 |_=>Θ
mutual
noncomputable def cV:P->Bool
 |.d _=>Λ|.fn _ dB=>df dB|_=>Ξ
noncomputable def df:List P->Bool
 |[]=>Λ|p::r=>cV p&&df r
end
def pX(st:aW):P->Option P
 |.dw ns=>Δ (.dw ns)|.fn k dB=>if df dB then Δ (.fn k dB) else Θ|p=>(iy st p).map .d
def dQ(st:aW):List P->Option (List P)
 |[]=>Δ []|p::r=>(pX st p).bind λx=>(dQ st r).map λxs=>x::xs
noncomputable def keyOf:P->Option (Sum Int Str)
 |.d (.int i)=>Δ (.inl i)|.d (.str x)=>Δ (.inr x)|_=>Θ
def keysOf:List D->Option (List (Sum Int Str))
 |[]=>Δ []|x::r=>(keyOf (.d x)).bind λk=>(keysOf r).map λks=>k::ks
def jn:P->Option (List (Sum Int Str))
 |.d (.tup xs)=>keysOf xs|_=>Θ
noncomputable def iL{κ:Type}[DecidableEq κ](kvs:List (κ×P))(k:κ):Option P:=(kvs.find? λkv=>decide (kv.1=k)).map (·.2)
noncomputable def nO{κ:Type}[DecidableEq κ](kvs:List (κ×P))(k:κ)(v:P):List (κ×P):=
 if(kvs.any λkv=>decide (kv.1=k))=Λ then kvs.map (λkv=>if kv.1=k then(kv.1,v) else kv) else kvs++[(k,v)]
def md(o:O)(k:P):Option (Option P):=match o with|.lst _=>Θ|.ins _ _=>Θ|.qI=>Θ|.dK kvs=>(keyOf k).map λk=>iL kvs k|.dT kvs=>(jn k).map λk=>iL kvs k
def oE:O->Bool
 |.lst _=>Ξ|.ins _ _=>Ξ|.qI=>Ξ|_=>Λ
def Fe(st:aW):P->Option O
 |.obj n=>st[n]?|_=>Θ
def eD(st:aW)(p:P):Option O:=(Fe st p).bind λo=>if oE o then Δ o else Θ
def JM:O->Nat
 |.lst xs=>xs.length|.ins _ _=>0|.qI=>0|.dK kvs=>kvs.length|.dT kvs=>kvs.length
def JN(o:O)(k v:P):Option O:=match o with|.lst _=>Θ|.ins _ _=>Θ|.qI=>Θ|.dK kvs=>if kvs.length < aC then(keyOf k).map λk=>.dK (nO kvs k v) else Θ|.dT kvs=>if kvs.length < aC then(jn k).map λk=>.dT (nO kvs k v) else Θ
def Ff(o:DB)(a b:P):Option Bool:=match a,b with|.d (.int i),.d (.int j)=>JL o i j|_,_=>Θ
def JO(a b:P)(st:aW):Option Bool:=match eD st b with|some o=>(md o a).map λr=>r.isSome|none=>(BW a).bind λx=>(eC st b).bind λps=>(ba ps).bind λys=>if ma x&&ys.all ma then Δ (ys.any λy=>l9 y x) else Θ
def fu(o:DB)(a b:P)(st:aW):Option Bool:=match o with|.eq=>(iy st a).bind λx=>(iy st b).bind λy=>nu x y|.ne=>(iy st a).bind λx=>(iy st b).bind λy=>(nu x y).map not|.xr=>if eR b then Δ (eR a) else Θ|.nN=>if eR b then Δ (!eR a) else Θ|.isin=>JO a b st|.rN=>(JO a b st).map not|_=>Ff o a b
def iM(st:aW):P->Option Bool
 |.d .aU=>Δ Ξ|.d (.bl b)=>Δ b|.d (.int i)=>Δ (i !=0)|.d (.str x)=>if x.length<=aC then Δ ((x.length:Int)!=0) else Θ|.d (.tup xs)=>Δ (!xs.isEmpty)|p=>(b0 st p).map λxs=>!xs.isEmpty
noncomputable def BY:P->aW->Option String
 |.d .aU,_=>Δ "NoneType"|.d (.bl _),_=>Δ "bool"|.d (.int _),_=>Δ "int"|.d (.str _),_=>Δ "str"|.d (.tup _),_=>Δ "tuple"|.d (.pl _),_=>Δ "list"|.obj n,st=>match st[n]? with|some (.lst _)=>Δ "list"|_=>Θ
 |_,_=>Θ
def dS(t T:String):Bool:=t==T||(t=="bool"&&T=="int")
noncomputable def wQ(n:Nat)(i:Int):Option Nat:=if 0<=i then(if i < n then Δ i.toNat else Θ) else if -(n:Int)<=i then Δ (i+n).toNat else Θ
def jV{α:Type}(xs:List α)(i:Int):Option α:=(wQ xs.length i).bind λj=>xs[j]?
def cm(n d:Nat):Option Int->Nat
 |none=>d|some i=>if i < 0 then(i+n).toNat else min i.toNat n
def cF{α:Type}(xs:List α)(lo hi:Option Int):List α:=(xs.drop (cm xs.length 0 lo)).take (cm xs.length xs.length hi - cm xs.length 0 lo)
noncomputable def fw:Option P->Option (Option Int)
 |none=>Δ Θ|some (.d (.int i))=>Δ (Δ i)|_=>Θ
def fS(a:P)(lo hi:Option P)(st:aW):Option P:=
 (fw lo).bind λl=>(fw hi).bind λh=>match a with|.d (.tup xs)=>Δ (.d (.tup (cF xs l h)))|p=>(b0 st p).bind λxs=>(ba (cF xs l h)).map λys=>.d (.pl ys)
def g8(a:P)(lo hi:Option P):Option P:=
 (fw lo).bind λl=>(fw hi).bind λh=>match a with|.d (.str z)=>if z.length<=aC then Δ (.d (.str (PySem.Txt.slice z l h))) else Θ|_=>Θ
def j7:P->P->Option P
 |.d (.str z),.d (.int i)=>if z.length<=aC then(jV z.cps.toList i).map λc=>.d (.str ⟨#[c]⟩) else Θ|_,_=>Θ
noncomputable def rP:P->P->Option P
 |.d (.str z),.d (.int i)=>if 0<=i/\i<=1000/\z.length<=1000 then Δ (.d (.str (PySem.Txt.mul z i))) else Θ|_,_=>Θ
def blank:Str:=" "
def iN:P->Option (List P)
 |.d (.str z)=>if z.length+2<=aC then Δ ((PySem.Txt.split z blank).map λw=>.d (.str w)) else Θ|_=>Θ
def ixS(a b:P)(st:aW):Option P:=match b with|.d (.int i)=>(eC st a).bind λxs=>jV xs i|_=>Θ
def Fg(a b:P)(st:aW):Option P:=match eD st a with|some o=>(md o b).bind id|none=>ixS a b st
def Fh(a v:P)(st:aW):Option aW:=match a with
 |.obj n=>match st[n]? with|some (.lst xs)=>if xs.length < aC then Δ (st.set n (.lst (xs++[v]))) else Θ|_=>Θ
 |_=>Θ
def JP(o:O)(k v:P):Option O:=match o with
 |.lst xs=>match k with|.d (.int i)=>(wQ xs.length i).map λj=>.lst (xs.set j v)|_=>Θ
 |o=>JN o k v
def Fi(a k v:P)(st:aW):Option aW:=match a with|.obj n=>(st[n]?).bind λo=>(JP o k v).map λo'=>st.set n o'|_=>Θ
noncomputable def boolsOf:List P->Option (List Bool)
 |[]=>Δ []|.d (.bl b)::r=>(boolsOf r).map λbs=>b::bs|_=>Θ
noncomputable def intsOf:List P->Option (List Int)
 |[]=>Δ []|.d (.int b)::r=>(intsOf r).map λbs=>b::bs|_=>Θ
def xu:P->Option Str
 |.d (.str x)=>Δ x|_=>Θ
def strsOf:List P->Option (List Str)
 |[]=>Δ []|p::r=>(xu p).bind λx=>(strsOf r).map λxs=>x::xs
def zU(x:Str)(y:P)(st:aW):Option P:=(b0 st y).bind λxs=>(strsOf xs).bind λts=>if(ts.map (·.length)).sum+ts.length*x.length<=1000000 then Δ (.d (.str (Qd x ts))) else Θ
def dA:List (Str×Int)->Str->Option Int
 |[],_=>Θ|(y,i)::r,x=>if x=y then Δ i else dA r x
noncomputable def vR{κ:Type}[DecidableEq κ](kvs:List (κ×P))(k:κ):List (κ×P):=kvs.filter λkv=>decide (kv.1≠k)
def Fj(x y:P)(st:aW):Option (P×aW):=match x with
 |.obj n=>match st[n]? with|some (.dK kvs)=>(keyOf y).bind λk=>(iL kvs k).map λv=>(v,st.set n (.dK (vR kvs k)))|_=>Θ
 |_=>Θ
def Fk(x:P)(st:aW):Option (P×aW):=match x with
 |.obj n=>match st[n]? with|some (.lst xs)=>(xs[xs.length - 1]?).map λv=>(v,st.set n (.lst xs.dropLast))|_=>Θ
 |_=>Θ
def zV(x y z:P)(st:aW):Option (P×aW):=match x with
 |.obj n=>match st[n]? with
  |some (.dK kvs)=>if kvs.length < aC then(keyOf y).map λk=>match iL kvs k with|some v=>(v,st)|none=>(z,st.set n (.dK (nO kvs k z)))
   else Θ
  |_=>Θ
 |_=>Θ
noncomputable def xw:Sum Int Str->P
 |.inl i=>.d (.int i)|.inr x=>.d (.str x)
def Fm(x y:P):Option O:=match keyOf x with|some k=>Δ (.dK [(k,y)])|none=>(jn x).map λk=>.dT [(k,y)]
noncomputable def uH(st:aW):P->Option (Nat×List (Sum Int Str×P))
 |.obj n=>match st[n]? with|some (.dK kvs)=>Δ (n,kvs)|_=>Θ
 |_=>Θ
noncomputable def iO(c:Str)(st:aW):P->Option (Nat×List (Str×P))
 |.obj n=>match st[n]? with|some (.ins c' fs)=>if c'=c then Δ (n,fs) else Θ|_=>Θ
 |_=>Θ
noncomputable def j8(f:Str)(v:P):List (Str×P)->List (Str×P)
 |[]=>[(f,v)]|(g,x)::r=>if g=f then(g,v)::r else(g,x)::j8 f v r
def Fo(f:Str)(k:Int)(fs:List (Str×P)):Option (List (Str×P)):=match fs.lookup f with|some (.d (.int j))=>Δ (j8 f (.d (.int (j+k))) fs)|_=>Θ
section
variable(C:Nat->List P->aW->R P)
def iP(r:cE)(i:Nat):Option P:=(r[i]?).join
def yk(f:Bf)(ps:List P)(st:aW):Option P:=match f,ps with
 |.len,[p]=>match p with|.d (.str x)=>if x.length<=aC then Δ (.d (.int x.length)) else Θ|p=>match eD st p with|some o=>Δ (.d (.int (JM o)))|none=>(eC st p).map λxs=>.d (.int xs.length)
 |.any,[p]=>(b0 st p).bind λxs=>(boolsOf xs).map λbs=>.d (.bl (bs.any id))|.str,[.d (.int i)]=>if i.natAbs.log2 < 1920 then Δ (.d (.str (Qg (toString i)))) else Θ|.tuple,[p]=>(eC st p).bind λxs=>(ba xs).map λys=>.d (.tup ys)|_,_=>Θ
def j9:P->Option (List P)
 |.d (.tup xs)=>Δ (xs.map .d)|.d (.pl xs)=>Δ (xs.map .d)|_=>Θ
noncomputable def eE(lo hi:Int):List P:=(Q0 (hi - lo).toNat).map λk=>.d (.int (lo+(k:Nat)))
def jo:List P->Option (List P)
 |[.d (.int j)]=>if -dX<=j/\j < dX then Δ (eE 0 j) else Θ|[.d (.int i),.d (.int j)]=>if -dX<=i/\i < dX/\ -dX<=j/\j < dX then Δ (eE i j) else Θ|_=>Θ
def gC:Nat->List D->List P
 |_,[]=>[]|k,x::xs=>.d (.tup [.int k,x])::gC (k+1) xs
def N5(a b:P)(st:aW):Option P:=match b with|.d (.int i)=>(b0 st a).bind λxs=>(intsOf xs).bind λns=>if i∈ns then Δ (.d (.int (ns.idxOf i:Nat))) else Θ|_=>Θ
def BZ:P->P->Option (List D)
 |.d (.tup xs),.d (.tup ys)=>Δ ((xs.zip ys).map λp=>.tup [p.1,p.2])|_,_=>Θ
def cG(g:P->cE)(c:cE->aW->R Bool)(e:cE->aW->R P):List P->aW->R (List P)
 |[],st=>.ok [] st|p::r,st=>(c (g p) st).bind λb st1=>if b then(e (g p) st1).bind λy aB=>(cG g c e r aB).bind λys cf=>.ok (y::ys) cf else cG g c e r st1
def zW(n:Nat)(st:aW)(i:Nat):Option (Option P):=match st[n]? with|some (.lst xs)=>Δ xs[i]?|_=>Θ
def DC(n:Nat)(g:P->cE)(c:cE->aW->R Bool)(e:cE->aW->R P):Nat->Nat->aW->R (List P)
 |0,_,_=>.no|k+1,i,st=>match zW n st i with|none=>.no|some Θ=>.ok [] st|some (Δ p)=>(c (g p) st).bind λb st1=>if b then(e (g p) st1).bind λy aB=>(DC n g c e k (i+1) aB).bind λys cf=>.ok (y::ys) cf else DC n g c e k (i+1) st1
def cH(js:List Nat)(r:cE):cE:=js.map λj=>(r[j]?).join
def isPr:P->Bool
 |.d (.tup [_,_])=>Λ|_=>Ξ
mutual
def aa:E->cE->aW->R P
 |.var i,r,st=>R.of (iP r i) st|.cst x,_,st=>.ok (.d x) st|.op o a b,r,st=>(aa a r st).bind λx st1=>(aa b r st1).bind λy aB=>R.of (A5 o x y aB) aB|.neg a,r,st=>(aa a r st).bind λx st1=>match x with|.d (.int i)=>.ok (.d (.int (-i))) st1|_=>.no
 |.not a,r,st=>(aa a r st).bind λx st1=>(R.of (iM st1 x) st1).bind λb aB=>.ok (.d (.bl (!b))) aB|.cmp o a b,r,st=>(aa a r st).bind λx st1=>(aa b r st1).bind λy aB=>(R.of (fu o x y aB) aB).bind λb cf=>.ok (.d (.bl b)) cf|.chain o o' a b c,r,st=>(aa a r st).bind λx st1=>(aa b r st1).bind λy aB=>(R.of (fu o x y aB) aB).bind λk cf=>if k then(aa c r cf).bind λz lA=>(R.of (fu o' y z lA) lA).bind λb yh=>.ok (.d (.bl b)) yh else .ok (.d (.bl Ξ)) cf
 |.and es,r,st=>dJ es r st|.or es,r,st=>dM es r st|.ite c a b,r,st=>(aa c r st).bind λx st1=>(R.of (iM st1 x) st1).bind λk aB=>if k then aa a r aB else aa b r aB|.tup es,r,st=>(aG es r st).bind λps st1=>if ps.length<=aC then(R.of (ba ps) st1).bind λxs aB=>.ok (.d (.tup xs)) aB else .no|.lst m l,r,st=>(bN l r st).bind λps st1=>if m then .ok (.obj st1.length) (st1++[.lst ps]) else(R.of (ba ps) st1).bind λxs aB=>.ok (.d (.pl xs)) aB|.call f es,r,st=>(aG es r st).bind λps st1=>C f ps st1|.zM a T,r,st=>(aa a r st).bind λx st1=>(R.of (BY x st1) st1).bind λt aB=>.ok (.d (.bl (dS t T))) aB|.bf f es,r,st=>(aG es r st).bind λps st1=>R.of (yk f ps st1) st1|.ix a b,r,st=>(aa a r st).bind λx st1=>(aa b r st1).bind λy aB=>R.of (Fg x y aB) aB|.eY a lo hi,r,st=>(aa a r st).bind λx st1=>(cg lo r st1).bind λl aB=>(cg hi r aB).nx.bind λh cf=>R.of (g8 x l h) cf|.tchar a b,r,st=>(aa a r st).bind λx st1=>(aa b r st1).bind λy aB=>R.of (j7 x y) aB|.pU a b,r,st=>(aa a r st).bind λx st1=>(aa b r st1).bind λy aB=>R.of (rP x y) aB|.toint a,r,st=>(aa a r st).bind λx st1=>match x with|.d (.bl b)=>.ok (.d (.int (if b then 1 else 0))) st1|_=>.no
 |.pV t a,r,st=>(aa a r st).bind λx st1=>match x with|.d (.str k)=>.ok (.d (.bl (!(dA t k).isSome))) st1|_=>.no
 |.A4 t a,r,st=>(aa a r st).bind λx st1=>match x with|.d (.str k)=>R.of ((dA t k).map λi=>.d (.int i)) st1|_=>.no
 |.slice a lo hi,r,st=>(aa a r st).bind λx st1=>(cg lo r st1).bind λl aB=>(cg hi r aB).nx.bind λh cf=>R.of (fS x l h cf) cf|.rev a,r,st=>(aa a r st).bind λx st1=>match x with|.d (.tup xs)=>.ok (.d (.tup xs.reverse)) st1|_=>.no
 |.join a b,r,st=>(aa a r st).bind λx st1=>(R.of (xu x) st1).bind λs st1=>(aa b r st1).bind λy aB=>R.of (zU s y aB) aB|.xt t a,r,st=>(aa a r st).bind λx st1=>match x with|.d (.str k)=>.ok (.d (match dA t k with|some i=>.int i|none=>.aU)) st1|_=>.no
 |.zN t,r,st=>.ok (.obj st.length) (st++[if t then .dT [] else .dK []])|.attr c f i,r,st=>(R.of (iP r i) st).bind λx st1=>R.of ((iO c st1 x).bind λq=>q.2.lookup f) st1|.eO k c m i es,r,st=>(R.of (iP r i) st).bind λx jO=>(R.of ((iO c jO x).bind λq=>if(q.2.lookup m).isNone then Δ () else Θ) jO).bind λ_ jO=>(aG es r jO).bind λps st1=>C k (x::ps) st1|.zO a b,r,st=>(aa a r st).bind λx st1=>(R.of (eD st1 x) st1).bind λ_ st1=>(aa b r st1).bind λy aB=>(R.of (Fj x y aB) aB).bind λq _=>.ok q.1 q.2|.rO a b c,r,st=>(aa a r st).bind λx st1=>(R.of (eD st1 x) st1).bind λ_ st1=>(aa b r st1).bind λy aB=>(aa c r aB).bind λz cf=>(R.of (zV x y z cf) cf).bind λq _=>.ok q.1 q.2|.zQ k x,r,st=>(aa k r st).bind λy st1=>(R.of (Fm y (.d x)) st1).bind λo aB=>.ok (.obj aB.length) (aB++[o])|.zP a,r,st=>(aa a r st).bind λx st1=>(R.of (Fk x st1) st1).bind λq _=>.ok q.1 q.2|.make k c es,r,st=>(aG es r st).bind λps st1=>(C k (.obj st1.length::ps) (st1++[.ins c []])).bind λv aB=>match v with|.d .aU=>.ok (.obj st1.length) aB|_=>.no
def cg:Option E->cE->aW->R (Option P)
 |none,_,st=>.ok Θ st|some e,r,st=>(aa e r st).bind λx st1=>.ok (Δ x) st1
def aG:List E->cE->aW->R (List P)
 |[],_,st=>.ok [] st|e::es,r,st=>(aa e r st).bind λx st1=>(aG es r st1).bind λxs aB=>.ok (x::xs) aB
def dJ:List E->cE->aW->R P
 |[],_,_=>.no|[e],r,st=>aa e r st|e::e'::es,r,st=>(aa e r st).bind λx st1=>match x with|.d (.bl b)=>if b then dJ (e'::es) r st1 else .ok (.d (.bl Ξ)) st1|_=>.no
def dM:List E->cE->aW->R P
 |[],_,_=>.no|[e],r,st=>aa e r st|e::e'::es,r,st=>(aa e r st).bind λx st1=>match x with|.d (.bl b)=>if b then .ok (.d (.bl Λ)) st1 else dM (e'::es) r st1|_=>.no
def bN:L->cE->aW->R (List P)
 |.eP es,r,st=>(aG es r st).bind λps st1=>if ps.length<=aC then .ok ps st1 else .no|.comp w ts js c e,r,st=>(b7 w r st).bind λps st1=>if ts=1/\ps.length<=aC then cG (λp=>Δ p::cH js r) (cD c) (λr' bI=>aa e r' bI) ps st1 else .no|.split e,r,st=>(aa e r st).bind λx st1=>R.of (iN x) st1|.list e,r,st=>(aa e r st).bind λx st1=>R.of (eC st1 x) st1|.gd es,r,st=>(aG es r st).bind λps st1=>(R.of (jo ps) st1).bind λqs aB=>if qs.length<=aC then .ok qs aB else .no|.zip a b,r,st=>(aa a r st).bind λx st1=>(aa b r st1).bind λy aB=>(R.of (BZ x y) aB).bind λzs cf=>.ok (zs.map .d) cf|.keys e,r,st=>(aa e r st).bind λx st1=>(R.of (uH st1 x) st1).bind λq aB=>.ok (q.2.map λkv=>xw kv.1) aB
def cD:Option E->cE->aW->R Bool
 |none,_,st=>.ok Λ st|some c,r,st=>(aa c r st).bind λx aB=>R.of (iM aB x) aB
def b7:W->cE->aW->R (List P)
 |.ex e,r,st=>(aa e r st).bind λx st1=>R.of (j9 x) st1|.gd es,r,st=>(aG es r st).nx.bind λps st1=>R.of (jo ps) st1|.enum e,r,st=>(aa e r st).bind λx st1=>match x with|.d (.tup xs)=>.ok (gC 0 xs) st1|_=>.no
end
noncomputable def me:Tg->P->cE->Option cE
 |.nm i,p,r=>Δ (r.set i (Δ p))|.tup _,_,_=>Θ|.two i j,p,r=>match p with|.d (.tup [x,y])=>Δ ((r.set i (Δ (.d x))).set j (Δ (.d y)))|_=>Θ
def forL(g:P->cE->Option cE)(b:cE->aW->R Fl):List P->cE->aW->R Fl
 |[],r,st=>.ok (.nx r) st|p::ps,r,st=>(R.of (g p r) st).bind λr1 jO=>(b r1 jO).bind λf st1=>match f with|.nx r2=>forL g b ps r2 st1|.ct r2=>forL g b ps r2 st1|.bk r2=>.ok (.nx r2) st1|.rt v=>.ok (.rt v) st1
def gz(n:Nat)(g:P->cE->Option cE)(b:cE->aW->R Fl):Nat->Nat->cE->aW->R Fl
 |0,_,_,_=>.no|k+1,i,r,st=>match zW n st i with|none=>.no|some Θ=>.ok (.nx r) st|some (Δ p)=>(R.of (g p r) st).bind λr1 jO=>(b r1 jO).bind λf st1=>match f with|.nx r2=>gz n g b k (i+1) r2 st1|.ct r2=>gz n g b k (i+1) r2 st1|.bk r2=>.ok (.nx r2) st1|.rt v=>.ok (.rt v) st1
def ka(i j:Nat)(b:cE->aW->R Fl):List (Sum Int Str×P)->cE->aW->R Fl
 |[],r,st=>.ok (.nx r) st|kv::ps,r,st=>(b ((r.set i (Δ (xw kv.1))).set j (Δ kv.2)) st).bind λf st1=>match f with|.nx r2=>ka i j b ps r2 st1|.ct r2=>ka i j b ps r2 st1|.bk r2=>.ok (.nx r2) st1|.rt v=>.ok (.rt v) st1
def gA(n i j:Nat)(b:cE->aW->R Fl):Nat->Nat->cE->aW->R Fl
 |0,_,_,_=>.no|k+1,q,r,st=>match zW n st q with|none=>.no|some Θ=>.ok (.nx r) st|some (Δ p)=>(b ((r.set i (Δ (.d (.int q)))).set j (Δ p)) st).bind λf st1=>match f with|.nx r2=>gA n i j b k (q+1) r2 st1|.ct r2=>gA n i j b k (q+1) r2 st1|.bk r2=>.ok (.nx r2) st1|.rt v=>.ok (.rt v) st1
def eZ(c:cE->aW->R Bool)(b:cE->aW->R Fl):Nat->cE->aW->R Fl
 |0,_,_=>.no|n+1,r,st=>(c r st).bind λk st1=>if k then(b r st1).bind λf aB=>match f with|.nx r2=>eZ c b n r2 aB|.ct r2=>eZ c b n r2 aB|.bk r2=>.ok (.nx r2) aB|.rt v=>.ok (.rt v) aB else .ok (.nx r) st1
def bL(d:cE->aW->R P)(r:cE)(st:aW):R Bool:=(d r st).bind λx st1=>R.of (iM st1 x) st1
def jq:Nat:=1000000
mutual
def aX:S->cE->aW->R Fl
 |.ret e,r,st=>(aa C e r st).bind λv st1=>.ok (.rt v) st1|.zR,r,st=>.ok (.rt (.d .aU)) st|.set i e,r,st=>(aa C e r st).bind λv st1=>.ok (.nx (r.set i (Δ v))) st1|.ifs c a b,r,st=>(bL (aa C c) r st).bind λk st1=>if k then ai a r st1 else ai b r st1|.l7 t w b,r,st=>(b7 C w r st).bind λps st1=>forL (me t) (ai b) ps r st1|.l8 c b,r,st=>eZ (bL (aa C c)) (ai b) jq r st|.gz t e b,r,st=>(aa C e r st).bind λx st1=>match x with|.obj n=>gz n (me t) (ai b) jq 0 r st1|_=>.no
 |.zS i j e b,r,st=>(aa C e r st).bind λx st1=>(R.of (uH st1 x) st1).bind λq st1=>(ka i j (ai b) q.2 r (st1.set q.1 .qI)).nx.bind λf aB=>.ok f (aB.set q.1 (.dK q.2))|.gA i j e b,r,st=>(aa C e r st).bind λx st1=>match x with|.obj n=>gA n i j (ai b) jq 0 r st1|_=>.no
 |.expr e,r,st=>(aa C e r st).bind λ_ st1=>.ok (.nx r) st1|.pW c f i e,r,st=>(aa C e r st).bind λv st1=>(R.of (iP r i) st1).bind λx aB=>(R.of ((iO c aB x).bind λq=>if q.2.length < 1000 then Δ (aB.set q.1 (.ins c (j8 f v q.2))) else Θ) aB).bind λcf _=>.ok (.nx r) cf|.app a e,r,st=>(aa C a r st).bind λx st1=>(R.of (b0 st1 x) st1).bind λ_ st1=>(aa C e r st1).bind λv aB=>(R.of (Fh x v aB) aB).bind λcf _=>.ok (.nx r) cf|.put a i e,r,st=>(aa C e r st).bind λv st1=>(aa C a r st1).bind λx aB=>(aa C i r aB).bind λk cf=>(R.of (Fi x k v cf) cf).bind λlA _=>.ok (.nx r) lA|.raise x,r,st=>.ex x st|.uF c f i k,r,st=>(R.of (iP r i) st).bind λx st1=>(R.of ((iO c st1 x).bind λq=>(Fo f k q.2).bind λfs=>if q.2.length < 1000 then Δ (st1.set q.1 (.ins c fs)) else Θ) st1).bind λaB _=>.ok (.nx r) aB|.uG i e b,r,st=>match aa C e r st with|.ok v st1=>.ok (.nx (r.set i (Δ v))) st1|.ex _ st1=>ai b r st1|.no=>.no
def ai:List S->cE->aW->R Fl
 |[],r,st=>.ok (.nx r) st|s::rest,r,st=>(aX s r st).bind λf st1=>match f with|.nx r1=>ai rest r1 st1|.bk r1=>.ok (.bk r1) st1|.ct r1=>.ok (.ct r1) st1|.rt v=>.ok (.rt v) st1
end
variable{C}
theorem fz{i}:aa C (.var i) r st=R.of (iP r i) st:=rfl
@[simp]theorem fA{x}:aa C (.cst x) r st=.ok (.d x) st:=rfl
theorem gD{o a b}:aa C (.op o a b) r st=(aa C a r st).bind λx st1=>(aa C b r st1).bind λy aB=>R.of (A5 o x y aB) aB:=rfl
theorem xx{a}:aa C (.neg a) r st=(aa C a r st).bind λx st1=>match x with|.d (.int i)=>.ok (.d (.int (-i))) st1|_=>.no:=rfl
theorem oF{a}:aa C (.not a) r st=(aa C a r st).bind λx st1=>(R.of (iM st1 x) st1).bind λb aB=>.ok (.d (.bl (!b))) aB:=rfl
theorem g9{o a b}:aa C (.cmp o a b) r st=(aa C a r st).bind λx st1=>(aa C b r st1).bind λy aB=>(R.of (fu o x y aB) aB).bind λb cf=>.ok (.d (.bl b)) cf:=rfl
theorem kH{o o' a b c}:aa C (.chain o o' a b c) r st=(aa C a r st).bind λx st1=>(aa C b r st1).bind λy aB=>(R.of (fu o x y aB) aB).bind λk cf=>if k then(aa C c r cf).bind λz lA=>(R.of (fu o' y z lA) lA).bind λb yh=>.ok (.d (.bl b)) yh else .ok (.d (.bl Ξ)) cf:=rfl
@[simp]theorem xy{es}:aa C (.and es) r st=dJ C es r st:=rfl
@[simp]theorem zX{es}:aa C (.or es) r st=dM C es r st:=rfl
theorem oG{c a b}:aa C (.ite c a b) r st=(aa C c r st).bind λx st1=>(R.of (iM st1 x) st1).bind λk aB=>if k then aa C a r aB else aa C b r aB:=rfl
theorem xA{es}:aa C (.tup es) r st=(aG C es r st).bind λps st1=>if ps.length<=aC then(R.of (ba ps) st1).bind λxs aB=>.ok (.d (.tup xs)) aB else .no:=rfl
theorem hG{m l}:aa C (.lst m l) r st=(bN C l r st).bind λps st1=>if m then .ok (.obj st1.length) (st1++[.lst ps]) else(R.of (ba ps) st1).bind λxs aB=>.ok (.d (.pl xs)) aB:=rfl
theorem uI{f es}:aa C (.call f es) r st=(aG C es r st).bind λps st1=>C f ps st1:=rfl
theorem xB{a T}:aa C (.zM a T) r st=(aa C a r st).bind λx st1=>(R.of (BY x st1) st1).bind λt aB=>.ok (.d (.bl (dS t T))) aB:=rfl
theorem jr{f es}:aa C (.bf f es) r st=(aG C es r st).bind λps st1=>R.of (yk f ps st1) st1:=rfl
theorem rQ{a b}:aa C (.ix a b) r st=(aa C a r st).bind λx st1=>(aa C b r st1).bind λy aB=>R.of (Fg x y aB) aB:=rfl
theorem jt{a lo hi}:aa C (.eY a lo hi) r st=(aa C a r st).bind λx st1=>(cg C lo r st1).bind λl aB=>(cg C hi r aB).nx.bind λh cf=>R.of (g8 x l h) cf:=rfl
theorem kI{a b}:aa C (.tchar a b) r st=(aa C a r st).bind λx st1=>(aa C b r st1).bind λy aB=>R.of (j7 x y) aB:=rfl
theorem uJ{a b}:aa C (.pU a b) r st=(aa C a r st).bind λx st1=>(aa C b r st1).bind λy aB=>R.of (rP x y) aB:=rfl
theorem kJ{a}:aa C (.toint a) r st=(aa C a r st).bind λx st1=>match x with|.d (.bl b)=>.ok (.d (.int (if b then 1 else 0))) st1|_=>.no:=rfl
theorem fT{t a}:aa C (.pV t a) r st=(aa C a r st).bind λx st1=>match x with|.d (.str k)=>.ok (.d (.bl (!(dA t k).isSome))) st1|_=>.no:=rfl
theorem oH{t a}:aa C (.A4 t a) r st=(aa C a r st).bind λx st1=>match x with|.d (.str k)=>R.of ((dA t k).map λi=>.d (.int i)) st1|_=>.no:=rfl
theorem gE{e}:bN C (.split e) r st=(aa C e r st).bind λx st1=>R.of (iN x) st1:=rfl
theorem kK{a lo hi}:aa C (.slice a lo hi) r st=(aa C a r st).bind λx st1=>(cg C lo r st1).bind λl aB=>(cg C hi r aB).nx.bind λh cf=>R.of (fS x l h cf) cf:=rfl
theorem xC{a}:aa C (.rev a) r st=(aa C a r st).bind λx st1=>match x with|.d (.tup xs)=>.ok (.d (.tup xs.reverse)) st1|_=>.no:=rfl
theorem mf{a b}:aa C (.join a b) r st=(aa C a r st).bind λx st1=>(R.of (xu x) st1).bind λs st1=>(aa C b r st1).bind λy aB=>R.of (zU s y aB) aB:=rfl
theorem uK{t a}:aa C (.xt t a) r st=(aa C a r st).bind λx st1=>match x with|.d (.str k)=>.ok (.d (match dA t k with|some i=>.int i|none=>.aU)) st1|_=>.no:=rfl
@[simp]theorem iQ{t}:aa C (.zN t) r st=.ok (.obj st.length) (st++[if t then .dT [] else .dK []]):=rfl
theorem uL{c f i}:aa C (.attr c f i) r st=(R.of (iP r i) st).bind λx st1=>R.of ((iO c st1 x).bind λq=>q.2.lookup f) st1:=rfl
theorem uM{k c m i es}:aa C (.eO k c m i es) r st=(R.of (iP r i) st).bind λx jO=>(R.of ((iO c jO x).bind λq=>if(q.2.lookup m).isNone then Δ () else Θ) jO).bind λ_ jO=>(aG C es r jO).bind λps st1=>C k (x::ps) st1:=rfl
theorem uN{a b}:aa C (.zO a b) r st=(aa C a r st).bind λx st1=>(R.of (eD st1 x) st1).bind λ_ st1=>(aa C b r st1).bind λy aB=>(R.of (Fj x y aB) aB).bind λq _=>.ok q.1 q.2:=rfl
theorem rR{a b c}:aa C (.rO a b c) r st=(aa C a r st).bind λx st1=>(R.of (eD st1 x) st1).bind λ_ st1=>(aa C b r st1).bind λy aB=>(aa C c r aB).bind λz cf=>(R.of (zV x y z cf) cf).bind λq _=>.ok q.1 q.2:=rfl
theorem uO{k x}:aa C (.zQ k x) r st=(aa C k r st).bind λy st1=>(R.of (Fm y (.d x)) st1).bind λo aB=>.ok (.obj aB.length) (aB++[o]):=rfl
theorem uP{a}:aa C (.zP a) r st=(aa C a r st).bind λx st1=>(R.of (Fk x st1) st1).bind λq _=>.ok q.1 q.2:=rfl
theorem mh{k c es}:aa C (.make k c es) r st=(aG C es r st).bind λps st1=>(C k (.obj st1.length::ps) (st1++[.ins c []])).bind λv aB=>match v with|.d .aU=>.ok (.obj st1.length) aB|_=>.no:=rfl
@[simp]theorem mi:cg C Θ r st=.ok Θ st:=rfl
theorem uQ{e}:cg C (Δ e) r st=(aa C e r st).bind λx st1=>.ok (Δ x) st1:=rfl
@[simp]theorem aP:aG C [] r st=.ok [] st:=rfl
theorem aY{e es}:aG C (e::es) r st=(aa C e r st).bind λx st1=>(aG C es r st1).bind λxs aB=>.ok (x::xs) aB:=rfl
@[simp]theorem xD{e}:dJ C [e] r st=aa C e r st:=rfl
theorem oI{e e' es}:dJ C (e::e'::es) r st=(aa C e r st).bind λx st1=>match x with|.d (.bl b)=>if b then dJ C (e'::es) r st1 else .ok (.d (.bl Ξ)) st1|_=>.no:=rfl
@[simp]theorem xE{e}:dM C [e] r st=aa C e r st:=rfl
theorem oJ{e e' es}:dM C (e::e'::es) r st=(aa C e r st).bind λx st1=>match x with|.d (.bl b)=>if b then .ok (.d (.bl Λ)) st1 else dM C (e'::es) r st1|_=>.no:=rfl
theorem uR{es}:bN C (.eP es) r st=(aG C es r st).bind λps st1=>if ps.length<=aC then .ok ps st1 else .no:=rfl
theorem iR{w ts js c e}:bN C (.comp w ts js c e) r st=(b7 C w r st).bind λps st1=>if ts=1/\ps.length<=aC then cG (λp=>Δ p::cH js r) (cD C c) (λr' bI=>aa C e r' bI) ps st1 else .no:=rfl
theorem uS{e}:bN C (.list e) r st=(aa C e r st).bind λx st1=>R.of (eC st1 x) st1:=rfl
theorem xF{es}:bN C (.gd es) r st=(aG C es r st).bind λps st1=>(R.of (jo ps) st1).bind λqs aB=>if qs.length<=aC then .ok qs aB else .no:=rfl
theorem xG{a b}:bN C (.zip a b) r st=(aa C a r st).bind λx st1=>(aa C b r st1).bind λy aB=>(R.of (BZ x y) aB).bind λzs cf=>.ok (zs.map .d) cf:=rfl
theorem uT{e}:bN C (.keys e) r st=(aa C e r st).bind λx st1=>(R.of (uH st1 x) st1).bind λq aB=>.ok (q.2.map λkv=>xw kv.1) aB:=rfl
theorem fU:cD C Θ r st=.ok Λ st:=rfl
theorem mj{c}:cD C (Δ c) r st=(aa C c r st).bind λx aB=>R.of (iM aB x) aB:=rfl
theorem zY{e}:b7 C (.ex e) r st=(aa C e r st).bind λx st1=>R.of (j9 x) st1:=rfl
theorem hJ{es}:b7 C (.gd es) r st=(aG C es r st).nx.bind λps st1=>R.of (jo ps) st1:=rfl
theorem uU{e}:b7 C (.enum e) r st=(aa C e r st).bind λx st1=>match x with|.d (.tup xs)=>.ok (gC 0 xs) st1|_=>.no:=rfl
theorem hU{e}:aX C (.ret e) r st=(aa C e r st).bind λv st1=>.ok (.rt v) st1:=rfl
theorem uV:aX C .zR r st=.ok (.rt (.d .aU)) st:=rfl
theorem dC{i e}:aX C (.set i e) r st=(aa C e r st).bind λv st1=>.ok (.nx (r.set i (Δ v))) st1:=rfl
theorem kd{c a b}:aX C (.ifs c a b) r st=(bL (aa C c) r st).bind λk st1=>if k then ai C a r st1 else ai C b r st1:=rfl
theorem mn{t w b}:aX C (.l7 t w b) r st=(b7 C w r st).bind λps st1=>forL (me t) (ai C b) ps r st1:=rfl
theorem pY{c b}:aX C (.l8 c b) r st=eZ (bL (aa C c)) (ai C b) jq r st:=rfl
theorem uW{t e b}:aX C (.gz t e b) r st=(aa C e r st).bind λx st1=>match x with|.obj n=>gz n (me t) (ai C b) jq 0 r st1|_=>.no:=rfl
theorem uX{i j e b}:aX C (.zS i j e b) r st=(aa C e r st).bind λx st1=>(R.of (uH st1 x) st1).bind λq st1=>(ka i j (ai C b) q.2 r (st1.set q.1 .qI)).nx.bind λf aB=>.ok f (aB.set q.1 (.dK q.2)):=rfl
theorem uY{i j e b}:aX C (.gA i j e b) r st=(aa C e r st).bind λx st1=>match x with|.obj n=>gA n i j (ai C b) jq 0 r st1|_=>.no:=rfl
theorem uZ{e}:aX C (.expr e) r st=(aa C e r st).bind λ_ st1=>.ok (.nx r) st1:=rfl
theorem mo{c f i e}:aX C (.pW c f i e) r st=(aa C e r st).bind λv st1=>(R.of (iP r i) st1).bind λx aB=>(R.of ((iO c aB x).bind λq=>if q.2.length < 1000 then Δ (aB.set q.1 (.ins c (j8 f v q.2))) else Θ) aB).bind λcf _=>.ok (.nx r) cf:=rfl
theorem xH{a e}:aX C (.app a e) r st=(aa C a r st).bind λx st1=>(R.of (b0 st1 x) st1).bind λ_ st1=>(aa C e r st1).bind λv aB=>(R.of (Fh x v aB) aB).bind λcf _=>.ok (.nx r) cf:=rfl
theorem xI{a i e}:aX C (.put a i e) r st=(aa C e r st).bind λv st1=>(aa C a r st1).bind λx aB=>(aa C i r aB).bind λk cf=>(R.of (Fi x k v cf) cf).bind λlA _=>.ok (.nx r) lA:=rfl
theorem mq{c f i k}:aX C (.uF c f i k) r st=(R.of (iP r i) st).bind λx st1=>(R.of ((iO c st1 x).bind λq=>(Fo f k q.2).bind λfs=>if q.2.length < 1000 then Δ (st1.set q.1 (.ins c fs)) else Θ) st1).bind λaB _=>.ok (.nx r) aB:=rfl
theorem iS{i e b}{r:cE}{st:aW}:aX C (.uG i e b) r st=match aa C e r st with|.ok v st1=>.ok (.nx (r.set i (Δ v))) st1|.ex _ st1=>ai C b r st1|.no=>.no:=rfl
theorem mr:ai C [] r st=.ok (.nx r) st:=rfl
theorem c0{s rest}:ai C (s::rest) r st=(aX C s r st).bind λf st1=>match f with|.nx r1=>ai C rest r1 st1|.bk r1=>.ok (.bk r1) st1|.ct r1=>.ok (.ct r1) st1|.rt v=>.ok (.rt v) st1:=rfl
end
theorem zZ:forL g b [] r st=.ok (.nx r) st:=rfl
theorem oK:forL g b (p::ps) r st=(R.of (g p r) st).bind λr1 jO=>(b r1 jO).bind λf st1=>match f with|.nx r2=>forL g b ps r2 st1|.ct r2=>forL g b ps r2 st1|.bk r2=>.ok (.nx r2) st1|.rt v=>.ok (.rt v) st1:=rfl
theorem oM:gz n g b (k+1) i r st=match zW n st i with|none=>.no|some Θ=>.ok (.nx r) st|some (Δ p)=>(R.of (g p r) st).bind λr1 jO=>(b r1 jO).bind λf st1=>match f with|.nx r2=>gz n g b k (i+1) r2 st1|.ct r2=>gz n g b k (i+1) r2 st1|.bk r2=>.ok (.nx r2) st1|.rt v=>.ok (.rt v) st1:=rfl
theorem oN:gA n i j b (k+1) q r st=match zW n st q with|none=>.no|some Θ=>.ok (.nx r) st|some (Δ p)=>(b ((r.set i (Δ (.d (.int q)))).set j (Δ p)) st).bind λf st1=>match f with|.nx r2=>gA n i j b k (q+1) r2 st1|.ct r2=>gA n i j b k (q+1) r2 st1|.bk r2=>.ok (.nx r2) st1|.rt v=>.ok (.rt v) st1:=rfl
theorem z0:ka i j b [] r st=.ok (.nx r) st:=rfl
theorem xJ:ka i j b (kv::ps) r st=(b ((r.set i (Δ (xw kv.1))).set j (Δ kv.2)) st).bind λf st1=>match f with|.nx r2=>ka i j b ps r2 st1|.ct r2=>ka i j b ps r2 st1|.bk r2=>.ok (.nx r2) st1|.rt v=>.ok (.rt v) st1:=rfl
theorem rS:eZ c b (n+1) r st=(c r st).bind λk st1=>if k then(b r st1).bind λf aB=>match f with|.nx r2=>eZ c b n r2 aB|.ct r2=>eZ c b n r2 aB|.bk r2=>.ok (.nx r2) aB|.rt v=>.ok (.rt v) aB else .ok (.nx r) st1:=rfl
theorem xK:cG g c e [] st=.ok [] st:=rfl
theorem eF:cG g c e (p::r) st=(c (g p) st).bind λb st1=>if b then(e (g p) st1).bind λy aB=>(cG g c e r aB).bind λys cf=>.ok (y::ys) cf else cG g c e r st1:=rfl
structure Fn where
 np:Nat
 nn:Nat
 body:List S
 sh:Bool:=Ξ
mutual
def ju:D->Bool
 |.pl _=>Ξ|.tup xs=>vS xs|_=>Λ
def vS:List D->Bool
 |[]=>Λ|x::xs=>ju x&&vS xs
end
def isObj:P->Bool
 |.obj _=>Λ|_=>Ξ
def outF(r:R Fl):Option D:=match r with|.ok (.rt p) st=>iy st p|.ok (.nx _) _=>Δ .aU|_=>Θ
noncomputable def aq(nn:Nat)(ps:List P):cE:=ps.map Δ++Qo (nn - ps.length) Θ
def nP(C:Nat->List P->aW->R P)(F:Fn)(ps:List P):Option D:=if ps.length=F.np then outF (ai C F.body (aq F.nn ps) []) else Θ
def mv(ps:List P)(d:D)(st:aW):R P:=if ps.any isObj&&!ju d then .no else .ok (.d d) st
def B0(r:R Fl):R P:=match r with|.ok (.rt p) st=>.ok p st|.ok (.nx _) st=>.ok (.d .aU) st|.ex x st=>.ex x st|_=>.no
def oO(Fs:List Fn):Nat->Nat->List P->aW->R P
 |0,_,_,_=>.no|n+1,f,ps,st=>match Fs[f]? with|none=>.no|some F=>if F.sh then(if ps.length=F.np then B0 (ai (oO Fs n) F.body (aq F.nn ps) st) else .no) else match dQ st ps with|none=>.no|some qs=>match nP (oO Fs n) F qs with|none=>.no|some d=>mv ps d st
theorem z6:∃f:List Fn->Nat->Nat->List P->aW->R P,f=oO:=⟨oO,rfl⟩
noncomputable def callC:List Fn->Nat->Nat->List P->aW->R P:=Classical.choose z6
theorem rT:callC=oO:=Classical.choose_spec z6
theorem u0 Fs f ps st:callC Fs 0 f ps st=.no:=by rw[rT];rfl
theorem dD(Fs:List Fn)(n f:Nat)(ps:List P)(st:aW):callC Fs (n+1) f ps st=match Fs[f]? with|none=>.no|some F=>if F.sh then(if ps.length=F.np then B0 (ai (callC Fs n) F.body (aq F.nn ps) st) else .no) else match dQ st ps with|none=>.no|some qs=>match nP (callC Fs n) F qs with|none=>.no|some d=>mv ps d st:=by rw[rT,oO]
end Y
namespace L2
open PySem PySem.Spec PySem.Calls PyProof.Rows PySem.W
section
variable{X:Cx}
section
variable{prog:Qr}{w:World}{A:QJ}{E:Value->PJ->Prop}{s:PJ}{κ:SortKind}
end
end
section
variable{X:Cx}
theorem mw:∀{ts} {aD},aL (ts.map V.str) aD->∃l:List (Str×Tok),aD=Vl l/\l.map (·.1)=ts
 |[],_,h=>by cases h;exact⟨[],rfl,rfl⟩|x::ts,_,h=>by cases h with|cons r rs=>obtain⟨t,rfl⟩:=r;obtain⟨l,rfl,e⟩:=mw rs;exact⟨(x,t)::l,rfl,by rw[Qq,e]⟩
def rJoin(K:PD):V->List V->Hp->VK->Prop:=λx vs H Q=>∃(z:Str) (p:Addr) (ts:List Str),x=.str z/\vs=[.ref p]/\gZ K H p (ts.map V.str)/\(ts.map (·.length)).sum+ts.length*z.length<=1000000/\Q (.str (Qd z ts)) H
theorem B1:LI X "str.join" (rJoin X.K):=by
 intro η s σ H x vs v us Q I rx rv h;obtain⟨z,p,ts,rfl,rfl,hq,hz,q⟩:=h;obtain⟨t,rfl⟩:=rx;obtain⟨u,rfl,ru⟩:=rv.one;cases ru;obtain⟨aD,r,pl,_⟩:=I.list hq;obtain⟨l,rfl,e⟩:=mw r;refine SC.join pl.isList e ?_ λt' k=>?_;·unfold JoinOk;rw[StrLaws.joinTotal];unfold R1.Str.tooLong;rw[decide_eq_false (by rw[QG];lia)];rfl
 ·refine⟨.str (Qd z ts),H,I.tok _,⟨t',?_⟩,q⟩;show Sz (PySem.Txt.join z ts) t'=_;unfold PySem.Txt.join;rw[StrLaws.glued_eq_join]
end
end L2
namespace Y
open PySem L2
structure KB where
 K:PD
 B:Heap
 tabs:List (Addr×List (Pos×Str))
 z7:Nat->Addr->Addr->List V->Prop
 N6:Nat->Addr->Addr->Value->Heap->Prop
 ym:Nat->Str
 xq:Hp->Prop
structure KT where
 tabs:List (Addr×List (Pos×Str)):=[]
 z7:Nat->Addr->Addr->List V->Prop:=λ_ _ _ _=>False
 N6:Nat->Addr->Addr->Value->Heap->Prop:=λ_ _ _ _ _=>False
 ym:Nat->Str:=λ_=>""
 cx:vF:=Jb
 xq:Hp->Prop:=λ_=>False
abbrev ae(X:Cx)(t:KT):KB:=⟨X.K,X.base,t.tabs,t.z7,t.N6,t.ym,t.xq⟩
mutual
def aI(K:KB)(H:Hp)(m Z:List Addr):D->V->Prop
 |.aU,v=>v=.aU|.bl b,v=>v=.bl b|.int i,v=>v=.int i|.str x,v=>v=.str x|.tup xs,v=>∃a us,v=.ref a/\H a=Δ (.tup us)/\aj K H m Z xs us|.pl xs,v=>∃a us,v=.ref a/\Rd H a (.lst us)/\a∉m/\a∉Z/\aj K H m Z xs us
def aj(K:KB)(H:Hp)(m Z:List Addr):List D->List V->Prop
 |[],us=>us=[]|x::xs,us=>∃v vs,us=v::vs/\aI K H m Z x v/\aj K H m Z xs vs
end
noncomputable def Fp(K:PD)(H:Hp)(a:Addr)(us:List V):Prop:=(∃o,H a=Δ (.cC o (.lst us)))\/
 ∃(o:Obj) (aD:Array Value) (n:Nat),K.lookup a=Δ o/\o.cls=.type "list"/\o.dict=Θ/\o.data=.seq aD n/\aD.size<=PQ/\aL us aD.toList
theorem Fp.sq(h:Fp K H a us):gZ K H a us:=by
 rcases h with h|h;·exact .inl (.inr h)
 ·exact .inr h
mutual
def au(K:KB)(H:Hp)(m Z:List Addr):P->V->Prop
 |.d x,v=>aI K H m Z x v|.obj n,v=>∃a,m[n]?=Δ a/\v=.ref a|.dw ns,v=>∃a,v=.ref a/\Fp K.K H a (ns.map V.int)|.fn k dB,v=>∃a c ir,v=.ref a/\K.z7 k a c ir/\H c=Δ (.ext (kE c (K.ym k)))/\ah K H m Z dB ir|.lf k,v=>∃a c ct,v=.ref a/\H a=Δ (.ext (K.N6 k a c ct))/\H c=Δ (.ext (kE c (K.ym k)))
def ah(K:KB)(H:Hp)(m Z:List Addr):List P->List V->Prop
 |[],us=>us=[]|x::xs,us=>∃v vs,us=v::vs/\au K H m Z x v/\ah K H m Z xs vs
end
def aM{κ:Type}(K:KB)(H:Hp)(m Z:List Addr):List (κ×P)->List (κ×V)->Prop
 |[],us=>us=[]|x::xs,us=>∃v vs,us=(x.1,v)::vs/\au K H m Z x.2 v/\aM K H m Z xs vs
def kX(K:KB)(H:Hp)(m Z:List Addr)(a:Addr):O->Prop
 |.lst ps=>∃us,H a=Δ (.lst us)/\ah K H m Z ps us|.dK kvs=>∃us,H a=Δ (.dK us)/\aM K H m Z kvs us|.dT kvs=>∃us,H a=Δ (.dT us)/\aM K H m Z kvs us|.ins c fs=>∃C dx us,PN K.K PL c=Δ (Δ (.ref C))/\H a=Δ (.ins C dx us)/\H dx=Δ (.own a)/\aM K H m Z fs us|.qI=>∃o us,H a=Δ (.cC o (.dK us))
theorem ah.mono(f:∀p v,au K H m Z p v->au K H' m' Z' p v):∀{xs} {us},ah K H m Z xs us->ah K H' m' Z' xs us
 |[],_,h=>h|x::xs,us,h=>by rw[ah] at h ⊢;obtain⟨v,vs,e,r,rs⟩:=h;exact⟨v,vs,e,f _ _ r,ah.mono f rs⟩
theorem aM.mono{κ:Type}{H H':Hp}{m m' Z Z':List Addr}(f:∀p v,au K H m Z p v->au K H' m' Z' p v):∀{xs:List (κ×P)} {us:List (κ×V)},aM K H m Z xs us->aM K H' m' Z' xs us
 |[],_,h=>h|x::xs,us,h=>by obtain⟨v,vs,e,r,rs⟩:=(show ∃v vs,us=(x.1,v)::vs/\au K H m Z x.2 v/\aM K H m Z xs vs from h);exact⟨v,vs,e,f _ _ r,aM.mono f rs⟩
theorem kX.mono(he:∀b u,(b=a\/H b=Δ (.own a))->H b=Δ u->H' b=Δ u)(f:∀p v,au K H m Z p v->au K H' m' Z' p v)(h:kX K H m Z a o):kX K H' m' Z' a o:=by cases o with|lst ps=>obtain⟨us,e,r⟩:=h;exact⟨us,he _ _ (.inl rfl) e,r.mono f⟩|dK ps=>obtain⟨us,e,r⟩:=h;exact⟨us,he _ _ (.inl rfl) e,r.mono f⟩|dT ps=>obtain⟨us,e,r⟩:=h;exact⟨us,he _ _ (.inl rfl) e,r.mono f⟩|ins c fs=>obtain⟨C,dx,us,n,e,e2,r⟩:=h;exact⟨C,dx,us,n,he _ _ (.inl rfl) e,he _ _ (.inr e2) e2,r.mono f⟩|qI=>obtain⟨o,us,e⟩:=h;exact⟨o,us,he _ _ (.inl rfl) e⟩
theorem kX.lj(h:kX K H m Z a o):H a≠Θ/\(∀us,H a≠Δ (.tup us))/\(o≠.qI->∀o' u,H a≠Δ (.cC o' u))/\(∀φ,H a≠Δ (.ext φ))/\(∀ps,H a≠Δ (.iz ps))/\∀b,H a≠Δ (.own b):=by cases o with|lst ps=>obtain⟨us,e,r⟩:=h;rw[e];exact⟨(λz=>nomatch z),(λ_ z=>nomatch z),(λ_ _ _ z=>nomatch z),(λ_ z=>nomatch z),(λ_ z=>nomatch z),(λ_ z=>nomatch z)⟩|dK ps=>obtain⟨us,e,r⟩:=h;rw[e];exact⟨(λz=>nomatch z),(λ_ z=>nomatch z),(λ_ _ _ z=>nomatch z),(λ_ z=>nomatch z),(λ_ z=>nomatch z),(λ_ z=>nomatch z)⟩|dT ps=>obtain⟨us,e,r⟩:=h;rw[e];exact⟨(λz=>nomatch z),(λ_ z=>nomatch z),(λ_ _ _ z=>nomatch z),(λ_ z=>nomatch z),(λ_ z=>nomatch z),(λ_ z=>nomatch z)⟩|ins c fs=>obtain⟨C,dx,us,n,e,e2,r⟩:=h;rw[e];exact⟨(λz=>nomatch z),(λ_ z=>nomatch z),(λ_ _ _ z=>nomatch z),(λ_ z=>nomatch z),(λ_ z=>nomatch z),(λ_ z=>nomatch z)⟩|qI=>obtain⟨o,us,e⟩:=h;rw[e];exact⟨(λz=>nomatch z),(λ_ z=>nomatch z),(λz=>absurd rfl z),(λ_ z=>nomatch z),(λ_ z=>nomatch z),(λ_ z=>nomatch z)⟩
structure ay(K:KB)(H:Hp)(m Z:List Addr)(st:aW):Prop where
 len:m.length=st.length
 nd:m.Nodup
 at_:∀(n:Nat) (o:O),st[n]?=Δ o->∃a,m[n]?=Δ a/\kX K H m Z a o
 zt:∀a∈Z,nJ H a≠Θ
 zm:∀a∈Z,a∉m
 tab:∀t∈K.tabs,∃ps,H t.1=Δ (.iz ps)/\gw H t.2 ps
structure b8(K:KB)(H:Hp)(m Z:List Addr)(r:cE)(σ:St):Prop where
 len:r.length=σ.length
 at_:∀(i:Nat) (p:P),r[i]?=Δ (Δ p)->∃v,σ[i]?=Δ (Δ v)/\au K H m Z p v
structure Le(K:KB)(m:List Addr)(H:Hp)(m':List Addr)(H':Hp):Prop where
 pre:∃t,m'=m++t
 tup:∀a xs,H a=Δ (.tup xs)->H' a=Δ (.tup xs)
 keep:∀a u,H a=Δ u->a∉m->(∀ps,u≠.iz ps)->H' a=Δ u
 new:∀a∈m',a∈m\/H a=Θ
 lj:∀a,H a≠Θ->H' a≠Θ
 yn:∀a,nJ H a≠Θ->nJ H' a≠Θ
 cC:∀a o u,H a=Δ (.cC o u)->H' a=Δ (.cC o u)
 ext:∀a φ,H a=Δ (.ext φ)->H' a=Δ (.ext φ)
 iz:∀a ps,H a=Δ (.iz ps)->∃more,H' a=Δ (.iz (ps++more))
section
variable{K:KB}{H H' H1 H2:Hp}{m m' m1 m2 Z:List Addr}{α β:Type}
theorem z8(h:Rd H a u):H a≠Θ:=by rcases h with h|⟨o,h⟩<;>(rw[h];exact λz=>nomatch z)
theorem Le.refl:Le K m H m H:=⟨⟨[],by simp⟩,λ_ _ h=>h,λ_ _ h _ _=>h,λ_ h=>.inl h,λ_ h=>h,λ_ h=>h,λ_ _ _ h=>h,λ_ _ h=>h,λ_ ps h=>⟨#[],by rw[h];simp⟩⟩
theorem Le.trans(a:Le K m H m1 H1)(b:Le K m1 H1 m2 H2):Le K m H m2 H2 where
 pre:=by obtain⟨t,e⟩:=a.pre;obtain⟨u,e'⟩:=b.pre;exact⟨t++u,by rw[e',e,QQ]⟩
 tup:=λc xs h=>b.tup c xs (a.tup c xs h)
 keep:=λc u h hc hu=>b.keep c u (a.keep c u h hc hu) (λz=>by
  rcases a.new c z with q|q;·exact hc q
  ·rw[h] at q;cases q) hu
 new:=λc hc=>by
  rcases b.new c hc with q|q;·exact a.new c q
  ·cases e:H c with|none=>exact .inr rfl|some o=>exact absurd q (a.lj c (by rw[e];exact λz=>nomatch z))
 lj:=λc h=>b.lj c (a.lj c h)
 yn:=λc h=>b.yn c (a.yn c h)
 cC:=λc o u h=>b.cC c o u (a.cC c o u h)
 ext:=λc φ h=>b.ext c φ (a.ext c φ h)
 iz:=λc ps h=>by obtain⟨m1,e1⟩:=a.iz c ps h;obtain⟨m2,e2⟩:=b.iz c _ e1;exact⟨m1++m2,by rw[e2,TN]⟩
theorem B2(e:du H H')(h:H a≠Θ):H' a≠Θ:=by cases q:H a with|none=>exact absurd q h|some o=>rw[e _ _ q];exact λz=>nomatch z
theorem mx(e:du H H')(h:nJ H a≠Θ):nJ H' a≠Θ:=by cases q:nJ H a with|none=>exact absurd q h|some o=>obtain⟨h1,h2⟩:=zo q;have h3:=e _ _ h1;cases o with|ext φ=>have:∃q,φ=kE a q:=Classical.byContradiction λz=>h2 φ rfl λq' e'=>z ⟨q',e'⟩;obtain⟨q',rfl⟩:=this;rw[zl h3];exact λz=>nomatch z|_=>rw[gv h3 (λ_ z=>nomatch z)];exact λz=>nomatch z
theorem Le.same(e:du H H'):Le K m H m H':=⟨⟨[],by simp⟩,λ_ _ h=>e _ _ h,λ_ _ h _ _=>e _ _ h,λ_ h=>.inl h,λ_ h=>B2 e h,λ_ h=>mx e h,λ_ _ _ h=>e _ _ h,λ_ _ h=>e _ _ h,λ_ ps h=>⟨#[],by rw[e _ _ h];simp⟩⟩
theorem Le.rd(le:Le K m H m' H')(h:Rd H a (.lst us))(hm:a∉m):Rd H' a (.lst us):=by
 rcases h with h|⟨o,h⟩;·exact .inl (le.keep _ _ h hm (λ_ z=>nomatch z))
 ·exact .inr ⟨o,le.keep _ _ h hm (λ_ z=>nomatch z)⟩
mutual
theorem aI.le(le:Le K m H m' H'):∀{x:D} {v:V},aI K H m Z x v->aI K H' m' Z x v
 |.aU,_,h=>h|.bl _,_,h=>h|.int _,_,h=>h|.str _,_,h=>h|.tup xs,v,h=>by obtain⟨a,us,e,q,r⟩:=(show ∃a us,v=.ref a/\H a=Δ (.tup us)/\aj K H m Z xs us from h);exact⟨a,us,e,le.tup _ _ q,aj.le le r⟩
 |.pl xs,v,h=>by
  obtain⟨a,us,e,q,hm,hz,r⟩:=(show ∃a us,v=.ref a/\Rd H a (.lst us)/\a∉m/\a∉Z/\aj K H m Z xs us from h);refine⟨a,us,e,le.rd q hm,λz=>?_,hz,aj.le le r⟩;rcases le.new a z with y|y;·exact hm y
  ·exact z8 q y
theorem aj.le(le:Le K m H m' H'):∀{xs:List D} {us:List V},aj K H m Z xs us->aj K H' m' Z xs us
 |[],_,h=>h|x::xs,us,h=>by obtain⟨v,vs,e,r,rs⟩:=(show ∃v vs,us=v::vs/\aI K H m Z x v/\aj K H m Z xs vs from h);exact⟨v,vs,e,aI.le le r,aj.le le rs⟩
end
mutual
theorem au.le(le:Le K m H m' H'):∀{x:P} {v:V},au K H m Z x v->au K H' m' Z x v
 |.d _,_,h=>by rw[au] at h ⊢;exact aI.le le h|.obj n,v,h=>by rw[au] at h ⊢;obtain⟨a,e,r⟩:=h;obtain⟨t,q⟩:=le.pre;refine⟨a,?_,r⟩;rw[q,P8 (qqz e).1];exact e
 |.dw ns,v,h=>by
  rw[au] at h ⊢;obtain⟨a,e,r⟩:=h;refine⟨a,e,?_⟩;rcases r with ⟨o,r⟩|r
  ·exact .inl ⟨o,le.cC _ _ _ r⟩
  ·exact .inr r
 |.fn k dB,v,h=>by rw[au] at h ⊢;obtain⟨a,c,ir,e,q,hc,r⟩:=h;exact⟨a,c,ir,e,q,le.ext _ _ hc,ah.le le r⟩|.lf k,v,h=>by rw[au] at h ⊢;obtain⟨a,c,ct,e,q,r⟩:=h;exact⟨a,c,ct,e,le.ext _ _ q,le.ext _ _ r⟩
theorem ah.le(le:Le K m H m' H'):∀{xs:List P} {us:List V},ah K H m Z xs us->ah K H' m' Z xs us
 |[],_,h=>h|x::xs,us,h=>by obtain⟨v,vs,e,r,rs⟩:=(show ∃v vs,us=v::vs/\au K H m Z x v/\ah K H m Z xs vs by rw[ah] at h;exact h);rw[ah];exact⟨v,vs,e,au.le le r,ah.le le rs⟩
end
theorem b8.le(A:b8 K H m Z r σ)(le:Le K m H m' H'):b8 K H' m' Z r σ:=⟨A.len,λi p h=>by obtain⟨v,e,q⟩:=A.at_ i p h;exact⟨v,e,q.le le⟩⟩
theorem gw.same(e:∀a φ,H a=Δ (.ext φ)->H' a=Δ (.ext φ))(h:gw H zp ps):gw H' zp ps:=
 ⟨h.1,λp hp cv N7=>by obtain⟨c,e1,e2⟩:=h.2 p hp cv N7;exact⟨c,e1,e _ _ e2⟩⟩
theorem ay.same(A:ay K H m Z st)(e:du H H'):ay K H' m Z st:=by
 refine⟨A.len,A.nd,λn o h=>?_,λa h=>mx e (A.zt a h),A.zm,λt ht=>?_⟩;·obtain⟨a,q,r⟩:=A.at_ n o h;exact⟨a,q,r.mono (λb u _ hu=>e _ _ hu) λp v z=>z.le (Le.same e)⟩
 ·obtain⟨ps,h1,h2⟩:=A.tab t ht;exact⟨ps,e _ _ h1,gw.same (λa φ z=>e _ _ z) h2⟩
noncomputable def Ok(K:KB)(Z:List Addr)(r:R α)(m:List Addr)(H:Hp)(Q:α->aW->List Addr->Hp->Prop):Prop:=match r with|.ok a bI=>∀m' H',Le K m H m' H'->ay K H' m' Z bI->Q a bI m' H'|.ex _ bI=>∀m' H',Le K m H m' H'->ay K H' m' Z bI->K.xq H'|.no=>False
theorem Ok.le(h:Ok K Z r m H Q)(le:Le K m H m' H'):Ok K Z r m' H' Q:=by cases r with|ok a bI=>exact λm2 H2 l2 a2=>h m2 H2 (le.trans l2) a2|ex x bI=>exact λm2 H2 l2 a2=>h m2 H2 (le.trans l2) a2|no=>exact h
theorem Ok.bind(h:Ok K Z (r.bind k) m H Q):Ok K Z r m H (λa bI m' H'=>Ok K Z (k a bI) m' H' Q):=by cases r with|ok a bI=>exact λm' H' le _=>Ok.le (r:=k a bI) h le|ex x bI=>exact h|no=>exact h
theorem Ok.mono(h:Ok K Z r m H Q)(f:∀a bI m' H',Le K m H m' H'->ay K H' m' Z bI->Q a bI m' H'->Q' a bI m' H'):Ok K Z r m H Q':=by cases r with|ok a bI=>exact λm' H' le as=>f a bI m' H' le as (h m' H' le as)|ex x bI=>exact h|no=>exact h
theorem Ok.vT(h:Ok K Z r m H Q)(f:∀a bI m' H',r=.ok a bI->Le K m H m' H'->ay K H' m' Z bI->Q a bI m' H'->Q' a bI m' H'):Ok K Z r m H Q':=by cases r with|ok a bI=>exact λm' H' le as=>f a bI m' H' rfl le as (h m' H' le as)|ex x bI=>exact h|no=>exact h
theorem Ok.of(h:Ok K Z (R.of o st) m H Q)(as:ay K H m Z st):∃a,o=Δ a/\Q a st m H/\∀m' H',Le K m H m' H'->ay K H' m' Z st->Q a st m' H':=by cases o with|none=>exact(show False from h).elim|some a=>exact⟨a,rfl,h m H Le.refl as,h⟩
theorem Ok.here(h:Ok K Z (R.ok a st) m H Q)(as:ay K H m Z st):Q a st m H:=h m H Le.refl as
inductive tE (K:KB) (Z:List Addr) (d:cE->aW->R P) (σ:St) (H:Hp) (Q:VK):Prop
 |mk (m:List Addr) (r:cE) (st:aW) (a:b8 K H m Z r σ) (b:ay K H m Z st) (c:Ok K Z (d r st) m H (λp _ m' H'=>∀v,au K H' m' Z p v->Q v H')):tE K Z d σ H Q
inductive tT (K:KB) (Z:List Addr) (d:cE->aW->R Bool) (σ:St) (H:Hp) (Q:Bool->Hp->Prop):Prop
 |mk (m:List Addr) (r:cE) (st:aW) (a:b8 K H m Z r σ) (b:ay K H m Z st) (c:Ok K Z (d r st) m H (λb _ _ H'=>Q b H')):tT K Z d σ H Q
inductive tA (K:KB) (Z:List Addr) (d:cE->aW->R (List P)) (σ:St) (H:Hp) (Q:List V->Hp->Prop):Prop
 |mk (m:List Addr) (r:cE) (st:aW) (a:b8 K H m Z r σ) (b:ay K H m Z st) (c:Ok K Z (d r st) m H (λps _ m' H'=>∀vs,ah K H' m' Z ps vs->Q vs H')):tA K Z d σ H Q
def LQ(K:KB)(Z:List Addr)(r:R (List P))(m:List Addr)(H:Hp)(Q:VK):Prop:=match r with|.ok ps bI=>∀m' H' a vs,Le K m H m' H'->H a=Θ->a∉m'->H' a=Δ (.lst vs)->ay K H' m' (a::Z) bI->ah K H' m' (a::Z) ps vs->Q (.ref a) H'|.ex _ bI=>∀m' H',Le K m H m' H'->ay K H' m' Z bI->K.xq H'|.no=>False
inductive tL (K:KB) (Z:List Addr) (d:cE->aW->R (List P)) (σ:St) (H:Hp) (Q:VK):Prop
 |mk (m:List Addr) (r:cE) (st:aW) (a:b8 K H m Z r σ) (b:ay K H m Z st) (c:LQ K Z (d r st) m H Q):tL K Z d σ H Q
def ke(K:KB)(Z:List Addr)(D:Ends):Fl->aW->List Addr->Hp->Prop:=λf _ m' H'=>match f with|.nx r=>∀σ,b8 K H' m' Z r σ->D.nx σ H'|.bk r=>∀σ,b8 K H' m' Z r σ->D.bk σ H'|.ct r=>∀σ,b8 K H' m' Z r σ->D.ct σ H'|.rt p=>∀v,au K H' m' Z p v->D.rt v H'
mutual
theorem aI.sub{Z':List Addr}(sm:∀a∈m',a∈m)(s:∀a∈Z,a∈Z'):∀{x:D} {v:V},aI K H m Z' x v->aI K H m' Z x v
 |.aU,_,h=>h|.bl _,_,h=>h|.int _,_,h=>h|.str _,_,h=>h|.tup xs,v,h=>by obtain⟨a,us,e,q,r⟩:=(show ∃a us,v=.ref a/\H a=Δ (.tup us)/\aj K H m Z' xs us from h);exact⟨a,us,e,q,aj.sub sm s r⟩
 |.pl xs,v,h=>by obtain⟨a,us,e,q,hm,hz,r⟩:=(show ∃a us,v=.ref a/\Rd H a (.lst us)/\a∉m/\a∉Z'/\aj K H m Z' xs us from h);exact⟨a,us,e,q,λz=>hm (sm a z),λz=>hz (s a z),aj.sub sm s r⟩
theorem aj.sub{Z':List Addr}(sm:∀a∈m',a∈m)(s:∀a∈Z,a∈Z'):∀{xs:List D} {us:List V},aj K H m Z' xs us->aj K H m' Z xs us
 |[],_,h=>h|x::xs,us,h=>by obtain⟨v,vs,e,r,rs⟩:=(show ∃v vs,us=v::vs/\aI K H m Z' x v/\aj K H m Z' xs vs from h);exact⟨v,vs,e,aI.sub sm s r,aj.sub sm s rs⟩
end
theorem aI.kY(s:∀a∈Z,a∈Z')(h:aI K H m Z' x v):aI K H m Z x v:=aI.sub (λ_ h=>h) s h
theorem aI.bare(h:aI K H m Z x v):aI K H [] [] x v:=aI.sub (λ_ h=>by cases h) (λ_ h=>by cases h) h
theorem aj.bare(h:aj K H m Z x v):aj K H [] [] x v:=aj.sub (λ_ h=>by cases h) (λ_ h=>by cases h) h
mutual
theorem au.kY{Z':List Addr}(s:∀a∈Z,a∈Z'):∀{x:P} {v:V},au K H m Z' x v->au K H m Z x v
 |.d _,_,h=>by rw[au] at h ⊢;exact aI.kY s h|.obj _,_,h=>by rw[au] at h ⊢;exact h|.dw _,_,h=>by rw[au] at h ⊢;exact h|.fn k dB,v,h=>by rw[au] at h ⊢;obtain⟨a,c,ir,e,q,hc,r⟩:=h;exact⟨a,c,ir,e,q,hc,ah.kY s r⟩
 |.lf k,v,h=>by rw[au] at h ⊢;exact h
theorem ah.kY{Z':List Addr}(s:∀a∈Z,a∈Z'):∀{xs:List P} {us:List V},ah K H m Z' xs us->ah K H m Z xs us
 |[],_,h=>h|x::xs,us,h=>by rw[ah] at h ⊢;obtain⟨v,vs,e,r,rs⟩:=h;exact⟨v,vs,e,au.kY s r,ah.kY s rs⟩
end
mutual
theorem aI.gF{b:Addr}(hb:H b=Θ):∀{x:D} {v:V},aI K H m Z x v->aI K H m (b::Z) x v
 |.aU,_,h=>h|.bl _,_,h=>h|.int _,_,h=>h|.str _,_,h=>h|.tup xs,v,h=>by obtain⟨a,us,e,q,r⟩:=(show ∃a us,v=.ref a/\H a=Δ (.tup us)/\aj K H m Z xs us from h);exact⟨a,us,e,q,aj.gF hb r⟩
 |.pl xs,v,h=>by
  obtain⟨a,us,e,q,hm,hz,r⟩:=(show ∃a us,v=.ref a/\Rd H a (.lst us)/\a∉m/\a∉Z/\aj K H m Z xs us from h);refine⟨a,us,e,q,hm,λz=>?_,aj.gF hb r⟩;rcases Ub.mp z with z|z;·rw[z] at q;exact z8 q hb
  ·exact hz z
theorem aj.gF{b:Addr}(hb:H b=Θ):∀{xs:List D} {us:List V},aj K H m Z xs us->aj K H m (b::Z) xs us
 |[],_,h=>h|x::xs,us,h=>by obtain⟨v,vs,e,r,rs⟩:=(show ∃v vs,us=v::vs/\aI K H m Z x v/\aj K H m Z xs vs from h);exact⟨v,vs,e,aI.gF hb r,aj.gF hb rs⟩
end
mutual
theorem au.gF{b:Addr}(hb:H b=Θ):∀{x:P} {v:V},au K H m Z x v->au K H m (b::Z) x v
 |.d _,_,h=>by rw[au] at h ⊢;exact aI.gF hb h|.obj _,_,h=>by rw[au] at h ⊢;exact h|.dw _,_,h=>by rw[au] at h ⊢;exact h|.fn k dB,v,h=>by rw[au] at h ⊢;obtain⟨a,c,ir,e,q,hc,r⟩:=h;exact⟨a,c,ir,e,q,hc,ah.gF hb r⟩
 |.lf k,v,h=>by rw[au] at h ⊢;exact h
theorem ah.gF{b:Addr}(hb:H b=Θ):∀{xs:List P} {us:List V},ah K H m Z xs us->ah K H m (b::Z) xs us
 |[],_,h=>h|x::xs,us,h=>by rw[ah] at h ⊢;obtain⟨v,vs,e,r,rs⟩:=h;exact⟨v,vs,e,au.gF hb r,ah.gF hb rs⟩
end
theorem ay.JQ(A:ay K H m Z st)(h:a∈m):H a≠Θ:=by
 obtain⟨n,hn,e⟩:=List.mem_iff_getElem.mp h;have pz:n < st.length:=by rw[<-A.len];exact hn
 obtain⟨a',e',r⟩:=A.at_ n st[n] (PV pz);rw[PV hn,e] at e';cases e';exact r.lj.1
theorem ay.fresh(A:ay K H m Z st)(h:H a=Θ):a∉m/\a∉Z:=⟨λz=>A.JQ z h,λz=>A.zt a z (zk h)⟩
theorem hW(hx:∀φ,o≠.ext φ)(h:nJ H b≠Θ):nJ (upd H a o) b≠Θ:=by
 by_cases hb:b=a;·rw[hb,gv aF hx];exact λz=>nomatch z
 ·unfold nJ at h ⊢;rw[aw hb];exact h
theorem ay.laid(A:ay K H m Z st)(h:H a=Θ)o(hx:∀φ,o≠.ext φ:=by exact λ_ z=>nomatch z):ay K (upd H a o) m (a::Z) st:=by
 have e:du H (upd H a o):=aZ h o;have A':=A.same e;refine⟨A.len,A.nd,λn ob hn=>?_,λb hb=>?_,λb hb=>?_,A'.tab⟩;·obtain⟨c,q,r⟩:=A.at_ n ob hn;exact⟨c,q,r.mono (λb u _ hu=>e _ _ hu) λp v z=>(z.gF h).le (Le.same e)⟩
 ·rcases Ub.mp hb with z|z;·rw[z,gv aF hx];exact λz=>nomatch z
  ·exact A'.zt b z
 ·rcases Ub.mp hb with z|z;·rw[z];exact(A.fresh h).1
  ·exact A.zm b z
theorem ay.JR(A:ay K H m Z st)(h:H a=Θ)(e:du H H')(h':nJ H' a≠Θ):ay K H' m (a::Z) st:=by
 refine⟨A.len,A.nd,λn ob hn=>?_,λb hb=>?_,λb hb=>?_,(A.same e).tab⟩;·obtain⟨c,q,r⟩:=A.at_ n ob hn;exact⟨c,q,r.mono (λb u _ hu=>e _ _ hu) λp v z=>(z.gF h).le (Le.same e)⟩
 ·rcases Ub.mp hb with z|z;·rw[z];exact h'
  ·exact mx e (A.zt b z)
 ·rcases Ub.mp hb with z|z;·rw[z];exact(A.fresh h).1
  ·exact A.zm b z
theorem ay.kY(A:ay K H m Z' st)(s:∀a∈Z,a∈Z'):ay K H m Z st:=
 ⟨A.len,A.nd,λn o h=>by obtain⟨a,q,r⟩:=A.at_ n o h;exact⟨a,q,r.mono (λb u _ hu=>hu) λp v z=>z.kY s⟩,λa h=>A.zt a (s a h),λa h=>A.zm a (s a h),A.tab⟩
mutual
theorem aI.adopt{b:Addr}:∀{x:D} {v:V},aI K H m (b::Z) x v->aI K H (m++[b]) Z x v
 |.aU,_,h=>h|.bl _,_,h=>h|.int _,_,h=>h|.str _,_,h=>h|.tup xs,v,h=>by obtain⟨a,us,e,q,r⟩:=(show ∃a us,v=.ref a/\H a=Δ (.tup us)/\aj K H m (b::Z) xs us from h);exact⟨a,us,e,q,aj.adopt r⟩
 |.pl xs,v,h=>by
  obtain⟨a,us,e,q,hm,hz,r⟩:=(show ∃a us,v=.ref a/\Rd H a (.lst us)/\a∉m/\a∉b::Z/\aj K H m (b::Z) xs us from h);refine⟨a,us,e,q,λz=>?_,λz=>hz (Pz _ z),aj.adopt r⟩;rcases List.mem_append.mp z with z|z;·exact hm z
  ·exact hz (by simp at z;rw[z];exact PC)
theorem aj.adopt{b:Addr}:∀{xs:List D} {us:List V},aj K H m (b::Z) xs us->aj K H (m++[b]) Z xs us
 |[],_,h=>h|x::xs,us,h=>by obtain⟨v,vs,e,r,rs⟩:=(show ∃v vs,us=v::vs/\aI K H m (b::Z) x v/\aj K H m (b::Z) xs vs from h);exact⟨v,vs,e,aI.adopt r,aj.adopt rs⟩
end
mutual
theorem au.adopt{b:Addr}:∀{x:P} {v:V},au K H m (b::Z) x v->au K H (m++[b]) Z x v
 |.d _,_,h=>by rw[au] at h ⊢;exact aI.adopt h|.obj n,v,h=>by rw[au] at h ⊢;obtain⟨a,e,r⟩:=h;exact⟨a,by rw[P8 (qqz e).1];exact e,r⟩
 |.dw _,_,h=>by rw[au] at h ⊢;exact h|.fn k dB,v,h=>by rw[au] at h ⊢;obtain⟨a,c,ir,e,q,hc,r⟩:=h;exact⟨a,c,ir,e,q,hc,ah.adopt r⟩
 |.lf k,v,h=>by rw[au] at h ⊢;exact h
theorem ah.adopt{b:Addr}:∀{xs:List P} {us:List V},ah K H m (b::Z) xs us->ah K H (m++[b]) Z xs us
 |[],_,h=>h|x::xs,us,h=>by rw[ah] at h ⊢;obtain⟨v,vs,e,r,rs⟩:=h;exact⟨v,vs,e,au.adopt r,ah.adopt rs⟩
end
theorem gj{l:List Addr}(nd:l.Nodup)(hi:i < l.length)(hj:j < l.length)(h:l[i]=l[j]):i=j:=by
 rcases Nat.lt_trichotomy i j with z|z|z;·exact absurd h (List.pairwise_iff_getElem.mp nd i j hi hj z)
 ·exact z
 ·exact absurd h.symm (List.pairwise_iff_getElem.mp nd j i hj hi z)
theorem ay.my(A:ay K H m (a::Z) st)(hz:a∉Z)(r:kX K H m (a::Z) a ob):ay K H (m++[a]) Z (st++[ob]):=by
 refine⟨by rw[Qh,Qh,A.len];rfl,?_,λn o h=>?_,λb h=>A.zt b (Pz _ h),λb h z=>?_,A.tab⟩
 ·refine List.nodup_append.mpr ⟨A.nd,by simp,λx hx y hy=>?_⟩;have e:y=a:=by simpa using hy
  rw[e];rintro rfl;exact A.zm x PC hx
 ·by_cases hn:n < st.length;·rw[P8 hn] at h;obtain⟨b,q,rr⟩:=A.at_ n o h;exact⟨b,by rw[P8 (by rw[A.len];exact hn)];exact q,rr.mono (λb u _ hu=>hu) λp v z=>z.adopt⟩
  ·rw[Qk (by lia)] at h;have L4:n - st.length=0:=by
    have:=(qqz h).1;simp at this
    lia
   rw[L4] at h;cases h;refine⟨a,?_,r.mono (λb u _ hu=>hu) λp v z=>z.adopt⟩;rw[Qk (by rw[A.len];lia),A.len,L4];rfl
 ·rcases List.mem_append.mp z with z|z;·exact A.zm b (Pz _ h) z
  ·have e:b=a:=by simpa using z
   rw[e] at h;exact hz h
theorem ay.adopt(A:ay K H m (a::Z) st)(hz:a∉Z)(ha:H a=Δ (.lst vs))(r:ah K H m (a::Z) ps vs):ay K H (m++[a]) Z (st++[.lst ps]):=A.my hz ⟨vs,ha,r⟩
theorem ay.write(A:ay K H m Z st)(hn:st[n]?=Δ o)(ha:m[n]?=Δ a)(ll:∀H',H' a=Δ ho->(∀b u,b≠a->H b=Δ u->H' b=Δ u)->(∀p v,au K H m Z p v->au K H' m Z p v)->kX K H' m Z a o')(hx:∀φ,ho≠.ext φ:=by exact λ_ z=>nomatch z)(hl:o≠.qI:=by exact λz=>nomatch z):
  Le K m H m (upd H a ho)/\ay K (upd H a ho) m Z (st.set n o'):=by
 obtain⟨a',e,r⟩:=A.at_ n o hn;rw[ha] at e;cases e;obtain⟨t1,t2,t3,t4,t5,t6⟩:=r.lj;replace t3:=t3 hl;have le:Le K m H m (upd H a ho):=by
  refine⟨⟨[],by simp⟩,λb xs h=>?_,λb u h hb _=>?_,λb h=>.inl h,λb h=>?_,λb h=>hW hx h,λb o u h=>?_,λb φ h=>?_,λb ps h=>⟨#[],?_⟩⟩;·rw[aw (λz=>t2 xs (by rw[<-z];exact h))];exact h
  ·rw[aw (λz=>hb (by rw[z];exact RI ha))];exact h
  ·by_cases Fq:b=a;·rw[Fq,aF];exact λz=>nomatch z
   ·rw[aw Fq];exact h
  ·rw[aw (λz=>t3 o u (by rw[<-z];exact h))];exact h
  ·rw[aw (λz=>t4 φ (by rw[<-z];exact h))];exact h
  ·rw[aw (λz=>t5 ps (by rw[<-z];exact h)),h];simp
 refine⟨le,⟨by rw[R4];exact A.len,A.nd,λk ob hk=>?_,λb hb=>le.yn b (A.zt b hb),A.zm,λt ht=>?_⟩⟩
 rotate_left
 ·obtain⟨ps,h1,h2⟩:=A.tab t ht;exact⟨ps,by rw[aw (λz=>t5 ps (by rw[<-z];exact h1))];exact h1,gw.same le.ext h2⟩
 by_cases Ft:n=k;·subst Ft;have fH:=(qqz hn).1;rw[QC fH] at hk;cases hk;exact⟨a,ha,ll _ aF (λb u hb hu=>by rw[aw hb];exact hu) λp v z=>z.le le⟩
 ·rw[Rm Ft] at hk;obtain⟨b,q,rr⟩:=A.at_ k ob hk;have Fq:b≠a:=by rintro rfl;have h1:=(qqz ha);have h2:=(qqz q);obtain⟨l1,e1⟩:=h1;obtain⟨l2,e2⟩:=h2;exact Ft (gj A.nd l1 l2 (e1.trans e2.symm))
  exact⟨b,q,rr.mono (λb' u fh hu=>by
   rw[aw (λz=>by
    rcases fh with w1|w1;·exact Fq (w1▸z)
    ·exact t6 b (by rw[<-z];exact w1))]
   exact hu) λp v z=>z.le le⟩
end
mutual
def RH(h:Heap):D->Value->Prop
 |.aU,u=>u=.none|.bl b,u=>u=.bool b|.int i,u=>∃t,u=.int i t|.str x,u=>∃t,u=.str x t|.tup xs,u=>∃a aD,u=.ref a/\h.IsTuple a aD.toArray/\nv h xs aD|.pl xs,u=>∃a aD,u=.ref a/\h.IsList a aD.toArray/\nv h xs aD
def nv(h:Heap):List D->List Value->Prop
 |[],us=>us=[]|x::xs,us=>∃u r,us=u::r/\RH h x u/\nv h xs r
end
section
variable{h:Heap}
theorem nv.length:∀{xs} {us},nv h xs us->us.length=xs.length
 |[],us,r=>by cases (show us=[] from r);rfl|x::xs,us,r=>by obtain⟨u,q,rfl,_,rs⟩:=(show ∃u r,us=u::r/\RH h x u/\nv h xs r from r);rw[PU,PU,nv.length rs]
theorem kL(p:h.IsTuple a x)(q:h.IsTuple a y):x=y:=by obtain⟨o,e,_,n,d⟩:=p;obtain⟨o',e',_,n',d'⟩:=q;rw[e] at e';cases e';rw[d] at d';cases d';rfl
theorem mz(p:h.IsList a x)(q:h.IsList a y):x=y:=by obtain⟨o,e,_,n,d⟩:=p;obtain⟨o',e',_,n',d'⟩:=q;rw[e] at e';cases e';rw[d] at d';cases d';rfl
theorem rV(p:h.IsTuple a x)(q:h.IsList a y):False:=by obtain⟨o,e,c,_⟩:=p;obtain⟨o',e',c',_⟩:=q;rw[e] at e';cases e';rw[c] at c';exact absurd c' (by decide+kernel)
mutual
theorem RH.self:∀{x y:D} {u:Value},RH h x u->RH h y u->l9 x y=Λ
 |.aU,y,u,p,q=>by cases (show u=.none from p);cases y with|aU=>rfl|bl b=>exact nomatch (show Ry=.bool b from q)|int i=>obtain⟨t,e⟩:=q;exact nomatch e|str i=>obtain⟨t,e⟩:=q;exact nomatch e|tup i=>obtain⟨t,_,e,_⟩:=q;exact nomatch e|pl i=>obtain⟨t,_,e,_⟩:=q;exact nomatch e
 |.bl b,y,u,p,q=>by cases (show u=.bool b from p);cases y with|aU=>exact nomatch (show Sw b=.none from q)|bl c=>cases (show Sw b=.bool c from q);simp[l9]|int i=>obtain⟨t,e⟩:=q;exact nomatch e|str i=>obtain⟨t,e⟩:=q;exact nomatch e|tup i=>obtain⟨t,_,e,_⟩:=q;exact nomatch e|pl i=>obtain⟨t,_,e,_⟩:=q;exact nomatch e
 |.int b,y,u,p,q=>by obtain⟨t0,rfl⟩:=p;cases y with|aU=>exact nomatch (show Sh b t0=.none from q)|bl c=>exact nomatch (show Sh b t0=.bool c from q)|int i=>obtain⟨t,e⟩:=q;cases e;simp[l9]|str i=>obtain⟨t,e⟩:=q;exact nomatch e|tup i=>obtain⟨t,_,e,_⟩:=q;exact nomatch e|pl i=>obtain⟨t,_,e,_⟩:=q;exact nomatch e
 |.str b,y,u,p,q=>by obtain⟨t0,rfl⟩:=p;cases y with|aU=>exact nomatch (show Sz b t0=.none from q)|bl c=>exact nomatch (show Sz b t0=.bool c from q)|int i=>obtain⟨t,e⟩:=q;exact nomatch e|str i=>obtain⟨t,e⟩:=q;cases e;simp[l9]|tup i=>obtain⟨t,_,e,_⟩:=q;exact nomatch e|pl i=>obtain⟨t,_,e,_⟩:=q;exact nomatch e
 |.tup xs,y,u,p,q=>by
  obtain⟨a,aD,rfl,ht,rs⟩:=p;cases y with
  |aU=>exact nomatch (show PZ a=.none from q)|bl c=>exact nomatch (show PZ a=.bool c from q)|int i=>obtain⟨t,e⟩:=q;exact nomatch e|str i=>obtain⟨t,e⟩:=q;exact nomatch e|tup ys=>
   obtain⟨b,its',e,Fu,pZ⟩:=q;cases e;have e2:aD=its':=by simpa using kL ht Fu
   subst e2;show eB xs ys=Λ;exact nv.self rs pZ
  |pl ys=>obtain⟨b,its',e,Fu,pZ⟩:=q;cases e;exact(rV ht Fu).elim
 |.pl xs,y,u,p,q=>by
  obtain⟨a,aD,rfl,ht,rs⟩:=p;cases y with
  |aU=>exact nomatch (show PZ a=.none from q)|bl c=>exact nomatch (show PZ a=.bool c from q)|int i=>obtain⟨t,e⟩:=q;exact nomatch e|str i=>obtain⟨t,e⟩:=q;exact nomatch e|tup ys=>obtain⟨b,its',e,Fu,pZ⟩:=q;cases e;exact(rV Fu ht).elim
  |pl ys=>
   obtain⟨b,its',e,Fu,pZ⟩:=q;cases e;have e2:aD=its':=by simpa using mz ht Fu
   subst e2;show eB xs ys=Λ;exact nv.self rs pZ
theorem nv.self:∀{xs ys:List D} {us:List Value},nv h xs us->nv h ys us->eB xs ys=Λ
 |[],ys,us,p,q=>by cases (show us=[] from p);cases ys with|nil=>rfl|cons y ys=>obtain⟨u,r,e,_⟩:=q;exact nomatch e
 |x::xs,ys,us,p,q=>by obtain⟨u,r,rfl,p1,p2⟩:=(show ∃u r,us=u::r/\RH h x u/\nv h xs r from p);cases ys with|nil=>exact nomatch (show u::r=[] from q)|cons y ys=>obtain⟨u',r',e,q1,q2⟩:=(show ∃u' r',u::r=u'::r'/\RH h y u'/\nv h ys r' from q);cases e;show(l9 x y&&eB xs ys)=Λ;rw[RH.self p1 q1,nv.self p2 q2];rfl
end
def pairD(xs ys:List D)(j:Nat):Bool:=l9 (xs.getD j .aU) (ys.getD j .aU)
theorem jv:∀xs ys,((Q0 (min xs.length ys.length)).all (pairD xs ys)&&xs.length==ys.length)=eB xs ys
 |[],[]=>rfl|[],_::_=>by simp[eB]|_::_,[]=>by simp[eB]|x::xs,y::ys=>by
  have ih:=jv xs ys;have e1:min (x::xs).length (y::ys).length=min xs.length ys.length+1:=by simp only[PU];lia
  have e2:((x::xs).length==(y::ys).length)=(xs.length==ys.length):=by simp
  have e3:(Q0 (min xs.length ys.length+1)).all (pairD (x::xs) (y::ys))=(l9 x y&&(Q0 (min xs.length ys.length)).all (pairD xs ys)):=by rw[List.range_succ_eq_map,RO,List.all_map];first|rfl|simp[pairD,Function.comp_def]
  rw[e1,e2,e3,eB,<-ih,Bool.and_assoc]
theorem rW(h:xs.length=ys.length):(Q0 xs.length).all (pairD xs ys)=eB xs ys:=by have:=jv xs ys;rw[<-h,Nat.min_self] at this;simpa using this
theorem mD(h:xs.length≠ys.length):eB xs ys=Ξ:=by rw[<-jv xs ys];simp[h]
open SeqAt
mutual
theorem JS:∀(x y:D) (A:QJ) (s:PJ) (u v:Value),RH s.heap x u->RH s.heap y v->A.units+min (iK x) (iK y) < cLine->RcAt A s u v (l9 x y)/\RcNeAt A s u v (!l9 x y)
 |.aU,y,A,s,u,v,p,q,hu=>by cases (show u=.none from p);cases y with|aU=>cases (show v=.none from q);exact⟨RcAt.none_none,RcNeAt.none_none⟩|bl b=>cases (show v=.bool b from q);exact⟨RcAt.none_bool b,RcNeAt.none_bool b⟩|int b=>obtain⟨t,rfl⟩:=q;exact⟨RcAt.none_int b t,RcNeAt.none_int b t⟩|str b=>obtain⟨t,rfl⟩:=q;exact⟨RcAt.none_str b t,RcNeAt.none_str b t⟩|tup ys=>obtain⟨a,aD,rfl,hl,_⟩:=q;exact⟨RcAt.none_tuple hl (room_here hu),RcNeAt.none_tuple hl (room_here hu)⟩|pl ys=>obtain⟨a,aD,rfl,hl,_⟩:=q;exact⟨RcAt.none_list hl (room_here hu),RcNeAt.none_list hl (room_here hu)⟩
 |.bl x,y,A,s,u,v,p,q,hu=>by cases (show u=.bool x from p);cases y with|aU=>cases (show v=.none from q);exact⟨RcAt.bool_none x,RcNeAt.bool_none x⟩|bl b=>cases (show v=.bool b from q);exact⟨RcAt.bool_bool x b,RcNeAt.bool_bool x b⟩|int b=>obtain⟨t,rfl⟩:=q;exact⟨RcAt.bool_int x b t,RcNeAt.bool_int x b t⟩|str b=>obtain⟨t,rfl⟩:=q;exact⟨RcAt.bool_str x b t,RcNeAt.bool_str x b t⟩|tup ys=>obtain⟨a,aD,rfl,hl,_⟩:=q;exact⟨RcAt.bool_tuple x hl (room_here hu),RcNeAt.bool_tuple x hl (room_here hu)⟩|pl ys=>obtain⟨a,aD,rfl,hl,_⟩:=q;exact⟨RcAt.bool_list x hl (room_here hu),RcNeAt.bool_list x hl (room_here hu)⟩
 |.int x,y,A,s,u,v,p,q,hu=>by obtain⟨t0,rfl⟩:=p;cases y with|aU=>cases (show v=.none from q);exact⟨RcAt.int_none x t0,RcNeAt.int_none x t0⟩|bl b=>cases (show v=.bool b from q);exact⟨RcAt.int_bool x t0 b,RcNeAt.int_bool x t0 b⟩|int b=>obtain⟨t,rfl⟩:=q;exact⟨RcAt.int_int x t0 b t,RcNeAt.int_int x t0 b t⟩|str b=>obtain⟨t,rfl⟩:=q;exact⟨RcAt.int_str x t0 b t,RcNeAt.int_str x t0 b t⟩|tup ys=>obtain⟨a,aD,rfl,hl,_⟩:=q;exact⟨RcAt.int_tuple x t0 hl (room_here hu),RcNeAt.int_tuple x t0 hl (room_here hu)⟩|pl ys=>obtain⟨a,aD,rfl,hl,_⟩:=q;exact⟨RcAt.int_list x t0 hl (room_here hu),RcNeAt.int_list x t0 hl (room_here hu)⟩
 |.str x,y,A,s,u,v,p,q,hu=>by obtain⟨t0,rfl⟩:=p;cases y with|aU=>cases (show v=.none from q);exact⟨RcAt.str_none x t0,RcNeAt.str_none x t0⟩|bl b=>cases (show v=.bool b from q);exact⟨RcAt.str_bool x t0 b,RcNeAt.str_bool x t0 b⟩|int b=>obtain⟨t,rfl⟩:=q;exact⟨RcAt.str_int x t0 b t,RcNeAt.str_int x t0 b t⟩|str b=>obtain⟨t,rfl⟩:=q;exact⟨RcAt.str_str x t0 b t,RcNeAt.str_str x t0 b t⟩|tup ys=>obtain⟨a,aD,rfl,hl,_⟩:=q;exact⟨RcAt.str_tuple x t0 hl (room_here hu),RcNeAt.str_tuple x t0 hl (room_here hu)⟩|pl ys=>obtain⟨a,aD,rfl,hl,_⟩:=q;exact⟨RcAt.str_list x t0 hl (room_here hu),RcNeAt.str_list x t0 hl (room_here hu)⟩
 |.tup xs,y,A,s,u,v,p,q,hu=>by
  obtain⟨a,aD,rfl,hl,rs⟩:=p;cases y with
  |aU=>cases (show v=.none from q);exact⟨RcAt.tuple_none hl (room_here hu),RcNeAt.tuple_none hl (room_here hu)⟩|bl b=>cases (show v=.bool b from q);exact⟨RcAt.tuple_bool b hl (room_here hu),RcNeAt.tuple_bool b hl (room_here hu)⟩|int b=>obtain⟨t,rfl⟩:=q;exact⟨RcAt.tuple_int b t hl (room_here hu),RcNeAt.tuple_int b t hl (room_here hu)⟩|str b=>obtain⟨t,rfl⟩:=q;exact⟨RcAt.tuple_str b t hl (room_here hu),RcNeAt.tuple_str b t hl (room_here hu)⟩|pl ys=>obtain⟨b,its',rfl,jl,_⟩:=q;exact⟨RcAt.tuple_list hl jl (room_here hu),RcNeAt.tuple_list hl jl (room_here hu)⟩|tup ys=>
   obtain⟨b,its',rfl,jl,pZ⟩:=q;have n1:aD.toArray.size=xs.length:=by rw[PF];exact rs.length
   have n2:its'.toArray.size=ys.length:=by rw[PF];exact pZ.length
   have he:∀j (j1:j < aD.toArray.size) (j2:j < its'.toArray.size),EqAt A.in1 s aD.toArray[j] its'.toArray[j] (pairD xs ys j):=λj j1 j2=>by have:=rX xs ys A.in1 s aD its' rs pZ (room_in hu) j (by simpa using j1) (by simpa using j2);simpa using this
   show RcAt A s (.ref a) (.ref b) (eB xs ys)/\RcNeAt A s (.ref a) (.ref b) (!eB xs ys);rw[<-jv xs ys,<-n1,<-n2];exact⟨RcAt.tuples hl jl (room_here hu) he,RcNeAt.tuples hl jl (room_here hu) he⟩
 |.pl xs,y,A,s,u,v,p,q,hu=>by
  obtain⟨a,aD,rfl,hl,rs⟩:=p;cases y with
  |aU=>cases (show v=.none from q);exact⟨RcAt.list_none hl (room_here hu),RcNeAt.list_none hl (room_here hu)⟩|bl b=>cases (show v=.bool b from q);exact⟨RcAt.list_bool b hl (room_here hu),RcNeAt.list_bool b hl (room_here hu)⟩|int b=>obtain⟨t,rfl⟩:=q;exact⟨RcAt.list_int b t hl (room_here hu),RcNeAt.list_int b t hl (room_here hu)⟩|str b=>obtain⟨t,rfl⟩:=q;exact⟨RcAt.list_str b t hl (room_here hu),RcNeAt.list_str b t hl (room_here hu)⟩|tup ys=>obtain⟨b,its',rfl,jl,_⟩:=q;exact⟨RcAt.list_tuple hl jl (room_here hu),RcNeAt.list_tuple hl jl (room_here hu)⟩|pl ys=>
   obtain⟨b,its',rfl,jl,pZ⟩:=q;have n1:aD.toArray.size=xs.length:=by rw[PF];exact rs.length
   have n2:its'.toArray.size=ys.length:=by rw[PF];exact pZ.length
   have he:∀j (j1:j < aD.toArray.size) (j2:j < its'.toArray.size),EqAt A.in1 s aD.toArray[j] its'.toArray[j] (pairD xs ys j):=λj j1 j2=>by have:=rX xs ys A.in1 s aD its' rs pZ (room_in hu) j (by simpa using j1) (by simpa using j2);simpa using this
   show RcAt A s (.ref a) (.ref b) (eB xs ys)/\RcNeAt A s (.ref a) (.ref b) (!eB xs ys);by_cases hsz:aD.toArray.size=its'.toArray.size;·rw[<-rW (by lia:xs.length=ys.length),<-n1];exact⟨RcAt.lists hl jl hsz (room_here hu) he,RcNeAt.lists hl jl hsz (room_here hu) he⟩
   ·rw[mD (by lia:xs.length≠ys.length)];exact⟨RcAt.lists_lengths hl jl (by simpa using hsz) (room_here hu),RcNeAt.lists_lengths hl jl (by simpa using hsz) (room_here hu)⟩
theorem N8:∀(x y:D) (A:QJ) (s:PJ) (u v:Value),RH s.heap x u->RH s.heap y v->A.units+min (iK x) (iK y) < cLine->EqAt A s u v (l9 x y)
 |.aU,y,A,s,u,v,p,q,hu=>by cases (show u=.none from p);cases y with|aU=>cases (show v=.none from q);exact EqAt.same _|bl b=>cases (show v=.bool b from q);exact EqAt.none_bool b|int b=>obtain⟨t,rfl⟩:=q;exact EqAt.none_int b t|str b=>obtain⟨t,rfl⟩:=q;exact EqAt.none_str b t|tup ys=>obtain⟨a,aD,rfl,hl,_⟩:=q;exact EqAt.none_tuple hl (room_here hu)|pl ys=>obtain⟨a,aD,rfl,hl,_⟩:=q;exact EqAt.none_list hl (room_here hu)
 |.bl x,y,A,s,u,v,p,q,hu=>by cases (show u=.bool x from p);cases y with|aU=>cases (show v=.none from q);exact EqAt.bool_none x|bl b=>cases (show v=.bool b from q);exact EqAt.bool_bool x b|int b=>obtain⟨t,rfl⟩:=q;exact EqAt.bool_int x b t|str b=>obtain⟨t,rfl⟩:=q;exact EqAt.bool_str x b t|tup ys=>obtain⟨a,aD,rfl,hl,_⟩:=q;exact EqAt.bool_tuple x hl (room_here hu)|pl ys=>obtain⟨a,aD,rfl,hl,_⟩:=q;exact EqAt.bool_list x hl (room_here hu)
 |.int x,y,A,s,u,v,p,q,hu=>by obtain⟨t0,rfl⟩:=p;cases y with|aU=>cases (show v=.none from q);exact EqAt.int_none x t0|bl b=>cases (show v=.bool b from q);exact EqAt.int_bool x t0 b|int b=>obtain⟨t,rfl⟩:=q;exact EqAt.int_int x t0 b t|str b=>obtain⟨t,rfl⟩:=q;exact EqAt.int_str x t0 b t|tup ys=>obtain⟨a,aD,rfl,hl,_⟩:=q;exact EqAt.int_tuple x t0 hl (room_here hu)|pl ys=>obtain⟨a,aD,rfl,hl,_⟩:=q;exact EqAt.int_list x t0 hl (room_here hu)
 |.str x,y,A,s,u,v,p,q,hu=>by obtain⟨t0,rfl⟩:=p;cases y with|aU=>cases (show v=.none from q);exact EqAt.str_none x t0|bl b=>cases (show v=.bool b from q);exact EqAt.str_bool x t0 b|int b=>obtain⟨t,rfl⟩:=q;exact EqAt.str_int x t0 b t|str b=>obtain⟨t,rfl⟩:=q;exact EqAt.str_str x t0 b t|tup ys=>obtain⟨a,aD,rfl,hl,_⟩:=q;exact EqAt.str_tuple x t0 hl (room_here hu)|pl ys=>obtain⟨a,aD,rfl,hl,_⟩:=q;exact EqAt.str_list x t0 hl (room_here hu)
 |.tup xs,y,A,s,u,v,p,q,hu=>by
  obtain⟨a,aD,rfl,hl,rs⟩:=p;cases y with
  |aU=>cases (show v=.none from q);exact EqAt.tuple_none hl (room_here hu)|bl b=>cases (show v=.bool b from q);exact EqAt.tuple_bool b hl (room_here hu)|int b=>obtain⟨t,rfl⟩:=q;exact EqAt.tuple_int b t hl (room_here hu)|str b=>obtain⟨t,rfl⟩:=q;exact EqAt.tuple_str b t hl (room_here hu)|pl ys=>obtain⟨b,its',rfl,jl,_⟩:=q;exact EqAt.tuple_list hl jl (room_here hu)|tup ys=>
   obtain⟨b,its',rfl,jl,pZ⟩:=q;have n1:aD.toArray.size=xs.length:=by rw[PF];exact rs.length
   have n2:its'.toArray.size=ys.length:=by rw[PF];exact pZ.length
   have he:∀j (j1:j < aD.toArray.size) (j2:j < its'.toArray.size),EqAt A.in1 s aD.toArray[j] its'.toArray[j] (pairD xs ys j):=λj j1 j2=>by have:=rX xs ys A.in1 s aD its' rs pZ (room_in hu) j (by simpa using j1) (by simpa using j2);simpa using this
   show EqAt A s (.ref a) (.ref b) (eB xs ys);by_cases Ht:a=b
   ·subst Ht;have e2:aD=its':=by simpa using kL hl jl
    subst e2;rw[nv.self rs pZ];exact EqAt.same _
   ·rw[<-jv xs ys,<-n1,<-n2];exact EqAt.of_refs Ht (RcAt.tuples hl jl (room_here hu) he)
 |.pl xs,y,A,s,u,v,p,q,hu=>by
  obtain⟨a,aD,rfl,hl,rs⟩:=p;cases y with
  |aU=>cases (show v=.none from q);exact EqAt.list_none hl (room_here hu)|bl b=>cases (show v=.bool b from q);exact EqAt.list_bool b hl (room_here hu)|int b=>obtain⟨t,rfl⟩:=q;exact EqAt.list_int b t hl (room_here hu)|str b=>obtain⟨t,rfl⟩:=q;exact EqAt.list_str b t hl (room_here hu)|tup ys=>obtain⟨b,its',rfl,jl,_⟩:=q;exact EqAt.list_tuple hl jl (room_here hu)|pl ys=>
   obtain⟨b,its',rfl,jl,pZ⟩:=q;have n1:aD.toArray.size=xs.length:=by rw[PF];exact rs.length
   have n2:its'.toArray.size=ys.length:=by rw[PF];exact pZ.length
   have he:∀j (j1:j < aD.toArray.size) (j2:j < its'.toArray.size),EqAt A.in1 s aD.toArray[j] its'.toArray[j] (pairD xs ys j):=λj j1 j2=>by have:=rX xs ys A.in1 s aD its' rs pZ (room_in hu) j (by simpa using j1) (by simpa using j2);simpa using this
   show EqAt A s (.ref a) (.ref b) (eB xs ys);by_cases Ht:a=b
   ·subst Ht;have e2:aD=its':=by simpa using mz hl jl
    subst e2;rw[nv.self rs pZ];exact EqAt.same _
   ·by_cases hsz:aD.toArray.size=its'.toArray.size;·rw[<-rW (by lia:xs.length=ys.length),<-n1];exact EqAt.of_refs Ht (RcAt.lists hl jl hsz (room_here hu) he)
    ·rw[mD (by lia:xs.length≠ys.length)];exact EqAt.of_refs Ht (RcAt.lists_lengths hl jl (by simpa using hsz) (room_here hu))
theorem rX:∀(xs ys:List D) (A:QJ) (s:PJ) (us vs:List Value),nv s.heap xs us->nv s.heap ys vs->A.units+min (jm xs) (jm ys) < cLine->
  ∀j (h1:j < us.length) (h2:j < vs.length),EqAt A s us[j] vs[j] (pairD xs ys j)
 |[],_,_,_,us,_,ra,_,_,j,h1,_=>by cases (show us=[] from ra);exact absurd h1 (Nat.not_lt_zero _)|_::_,[],_,_,_,vs,_,rb,_,j,_,h2=>by cases (show vs=[] from rb);exact absurd h2 (Nat.not_lt_zero _)|x::xs,y::ys,A,s,us,vs,ra,rb,hu,j,h1,h2=>by obtain⟨u,r,rfl,p1,p2⟩:=(show ∃u r,us=u::r/\RH s.heap x u/\nv s.heap xs r from ra);obtain⟨v,r',rfl,q1,q2⟩:=(show ∃u r,vs=u::r/\RH s.heap y u/\nv s.heap ys r from rb);cases j with|zero=>exact N8 x y A s u v p1 q1 (room_head hu)|succ j=>exact rX xs ys A s r r' p2 q2 (room_tail hu) j (Nat.lt_of_succ_lt_succ h1) (Nat.lt_of_succ_lt_succ h2)
end
end
section
variable{X:Cx}{η:List (Addr×Obj)}{σ:St}{H:Hp}{s:PJ}{m Z:List Addr}
mutual
theorem aI.rh(I:Inv X η σ H s):∀{x:D} {v:V} {u:Value},aI (ae X kt) H m Z x v->RelV v u->RH s.heap x u
 |.aU,v,u,p,r=>by cases (show v=.aU from p);exact r|.bl b,v,u,p,r=>by cases (show v=.bl b from p);exact r|.int b,v,u,p,r=>by cases (show v=.int b from p);exact r|.str b,v,u,p,r=>by cases (show v=.str b from p);exact r|.tup xs,v,u,p,r=>by obtain⟨a,us,rfl,q,rs⟩:=(show ∃a us,v=.ref a/\H a=Δ (.tup us)/\aj (ae X kt) H m Z xs us from p);cases (show u=.ref a from r);obtain⟨aD,rv,ht,_⟩:=I.tuple (de.of q);exact⟨a,aD,rfl,ht,aj.rh I rs rv⟩
 |.pl xs,v,u,p,r=>by obtain⟨a,us,rfl,q,_,_,rs⟩:=(show ∃a us,v=.ref a/\Rd H a (.lst us)/\a∉m/\a∉Z/\aj (ae X kt) H m Z xs us from p);cases (show u=.ref a from r);obtain⟨aD,rv,ht,_⟩:=I.list (.inl q);exact⟨a,aD,rfl,ht.isList,aj.rh I rs rv⟩
theorem aj.rh(I:Inv X η σ H s):∀{xs:List D} {vs:List V} {us:List Value},aj (ae X kt) H m Z xs vs->aL vs us->nv s.heap xs us
 |[],vs,us,p,r=>by cases (show vs=[] from p);cases r;rfl|x::xs,vs,us,p,r=>by obtain⟨v,w',rfl,p1,p2⟩:=(show ∃v w',vs=v::w'/\aI (ae X kt) H m Z x v/\aj (ae X kt) H m Z xs w' from p);cases r with|cons r1 r2=>exact⟨_,_,rfl,aI.rh I p1 r1,aj.rh I p2 r2⟩
end
theorem Fv(hu:X.A.units+100 < cLine):fg X (QA .Eq) (λv u H Q=>∃m Z x y k,aI (ae X kt) H m Z x v/\aI (ae X kt) H m Z y u/\nu x y=Δ k/\Q (.bl k) H):=by
 intro η s σ H v u a b Q I rx ry h;obtain⟨m,Z,x,y,k,p,q,e,hq⟩:=h;unfold nu at e;split at e;·rename_i hd;cases e;exact(JS x y X.A s a b (p.rh I rx) (q.rh I ry) (by lia)).1 X.prog X.w X.xe _ ⟨.bl (l9 x y),H,I,rfl,hq⟩
 ·cases e
theorem Fw(hu:X.A.units+100 < cLine):fg X (QA .NotEq) (λv u H Q=>∃m Z x y k,aI (ae X kt) H m Z x v/\aI (ae X kt) H m Z y u/\nu x y=Δ k/\Q (.bl (!k)) H):=by
 intro η s σ H v u a b Q I rx ry h;obtain⟨m,Z,x,y,k,p,q,e,hq⟩:=h;unfold nu at e;split at e;·rename_i hd;cases e;exact(JS x y X.A s a b (p.rh I rx) (q.rh I ry) (by lia)).2 X.prog X.w X.xe _ ⟨.bl (!l9 x y),H,I,rfl,hq⟩
 ·cases e
end
end Y
namespace Y
open PySem L2 PySem.Spec PyProof.Rows
structure G where
 N:List Str
 names:List (Str×Sb)
 fns:List (Str×Nat)
 mE:List (Str×Int)
 tabs:List (Str×List (Str×Int))
 vU:Str->Str->Bool:=λ_ _=>Ξ
 A6:Nat->Str->Str->Nat->Bool:=λ_ _ _ _=>Ξ
 A7:Nat->Str->Nat->Bool:=λ_ _ _=>Ξ
 Hu:Str->Bool:=λ_=>Ξ
 nc:Bool:=Ξ
 nx:Bool:=Ξ
def notStar(e:Expr):Bool:=e.ctorIdx !=22
def G.tD(g:G)(x:Str):Bool:=match g.names.lookup x with|some .local=>Λ|some .cell=>Λ|some .free=>Λ|_=>Ξ
noncomputable def G.gl(g:G)(x:Str):Bool:=decide (g.names.lookup x=Δ .globalImplicit)
noncomputable def aH(x:Str):Bool:=!(x==("__debug__":Str))&&!(x==("__classdict__":Str))&&!(x==("__name__":Str))
noncomputable def vV:JK->Vx
 |.add=>.Add|.sub=>.Sub|.mul=>.Mult|.mod=>.Mod|.fdiv=>.FloorDiv
noncomputable def fZ:DB->CmpOp
 |.lt=>.Lt|.le=>.LtE|.gt=>.Gt|.ge=>.GtE|.eq=>.Eq|.ne=>.NotEq|.isin=>.In|.rN=>.NotIn|.xr=>.Is|.nN=>.IsNot
noncomputable def qa:Bf->Str
 |.len=>"len"|.any=>"any"|.str=>"str"|.tuple=>"tuple"
def hZ:List String:=["int","bool","tuple","str","list"]
def fV(e:Expr):Bool:=e.ctorIdx==26
noncomputable def iT(e:Expr):Bool:=e.ctorIdx==8||e.ctorIdx==9||e.ctorIdx==10
def b9(e:Expr):Bool:=e.ctorIdx==7
def Fx(g:G)(ts:Nat)(N:List Str)(js:List Nat)(sc:Scope):Bool:=
 decide (sc.kind=.function)&&decide (N.length=ts+js.length)&&
 sc.names.all (λx=>decide (x.2≠.cell)&&(decide (x.2≠.local)||decide (sc.names.lookup x.1=Δ .local))&&(decide (x.2≠.free)||(decide (g.names.lookup x.1=Δ .cell)||decide (g.names.lookup x.1=Δ .free))))&&
 (Q0 js.length).all (λi=>match N[ts+i]?,js[i]? with
  |some y,Δ j=>decide (g.N[j]?=Δ y)&&decide (sc.names.lookup y=Δ .free)
  |_,_=>Λ)
noncomputable def oP(g:G)(x:Str)(js:List Nat):List Str:=x::js.map λj=>(g.N[j]?).getD "?"
def G.inner(g:G)(N:List Str)(sc:Scope):G:={N:=N,names:=sc.names,fns:=g.fns,mE:=g.mE,tabs:=g.tabs,nc:=Λ,nx:=g.nx,vU:=g.vU,A6:=g.A6,A7:=g.A7}
theorem eG{c:Prop}[Decidable c]{a:c->Bool}{g:Prop}(hi:¬c)(h:(if q:c then a q else Ξ)=Λ):g:=by rw[dif_neg hi] at h;exact ft h
noncomputable def aV{α:Type}(l:List α)(k:α->List α->Bool):Bool:=match l with|x::r=>k x r|[]=>Ξ
@[elab_as_elim] theorem aE{α:Type}{P:List α->Prop}{l:List α}{k:α->List α->Bool}(h:aV l k=Λ)(c:∀x r,k x r=Λ->P (x::r)):P l:=by cases l<;>first|exact c _ _ h|exact ft h
noncomputable def kf{α:Type}(l:Option α)(k:α->Bool):Bool:=match l with|some x=>k x|none=>Ξ
@[elab_as_elim] theorem gG{α:Type}{P:Option α->Prop}{l:Option α}{k:α->Bool}(h:kf l k=Λ)(c:∀x,k x=Λ->P (Δ x)):P l:=by cases l<;>first|exact c _ h|exact ft h
noncomputable def DD(l:Uc)(k:Expr->Expr->List Expr->Int->Bool):Bool:=k l.target l.iter l.ifs l.is_async
@[elab_as_elim] theorem B3{P:Uc->Prop}{l:Uc}{k:Expr->Expr->List Expr->Int->Bool}(h:DD l k=Λ)(c:∀a b d e,k a b d e=Λ->P ⟨a,b,d,e⟩):P l:=by cases l;exact c _ _ _ _ h
noncomputable def fB(e:Stmt)(k:(List Expr)->Expr->Pos->Bool):Bool:=if h:e.ctorIdx=5 then @Stmt.Assign.elim (λ_=>Bool) e h k else Ξ
noncomputable def bo(e:Expr)(k:Expr->Str->Pos->Bool):Bool:=if h:e.ctorIdx=20 then @Expr.Attribute.elim (λ_=>Bool) e h k else Ξ
noncomputable def lC(e:Expr)(k:Expr->Vx->Expr->Pos->Bool):Bool:=if h:e.ctorIdx=2 then @Expr.BinOp.elim (λ_=>Bool) e h k else Ξ
noncomputable def jw(e:Expr)(k:BoolOp->(List Expr)->Pos->Bool):Bool:=if h:e.ctorIdx=0 then @Expr.BoolOp.elim (λ_=>Bool) e h k else Ξ
noncomputable def bE(e:Expr)(k:Expr->(List Expr)->(List T4)->Pos->Bool):Bool:=if h:e.ctorIdx=16 then @Expr.Call.elim (λ_=>Bool) e h k else Ξ
noncomputable def fC(e:Expr)(k:Expr->(List CmpOp)->(List Expr)->Pos->Bool):Bool:=if h:e.ctorIdx=15 then @Expr.Compare.elim (λ_=>Bool) e h k else Ξ
noncomputable def cW(e:Expr)(k:Const->Nat->Pos->Bool):Bool:=if h:e.ctorIdx=19 then @Expr.Constant.elim (λ_=>Bool) e h k else Ξ
noncomputable def qb(e:Expr)(k:(List (Option Expr))->(List Expr)->Pos->Bool):Bool:=if h:e.ctorIdx=6 then @Expr.Dict.elim (λ_=>Bool) e h k else Ξ
noncomputable def lD(e:Stmt)(k:Expr->Pos->Bool):Bool:=if h:e.ctorIdx=24 then @Stmt.Expr.elim (λ_=>Bool) e h k else Ξ
noncomputable def kg(e:Stmt)(k:Expr->Expr->(List Stmt)->(List Stmt)->Pos->Bool):Bool:=if h:e.ctorIdx=9 then @Stmt.For.elim (λ_=>Bool) e h k else Ξ
noncomputable def qc(e:Expr)(k:Expr->Expr->Expr->Pos->Bool):Bool:=if h:e.ctorIdx=5 then @Expr.IfExp.elim (λ_=>Bool) e h k else Ξ
noncomputable def z9(e:Stmt)(k:Expr->(List Stmt)->(List Stmt)->Pos->Bool):Bool:=if h:e.ctorIdx=12 then @Stmt.If.elim (λ_=>Bool) e h k else Ξ
noncomputable def u4(e:Expr)(k:(List Expr)->Pos->Bool):Bool:=if h:e.ctorIdx=24 then @Expr.List.elim (λ_=>Bool) e h k else Ξ
noncomputable def iU(e:Expr)(k:Expr->(List Uc)->Scope->Pos->Bool):Bool:=if h:e.ctorIdx=8 then @Expr.ListComp.elim (λ_=>Bool) e h k else Ξ
noncomputable def bh(e:Expr)(k:Str->Pos->Bool):Bool:=if h:e.ctorIdx=23 then @Expr.Name.elim (λ_=>Bool) e h k else Ξ
noncomputable def mF(e:Stmt)(k:(Option Expr)->(Option Expr)->Pos->Bool):Bool:=if h:e.ctorIdx=16 then @Stmt.Raise.elim (λ_=>Bool) e h k else Ξ
noncomputable def u5(e:Stmt)(k:Expr->Vx->Expr->Pos->Bool):Bool:=if h:e.ctorIdx=7 then @Stmt.AugAssign.elim (λ_=>Bool) e h k else Ξ
noncomputable def ic(e:Stmt)(k:(Option Expr)->Pos->Bool):Bool:=if h:e.ctorIdx=3 then @Stmt.Return.elim (λ_=>Bool) e h k else Ξ
noncomputable def jx(e:Expr)(k:(Option Expr)->(Option Expr)->(Option Expr)->Pos->Bool):Bool:=if h:e.ctorIdx=26 then @Expr.Slice.elim (λ_=>Bool) e h k else Ξ
noncomputable def bV(e:Expr)(k:Expr->Expr->Pos->Bool):Bool:=if h:e.ctorIdx=21 then @Expr.Subscript.elim (λ_=>Bool) e h k else Ξ
noncomputable def lE(e:Expr)(k:(List Expr)->Nat->Pos->Bool):Bool:=if h:e.ctorIdx=25 then @Expr.Tuple.elim (λ_=>Bool) e h k else Ξ
noncomputable def fD(e:Expr)(k:UnaryOp->Expr->Pos->Bool):Bool:=if h:e.ctorIdx=3 then @Expr.UnaryOp.elim (λ_=>Bool) e h k else Ξ
noncomputable def mG(e:Stmt)(k:Expr->(List Stmt)->(List Stmt)->Pos->Bool):Bool:=if h:e.ctorIdx=11 then @Stmt.While.elim (λ_=>Bool) e h k else Ξ
section
variable{P:Expr->Prop}{e:Expr}
@[elab_as_elim] theorem bb{k}(h:bo e k=Λ)(c:∀x1 x2 x3,k x1 x2 x3=Λ->P (.Attribute x1 x2 x3)):P e:=if i:e.ctorIdx=20 then @Expr.Attribute.elim (λe=>bo e k=Λ->P e) e i c h else eG i h
@[elab_as_elim] theorem oQ{k}(h:lC e k=Λ)(c:∀x1 x2 x3 x4,k x1 x2 x3 x4=Λ->P (.BinOp x1 x2 x3 x4)):P e:=if i:e.ctorIdx=2 then @Expr.BinOp.elim (λe=>lC e k=Λ->P e) e i c h else eG i h
@[elab_as_elim] theorem mH{k}(h:jw e k=Λ)(c:∀x1 x2 x3,k x1 x2 x3=Λ->P (.BoolOp x1 x2 x3)):P e:=if i:e.ctorIdx=0 then @Expr.BoolOp.elim (λe=>jw e k=Λ->P e) e i c h else eG i h
@[elab_as_elim] theorem aO{k}(h:bE e k=Λ)(c:∀x1 x2 x3 x4,k x1 x2 x3 x4=Λ->P (.Call x1 x2 x3 x4)):P e:=if i:e.ctorIdx=16 then @Expr.Call.elim (λe=>bE e k=Λ->P e) e i c h else eG i h
@[elab_as_elim] theorem gH{k}(h:fC e k=Λ)(c:∀x1 x2 x3 x4,k x1 x2 x3 x4=Λ->P (.Compare x1 x2 x3 x4)):P e:=if i:e.ctorIdx=15 then @Expr.Compare.elim (λe=>fC e k=Λ->P e) e i c h else eG i h
@[elab_as_elim] theorem cN{k}(h:cW e k=Λ)(c:∀x1 x2 x3,k x1 x2 x3=Λ->P (.Constant x1 x2 x3)):P e:=if i:e.ctorIdx=19 then @Expr.Constant.elim (λe=>cW e k=Λ->P e) e i c h else eG i h
@[elab_as_elim] theorem rY{k}(h:qb e k=Λ)(c:∀x1 x2 x3,k x1 x2 x3=Λ->P (.Dict x1 x2 x3)):P e:=if i:e.ctorIdx=6 then @Expr.Dict.elim (λe=>qb e k=Λ->P e) e i c h else eG i h
@[elab_as_elim] theorem xM{k}(h:qc e k=Λ)(c:∀x1 x2 x3 x4,k x1 x2 x3 x4=Λ->P (.IfExp x1 x2 x3 x4)):P e:=if i:e.ctorIdx=5 then @Expr.IfExp.elim (λe=>qc e k=Λ->P e) e i c h else eG i h
@[elab_as_elim] theorem rZ{k}(h:u4 e k=Λ)(c:∀x1 x2,k x1 x2=Λ->P (.List x1 x2)):P e:=if i:e.ctorIdx=24 then @Expr.List.elim (λe=>u4 e k=Λ->P e) e i c h else eG i h
@[elab_as_elim] theorem jy{k}(h:iU e k=Λ)(c:∀x1 x2 x3 x4,k x1 x2 x3 x4=Λ->P (.ListComp x1 x2 x3 x4)):P e:=if i:e.ctorIdx=8 then @Expr.ListComp.elim (λe=>iU e k=Λ->P e) e i c h else eG i h
@[elab_as_elim] theorem aJ{k}(h:bh e k=Λ)(c:∀x1 x2,k x1 x2=Λ->P (.Name x1 x2)):P e:=if i:e.ctorIdx=23 then @Expr.Name.elim (λe=>bh e k=Λ->P e) e i c h else eG i h
@[elab_as_elim] theorem kh{k}(h:jx e k=Λ)(c:∀x1 x2 x3 x4,k x1 x2 x3 x4=Λ->P (.Slice x1 x2 x3 x4)):P e:=if i:e.ctorIdx=26 then @Expr.Slice.elim (λe=>jx e k=Λ->P e) e i c h else eG i h
@[elab_as_elim] theorem bX{k}(h:bV e k=Λ)(c:∀x1 x2 x3,k x1 x2 x3=Λ->P (.Subscript x1 x2 x3)):P e:=if i:e.ctorIdx=21 then @Expr.Subscript.elim (λe=>bV e k=Λ->P e) e i c h else eG i h
@[elab_as_elim] theorem ki{k}(h:lE e k=Λ)(c:∀x1 x2 x3,k x1 x2 x3=Λ->P (.Tuple x1 x2 x3)):P e:=if i:e.ctorIdx=25 then @Expr.Tuple.elim (λe=>lE e k=Λ->P e) e i c h else eG i h
@[elab_as_elim] theorem gI{k}(h:fD e k=Λ)(c:∀x1 x2 x3,k x1 x2 x3=Λ->P (.UnaryOp x1 x2 x3)):P e:=if i:e.ctorIdx=3 then @Expr.UnaryOp.elim (λe=>fD e k=Λ->P e) e i c h else eG i h
end
section
variable{P:Stmt->Prop}{e:Stmt}
@[elab_as_elim] theorem gJ{k}(h:fB e k=Λ)(c:∀x1 x2 x3,k x1 x2 x3=Λ->P (.Assign x1 x2 x3)):P e:=if i:e.ctorIdx=5 then @Stmt.Assign.elim (λe=>fB e k=Λ->P e) e i c h else eG i h
@[elab_as_elim] theorem oR{k}(h:lD e k=Λ)(c:∀x1 x2,k x1 x2=Λ->P (.Expr x1 x2)):P e:=if i:e.ctorIdx=24 then @Stmt.Expr.elim (λe=>lD e k=Λ->P e) e i c h else eG i h
@[elab_as_elim] theorem jz{k}(h:kg e k=Λ)(c:∀x1 x2 x3 x4 x5,k x1 x2 x3 x4 x5=Λ->P (.For x1 x2 x3 x4 x5)):P e:=if i:e.ctorIdx=9 then @Stmt.For.elim (λe=>kg e k=Λ->P e) e i c h else eG i h
@[elab_as_elim] theorem B4{k}(h:z9 e k=Λ)(c:∀x1 x2 x3 x4,k x1 x2 x3 x4=Λ->P (.If x1 x2 x3 x4)):P e:=if i:e.ctorIdx=12 then @Stmt.If.elim (λe=>z9 e k=Λ->P e) e i c h else eG i h
@[elab_as_elim] theorem u6{k}(h:mF e k=Λ)(c:∀x1 x2 x3,k x1 x2 x3=Λ->P (.Raise x1 x2 x3)):P e:=if i:e.ctorIdx=16 then @Stmt.Raise.elim (λe=>mF e k=Λ->P e) e i c h else eG i h
@[elab_as_elim] theorem Aa{k}(h:u5 e k=Λ)(c:∀x1 x2 x3 x4,k x1 x2 x3 x4=Λ->P (.AugAssign x1 x2 x3 x4)):P e:=if i:e.ctorIdx=7 then @Stmt.AugAssign.elim (λe=>u5 e k=Λ->P e) e i c h else eG i h
@[elab_as_elim] theorem kM{k}(h:ic e k=Λ)(c:∀x1 x2,k x1 x2=Λ->P (.Return x1 x2)):P e:=if i:e.ctorIdx=3 then @Stmt.Return.elim (λe=>ic e k=Λ->P e) e i c h else eG i h
@[elab_as_elim] theorem u7{k}(h:mG e k=Λ)(c:∀x1 x2 x3 x4,k x1 x2 x3 x4=Λ->P (.While x1 x2 x3 x4)):P e:=if i:e.ctorIdx=11 then @Stmt.While.elim (λe=>mG e k=Λ->P e) e i c h else eG i h
end
def isCall(e:Expr):Bool:=bE e λf xs ks _=>bh f λ_ _=>xs.isEmpty&&ks.isEmpty
def JT(e:Expr):Bool:=fD e λop c _=>cW c λk _ _=>decide (op=.USub)&&decide (k=.int 1)
def u9:W->Bool
 |.enum _=>Λ|_=>Ξ
noncomputable def N9:D->Const->Bool
 |.int i,c=>decide (c=.int i)|.bl i,c=>decide (c=.bool i)|.aU,c=>decide (c=.none)|.str i,c=>decide (c=.str i)|_,_=>Ξ
def r6(d:D)(e:Expr):Bool:=cW e λc _ _=>N9 d c
def glB(g:G):D->Str->Bool
 |.int i,x=>g.gl x&&decide (g.mE.lookup x=Δ i)&&aH x|_,_=>Ξ
def vW(g:G)(k:E)(e:Expr):Bool:=match k with|.var i=>bh e λx _=>decide (g.N[i]?=Δ x)&&g.tD x&&aH x|.cst d=>r6 d e|_=>Ξ
mutual
def cU(g:G):E->Expr->Bool
 |.var i=>λe=>bh e λx _=>decide (g.N[i]?=Δ x)&&g.tD x&&aH x|.cst d=>λe=>r6 d e||bh e λx _=>glB g d x
 |.op o a b=>λe=>lC e λx p y _=>decide (p=vV o)&&cU g a x&&cU g b y|.neg a=>λe=>fD e λop x _=>decide (op=.USub)&&cU g a x|.not a=>λe=>fD e λop x _=>decide (op=.Not)&&cU g a x|.cmp o a b=>λe=>fC e λx ops ys _=>aV ops λp r=>aV ys λy s=>r.isEmpty&&s.isEmpty&&decide (p=fZ o)&&cU g a x&&cU g b y&&!b9 y|.chain o o' a b c=>λe=>fC e λx ops ys _=>aV ops λp r=>aV r λq r'=>aV ys λy s=>aV s λz s'=>r'.isEmpty&&s'.isEmpty&&decide (p=fZ o)&&decide (q=fZ o')&&cU g a x&&cU g b y&&cU g c z&&!b9 y&&!b9 z|.and es=>λe=>jw e λop xs _=>decide (op=.And)&&e8 g es xs|.or es=>λe=>jw e λop xs _=>decide (op=.Or)&&e8 g es xs|.ite c a b=>λe=>qc e λx y z _=>cU g c x&&cU g a y&&cU g b z|.tup es=>λe=>lE e λxs _ _=>e8 g es xs|.lst _ l=>λe=>okL g l e|.call f es=>λe=>bE e λf0 xs eL _=>bh f0 λx _=>eL.isEmpty&&decide (g.fns[f]?=Δ (x,es.length))&&g.gl x&&aH x&&e8 g es xs&&!g.nx|.zM a T=>λe=>bE e λf0 xs eL _=>bh f0 λn _=>aV xs λx r=>aV r λt0 r'=>bh t0 λt _=>eL.isEmpty&&r'.isEmpty&&decide (n="isinstance")&&g.gl "isinstance"&&decide (t=Qg T)&&g.gl (Qg T)&&decide (T∈hZ)&&cU g a x&&notStar x|.bf f es=>λe=>bE e λf0 xs eL _=>bh f0 λn _=>eL.isEmpty&&decide (n=qa f)&&g.gl (qa f)&&e8 g es xs&&!xs.isEmpty|.ix a b=>λe=>bV e λx y _=>cU g a x&&cU g b y&&!fV y|.eY a lo hi=>λe=>bV e λx sl _=>jx sl λl h s _=>s.isNone&&cU g a x&&JU g lo l&&JU g hi h|.tchar a b=>λe=>bV e λx y _=>!fV y&&cU g a x&&cU g b y|.pU a b=>λe=>lC e λx o y _=>decide (o=.Mult)&&cU g a x&&cU g b y|.toint a=>λe=>bE e λf0 xs eL _=>bh f0 λn _=>aV xs λx r=>r.isEmpty&&eL.isEmpty&&decide (n="int")&&g.gl "int"&&cU g a x&&notStar x|.pV t a=>λe=>fC e λx os ys _=>aV os λo r=>aV ys λy r'=>bh y λd _=>r.isEmpty&&r'.isEmpty&&decide (o=.NotIn)&&g.gl d&&aH d&&decide (g.tabs.lookup d=Δ t)&&cU g a x|.A4 t a=>λe=>bV e λy x _=>bh y λd _=>!fV x&&g.gl d&&aH d&&decide (g.tabs.lookup d=Δ t)&&cU g a x|.slice a lo hi=>λe=>bV e λx sl _=>jx sl λl h s _=>s.isNone&&cU g a x&&JU g lo l&&JU g hi h|.rev a=>λe=>bV e λx sl _=>jx sl λl h s _=>kf s λu=>l.isNone&&h.isNone&&JT u&&cU g a x|.join a b=>λe=>bE e λf0 xs eL cp=>bo f0 λo n ap=>aV xs λx r=>r.isEmpty&&eL.isEmpty&&(ap.endLine==cp.line)&&decide (n="join")&&!isCall o&&cU g a o&&cU g b x&&notStar x|.xt t a=>λe=>bE e λf0 xs eL cp=>bo f0 λo n ap=>bh o λd _=>aV xs λx r=>r.isEmpty&&eL.isEmpty&&(ap.endLine==cp.line)&&decide (n="get")&&g.gl d&&aH d&&decide (g.tabs.lookup d=Δ t)&&cU g a x&&notStar x|.zN _=>λe=>qb e λks vs _=>ks.isEmpty&&vs.isEmpty|.zO a b=>λe=>bE e λf0 xs eL cp=>bo f0 λo n ap=>aV xs λx r=>r.isEmpty&&eL.isEmpty&&(ap.endLine==cp.line)&&decide (n="pop")&&!isCall o&&cU g a o&&cU g b x&&notStar x|.rO a b c=>λe=>bE e λf0 xs eL cp=>bo f0 λo n ap=>aV xs λx r=>aV r λy r'=>r'.isEmpty&&eL.isEmpty&&(ap.endLine==cp.line)&&decide (n="setdefault")&&!isCall o&&cU g a o&&cU g b x&&notStar x&&cU g c y&&notStar y|.zQ k d=>λe=>qb e λks vs _=>aV ks λk0 r=>kf k0 λkx=>aV vs λv0 r'=>r.isEmpty&&r'.isEmpty&&vW g k kx&&r6 d v0|.zP a=>λe=>bE e λf0 xs eL cp=>bo f0 λo n ap=>xs.isEmpty&&eL.isEmpty&&(ap.endLine==cp.line)&&decide (n="pop")&&!isCall o&&cU g a o|.attr c f i=>λe=>bo e λo m _=>bh o λx _=>decide (m=f)&&g.vU c f&&decide (g.N[i]?=Δ x)&&g.tD x&&aH x|.eO k c m i es=>λe=>bE e λf0 xs eL cp=>bo f0 λo mm ap=>bh o λx _=>eL.isEmpty&&decide (mm=m)&&g.A6 k c m es.length&&decide (g.N[i]?=Δ x)&&g.tD x&&aH x&&e8 g es xs&&(ap.endLine==cp.line)&&decide (xs.length < 30)&&!g.nx|.make k c es=>λe=>bE e λf0 xs eL _=>bh f0 λx _=>eL.isEmpty&&decide (x=c)&&g.A7 k c es.length&&g.gl x&&aH x&&e8 g es xs&&!xs.isEmpty&&!g.nx
def JU(g:G):Option E->Option Expr->Bool
 |none=>λo=>o.isNone|some e=>λo=>kf o λx=>cU g e x
def e8(g:G):List E->List Expr->Bool
 |[]=>λl=>l.isEmpty|e::es=>λl=>aV l λx xs=>cU g e x&&notStar x&&e8 g es xs
def okC(g:G):Option E->List Expr->Bool
 |none=>λl=>l.isEmpty|some c=>λl=>aV l λi r=>r.isEmpty&&cU g c i
def okL(g:G):L->Expr->Bool
 |.eP es=>λe=>u4 e λxs _=>e8 g es xs|.comp w ts js c e=>λe0=>iU e0 λelt gens sc _=>aV gens λge r=>DD ge λtg iter ifs a=>bh tg λx _=>r.isEmpty&&decide (ts=1)&&decide (a=0)&&Oa g w iter&&!u9 w&&Fx g 1 (oP g x js) js sc&&decide (sc.names.lookup x=Δ .local)&&decide (oP g x js).Nodup&&okC (g.inner (oP g x js) sc) c ifs&&cU (g.inner (oP g x js) sc) e elt&&!b9 iter&&!g.nc|.split e=>λe0=>bE e0 λf0 xs eL cp=>bo f0 λo n ap=>aV xs λx r=>cW x λk _ _=>r.isEmpty&&eL.isEmpty&&(ap.endLine==cp.line)&&decide (n="split")&&!isCall o&&cU g e o&&decide (k=.str blank)|.list e=>λe0=>bE e0 λf0 xs eL _=>bh f0 λn _=>aV xs λx r=>r.isEmpty&&eL.isEmpty&&decide (n="list")&&g.gl "list"&&cU g e x&&notStar x|.keys e=>λe0=>bE e0 λf0 xs eL _=>bh f0 λn _=>aV xs λx r=>r.isEmpty&&eL.isEmpty&&decide (n="list")&&g.gl "list"&&cU g e x&&notStar x|.gd es=>λe0=>bE e0 λf0 ys eL _=>bh f0 λn _=>aV ys λy r=>bE y λf1 xs Fy _=>bh f1 λn1 _=>r.isEmpty&&eL.isEmpty&&Fy.isEmpty&&decide (n="list")&&g.gl "list"&&decide (n1="range")&&g.gl "range"&&e8 g es xs|.zip a b=>λe0=>bE e0 λf0 ys eL _=>bh f0 λn _=>aV ys λy r=>bE y λf1 xs Fy _=>bh f1 λn1 _=>aV xs λx1 r1=>aV r1 λx2 r2=>r.isEmpty&&r2.isEmpty&&eL.isEmpty&&Fy.isEmpty&&decide (n="list")&&g.gl "list"&&decide (n1="zip")&&g.gl "zip"&&cU g a x1&&notStar x1&&cU g b x2&&notStar x2
def Oa(g:G):W->Expr->Bool
 |.ex e=>λx=>cU g e x&&!b9 x|.gd es=>λx=>bE x λf0 xs eL _=>bh f0 λn _=>eL.isEmpty&&decide (n="range")&&g.gl "range"&&e8 g es xs|.enum e=>λx=>bE x λf0 xs eL _=>bh f0 λn _=>aV xs λy r=>r.isEmpty&&eL.isEmpty&&decide (n="enumerate")&&g.gl "enumerate"&&cU g e y&&notStar y
end
theorem B5(h:JT e=Λ):∃k p1 p2,e=.UnaryOp .USub (.Constant (.int 1) k p1) p2:=by refine gI h λ_ _ _ h=>?_;refine cN h λ_ _ _ h=>?_;simp only[Pw,qqq] at h;obtain⟨rfl,rfl⟩:=h;exact⟨_,_,_,rfl⟩
def qJ(K:KB)(c:List P->aW->R P)(n:Nat):Sp:=λvs H Q E=>(∀H',K.xq H'->∀e t,E (.ref e) (Δ t) H')/\∃m Z qs st,vs.length=n/\ah K H m Z qs vs/\ay K H m Z st/\Ok K Z (c qs st) m H (λp _ m' H'=>∀v,au K H' m' Z p v->Q v H')
structure mI(X:Cx)(kt:KT)(c:List P->aW->R P)(x:Str)(n:Nat):Prop where
 ex:∃(k:Nat) (f:Addr) (fd:Rn) (ps:List Str),dy X.prog X.w X.K X.mg X.base kt.cx k f fd ps (qJ (ae X kt) c n)/\
  cR k X.A/\X.mg x=Δ (.ref f)/\Rz X.K (.ref f)=Λ/\Binds X.K fd ps []
noncomputable def mJ:List Str:=["len","min","max","all","any","sum","str","tuple","list","int","bool","isinstance","range","zip","enumerate","sorted"]
structure Good(X:Cx)(kt:KT)(g:G)(C:Nat->List P->aW->R P):Prop where
 N:X.N=g.N
 loc:∀x,g.names.lookup x=Δ .local->X.env.scope.names.lookup x=Δ .local
 DE:∀x,(g.names.lookup x=Δ .cell\/g.names.lookup x=Δ .free)->(X.env.scope.names.lookup x=Δ .cell\/X.env.scope.names.lookup x=Δ .free)
 gl:∀x,g.names.lookup x=Δ .globalImplicit->X.env.scope.names.lookup x=Δ .globalImplicit
 calm:X.calm=Λ
 hu:X.A.units+100 < cLine
 bl:∀x∈mJ,X.mg x=Θ
 fn:∀(k:Nat) (x:Str) (n:Nat),g.fns[k]?=Δ (x,n)->mI X kt (C k) x n
 cs:∀x i,g.mE.lookup x=Δ i->∃t,X.mg x=Δ (.int i t)
 tb:∀x t,g.tabs.lookup x=Δ t->∃a,X.mg x=Δ (.ref a)/\um X.K a t
 px:g.nx=Ξ->gk kt.cx X (λ_ _ H'=>kt.xq H')
 pb:g.nc=Ξ->PB kt.cx X (λ_ _ H'=>kt.xq H')
 fld:∀c f,g.vU c f=Λ->∃A,PN X.K PL c=Δ (Δ (.ref A))/\qQ X.K A/\eX X.K A f
 Fz:∀k c m n,g.A6 k c m n=Λ->∃A l fa fd ps,PN X.K PL c=Δ (Δ (.ref A))/\qQ X.K A/\tY X.K A m fa/\dy X.prog X.w X.K X.mg X.base kt.cx l fa fd ps (qJ (ae X kt) (C k) (n+1))/\cR l X.A/\Binds X.K fd ps []
 FA:∀k c n,g.A7 k c n=Λ->∃A l fa fd ps,X.mg c=Δ (.ref A)/\PN X.K PL c=Δ (Δ (.ref A))/\Mk X.K A fa/\dy X.prog X.w X.K X.mg X.base kt.cx l fa fd ps (qJ (ae X kt) (C k) (n+1))/\cR (l+1) X.A/\Binds X.K fd ps []
section
variable{X:Cx}{g:G}{C:Nat->List P->aW->R P}{Z:List Addr}{e:Expr}{es:List Expr}
theorem Good.tD(T:Good X kt g C)(h:g.tD x=Λ):Lv X.env.scope x:=by
 unfold G.tD at h;split at h;·exact .inl (T.loc _ ‹_›)
 ·rcases T.DE x (.inl ‹_›) with q|q;·exact .inr (.inl q)
  ·exact .inr (.inr q)
 ·rcases T.DE x (.inr ‹_›) with q|q;·exact .inr (.inl q)
  ·exact .inr (.inr q)
 ·cases h
theorem Good.glob(T:Good X kt g C)(h:g.gl x=Λ):Gl X x:=T.gl x (of_decide_eq_true h)
theorem PE.imp(h:PE X e t)(i:∀σ H Q,t' σ H Q->t σ H Q):PE X e t':=λη s σ H Q I q=>h η s σ H Q I (i σ H Q q)
theorem PT.imp(h:PT X e t)(i:∀σ H Q,t' σ H Q->t σ H Q):PT X e t':=λη s σ H Q I q=>h η s σ H Q I (i σ H Q q)
theorem PW.imp(h:PW X e t)(i:∀σ H Q,t' σ H Q->t σ H Q):PW X e t':=λwh η s σ H Q I q=>h wh η s σ H Q I (i σ H Q q)
theorem PA.imp(h:PA X es t)(i:∀σ H Q,t' σ H Q->t σ H Q):PA X es t':=λpos η s σ H Q I q=>h pos η s σ H Q I (i σ H Q q)
theorem pn(h:aH x=Λ):(x==("__debug__":Str))=Ξ/\(x==("__classdict__":Str))=Ξ/\x≠"__name__":=by unfold aH at h;simp only[Pw,PY] at h;exact⟨h.1.1,h.1.2,λz=>by rw[z] at h;exact absurd h.2 (by simp)⟩
theorem bu(h:notStar e=Λ):P5 (e::es) env=(Ξ,eval e env)::P5 es env:=by
 cases e<;>first
  |rfl
  |exact absurd (show Ξ=Λ from h) Ql
theorem oS(T:Good X kt g C)(h1:g.N[i]?=Δ x)(h2:g.tD x=Λ)(h3:aH x=Λ):PE X (.Name x pos) (tE (ae X kt) Z (aa C (.var i))):=by
 refine PE.imp (iF (i:=i) (by rw[T.N];exact h1) (T.tD h2) (pn h3).1 (pn h3).2.1) ?_;rintro σ H Q ⟨m,r,st,ar,as,h⟩;obtain⟨p,e,q,_⟩:=Ok.of (show Ok (ae X kt) Z (R.of (iP r i) st) m H _ from h) as;have e':r[i]?=Δ (Δ p):=by unfold iP at e;cases q:r[i]? with|none=>rw[q] at e;cases e|some o=>rw[q] at e;simp at e;rw[e]
 obtain⟨v,ev,rv⟩:=ar.at_ i p e';exact⟨v,ev,q v rv⟩
theorem r8(h:PE X e (tC v))(hr:∀H m,aI (ae X kt) H m Z x v):PE X e (tE (ae X kt) Z (aa C (.cst x))):=by refine PE.imp h ?_;rintro σ H Q ⟨m,r,st,ar,as,q⟩;exact Ok.here (show Ok (ae X kt) Z (R.ok (P.d x) st) m H _ from q) as v (hr H m)
theorem Ab(h:r6 d e=Λ):∃v,PE X e (tC v)/\∀K H m Z,aI K H m Z d v:=by refine cN h λc _ _ h=>?_;cases d with|int i=>obtain rfl:=of_decide_eq_true h;exact⟨_,pB,λ_ _ _ _=>rfl⟩|bl i=>obtain rfl:=of_decide_eq_true h;exact⟨_,Df,λ_ _ _ _=>rfl⟩|aU=>obtain rfl:=of_decide_eq_true h;exact⟨_,tH,λ_ _ _ _=>rfl⟩|str i=>obtain rfl:=of_decide_eq_true h;exact⟨_,pC,λ_ _ _ _=>rfl⟩|tup _=>exact ft h|pl _=>exact ft h
theorem B6(T:Good X kt g C)(h:vW g k e=Λ):∃tk,PE X e tk/\∀{σ} {H} {m} {ρ} {st},b8 (ae X kt) H m Z ρ σ->aa C k ρ st=.no\/∃y v,aa C k ρ st=.ok y st/\au (ae X kt) H m Z y v/\∀(Q) (H'),Q v H'->tk σ H' Q:=by
 unfold vW at h;split at h
 ·rename_i i;refine aJ h λ_ _ h=>?_
  ·simp only[Pw,qqq] at h;refine⟨_,iF (i:=i) (by rw[T.N];exact h.1.1) (T.tD h.1.2) (pn h.2).1 (pn h.2).2.1,λ{σ H m ρ st} ar=>?_⟩;rw[fz];cases e:iP ρ i with
   |none=>exact .inl rfl|some p=>
    have e':ρ[i]?=Δ (Δ p):=by unfold iP at e;cases q:ρ[i]? with|none=>rw[q] at e;cases e|some o=>rw[q] at e;simp at e;rw[e]
    obtain⟨v,ev,rv⟩:=ar.at_ i p e';exact .inr ⟨p,v,rfl,rv,λQ H' q=>⟨v,ev,q⟩⟩
 ·rename_i d;obtain⟨v,hv,hr⟩:=Ab (X:=X) h;exact⟨_,hv,λ{σ H m ρ st} ar=>.inr ⟨.d d,v,rfl,(show aI (ae X kt) H m Z d v from hr _ _ _ _),λQ H' q=>q⟩⟩
 ·cases h
theorem r9{f:Value->Value->Sem Value}{r:R2}{da db:cE->aW->R P}{k:P->P->aW->R P}{σ:L2.St}{H:Hp}{Q:VK}
  (hr:∀(x y:P) (v u:V) (m:List Addr) (H:Hp) (st:aW) (Q:VK),ay (ae X kt) H m Z st->au (ae X kt) H m Z x v->au (ae X kt) H m Z y u->Ok (ae X kt) Z (k x y st) m H (λp _ m' H'=>∀v,au (ae X kt) H' m' Z p v->Q v H')->r v u H Q)
  (h:tE (ae X kt) Z (λρ st=>(da ρ st).bind λx st1=>(db ρ st1).bind λy aB=>k x y aB) σ H Q):Iq r (tE (ae X kt) Z da) (tE (ae X kt) Z db) σ H Q:=by
 obtain⟨m,ρ,st,ar,as,h⟩:=h;refine⟨m,ρ,st,ar,as,(Ok.bind h).mono λx st1 m1 H1 br aS h1 v rv=>?_⟩;refine⟨m1,ρ,st1,ar.le br,aS,(Ok.bind h1).mono λy aB m2 H2 cS cB h2 u ru=>?_⟩;exact hr x y v u m2 H2 aB Q cB (rv.le cS) ru h2
theorem aj.map{K:KB}:∀{xs} {us},aj K H m Z xs us->ah K H m Z (xs.map .d) us
 |[],_,h=>h|x::xs,us,h=>by obtain⟨v,vs,e,r,rs⟩:=(show ∃v vs,us=v::vs/\aI K H m Z x v/\aj K H m Z xs vs from h);exact⟨v,vs,e,r,aj.map rs⟩
theorem ah.ba{K:KB}:∀{ps} {xs} {us},ah K H m Z ps us->Y.ba ps=Δ xs->aj K H m Z xs us
 |[],xs,us,h,e=>by cases e;exact h|p::ps,xs,us,h,e=>by obtain⟨v,vs,e1,r,rs⟩:=(show ∃v vs,us=v::vs/\au K H m Z p v/\ah K H m Z ps vs from h);cases p with|obj n=>cases e|dw n=>cases e|fn k c=>cases e|lf k=>cases e|d x=>have e':(Y.ba ps).map (λxs=>x::xs)=Δ xs:=e;cases q:Y.ba ps with|none=>rw[q] at e';cases e'|some zs=>rw[q] at e';cases e';exact⟨v,vs,e1,r,ah.ba rs q⟩
theorem ah.append{K:KB}:∀{ps qs} {us vs},ah K H m Z ps us->ah K H m Z qs vs->ah K H m Z (ps++qs) (us++vs)
 |[],_,us,_,h,h'=>by cases (show us=[] from h);exact h'|p::ps,qs,us,vs,h,h'=>by obtain⟨v,w',rfl,r,rs⟩:=(show ∃v vs,us=v::vs/\au K H m Z p v/\ah K H m Z ps vs from h);exact⟨v,w'++vs,rfl,r,ah.append rs h'⟩
theorem aj.append{K:KB}:∀{ps qs} {us vs},aj K H m Z ps us->aj K H m Z qs vs->aj K H m Z (ps++qs) (us++vs)
 |[],_,us,_,h,h'=>by cases (show us=[] from h);exact h'|p::ps,qs,us,vs,h,h'=>by obtain⟨v,w',rfl,r,rs⟩:=(show ∃v vs,us=v::vs/\aI K H m Z p v/\aj K H m Z ps vs from h);exact⟨v,w'++vs,rfl,r,aj.append rs h'⟩
theorem aj.length{K:KB}:∀{ps} {us},aj K H m Z ps us->us.length=ps.length
 |[],us,h=>by cases (show us=[] from h);rfl|p::ps,us,h=>by obtain⟨v,w',rfl,r,rs⟩:=(show ∃v vs,us=v::vs/\aI K H m Z p v/\aj K H m Z ps vs from h);rw[PU,PU,aj.length rs]
theorem ah.length{K:KB}:∀{ps} {us},ah K H m Z ps us->us.length=ps.length
 |[],us,h=>by cases (show us=[] from h);rfl|p::ps,us,h=>by obtain⟨v,w',rfl,r,rs⟩:=(show ∃v vs,us=v::vs/\au K H m Z p v/\ah K H m Z ps vs from h);rw[PU,PU,ah.length rs]
theorem ah.get{K:KB}:∀{ps} {us} {i:Nat} {p},ah K H m Z ps us->ps[i]?=Δ p->∃v,us[i]?=Δ v/\au K H m Z p v
 |[],us,i,p,h,e=>by simp at e|q::ps,us,i,p,h,e=>by obtain⟨v,w',rfl,r,rs⟩:=(show ∃v vs,us=v::vs/\au K H m Z q v/\ah K H m Z ps vs from h);cases i with|zero=>simp at e;subst e;exact⟨v,by simp,r⟩|succ i=>simpa using ah.get rs (by simpa using e)
theorem ah.drop{K:KB}:∀(n) {ps} {us},ah K H m Z ps us->ah K H m Z (ps.drop n) (us.drop n)
 |0,_,_,h=>h|n+1,[],us,h=>by cases (show us=[] from h);rfl|n+1,p::ps,us,h=>by obtain⟨v,w',rfl,r,rs⟩:=(show ∃v vs,us=v::vs/\au K H m Z p v/\ah K H m Z ps vs from h);exact ah.drop n rs
theorem ah.take{K:KB}:∀(n) {ps} {us},ah K H m Z ps us->ah K H m Z (ps.take n) (us.take n)
 |0,_,_,_=>by simp[ah]|n+1,[],us,h=>by cases (show us=[] from h);rfl|n+1,p::ps,us,h=>by obtain⟨v,w',rfl,r,rs⟩:=(show ∃v vs,us=v::vs/\au K H m Z p v/\ah K H m Z ps vs from h);exact⟨v,w'.take n,rfl,r,ah.take n rs⟩
theorem aj.reverse{K:KB}:∀{ps} {us},aj K H m Z ps us->aj K H m Z ps.reverse us.reverse
 |[],us,h=>by cases (show us=[] from h);rfl|p::ps,us,h=>by obtain⟨v,w',rfl,r,rs⟩:=(show ∃v vs,us=v::vs/\aI K H m Z p v/\aj K H m Z ps vs from h);rw[SS,SS];exact aj.append (aj.reverse rs) ⟨v,[],rfl,r,rfl⟩
theorem cy{K:KB}{st:aW}(as:ay K H m Z st)(h:b0 st p=Δ ps)(r:au K H m Z p v):∃a us,v=.ref a/\Rd H a (.lst us)/\ah K H m Z ps us:=by
 cases p with
 |d x=>cases x with|pl xs=>have e:Δ (xs.map P.d)=Δ ps:=h;cases e;obtain⟨a,us,e,q,_,_,rs⟩:=r;exact⟨a,us,e,q,rs.map⟩|_=>cases h
 |obj n=>
  obtain⟨a,e,rfl⟩:=r;have h':(match st[n]? with|some (.lst xs)=>Δ xs|_=>Θ)=Δ ps:=h;split at h';·rename_i xs hs;cases h';obtain⟨a',e',o⟩:=as.at_ n _ hs;rw[e] at e';cases e';obtain⟨us,hu,rs⟩:=o;exact⟨a,us,rfl,.inl hu,rs⟩
  ·cases h'
 |dw n=>cases h|fn k c=>cases h|lf k=>cases h
theorem sd{K:KB}:∀ns:List Int,ah K H m Z (ns.map λi=>P.d (.int i)) (ns.map V.int)
 |[]=>rfl|n::ns=>⟨_,_,rfl,rfl,sd ns⟩
theorem fE{K:KB}{st:aW}(as:ay K H m Z st)(h:eC st p=Δ ps)(r:au K H m Z p v):∃a us,v=.ref a/\(gZ K.K H a us\/H a=Δ (.tup us))/\ah K H m Z ps us:=by
 cases p with
 |d x=>cases x with|tup xs=>have e:Δ (xs.map P.d)=Δ ps:=h;cases e;obtain⟨a,us,e,q,rs⟩:=r;exact⟨a,us,e,.inr q,rs.map⟩|pl xs=>obtain⟨a,us,e,q,rs⟩:=cy as (show b0 st (.d (.pl xs))=Δ ps from h) r;exact⟨a,us,e,.inl (.inl q),rs⟩|aU=>cases h|bl b=>cases h|int b=>cases h|str b=>cases h
 |obj n=>obtain⟨a,us,e,q,rs⟩:=cy as (show b0 st (.obj n)=Δ ps from h) r;exact⟨a,us,e,.inl (.inl q),rs⟩|dw n=>have e:Δ (n.map λi=>P.d (.int i))=Δ ps:=h;cases e;obtain⟨a,e,q⟩:=r;exact⟨a,_,e,.inl q.sq,sd n⟩|fn k c=>cases h|lf k=>cases h
theorem Ac{K:PD}(h:gZ K H a us\/H a=Δ (.tup us)):gZ K H a us\/de K H a us:=h.imp_right de.of
theorem jA{K:KB}{H:Hp}{m Z:List Addr}{st:aW}{xs:List D}{us:List V}{α:Type}{Q:V->Hp->Prop}(as:ay K H m Z st)(r:aj K H m Z xs us){a:Addr}(ha:H a=Θ)
  (h:Ok K Z (R.ok (P.d (.tup xs)) st) m H (λp _ m' H'=>∀v,au K H' m' Z p v->Q v H')):Q (.ref a) (upd H a (.tup us)):=by
 have le:Le K m H m (upd H a (.tup us)):=Le.same (aZ ha _);exact h m (upd H a (.tup us)) le (as.same (aZ ha _)) (.ref a) ⟨a,us,rfl,aF,r.le le⟩
theorem Ad{K:KB}{st:aW}{Q:V->Hp->Prop}(as:ay K H m Z st)(r:aj K H m Z xs us)(ha:H a=Θ)(h:Ok K Z (R.ok (P.d (.pl xs)) st) m H (λp _ m' H'=>∀v,au K H' m' Z p v->Q v H')):Q (.ref a) (upd H a (.lst us)):=by have le:Le K m H m (upd H a (.lst us)):=Le.same (aZ ha _);exact h m (upd H a (.lst us)) le (as.same (aZ ha _)) (.ref a) ⟨a,us,rfl,.inl aF,(as.fresh ha).1,(as.fresh ha).2,r.le le⟩
end
section
variable{X:Cx}{g:G}{C:Nat->List P->aW->R P}{Z:List Addr}{e:Expr}{es:List Expr}
theorem bY:aC=PQ:=by rw[QG];rfl
theorem vX(h:Rd H a (.lst xs))(I:Inv X η σ H s):
  xs.length<=PQ/\∃(aD:List Value) (n:Nat),aL xs aD/\s.heap.get? a=Δ {cls:=.type "list",data:=.seq aD.toArray n}:=h.ok I.aQ
def DF:R2:=λx y H Q=>∃l b xs zs,x=.ref l/\y=.ref b/\Rd H l (.lst xs)/\Rd H b (.lst zs)/\xs.length+zs.length<=PQ/\∀p,H p=Θ->Q (.ref p) (upd H p (.lst (xs++zs)))
theorem B7:fg X (Rl .Add) DF:=by
 intro η s σ H x y v u Q I rx ry h;obtain⟨l,b,xs,zs,rfl,rfl,hH,hB,hz,q⟩:=h;cases rx;cases ry;obtain⟨z,aD,n,r,e⟩:=vX hH I;obtain⟨z2,yS,n2,r2,e2⟩:=vX hB I;have hl:=r.length;have ow:=r2.length;refine PySem.P.add_list e e2 ?_ (by rw[PF,PF];lia);have ea:aD.toArray++yS.toArray=(aD++yS).toArray:=by simp
 rw[ea];exact⟨.ref _,_,I.Nh (t':=s.toks) (r.append r2) (by rw[Qh];lia),rfl,q _ I.fresh⟩
noncomputable def Ob:R2:=λx y H Q=>∃i j,x=.str i/\y=.str j/\i.length+j.length<=PQ/\Q (.str (i++j)) H
def JV(K:PD):JK->R2
 |.add=>λv u H Q=>vC (λi j=>.int (i+j)) v u H Q\/Ob v u H Q\/Dm v u H Q\/DF v u H Q|.sub=>vC λi j=>.int (i - j)|.mul=>λv u H Q=>rI Bd (λi j=>.int (i*j)) v u H Q\/Dn v u H Q\/Dp v u H Q\/Dq v u H Q|.mod=>rI (λ_ j=>0 < j) λi j=>.int (i % j)|.fdiv=>rI Iu λi j=>.int (i / j)
theorem FC:∀o,fg X (Rl (vV o)) (JV X.K o)
 |.add=>D6.or (tV.or (BF.or B7))|.sub=>D7|.mul=>D8.or (y3.or (y6.or y8))|.mod=>D9|.fdiv=>Be
theorem FD{K:KB}{st:aW}(as:ay K H m Z st)(rx:au K H m Z x v)(ry:au K H m Z y u)(h:Ok K Z (R.of (A5 o x y st) st) m H (λp _ m' H'=>∀v,au K H' m' Z p v->Q v H')):JV K.K o v u H Q:=by
 obtain⟨p,e,q,qq⟩:=Ok.of h as;unfold A5 at e;split at e
 ·rename_i i j;cases (show v=.int i from rx);cases (show u=.int j from ry);cases o with
  |add=>cases e;exact .inl ⟨i,j,rfl,rfl,q _ rfl⟩|sub=>cases e;exact⟨i,j,rfl,rfl,q _ rfl⟩|mul=>
   unfold ko at e;simp only at e;split at e;·rename_i hc;cases e;exact .inl ⟨i,j,rfl,rfl,hc,q _ rfl⟩
   ·cases e
  |mod=>
   unfold ko at e;simp only at e;split at e;·rename_i hc;cases e;exact⟨i,j,rfl,rfl,hc,q _ rfl⟩
   ·cases e
  |fdiv=>
   unfold ko at e;simp only at e;split at e;·rename_i hc;cases e;exact⟨i,j,rfl,rfl,hc,q _ rfl⟩
   ·cases e
 ·rename_i x y;cases (show v=.str x from rx);cases (show u=.str y from ry);split at e;·rename_i hc;cases e;exact .inr (.inl ⟨x,y,rfl,rfl,by rw[<-bY];exact hc,q _ rfl⟩)
  ·cases e
 ·rename_i xs ys;obtain⟨a,us,rfl,ha,ra⟩:=rx;obtain⟨b,vs,rfl,hb,rb⟩:=ry;split at e;·rename_i hc;cases e;refine .inr (.inr (.inl ⟨a,b,us,vs,rfl,rfl,ha,hb,by rw[ra.length,rb.length,<-bY];exact hc,λr H' sm hr=>?_⟩));have le:Le K m H m H':=Le.same sm;exact qq m H' le (as.same sm) (.ref r) ⟨r,us++vs,rfl,hr,(ra.append rb).le le⟩
  ·cases e
 ·rename_i xs k;obtain⟨a,us,rfl,ha,ra⟩:=rx;cases (show u=.int k from ry);split at e;·rename_i hc;cases e;subst hc;exact .inr (.inr (.inr ⟨a,us,rfl,rfl,ha,q (.ref a) ⟨a,us,rfl,ha,ra⟩⟩))
  split at e
  ·rename_i hc;cases e;obtain⟨rfl,h1,h2⟩:=hc;refine .inr (.inl ⟨a,us,rfl,rfl,ha,λz=>?_,by rw[ra.length];exact h2,λp hp=>?_⟩)
   ·have:=ra.length;rw[z] at this;simp at this
    lia
   ·exact jA (α:=Unit) as (ra.append ra) hp qq
  split at e
  ·rename_i hc;cases e;obtain⟨rfl,h1,h2⟩:=hc;refine .inr (.inr (.inl ⟨a,us,rfl,rfl,ha,λz=>?_,by rw[ra.length];exact h2,λp hp=>?_⟩))
   ·have:=ra.length;rw[z] at this;simp at this
    lia
   ·exact jA (α:=Unit) as ((ra.append ra).append ra) hp qq
  ·cases e
 ·rename_i h1 h2 h3;cases ha:b0 st x with
  |none=>rw[ha] at e;cases e|some ps=>
   cases hb:b0 st y with
   |none=>rw[ha,hb] at e;cases e|some qs=>
    rw[ha,hb] at e;simp only[Option.bind_some] at e;cases hz:ba (ps++qs) with
    |none=>rw[hz] at e;cases e|some zs=>
     rw[hz] at e;simp only[Option.bind_some] at e;split at e;·rename_i hc;cases e;obtain⟨c,us,rfl,JW,rc⟩:=cy as ha rx;obtain⟨d,vs,rfl,Oc,rd⟩:=cy as hb ry;have rr:=(rc.append rd).ba hz;have hlen:=rr.length;rw[Qh] at hlen;refine .inr (.inr (.inr ⟨c,d,us,vs,rfl,rfl,JW,Oc,by rw[<-bY];lia,λp hp=>?_⟩));exact Ad as rr hp qq
     ·cases e
 ·cases e
theorem Od(ha:PE X a (tE (ae X kt) Z (aa C ea)))(hb:PE X b (tE (ae X kt) Z (aa C eb))):PE X (.BinOp a (vV o) b pos) (tE (ae X kt) Z (aa C (.op o ea eb))):=
 PE.imp (Dg (FC o) ha hb) λσ H Q h=>r9 (f:=Rl (vV o)) (λx y v u m H st Q as rx ry h=>FD as rx ry h) h
theorem bT{α β:Type}{o:Option α}{f:α->Option β}{b:β}(h:o.bind f=Δ b):∃a,o=Δ a/\f a=Δ b:=by cases o with|none=>cases h|some a=>exact⟨a,rfl,h⟩
theorem dE{α β:Type}{o:Option α}{f:α->β}{b:β}(h:o.map f=Δ b):∃a,o=Δ a/\f a=b:=by cases o with|none=>cases h|some a=>exact⟨a,rfl,by simpa using h⟩
theorem gK{K:KB}{st:aW}(as:ay K H m Z st)(h:iy st p=Δ x)(r:au K H m Z p v):aI K H [] [] x v:=by
 cases p with
 |d y=>cases h;exact aI.bare r|obj n=>
  obtain⟨a,e,rfl⟩:=r;have h':(match st[n]? with|some (.lst xs)=>(ba xs).map D.pl|_=>Θ)=Δ x:=h;split at h';·rename_i xs hs;obtain⟨a',e',o⟩:=as.at_ n _ hs;rw[e] at e';cases e';obtain⟨us,hu,rs⟩:=o;cases hd:ba xs with|none=>rw[hd] at h';cases h'|some ys=>rw[hd] at h';cases h';exact⟨a,us,rfl,.inl hu,by simp,by simp,(rs.ba hd).bare⟩
  ·cases h'
 |dw n=>cases h|fn k c=>cases h|lf k=>cases h
theorem au.key{K:KB}(r:au K H m Z p v)(e:keyOf p=Δ k):v=kV k:=by
 unfold keyOf at e;split at e;·cases e;exact r
 ·cases e;exact r
 ·cases e
theorem aj.keys{K:KB}:∀{xs} {ks} {us},aj K H m Z xs us->keysOf xs=Δ ks->us=ks.map kV
 |[],ks,us,h,e=>by cases e;exact h|x::xs,ks,us,h,e=>by obtain⟨v,vs,rfl,r,rs⟩:=(show ∃v vs,us=v::vs/\aI K H m Z x v/\aj K H m Z xs vs from h);unfold keysOf at e;cases e1:keyOf (.d x) with|none=>rw[e1] at e;cases e|some k=>rw[e1] at e;cases e2:keysOf xs with|none=>rw[e2] at e;cases e|some k2=>rw[e2] at e;cases e;rw[aj.keys rs e2,au.key (show au K H m Z (.d x) v from r) e1];rfl
theorem au.jn{K:KB}(r:au K H m Z p v)(e:Y.jn p=Δ k):∃b,v=.ref b/\H b=Δ (.tup (k.map kV)):=by
 unfold Y.jn at e;split at e;·obtain⟨b,us,rfl,h1,rs⟩:=r;exact⟨b,rfl,by rw[<-aj.keys rs e];exact h1⟩
 ·cases e
theorem aM.val{κ:Type}[DecidableEq κ]{K:KB}{k:κ}:∀{kvs} {us},aM K H m Z kvs us->(dq us k).isSome=(iL kvs k).isSome/\∀p,iL kvs k=Δ p->∃v,dq us k=Δ v/\au K H m Z p v
 |[],us,h=>by cases (show us=[] from h);exact⟨rfl,λp e=>by cases e⟩|x::xs,us,h=>by
  obtain⟨v,vs,rfl,r,rs⟩:=(show ∃v vs,us=(x.1,v)::vs/\au K H m Z x.2 v/\aM K H m Z xs vs from h);obtain⟨i1,i2⟩:=aM.val (k:=k) rs;by_cases hk:x.1=k
  ·have e1:dq ((x.1,v)::vs) k=Δ v:=jd hk;have e2:iL (x::xs) k=Δ x.2:=by simp[iL,Ra,hk]
   rw[e1,e2];exact⟨rfl,λp e=>by cases e;exact⟨v,rfl,r⟩⟩
  ·have e1:dq ((x.1,v)::vs) k=dq vs k:=je hk;have e2:iL (x::xs) k=iL xs k:=by simp[iL,Ra,hk]
   rw[e1,e2];exact⟨i1,i2⟩
theorem aM.length{κ:Type}{K:KB}{m:List Addr}:∀{kvs:List (κ×P)} {us:List (κ×V)},aM K H m Z kvs us->us.length=kvs.length
 |[],us,h=>by cases (show us=[] from h);rfl|x::xs,us,h=>by obtain⟨v,vs,rfl,r,rs⟩:=(show ∃v vs,us=(x.1,v)::vs/\au K H m Z x.2 v/\aM K H m Z xs vs from h);rw[PU,PU,aM.length rs]
theorem aM.app{κ:Type}{K:KB}{k:κ}(rp:au K H m Z p v):∀{kvs} {us},aM K H m Z kvs us->aM K H m Z (kvs++[(k,p)]) (us++[(k,v)])
 |[],us,h=>by cases (show us=[] from h);exact⟨v,[],rfl,rp,rfl⟩|x::xs,us,h=>by obtain⟨v',vs,rfl,r,rs⟩:=(show ∃v vs,us=(x.1,v)::vs/\au K H m Z x.2 v/\aM K H m Z xs vs from h);exact⟨v',vs++[(k,v)],rfl,r,aM.app rp rs⟩
theorem aM.wU{κ:Type}[DecidableEq κ]{K:KB}{k:κ}(rp:au K H m Z p v):∀{kvs} {us},aM K H m Z kvs us->
  aM K H m Z (kvs.map λkv=>if kv.1=k then(kv.1,p) else kv) (us.map λkv=>if kv.1=k then(kv.1,v) else kv)
 |[],us,h=>by cases (show us=[] from h);rfl|x::xs,us,h=>by
  obtain⟨v',vs,rfl,r,rs⟩:=(show ∃v vs,us=(x.1,v)::vs/\au K H m Z x.2 v/\aM K H m Z xs vs from h);have ih:=aM.wU (k:=k) rp rs;rw[Qq,Qq];by_cases hk:x.1=k;·rw[if_pos hk,if_pos hk];exact⟨v,_,rfl,rp,ih⟩
  ·rw[if_neg hk,if_neg hk];exact⟨v',_,rfl,r,ih⟩
theorem aM.put{κ:Type}[DecidableEq κ]{K:KB}{k:κ}{kvs:List (κ×P)}{us:List (κ×V)}(rs:aM K H m Z kvs us)(rp:au K H m Z p v):aM K H m Z (nO kvs k p) (putK us k v):=by
 have e:(us.any λkv=>decide (kv.1=k))=(kvs.any λkv=>decide (kv.1=k)):=by
  have e2:∀kvs:List (κ×P),(kvs.any λkv=>decide (kv.1=k))=(iL kvs k).isSome:=λkvs=>by
   unfold iL;rw[SR];induction kvs with
   |nil=>rfl|cons x xs ih=>
    rw[Rw,Ra];cases hx:decide (x.1=k);·simpa using ih
    ·rfl
  rw[lW,(rs.val (k:=k)).1,e2]
 unfold nO putK;rw[e];split;·exact rs.wU rp
 ·exact rs.app rp
theorem mK{K:KB}{st:aW}(as:ay K H m Z st)(h:eD st p=Δ o)(r:au K H m Z p v):∃n a,p=.obj n/\st[n]?=Δ o/\m[n]?=Δ a/\v=.ref a/\kX K H m Z a o/\oE o=Λ:=by
 unfold eD at h;cases p with
 |d x=>cases h|dw x=>cases h|fn k c=>cases h|lf k=>cases h|obj n=>
  obtain⟨a,e,rfl⟩:=r;cases hs:st[n]? with
  |none=>rw[show Fe st (.obj n)=st[n]? from rfl,hs] at h;cases h|some o'=>
   rw[show Fe st (.obj n)=st[n]? from rfl,hs] at h;have h':(if oE o'=Λ then Δ o' else Θ)=Δ o:=h;split at h';·rename_i hd;cases h';obtain⟨a',e',q⟩:=as.at_ n _ hs;rw[e] at e';cases e';exact⟨n,a,rfl,hs,e,rfl,q,hd⟩
   ·cases h'
theorem vY{K:KB}(ao:kX K H m Z a o)(rk:au K H m Z k y)(h:md o k=Δ res):∃ov,jg H a y ov/\ov.isSome=res.isSome/\∀p,res=Δ p->∃v,ov=Δ v/\au K H m Z p v:=by
 cases o with
 |lst xs=>cases h|ins c fs=>cases h|qI=>cases h|dK kvs=>obtain⟨us,hu,rs⟩:=ao;cases hk:keyOf k with|none=>rw[show md (.dK kvs) k=(keyOf k).map _ from rfl,hk] at h;cases h|some kk=>rw[show md (.dK kvs) k=(keyOf k).map _ from rfl,hk] at h;cases h;obtain⟨i1,i2⟩:=rs.val (k:=kk);refine⟨dq us kk,?_,i1,λp hp=>i2 p hp⟩;rw[rk.key hk];exact jg.k hu
 |dT kvs=>obtain⟨us,hu,rs⟩:=ao;cases hk:jn k with|none=>rw[show md (.dT kvs) k=(jn k).map _ from rfl,hk] at h;cases h|some kk=>rw[show md (.dT kvs) k=(jn k).map _ from rfl,hk] at h;cases h;obtain⟨i1,i2⟩:=rs.val (k:=kk);obtain⟨b,rfl,hb⟩:=rk.jn hk;exact⟨dq us kk,jg.t hu hb,i1,λp hp=>i2 p hp⟩
def Ae(neg:Bool):R2:=λy x H Q=>∃a o,x=.ref a/\jg H a y o/\Q (.bl (if neg then !o.isSome else o.isSome)) H
theorem FE(hu:X.A.units+100 < cLine):fg X (QA .In) (Ae Ξ):=by intro η s σ H x y v u Q I rx ry h;obtain⟨a,o,rfl,g,q⟩:=h;cases ry;exact Nj (by lia) I g rx λs3 I3=>⟨.bl o.isSome,H,I3,rfl,q⟩
theorem xN(hu:X.A.units+100 < cLine):fg X (QA .NotIn) (Ae Λ):=by intro η s σ H x y v u Q I rx ry h;obtain⟨a,o,rfl,g,q⟩:=h;cases ry;exact By (by lia) I g rx λs3 I3=>⟨.bl (!o.isSome),H,I3,rfl,q⟩
def B8(K:KB):DB->R2
 |.lt=>vC λi j=>.bl (decide (i < j))|.le=>vC λi j=>.bl (decide (i<=j))|.gt=>vC λi j=>.bl (decide (j < i))|.ge=>vC λi j=>.bl (decide (j<=i))|.eq=>λv u H Q=>∃m Z x y k,aI K H m Z x v/\aI K H m Z y u/\nu x y=Δ k/\Q (.bl k) H|.ne=>λv u H Q=>∃m Z x y k,aI K H m Z x v/\aI K H m Z y u/\nu x y=Δ k/\Q (.bl (!k)) H|.isin=>λv u H Q=>IS K.K Ξ v u H Q\/Ae Ξ v u H Q|.rN=>λv u H Q=>IS K.K Λ v u H Q\/Ae Λ v u H Q|.xr=>λx y H Q=>y=.aU/\Q (.bl (decide (x=.aU))) H|.nN=>λx y H Q=>y=.aU/\Q (.bl (!decide (x=.aU))) H
theorem kj(hu:X.A.units+100 < cLine):∀o,fg X (QA (fZ o)) (B8 (ae X kt) o)
 |.lt=>Iv|.le=>Iw|.gt=>Iy|.ge=>Iz|.eq=>Fv hu|.ne=>Fw hu|.isin=>wR.or (FE hu)|.rN=>pL.or (xN hu)|.xr=>Ea|.nN=>Bg
theorem Af{K:KB}(h:aI K H m Z x v)(f:ma x=Λ):iA v=Λ:=by cases x with|aU=>cases (show v=.aU from h);rfl|bl b=>cases (show v=.bl b from h);rfl|int b=>cases (show v=.int b from h);rfl|str b=>cases (show v=.str b from h);rfl|tup xs=>cases f|pl xs=>cases f
theorem Oe{K:KB}(h:aI K H m Z x v)(h':aI K H m Z y u)(f:ma x=Λ)(f':ma y=Λ):Bw v u=l9 x y:=by
 cases x with
 |tup xs=>cases f|pl xs=>cases f|aU=>cases (show v=.aU from h);cases y with|tup xs=>cases f'|pl xs=>cases f'|aU=>cases (show u=.aU from h');rfl|bl b=>cases (show u=.bl b from h');rfl|int b=>cases (show u=.int b from h');rfl|str b=>cases (show u=.str b from h');rfl
 |bl a=>cases (show v=.bl a from h);cases y with|tup xs=>cases f'|pl xs=>cases f'|aU=>cases (show u=.aU from h');rfl|bl b=>cases (show u=.bl b from h');rfl|int b=>cases (show u=.int b from h');rfl|str b=>cases (show u=.str b from h');rfl
 |int a=>cases (show v=.int a from h);cases y with|tup xs=>cases f'|pl xs=>cases f'|aU=>cases (show u=.aU from h');rfl|bl b=>cases (show u=.bl b from h');rfl|int b=>cases (show u=.int b from h');rfl|str b=>cases (show u=.str b from h');rfl
 |str a=>cases (show v=.str a from h);cases y with|tup xs=>cases f'|pl xs=>cases f'|aU=>cases (show u=.aU from h');rfl|bl b=>cases (show u=.bl b from h');rfl|int b=>cases (show u=.int b from h');rfl|str b=>cases (show u=.str b from h');rfl
theorem DG{K:KB}(h:aI K H m Z x v)(f:ma x=Λ):∀{ys} {us},aj K H m Z ys us->ys.all ma=Λ->us.all iA=Λ/\LH v us=ys.any λy=>l9 y x
 |[],us,r,_=>by cases (show us=[] from r);exact⟨rfl,rfl⟩|y::ys,us,r,q=>by obtain⟨w',ws,rfl,r1,r2⟩:=(show ∃v vs,us=v::vs/\aI K H m Z y v/\aj K H m Z ys vs from r);rw[RO,Pw] at q;obtain⟨i1,i2⟩:=DG h f r2 q.2;refine⟨by rw[RO,Af r1 q.1,i1];rfl,?_⟩;unfold LH at i2 ⊢;rw[Rw,Rw,Oe r1 h q.1 f,i2]
theorem qd{K:KB}(h:au K H m Z x v):decide (v=.aU)=eR x:=by cases x with|obj n=>obtain⟨a,_,rfl⟩:=h;exact decide_eq_false (λz=>nomatch z)|dw n=>obtain⟨a,rfl,_⟩:=h;exact decide_eq_false (λz=>nomatch z)|fn k c=>obtain⟨a,_,_,rfl,_⟩:=h;exact decide_eq_false (λz=>nomatch z)|lf k=>obtain⟨a,_,_,rfl,_⟩:=h;exact decide_eq_false (λz=>nomatch z)|d x=>cases x with|aU=>cases (show v=.aU from h);rfl|bl b=>cases (show v=.bl b from h);exact decide_eq_false (λz=>nomatch z)|int b=>cases (show v=.int b from h);exact decide_eq_false (λz=>nomatch z)|str b=>cases (show v=.str b from h);exact decide_eq_false (λz=>nomatch z)|tup xs=>obtain⟨a,_,rfl,_⟩:=h;exact decide_eq_false (λz=>nomatch z)|pl xs=>obtain⟨a,_,rfl,_⟩:=h;exact decide_eq_false (λz=>nomatch z)
theorem in_of{K:KB}{st:aW}(as:ay K H m Z st)(rx:au K H m Z x v)(ry:au K H m Z y u)(e:JO x y st=Δ k)(q:Q (.bl (if neg then !k else k)) H):IS K.K neg v u H Q\/Ae neg v u H Q:=by
 unfold JO at e;split at e;·rename_i o ho;obtain⟨res,e1,rfl⟩:=dE e;obtain⟨n,a,rfl,hs,hm,rfl,ao,_⟩:=mK as ho ry;obtain⟨ov,hg,h1,_⟩:=vY ao rx e1;refine .inr ⟨a,ov,rfl,hg,?_⟩;rw[h1];exact q
 ·left;obtain⟨xd,e1,e⟩:=bT e;obtain⟨ps,e2,e⟩:=bT e;obtain⟨ys,e3,e9⟩:=bT e;clear e;split at e9;·rename_i hf;rw[Pw] at hf;cases x with|obj n=>cases e1|dw n=>cases e1|fn k c=>cases e1|lf k=>cases e1|d x=>cases e1;obtain⟨a,us,rfl,hs,rs⟩:=fE as e2 ry;obtain⟨f1,f2⟩:=DG rx hf.1 (rs.ba e3) hf.2;refine⟨a,us,rfl,Ac hs,Af rx hf.1,f1,?_⟩;rw[f2];cases e9;cases neg<;>exact q
  ·cases e9
theorem qe{K:KB}{st:aW}(as:ay K H m Z st)(rx:au K H m Z x v)(ry:au K H m Z y u)(e:fu o x y st=Δ k)(q:Q (.bl k) H):B8 K o v u H Q:=by
 have B9:∀{o:DB},Ff o x y=Δ k->∃i j,v=.int i/\u=.int j/\JL o i j=Δ k:=λ{o} z=>by
  unfold Ff at z;split at z;·exact⟨_,_,rx,ry,z⟩
  ·cases z
 cases o with
 |lt=>obtain⟨i,j,rfl,rfl,z⟩:=B9 e;cases z;exact⟨i,j,rfl,rfl,q⟩|le=>obtain⟨i,j,rfl,rfl,z⟩:=B9 e;cases z;exact⟨i,j,rfl,rfl,q⟩|gt=>obtain⟨i,j,rfl,rfl,z⟩:=B9 e;cases z;exact⟨i,j,rfl,rfl,q⟩|ge=>obtain⟨i,j,rfl,rfl,z⟩:=B9 e;cases z;exact⟨i,j,rfl,rfl,q⟩|eq=>obtain⟨a,e1,e⟩:=bT (show((iy st x).bind λx=>(iy st y).bind λy=>nu x y)=Δ k from e);obtain⟨b,e2,e⟩:=bT e;exact⟨[],[],a,b,k,gK as e1 rx,gK as e2 ry,e,q⟩
 |ne=>obtain⟨a,e1,e⟩:=bT (show((iy st x).bind λx=>(iy st y).bind λy=>(nu x y).map not)=Δ k from e);obtain⟨b,e2,e⟩:=bT e;obtain⟨c,e3,rfl⟩:=dE e;exact⟨[],[],a,b,c,gK as e1 rx,gK as e2 ry,e3,q⟩|isin=>exact in_of (neg:=Ξ) as rx ry e q|rN=>obtain⟨k',e',rfl⟩:=dE (show(JO x y st).map not=Δ k from e);exact in_of (neg:=Λ) as rx ry e' q
 |xr=>
  have e':(if eR y then Δ (eR x) else Θ)=Δ k:=e;split at e';·rename_i hy;cases e';have:=qd ry;rw[hy] at this;exact⟨of_decide_eq_true this,by rw[qd rx];exact q⟩
  ·cases e'
 |nN=>
  have e':(if eR y then Δ (!eR x) else Θ)=Δ k:=e;split at e';·rename_i hy;cases e';have:=qd ry;rw[hy] at this;exact⟨of_decide_eq_true this,by rw[qd rx];exact q⟩
  ·cases e'
theorem Ok.truth{K:KB}{st:aW}{Q:VK}(as:ay K H m Z st)(h:Ok K Z ((R.of o st).bind λb cf=>R.ok (P.d (.bl b)) cf) m H (λp _ m' H'=>∀v,au K H' m' Z p v->Q v H')):∃k,o=Δ k/\Q (.bl k) H:=by obtain⟨k,e,q,_⟩:=Ok.of (Ok.bind h) as;exact⟨k,e,Ok.here q as (.bl k) rfl⟩
theorem lF(h:b9 b=Ξ):U0 op b=Ξ:=by
 cases b<;>first
  |rfl
  |exact absurd (show Λ=Ξ from h) Ql.symm
theorem JX(T:Good X kt g C)(ha:PE X a (tE (ae X kt) Z (aa C ea)))(hb:PE X b (tE (ae X kt) Z (aa C eb)))(hn:b9 b=Ξ):
  PE X (.Compare a [fZ o] [b] pos) (tE (ae X kt) Z (aa C (.cmp o ea eb))):=
 PE.imp (vD (kj T.hu o) ha hb (lF hn)) λσ H Q h=>r9 (f:=QA (fZ o)) (λx y v u m H st Q as rx ry h=>by obtain⟨k,e,q⟩:=Ok.truth as h;exact qe as rx ry e q) h
theorem gL{α β:Type}{r:R α}{f:α->aW->R β}{b:β}{st:aW}(h:r.bind f=.ok b st):∃a st1,r=.ok a st1/\f a st1=.ok b st:=by cases r with|ok a st1=>exact⟨a,st1,rfl,h⟩|ex x st1=>cases h|no=>cases h
theorem Ag{K:KB}{st:aW}(as:ay K H m Z st)(r:au K H m Z p v)(e:iM st p=Δ k):wJ K.K v H k:=by
 have lists:(b0 st p).map (λxs=>!xs.isEmpty)=Δ k->wJ K.K v H k:=λz=>by obtain⟨ps,e1,rfl⟩:=dE z;obtain⟨a,us,rfl,hr,rs⟩:=cy as e1 r;refine .inl ⟨us,.inl hr,?_⟩;have:=rs.length;cases ps<;>cases us<;>simp at this ⊢
 cases p with
 |obj n=>exact lists e|dw n=>exact lists e|fn k c=>exact lists e|lf k=>exact lists e|d x=>
  cases x with
  |aU=>cases (show v=.aU from r);cases e;rfl|bl b=>cases (show v=.bl b from r);cases e;rfl|int b=>cases (show v=.int b from r);cases e;rfl|str b=>
   cases (show v=.str b from r);have e':(if b.length<=aC then Δ ((b.length:Int)!=0) else Θ)=Δ k:=e;split at e';·rename_i hc;cases e';exact⟨by rw[<-bY];exact hc,rfl⟩
   ·cases e'
  |tup xs=>obtain⟨a,us,rfl,hs,rs⟩:=r;cases e;refine .inr (.inl ⟨us,de.of hs,?_⟩);have:=rs.length;cases xs<;>cases us<;>simp at this ⊢|pl xs=>exact lists e
theorem FF(h:tT (ae X kt) Z (bL d) σ H Q):tE (ae X kt) Z d σ H λx H'=>∃k,wJ X.K x H' k/\Q k H':=by obtain⟨m,r,st,ar,as,h⟩:=h;refine⟨m,r,st,ar,as,(Ok.bind h).mono λp st1 m1 H1 br aS h1 v rv=>?_⟩;obtain⟨k,e,q,_⟩:=Ok.of h1 aS;exact⟨k,Ag aS rv e,q⟩
theorem Ca(ha:PE X e (tE (ae X kt) Z d))(he:∀whole,Vm e X.env whole=(do let v<-whole;Uu e.pos;Uv [v] (truthy v))):PT X e (tT (ae X kt) Z (bL d)):=
 PT.imp (yH ha he) λσ H Q h=>FF h
theorem qf(hb:∀r st p st1,d r st=.ok p st1->∃b,p=.d (.bl b))(h:tT (ae X kt) Z (bL d) σ H Q):tE (ae X kt) Z d σ H λx H'=>∃k,x=.bl k/\Q k H':=by obtain⟨m,r,st,ar,as,h⟩:=h;refine⟨m,r,st,ar,as,(Ok.bind h).vT λp st1 m1 H1 hr br aS h1 v rv=>?_⟩;obtain⟨b,rfl⟩:=hb r st p st1 hr;obtain⟨k,e,q,_⟩:=Ok.of h1 aS;cases e;cases (show v=.bl b from rv);exact⟨b,rfl,q⟩
theorem Ah:∀r st p st1,aa C (.cmp o a b) r st=.ok p st1->∃b,p=.d (.bl b):=λr st p st1 h=>by rw[g9] at h;obtain⟨x,s1,_,h⟩:=gL h;obtain⟨y,s2,_,h⟩:=gL h;obtain⟨k,s3,_,h⟩:=gL h;cases h;exact⟨k,rfl⟩
theorem FG(T:Good X kt g C)(ha:PE X a (tE (ae X kt) Z (aa C ea)))(hb:PE X b (tE (ae X kt) Z (aa C eb)))(hn:b9 b=Ξ):
  PT X (.Compare a [fZ o] [b] pos) (tT (ae X kt) Z (bL (aa C (.cmp o ea eb)))):=
 PT.imp (vE (kj T.hu o) ha hb (lF hn)) λσ H Q h=>r9 (f:=QA (fZ o)) (λx y v u m H st Q as rx ry h=>by obtain⟨k,e,q⟩:=Ok.truth as h;exact qe as rx ry e q) (qf Ah h)
theorem oU(h:b9 b=Ξ)(h':b9 c=Ξ):lastMarks [p,q] [b,c]=Ξ:=by
 cases c<;>first
  |rfl
  |exact absurd (show Λ=Ξ from h') Ql.symm
theorem se(h:tE (ae X kt) Z (aa C (.chain o o' a b c)) σ H Q):
  tR (B8 (ae X kt) o) (B8 (ae X kt) o') (tE (ae X kt) Z (aa C a)) (tE (ae X kt) Z (aa C b)) (tE (ae X kt) Z (aa C c)) σ H Q:=by
 obtain⟨m,ρ,st,ar,as,h⟩:=h;rw[kH] at h;refine⟨m,ρ,st,ar,as,(Ok.bind h).mono λx st1 m1 H1 br aS h1 v rv=>?_⟩;refine⟨m1,ρ,st1,ar.le br,aS,(Ok.bind h1).mono λy aB m2 H2 cS cB h2 u ru=>?_⟩;obtain⟨k,e,h3,_⟩:=Ok.of (Ok.bind h2) cB;refine qe cB (rv.le cS) ru e ⟨k,rfl,?_⟩;cases k with|false=>exact Ok.here h3 cB (.bl Ξ) rfl|true=>refine⟨m2,ρ,aB,(ar.le br).le cS,cB,(Ok.bind (show Ok (ae X kt) Z ((aa C c ρ aB).bind _) m2 H2 _ from h3)).mono λz lA m4 H4 ny nQ h4 w' ik=>?_⟩;obtain⟨k',e',q⟩:=Ok.truth nQ h4;exact qe nQ (ru.le ny) ik e' q
theorem Cb(T:Good X kt g C)(ha:PE X a (tE (ae X kt) Z (aa C ea)))(hb:PE X b (tE (ae X kt) Z (aa C eb)))(hc:PE X c (tE (ae X kt) Z (aa C ec)))(hn:b9 b=Ξ)(pz:b9 c=Ξ):
  PE X (.Compare a [fZ o,fZ o'] [b,c] pos) (tE (ae X kt) Z (aa C (.chain o o' ea eb ec))):=
 PE.imp (yE (kj T.hu o) (kj T.hu o') ha hb hc (oU hn pz)) λσ H Q h=>se h
theorem vc:∀r st p st1,aa C (.chain o o' a b c) r st=.ok p st1->∃b,p=.d (.bl b):=λr st p st1 h=>by rw[kH] at h;obtain⟨x,s1,_,h⟩:=gL h;obtain⟨y,s2,_,h⟩:=gL h;obtain⟨k,s3,_,h⟩:=gL h;cases k with|false=>cases h;exact⟨Ξ,rfl⟩|true=>obtain⟨z,s4,_,h⟩:=gL (show((aa C c r s3).bind _)=_ from h);obtain⟨k',s5,_,h⟩:=gL h;cases h;exact⟨k',rfl⟩
theorem Ai(T:Good X kt g C)(ha:PE X a (tE (ae X kt) Z (aa C ea)))(hb:PE X b (tE (ae X kt) Z (aa C eb)))(hc:PE X c (tE (ae X kt) Z (aa C ec)))(hn:b9 b=Ξ)(pz:b9 c=Ξ):
  PT X (.Compare a [fZ o,fZ o'] [b,c] pos) (tT (ae X kt) Z (bL (aa C (.chain o o' ea eb ec)))):=
 PT.imp (yF (kj T.hu o) (kj T.hu o') ha hb hc (oU hn pz)) λσ H Q h=>se (qf vc h)
theorem Cd(ha:PE X a ta):PE X (.UnaryOp .Not a pos) (λσ H Q=>ta σ H λx H1=>∃k,wJ X.K x H1 k/\Q (.bl (!k)) H1):=by intro η s σ H Q I h;refine UnaryOp_ (bG (ha η s σ H _ I h) λv s1 ⟨x,H1,I1,r1,q1⟩=>not_of ?_);exact bG (yG η s1 σ H1 x v (λk H'=>Q (.bl (!k)) H') I1 r1 q1) λc s2 ⟨H2,I2,q2⟩=>⟨.bl (!c),H2,I2,rfl,q2⟩
theorem JY(ha:PE X a (tE (ae X kt) Z (aa C ea))):PE X (.UnaryOp .Not a pos) (tE (ae X kt) Z (aa C (.not ea))):=by refine PE.imp (Cd ha) ?_;rintro σ H Q ⟨m,ρ,st,ar,as,h⟩;rw[oF] at h;refine⟨m,ρ,st,ar,as,(Ok.bind h).mono λx st1 m1 H1 br aS h1 v rv=>?_⟩;obtain⟨k,e,h2,_⟩:=Ok.of (Ok.bind h1) aS;exact⟨k,Ag aS rv e,Ok.here h2 aS (.bl (!k)) rfl⟩
theorem FH(ha:PT X a (tT (ae X kt) Z (bL (aa C ea)))):PT X (.UnaryOp .Not a pos) (tT (ae X kt) Z (bL (aa C (.not ea)))):=by refine PT.imp (DY ha) ?_;rintro σ H Q ⟨m,ρ,st,ar,as,h⟩;unfold bL at h;rw[oF] at h;refine⟨m,ρ,st,ar,as,?_⟩;unfold bL;cases hr:aa C ea ρ st with|ex x s=>rw[hr] at h;exact h|no=>rw[hr] at h;exact h|ok p s1=>rw[hr] at h;simp only[ag] at h ⊢;cases ht:iM s1 p with|none=>rw[ht] at h;exact h|some k=>rw[ht] at h;exact h
theorem FI(ha:PE X a (tE (ae X kt) Z (aa C ea))):PE X (.BoolOp .And [a] pos) (tE (ae X kt) Z (dJ C [ea])):=tI ha
theorem JZ(ha:PE X a (tE (ae X kt) Z (aa C ea))):PE X (.BoolOp .Or [a] pos) (tE (ae X kt) Z (dM C [ea])):=tI ha
theorem FJ{rest:List Expr}(ha:PE X a (tE (ae X kt) Z (aa C ea)))(hb:PE X (.BoolOp .And (b::rest) pos) (tE (ae X kt) Z (dJ C (eb::er)))):
  PE X (.BoolOp .And (a::b::rest) pos) (tE (ae X kt) Z (dJ C (ea::eb::er))):=by
 refine PE.imp (tJ ha hb) ?_;rintro σ H Q ⟨m,ρ,st,ar,as,h⟩;rw[oI] at h;refine⟨m,ρ,st,ar,as,(Ok.bind h).mono λx st1 m1 H1 br aS h1 v rv=>?_⟩;split at h1;·rename_i k;cases (show v=.bl k from rv);refine⟨k,rfl,?_⟩;cases k with|true=>exact⟨m1,ρ,st1,ar.le br,aS,h1⟩|false=>exact Ok.here h1 aS (.bl Ξ) rfl
 ·exact h1.elim
theorem J0{rest:List Expr}(ha:PE X a (tE (ae X kt) Z (aa C ea)))(hb:PE X (.BoolOp .Or (b::rest) pos) (tE (ae X kt) Z (dM C (eb::er)))):
  PE X (.BoolOp .Or (a::b::rest) pos) (tE (ae X kt) Z (dM C (ea::eb::er))):=by
 refine PE.imp (Ib ha hb) ?_;rintro σ H Q ⟨m,ρ,st,ar,as,h⟩;rw[oJ] at h;refine⟨m,ρ,st,ar,as,(Ok.bind h).mono λx st1 m1 H1 br aS h1 v rv=>?_⟩;split at h1;·rename_i k;cases (show v=.bl k from rv);refine⟨k,rfl,?_⟩;cases k with|false=>exact⟨m1,ρ,st1,ar.le br,aS,h1⟩|true=>exact Ok.here h1 aS (.bl Λ) rfl
 ·exact h1.elim
theorem Ce(ha:PT X a (tT (ae X kt) Z (bL (aa C ea)))):PW X (.BoolOp .And [a] pos) (tT (ae X kt) Z (bL (dJ C [ea]))):=pw_and1 ha
theorem FK(ha:PT X a (tT (ae X kt) Z (bL (aa C ea)))):PW X (.BoolOp .Or [a] pos) (tT (ae X kt) Z (bL (dM C [ea]))):=pw_or1 ha
theorem Cf{rest:List Expr}(ha:PT X a (tT (ae X kt) Z (bL (aa C ea))))(hb:PW X (.BoolOp .And (b::rest) pos) (tT (ae X kt) Z (bL (dJ C (eb::er))))):
  PW X (.BoolOp .And (a::b::rest) pos) (tT (ae X kt) Z (bL (dJ C (ea::eb::er)))):=by
 refine PW.imp (pw_and ha hb) ?_;rintro σ H Q ⟨m,ρ,st,ar,as,h⟩;refine⟨m,ρ,st,ar,as,?_⟩;unfold bL at h ⊢;rw[oI] at h;cases hr:aa C ea ρ st with
 |ex x s=>rw[hr] at h;exact h|no=>rw[hr] at h;exact h|ok p s1=>
  rw[hr] at h;simp only[ag] at h ⊢;split at h;·rename_i k;refine λm1 H1 br aS=>?_;cases k with|true=>exact⟨m1,ρ,s1,ar.le br,aS,Ok.le h br⟩|false=>exact h m1 H1 br aS
  ·exact h.elim
theorem FL{rest:List Expr}(ha:PT X a (tT (ae X kt) Z (bL (aa C ea))))(hb:PW X (.BoolOp .Or (b::rest) pos) (tT (ae X kt) Z (bL (dM C (eb::er))))):
  PW X (.BoolOp .Or (a::b::rest) pos) (tT (ae X kt) Z (bL (dM C (ea::eb::er)))):=by
 refine PW.imp (pw_or ha hb) ?_;rintro σ H Q ⟨m,ρ,st,ar,as,h⟩;refine⟨m,ρ,st,ar,as,?_⟩;unfold bL at h ⊢;rw[oJ] at h;cases hr:aa C ea ρ st with
 |ex x s=>rw[hr] at h;exact h|no=>rw[hr] at h;exact h|ok p s1=>
  rw[hr] at h;simp only[ag] at h ⊢;split at h;·rename_i k;refine λm1 H1 br aS=>?_;cases k with|false=>exact⟨m1,ρ,s1,ar.le br,aS,Ok.le h br⟩|true=>exact h m1 H1 br aS
  ·exact h.elim
theorem Aj(hc:PT X c tc)(ha:PT X a ta)(hb:PT X b tb):PT X (.IfExp c a b pos) (λσ H Q=>tc σ H λk H1=>if k=Λ then ta σ H1 Q else tb σ H1 Q):=by intro η s σ H Q I h;refine isTrue_IfExp (bG (hc η s σ H _ I h) λd s1 ⟨H1,I1,q1⟩=>?_);cases d with|true=>exact ha η s1 σ H1 Q I1 q1|false=>exact hb η s1 σ H1 Q I1 q1
theorem J1(hc:PT X c (tT (ae X kt) Z (bL (aa C ec))))(ha:PE X a (tE (ae X kt) Z (aa C ea)))(hb:PE X b (tE (ae X kt) Z (aa C eb))):PE X (.IfExp c a b pos) (tE (ae X kt) Z (aa C (.ite ec ea eb))):=by refine PE.imp (yw hc ha hb) ?_;rintro σ H Q ⟨m,ρ,st,ar,as,h⟩;refine⟨m,ρ,st,ar,as,?_⟩;rw[oG] at h;unfold bL;cases hr:aa C ec ρ st with|ex x s=>rw[hr] at h;exact h|no=>rw[hr] at h;exact h|ok p s1=>rw[hr] at h;simp only[ag] at h ⊢;cases ht:iM s1 p with|none=>rw[ht] at h;exact h|some k=>rw[ht] at h;refine λm1 H1 br aS=>?_;cases k with|true=>exact⟨m1,ρ,s1,ar.le br,aS,Ok.le (show Ok (ae X kt) Z (aa C ea ρ s1) m H _ from h) br⟩|false=>exact⟨m1,ρ,s1,ar.le br,aS,Ok.le (show Ok (ae X kt) Z (aa C eb ρ s1) m H _ from h) br⟩
theorem FN(hc:PT X c (tT (ae X kt) Z (bL (aa C ec))))(ha:PT X a (tT (ae X kt) Z (bL (aa C ea))))(hb:PT X b (tT (ae X kt) Z (bL (aa C eb)))):PT X (.IfExp c a b pos) (tT (ae X kt) Z (bL (aa C (.ite ec ea eb)))):=by refine PT.imp (Aj hc ha hb) ?_;rintro σ H Q ⟨m,ρ,st,ar,as,h⟩;refine⟨m,ρ,st,ar,as,?_⟩;unfold bL at h;rw[oG] at h;show Ok (ae X kt) Z ((aa C ec ρ st).bind λx st1=>R.of (iM st1 x) st1) m H _;cases hr:aa C ec ρ st with|ex x s=>rw[hr] at h;exact h|no=>rw[hr] at h;exact h|ok p s1=>rw[hr] at h;simp only[ag] at h ⊢;cases ht:iM s1 p with|none=>rw[ht] at h;exact h|some k=>rw[ht] at h;refine λm1 H1 br aS=>?_;cases k with|true=>exact⟨m1,ρ,s1,ar.le br,aS,Ok.le (show Ok (ae X kt) Z (bL (aa C ea) ρ s1) m H _ from h) br⟩|false=>exact⟨m1,ρ,s1,ar.le br,aS,Ok.le (show Ok (ae X kt) Z (bL (aa C eb) ρ s1) m H _ from h) br⟩
end
section
variable{X:Cx}{g:G}{C:Nat->List P->aW->R P}{Z:List Addr}{e:Expr}{es:List Expr}
theorem eI:∀{es} {r} {st st1} {ps},aG C es r st=.ok ps st1->ps.length=es.length
 |[],r,st,st1,ps,h=>by rw[aP] at h;cases h;rfl|e::es,r,st,st1,ps,h=>by rw[aY] at h;obtain⟨x,s1,_,h⟩:=gL h;obtain⟨xs,s2,h2,h⟩:=gL h;cases h;rw[PU,PU,eI h2]
theorem jB:PA X [] (tA (ae X kt) Z (aG C [])):=by refine PA.imp ez ?_;rintro σ H Q ⟨m,ρ,st,ar,as,h⟩;rw[aP] at h;exact Ok.here h as [] rfl
theorem fc(ha:PE X x (tE (ae X kt) Z (aa C a)))(hr:PA X xs (tA (ae X kt) Z (aG C cz)))(hs:notStar x=Λ):PA X (x::xs) (tA (ae X kt) Z (aG C (a::cz))):=by refine PA.imp (cj ha hr (bu hs)) ?_;rintro σ H Q ⟨m,ρ,st,ar,as,h⟩;rw[aY] at h;refine⟨m,ρ,st,ar,as,(Ok.bind h).mono λp st1 m1 H1 br aS h1 v rv=>?_⟩;refine⟨m1,ρ,st1,ar.le br,aS,(Ok.bind h1).mono λps aB m2 H2 cS cB h2 vs fe=>?_⟩;exact Ok.here h2 cB (v::vs) ⟨v,vs,rfl,rv.le cS,fe⟩
theorem dF(h:e8 g (a::cz) xs=Λ):∃x ys,xs=x::ys/\cU g a x=Λ/\notStar x=Λ/\e8 g cz ys=Λ:=by refine aE h λx ys h=>?_;simp only[Pw] at h;exact⟨x,ys,rfl,h.1.1,h.1.2,h.2⟩
theorem gM(h:e8 g [] xs=Λ):xs=[]:=PM.mp h
theorem cX:∀{cz} {xs},e8 g cz xs=Λ->∀x∈xs,notStar x=Λ
 |[],xs,h=>by rw[gM h];intro x hx;cases hx|a::cz,xs,h=>by
  obtain⟨x,ys,rfl,_,h2,h3⟩:=dF h;intro y hy;rcases Ub.mp hy with z|z;·rw[z];exact h2
  ·exact cX h3 y z
theorem dN:∀{cz} {xs},e8 g cz xs=Λ->xs.length=cz.length
 |[],xs,h=>by rw[gM h];rfl|a::cz,xs,h=>by obtain⟨x,ys,rfl,_,_,h3⟩:=dF h;rw[PU,PU,dN h3]
theorem eS:∀{xs},(∀x∈xs,notStar x=Λ)->(Rp pos (P5 xs env)).any (·.1)=Ξ
 |[],_=>rfl|x::xs,h=>by rw[bu (h x PC)];show(Ξ||(Rp pos (P5 xs env)).any (·.1))=Ξ;rw[eS λy hy=>h y (Pz _ hy)];rfl
theorem J4(h:PA X xs (tA (ae X kt) Z (aG C cz))):PE X (.Tuple xs k pos) (tE (ae X kt) Z (aa C (.tup cz))):=by
 refine PE.imp (yK h) ?_;rintro σ H Q ⟨m,ρ,st,ar,as,h⟩;rw[xA] at h;refine⟨m,ρ,st,ar,as,(Ok.bind h).mono λps st1 m1 H1 br aS h1 vs fe=>?_⟩;split at h1;·rename_i hc;obtain⟨xs,e,h2,_⟩:=Ok.of (Ok.bind h1) aS;exact⟨by rw[fe.length,<-bY];exact hc,λp hp=>jA (α:=Unit) aS (fe.ba e) hp h2⟩
 ·exact h1.elim
theorem Le.grow{K:KB}{m m':List Addr}{H H':Hp}{a:Addr}(le:Le K m H m' H')(ha:H a=Θ):Le K m H (m'++[a]) H' where
 pre:=by obtain⟨t,e⟩:=le.pre;exact⟨t++[a],by rw[e,QQ]⟩
 tup:=le.tup
 keep:=le.keep
 new:=λb hb=>by
  rcases List.mem_append.mp hb with z|z;·exact le.new b z
  ·have:b=a:=by simpa using z
   rw[this];exact .inr ha
 lj:=le.lj
 yn:=le.yn
 cC:=le.cC
 ext:=le.ext
 iz:=le.iz
theorem Cg(h:tE (ae X kt) Z (aa C (.lst mu l)) σ H Q):tL (ae X kt) Z (bN C l) σ H Q:=by obtain⟨m,ρ,st,ar,as,h⟩:=h;rw[hG] at h;refine⟨m,ρ,st,ar,as,?_⟩;cases hr:bN C l ρ st with|ex x s=>rw[hr] at h;exact h|no=>rw[hr] at h;exact h|ok ps st1=>rw[hr] at h;simp only[ag] at h;intro m' H' a vs le ha hm hH cz rs;have hz:a∉Z:=(as.fresh ha).2;cases mu with|true=>refine h (m'++[a]) H' (le.grow ha) (cz.adopt hz hH rs) (.ref a) ⟨a,?_,rfl⟩;rw[Qk (by rw[cz.len];exact PH _),cz.len];simp|false=>have cB:=cz.kY (Z:=Z) λb hb=>Pz _ hb;obtain⟨xs,e,h2,_⟩:=Ok.of (Ok.bind (Ok.le (show Ok (ae X kt) Z ((R.of (ba ps) st1).bind λxs aB=>R.ok (P.d (.pl xs)) aB) m H _ from h) le)) cB;exact Ok.here h2 cB (.ref a) ⟨a,vs,rfl,.inl hH,hm,hz,(rs.kY λb hb=>Pz _ hb).ba e⟩
theorem J5(h:PE X e (tL (ae X kt) Z (bN C l))):PE X e (tE (ae X kt) Z (aa C (.lst mu l))):=PE.imp h λσ H Q q=>Cg q
theorem Le.Ak{K:KB}(le:Le K m H m' H')(ha:H' a=Θ):H a=Θ:=by cases q:H a with|none=>rfl|some o=>exact absurd ha (le.lj a (by rw[q];exact λz=>nomatch z))
theorem gN{K:KB}(br:Le K m H m1 H1)(aS:ay K H1 m1 Z st1)(fe:ah K H1 m1 Z ps vs)(ha:H1 a=Θ)(h:LQ K Z (R.ok ps st1) m H Q):Q (.ref a) (upd H1 a (.lst vs)):=
 h m1 (upd H1 a (.lst vs)) a vs (br.trans (Le.same (aZ ha _))) (br.Ak ha) (aS.fresh ha).1 aF (aS.laid ha _) ((fe.gF ha).le (Le.same (aZ ha _)))
theorem FO(h:PA X xs (tA (ae X kt) Z (aG C cz))):PE X (.List xs pos) (tL (ae X kt) Z (bN C (.eP cz))):=by
 refine PE.imp (yL h) ?_;rintro σ H Q ⟨m,ρ,st,ar,as,h⟩;refine⟨m,ρ,st,ar,as,?_⟩;rw[uR] at h;cases hr:aG C cz ρ st with
 |ex x s=>rw[hr] at h;exact h|no=>rw[hr] at h;exact h|ok ps st1=>
  rw[hr] at h;simp only[ag] at h;split at h;·rename_i hc;intro m1 H1 br aS vs fe;exact⟨by rw[fe.length,<-bY];exact hc,λa ha=>gN br aS fe ha h⟩
  ·exact h.elim
theorem FP(T:Good X kt g C)(hg:g.gl "list"=Λ)(ha:PE X x (tE (ae X kt) Z (aa C a)))(hs:notStar x=Λ):PE X (.Call (.Name "list" p) [x] [] pos) (tL (ae X kt) Z (bN C (.list a))):=by refine PE.imp (cZ pO (T.glob hg) (T.bl _ (by decide+kernel)) US (fc ha jB hs) (by decide+kernel) (by decide+kernel) (bu hs) rfl) ?_;rintro σ H Q ⟨m,ρ,st,ar,as,h⟩;refine⟨m,ρ,st,ar,as,?_⟩;rw[uS] at h;show Ok (ae X kt) Z (aG C [a] ρ st) m H _;simp only[aY,aP];cases hr:aa C a ρ st with|ex x s=>rw[hr] at h;exact h|no=>rw[hr] at h;exact h|ok y st1=>rw[hr] at h;simp only[ag] at h ⊢;intro m1 H1 br aS vs fe;obtain⟨v,nz,rfl,rv,e⟩:=(show ∃v nz,vs=v::nz/\au (ae X kt) H1 m1 Z y v/\nz=[] from fe);subst e;cases hi:eC st1 y with|none=>rw[hi] at h;exact(show False from h).elim|some ps=>rw[hi] at h;obtain⟨b,us,rfl,hq,rs⟩:=fE aS hi rv;exact⟨b,us,rfl,Ac hq,λl hl=>gN br aS rs hl h⟩
theorem aM.keys{K:KB}:∀{kvs} {us},aM K H m Z kvs us->ah K H m Z (kvs.map λkv=>xw kv.1) (us.map λkv=>kV kv.1)
 |[],us,h=>by cases (show us=[] from h);exact rfl|(k,p)::kvs,us,h=>by obtain⟨v,vs,rfl,r,rs⟩:=(show ∃v vs,us=(k,v)::vs/\au K H m Z p v/\aM K H m Z kvs vs from h);refine⟨kV k,_,rfl,?_,aM.keys rs⟩;cases k<;>rfl
theorem vZ{K:KB}{st:aW}(as:ay K H m Z st)(h:uH st p=Δ q)(r:au K H m Z p v):∃a us,p=.obj q.1/\st[q.1]?=Δ (.dK q.2)/\m[q.1]?=Δ a/\v=.ref a/\H a=Δ (.dK us)/\aM K H m Z q.2 us:=by
 unfold uH at h;split at h
 ·rename_i n;split at h;·rename_i kvs hk;cases h;obtain⟨a,ha,rfl⟩:=(show ∃a,m[n]?=Δ a/\v=.ref a from r);obtain⟨a',ha',us,hu,rs⟩:=as.at_ n _ hk;rw[ha] at ha';cases ha';exact⟨a,us,rfl,hk,ha,rfl,hu,rs⟩
  ·cases h
 ·cases h
theorem FQ(T:Good X kt g C)(hg:g.gl "list"=Λ)(ha:PE X x (tE (ae X kt) Z (aa C a)))(hs:notStar x=Λ):PE X (.Call (.Name "list" p) [x] [] pos) (tL (ae X kt) Z (bN C (.keys a))):=by refine PE.imp (cZ (nM T.calm) (T.glob hg) (T.bl _ (by decide+kernel)) US (fc ha jB hs) (by decide+kernel) (by decide+kernel) (bu hs) rfl) ?_;rintro σ H Q ⟨m,ρ,st,ar,as,h⟩;refine⟨m,ρ,st,ar,as,?_⟩;rw[uT] at h;show Ok (ae X kt) Z (aG C [a] ρ st) m H _;simp only[aY,aP];cases hr:aa C a ρ st with|ex x s=>rw[hr] at h;exact h|no=>rw[hr] at h;exact h|ok y st1=>rw[hr] at h;simp only[ag] at h ⊢;intro m1 H1 br aS vs fe;obtain⟨v,nz,rfl,rv,e⟩:=(show ∃v nz,vs=v::nz/\au (ae X kt) H1 m1 Z y v/\nz=[] from fe);subst e;cases hi:uH st1 y with|none=>rw[hi] at h;exact(show False from h).elim|some q=>rw[hi] at h;obtain⟨b,us,rfl,hk,hm,rfl,hu,rs⟩:=vZ aS hi rv;exact⟨b,us,rfl,hu,λl hl=>gN br aS rs.keys hl h⟩
theorem aM.look{K:KB}{m:List Addr}{f:Str}:∀{fs:List (Str×P)} {us:List (Str×V)},aM K H m Z fs us->(∀p,fs.lookup f=Δ p->∃v,us.lookup f=Δ v/\au K H m Z p v)/\(fs.lookup f=Θ->us.lookup f=Θ)
 |[],us,h=>by cases (show us=[] from h);exact⟨(λp z=>nomatch z),λ_=>rfl⟩|(k,p)::fs,us,h=>by obtain⟨v,vs,rfl,r,rs⟩:=(show ∃v vs,us=(k,v)::vs/\au K H m Z p v/\aM K H m Z fs vs from h);obtain⟨i1,i2⟩:=aM.look (f:=f) rs;rw[P7,P7];cases hb:f==k with|true=>exact⟨λq z=>by cases z;exact⟨v,rfl,r⟩,λz=>nomatch z⟩|false=>exact⟨i1,i2⟩
theorem qg{K:KB}{st:aW}(as:ay K H m Z st)(r:au K H m Z p v)(h:iO c st p=Δ (n,fs)):
  ∃a A dx us,p=.obj n/\m[n]?=Δ a/\v=.ref a/\st[n]?=Δ (.ins c fs)/\PN K.K PL c=Δ (Δ (.ref A))/\H a=Δ (.ins A dx us)/\H dx=Δ (.own a)/\aM K H m Z fs us:=by
 unfold iO at h;split at h
 ·rename_i n';split at h
  ·rename_i c' C9 hs;split at h;·rename_i hc;cases h;subst hc;rw[au] at r;obtain⟨a,e,rfl⟩:=r;obtain⟨a',e',ao⟩:=as.at_ n _ hs;rw[e] at e';cases e';obtain⟨A,dx,us,g1,g2,g3,g4⟩:=ao;exact⟨a,A,dx,us,rfl,e,rfl,hs,g1,g2,g3,g4⟩
   ·cases h
  ·cases h
 ·cases h
theorem FR(T:Good X kt g C)(hf:g.vU c f=Λ)(h1:g.N[i]?=Δ x)(h2:g.tD x=Λ)(h3:aH x=Λ):PE X (.Attribute (.Name x p) f pos) (tE (ae X kt) Z (aa C (.attr c f i))):=by refine PE.imp (Ec (oS (Z:=Z) (kt:=kt) T h1 h2 h3) rfl) ?_;rintro σ H Q ⟨m,ρ,st,ar,as,h⟩;rw[uL] at h;refine⟨m,ρ,st,ar,as,?_⟩;rw[fz];refine(Ok.bind h).mono λq st1 m1 H1 br aS h1 v rv=>?_;obtain⟨q2,e,h2,_⟩:=Ok.of h1 aS;obtain⟨⟨n,fs⟩,e1,e2⟩:=bT e;obtain⟨a,A,dx,us,rfl,hm,rfl,hs,g1,g2,g3,g4⟩:=qg aS rv e1;obtain⟨A',k1,k2,k3⟩:=T.fld c f hf;rw[show PN X.K PL c=Δ (Δ (.ref A)) from g1] at k1;cases k1;obtain⟨w,hw,ik⟩:=(aM.look (f:=f) g4).1 q2 e2;exact⟨a,A,dx,us,w,rfl,g2,k2,k3,hw,h2 w ik⟩
theorem s_call(T:Good X kt g C)(xO:g.nx=Ξ)(hf:g.fns[f]?=Δ (x,cz.length))(hg:g.gl x=Λ)(hp:aH x=Λ)(hs:∀x∈xs,notStar x=Λ)(hl:xs.length=cz.length)(h:PA X xs (tA (ae X kt) Z (aG C cz))):
  PE X (.Call (.Name x p) xs [] pos) (tE (ae X kt) Z (aa C (.call f cz))):=by
 obtain⟨k,fa,fd,ps,F,hr,hm,hk,hb⟩:=(T.fn f x cz.length hf).ex;have red:∀σ H Q,tE (ae X kt) Z (aa C (.call f cz)) σ H Q->yM (qJ (ae X kt) (C f) cz.length) [] (λ_ _ H'=>kt.xq H') (tA (ae X kt) Z (aG C cz)) σ H Q:=by rintro σ H Q ⟨m,ρ,st,ar,as,h⟩;rw[uI] at h;refine⟨m,ρ,st,ar,as,(Ok.bind h).vT λqs st1 m1 H1 hq br aS h1 vs fe=>?_⟩;show qJ (ae X kt) (C f) cz.length (vs++[]) H1 Q (λ_ _ H'=>kt.xq H');rw[QK];exact⟨λ_ z _ _=>z,m1,Z,qs,st1,by rw[fe.length,eI hq],fe,aS,h1⟩
 cases xs with
 |nil=>
  have e:cz=[]:=by cases cz with|nil=>rfl|cons a b=>simp at hl
  subst e;refine PE.imp (yN F hr (T.glob hg) hm hk hb .nil (T.px xO) (pn hp).1) λσ H Q h=>?_;obtain⟨m,ρ,st,ar,as,h1⟩:=red σ H Q h;rw[aP] at h1;exact Ok.here h1 as [] rfl
 |cons y ys=>exact PE.imp (Bk F hr (T.glob hg) hm hk hb .nil (T.px xO) h (pn hp).1 (bu (hs y PC)) (eS λz hz=>hs z (Pz _ hz))) red
theorem vd{E:Value->PJ->Prop}(I:Inv X η σ H s)(q:de X.K H a xs)(e:Qw X.K (.type "tuple") c=Δ b)(h:∀tk,Q (.bool b) {s with toks:=tk}):wpAny (model X.prog X.w) A (call (.builtin "isinstance") [.ref a,c]) Q E s:=by obtain⟨_,_,p,_⟩:=I.tuple q;obtain⟨o,h1,h2,_⟩:=p;exact QE PySem.W.kitx_tuple I.iY ⟨o,h1,h2⟩ e (λz=>nomatch z) h
theorem Al:cY X (.builtin "isinstance") (λxs H Q=>∃x T,xs=[x,.ty T]/\T∈hZ/\((∃t,L2.Jc H x=Δ t/\Q (.bl (L2.dS t T)) H)\/(∃a ys,x=.ref a/\de X.K H a ys/\Q (.bl (L2.dS "tuple" T)) H)\/(∃a ys,x=.ref a/\Rd H a (.lst ys)/\Q (.bl (L2.dS "list" T)) H))):=by
 intro η s σ H xs us Q I r h;obtain⟨x,T,rfl,hT,h⟩:=h;obtain⟨u,w',rfl,rx,ry⟩:=vals2 r;cases (show w'=R0 T from ry);have L5:T="int"\/T="bool"\/T="tuple"\/T="str"\/T="list":=by simpa[hZ] using hT
 rcases h with ⟨t,ht,q⟩|⟨a,ys,rfl,hq,q⟩|⟨a,ys,rfl,hq,q⟩
 ·exact jT I rx (BE ht) (lx X.K (EG ht) L5) λtk=>⟨.bl (L2.dS t T),H,I.tok _,rfl,q⟩
 ·cases rx;exact vd I hq (lx X.K (by simp) L5) λtk=>⟨.bl (L2.dS "tuple" T),H,I.tok _,rfl,q⟩
 ·rcases hq with hq|⟨o,hq⟩;·exact jT I rx (iI.lst hq) (lx X.K (by simp) L5) λtk=>⟨.bl (L2.dS "list" T),H,I.tok _,rfl,q⟩
  ·exact jT I rx (iI.cC hq) (lx X.K (by simp) L5) λtk=>⟨.bl (L2.dS "list" T),H,I.tok _,rfl,q⟩
theorem Ci(h:T∈hZ):Rt (Qg T)=Δ (.type T)/\Qg T∈mJ/\Qg T≠"__name__"/\(Qg T==("__debug__":Str))=Ξ:=by
 have h':T="int"\/T="bool"\/T="tuple"\/T="str"\/T="list":=by simpa[hZ] using h
 rcases h' with rfl|rfl|rfl|rfl|rfl;·exact⟨boot_int,by decide+kernel,by decide+kernel,by decide+kernel⟩
 ·exact⟨boot_bool,by decide+kernel,by decide+kernel,by decide+kernel⟩
 ·exact⟨boot_tuple,by decide+kernel,by decide+kernel,by decide+kernel⟩
 ·exact⟨boot_str,by decide+kernel,by decide+kernel,by decide+kernel⟩
 ·exact⟨US,by decide+kernel,by decide+kernel,by decide+kernel⟩
theorem J6(T:Good X kt g C)(hg:g.gl "isinstance"=Λ)(ht:t∈hZ)(J7:g.gl (Qg t)=Λ)(ha:PE X x (tE (ae X kt) Z (aa C a)))(hs:notStar x=Λ):
  PE X (.Call (.Name "isinstance" p) [x,.Name (Qg t) q] [] pos) (tE (ae X kt) Z (aa C (.zM a t))):=by
 obtain⟨b1,b2,b3,b4⟩:=Ci ht;refine PE.imp (fj Al (T.glob hg) (T.bl _ (by decide+kernel)) Td (cj ha (cj (vt (v:=.ty t) (T.glob J7) (T.bl _ b2) b1 rfl b3 b4) ez) (bu hs)) (by decide+kernel) (by decide+kernel) (bu hs) rfl) ?_;rintro σ H Q ⟨m,ρ,st,ar,as,h⟩;rw[xB] at h;refine⟨m,ρ,st,ar,as,(Ok.bind h).mono λy st1 m1 H1 br aS h1 v rv=>?_⟩;obtain⟨k,e,h2,_⟩:=Ok.of (Ok.bind h1) aS;have q:=Ok.here h2 aS (.bl (dS k t)) rfl;have eqt:Y.dS k t=L2.dS k t:=rfl;refine⟨v,t,rfl,ht,?_⟩;cases y with
 |d x=>cases x with|aU=>cases (show v=.aU from rv);cases e;exact .inl ⟨_,rfl,q⟩|bl b=>cases (show v=.bl b from rv);cases e;exact .inl ⟨_,rfl,q⟩|int b=>cases (show v=.int b from rv);cases e;exact .inl ⟨_,rfl,q⟩|str b=>cases (show v=.str b from rv);cases e;exact .inl ⟨_,rfl,q⟩|tup xs=>obtain⟨b,us,rfl,hq,_⟩:=rv;cases e;exact .inr (.inl ⟨b,us,rfl,de.of hq,q⟩)|pl xs=>obtain⟨b,us,rfl,hq,_⟩:=rv;cases e;exact .inr (.inr ⟨b,us,rfl,hq,q⟩)
 |obj n=>
  have e':(match st1[n]? with|some (.lst _)=>Δ "list"|_=>Θ)=Δ k:=e;split at e';·rename_i xs hx;cases e';obtain⟨b,us,rfl,hq,_⟩:=cy aS (show b0 st1 (.obj n)=Δ xs by show(match st1[n]? with|some (.lst xs)=>Δ xs|_=>Θ)=Δ xs;rw[hx]) rv;exact .inr (.inr ⟨b,us,rfl,hq,q⟩)
  ·cases e'
 |dw n=>cases e|fn k c=>cases e|lf k=>cases e
end
section
variable{X:Cx}{g:G}{C:Nat->List P->aW->R P}{Z:List Addr}{e:Expr}{es:List Expr}
theorem J8(ha:PE X a (tE (ae X kt) Z (aa C ea))):PE X (.UnaryOp .USub a pos) (tE (ae X kt) Z (aa C (.neg ea))):=by
 refine PE.imp (Dh yC ha) ?_;rintro σ H Q ⟨m,ρ,st,ar,as,h⟩;rw[xx] at h;refine⟨m,ρ,st,ar,as,(Ok.bind h).mono λx st1 m1 H1 br aS h1 v rv=>?_⟩;split at h1;·rename_i i;cases (show v=.int i from rv);exact⟨i,rfl,Ok.here h1 aS (.int (-i)) rfl⟩
 ·exact h1.elim
theorem mL(h:fV y=Ξ):vJ y:=by
 intro o i;cases y<;>first
  |rfl
  |exact absurd (show Λ=Ξ from h) Ql.symm
def Of:R2:=λx y H Q=>∃a v,x=.ref a/\jg H a y (Δ v)/\Q v H
theorem FT(hu:X.A.units+100 < cLine):AV X Of:=by intro value slice η s σ H x y v u Q I rx ry h hs;obtain⟨a,w',rfl,g,q⟩:=h;cases rx;obtain⟨ob,h1,h2⟩:=qZ I g a rfl;refine ji (qY I g) ?_ hs;exact wV (by lia) I g ry λw2 s3 I3 ik=>⟨w',H,I3,ik,q⟩
theorem Og(hu:X.A.units+100 < cLine)(ha:PE X a (tE (ae X kt) Z (aa C ea)))(hb:PE X b (tE (ae X kt) Z (aa C eb)))(hs:fV b=Ξ):PE X (.Subscript a b pos) (tE (ae X kt) Z (aa C (.ix ea eb))):=by
 refine PE.imp (vK ((vL.or En).or (FT hu)) ha hb (mL hs)) λσ H Q h=>r9 (f:=λa b=>Sg a b) (λx y v u m H st Q as rx ry h=>?_) h;obtain⟨p,e,q,_⟩:=Ok.of h as;unfold Fg at e;split at e;·rename_i o ho;obtain⟨res,e1,e2⟩:=bT e;cases (show res=Δ p from e2);obtain⟨n,a,rfl,hs,hm,rfl,ao,_⟩:=mK as ho rx;obtain⟨ov,hg,h1,h2⟩:=vY ao ry e1;obtain⟨w',rfl,ik⟩:=h2 p rfl;exact .inr ⟨a,w',rfl,hg,q w' ik⟩
 left;unfold ixS at e;split at e
 ·rename_i i;cases (show u=.int i from ry);obtain⟨ps,e1,e2⟩:=bT e;obtain⟨a,us,rfl,hq,rs⟩:=fE as e1 rx;obtain⟨j,e3,e4⟩:=bT (show(Y.wQ ps.length i).bind (λj=>ps[j]?)=Δ p from e2);obtain⟨w',e5,ik⟩:=rs.get e4;have e6:L2.jV us i=Δ w':=by show(L2.wQ us.length i).bind (λj=>us[j]?)=Δ w';rw[rs.length];have:L2.wQ ps.length i=Δ j:=e3;rw[this];exact e5
  rcases hq with hq|hq;·exact .inl ⟨a,us,i,w',rfl,rfl,hq,e6,q w' ik⟩
  ·exact .inr ⟨a,us,i,w',rfl,rfl,de.of hq,e6,q w' ik⟩
 ·cases e
inductive tO (K:KB) (Z:List Addr) (d:cE->aW->R (Option P)) (σ:L2.St) (H:Hp) (Q:Option Int->Hp->Prop):Prop
 |mk (m:List Addr) (r:cE) (st:aW) (a:b8 K H m Z r σ) (b:ay K H m Z st) (c:Ok K Z (d r st) m H (λo _ _ H'=>∃l,fw o=Δ l/\Q l H')):tO K Z d σ H Q
theorem PO.imp(h:PO X x t)(i:∀σ H Q,t' σ H Q->t σ H Q):PO X x t':=λη s σ H Q I q=>h η s σ H Q I (i σ H Q q)
theorem Cj:PO X Θ (tO (ae X kt) Z (cg C Θ)):=by refine PO.imp Br ?_;rintro σ H Q ⟨m,ρ,st,ar,as,h⟩;rw[mi] at h;obtain⟨l,e,q⟩:=Ok.here h as;cases e;exact q
theorem Ck(ha:PE X x (tE (ae X kt) Z (aa C a))):PO X (Δ x) (tO (ae X kt) Z (cg C (Δ a))):=by refine PO.imp (Bs ha) ?_;rintro σ H Q ⟨m,ρ,st,ar,as,h⟩;rw[uQ] at h;refine⟨m,ρ,st,ar,as,(Ok.bind h).mono λp st1 m1 H1 br aS h1 v rv=>?_⟩;obtain⟨l,e,q⟩:=Ok.here h1 aS;cases p with|obj n=>cases e|dw n=>cases e|fn k c=>cases e|lf k=>cases e|d y=>cases y with|int i=>cases e;cases (show v=.int i from rv);exact⟨i,rfl,q⟩|_=>cases e
theorem aj.cut{K:KB}(h:aj K H m Z xs us)lo hi:aj K H m Z (cF xs lo hi) (jU us lo hi):=by
 have r:=h.map;have hl:=h.length;unfold cF jU;rw[hl];have e:∀(n d:Nat) (o:Option Int),Y.cm n d o=HT.cm n d o:=λn d o=>by cases o<;>rfl
 rw[e,e];have q:=(r.drop (HT.cm xs.length 0 lo)).take (HT.cm xs.length xs.length hi - HT.cm xs.length 0 lo);rw[<-U3,<-U2] at q;refine ah.ba q ?_;generalize ((xs.drop (HT.cm xs.length 0 lo)).take (HT.cm xs.length xs.length hi - HT.cm xs.length 0 lo))=ys;induction ys with|nil=>rfl|cons y ys ih=>show((ba (ys.map P.d)).map λxs=>y::xs)=_;rw[ih];rfl
theorem ah.cut{K:KB}(r:ah K H m Z xs us)lo hi:ah K H m Z (cF xs lo hi) (jU us lo hi):=by
 have hl:=r.length;unfold cF jU;rw[hl];have e:∀(n d:Nat) (o:Option Int),Y.cm n d o=HT.cm n d o:=λn d o=>by cases o<;>rfl
 rw[e,e];exact(r.drop (HT.cm xs.length 0 lo)).take (HT.cm xs.length xs.length hi - HT.cm xs.length 0 lo)
theorem Cm{lo hi:Option Expr}(ha:PE X x (tE (ae X kt) Z (aa C a)))(hl:PO X lo (tO (ae X kt) Z (cg C l)))(hh:PO X hi (tO (ae X kt) Z (cg C h))):
  PE X (.Subscript x (.Slice lo hi Θ p2) pos) (tE (ae X kt) Z (aa C (.slice a l h))):=by
 refine PE.imp (qU (BG.or Bv) ha hl hh) ?_;rintro σ H Q ⟨m,ρ,st,ar,as,h0⟩;rw[kK] at h0;refine⟨m,ρ,st,ar,as,(Ok.bind h0).mono λy st1 m1 H1 br aS h1 v rv=>?_⟩;refine⟨m1,ρ,st1,ar.le br,aS,(Ok.bind h1).mono λol aB m2 H2 cS cB h2=>?_⟩;cases hr:cg C h ρ aB with
 |ex x s=>rw[hr] at h2;exact(show False from h2).elim|no=>rw[hr] at h2;exact(show False from h2).elim|ok oh cf=>
  rw[hr] at h2;simp only[l6,ag] at h2;cases hs:fS y ol oh cf with
  |none=>rw[hs] at h2;exact(show False from h2).elim|some q=>
   have hs0:=hs;unfold fS at hs;obtain⟨il,e1,hs⟩:=bT hs;obtain⟨ih,e2,hs⟩:=bT hs;refine⟨il,e1,m2,ρ,aB,(ar.le br).le cS,cB,?_⟩;rw[hr];intro m3 H3 kZ kN;refine⟨ih,e2,?_⟩;rw[hs0] at h2;have rv3:=(rv.le cS).le kZ;have fin:∀xs,b0 cf y=Δ xs->(ba (cF xs il ih)).map (λys=>P.d (.pl ys))=Δ q->(Jd v il ih H3 Q\/IQ X.K v il ih H3 Q):=λxs hx hz=>by obtain⟨ys,hy,rfl⟩:=dE hz;obtain⟨b,us,rfl,hq,rs⟩:=cy kN hx rv3;refine .inr ⟨b,us,rfl,.inl hq,λp hp=>?_⟩;exact Ad kN ((rs.cut il ih).ba hy) hp (Ok.le h2 kZ)
   split at hs;·rename_i xs;cases hs;obtain⟨b,us,rfl,hq,rs⟩:=rv3;refine .inl ⟨b,us,rfl,hq,λr H' sm hr=>?_⟩;have le:Le (ae X kt) m3 H3 m3 H':=Le.same sm;exact h2 m3 H' (kZ.trans le) (kN.same sm) (.ref r) ⟨r,_,rfl,hr,(rs.cut il ih).le le⟩
   ·obtain⟨xs,e3,hs⟩:=bT hs;exact fin xs e3 hs
theorem J9(ha:PE X x (tE (ae X kt) Z (aa C a))):PE X (.Subscript x (.Slice Θ Θ (Δ (.UnaryOp .USub (.Constant (.int 1) k p1) p2)) p3) pos) (tE (ae X kt) Z (aa C (.rev a))):=by
 refine PE.imp (BH ha (Dh yC pB)) ?_;rintro σ H Q ⟨m,ρ,st,ar,as,h0⟩;rw[xC] at h0;refine⟨m,ρ,st,ar,as,(Ok.bind h0).mono λy st1 m1 H1 br aS h1 v rv=>?_⟩;split at h1;·rename_i xs;obtain⟨b,us,rfl,hq,rs⟩:=rv;exact⟨1,rfl,b,us,rfl,rfl,hq,λp hp=>jA (α:=Unit) aS rs.reverse hp h1⟩
 ·exact h1.elim
theorem mM{K:KB}(h:ah K H m Z [p] vs):∃v,vs=[v]/\au K H m Z p v:=by obtain⟨v,nz,rfl,rv,e⟩:=(show ∃v nz,vs=v::nz/\au K H m Z p v/\nz=[] from h);subst e;exact⟨v,rfl,rv⟩
theorem FU{K:KB}(h:ah K H m Z [p,q] vs):∃v u,vs=[v,u]/\au K H m Z p v/\au K H m Z q u:=by obtain⟨v,nz,rfl,rv,h'⟩:=(show ∃v nz,vs=v::nz/\au K H m Z p v/\ah K H m Z [q] nz from h);obtain⟨u,rfl,ru⟩:=mM h';exact⟨v,u,rfl,rv,ru⟩
def Oh(K:PD):Bf->List V->Hp->VK->Prop
 |.any=>λxs H Q=>∃(p:Addr) (bs:List Bool),xs=[.ref p]/\gZ K H p (bs.map V.bl)/\Q (.bl (bs.any id)) H|.len=>λxs H Q=>(∃p n,xs=[.ref p]/\Je H p n/\Q (.int n) H)\/(∃p ys,xs=[.ref p]/\(gZ K H p ys\/de K H p ys)/\Q (.int ys.length) H)\/(∃z,xs=[.str z]/\z.length<=PQ/\Q (.int z.length) H)|.str=>λxs H Q=>∃i,xs=[.int i]/\i.natAbs.log2 < 1920/\Q (.str (toString i)) H|.tuple=>λxs H Q=>∃p ys,xs=[.ref p]/\((gZ K H p ys/\∀l,H l=Θ->Q (.ref l) (upd H l (.tup ys)))\/(de K H p ys/\Q (.ref p) H))
noncomputable def Ka:Bf->Value
 |.len=>.builtin "len"|.any=>.builtin "any"|.str=>.type "str"|.tuple=>.type "tuple"
theorem sf(h:cY X f r)(h':cY X f r'):cY X f (λxs H Q=>r xs H Q\/r' xs H Q):=by
 intro η s σ H xs us Q I rv q;rcases q with q|q;·exact h η s σ H xs us Q I rv q
 ·exact h' η s σ H xs us Q I rv q
theorem Cn(hc:X.calm=Λ):∀f,cY X (Ka f) (Oh X.K f)
 |.len=>sf pQ (sf pM pN)|.any=>w8 hc|.str=>pH|.tuple=>nC
theorem sg{K:KB}:∀{ps} {bs} {us},ah K H m Z ps us->boolsOf ps=Δ bs->us=bs.map V.bl
 |[],bs,us,h,e=>by cases e;exact h|p::ps,bs,us,h,e=>by
  obtain⟨v,vs,rfl,r,rs⟩:=(show ∃v vs,us=v::vs/\au K H m Z p v/\ah K H m Z ps vs from h);unfold boolsOf at e;split at e;·rename_i e0;cases e0
  ·rename_i b r' e0;cases e0;obtain⟨cs,e1,rfl⟩:=dE e;cases (show v=.bl b from r);rw[sg rs e1];rfl
  ·cases e
theorem Kb{K:KB}{st:aW}(as:ay K H m Z st)(rx:ah K H m Z ps vs)(h:Ok K Z (R.of (yk f ps st) st) m H (λp _ m' H'=>∀v,au K H' m' Z p v->Q v H')):Oh K.K f vs H Q:=by
 obtain⟨p,e,q,qq⟩:=Ok.of h as;unfold yk at e;split at e
 ·rename_i p0;obtain⟨v,rfl,rv⟩:=mM rx;split at e
  ·rename_i x;cases (show v=.str x from rv);split at e;·rename_i hc;cases e;exact .inr (.inr ⟨x,rfl,by rw[<-bY];exact hc,q _ rfl⟩)
   ·cases e
  ·split at e
   ·rename_i o ho;cases e;obtain⟨n,a,rfl,hs,hm,rfl,ao,hd⟩:=mK as ho rv;refine .inl ⟨a,JM o,rfl,?_,q _ rfl⟩;cases o with
    |lst xs=>cases hd|ins c fs=>cases hd|qI=>cases hd|dK kvs=>obtain⟨us,hu,rs⟩:=ao;exact .inl ⟨us,.inl hu,rs.length⟩
    |dT kvs=>obtain⟨us,hu,rs⟩:=ao;exact .inr ⟨us,.inl hu,rs.length⟩
   ·obtain⟨xs,e1,rfl⟩:=dE e;obtain⟨a,us,rfl,hq,rs⟩:=fE as e1 rv;refine .inr (.inl ⟨a,us,rfl,Ac hq,?_⟩);rw[rs.length];exact q _ rfl
 ·obtain⟨v,rfl,rv⟩:=mM rx;obtain⟨xs,e1,e⟩:=bT e;obtain⟨bs,e2,rfl⟩:=dE e;obtain⟨a,us,rfl,hq,rs⟩:=cy as e1 rv;have:=sg rs e2;subst this;exact⟨a,bs,rfl,.inl hq,q _ rfl⟩
 ·rename_i i;obtain⟨v,rfl,rv⟩:=mM rx;cases (show v=.int i from rv);split at e;·rename_i hc;cases e;exact⟨i,rfl,hc,q _ rfl⟩
  ·cases e
 ·obtain⟨v,rfl,rv⟩:=mM rx;obtain⟨xs,e1,e⟩:=bT e;obtain⟨ys,e2,rfl⟩:=dE e;obtain⟨a,us,rfl,hq,rs⟩:=fE as e1 rv;have rr:=rs.ba e2;rcases hq with hq|hq;·exact⟨a,us,rfl,.inl ⟨hq,λl hl=>jA (α:=Unit) as rr hl qq⟩⟩
  ·exact⟨a,us,rfl,.inr ⟨de.of hq,q (.ref a) ⟨a,us,rfl,hq,rr⟩⟩⟩
 ·cases e
theorem Oi(T:Good X kt g C)(hg:g.gl (qa f)=Λ)(hs:∀y∈x::xs,notStar y=Λ)(h:PA X (x::xs) (tA (ae X kt) Z (aG C cz))):
  PE X (.Call (.Name (qa f) p) (x::xs) [] pos) (tE (ae X kt) Z (aa C (.bf f cz))):=by
 have red:∀σ H Q,tE (ae X kt) Z (aa C (.bf f cz)) σ H Q->M6 (Oh X.K f) (tA (ae X kt) Z (aG C cz)) σ H Q:=by rintro σ H Q ⟨m,ρ,st,ar,as,h⟩;rw[jr] at h;exact⟨m,ρ,st,ar,as,(Ok.bind h).mono λqs st1 m1 H1 br aS h1 vs fe=>Kb aS fe h1⟩
 have s1:=bu (env:=X.env) (es:=xs) (hs x PC);have s2:(Rp pos (P5 xs X.env)).any (·.1)=Ξ:=eS λz hz=>hs z (Pz _ hz);have hc:=Cn (X:=X) T.calm f;cases f with|len=>exact PE.imp (fj (id:="len") hc (T.glob hg) (T.bl _ (by decide+kernel)) PySem.boot_len h (by decide+kernel) (by decide+kernel) s1 s2) red|any=>exact PE.imp (fj (id:="any") hc (T.glob hg) (T.bl _ (by decide+kernel)) boot_any h (by decide+kernel) (by decide+kernel) s1 s2) red|str=>exact PE.imp (cZ (T:="str") hc (T.glob hg) (T.bl _ (by decide+kernel)) boot_str h (by decide+kernel) (by decide+kernel) s1 s2) red|tuple=>exact PE.imp (cZ (T:="tuple") hc (T.glob hg) (T.bl _ (by decide+kernel)) boot_tuple h (by decide+kernel) (by decide+kernel) s1 s2) red
theorem mO:∀(t) (k),Y.dA t k=L2.dA t k
 |[],_=>rfl|(y,i)::r,k=>by show(if k=y then Δ i else Y.dA r k)=(if k=y then Δ i else L2.dA r k);rw[mO r k]
theorem FV(T:Good X kt g C)(hl:(ap.endLine==cp.line)=Λ)(hg:g.gl d=Λ)(hp:aH d=Λ)(ht:g.tabs.lookup d=Δ t)(ha:PE X x (tE (ae X kt) Z (aa C a)))(hs:notStar x=Λ):
  PE X (.Call (.Attribute (.Name d dp) "get" ap) [x] [] cp) (tE (ae X kt) Z (aa C (.xt t a))):=by
 obtain⟨ad,hm,tb⟩:=T.tb d t ht;have s1:P5 [x] X.env=[(Ξ,eval x X.env)]:=bu hs;refine PE.imp (w6 tb (fJ (v:=.ref ad) (T.glob hg) hm rfl (pn hp).1) ha ⟨rfl,by rw[s1];rfl,hl,by rw[s1];rfl⟩) ?_;rintro σ H Q ⟨m,ρ,st,ar,as,h0⟩;rw[uK] at h0;refine⟨rfl,m,ρ,st,ar,as,(Ok.bind h0).mono λy st1 m1 H1 br aS h1 v rv=>?_⟩;split at h1;·rename_i k;cases (show v=.str k from rv);refine⟨k,rfl,?_⟩;rw[<-mO];cases hk:Y.dA t k with|none=>rw[hk] at h1;exact Ok.here h1 aS .aU rfl|some i=>rw[hk] at h1;exact Ok.here h1 aS (.int i) rfl
 ·exact h1.elim
theorem FW:PE X (.Dict [] [] pos) (tE (ae X kt) Z (aa C (.zN t))):=by
 have red:∀(ho:HO) (ob:O),(∀H m Z a,H a=Δ ho->kX (ae X kt) H m Z a ob)->∀(σ:L2.St) (H:Hp) (Q:VK) m ρ st,b8 (ae X kt) H m Z ρ σ->ay (ae X kt) H m Z st->
   Ok (ae X kt) Z (R.ok (P.obj st.length) (st++[ob])) m H (λp _ m' H'=>∀v,au (ae X kt) H' m' Z p v->Q v H')->∀p,H p=Θ->Q (.ref p) (upd H p ho):=by
  intro ho ob zF σ H Q m ρ st ar as h p hp;have hz:p∉Z:=(as.fresh hp).2;refine h (m++[p]) (upd H p ho) ((Le.same (aZ hp _)).grow hp) ((as.laid hp ho (λφ z=>(zF (upd H p ho) m Z p aF).lj.2.2.2.1 φ (by rw[aF,z]))).my hz (zF _ _ _ _ aF)) (.ref p) ⟨p,?_,rfl⟩;rw[Qk (by rw[as.len];exact PH _),as.len];simp
 cases t with
 |false=>refine PE.imp yW ?_;rintro σ H Q ⟨m,ρ,st,ar,as,h⟩;rw[iQ] at h;exact red (.dK []) (.dK []) (λH m Z a e=>⟨[],e,rfl⟩) σ H Q m ρ st ar as h
 |true=>refine PE.imp yX ?_;rintro σ H Q ⟨m,ρ,st,ar,as,h⟩;rw[iQ] at h;exact red (.dT []) (.dT []) (λH m Z a e=>⟨[],e,rfl⟩) σ H Q m ρ st ar as h
theorem PE.or(h1:PE X e t1)(h2:PE X e t2):PE X e (λσ H Q=>t1 σ H Q\/t2 σ H Q):=λη s σ H Q I h=>h.elim (h1 η s σ H Q I) (h2 η s σ H Q I)
theorem FX(T:Good X kt g C)(hk:vW g k kx=Λ)(hv:r6 x vx=Λ):PE X (.Dict [Δ kx] [vx] pos) (tE (ae X kt) Z (aa C (.zQ k x))):=by
 obtain⟨v,pv,rv⟩:=Ab (X:=X) hv;obtain⟨tk,pk,rk⟩:=B6 (Z:=Z) T hk;refine PE.imp (PE.or (Bz (rj pk pv vM) rfl rfl (by simp) (by simp)) (zA (by have:=T.hu;lia) pk pv)) ?_;rintro σ H Q ⟨m,ρ,st,ar,as,h⟩;rw[uO] at h;rcases rk (st:=st) ar with e|⟨y,u,e,ru,q⟩;·rw[e] at h;exact h.elim
 rw[e,ag] at h;obtain⟨o,eo,h2,cu⟩:=Ok.of (Ok.bind h) as;clear cu;unfold Fm at eo;cases Kc:keyOf y with
 |some kk=>rw[Kc] at eo;cases eo;cases ru.key Kc;refine .inl λp hp=>q _ _ ⟨aF,[(kk,v)],rfl,by simp,?_⟩;rw[vo];have hz:p∉Z:=(as.fresh hp).2;have ho:upd H p (.dK (jX [] [(kk,v)]))=upd H p (.dK [(kk,v)]):=rfl;rw[ho];refine h2 (m++[p]) (upd H p (.dK [(kk,v)])) ((Le.same (aZ hp _)).grow hp) ((as.laid hp (HO.dK [(kk,v)]) (λφ z=>nomatch z)).my hz ⟨[(kk,v)],aF,v,[],rfl,rv _ _ _ _,rfl⟩) (.ref p) ⟨p,?_,rfl⟩;rw[Qk (by rw[as.len];exact PH _),as.len];simp|none=>
  rw[Kc] at eo;obtain⟨kk,xa,rfl⟩:=dE (show(jn y).map (λk=>O.dT [(k,P.d x)])=Δ o from eo);obtain⟨b,rfl,hb⟩:=ru.jn xa;refine .inr λp hp=>q _ _ ⟨aF,kk,b,rfl,?_,?_⟩;·rw[aw (λz=>by rw[z,hp] at hb;cases hb)];exact hb
  rw[vo];have hz:p∉Z:=(as.fresh hp).2;refine h2 (m++[p]) (upd H p (.dT [(kk,v)])) ((Le.same (aZ hp _)).grow hp) ((as.laid hp (HO.dT [(kk,v)]) (λφ z=>nomatch z)).my hz ⟨[(kk,v)],aF,v,[],rfl,rv _ _ _ _,rfl⟩) (.ref p) ⟨p,?_,rfl⟩;rw[Qk (by rw[as.len];exact PH _),as.len];simp
theorem iV(h:isCall o=Ξ):RL o n env w=w:=by
 cases o with
 |Call f xs ks p=>
  cases f with
  |Name x q=>
   cases xs with
   |nil=>cases ks with|nil=>exact absurd (show Λ=Ξ from h) Ql.symm|cons _ _=>rfl
   |cons _ _=>rfl
  |_=>rfl
 |_=>rfl
theorem Am{K:KB}(ao:kX K H m Z a o)(hd:oE o=Λ):LM H a:=by cases o with|lst xs=>cases hd|ins c fs=>cases hd|qI=>cases hd|dK kvs=>obtain⟨us,hu,_⟩:=ao;exact .inl ⟨us,.inl hu⟩|dT kvs=>obtain⟨us,hu,_⟩:=ao;exact .inr ⟨us,.inl hu⟩
noncomputable def WalksU(K:KB)(J:It)(us:List V)(m:List Addr)(H:Hp):Prop:=
 ∀m2 H2,Le K m H m2 H2->∀i:Nat,(i < us.length->J.go i H2/\∀x H3,J.Il i H2 x H3->H3=H2/\us[i]?=Δ x)/\(us.length<=i->J.stop i H2)
def Walks(K:KB)(Z:List Addr)(J:It)(ps:List P)(m:List Addr)(H:Hp):Prop:=
 ∀m2 H2 Z2,Le K m H m2 H2->(∀a∈Z2,a∈Z\/H a=Θ)->∀i:Nat,(∀p,ps[i]?=Δ p->J.go i H2/\∀x H3,J.Il i H2 x H3->du H2 H3/\au K H3 m2 Z2 p x)/\(i=ps.length->J.stop i H2)
inductive tW (K:KB) (Z:List Addr) (d:cE->aW->R (List P)) (σ:L2.St) (H:Hp) (S:It->Hp->Prop):Prop
 |mk (m:List Addr) (r:cE) (st:aW) (a:b8 K H m Z r σ) (b:ay K H m Z st) (c:Ok K Z (d r st) m H (λps _ m' H'=>∀J,Walks K Z J ps m' H'->S J H')):tW K Z d σ H S
mutual
theorem aI.fF{K:KB}{H:Hp}{m Z Z2:List Addr}(hz:∀a∈Z2,a∈Z\/H a=Θ):∀{x:D} {v:V},aI K H m Z x v->aI K H m Z2 x v
 |.aU,_,h=>h|.bl _,_,h=>h|.int _,_,h=>h|.str _,_,h=>h|.tup xs,v,h=>by obtain⟨a,us,e,q,r⟩:=(show ∃a us,v=.ref a/\H a=Δ (.tup us)/\aj K H m Z xs us from h);exact⟨a,us,e,q,aj.fF hz r⟩
 |.pl xs,v,h=>by
  obtain⟨a,us,e,q,hm,hn,r⟩:=(show ∃a us,v=.ref a/\Rd H a (.lst us)/\a∉m/\a∉Z/\aj K H m Z xs us from h);refine⟨a,us,e,q,hm,λz=>?_,aj.fF hz r⟩;rcases hz a z with y|y;·exact hn y
  ·exact z8 q y
theorem aj.fF{K:KB}{H:Hp}{m Z Z2:List Addr}(hz:∀a∈Z2,a∈Z\/H a=Θ):∀{xs:List D} {us:List V},aj K H m Z xs us->aj K H m Z2 xs us
 |[],_,h=>h|x::xs,us,h=>by obtain⟨v,vs,e,r,rs⟩:=(show ∃v vs,us=v::vs/\aI K H m Z x v/\aj K H m Z xs vs from h);exact⟨v,vs,e,aI.fF hz r,aj.fF hz rs⟩
end
mutual
theorem au.fF{K:KB}{H:Hp}{m Z Z2:List Addr}(hz:∀a∈Z2,a∈Z\/H a=Θ):∀{x:P} {v:V},au K H m Z x v->au K H m Z2 x v
 |.d _,_,h=>by rw[au] at h ⊢;exact aI.fF hz h|.obj _,_,h=>by rw[au] at h ⊢;exact h|.dw _,_,h=>by rw[au] at h ⊢;exact h|.fn k dB,v,h=>by rw[au] at h ⊢;obtain⟨a,c,ir,e,q,hc,r⟩:=h;exact⟨a,c,ir,e,q,hc,ah.fF hz r⟩
 |.lf k,v,h=>by rw[au] at h ⊢;exact h
theorem ah.fF{K:KB}{H:Hp}{m Z Z2:List Addr}(hz:∀a∈Z2,a∈Z\/H a=Θ):∀{xs:List P} {us:List V},ah K H m Z xs us->ah K H m Z2 xs us
 |[],_,h=>h|x::xs,us,h=>by rw[ah] at h ⊢;obtain⟨v,vs,e,r,rs⟩:=h;exact⟨v,vs,e,au.fF hz r,ah.fF hz rs⟩
end
theorem WalksU.walks{K:KB}(w:WalksU K J us m H)(r:ah K H m Z ps us):Walks K Z J ps m H:=by intro m2 H2 Z2 le hz i;obtain⟨w1,w2⟩:=w m2 H2 le i;refine⟨λp hp=>?_,λh=>w2 (by rw[r.length];exact UA h.symm)⟩;obtain⟨v,hv,rv⟩:=r.get hp;obtain⟨go,yl⟩:=w1 (qqz hv).1;refine⟨go,λx H3 hy=>?_⟩;obtain⟨rfl,hx⟩:=yl x H3 hy;rw[hv] at hx;cases hx;exact⟨λ_ _ e=>e,(rv.fF hz).le le⟩
theorem PI.imp(h:PI X tg iter t)(i:∀σ H Q,t' σ H Q->t σ H Q):PI X tg iter t':=λη s σ H Q I q=>h η s σ H Q I (i σ H Q q)
theorem Co{K:KB}(h:H a=Δ (.tup us)):WalksU K (MR K.K a) us m H:=λm2 H2 le i=>by have h2:de K.K H2 a us:=de.of (le.tup _ _ h);refine⟨λhi=>⟨⟨us,us[i],h2,by simp[hi]⟩,λx H3 ⟨e,y⟩=>⟨e,y us h2⟩⟩,λhi=>⟨us,h2,hi⟩⟩
theorem Cp{K:KB}(h:Rd H a (.lst us))(hm:a∉m):WalksU K (MQ K.K a) us m H:=λm2 H2 le i=>by have h2:gZ K.K H2 a us:=.inl (le.rd h hm);refine⟨λhi=>⟨⟨us,us[i],h2,by simp[hi]⟩,λx H3 ⟨e,y⟩=>⟨e,y us h2⟩⟩,λhi=>⟨us,h2,hi⟩⟩
theorem v5{K:KB}{lo hi:Int}:WalksU K (D3 lo (hi - lo).toNat) ((Q0 (hi - lo).toNat).map λk=>V.int (lo+(k:Nat))) m H:=λm2 H2 le i=>by
 refine⟨λh=>⟨by show i < (hi - lo).toNat;rw[PX,Ro] at h;exact h,λx H3 ⟨e,y⟩=>⟨e,?_⟩⟩,λh=>by show(hi - lo).toNat<=i;rw[PX,Ro] at h;exact h⟩;have h':i < (hi - lo).toNat:=by rw[PX,Ro] at h;exact h
 rw[Qa,List.getElem?_range h',y];rfl
theorem lG{K:KB}lo:∀l:List Nat,ah K H m Z (l.map λk=>P.d (.int (lo+(k:Nat)))) (l.map λk=>V.int (lo+(k:Nat)))
 |[]=>rfl|k::l=>⟨_,_,rfl,rfl,lG lo l⟩
theorem Kd(ha:PE X x (tE (ae X kt) Z (aa C a))):PI X tg x (tW (ae X kt) Z (b7 C (.ex a))):=by
 intro η s σ H S I h;obtain⟨m,ρ,st,ar,as,h0⟩:=h;rw[zY] at h0;cases hr:aa C a ρ st with
 |ex x s'=>rw[hr] at h0;exact bG (ha η s σ H (λ_ _=>False) I ⟨m,ρ,st,ar,as,by rw[hr];exact h0⟩) λ_ _ ⟨_,_,_,_,z⟩=>z.elim|no=>rw[hr] at h0;exact(show False from h0).elim|ok y st1=>
  rw[hr] at h0;simp only[ag] at h0;unfold j9 at h0;split at h0;·rename_i xs;refine D4 ha η s σ H S I ⟨m,ρ,st,ar,as,?_⟩;rw[hr];intro m1 H1 br aS v rv;obtain⟨b,us,rfl,hq,rs⟩:=rv;exact⟨b,rfl,⟨us,de.of hq⟩,h0 m1 H1 br aS _ ((Co hq).walks rs.map)⟩
  ·rename_i xs;refine vB ha η s σ H S I ⟨m,ρ,st,ar,as,?_⟩;rw[hr];intro m1 H1 br aS v rv;obtain⟨b,us,rfl,hq,hm,_,rs⟩:=rv;exact⟨b,rfl,⟨us,.inl hq⟩,h0 m1 H1 br aS _ ((Cp hq hm).walks rs.map)⟩
  ·exact(show False from h0).elim
theorem FY(T:Good X kt g C)(hg:g.gl "range"=Λ)(aQ:e8 g cz xs=Λ)(h:PA X xs (tA (ae X kt) Z (aG C cz))):PI X tg (.Call (.Name "range" p) xs [] pos) (tW (ae X kt) Z (b7 C (.gd cz))):=by
 intro η s σ H S I h1;obtain⟨m,ρ,st,ar,as,h0⟩:=h1;rw[hJ] at h0;cases hr:aG C cz ρ st with
 |ex x s=>rw[hr] at h0;exact(show False from h0).elim|no=>rw[hr] at h0;exact(show False from h0).elim|ok ps st1=>
  rw[hr] at h0;simp only[l6,ag] at h0;have hl:=dN aQ;have ow:=eI hr;have pF:=cX aQ;unfold jo at h0;split at h0
  ·rename_i j
   match xs,hl,pF,h with
   |[x],_,pF,h=>
    split at h0;·rename_i hc;refine wF (T.glob hg) (T.bl _ (by decide+kernel)) h (bu (pF x PC)) η s σ H S I ⟨m,ρ,st,ar,as,?_⟩;rw[hr];intro m1 H1 br aS vs fe;obtain⟨v,rfl,rv⟩:=mM fe;cases (show v=.int j from rv);have q:=h0 m1 H1 br aS (D3 0 (j - 0).toNat) ((v5 (lo:=0) (hi:=j)).walks (lG 0 _));rw[Int.sub_zero] at q;exact⟨j,rfl,hc.1,hc.2,q⟩
    ·exact(show False from h0).elim
   |[],hl,_,_=>simp at hl;rw[<-hl] at ow;simp at ow|_::_::_,hl,_,_=>rw[<-ow] at hl;simp at hl
  ·rename_i i j
   match xs,hl,pF,h with
   |[x,y],_,pF,h=>
    split at h0;·rename_i hc;have sy:P5 [y] X.env=[(Ξ,eval y X.env)]:=bu (pF y (by simp));refine wG (T.glob hg) (T.bl _ (by decide+kernel)) h (by rw[bu (pF x PC),sy]) sy η s σ H S I ⟨m,ρ,st,ar,as,?_⟩;rw[hr];intro m1 H1 br aS vs fe;obtain⟨v,u,rfl,rv,ru⟩:=FU fe;cases (show v=.int i from rv);cases (show u=.int j from ru);exact⟨i,j,rfl,hc,h0 m1 H1 br aS (D3 i (j - i).toNat) ((v5 (lo:=i) (hi:=j)).walks (lG i _))⟩
    ·exact(show False from h0).elim
   |[],hl,_,_=>rw[<-ow] at hl;simp at hl|[_],hl,_,_=>rw[<-ow] at hl;simp at hl|_::_::_::_,hl,_,_=>rw[<-ow] at hl;simp at hl
  ·exact(show False from h0).elim
theorem si:∀{xs} {k i:Nat} {p:P},(gC k xs)[i]?=Δ p->∃x,xs[i]?=Δ x/\p=.d (.tup [.int (k+i:Nat),x])
 |[],k,i,p,h=>by simp[gC] at h|x::xs,k,i,p,h=>by cases i with|zero=>simp[gC] at h;exact⟨x,rfl,by rw[<-h];simp⟩|succ i=>obtain⟨y,e1,e2⟩:=si (xs:=xs) (k:=k+1) (i:=i) (by simpa[gC] using h);exact⟨y,by simpa using e1,by rw[e2];congr 4;lia⟩
theorem sj:∀{xs} {k},(gC k xs).length=xs.length
 |[],_=>rfl|x::xs,k=>by simp[gC,sj (xs:=xs) (k:=k+1)]
theorem Cq{K:KB}(ha:H a=Δ (.tup us))(r:aj K H m Z xs us):Walks K Z (NJ K.K a) (gC 0 xs) m H:=by intro m2 H2 Z2 le hz i;have Oj:=le.tup _ _ ha;refine⟨λp hp=>?_,λh=>⟨us,de.of Oj,by rw[sj] at h;rw[r.length];exact UA h.symm⟩⟩;obtain⟨x,hx,rfl⟩:=si hp;obtain⟨v,hv,rv⟩:=r.map.get (i:=i) (p:=.d x) (by rw[Qa,hx];rfl);refine⟨⟨us,v,de.of Oj,hv⟩,?_⟩;rintro y H3 ⟨T,v',hT,rfl,rfl,hy⟩;have e:=hy us (de.of Oj);rw[hv] at e;cases e;have sm:du H2 (upd H2 T (.tup [.int (i:Nat),v])):=aZ hT _;refine⟨sm,T,[.int (i:Nat),v],rfl,aF,_,_,rfl,?_,v,[],rfl,((aI.fF hz rv).le le).le (Le.same sm),rfl⟩;show V.int (i:Nat)=V.int ((0+i:Nat):Int);rw[Tq]
theorem Cr(T:Good X kt g C)(hg:g.gl "enumerate"=Λ)(ha:PE X x (tE (ae X kt) Z (aa C a)))(hs:notStar x=Λ):
  PI X (.Tuple elts kk p3) (.Call (.Name "enumerate" p) [x] [] pos) (tW (ae X kt) Z (b7 C (.enum a))):=by
 refine PI.imp (zj (T.glob hg) (T.bl _ (by decide+kernel)) (fc ha jB hs) (bu hs)) ?_;rintro σ H S ⟨m,ρ,st,ar,as,h0⟩;rw[uU] at h0;refine⟨m,ρ,st,ar,as,?_⟩;show Ok (ae X kt) Z (aG C [a] ρ st) m H _;simp only[aY,aP];cases hr:aa C a ρ st with
 |ex x s=>rw[hr] at h0;exact h0|no=>rw[hr] at h0;exact(show False from h0).elim|ok y st1=>
  rw[hr] at h0;simp only[ag] at h0 ⊢;intro m1 H1 br aS vs fe;obtain⟨v,rfl,rv⟩:=mM fe;split at h0;·rename_i xs;obtain⟨b,us,rfl,hq,rs⟩:=rv;exact⟨b,rfl,⟨us,de.of hq⟩,h0 m1 H1 br aS _ (Cq hq rs)⟩
  ·exact(show False from h0).elim
theorem FZ(T:Good X kt g C)(hg:g.gl "range"=Λ)(J7:g.gl "list"=Λ)(aQ:e8 g cz xs=Λ)(h:PA X xs (tA (ae X kt) Z (aG C cz))):
  PE X (.Call (.Name "list" p2) [.Call (.Name "range" p) xs [] pos] [] Jt) (tL (ae X kt) Z (bN C (.gd cz))):=by
 have pF:=cX aQ;have hl:=dN aQ;cases xs with
 |nil=>rintro η s σ H Q I ⟨m,ρ,st,ar,as,h0⟩;cases cz with|nil=>exact(show False from h0).elim|cons a b=>simp at hl
 |cons x xs=>
  have s1:=bu (env:=X.env) (es:=xs) (pF x PC);have s2:(Rp pos (P5 xs X.env)).any (·.1)=Ξ:=eS λz hz=>pF z (Pz _ hz);refine PE.imp (cZ (nD T.calm) (T.glob J7) (T.bl _ (by decide+kernel)) US (cj (cZ rD (T.glob hg) (T.bl _ (by decide+kernel)) boot_range h (by decide+kernel) (by decide+kernel) s1 s2) ez) (by decide+kernel) (by decide+kernel) rfl rfl) ?_;rintro σ H Q ⟨m,ρ,st,ar,as,h0⟩;refine⟨m,ρ,st,ar,as,?_⟩;rw[xF] at h0;cases hr:aG C cz ρ st with
  |ex x s=>rw[hr] at h0;exact h0|no=>rw[hr] at h0;exact(show False from h0).elim|ok ps st1=>
   rw[hr] at h0;simp only[ag] at h0;intro m1 H1 br aS vs fe;have fin:∀lo hi:Int,(-dX<=lo/\lo < dX/\ -dX<=hi/\hi < dX)->LQ (ae X kt) Z (R.bind (R.of (Δ (eE lo hi)) st1) λqs aB=>if qs.length<=aC then R.ok qs aB else R.no) m H Q->∀q,H1 q=Θ->
     ∃p Hv BK,[V.ref q]=[.ref p]/\upd H1 q (.gd lo hi) p=Δ (.gd Hv BK)/\(-(2 ^ 62)<=Hv/\Hv < 2 ^ 62/\ -(2 ^ 62)<=BK/\BK < 2 ^ 62)/\(BK - Hv).toNat<=PQ/\∀l,upd H1 q (.gd lo hi) l=Θ->Q (.ref l) (upd (upd H1 q (.gd lo hi)) l (.lst (uo Hv (BK - Hv).toNat))):=by
    intro lo hi hb hQ q hq;simp only[dW,ag] at hQ;split at hQ
    ·rename_i hc;refine⟨q,lo,hi,rfl,aF,hb,?_,λl hl=>?_⟩;·unfold eE at hc;rw[PX,Ro] at hc;rw[<-bY];exact hc
     ·have cS:Le (ae X kt) m1 H1 m1 (upd H1 q (.gd lo hi)):=Le.same (aZ hq _);exact gN (br.trans cS) (aS.same (aZ hq _)) (lG lo _) hl hQ
    ·exact hQ.elim
   cases hp:jo ps with
   |none=>rw[hp] at h0;exact(show False from h0).elim|some qs=>
    rw[hp] at h0;unfold jo at hp;split at hp
    ·rename_i j;split at hp;·rename_i hc;cases hp;obtain⟨v,rfl,rv⟩:=mM fe;cases (show v=.int j from rv);exact⟨0,j,.inr ⟨rfl,rfl⟩,fin 0 j ⟨by unfold dX;lia,by unfold dX;lia,hc.1,hc.2⟩ h0⟩
     ·cases hp
    ·rename_i i j;split at hp;·rename_i hc;cases hp;obtain⟨v,u,rfl,rv,ru⟩:=FU fe;cases (show v=.int i from rv);cases (show u=.int j from ru);exact⟨i,j,.inl rfl,fin i j hc h0⟩
     ·cases hp
    ·cases hp
theorem ah.of_get{K:KB}:∀{ps} {ts},ts.length=ps.length->(∀(j:Nat) p t,ps[j]?=Δ p->ts[j]?=Δ t->au K H m Z p t)->ah K H m Z ps ts
 |[],ts,hl,_=>by cases ts with|nil=>rfl|cons t ts=>simp at hl
 |p::ps,ts,hl,h=>by cases ts with|nil=>simp at hl|cons t ts=>exact⟨t,ts,rfl,h 0 p t rfl rfl,ah.of_get (by simpa using hl) λj p' t' e e'=>h (j+1) p' t' (by simpa using e) (by simpa using e')⟩
theorem aj.get{K:KB}{j:Nat}(h:aj K H m Z xs us)(e:xs[j]?=Δ x)(e':us[j]?=Δ u):aI K H m Z x u:=by obtain⟨v,ev,rv⟩:=h.map.get (i:=j) (p:=.d x) (by rw[Qa,e];rfl);rw[e'] at ev;cases ev;exact rv
theorem Ga(T:Good X kt g C)(hg:g.gl "zip"=Λ)(J7:g.gl "list"=Λ)(ha:PE X x1 (tE (ae X kt) Z (aa C a)))(h1:notStar x1=Λ)(hb:PE X x2 (tE (ae X kt) Z (aa C b)))(h2:notStar x2=Λ):
  PE X (.Call (.Name "list" p2) [.Call (.Name "zip" p) [x1,x2] [] pos] [] Jt) (tL (ae X kt) Z (bN C (.zip a b))):=by
 refine PE.imp (rJ T.calm (T.glob J7) (T.bl _ (by decide+kernel)) (T.glob hg) (T.bl _ (by decide+kernel)) (fc ha (fc hb jB h2) h1) (bu h1) (eS λz hz=>?_)) ?_
 ·have:z=x2:=by simpa using hz
  rw[this];exact h2
 rintro σ H Q ⟨m,ρ,st,ar,as,h0⟩;refine⟨m,ρ,st,ar,as,?_⟩;rw[xG] at h0;simp only[aY,aP];cases hr:aa C a ρ st with
 |ex x s=>rw[hr] at h0;exact h0|no=>rw[hr] at h0;exact(show False from h0).elim|ok x st1=>
  rw[hr] at h0;simp only[ag] at h0 ⊢;cases Ol:aa C b ρ st1 with
  |ex x s=>rw[Ol] at h0;exact h0|no=>rw[Ol] at h0;exact(show False from h0).elim|ok y aB=>
   rw[Ol] at h0;simp only[ag] at h0 ⊢;intro m1 H1 br aS vs fe;obtain⟨v,u,rfl,rv,ru⟩:=FU fe;unfold BZ at h0;split at h0
   ·rename_i xs ys;obtain⟨va,us,rfl,hva,rx⟩:=rv;obtain⟨vb,ws,rfl,hvb,ry⟩:=ru;refine⟨va,vb,us,ws,rfl,de.of hva,de.of hvb,λl H' ts sm hl jl hp=>?_⟩;simp only[dW,ag] at h0;have cS:Le (ae X kt) m1 H1 m1 H':=Le.same sm;refine h0 m1 H' l ts (br.trans cS) (br.Ak hl) (aS.fresh hl).1 jl (aS.JR hl sm (by rw[gv jl (λ_ z=>nomatch z)];exact λz=>nomatch z)) (ah.of_get ?_ λj p t e e'=>?_);·rw[hp.1,PX,PX,List.length_zip,rx.length,ry.length]
    ·obtain⟨Tt,u,w',rfl,e1,e2,e3⟩:=hp.2 j t e';rw[Qa,Qa] at e;cases hz:(xs.zip ys)[j]? with
     |none=>rw[hz] at e;cases e|some q=>
      rw[hz] at e;have e9:P.d (D.tup [q.1,q.2])=p:=by simpa using e
      subst e9;obtain⟨q1,q2⟩:=List.getElem?_zip_eq_some.mp hz;have r1:=(aI.gF hl (rx.get q1 e2)).le cS;have r2:=(aI.gF hl (ry.get q2 e3)).le cS;exact⟨Tt,[u,w'],rfl,e1,u,[w'],rfl,r1,w',[],rfl,r2,rfl⟩
   ·exact(show False from h0).elim
theorem v7{K:KB}:∀{ps} {ts} {us},ah K H m Z ps us->strsOf ps=Δ ts->us=ts.map V.str
 |[],ts,us,h,e=>by cases e;exact h|p::ps,ts,us,h,e=>by
  obtain⟨v,vs,rfl,r,rs⟩:=(show ∃v vs,us=v::vs/\au K H m Z p v/\ah K H m Z ps vs from h);obtain⟨x,e1,e⟩:=bT e;obtain⟨xs,e2,rfl⟩:=dE e;unfold xu at e1;split at e1;·rename_i y;cases e1;cases (show v=.str _ from r);rw[v7 rs e2];rfl
  ·cases e1
theorem Gb(hl:(ap.endLine==cp.line)=Λ)(hc:isCall o=Ξ)(ho:PE X o (tE (ae X kt) Z (aa C a)))(hx:PE X x (tE (ae X kt) Z (aa C b)))(hs:notStar x=Λ):
  PE X (.Call (.Attribute o "join" ap) [x] [] cp) (tE (ae X kt) Z (aa C (.join a b))):=by
 have s1:P5 [x] X.env=[(Ξ,eval x X.env)]:=bu hs;refine PE.imp (yV PySem.F.plainAttrs_str PySem.F.slot_str_join PySem.F.type_str_join B1 ho (fc hx jB hs) (iV hc) (by rw[s1];rfl) hl s1 rfl) ?_;rintro σ H Q ⟨m,r,st,ar,as,h⟩;rw[mf] at h;refine⟨m,r,st,ar,as,(Ok.bind h).mono λy st1 m1 H1 br aS h1 v rv=>?_⟩;obtain⟨z,e1,h2,cu⟩:=Ok.of (Ok.bind h1) aS;clear cu;unfold xu at e1;split at e1
 ·rename_i z';cases e1;cases (show v=.str _ from rv);refine⟨rfl,m1,r,st1,ar.le br,aS,?_⟩;show Ok (ae X kt) Z (aG C [b] r st1) m1 H1 _;simp only[aY,aP];cases hr:aa C b r st1 with
  |ex x s=>rw[hr] at h2;exact h2|no=>rw[hr] at h2;exact(show False from h2).elim|ok w aB=>
   rw[hr] at h2;simp only[ag] at h2 ⊢;intro m2 H2 cS cB vs fe;obtain⟨u,rfl,ru⟩:=mM fe;obtain⟨p,e2,h3,cu⟩:=Ok.of (Ok.le h2 cS) cB;clear cu;obtain⟨xs,e3,e4⟩:=bT e2;obtain⟨ts,e5,e6⟩:=bT e4;split at e6;·rename_i hk;cases e6;obtain⟨l,us,rfl,hq,rs⟩:=cy cB e3 ru;have:=v7 rs e5;subst this;exact⟨_,l,ts,rfl,rfl,.inl hq,hk,h3 _ rfl⟩
   ·cases e6
 ·cases e1
end
section
variable{K:KB}{H H':Hp}{m Z:List Addr}
mutual
theorem aI.congr(ht:∀a us,H a=Δ (.tup us)->H' a=Δ (.tup us))(hl:∀a us,a∉m->a∉Z->Rd H a (.lst us)->Rd H' a (.lst us)):∀{x:D} {v:V},aI K H m Z x v->aI K H' m Z x v
 |.aU,_,h=>h|.bl _,_,h=>h|.int _,_,h=>h|.str _,_,h=>h|.tup xs,v,h=>by obtain⟨a,us,e,q,r⟩:=(show ∃a us,v=.ref a/\H a=Δ (.tup us)/\aj K H m Z xs us from h);exact⟨a,us,e,ht _ _ q,aj.congr ht hl r⟩
 |.pl xs,v,h=>by obtain⟨a,us,e,q,hm,hz,r⟩:=(show ∃a us,v=.ref a/\Rd H a (.lst us)/\a∉m/\a∉Z/\aj K H m Z xs us from h);exact⟨a,us,e,hl _ _ hm hz q,hm,hz,aj.congr ht hl r⟩
theorem aj.congr(ht:∀a us,H a=Δ (.tup us)->H' a=Δ (.tup us))(hl:∀a us,a∉m->a∉Z->Rd H a (.lst us)->Rd H' a (.lst us)):∀{xs:List D} {us:List V},aj K H m Z xs us->aj K H' m Z xs us
 |[],_,h=>h|x::xs,us,h=>by obtain⟨v,vs,e,r,rs⟩:=(show ∃v vs,us=v::vs/\aI K H m Z x v/\aj K H m Z xs vs from h);exact⟨v,vs,e,aI.congr ht hl r,aj.congr ht hl rs⟩
end
mutual
theorem au.congr(ht:∀a us,H a=Δ (.tup us)->H' a=Δ (.tup us))(hl:∀a us,a∉m->a∉Z->Rd H a (.lst us)->Rd H' a (.lst us))(hf:∀a o u,H a=Δ (.cC o u)->H' a=Δ (.cC o u))(hx:∀a φ,H a=Δ (.ext φ)->H' a=Δ (.ext φ)):∀{x:P} {v:V},au K H m Z x v->au K H' m Z x v
 |.d _,_,h=>by rw[au] at h ⊢;exact aI.congr ht hl h|.obj _,_,h=>by rw[au] at h ⊢;exact h|.dw ns,v,h=>by
  rw[au] at h ⊢;obtain⟨a,e,r⟩:=h;refine⟨a,e,?_⟩;rcases r with ⟨o,r⟩|r
  ·exact .inl ⟨o,hf _ _ _ r⟩
  ·exact .inr r
 |.fn k dB,v,h=>by rw[au] at h ⊢;obtain⟨a,c,ir,e,q,hc,r⟩:=h;exact⟨a,c,ir,e,q,hx _ _ hc,ah.congr ht hl hf hx r⟩|.lf k,v,h=>by rw[au] at h ⊢;obtain⟨a,c,ct,e,q,r⟩:=h;exact⟨a,c,ct,e,hx _ _ q,hx _ _ r⟩
theorem ah.congr(ht:∀a us,H a=Δ (.tup us)->H' a=Δ (.tup us))(hl:∀a us,a∉m->a∉Z->Rd H a (.lst us)->Rd H' a (.lst us))(hf:∀a o u,H a=Δ (.cC o u)->H' a=Δ (.cC o u))(hx:∀a φ,H a=Δ (.ext φ)->H' a=Δ (.ext φ)):∀{xs:List P} {us:List V},ah K H m Z xs us->ah K H' m Z xs us
 |[],_,h=>h|x::xs,us,h=>by rw[ah] at h ⊢;obtain⟨v,vs,e,r,rs⟩:=h;exact⟨v,vs,e,au.congr ht hl hf hx r,ah.congr ht hl hf hx rs⟩
end
theorem lH(ha:H a=Δ (.lst ys)):∀b φ,H b=Δ (.ext φ)->upd H a o b=Δ (.ext φ):=λb φ h=>by
 have hb:b≠a:=λz=>by rw[z,ha] at h;cases h
 rw[aw hb];exact h
theorem qh(ha:H a=Δ (.lst ys)):∀b us,H b=Δ (.tup us)->upd H a o b=Δ (.tup us):=λb us h=>by
 have hb:b≠a:=λz=>by rw[z,ha] at h;cases h
 rw[aw hb];exact h
theorem qi(ha:H a=Δ (.lst ys)):∀b o' u,H b=Δ (.cC o' u)->upd H a o b=Δ (.cC o' u):=λb o' u h=>by
 have hb:b≠a:=λz=>by rw[z,ha] at h;cases h
 rw[aw hb];exact h
theorem An(hb:b≠a)(h:Rd H b (.lst us)):Rd (upd H a o) b (.lst us):=by
 rcases h with h|⟨o',h⟩;·exact .inl (by rw[aw hb];exact h)
 ·exact .inr ⟨o',by rw[aw hb];exact h⟩
theorem ay.Om{st:aW}(A:ay K H m (a::Z) st)(ha:H a=Δ (.lst ys)):ay K (upd H a (.lst zs)) m (a::Z) st:=by
 refine⟨A.len,A.nd,λn o h=>?_,λb hb=>?_,A.zm,λt ht=>?_⟩
 ·obtain⟨c,q,r⟩:=A.at_ n o h;have hc:c≠a:=λz=>A.zm a PC (by rw[<-z];exact RI q);exact⟨c,q,r.mono (λb u hb hu=>by
   rw[aw (λz=>by
    rcases hb with w1|w1;·exact hc (w1▸z)
    ·rw[z,ha] at w1;cases w1)]
   exact hu) λp v z=>z.congr (qh ha) (λb us _ hz h=>An (λz=>hz (by rw[z];exact PC)) h) (qi ha) (lH ha)⟩
 ·exact hW (o:=.lst zs) (λ_ z=>nomatch z) (A.zt b hb)
 ·obtain⟨ps,h1,h2⟩:=A.tab t ht;exact⟨ps,by rw[aw (λz=>by rw[z,ha] at h1;cases h1)];exact h1,gw.same (lH ha) h2⟩
theorem Le.Oo{H1:Hp}{m1:List Addr}{a:Addr}{ys zs:List V}(le:Le K m1 H1 m H)(h1:H1 a=Θ)(ha:H a=Δ (.lst ys)):Le K m1 H1 m (upd H a (.lst zs)) where
 pre:=le.pre
 tup:=λb xs h=>qh ha b xs (le.tup b xs h)
 keep:=λb u h hb hu=>by rw[aw (aN h h1)];exact le.keep b u h hb hu
 ext:=λb φ h=>lH ha b φ (le.ext b φ h)
 yn:=λb h=>hW (o:=.lst zs) (λ_ z=>nomatch z) (le.yn b h)
 iz:=λb ps h=>by obtain⟨more,e⟩:=le.iz b ps h;exact⟨more,by rw[aw (λz=>by rw[z,ha] at e;cases e)];exact e⟩
 new:=le.new
 lj:=λb h=>by
  by_cases Fq:b=a;·rw[Fq,aF];exact λz=>nomatch z
  ·rw[aw Fq];exact le.lj b h
 cC:=λb o u h=>qi ha b o u (le.cC b o u h)
end
section
variable{X:Cx}{g:G}{C:Nat->List P->aW->R P}{Z:List Addr}{e:Expr}{es:List Expr}
theorem AX.imp(h:AX X ifs t)(i:∀σ H Q,t' σ H Q->t σ H Q):AX X ifs t':=λη s σ H Q I q=>h η s σ H Q I (i σ H Q q)
noncomputable def Ke(K:KB)(d:cE->aW->R Bool):TT:=λσ H Q=>∃Z,tT K Z d σ H Q
noncomputable def Oq(K:KB)(d:cE->aW->R P):TE:=λσ H Q=>∃Z,tE K Z d σ H Q
theorem xP:AX X [] (Ke (ae X kt) (cD C Θ)):=by refine AX.imp BC ?_;rintro σ H Q ⟨Z,m,ρ,st,ar,as,h⟩;rw[fU] at h;exact Ok.here h as
theorem xQ(h:∀Z,PT X c (tT (ae X kt) Z (bL (aa C ec)))):AX X [c] (Ke (ae X kt) (cD C (Δ ec))):=by refine BD λη s σ H Q I q=>?_;obtain⟨Z,q⟩:=q;refine h Z η s σ H Q I ?_;obtain⟨m,ρ,st,ar,as,h⟩:=q;rw[mj] at h;exact⟨m,ρ,st,ar,as,h⟩
theorem Ot(h:∀Z,PE X x (tE (ae X kt) Z d)):PE X x (Oq (ae X kt) d):=λη s σ H Q I ⟨Z,q⟩=>h Z η s σ H Q I q
theorem ve{K:KB}(ar:b8 K H m Z r σ)(eN:H acc=Θ)(le:Le K m H m2 H2):b8 K H2 m2 (acc::Z) (cH js r) (js.map λj=>(σ[j]?).join):=by
 refine⟨by unfold cH;simp,λi q h=>?_⟩;unfold cH at h;rw[Qa] at h;cases ej:js[i]? with
 |none=>rw[ej] at h;cases h|some j=>
  rw[ej] at h;have h2:(r[j]?).join=Δ q:=by simpa using h
  have h3:r[j]?=Δ (Δ q):=by cases e:r[j]? with|none=>rw[e] at h2;cases h2|some o=>rw[e] at h2;simp at h2;rw[h2]
  obtain⟨w',e1,r1⟩:=ar.at_ j q h3;refine⟨w',?_,(r1.gF eN).le le⟩;rw[Qa,ej];simp[e1]
theorem b8.cons{K:KB}(ar:b8 K H m Z r σ)(rp:au K H m Z p v):b8 K H m Z (Δ p::r) (Δ v::σ):=by refine⟨by simp[ar.len],λi q h=>?_⟩;cases i with|zero=>simp at h;subst h;exact⟨v,by simp,rp⟩|succ i=>exact ar.at_ i q (by simpa using h)
theorem xR{gB:P->cE}(Gc:∀(p:P) (v:V) (m:List Addr) (H:Hp) (Z:List Addr) (us fr:L2.St) (rb:cE) (Q':L2.St->Hp->Prop),okp p=Λ->au (ae X kt) H m Z p v->b8 (ae X kt) H m Z rb fr->us.length=ts->
   (∀Cs:L2.St,Cs.length=ts->b8 (ae X kt) H m Z (gB p++rb) (Cs++fr)->Q' (Cs++fr) H)->gt v (us++fr) H Q')(h:tL (ae X kt) Z (λr st=>(b7 C w r st).bind λps st1=>if ps.all okp=Λ/\ps.length<=aC then cG (λp=>gB p++cH js r) (cD C c) (λr' bI=>aa C ee r' bI) ps st1 else .no) σ H Q):
  y1 (tW (ae X kt) Z (b7 C w)) gt (Ke (ae X kt) (cD C c)) (Oq (ae X kt) (aa C ee)) ts js σ H Q:=by
 obtain⟨m0,r,jO,ar,as0,h⟩:=h;refine⟨m0,r,jO,ar,as0,?_⟩;cases hw:b7 C w r jO with
 |ex x s=>rw[hw] at h;exact h|no=>rw[hw] at h;exact(show False from h).elim|ok ps st1=>
  rw[hw] at h;simp only[ag] at h;split at h
  ·rename_i hlen;obtain⟨yY,hlen⟩:=hlen;intro m1 H1 br aS J wk acc eN
   let G':P->cE:=λp=>gB p++cH js r
   let K':=ae X kt
   let fr:L2.St:=js.map λj=>(σ[j]?).join
   let CK:Nat->List P->aW->Prop:=λi qs st=>LQ (ae X kt) Z ((cG G' (cD C c) (λr' bI=>aa C ee r' bI) (ps.drop i) st).bind λrest bI=>.ok (qs++rest) bI) m0 H Q
   have ck0:CK 0 [] st1:=by show LQ (ae X kt) Z ((cG G' (cD C c) (λr' bI=>aa C ee r' bI) (ps.drop 0) st1).bind λrest bI=>.ok ([]++rest) bI) m0 H Q;rw[Sd];have h':LQ (ae X kt) Z (cG G' (cD C c) (λr' bI=>aa C ee r' bI) ps st1) m0 H Q:=h;cases hc:cG G' (cD C c) (λr' bI=>aa C ee r' bI) ps st1 with|ok rest bI=>rw[hc] at h';exact h'|ex x s=>rw[hc] at h';exact h'|no=>rw[hc] at h';exact h'
   refine⟨λi k τ H'=>k=ps.length - i/\i<=ps.length/\(∃us:L2.St,us.length=ts/\τ=us++fr)/\∃m st qs ys,Le (ae X kt) m1 H1 m H'/\ay (ae X kt) H' m (acc::Z) st/\H' acc=Δ (.lst ys)/\ah (ae X kt) H' m (acc::Z) qs ys/\qs.length<=i/\CK i qs st,⟨ps.length,by simp,QH _,⟨Qo ts Θ,SY,rfl⟩,?_⟩,?_⟩;·exact⟨m1,st1,[],[],Le.same (aZ eN _),aS.laid eN _,aF,rfl,PH _,ck0⟩
   ·rintro i k τ H' ⟨rfl,hi,⟨us0,lus,rfl⟩,m,st,qs,ys,le,as,L6,rq,hql,ck⟩;obtain⟨w1,w2⟩:=wk m H' (acc::Z) le (λa ha=>(Ub.mp ha).elim (λz=>.inr (by rw[z];exact eN)) .inl) i;by_cases fH:i < ps.length
    ·have Hw:i < ps.length:=fH;obtain⟨go,yl⟩:=w1 ps[i] (PV Hw);refine .inr ⟨go,λx H2 hy=>?_⟩;obtain⟨sm,rx⟩:=yl x H2 hy;have vf:Le (ae X kt) m H' m H2:=Le.same sm;replace le:=le.trans vf;replace as:=as.same sm;replace L6:=sm _ _ L6;replace rq:=rq.le vf;have cu:ps.drop i=ps[i]::ps.drop (i+1):=RF Hw;have yo:LQ (ae X kt) Z ((cG G' (cD C c) (λr' bI=>aa C ee r' bI) (ps[i]::ps.drop (i+1)) st).bind λrest bI=>.ok (qs++rest) bI) m0 H Q:=by rw[<-cu];exact ck
     rw[eF] at yo;refine Gc ps[i] x m H2 (acc::Z) us0 fr (cH js r) _ (Ri.mp yY _ (Uo Hw)) rx (ve (js:=js) (ar.le br) eN le) lus λCs Kg arB=>?_;refine⟨acc::Z,m,G' ps[i],st,arB,as,?_⟩;cases hc:cD C c (G' ps[i]) st with
     |ex x s=>rw[hc] at yo;exact λm5 H5 Ou Ov=>yo m5 H5 (br.trans (le.trans Ou)) (Ov.kY λ_ z=>Pz _ z)|no=>rw[hc] at yo;exact yo.elim|ok b aB=>
      rw[hc] at yo;simp only[ag] at yo;intro m2 H2 cS cB;have DH:H2 acc=Δ (.lst ys):=cS.keep acc _ L6 (as.zm acc PC) (λ_ z=>nomatch z);cases b with
      |false=>refine⟨ps.length - (i+1),Sa _ _ fH,rfl,fH,⟨Cs,Kg,rfl⟩,m2,aB,qs,ys,le.trans cS,cB,DH,rq.le cS,by lia,?_⟩;exact yo|true=>
       refine⟨acc::Z,m2,G' ps[i],aB,arB.le cS,cB,?_⟩;have vg:LQ (ae X kt) Z (((aa C ee (G' ps[i]) aB).bind λy cf=>(cG G' (cD C c) (λr' bI=>aa C ee r' bI) (ps.drop (i+1)) cf).bind λys lA=>R.ok (y::ys) lA).bind λrest bI=>.ok (qs++rest) bI) m0 H Q:=yo;cases he:aa C ee (G' ps[i]) aB with
       |ex x s=>rw[he] at vg;exact λm5 H5 Ou Ov=>vg m5 H5 (br.trans ((le.trans cS).trans Ou)) (Ov.kY λ_ z=>Pz _ z)|no=>rw[he] at vg;exact vg.elim|ok y cf=>
        rw[he] at vg;simp only[ag] at vg;intro m3 H3 kZ kN v rv;have oV:H3 acc=Δ (.lst ys):=kZ.keep acc _ DH (cB.zm acc PC) (λ_ z=>nomatch z);have hyl:ys.length=qs.length:=rq.length;have rq3:ah (ae X kt) (upd H3 acc (.lst (ys++[v]))) m3 (acc::Z) (qs++[y]) (ys++[v]):=by have q1:ah (ae X kt) H3 m3 (acc::Z) (qs++[y]) (ys++[v]):=((rq.le cS).le kZ).append ⟨v,[],rfl,rv,rfl⟩;exact q1.congr (qh oV) (λb us _ hz h=>An (λz=>hz (by rw[z];exact PC)) h) (qi oV) (lH oV)
        refine⟨ys,oV,by rw[<-bY];lia,ps.length - (i+1),Sa _ _ fH,rfl,fH,⟨Cs,Kg,rfl⟩,m3,cf,qs++[y],ys++[v],?_,kN.Om oV,aF,rq3,by rw[Qh];simp;lia,?_⟩;·exact Le.Oo ((le.trans cS).trans kZ) eN oV
        ·show LQ (ae X kt) Z ((cG G' (cD C c) (λr' bI=>aa C ee r' bI) (ps.drop (i+1)) cf).bind λrest bI=>.ok ((qs++[y])++rest) bI) m0 H Q;cases hr:cG G' (cD C c) (λr' bI=>aa C ee r' bI) (ps.drop (i+1)) cf with|ex x s=>rw[hr] at vg;exact vg|no=>rw[hr] at vg;exact vg|ok rest lA=>rw[hr] at vg;show LQ (ae X kt) Z (R.ok ((qs++[y])++rest) lA) m0 H Q;rw[QQ];exact vg
    ·have e:i=ps.length:=by lia
     subst e;refine .inl ⟨w2 rfl,?_⟩;have yo:LQ (ae X kt) Z ((cG G' (cD C c) (λr' bI=>aa C ee r' bI) (ps.drop ps.length) st).bind λrest bI=>.ok (qs++rest) bI) m0 H Q:=ck;rw[Sl,xK] at yo;have vg:LQ (ae X kt) Z (R.ok (qs++[]) st) m0 H Q:=yo;rw[QK] at vg;exact vg m H' acc ys (br.trans le) (br.Ak eN) (as.zm acc PC) L6 as rq
  ·exact(show False from h).elim
theorem Ao(h:tL (ae X kt) Z (bN C (.comp w 1 js c ee)) σ H Q):
  y1 (tW (ae X kt) Z (b7 C w)) (n9 0) (Ke (ae X kt) (cD C c)) (Oq (ae X kt) (aa C ee)) 1 js σ H Q:=by
 refine xR (okp:=λ_=>Λ) (gB:=λp=>[Δ p]) (λp v m H Z us fr rb Q' _ rp ar lu q=>?_) ?_
 ·match us,lu with|[u],_=>exact q [Δ v] rfl (ar.cons rp)
 ·have e:bN C (.comp w 1 js c ee)=λr st=>(b7 C w r st).bind λps st1=>if(ps.all λ_=>Λ)=Λ/\ps.length<=aC then cG (λp=>[Δ p]++cH js r) (cD C c) (λr' bI=>aa C ee r' bI) ps st1 else .no:=by funext r st;rw[iR];simp
  rw[<-e];exact h
theorem qj{K:KB}{st:aW}(as:ay K H m Z st)(ha:m[n]?=Δ a)(h:zW n st i=Δ o):∃us,H a=Δ (.lst us)/\(o=Θ->us.length<=i)/\∀p,o=Δ p->∃v,us[i]?=Δ v/\au K H m Z p v:=by
 unfold zW at h;split at h;·rename_i xs hs;cases h;obtain⟨a',e,us,hu,rs⟩:=as.at_ n _ hs;rw[ha] at e;cases e;refine⟨us,hu,λz=>?_,λp z=>rs.get z⟩;rw[rs.length];exact List.getElem?_eq_none_iff.mp z
 ·cases h
theorem dR{env:PySem.Env}:∀{names:List (Str×Sb)} {x},names.lookup x=Δ .globalImplicit->
  (names.map λ(n,k)=>if(k==P6&&env.scope.kind==.function&&env.kindOf n==Δ .cell) then(n,QS) else(n,k)).lookup x=Δ .globalImplicit
 |[],_,h=>by simp at h|(n,k)::r,x,h=>by
  have ih:=@dR env r x;show Q9 x ((if(k==P6&&env.scope.kind==.function&&env.kindOf n==Δ .cell)=Λ then(n,QS) else(n,k))::_)=_;cases hx:x==n with
  |true=>simp only[P7,hx] at h;cases h;rw[if_neg (by simp)];simp[P7,hx]|false=>
   simp only[P7,hx] at h;by_cases hc:(k==P6&&env.scope.kind==.function&&env.kindOf n==Δ .cell)=Λ;·rw[if_pos hc];simp only[P7,hx];exact ih h
   ·rw[if_neg hc];simp only[P7,hx];exact ih h
theorem Good.Gd(T:Good X kt g C){N:List Str}(h:Fx g ts N js sc=Λ):fO X N ts js sc:=by unfold Fx at h;simp only[Pw,qqq,Ri,Th] at h;obtain⟨⟨⟨h1,h2⟩,h3⟩,h4⟩:=h;refine⟨h1,h2,λx hx=>(h3 x hx).1.1,λx hx hl=>(h3 x hx).1.2.resolve_left λz=>z hl,λx hx hf=>T.DE _ ((h3 x hx).2.resolve_left λz=>z hf),λi y j e1 e2=>?_⟩;have hi:i∈Q0 js.length:=List.mem_range.mpr (qqz e2).1;have q:=h4 i hi;rw[e1,e2] at q;rw[T.N];simpa using q
theorem mI.inner(h:mI X kt c x n):mI (j6 kt.cx (λ_ _ H'=>kt.xq H') X η N sc fp Cc s H) kt c x n:=⟨h.ex⟩
theorem Good.inner(T:Good X kt g C){η:List (Addr×Obj)}{N:List Str}{js:List Nat}{sc:Scope}{fp:List Addr}{Cc:Addr}{s:PJ}{H:Hp}(Ow:∀x∈sc.names,x.2≠.cell):Good (j6 kt.cx (λ_ _ H'=>kt.xq H') X η N sc fp Cc s H) kt (g.inner N sc) C where
 N:=rfl
 loc:=λx h=>lookup_relabel_local h
 DE:=λx h=>by
  rcases h with h|h;·exact absurd rfl (Ow _ (Q7 h))
  ·exact fN h
 gl:=λx h=>dR h
 calm:=T.calm
 hu:=T.hu
 bl:=T.bl
 fn:=λk x n h=>(T.fn k x n h).inner
 cs:=T.cs
 tb:=T.tb
 fld:=T.fld
 Fz:=T.Fz
 FA:=T.FA
 px:=λ_ dc τ H1 s1 e s' I h=>⟨dc,τ,H1,s1,I.lN,h⟩
 pb:=λz=>absurd (show Λ=Ξ from z) (by decide)
end
section
variable{X:Cx}{kt:KT}{g:G}{C:Nat->List P->aW->R P}{Z:List Addr}
theorem sk(hs:∀z∈xs,notStar z=Λ):(Rp pos (P5 xs env)).all (λx=>!x.1)=Λ:=by have h:=eS (env:=env) (pos:=pos) hs;rw[List.any_eq_false] at h;rw[Ri];intro x hx;have:=h x hx;revert this;cases x.1<;>simp
theorem oW(hs:∀z∈xs,notStar z=Λ)(hn:xs.length < 30)(iB:(apos.endLine==pos.line)=Λ):
  eval (.Call (.Attribute (.Name x p) mm apos) xs [] pos) env=(do
   let ov<-eval (.Name x p) env
   Uu apos.atName
   let (f,first)<-Uv [ov] (Uk ov mm (do return (<-importBound (.Name x p) env).getD Λ))
   Vc pos f first (Rp pos (P5 xs env)) (Ta pos (RY [] env))):=by
 rw[arm_eval_Call];have Kh:methodCallForm (xs.length+([]:List T4).length) (Rp pos (P5 xs env)) (Ta pos (RY [] env))=Λ:=by unfold methodCallForm;rw[sk hs];have:xs.length+0+0 < 30:=hn;simp[hn];exact⟨λa b h=>(by cases h),hn⟩
 have Ge:methodCallPos Λ (.Name x p) env apos pos=pure pos:=by unfold methodCallPos;simp[iB]
 unfold methodCall;rw[Kh,Ge];rfl
theorem Gf(T:Good X kt g C)(xO:g.nx=Ξ)(hm:g.A6 k c mm cz.length=Λ)(h1:g.N[i]?=Δ x)(h2:g.tD x=Λ)(h3:aH x=Λ)(hn:xs.length < 30)(iB:(apos.endLine==pos.line)=Λ)(hs:∀z∈xs,notStar z=Λ)(hl:xs.length=cz.length)(h:PA X xs (tA (ae X kt) Z (aG C cz))):
  PE X (.Call (.Attribute (.Name x p) mm apos) xs [] pos) (tE (ae X kt) Z (aa C (.eO k c mm i cz))):=by
 obtain⟨A,l,fa,fd,ps,k1,kc,km,F,hr,hb⟩:=T.Fz k c mm cz.length hm;have red:∀σ H Q,tE (ae X kt) Z (aa C (.eO k c mm i cz)) σ H Q->vG A mm (qJ (ae X kt) (C k) (cz.length+1)) [] (λ_ _ H'=>kt.xq H') (tE (ae X kt) Z (aa C (.var i))) (tA (ae X kt) Z (aG C cz)) σ H Q:=by
  rintro σ H Q ⟨m,ρ,st,ar,as,h⟩;rw[uM] at h;refine⟨m,ρ,st,ar,as,?_⟩;rw[fz];refine(Ok.bind h).mono λq st1 m1 H1 br aS h1 v rv=>?_;obtain⟨u,e,h2,_⟩:=Ok.of (Ok.bind h1) aS;obtain⟨⟨n,fs⟩,e1,e2⟩:=bT e;obtain⟨a,A',dx,us,rfl,hm',rfl,hs,g1,g2,g3,g4⟩:=qg aS rv e1;rw[show PN X.K PL c=Δ (Δ (.ref A')) from g1] at k1;cases k1;have e3:fs.lookup mm=Θ:=by
   by_cases hh:(fs.lookup mm).isNone=Λ;·exact Rb.mp hh
   ·rw[if_neg hh] at e2;cases e2
  refine⟨a,dx,us,rfl,g2,(aM.look (f:=mm) g4).2 e3,m1,ρ,st1,ar.le br,aS,(Ok.bind h2).vT λqs aB m2 H2 hq cS cB h3 vs fe=>?_⟩;show qJ (ae X kt) (C k) (cz.length+1) (.ref a::(vs++[])) H2 Q (λ_ _ H'=>kt.xq H');rw[QK];exact⟨λ_ z _ _=>z,m2,Z,.obj n::qs,aB,by rw[PU,fe.length,eI hq],⟨.ref a,vs,rfl,rv.le cS,fe⟩,cB,h3⟩
 cases xs with
 |nil=>
  have e:cz=[]:=by cases cz with|nil=>rfl|cons a b=>simp at hl
  subst e;refine PE.imp (yO (oS (Z:=Z) (kt:=kt) T h1 h2 h3) kc km F hr hb .nil (T.px xO) (oW hs hn iB)) λσ H Q h=>?_;have r:=red σ H Q h;unfold vG at r ⊢;obtain⟨m,ρ,st,ar,as,h1⟩:=r;refine⟨m,ρ,st,ar,as,h1.mono λq st1 m1 H1 br aS hh v rv=>?_⟩;obtain⟨a,dx,us,e1,e2,e3,m2,ρ2,aB,A8,cB,h4⟩:=hh v rv;rw[aP] at h4;exact⟨a,dx,us,e1,e2,e3,Ok.here h4 cB [] rfl⟩
 |cons y ys=>exact PE.imp (Bm (oS (Z:=Z) (kt:=kt) T h1 h2 h3) kc km F hr hb .nil (T.px xO) h (bu (hs y PC)) (eS λz hz=>hs z (Pz _ hz)) (oW hs hn iB)) red
theorem Gg(T:Good X kt g C)(xO:g.nx=Ξ)(hm:g.A7 k c cz.length=Λ)(hg:g.gl c=Λ)(h3:aH c=Λ)(hs:∀z∈y::ys,notStar z=Λ)(h:PA X (y::ys) (tA (ae X kt) Z (aG C cz))):
  PE X (.Call (.Name c p) (y::ys) [] pos) (tE (ae X kt) Z (aa C (.make k c cz))):=by
 obtain⟨A,l,fa,fd,ps,k1,k2,M,F,hr,hb⟩:=T.FA k c cz.length hm;refine PE.imp (Bo M F hr (T.glob hg) k1 hb .nil (T.px xO) h (pn h3).1 (bu (hs y PC)) (eS λz hz=>hs z (Pz _ hz))) ?_;rintro σ H Q ⟨m,ρ,st,ar,as,h⟩;rw[mh] at h;refine⟨m,ρ,st,ar,as,(Ok.bind h).vT λqs st1 m1 H1 hq br aS h1 vs fe=>?_⟩;intro x dx hx hdx iZ;rw[QK];have sm:du H1 (upd H1 dx (.own x)):=aZ hdx _;have cB:=aS.same sm;have L7:upd H1 dx (.own x) x=Θ:=by rw[aw (QP iZ)];exact hx
 have cS:Le (ae X kt) m1 H1 (m1++[x]) (upd (upd H1 dx (.own x)) x (.ins A dx [])):=(Le.same sm).trans ((Le.same (aZ L7 _)).grow L7);have kN:ay (ae X kt) (upd (upd H1 dx (.own x)) x (.ins A dx [])) (m1++[x]) Z (st1++[.ins c []]):=(cB.laid L7 (.ins A dx [])).my (cB.fresh L7).2 ⟨A,dx,[],k2,aF,by rw[aw iZ];exact aF,rfl⟩;have hi:(m1++[x])[st1.length]?=Δ x:=by rw[Qk (by rw[aS.len];exact PH _),aS.len];simp
 refine⟨λ_ z _ _=>z,m1++[x],Z,.obj st1.length::qs,st1++[.ins c []],by rw[PU,fe.length,eI hq],⟨.ref x,vs,rfl,⟨x,hi,rfl⟩,fe.le cS⟩,kN,?_⟩;refine(Ok.bind (Ok.le h1 cS)).mono λq lA m4 H4 ny nQ h4 v rv=>?_;cases q with
 |d d=>cases d with|aU=>refine⟨rv,Ok.here h4 nQ (.ref x) ⟨x,?_,rfl⟩⟩;obtain⟨t,rfl⟩:=ny.pre;rw[P8 (by simp[aS.len])];exact hi|_=>exact(show False from h4).elim
 |_=>exact(show False from h4).elim
theorem ah.dropLast{K:KB}:∀{ps} {us},ah K H m Z ps us->ah K H m Z ps.dropLast us.dropLast
 |[],us,h=>by cases (show us=[] from h);exact h|[p],us,h=>by obtain⟨v,vs,rfl,r,rs⟩:=(show ∃v vs,us=v::vs/\au K H m Z p v/\ah K H m Z [] vs from h);cases (show vs=[] from rs);exact rfl|p::q::ps,us,h=>by obtain⟨v,vs,rfl,r,rs⟩:=(show ∃v vs,us=v::vs/\au K H m Z p v/\ah K H m Z (q::ps) vs from h);obtain⟨v2,vs2,rfl,r2,rs2⟩:=(show ∃v nz,vs=v::nz/\au K H m Z q v/\ah K H m Z ps nz from rs);have:=ah.dropLast rs;rw[List.dropLast_cons₂,List.dropLast_cons₂];exact⟨v,_,rfl,r,this⟩
theorem ah.at_{K:KB}:∀{ps} {us} {i:Nat},ah K H m Z ps us->ps[i]?=Δ p->∃v,us[i]?=Δ v/\au K H m Z p v
 |[],us,i,h,e=>by simp at e|q::ps,us,i,h,e=>by obtain⟨v,vs,rfl,r,rs⟩:=(show ∃v vs,us=v::vs/\au K H m Z q v/\ah K H m Z ps vs from h);cases i with|zero=>rw[List.getElem?_cons_zero] at e;cases e;exact⟨v,rfl,r⟩|succ i=>rw[List.getElem?_cons_succ] at e ⊢;exact ah.at_ rs e
theorem aM.drop{κ:Type}[DecidableEq κ]{K:KB}{k:κ}:∀{kvs} {us},aM K H m Z kvs us->aM K H m Z (vR kvs k) (jc us k)
 |[],us,h=>by cases (show us=[] from h);exact rfl|(q,p)::kvs,us,h=>by
  obtain⟨v,vs,rfl,r,rs⟩:=(show ∃v vs,us=(q,v)::vs/\au K H m Z p v/\aM K H m Z kvs vs from h);have ih:=aM.drop (k:=k) rs;unfold vR jc at ih ⊢;by_cases hq:q=k;·rw[RX (by simp[hq]),RX (by simp[hq])];exact ih
  ·rw[RW (by simp[hq]),RW (by simp[hq])];exact⟨v,_,rfl,r,ih⟩
theorem Gh(hl:(ap.endLine==cp.line)=Λ)(hc:isCall o=Ξ)(ho:PE X o (tE (ae X kt) Z (aa C a))):
  PE X (.Call (.Attribute o "pop" ap) [] [] cp) (tE (ae X kt) Z (aa C (.zP a))):=by
 refine PE.imp (Es PySem.F.plainAttrs_list PySem.F.slot_list_pop PySem.F.type_list_pop Eu ho (iV hc) hl) ?_;rintro σ H Q ⟨m,r,st,ar,as,h⟩;rw[uP] at h;refine⟨m,r,st,ar,as,(Ok.bind h).mono λx st1 m1 H1 br aS h1 v rv=>?_⟩;obtain⟨⟨p,aB⟩,e1,h2,cu⟩:=Ok.of (Ok.bind h1) aS;clear cu;unfold Fk at e1;split at e1
 ·rename_i n;split at e1;·rename_i xs Ki;obtain⟨w',hw,e⟩:=dE e1;cases e;obtain⟨b,hb,eb⟩:=(show ∃b,m1[n]?=Δ b/\v=.ref b from rv);cases eb;obtain⟨b',fh,zs,hz,rz⟩:=aS.at_ n _ Ki;rw[hb] at fh;cases fh;obtain⟨u,hu,ru⟩:=rz.at_ hw;obtain⟨kZ,kN⟩:=aS.write (ho:=.lst zs.dropLast) (o':=.lst xs.dropLast) Ki hb λH' e _ f=>⟨_,e,(rz.mono f).dropLast⟩;refine⟨.inl ⟨rfl,zs,.inl (.inl hz)⟩,b,zs,u,rfl,rfl,hz,by rw[rz.length];exact hu,?_⟩;exact h2 m1 _ kZ kN u (ru.le kZ)
  ·cases e1
 ·cases e1
theorem Gi(hl:(ap.endLine==cp.line)=Λ)(hc:isCall o=Ξ)(ho:PE X o (tE (ae X kt) Z (aa C a)))(hx:PE X x (tE (ae X kt) Z (aa C b)))(hs:notStar x=Λ):
  PE X (.Call (.Attribute o "pop" ap) [x] [] cp) (tE (ae X kt) Z (aa C (.zO a b))):=by
 have s1:P5 [x] X.env=[(Ξ,eval x X.env)]:=bu hs;refine PE.imp (yZ ho hx ⟨iV hc,by rw[s1];rfl,hl,by rw[s1];rfl⟩) ?_;rintro σ H Q ⟨m,ρ,st,ar,as,h0⟩;rw[uN] at h0;refine⟨m,ρ,st,ar,as,(Ok.bind h0).mono λy st1 m1 H1 br aS h1 v rv=>?_⟩;obtain⟨o',e,h2,_⟩:=Ok.of (Ok.bind h1) aS;obtain⟨n,c,rfl,pF,hm,rfl,ao,hd⟩:=mK aS e rv;refine⟨c,rfl,Am ao hd,m1,ρ,st1,ar.le br,aS,(Ok.bind h2).mono λk aB m2 H2 cS cB h3 u ru=>?_⟩;obtain⟨⟨p,cf⟩,e2,h4,cu⟩:=Ok.of (Ok.bind h3) cB;clear cu;unfold Fj at e2;dsimp only at e2;split at e2;·rename_i kvs A2;obtain⟨kk,xa,e3⟩:=bT e2;obtain⟨w',hw,e4⟩:=dE e3;cases e4;obtain⟨b,hb,eb⟩:=(show ∃b,m2[n]?=Δ b/\V.ref c=.ref b from rv.le cS);cases eb;obtain⟨b',fh,us,hu,rs⟩:=cB.at_ n _ A2;rw[hb] at fh;cases fh;obtain⟨v2,L8,Ox⟩:=(rs.val (k:=kk)).2 _ hw;obtain⟨kZ,kN⟩:=cB.write (ho:=.dK (jc us kk)) (o':=.dK (vR kvs kk)) A2 hb λH' e _ f=>⟨_,e,(rs.mono f).drop⟩;refine⟨us,kk,v2,hu,ru.key xa,L8,?_⟩;exact h4 m2 _ kZ kN v2 (Ox.le kZ)
 ·cases e2
theorem Ct(hl:(ap.endLine==cp.line)=Λ)(hc:isCall o=Ξ)(ho:PE X o (tE (ae X kt) Z (aa C a)))(hx:PE X x (tE (ae X kt) Z (aa C b)))(hs:notStar x=Λ)(hy:PE X y (tE (ae X kt) Z (aa C c)))(wH:notStar y=Λ):
  PE X (.Call (.Attribute o "setdefault" ap) [x,y] [] cp) (tE (ae X kt) Z (aa C (.rO a b c))):=by
 have s1:P5 [x,y] X.env=[(Ξ,eval x X.env),(Ξ,eval y X.env)]:=(bu hs).trans (by rw[bu wH];rfl);refine PE.imp (zu ho hx hy ⟨iV hc,by rw[s1];rfl,hl,by rw[s1];rfl⟩) ?_;rintro σ H Q ⟨m,ρ,st,ar,as,h0⟩;rw[rR] at h0;refine⟨m,ρ,st,ar,as,(Ok.bind h0).mono λy st1 m1 H1 br aS h1 v rv=>?_⟩;obtain⟨o',e,h2,_⟩:=Ok.of (Ok.bind h1) aS;obtain⟨n,c,rfl,pF,hm,rfl,ao,hd⟩:=mK aS e rv;refine⟨c,rfl,Am ao hd,m1,ρ,st1,ar.le br,aS,(Ok.bind h2).mono λk aB m2 H2 cS cB h3 u ru=>?_⟩;refine⟨m2,ρ,aB,(ar.le br).le cS,cB,(Ok.bind h3).mono λz cf m3 H3 kZ kN h4 w' ik=>?_⟩;obtain⟨⟨p,lA⟩,e2,h5,cu⟩:=Ok.of (Ok.bind h4) kN;clear cu;unfold zV at e2;dsimp only at e2;split at e2
 ·rename_i kvs A2;split at e2
  ·rename_i fH;obtain⟨kk,xa,e3⟩:=dE e2;obtain⟨b,hb,eb⟩:=(show ∃b,m3[n]?=Δ b/\V.ref c=.ref b from(rv.le cS).le kZ);cases eb;obtain⟨b',fh,us,hu,rs⟩:=kN.at_ n _ A2;rw[hb] at fh;cases fh;have rr:=rs.val (k:=kk);refine⟨us,kk,hu,(ru.le kZ).key xa,by rw[rs.length,<-bY];exact fH,λv2 L8=>?_,λhn=>?_⟩;·cases hv:iL kvs kk with|none=>rw[hv,L8] at rr;cases rr.1|some w2=>rw[hv] at e3;cases e3;obtain⟨v3,e4,r3⟩:=rr.2 _ hv;rw[L8] at e4;cases e4;exact Ok.here h5 kN v2 r3
   ·cases hv:iL kvs kk with|some w2=>rw[hv,hn] at rr;cases rr.1|none=>rw[hv] at e3;cases e3;obtain⟨ny,nQ⟩:=kN.write (ho:=.dK (putK us kk w')) (o':=.dK (nO kvs kk z)) A2 hb λH' e _ f=>⟨_,e,(rs.mono f).put (f _ _ ik)⟩;exact h5 m3 _ ny nQ w' (ik.le ny)
  ·cases e2
 ·cases e2
end
section
variable{X:Cx}{kt:KT}{g:G}{C:Nat->List P->aW->R P}{Z:List Addr}
theorem Ap{lo hi:Option Expr}(ha:PE X x (tE (ae X kt) Z (aa C a)))(hl:PO X lo (tO (ae X kt) Z (cg C l)))(hh:PO X hi (tO (ae X kt) Z (cg C h))):
  PE X (.Subscript x (.Slice lo hi Θ p2) pos) (tE (ae X kt) Z (aa C (.eY a l h))):=by
 refine PE.imp (qU E6 ha hl hh) ?_;rintro σ H Q ⟨m,ρ,st,ar,as,h0⟩;rw[jt] at h0;refine⟨m,ρ,st,ar,as,(Ok.bind h0).mono λy st1 m1 H1 br aS h1 v rv=>?_⟩;refine⟨m1,ρ,st1,ar.le br,aS,(Ok.bind h1).mono λol aB m2 H2 cS cB h2=>?_⟩;cases hr:cg C h ρ aB with
 |ex x s=>rw[hr] at h2;exact(show False from h2).elim|no=>rw[hr] at h2;exact(show False from h2).elim|ok oh cf=>
  rw[hr] at h2;simp only[l6,ag] at h2;cases hs:g8 y ol oh with
  |none=>rw[hs] at h2;exact(show False from h2).elim|some q=>
   rw[hs] at h2;unfold g8 at hs;obtain⟨il,e1,hs⟩:=bT hs;obtain⟨ih,e2,hs⟩:=bT hs;refine⟨il,e1,m2,ρ,aB,(ar.le br).le cS,cB,?_⟩;rw[hr];intro m3 H3 kZ kN;refine⟨ih,e2,?_⟩;cases y with
   |d y=>
    cases y with
    |str z=>
     dsimp only at hs;split at hs;·rename_i hz;cases hs;cases (show v=.str z from rv);exact⟨z,rfl,by rw[<-bY];exact hz,h2 m3 H3 kZ kN _ rfl⟩
     ·cases hs
    |_=>cases hs
   |_=>cases hs
theorem Cu(ha:PE X a (tE (ae X kt) Z (aa C ea)))(hb:PE X b (tE (ae X kt) Z (aa C eb)))(hs:fV b=Ξ):PE X (.Subscript a b pos) (tE (ae X kt) Z (aa C (.tchar ea eb))):=by
 refine PE.imp (vK Eo ha hb (mL hs)) λσ H Q h=>?_;obtain⟨m,ρ,st,ar,as,h0⟩:=h;rw[kI] at h0;refine⟨m,ρ,st,ar,as,(Ok.bind h0).mono λy st1 m1 H1 br aS h1 v rv=>?_⟩;refine⟨m1,ρ,st1,ar.le br,aS,(Ok.bind h1).mono λw aB m2 H2 cS cB h2 u ru=>?_⟩;obtain⟨p,e,q,_⟩:=Ok.of h2 cB;unfold j7 at e;split at e
 ·rename_i z i;split at e;·rename_i hz;obtain⟨c,e1,rfl⟩:=dE e;cases (show v=.str z from rv);cases (show u=.int i from ru);exact⟨z,i,c,rfl,rfl,by rw[<-bY];exact hz,e1,q _ rfl⟩
  ·cases e
 ·cases e
theorem Gj(ha:PE X a (tE (ae X kt) Z (aa C ea)))(hb:PE X b (tE (ae X kt) Z (aa C eb))):PE X (.BinOp a .Mult b pos) (tE (ae X kt) Z (aa C (.pU ea eb))):=by
 refine PE.imp (Dg BV ha hb) λσ H Q h=>r9 (f:=Rl .Mult) (λx y v u m H st Q as rx ry h=>?_) h;obtain⟨p,e,q,_⟩:=Ok.of h as;unfold rP at e;split at e
 ·rename_i z i;split at e
  ·rename_i hz;cases e;cases (show v=.str z from rx);cases (show u=.int i from ry);refine⟨z,i,rfl,rfl,⟨?_,λ_ _=>?_,λ_ _=>?_⟩,q _ rfl⟩;·rw[decide_eq_false (by lia),decide_eq_false (by lia)];rfl
   ·obtain⟨h1,h2,h3⟩:=hz;have h5:(9223372036854775807:Int) / 1000<=9223372036854775807 / i:=by
     rcases Int.lt_or_le 0 i with z|z;·exact Int.le_ediv_of_mul_le z (by have:=Int.mul_le_mul_of_nonneg_left h2 (show(0:Int)<=9223372036854775807 / 1000 by decide);lia)
     ·exfalso;lia
    have h6:(1000:Int)<=9223372036854775807 / 1000:=by decide
    lia
   ·obtain⟨h1,h2,h3⟩:=hz;unfold R1.Str.tooLong;have:z.length*i.toNat<=1000*1000:=Nat.mul_le_mul h3 (by lia);exact decide_eq_false (by rw[QG];lia)
  ·cases e
 ·cases e
theorem Cv(T:Good X kt g C)(hg:g.gl "int"=Λ)(ha:PE X x (tE (ae X kt) Z (aa C a)))(hs:notStar x=Λ):PE X (.Call (.Name "int" p) [x] [] pos) (tE (ae X kt) Z (aa C (.toint a))):=by
 refine PE.imp (cZ oa (T.glob hg) (T.bl _ (by decide+kernel)) boot_int (fc ha jB hs) (by decide+kernel) (by decide+kernel) (bu hs) rfl) ?_;rintro σ H Q ⟨m,ρ,st,ar,as,h⟩;refine⟨m,ρ,st,ar,as,?_⟩;rw[kJ] at h;show Ok (ae X kt) Z (aG C [a] ρ st) m H _;simp only[aY,aP];cases hr:aa C a ρ st with
 |ex x s=>rw[hr] at h;exact h|no=>rw[hr] at h;exact h|ok y st1=>
  rw[hr] at h;simp only[ag] at h ⊢;intro m1 H1 br aS vs fe;obtain⟨v,rfl,rv⟩:=mM fe;split at h;·rename_i b;cases (show v=.bl b from rv);exact .inr ⟨b,rfl,h m1 H1 br aS _ rfl⟩
  ·exact(show False from h).elim
theorem Gk(T:Good X kt g C)(hg:g.gl d=Λ)(hp:aH d=Λ)(ht:g.tabs.lookup d=Δ t)(ha:PE X x (tE (ae X kt) Z (aa C a))):
  PE X (.Compare x [.NotIn] [.Name d dp] pos) (tE (ae X kt) Z (aa C (.pV t a))):=by
 obtain⟨ad,hm,tb⟩:=T.tb d t ht;refine PE.imp (vD (oB tb) ha (fJ (v:=.ref ad) (T.glob hg) hm rfl (pn hp).1) (lF rfl)) ?_;rintro σ H Q ⟨m,ρ,st,ar,as,h0⟩;rw[fT] at h0;refine⟨m,ρ,st,ar,as,(Ok.bind h0).mono λy st1 m1 H1 br aS h1 v rv=>?_⟩;split at h1;·rename_i k;cases (show v=.str k from rv);refine⟨k,rfl,rfl,?_⟩;rw[<-mO];exact Ok.here h1 aS _ rfl
 ·exact h1.elim
theorem xS{st:aW}(h:aa C (.pV t a) r st=.ok p bI):∃b,p=.d (.bl b):=by
 rw[fT] at h;obtain⟨y,st1,_,h⟩:=gL h;split at h;·cases h;exact⟨_,rfl⟩
 ·cases h
theorem Cw(T:Good X kt g C)(hg:g.gl d=Λ)(hp:aH d=Λ)(ht:g.tabs.lookup d=Δ t)(ha:PE X x (tE (ae X kt) Z (aa C a))):
  PT X (.Compare x [.NotIn] [.Name d dp] pos) (tT (ae X kt) Z (bL (aa C (.pV t a)))):=by
 obtain⟨ad,hm,tb⟩:=T.tb d t ht;refine PT.imp (vE (oB tb) ha (fJ (v:=.ref ad) (T.glob hg) hm rfl (pn hp).1) (lF rfl)) λσ H Q h=>?_;obtain⟨m,ρ,st,ar,as,h0⟩:=qf (λ_ _ _ _=>xS) h;rw[fT] at h0;refine⟨m,ρ,st,ar,as,(Ok.bind h0).mono λy st1 m1 H1 br aS h1 v rv=>?_⟩;split at h1;·rename_i k;cases (show v=.str k from rv);refine⟨k,rfl,rfl,?_⟩;rw[<-mO];exact Ok.here h1 aS _ rfl
 ·exact h1.elim
theorem Kj(T:Good X kt g C)(hg:g.gl d=Λ)(hp:aH d=Λ)(ht:g.tabs.lookup d=Δ t)(ha:PE X x (tE (ae X kt) Z (aa C a)))(hs:fV x=Ξ):
  PE X (.Subscript (.Name d dp) x pos) (tE (ae X kt) Z (aa C (.A4 t a))):=by
 obtain⟨ad,hm,tb⟩:=T.tb d t ht;refine PE.imp (vK (E8 tb) (fJ (v:=.ref ad) (T.glob hg) hm rfl (pn hp).1) ha (mL hs)) ?_;rintro σ H Q ⟨m,ρ,st,ar,as,h0⟩;rw[oH] at h0;refine⟨m,ρ,st,ar,as,(Ok.bind h0).mono λy st1 m1 H1 br aS h1 v rv=>?_⟩;split at h1;·rename_i k;cases (show v=.str k from rv);obtain⟨p,e,q,_⟩:=Ok.of h1 aS;obtain⟨i,e1,rfl⟩:=dE e;exact⟨k,i,rfl,rfl,by rw[<-mO];exact e1,q _ rfl⟩
 ·exact h1.elim
theorem so{K:KB}:∀ws:List Str,ah K H m Z (ws.map λw=>P.d (.str w)) (ws.map V.str)
 |[]=>rfl|w::ws=>⟨_,_,rfl,rfl,so ws⟩
theorem s_split(hl:(ap.endLine==cp.line)=Λ)(hc:isCall o=Ξ)(ho:PE X o (tE (ae X kt) Z (aa C a))):
  PE X (.Call (.Attribute o "split" ap) [.Constant (.str blank) j kp] [] cp) (tL (ae X kt) Z (bN C (.split a))):=by
 refine PE.imp (yV PySem.F.plainAttrs_str PySem.F.slot_str_split PySem.F.type_str_split zK ho (cj pC ez) (iV hc) rfl hl rfl rfl) ?_;rintro σ H Q ⟨m,r,st,ar,as,h⟩;rw[gE] at h;refine⟨m,r,st,ar,as,?_⟩;cases hr:aa C a r st with
 |ex x s=>rw[hr] at h;exact h|no=>rw[hr] at h;exact h|ok y st1=>
  rw[hr] at h;simp only[ag] at h;intro m1 H1 br aS v rv;cases hs:iN y with
  |none=>rw[hs] at h;exact(show False from h).elim|some ps=>
   rw[hs] at h;unfold iN at hs;split at hs
   ·rename_i z;split at hs;·rename_i hz;cases hs;cases (show v=.str z from rv);refine⟨rfl,z,blank,rfl,rfl,by decide,by rw[<-bY];exact hz,λp hp=>?_⟩;exact gN br aS (so _) hp h
    ·cases hs
   ·cases hs
end
section
variable(C:Nat->List P->aW->R P)
def SE(e':E):Prop:=∀(kt:KT) (X:Cx) (g:G) (e:Expr) (Z:List Addr),Good X kt g C->cU g e' e=Λ->PE X e (tE (ae X kt) Z (aa C e'))/\PT X e (tT (ae X kt) Z (bL (aa C e')))
def SEs(es:List E):Prop:=(∀(kt:KT) (X:Cx) (g:G) (xs:List Expr) (Z:List Addr),Good X kt g C->e8 g es xs=Λ->PA X xs (tA (ae X kt) Z (aG C es)))/\
 (∀(kt:KT) (X:Cx) (g:G) (xs:List Expr) (Z:List Addr) (pos:Pos),Good X kt g C->e8 g es xs=Λ->PE X (.BoolOp .And xs pos) (tE (ae X kt) Z (dJ C es))/\PW X (.BoolOp .And xs pos) (tT (ae X kt) Z (bL (dJ C es))))/\
 (∀(kt:KT) (X:Cx) (g:G) (xs:List Expr) (Z:List Addr) (pos:Pos),Good X kt g C->e8 g es xs=Λ->PE X (.BoolOp .Or xs pos) (tE (ae X kt) Z (dM C es))/\PW X (.BoolOp .Or xs pos) (tT (ae X kt) Z (bL (dM C es))))
def SM(o:Option E):Prop:=(∀(kt:KT) (X:Cx) (g:G) (x:Option Expr) (Z:List Addr),Good X kt g C->JU g o x=Λ->PO X x (tO (ae X kt) Z (cg C o)))/\
 (∀(kt:KT) (X:Cx) (g:G) (ifs:List Expr),Good X kt g C->okC g o ifs=Λ->AX X ifs (Ke (ae X kt) (cD C o)))
def SL(l:L):Prop:=∀(kt:KT) (X:Cx) (g:G) (e:Expr) (Z:List Addr),Good X kt g C->okL g l e=Λ->PE X e (tL (ae X kt) Z (bN C l))
def SW(w:W):Prop:=∀(kt:KT) (X:Cx) (g:G) (e tg:Expr) (Z:List Addr),Good X kt g C->Oa g w e=Λ->(u9 w=Λ->∃es k p,tg=.Tuple es k p)->PI X tg e (tW (ae X kt) Z (b7 C w))
variable{C}
theorem oX(h:∀r st,d r st=.no):PE X e (tE (ae X kt) Z d)/\PT X e (tT (ae X kt) Z (bL d)):=by
 constructor;·rintro η s σ H Q I ⟨m,r,st,_,_,q⟩;rw[h] at q;exact(show False from q).elim
 ·rintro η s σ H Q I ⟨m,r,st,_,_,q⟩;unfold bL at q;rw[h] at q;exact(show False from q).elim
theorem pw_no(h:∀r st,d r st=.no):PW X e (tT (ae X kt) Z (bL d)):=by rintro wh η s σ H Q I ⟨m,r,st,_,_,q⟩;unfold bL at q;rw[h] at q;exact(show False from q).elim
theorem both(h:PE X e (tE (ae X kt) Z d))(he:∀whole,Vm e X.env whole=(do let v<-whole;Uu e.pos;Uv [v] (truthy v))):PE X e (tE (ae X kt) Z d)/\PT X e (tT (ae X kt) Z (bL d)):=⟨h,Ca h he⟩
mutual
theorem az:∀e':E,SE C e'
 |.var i=>λkt X g e Z T h=>by refine aJ h λ_ _ h=>?_;simp only[Pw,qqq] at h;exact both (oS T h.1.1 h.1.2 h.2) λ_=>rfl|.cst d=>λkt X g e Z T h=>by
  rcases Bool.or_eq_true_iff.mp h with h|h;·refine cN h λc _ _ h=>?_;cases d with|int i=>obtain rfl:=of_decide_eq_true h;exact both (r8 pB λ_ _=>rfl) λ_=>rfl|bl i=>obtain rfl:=of_decide_eq_true h;exact both (r8 Df λ_ _=>rfl) λ_=>rfl|aU=>obtain rfl:=of_decide_eq_true h;exact both (r8 tH λ_ _=>rfl) λ_=>rfl|str i=>obtain rfl:=of_decide_eq_true h;exact both (r8 pC λ_ _=>rfl) λ_=>rfl|tup _=>exact ft h|pl _=>exact ft h
  ·refine aJ h λx _ h=>?_;cases d with|int i=>have h:=Bool.and_eq_true_iff.mp h;have h':=Bool.and_eq_true_iff.mp h.1;obtain⟨t,ht⟩:=T.cs _ _ (of_decide_eq_true h'.2);exact both (r8 (fJ (v:=.int _) (T.glob h'.1) ht ⟨t,rfl⟩ (pn h.2).1) λ_ _=>rfl) λ_=>rfl|_=>exact ft h
 |.op o a b=>λkt X g e Z T h=>by refine oQ h λ_ _ _ _ h=>?_;simp only[Pw,qqq] at h;obtain⟨⟨rfl,h1⟩,h2⟩:=h;exact both (Od (az a kt X g _ Z T h1).1 (az b kt X g _ Z T h2).1) λ_=>rfl|.neg a=>λkt X g e Z T h=>by refine gI h λ_ _ _ h=>?_;simp only[Pw,qqq] at h;obtain⟨rfl,h⟩:=h;exact both (J8 (az a kt X g _ Z T h).1) λ_=>rfl|.zO a b=>λkt X g e Z T h=>by refine aO h λ_ _ _ _ h=>?_;refine bb h λ_ _ _ h=>?_;refine aE h λ_ _ h=>?_;simp only[Pw,qqq,PM,PY] at h;obtain⟨⟨⟨⟨⟨⟨⟨rfl,rfl⟩,h0⟩,rfl⟩,h1⟩,h2⟩,h3⟩,h4⟩:=h;exact both (Gi h0 h1 (az a kt X g _ Z T h2).1 (az b kt X g _ Z T h3).1 h4) λ_=>rfl|.rO a b c=>λkt X g e Z T h=>by refine aO h λ_ _ _ _ h=>?_;refine bb h λ_ _ _ h=>?_;refine aE h λ_ _ h=>?_;refine aE h λ_ _ h=>?_;simp only[Pw,qqq,PM,PY] at h;obtain⟨⟨⟨⟨⟨⟨⟨⟨⟨rfl,rfl⟩,h0⟩,rfl⟩,h1⟩,h2⟩,h3⟩,h4⟩,h5⟩,h6⟩:=h;exact both (Ct h0 h1 (az a kt X g _ Z T h2).1 (az b kt X g _ Z T h3).1 h4 (az c kt X g _ Z T h5).1 h6) λ_=>rfl|.zP a=>λkt X g e Z T h=>by refine aO h λ_ _ _ _ h=>?_;refine bb h λ_ _ _ h=>?_;simp only[Pw,qqq,PM,PY] at h;obtain⟨⟨⟨⟨⟨rfl,rfl⟩,h0⟩,rfl⟩,h1⟩,h2⟩:=h;exact both (Gh h0 h1 (az a kt X g _ Z T h2).1) λ_=>rfl|.attr c f i=>λkt X g e Z T h=>by refine bb h λ_ _ _ h=>?_;refine aJ h λ_ _ h=>?_;simp only[Pw,qqq] at h;obtain⟨⟨⟨⟨rfl,h1⟩,h2⟩,h3⟩,h4⟩:=h;exact both (FR T h1 h2 h3 h4) λ_=>rfl|.eO k c m i es=>λkt X g e Z T h=>by refine aO h λ_ _ _ _ h=>?_;refine bb h λ_ _ _ h=>?_;refine aJ h λ_ _ h=>?_;simp only[Pw,qqq,PM,PY] at h;obtain⟨⟨⟨⟨⟨⟨⟨⟨⟨rfl,rfl⟩,h1⟩,h2⟩,h3⟩,h4⟩,h5⟩,h6⟩,h7⟩,xO⟩:=h;exact both (Gf T xO h1 h2 h3 h4 h7 h6 (cX h5) (dN h5) ((dg es).1 kt X g _ Z T h5)) λ_=>rfl|.make k c es=>λkt X g e Z T h=>by refine aO h λ_ xs eL _ h=>?_;refine aJ h λx p h=>?_;cases xs with|nil=>simp at h|cons y ys=>simp only[Pw,qqq,PM,PY] at h;obtain⟨⟨⟨⟨⟨⟨⟨rfl,rfl⟩,h1⟩,h2⟩,h3⟩,h4⟩,_⟩,xO⟩:=h;exact both (Gg T xO h1 h2 h3 (cX h4) ((dg es).1 kt X g _ Z T h4)) λ_=>rfl
 |.not a=>λkt X g e Z T h=>by refine gI h λ_ _ _ h=>?_;simp only[Pw,qqq] at h;obtain⟨rfl,h⟩:=h;exact⟨JY (az a kt X g _ Z T h).1,FH (az a kt X g _ Z T h).2⟩|.cmp o a b=>λkt X g e Z T h=>by refine gH h λ_ _ _ _ h=>?_;refine aE h λ_ _ h=>?_;refine aE h λ_ _ h=>?_;simp only[Pw,qqq,PY,PM] at h;obtain⟨⟨⟨⟨⟨rfl,rfl⟩,rfl⟩,h1⟩,h2⟩,h3⟩:=h;exact⟨JX T (az a kt X g _ Z T h1).1 (az b kt X g _ Z T h2).1 h3,FG T (az a kt X g _ Z T h1).1 (az b kt X g _ Z T h2).1 h3⟩|.chain o o' a b c=>λkt X g e Z T h=>by refine gH h λ_ _ _ _ h=>?_;refine aE h λ_ _ h=>?_;refine aE h λ_ _ h=>?_;refine aE h λ_ _ h=>?_;refine aE h λ_ _ h=>?_;simp only[Pw,qqq,PY,PM] at h;obtain⟨⟨⟨⟨⟨⟨⟨⟨rfl,rfl⟩,rfl⟩,rfl⟩,h1⟩,h2⟩,h3⟩,h4⟩,h5⟩:=h;exact⟨Cb T (az a kt X g _ Z T h1).1 (az b kt X g _ Z T h2).1 (az c kt X g _ Z T h3).1 h4 h5,Ai T (az a kt X g _ Z T h1).1 (az b kt X g _ Z T h2).1 (az c kt X g _ Z T h3).1 h4 h5⟩|.and es=>λkt X g e Z T h=>by refine mH h λop xs pos h=>?_;simp only[Pw,qqq] at h;obtain⟨rfl,h⟩:=h;obtain⟨h1,h2⟩:=(dg es).2.1 kt X g xs Z pos T h;have e1:aa C (.and es)=dJ C es:=rfl;rw[e1];exact⟨h1,h2.pt⟩|.or es=>λkt X g e Z T h=>by refine mH h λop xs pos h=>?_;simp only[Pw,qqq] at h;obtain⟨rfl,h⟩:=h;obtain⟨h1,h2⟩:=(dg es).2.2 kt X g xs Z pos T h;have e1:aa C (.or es)=dM C es:=rfl;rw[e1];exact⟨h1,h2.pt⟩|.ite c a b=>λkt X g e Z T h=>by refine xM h λ_ _ _ _ h=>?_;simp only[Pw] at h;have h1:=az c kt X g _ Z T h.1.1;have h2:=az a kt X g _ Z T h.1.2;have h3:=az b kt X g _ Z T h.2;exact⟨J1 h1.2 h2.1 h3.1,FN h1.2 h2.2 h3.2⟩|.tup es=>λkt X g e Z T h=>by refine ki h λ_ _ _ h=>?_;exact both (J4 ((dg es).1 kt X g _ Z T h)) λ_=>rfl|.lst mu l=>λkt X g e Z T h=>by have h1:=J5 (mu:=mu) (Gm l kt X g e Z T h);refine both h1 λwhole=>?_;cases l with|eP es=>exact rZ h λ_ _ _=>rfl|comp w ts js c e=>exact jy h λ_ _ _ _ _=>rfl|list e=>exact aO h λ_ _ _ _ _=>rfl|gd es=>exact aO h λ_ _ _ _ _=>rfl|zip a b=>exact aO h λ_ _ _ _ _=>rfl|split a=>exact aO h λ_ _ _ _ _=>rfl|keys e=>exact aO h λ_ _ _ _ _=>rfl
 |.call f es=>λkt X g e Z T h=>by refine aO h λ_ _ _ _ h=>?_;refine aJ h λ_ _ h=>?_;simp only[Pw,qqq,PM,PY] at h;obtain⟨⟨⟨⟨⟨rfl,h1⟩,h2⟩,h3⟩,h4⟩,xO⟩:=h;exact both (s_call T xO h1 h2 h3 (cX h4) (dN h4) ((dg es).1 kt X g _ Z T h4)) λ_=>rfl|.zM a t=>λkt X g e Z T h=>by refine aO h λ_ _ _ _ h=>?_;refine aJ h λ_ _ h=>?_;refine aE h λ_ _ h=>?_;refine aE h λ_ _ h=>?_;refine aJ h λ_ _ h=>?_;simp only[Pw,qqq,PM] at h;obtain⟨⟨⟨⟨⟨⟨⟨⟨rfl,rfl⟩,rfl⟩,h1⟩,rfl⟩,h2⟩,h3⟩,h4⟩,h5⟩:=h;exact both (J6 T h1 h3 h2 (az a kt X g _ Z T h4).1 h5) λ_=>rfl|.bf f es=>λkt X g e Z T h=>by refine aO h λf0 xs eL pos h=>?_;refine aJ h λ_ _ h=>?_;simp only[Pw,qqq,PY,PM] at h;obtain⟨⟨⟨⟨rfl,rfl⟩,h1⟩,h2⟩,h3⟩:=h;cases xs with|nil=>cases h3|cons x xs=>exact both (Oi T h1 (cX h2) ((dg es).1 kt X g _ Z T h2)) λ_=>rfl
 |.ix a b=>λkt X g e Z T h=>by refine bX h λ_ _ _ h=>?_;simp only[Pw,PY] at h;exact both (Og T.hu (az a kt X g _ Z T h.1.1).1 (az b kt X g _ Z T h.1.2).1 h.2) λ_=>rfl|.eY a lo hi=>λkt X g e Z T h=>by refine bX h λ_ _ _ h=>?_;refine kh h λ_ _ _ _ h=>?_;simp only[Pw,Rb] at h;obtain⟨⟨⟨rfl,h1⟩,h2⟩,h3⟩:=h;exact both (Ap (az a kt X g _ Z T h1).1 ((mP lo).1 kt X g _ Z T h2) ((mP hi).1 kt X g _ Z T h3)) λ_=>rfl|.tchar a b=>λkt X g e Z T h=>by refine bX h λ_ _ _ h=>?_;simp only[Pw,PY] at h;obtain⟨⟨h1,h2⟩,h3⟩:=h;exact both (Cu (az a kt X g _ Z T h2).1 (az b kt X g _ Z T h3).1 h1) λ_=>rfl|.pU a b=>λkt X g e Z T h=>by refine oQ h λ_ _ _ _ h=>?_;simp only[Pw,qqq] at h;obtain⟨⟨rfl,h1⟩,h2⟩:=h;exact both (Gj (az a kt X g _ Z T h1).1 (az b kt X g _ Z T h2).1) λ_=>rfl|.toint a=>λkt X g e Z T h=>by refine aO h λ_ _ _ _ h=>?_;refine aJ h λ_ _ h=>?_;refine aE h λ_ _ h=>?_;simp only[Pw,qqq,PM] at h;obtain⟨⟨⟨⟨⟨rfl,rfl⟩,rfl⟩,h1⟩,h2⟩,h3⟩:=h;exact both (Cv T h1 (az a kt X g _ Z T h2).1 h3) λ_=>rfl|.pV t a=>λkt X g e Z T h=>by refine gH h λ_ _ _ _ h=>?_;refine aE h λ_ _ h=>?_;refine aE h λ_ _ h=>?_;refine aJ h λ_ _ h=>?_;simp only[Pw,qqq,PM] at h;obtain⟨⟨⟨⟨⟨⟨rfl,rfl⟩,rfl⟩,h1⟩,h2⟩,h3⟩,h4⟩:=h;exact⟨Gk T h1 h2 h3 (az a kt X g _ Z T h4).1,Cw T h1 h2 h3 (az a kt X g _ Z T h4).1⟩|.A4 t a=>λkt X g e Z T h=>by refine bX h λ_ _ _ h=>?_;refine aJ h λ_ _ h=>?_;simp only[Pw,qqq,PY] at h;obtain⟨⟨⟨⟨h0,h1⟩,h2⟩,h3⟩,h4⟩:=h;exact both (Kj T h1 h2 h3 (az a kt X g _ Z T h4).1 h0) λ_=>rfl|.slice a lo hi=>λkt X g e Z T h=>by refine bX h λ_ _ _ h=>?_;refine kh h λ_ _ _ _ h=>?_;simp only[Pw,Rb] at h;obtain⟨⟨⟨rfl,h1⟩,h2⟩,h3⟩:=h;exact both (Cm (az a kt X g _ Z T h1).1 ((mP lo).1 kt X g _ Z T h2) ((mP hi).1 kt X g _ Z T h3)) λ_=>rfl|.rev a=>λkt X g e Z T h=>by refine bX h λ_ _ _ h=>?_;refine kh h λ_ _ _ _ h=>?_;refine gG h λ_ h=>?_;simp only[Pw,Rb] at h;obtain⟨⟨⟨rfl,rfl⟩,h1⟩,h2⟩:=h;obtain⟨k,p1,p2,rfl⟩:=B5 h1;exact both (J9 (az a kt X g _ Z T h2).1) λ_=>rfl|.join a b=>λkt X g e Z T h=>by refine aO h λ_ _ _ _ h=>?_;refine bb h λ_ _ _ h=>?_;refine aE h λ_ _ h=>?_;simp only[Pw,qqq,PM,PY] at h;obtain⟨⟨⟨⟨⟨⟨⟨rfl,rfl⟩,h0⟩,rfl⟩,h1⟩,h2⟩,h3⟩,h4⟩:=h;exact both (Gb h0 h1 (az a kt X g _ Z T h2).1 (az b kt X g _ Z T h3).1 h4) λ_=>rfl|.xt t a=>λkt X g e Z T h=>by refine aO h λ_ _ _ _ h=>?_;refine bb h λ_ _ _ h=>?_;refine aJ h λ_ _ h=>?_;refine aE h λ_ _ h=>?_;simp only[Pw,qqq,PM] at h;obtain⟨⟨⟨⟨⟨⟨⟨⟨rfl,rfl⟩,h0⟩,rfl⟩,h1⟩,h2⟩,h3⟩,h4⟩,h5⟩:=h;exact both (FV T h0 h1 h2 h3 (az a kt X g _ Z T h4).1 h5) λ_=>rfl|.zQ k d=>λkt X g e Z T h=>by refine rY h λ_ _ _ h=>?_;refine aE h λ_ _ h=>?_;refine gG h λ_ h=>?_;refine aE h λ_ _ h=>?_;simp only[Pw,PM] at h;obtain⟨⟨⟨rfl,rfl⟩,h1⟩,h2⟩:=h;exact both (FX T h1 h2) λ_=>rfl|.zN t=>λkt X g e Z T h=>by refine rY h λ_ _ _ h=>?_;simp only[Pw,PM] at h;obtain⟨rfl,rfl⟩:=h;exact both FW λ_=>rfl
theorem dg:∀es:List E,SEs C es
 |[]=>⟨λkt X g xs Z T h=>by rw[gM h];exact jB,λkt X g xs Z pos T h=>by exact⟨(oX λr st=>rfl).1,pw_no λr st=>rfl⟩,λkt X g xs Z pos T h=>⟨(oX λr st=>rfl).1,pw_no λr st=>rfl⟩⟩|a::cz=>by
  have ih:=dg cz;have ia:=az a;refine⟨λkt X g xs Z T h=>?_,λkt X g xs Z pos T h=>?_,λkt X g xs Z pos T h=>?_⟩;·obtain⟨x,ys,rfl,h1,h2,h3⟩:=dF h;exact fc (ia kt X g x Z T h1).1 (ih.1 kt X g ys Z T h3) h2
  ·obtain⟨x,ys,rfl,h1,h2,h3⟩:=dF h;cases cz with|nil=>rw[gM h3];exact⟨FI (ia kt X g x Z T h1).1,Ce (ia kt X g x Z T h1).2⟩|cons b bs=>obtain⟨y,zs,rfl,_,_,_⟩:=dF h3;obtain⟨i1,i2⟩:=ih.2.1 kt X g (y::zs) Z pos T h3;exact⟨FJ (ia kt X g x Z T h1).1 i1,Cf (ia kt X g x Z T h1).2 i2⟩
  ·obtain⟨x,ys,rfl,h1,h2,h3⟩:=dF h;cases cz with|nil=>rw[gM h3];exact⟨JZ (ia kt X g x Z T h1).1,FK (ia kt X g x Z T h1).2⟩|cons b bs=>obtain⟨y,zs,rfl,_,_,_⟩:=dF h3;obtain⟨i1,i2⟩:=ih.2.2 kt X g (y::zs) Z pos T h3;exact⟨J0 (ia kt X g x Z T h1).1 i1,FL (ia kt X g x Z T h1).2 i2⟩
theorem mP:∀o:Option E,SM C o
 |none=>⟨λkt X g x Z T h=>by
   have:x=Θ:=Rb.mp h;rw[this];exact Cj,λkt X g ifs T h=>by
   have:ifs=[]:=PM.mp h;rw[this];exact xP⟩
 |some a=>by
  have ia:=az a;refine⟨λkt X g x Z T h=>?_,λkt X g ifs T h=>?_⟩;·refine gG h λ_ h=>?_;exact Ck (ia kt X g _ Z T h).1
  ·refine aE h λ_ _ h=>?_;simp only[Pw,PM] at h;obtain⟨rfl,h⟩:=h;exact xQ λZ=>(ia kt X g _ Z T h).2
theorem Gm:∀l:L,SL C l
 |.eP es=>λkt X g e Z T h=>by refine rZ h λ_ _ h=>?_;exact FO ((dg es).1 kt X g _ Z T h)|.comp w ts js c ee=>λkt X g e Z T h=>by
  refine jy h λelt gens sc pos' h=>?_;refine aE h λge r h=>?_;refine B3 h λtg iter ifs a h=>?_;refine aJ h λx pos h=>?_;simp only[Pw,qqq,PY,PM] at h;obtain⟨⟨⟨⟨⟨⟨⟨⟨⟨⟨⟨rfl,rfl⟩,rfl⟩,h1⟩,hen⟩,h2⟩,h3⟩,h4⟩,h5⟩,h6⟩,h7⟩,Ow⟩:=h;have B:=T.Gd h2;have T':∀η fp Cc s H,Good (j6 kt.cx (λ_ _ H'=>kt.xq H') X η (oP g x js) sc fp Cc s H) kt (g.inner (oP g x js) sc) C:=λη fp Cc s H=>T.inner (js:=js) B.uj;refine PE.imp (zJ (T.pb Ow) T.calm B (vh w kt X g iter (.Name x pos) Z T h1 (λz=>by rw[hen] at z;cases z)) (λη fp Cc s H=>g6 (i:=0) h4 rfl (.inl ((T' η fp Cc s H).loc x h3)) (.inr ((T' η fp Cc s H).loc x h3)))
   (λη fp Cc s H=>(mP c).2 kt _ _ _ (T' η fp Cc s H) h5) (λη fp Cc s H=>Ot λZ=>(az ee kt _ _ _ Z (T' η fp Cc s H) h6).1) (λy=>?_)) λσ H Q q=>Ao q
  cases iter<;>first
   |rfl
   |exact absurd (show Λ=Ξ from h7) Ql.symm
 |.split a=>λkt X g e Z T h=>by refine aO h λ_ _ _ _ h=>?_;refine bb h λ_ _ _ h=>?_;refine aE h λ_ _ h=>?_;refine cN h λ_ _ _ h=>?_;simp only[Pw,qqq,PM,PY] at h;obtain⟨⟨⟨⟨⟨⟨rfl,rfl⟩,h1⟩,rfl⟩,h2⟩,h3⟩,rfl⟩:=h;exact s_split h1 h2 (az a kt X g _ Z T h3).1|.list a=>λkt X g e Z T h=>by refine aO h λ_ _ _ _ h=>?_;refine aJ h λ_ _ h=>?_;refine aE h λ_ _ h=>?_;simp only[Pw,qqq,PM] at h;obtain⟨⟨⟨⟨⟨rfl,rfl⟩,rfl⟩,h1⟩,h2⟩,h3⟩:=h;exact FP T h1 (az a kt X g _ Z T h2).1 h3|.keys a=>λkt X g e Z T h=>by refine aO h λ_ _ _ _ h=>?_;refine aJ h λ_ _ h=>?_;refine aE h λ_ _ h=>?_;simp only[Pw,qqq,PM] at h;obtain⟨⟨⟨⟨⟨rfl,rfl⟩,rfl⟩,h1⟩,h2⟩,h3⟩:=h;exact FQ T h1 (az a kt X g _ Z T h2).1 h3|.gd es=>λkt X g e Z T h=>by refine aO h λ_ _ _ _ h=>?_;refine aJ h λ_ _ h=>?_;refine aE h λ_ _ h=>?_;refine aO h λ_ _ _ _ h=>?_;refine aJ h λ_ _ h=>?_;simp only[Pw,qqq,PM] at h;obtain⟨⟨⟨⟨⟨⟨⟨rfl,rfl⟩,rfl⟩,rfl⟩,h1⟩,rfl⟩,h2⟩,h3⟩:=h;exact FZ T h2 h1 h3 ((dg es).1 kt X g _ Z T h3)|.zip a b=>λkt X g e Z T h=>by refine aO h λ_ _ _ _ h=>?_;refine aJ h λ_ _ h=>?_;refine aE h λ_ _ h=>?_;refine aO h λ_ _ _ _ h=>?_;refine aJ h λ_ _ h=>?_;refine aE h λ_ _ h=>?_;refine aE h λ_ _ h=>?_;simp only[Pw,qqq,PM] at h;obtain⟨⟨⟨⟨⟨⟨⟨⟨⟨⟨⟨rfl,rfl⟩,rfl⟩,rfl⟩,rfl⟩,h1⟩,rfl⟩,h2⟩,h3⟩,h4⟩,h5⟩,h6⟩:=h;exact Ga T h2 h1 (az a kt X g _ Z T h3).1 h4 (az b kt X g _ Z T h5).1 h6
theorem vh:∀w:W,SW C w
 |.ex a=>λkt X g e tg Z T h _=>by have h:=Bool.and_eq_true_iff.mp h;exact Kd (az a kt X g e Z T h.1).1|.gd es=>λkt X g e tg Z T h _=>by refine aO h λ_ _ _ _ h=>?_;refine aJ h λ_ _ h=>?_;simp only[Pw,qqq,PM] at h;obtain⟨⟨⟨rfl,rfl⟩,h1⟩,h2⟩:=h;exact FY T h1 h2 ((dg es).1 kt X g _ Z T h2)|.enum a=>λkt X g e tg Z T h ht=>by obtain⟨es,k,p,rfl⟩:=ht rfl;refine aO h λ_ _ _ _ h=>?_;refine aJ h λ_ _ h=>?_;refine aE h λ_ _ h=>?_;simp only[Pw,qqq,PM] at h;obtain⟨⟨⟨⟨⟨rfl,rfl⟩,rfl⟩,h1⟩,h2⟩,h3⟩:=h;exact Cr T h1 (az a kt X g _ Z T h2).1 h3
end
end
def dY(g:G)(x:Str):Bool:=decide (g.names.lookup x=Δ .local)||decide (g.names.lookup x=Δ .cell)
def Kk(g:G)(t:Tg)(e:Expr):Bool:=match t with|.nm i=>bh e λx _=>decide (g.N[i]?=Δ x)&&dY g x|.tup _=>Ξ|.two i j=>lE e λes _ _=>aV es λa r=>bh a λx _=>aV r λb r'=>bh b λy _=>r'.isEmpty&&decide (g.N[i]?=Δ x)&&dY g x&&decide (g.N[j]?=Δ y)&&dY g y
def Aq:Tg->Bool
 |.two _ _=>Λ|_=>Ξ
def Gn:Const->Bool
 |.str _=>Λ|_=>Ξ
mutual
def oY(g:G):S->Stmt->Bool
 |.ret e=>λs=>ic s λv _=>kf v λx=>cU g e x|.zR=>λs=>ic s λv _=>v.isNone|.set i e=>λs=>fB s λts v _=>aV ts λt r=>bh t λx _=>r.isEmpty&&decide (g.N[i]?=Δ x)&&dY g x&&cU g e v&&!iT v|.ifs c a b=>λs=>z9 s λx ys zs _=>cU g c x&&nR g a ys&&nR g b zs|.l7 t w b=>λs=>kg s λtg iter body orelse _=>orelse.isEmpty&&Kk g t tg&&Oa g w iter&&nR g b body&&!b9 iter&&(!u9 w||Aq t)|.gz t e b=>λs=>kg s λtg iter body orelse _=>orelse.isEmpty&&Kk g t tg&&cU g e iter&&nR g b body&&!b9 iter&&!Aq t|.zS i j a b=>λs=>kg s λtg iter body orelse _=>bE iter λf0 xs eL cp=>bo f0 λo n ap=>orelse.isEmpty&&xs.isEmpty&&eL.isEmpty&&Kk g (.two i j) tg&&decide (n="items")&&!isCall o&&(ap.endLine==cp.line)&&cU g a o&&nR g b body|.gA i j a b=>λs=>kg s λtg iter body orelse _=>bE iter λf0 xs eL cp=>bh f0 λn _=>aV xs λo r=>orelse.isEmpty&&r.isEmpty&&eL.isEmpty&&Kk g (.two i j) tg&&decide (n="enumerate")&&g.gl "enumerate"&&notStar o&&cU g a o&&nR g b body|.l8 c b=>λs=>mG s λx body orelse _=>orelse.isEmpty&&cU g c x&&nR g b body|.expr e=>λs=>lD s λx _=>cU g e x&&!iT x|.app a e=>λs=>lD s λc _=>bE c λf0 xs eL cp=>bo f0 λo n ap=>aV xs λx r=>r.isEmpty&&eL.isEmpty&&(ap.endLine==cp.line)&&decide (n="append")&&!isCall o&&cU g a o&&cU g e x&&notStar x|.put a i e=>λs=>fB s λts v _=>aV ts λt r=>bV t λo k _=>r.isEmpty&&cU g a o&&cU g i k&&cU g e v&&!iT v|.pW c f i e=>λs=>fB s λts v _=>aV ts λt r=>bo t λo n _=>bh o λx _=>r.isEmpty&&decide (n=f)&&g.vU c f&&decide (g.N[i]?=Δ x)&&g.tD x&&aH x&&cU g e v|.raise x=>λs=>mF s λe c _=>kf e λy=>bE y λf0 xs eL _=>bh f0 λn _=>aV xs λa r=>cW a λk _ _=>c.isNone&&r.isEmpty&&eL.isEmpty&&Gn k&&decide (n=x)&&g.Hu x&&g.gl x|.uF c f i k=>λs=>u5 s λt op v _=>bo t λo n _=>bh o λx _=>cW v λkc _ _=>decide (op=.Add)&&decide (n=f)&&g.vU c f&&decide (g.N[i]?=Δ x)&&g.tD x&&aH x&&decide (kc=.int k)|.uG _ _ _=>λ_=>Ξ
def nR(g:G):List S->List Stmt->Bool
 |[]=>λl=>l.isEmpty|s::ss=>λl=>aV l λx xs=>oY g s x&&nR g ss xs
end
inductive tS (K:KB) (Z:List Addr) (d:cE->aW->R Fl) (D:Ends) (σ:L2.St) (H:Hp):Prop
 |mk (m:List Addr) (r:cE) (st:aW) (a:b8 K H m Z r σ) (b:ay K H m Z st) (c:Ok K Z (d r st) m H (ke K Z D)):tS K Z d D σ H
structure dO(X:Cx)(kt:KT)(g:G)(C:Nat->List P->aW->R P):Prop extends Good X kt g C where
 cell:∀x,g.names.lookup x=Δ .cell->X.env.scope.names.lookup x=Δ .cell
 nd:g.N.Nodup
 Oy:∀x,g.names.lookup x=Δ .cell->X.fn x=Λ
 own:PassesOwn (model X.prog X.w) X.A X.env X.xe
 Oz:∀x,g.Hu x=Λ->g.gl x=Λ->∀msg j np cp cM pos,PS X (.Raise (Δ (.Call (.Name x np) [.Constant (.str msg) j cp] [] cM)) Θ pos) (λ_ _ H=>kt.xq H)
section
variable{X:Cx}{g:G}{C:Nat->List P->aW->R P}{Z:List Addr}
theorem PS.imp{st:Stmt}(h:PS X st t)(i:∀D σ H,t' D σ H->t D σ H):PS X st t':=λη s σ H D I q=>h η s σ H D I (i D σ H q)
theorem i5.imp{st:List Stmt}(h:i5 X st t)(i:∀D σ H,t' D σ H->t D σ H):i5 X st t':=λη s σ H D I q=>h η s σ H D I (i D σ H q)
theorem dO.vi(T:dO X kt g C)(h:dY g x=Λ):Loc X.env.scope x:=by
 unfold dY at h;simp only[Th,qqq] at h;rcases h with h|h;·exact .inl (T.loc x h)
 ·exact .inr (T.cell x h)
theorem dO.Gp(T:dO X kt g C)(h:dY g x=Λ):X.fn x=Λ\/X.env.scope.names.lookup x=Δ .local:=by
 unfold dY at h;simp only[Th,qqq] at h;rcases h with h|h;·exact .inr (T.loc x h)
 ·exact .inl (T.Oy x h)
theorem b8.set{K:KB}(A:b8 K H m Z r σ)(rv:au K H m Z p v):b8 K H m Z (r.set i (Δ p)) (σ.set i (Δ v)):=by
 refine⟨by rw[R4,R4];exact A.len,λj q h=>?_⟩;by_cases hj:i=j
 ·subst hj;have hi:i < r.length:=by have:=(qqz h).1;rwa [R4] at this
  rw[QC hi] at h;cases h;exact⟨v,by rw[QC (by rw[<-A.len];exact hi)],rv⟩
 ·rw[Rm hj] at h;obtain⟨w',e,r'⟩:=A.at_ j q h;exact⟨w',by rw[Rm hj];exact e,r'⟩
theorem DI(h:PE X x (tE (ae X kt) Z (aa C e))):PS X (.Return (Δ x) pos) (tS (ae X kt) Z (aX C (.ret e))):=by refine PS.imp (yx h) ?_;rintro D σ H ⟨m,r,st,ar,as,h⟩;rw[hU] at h;exact⟨m,r,st,ar,as,(Ok.bind h).mono λp st1 m1 H1 br aS h1=>Ok.here h1 aS⟩
theorem Gq:PS X (.Return Θ pos) (tS (ae X kt) Z (aX C .zR)):=by refine PS.imp Bb ?_;rintro D σ H ⟨m,r,st,ar,as,h⟩;rw[uV] at h;exact Ok.here h as .aU rfl
theorem qk(h:iT x=Ξ):S3 x t line env=pure Ξ:=by
 cases x<;>first
  |rfl
  |exact absurd (show Λ=Ξ from h) Ql.symm
theorem Kl(T:dO X kt g C)(hi:g.N[i]?=Δ x)(hl:dY g x=Λ)(hc:iT v=Ξ)(h:PE X v (tE (ae X kt) Z (aa C e))):PS X (.Assign [.Name x p] v pos) (tS (ae X kt) Z (aX C (.set i e))):=by refine PS.imp (tM (i:=i) (by rw[T.N];exact T.nd) (by rw[T.N];exact hi) (T.vi hl) h (qk hc) (T.Gp hl)) ?_;rintro D σ H ⟨m,r,st,ar,as,h⟩;rw[dC] at h;refine⟨m,r,st,ar,as,(Ok.bind h).mono λq st1 m1 H1 br aS h1 v rv=>?_⟩;exact Ok.here h1 aS (σ.set i (Δ v)) ((ar.le br).set rv)
theorem Gr(hc:iT x=Ξ)(h:PE X x (tE (ae X kt) Z (aa C e))):PS X (.Expr x pos) (tS (ae X kt) Z (aX C (.expr e))):=by refine PS.imp (vA h (qk hc)) ?_;rintro D σ H ⟨m,r,st,ar,as,h⟩;rw[uZ] at h;refine⟨m,r,st,ar,as,(Ok.bind h).mono λq st1 m1 H1 br aS h1 v rv=>?_⟩;exact Ok.here h1 aS σ (ar.le br)
theorem ah.setAt{K:KB}(r:au K H m Z p v):∀{xs} {us} (j),ah K H m Z xs us->ah K H m Z (xs.set j p) (us.set j v)
 |[],us,j,h=>by cases (show us=[] from h);exact rfl|x::xs,us,j,h=>by obtain⟨u,Cs,rfl,r1,rs⟩:=(show ∃v vs,us=v::vs/\au K H m Z x v/\ah K H m Z xs vs from h);cases j with|zero=>exact⟨v,Cs,rfl,r,rs⟩|succ j=>exact⟨u,Cs.set j v,rfl,r1,ah.setAt r j rs⟩
theorem Km(hl:(ap.endLine==cp.line)=Λ)(hc:isCall o=Ξ)(ho:PE X o (tE (ae X kt) Z (aa C a)))(hx:PE X x (tE (ae X kt) Z (aa C e)))(hs:notStar x=Λ):
  PS X (.Expr (.Call (.Attribute o "append" ap) [x] [] cp) pos) (tS (ae X kt) Z (aX C (.app a e))):=by
 have s1:P5 [x] X.env=[(Ξ,eval x X.env)]:=bu hs;refine PS.imp (vA (yV PySem.F.plainAttrs_list PySem.F.slot_list_append PySem.F.type_list_append oo ho (fc hx jB hs) (iV hc) (by rw[s1];rfl) hl s1 rfl) rfl) ?_;rintro D σ H ⟨m,r,st,ar,as,h⟩;rw[xH] at h;refine⟨m,r,st,ar,as,(Ok.bind h).mono λy st1 m1 H1 br aS h1 v rv=>?_⟩;obtain⟨aD,e1,h2,cu⟩:=Ok.of (Ok.bind h1) aS;clear cu;obtain⟨l,us,rfl,hq,rs⟩:=cy aS e1 rv;refine⟨.inl ⟨rfl,us,.inl hq⟩,m1,r,st1,ar.le br,aS,?_⟩;show Ok (ae X kt) Z (aG C [e] r st1) m1 H1 _;simp only[aY,aP];cases hr:aa C e r st1 with
 |ex x s=>rw[hr] at h2;exact h2|no=>rw[hr] at h2;exact(show False from h2).elim|ok w aB=>
  rw[hr] at h2;simp only[ag] at h2 ⊢;intro m2 H2 cS cB vs fe;obtain⟨u,rfl,ru⟩:=mM fe;obtain⟨cf,e2,h3,cu⟩:=Ok.of (Ok.bind (Ok.le h2 cS)) cB;clear cu;unfold Fh at e2;split at e2
  ·rename_i n;split at e2
   ·rename_i xs Ki;split at e2;·rename_i fH;cases e2;obtain⟨b,hb,eb⟩:=rv.le cS;cases eb;obtain⟨b',fh,zs,hz,rz⟩:=cB.at_ n _ Ki;rw[hb] at fh;cases fh;obtain⟨kZ,kN⟩:=cB.write (ho:=.lst (zs++[u])) (o':=.lst (xs++[w])) Ki hb λH' e _ f=>⟨_,e,(rz.mono f).append ⟨u,[],rfl,f _ _ ru,rfl⟩⟩;refine⟨l,zs,u,rfl,rfl,hz,by rw[rz.length,<-bY];exact fH,?_⟩;exact h3 m2 _ kZ kN σ (((ar.le br).le cS).le kZ)
    ·cases e2
   ·cases e2
  ·cases e2
def Kn:Ij:=λo i v H Q=>∃a H4,o=.ref a/\qX H a i v H4/\Q H4
theorem Cy(hu:X.A.units+100 < cLine):wC X Kn:=by intro η s σ H o i v ov iv u Q I ro ri rv h;obtain⟨a,H4,rfl,g,q⟩:=h;cases ro;exact wW (by lia) I g ri rv λs4 I4=>⟨H4,I4,q⟩
theorem Cz(h:wC X t)(h':wC X t'):wC X (λo i v H Q=>t o i v H Q\/t' o i v H Q):=by
 intro η s σ H o i v ov iv u Q I ro ri rv q;rcases q with q|q;·exact h η s σ H o i v ov iv u Q I ro ri rv q
 ·exact h' η s σ H o i v ov iv u Q I ro ri rv q
theorem Gs(hp:wC X t)(ho:PE X o td)(hi:PE X i ty)(hv:PE X value tv)(hs:S3 value (Δ (.Subscript o i pos')) pos.line X.env=pure Ξ):
  PS X (.Assign [.Subscript o i pos'] value pos) (λD σ H=>tv σ H λv H1=>td σ H1 λx H2=>ty σ H2 λy H3=>t x y v H3 λH4=>D.nx σ H4):=by
 intro η s σ H D I h;refine wpAny_Assign_Subscript (bG (hv η s σ H _ I h) λr s1 ⟨v,H1,I1,rv,q1⟩=>bG (ho η s1 σ H1 _ I1 q1) λu s2 ⟨x,H2,I2,rx,q2⟩=>bG (hi η s2 σ H2 _ I2 q2) λiv s3 ⟨y,H3,I3,ry,q3⟩=>?_) hs;exact bG (hp η s3 σ H3 x y v u iv r _ I3 rx ry rv q3) λ_ s4 ⟨H4,I4,q4⟩=>⟨σ,H4,I4,q4⟩
theorem Ko(T:Good X kt g C)(hc:iT v=Ξ)(ho:PE X o (tE (ae X kt) Z (aa C a)))(hk:PE X k (tE (ae X kt) Z (aa C i)))(hv:PE X v (tE (ae X kt) Z (aa C e))):
  PS X (.Assign [.Subscript o k pos'] v pos) (tS (ae X kt) Z (aX C (.put a i e))):=by
 refine PS.imp (Gs (Cz set_list (Cy T.hu)) ho hk hv (qk hc)) ?_;rintro D σ H ⟨m,r,st,ar,as,h⟩;rw[xI] at h;refine⟨m,r,st,ar,as,(Ok.bind h).mono λw st1 m1 H1 br aS h1 vw ik=>?_⟩;refine⟨m1,r,st1,ar.le br,aS,(Ok.bind h1).mono λx aB m2 H2 cS cB h2 vx rx=>?_⟩;refine⟨m2,r,aB,(ar.le br).le cS,cB,(Ok.bind h2).mono λy cf m3 H3 kZ kN h3 vy ry=>?_⟩;obtain⟨lA,e2,h4,cu⟩:=Ok.of (Ok.bind h3) kN;clear cu;have OA:=(ik.le cS).le kZ;have OB:=((ar.le br).le cS).le kZ;unfold Fi at e2;split at e2
 ·rename_i n;obtain⟨ob,zF,e5⟩:=bT e2;clear e2;obtain⟨ob',e3,rfl⟩:=dE e5;clear e5;obtain⟨b,hb,eb⟩:=rx.le kZ;cases eb;obtain⟨b',fh,ao⟩:=kN.at_ n _ zF;rw[hb] at fh;cases fh;cases ob with
  |ins c fs=>cases e3|qI=>cases e3|lst xs=>
   obtain⟨zs,hz,rz⟩:=ao;unfold JP at e3;dsimp only at e3;split at e3;·rename_i j;obtain⟨q,hq,rfl⟩:=dE e3;cases (show vy=.int j from ry);obtain⟨ny,nQ⟩:=kN.write (ho:=.lst (zs.set q vw)) (o':=.lst (xs.set q w)) zF hb λH' e _ f=>⟨_,e,(rz.mono f).setAt (f _ _ OA) q⟩;refine .inl ⟨b,zs,j,q,rfl,rfl,hz,by rw[rz.length];exact hq,?_⟩;exact h4 m3 _ ny nQ σ (OB.le ny)
   ·cases e3
  |dK kvs=>
   obtain⟨us,hu,rs⟩:=ao;have e4:(if kvs.length < aC then(keyOf y).map λk=>O.dK (nO kvs k w) else Θ)=Δ ob':=e3;split at e4;·rename_i fH;obtain⟨kk,xa,rfl⟩:=dE e4;rw[ry.key xa];obtain⟨ny,nQ⟩:=kN.write (ho:=.dK (putK us kk vw)) (o':=.dK (nO kvs kk w)) zF hb λH' e _ f=>⟨_,e,(rs.mono f).put (f _ _ OA)⟩;refine .inr ⟨b,_,rfl,qX.k hu (by rw[rs.length,<-bY];exact fH),?_⟩;exact h4 m3 _ ny nQ σ (OB.le ny)
   ·cases e4
  |dT kvs=>
   obtain⟨us,hu,rs⟩:=ao;have e4:(if kvs.length < aC then(jn y).map λk=>O.dT (nO kvs k w) else Θ)=Δ ob':=e3;split at e4;·rename_i fH;obtain⟨kk,xa,rfl⟩:=dE e4;obtain⟨bk,rfl,hbk⟩:=ry.jn xa;obtain⟨ny,nQ⟩:=kN.write (ho:=.dT (putK us kk vw)) (o':=.dT (nO kvs kk w)) zF hb λH' e _ f=>⟨_,e,(rs.mono f).put (f _ _ OA)⟩;refine .inr ⟨b,_,rfl,qX.t hu hbk (by rw[rs.length,<-bY];exact fH),?_⟩;exact h4 m3 _ ny nQ σ (OB.le ny)
   ·cases e4
 ·cases e2
theorem aM.j8{K:KB}{H:Hp}{m:List Addr}{f:Str}{p:P}{v:V}(rp:au K H m Z p v):∀{fs:List (Str×P)} {us:List (Str×V)},aM K H m Z fs us->aM K H m Z (j8 f p fs) (eW f v us)
 |[],us,h=>by cases (show us=[] from h);exact⟨v,[],rfl,rp,rfl⟩|(k,q)::fs,us,h=>by
  obtain⟨w,ws,rfl,r,rs⟩:=(show ∃v vs,us=(k,v)::vs/\au K H m Z q v/\aM K H m Z fs vs from h);show aM K H m Z (if k=f then(k,p)::fs else(k,q)::Y.j8 f p fs) (if k=f then(k,v)::ws else(k,w)::eW f v ws);by_cases hk:k=f;·rw[if_pos hk,if_pos hk];exact⟨v,ws,rfl,rp,rs⟩
  ·rw[if_neg hk,if_neg hk];exact⟨w,_,rfl,r,aM.j8 rp rs⟩
theorem CA:S3 v (Δ (.Attribute o f p)) line env=pure Ξ:=by cases v<;>rfl
theorem Gu(T:Good X kt g C)(hf:g.vU c f=Λ)(h1:g.N[i]?=Δ x)(h2:g.tD x=Λ)(h3:aH x=Λ)(hv:PE X v (tE (ae X kt) Z (aa C e))):
  PS X (.Assign [.Attribute (.Name x p) f pos'] v pos) (tS (ae X kt) Z (aX C (.pW c f i e))):=by
 refine PS.imp (Ed (oS (Z:=Z) (kt:=kt) T h1 h2 h3) hv CA) ?_;rintro D σ H ⟨m,r,st,ar,as,h⟩;rw[mo] at h;refine⟨m,r,st,ar,as,(Ok.bind h).mono λw st1 m1 H1 br aS h1 vw ik=>?_⟩;refine⟨m1,r,st1,ar.le br,aS,?_⟩;rw[fz];refine(Ok.bind h1).mono λx aB m2 H2 cS cB h2 vx rx=>?_;obtain⟨cf,e2,h4,_⟩:=Ok.of (Ok.bind h2) cB;obtain⟨⟨n,fs⟩,e3,e4⟩:=bT e2;split at e4
 ·rename_i fH;cases e4;obtain⟨a,A,dx,us,rfl,hm,rfl,hs,g1,g2,g3,g4⟩:=qg cB rx e3;obtain⟨A',k1,k2,k3⟩:=T.fld c f hf;rw[show PN X.K PL c=Δ (Δ (.ref A)) from g1] at k1;cases k1;have iZ:dx≠a:=by rintro rfl;rw[g2] at g3;cases g3
  obtain⟨ny,nQ⟩:=cB.write (ho:=.ins A dx (eW f vw us)) (o':=.ins c (j8 f w fs)) hs hm λH' e k f=>⟨A,dx,_,g1,e,k _ _ iZ g3,(g4.mono f).j8 (f _ _ (ik.le cS))⟩;refine⟨a,A,dx,us,rfl,g2,k2,k3,by rw[g4.length];exact fH,?_⟩;exact h4 m2 _ ny nQ σ (((ar.le br).le cS).le ny)
 ·cases e4
theorem Gv(T:Good X kt g C)(hf:g.vU c f=Λ)(h1:g.N[i]?=Δ x)(h2:g.tD x=Λ)(h3:aH x=Λ):
  PS X (.AugAssign (.Attribute (.Name x p) f Eb) .Add (.Constant (.int k) j kp) pos) (tS (ae X kt) Z (aX C (.uF c f i k))):=by
 refine PS.imp (wM (oS (Z:=Z) (kt:=kt) T h1 h2 h3) pB Ee) ?_;rintro D σ H ⟨m,r,st,ar,as,h⟩;rw[mq] at h;refine⟨m,r,st,ar,as,?_⟩;rw[fz];refine(Ok.bind h).mono λx aB m2 H2 cS cB h2 vx rx=>?_;obtain⟨cf,e2,h4,_⟩:=Ok.of (Ok.bind h2) cB;obtain⟨⟨n,fs⟩,e3,e4⟩:=bT e2;obtain⟨C9,e5,e6⟩:=bT e4;split at e6
 ·rename_i fH;cases e6;obtain⟨a,A,dx,us,rfl,hm,rfl,hs,g1,g2,g3,g4⟩:=qg cB rx e3;obtain⟨A',k1,k2,k3⟩:=T.fld c f hf;rw[show PN X.K PL c=Δ (Δ (.ref A)) from g1] at k1;cases k1;have iZ:dx≠a:=by rintro rfl;rw[g2] at g3;cases g3
  unfold Fo at e5;split at e5;·rename_i i' hl;cases e5;obtain⟨w,hw,ik⟩:=(aM.look (f:=f) g4).1 _ hl;cases (show w=.int i' from ik);obtain⟨ny,nQ⟩:=cB.write (ho:=.ins A dx (eW f (.int (i'+k)) us)) (o':=.ins c (j8 f (.d (.int (i'+k))) fs)) hs hm λH' e k f=>⟨A,dx,_,g1,e,k _ _ iZ g3,(g4.mono f).j8 (p:=.d (.int _)) (v:=.int _) rfl⟩;refine⟨a,A,dx,us,_,rfl,g2,k2,k3,hw,i',k,rfl,rfl,dx,us,g2,by rw[g4.length];exact fH,?_⟩;exact h4 m2 _ ny nQ σ ((ar.le cS).le ny)
  ·cases e5
 ·cases e6
theorem Gw:i5 X [] (tS (ae X kt) Z (ai C [])):=by refine i5.imp Ba ?_;rintro D σ H ⟨m,r,st,ar,as,h⟩;rw[mr] at h;exact Ok.here h as σ ar
theorem CB(h1:PS X x (tS (ae X kt) Z (aX C s)))(h2:i5 X xs (tS (ae X kt) Z (ai C ss))):i5 X (x::xs) (tS (ae X kt) Z (ai C (s::ss))):=by refine i5.imp (lO h1 h2) ?_;rintro D σ H ⟨m,r,st,ar,as,h⟩;rw[c0] at h;refine⟨m,r,st,ar,as,(Ok.bind h).mono λf st1 m1 H1 br aS h1=>?_⟩;cases f with|nx r1=>exact λbZ Kp=>⟨m1,r1,st1,Kp,aS,h1⟩|bk r1=>exact Ok.here h1 aS|ct r1=>exact Ok.here h1 aS|rt v=>exact Ok.here h1 aS
theorem OC(hc:PT X c (tT (ae X kt) Z (bL (aa C ec))))(ha:i5 X a (tS (ae X kt) Z (ai C ea)))(hb:i5 X b (tS (ae X kt) Z (ai C eb))):PS X (.If c a b pos) (tS (ae X kt) Z (aX C (.ifs ec ea eb))):=by refine PS.imp (Ih hc ha hb) ?_;rintro D σ H ⟨m,r,st,ar,as,h⟩;rw[kd] at h;refine⟨m,r,st,ar,as,(Ok.bind h).mono λk st1 m1 H1 br aS h1=>?_⟩;cases k with|true=>exact⟨m1,r,st1,ar.le br,aS,h1⟩|false=>exact⟨m1,r,st1,ar.le br,aS,h1⟩
theorem sr{K:KB}{D:Ends}{st:aW}{k:cE->aW->R Fl}(as:ay K H m Z st)(h:Ok K Z (match f with|.nx r2=>k r2 st|.ct r2=>k r2 st|.bk r2=>R.ok (.nx r2) st|.rt v=>R.ok (.rt v) st) m H (ke K Z D))(hN:∀r σ,b8 K H m Z r σ->Ok K Z (k r st) m H (ke K Z D)->N σ H):ke K Z {D with nx:=N,ct:=N,bk:=D.nx} f st m H:=by cases f with|nx r2=>exact λσ ar=>hN r2 σ ar h|ct r2=>exact λσ ar=>hN r2 σ ar h|bk r2=>exact Ok.here h as|rt v=>exact Ok.here h as
theorem CC(T:dO X kt g C)(hc:PT X c (tT (ae X kt) Z (bL (aa C ec))))(hb:i5 X body (tS (ae X kt) Z (ai C eb))):PS X (.While c body [] pos) (tS (ae X kt) Z (aX C (.l8 ec eb))):=by refine PS.imp (yy T.own hc hb) ?_;rintro D σ H ⟨m,r,st,ar,as,h⟩;rw[pY] at h;refine⟨λn σ H=>∃m r st,b8 (ae X kt) H m Z r σ/\ay (ae X kt) H m Z st/\Ok (ae X kt) Z (eZ (bL (aa C ec)) (ai C eb) n r st) m H (ke (ae X kt) Z D),⟨jq,m,r,st,ar,as,h⟩,?_⟩;rintro n σ H ⟨m,r,st,ar,as,h⟩;cases n with|zero=>exact(show False from h).elim|succ n=>rw[rS] at h;refine⟨m,r,st,ar,as,(Ok.bind h).mono λk st1 m1 H1 br aS h1=>?_⟩;cases k with|false=>exact Ok.here h1 aS σ (ar.le br)|true=>refine⟨λbZ H'=>∃m r st,b8 (ae X kt) H' m Z r bZ/\ay (ae X kt) H' m Z st/\Ok (ae X kt) Z (eZ (bL (aa C ec)) (ai C eb) n r st) m H' (ke (ae X kt) Z D),λbZ H' q=>⟨n,RT n,q⟩,?_⟩;refine⟨m1,r,st1,ar.le br,aS,(Ok.bind (show Ok (ae X kt) Z ((ai C eb r st1).bind _) m1 H1 _ from h1)).mono λf aB m2 H2 cS cB h2=>?_⟩;exact sr (k:=λr2 aB=>eZ (bL (aa C ec)) (ai C eb) n r2 aB) cB h2 λr2 Hh A8 q=>⟨m2,r2,aB,A8,cB,q⟩
theorem Ar(T:dO X kt g C)(hs:b9 iter=Ξ)(hw:PI X tg iter (tW (ae X kt) Z (b7 C w)))(hg:PG X tg gt)(Gc:∀(p:P) (v:V) (m:List Addr) (H:Hp) (r r1:cE) (σ:L2.St) (Q:L2.St->Hp->Prop),au (ae X kt) H m Z p v->b8 (ae X kt) H m Z r σ->me t p r=Δ r1->(∀bZ,b8 (ae X kt) H m Z r1 bZ->Q bZ H)->gt v σ H Q)(hb:i5 X body (tS (ae X kt) Z (ai C eb))):
  PS X (.For tg iter body [] pos) (tS (ae X kt) Z (aX C (.l7 t w eb))):=by
 refine PS.imp (pG T.own T.calm hw hg hb (λy=>?_)) ?_
 ·cases iter<;>first
   |rfl
   |exact absurd (show Λ=Ξ from hs) Ql.symm
 rintro D σ H ⟨m,r,st,ar,as,h⟩;rw[mn] at h;refine⟨m,r,st,ar,as,(Ok.bind h).mono λps st1 m1 H1 br aS h1 J wk=>?_⟩;refine⟨λi k σ H=>k=ps.length - i/\i<=ps.length/\∃m r st,Le (ae X kt) m1 H1 m H/\b8 (ae X kt) H m Z r σ/\ay (ae X kt) H m Z st/\Ok (ae X kt) Z (forL (me t) (ai C eb) (ps.drop i) r st) m H (ke (ae X kt) Z D),⟨ps.length,by simp,QH _,m1,r,st1,Le.refl,ar.le br,aS,by rw[Sd];exact h1⟩,?_⟩;rintro j k σ H ⟨rfl,hj,m,r,st,le,ar,as,h⟩;obtain⟨w1,w2⟩:=wk m H Z le (λa ha=>.inl ha) j;by_cases fH:j < ps.length;·have Hw:j < ps.length:=fH;obtain⟨go,yl⟩:=w1 ps[j] (PV Hw);have cu:ps.drop j=ps[j]::ps.drop (j+1):=RF Hw;rw[cu,oK] at h;refine .inr ⟨go,λbZ H'=>∃m r st,Le (ae X kt) m1 H1 m H'/\b8 (ae X kt) H' m Z r bZ/\ay (ae X kt) H' m Z st/\Ok (ae X kt) Z (forL (me t) (ai C eb) (ps.drop (j+1)) r st) m H' (ke (ae X kt) Z D),λbZ H' q=>⟨ps.length - (j+1),Sa _ _ fH,rfl,fH,q⟩,λy H' hy=>?_⟩;obtain⟨sm,ry'⟩:=yl y H' hy;have vf:Le (ae X kt) m H m H':=Le.same sm;replace le:=le.trans vf;replace as:=as.same sm;replace ar:=ar.le vf;cases hr:me t ps[j] r with|none=>rw[hr] at h;exact(show False from h).elim|some r1=>rw[hr,dW,ag] at h;refine Gc _ _ m H' r r1 σ _ ry' ar hr λbZ Kp=>⟨m,r1,st,Kp,as,(Ok.bind (Ok.le h vf)).mono λf aB m2 H2 cS cB h3=>?_⟩;exact sr (k:=λr2 aB=>forL (me t) (ai C eb) (ps.drop (j+1)) r2 aB) cB h3 λr2 Hh A8 q=>⟨m2,r2,aB,le.trans cS,A8,cB,q⟩
 ·have e:j=ps.length:=by lia
  subst e;rw[Sl,zZ] at h;exact .inl ⟨w2 rfl,Ok.here h as σ ar⟩
theorem Kq(T:dO X kt g C)(hi:g.N[i]?=Δ x)(hl:dY g x=Λ)(hs:b9 iter=Ξ)(hw:PI X (.Name x p) iter (tW (ae X kt) Z (b7 C w)))(hb:i5 X body (tS (ae X kt) Z (ai C eb))):
  PS X (.For (.Name x p) iter body [] pos) (tS (ae X kt) Z (aX C (.l7 (.nm i) w eb))):=
 Ar T hs hw (g6 (i:=i) (by rw[T.N];exact T.nd) (by rw[T.N];exact hi) (T.vi hl) (T.Gp hl)) (λp v m H r r1 σ Q rp ar e q=>by cases e;exact q _ (ar.set rp)) hb
theorem Gx(T:dO X kt g C)(hi:g.N[i]?=Δ x)(hl:dY g x=Λ)(zg:g.N[j]?=Δ y)(ow:dY g y=Λ)(hs:b9 iter=Ξ)(hw:PI X (.Tuple [.Name x p,.Name y p'] k p2) iter (tW (ae X kt) Z (b7 C w)))(hb:i5 X body (tS (ae X kt) Z (ai C eb))):
  PS X (.For (.Tuple [.Name x p,.Name y p'] k p2) iter body [] pos) (tS (ae X kt) Z (aX C (.l7 (.two i j) w eb))):=by
 have nm:∀{z:Str} {a:Nat} {q:Pos},g.N[a]?=Δ z->dY g z=Λ->PG X (.Name z q) (n9 a):=λ{z a q} h1 h2=>g6 (i:=a) (by rw[T.N];exact T.nd) (by rw[T.N];exact h1) (T.vi h2) (T.Gp h2);refine Ar T hs hw (tK (n:=2) T.calm (fi (nm hi hl) (fi (nm zg ow) pE))) (λq v m H r r1 σ Q rp ar e hq=>?_) hb;unfold me at e;dsimp only at e;split at e;·rename_i a b;cases e;obtain⟨c,us,rfl,hc,v1,vs1,e1,rv1,v2,vs2,e2,Ox,e3⟩:=rp;subst e3 e2 e1;exact⟨c,_,rfl,de.of hc,rfl,v1,[v2],rfl,v2,[],rfl,rfl,hq _ ((ar.set (p:=.d a) (show au (ae X kt) H m Z (.d a) v1 from rv1)).set (p:=.d b) (show au (ae X kt) H m Z (.d b) v2 from Ox))⟩
 ·cases e
theorem Gy(T:dO X kt g C)(hi:g.N[i]?=Δ x)(hl:dY g x=Λ)(hs:b9 iter=Ξ)(hw:PE X iter (tE (ae X kt) Z (aa C e)))(hb:i5 X body (tS (ae X kt) Z (ai C eb))):
  PS X (.For (.Name x p) iter body [] pos) (tS (ae X kt) Z (aX C (.gz (.nm i) e eb))):=by
 refine PS.imp (pG T.own T.calm (vB hw) (g6 (i:=i) (by rw[T.N];exact T.nd) (by rw[T.N];exact hi) (T.vi hl) (T.Gp hl)) hb (λy=>?_)) ?_
 ·cases iter<;>first
   |rfl
   |exact absurd (show Λ=Ξ from hs) Ql.symm
 rintro D σ H ⟨m,r,st,ar,as,h⟩;rw[uW] at h;refine⟨m,r,st,ar,as,(Ok.bind h).mono λx0 st1 m1 H1 br aS h1 v rv=>?_⟩;split at h1
 ·rename_i n;obtain⟨a,ha,rfl⟩:=rv;have OD:∃us,H1 a=Δ (.lst us):=by have h2:Ok (ae X kt) Z (gz n (me (.nm i)) (ai C eb) (999999+1) 0 r st1) m1 H1 (ke (ae X kt) Z D):=h1;rw[oM] at h2;cases ho:zW n st1 0 with|none=>rw[ho] at h2;exact(show False from h2).elim|some o=>obtain⟨us,hu,_⟩:=qj aS ha ho;exact⟨us,hu⟩
  obtain⟨OE,OF⟩:=OD;refine⟨a,rfl,⟨OE,.inl (.inl OF)⟩,?_⟩;refine⟨λj k σ H=>∃m r st,Le (ae X kt) m1 H1 m H/\b8 (ae X kt) H m Z r σ/\ay (ae X kt) H m Z st/\Ok (ae X kt) Z (gz n (me (.nm i)) (ai C eb) k j r st) m H (ke (ae X kt) Z D),⟨jq,m1,r,st1,Le.refl,ar.le br,aS,h1⟩,?_⟩;rintro j k σ H ⟨m,r,st,le,ar,as,h⟩;have OG:m[n]?=Δ a:=by obtain⟨t,et⟩:=le.pre;rw[et,P8 (qqz ha).1];exact ha
  cases k with|zero=>exact(show False from h).elim|succ k=>rw[oM] at h;cases ho:zW n st j with|none=>rw[ho] at h;exact(show False from h).elim|some o=>rw[ho] at h;obtain⟨us,hu,q0,q1⟩:=qj as OG ho;cases o with|none=>exact .inl ⟨⟨us,.inl (.inl hu),q0 rfl⟩,Ok.here (show Ok (ae X kt) Z (R.ok (Fl.nx r) st) m H (ke (ae X kt) Z D) from h) as σ ar⟩|some q=>obtain⟨vx,Kr,rx⟩:=q1 q rfl;refine .inr ⟨⟨us,vx,.inl (.inl hu),Kr⟩,λbZ H'=>∃m r st,Le (ae X kt) m1 H1 m H'/\b8 (ae X kt) H' m Z r bZ/\ay (ae X kt) H' m Z st/\Ok (ae X kt) Z (gz n (me (.nm i)) (ai C eb) k (j+1) r st) m H' (ke (ae X kt) Z D),λbZ H' z=>⟨k,RT k,z⟩,λy H' hy=>?_⟩;obtain⟨rfl,hx⟩:=hy;have rn:=hx us (.inl (.inl hu));rw[Kr] at rn;cases rn;have h2:Ok (ae X kt) Z ((ai C eb (r.set i (Δ q)) st).bind _) m H' (ke (ae X kt) Z D):=h;refine⟨m,r.set i (Δ q),st,ar.set rx,as,(Ok.bind h2).mono λf aB m2 H2 cS cB h3=>?_⟩;exact sr (k:=λr2 aB=>gz n (me (.nm i)) (ai C eb) k (j+1) r2 aB) cB h3 λr2 Hh A8 q=>⟨m2,r2,aB,le.trans cS,A8,cB,q⟩
 ·exact(show False from h1).elim
section
variable{K:KB}{H H':Hp}{m:List Addr}
mutual
theorem aI.chg(f:∀a u,H a=Δ u->(∀o us,u≠.cC o (.dK us))->H' a=Δ u):∀{x:D} {v:V},aI K H m Z x v->aI K H' m Z x v
 |.aU,_,h=>h|.bl _,_,h=>h|.int _,_,h=>h|.str _,_,h=>h|.tup xs,v,h=>by obtain⟨a,us,e,q,r⟩:=(show ∃a us,v=.ref a/\H a=Δ (.tup us)/\aj K H m Z xs us from h);exact⟨a,us,e,f _ _ q (λ_ _ z=>nomatch z),aj.chg f r⟩
 |.pl xs,v,h=>by
  obtain⟨a,us,e,q,hm,hz,r⟩:=(show ∃a us,v=.ref a/\Rd H a (.lst us)/\a∉m/\a∉Z/\aj K H m Z xs us from h);refine⟨a,us,e,?_,hm,hz,aj.chg f r⟩;rcases q with q|⟨o,q⟩;·exact .inl (f _ _ q (λ_ _ z=>nomatch z))
  ·exact .inr ⟨o,f _ _ q (λ_ _ z=>nomatch z)⟩
theorem aj.chg(f:∀a u,H a=Δ u->(∀o us,u≠.cC o (.dK us))->H' a=Δ u):∀{xs:List D} {us:List V},aj K H m Z xs us->aj K H' m Z xs us
 |[],_,h=>h|x::xs,us,h=>by obtain⟨v,vs,e,r,rs⟩:=(show ∃v vs,us=v::vs/\aI K H m Z x v/\aj K H m Z xs vs from h);exact⟨v,vs,e,aI.chg f r,aj.chg f rs⟩
end
mutual
theorem au.chg(f:∀a u,H a=Δ u->(∀o us,u≠.cC o (.dK us))->H' a=Δ u):∀{x:P} {v:V},au K H m Z x v->au K H' m Z x v
 |.d _,_,h=>by rw[au] at h ⊢;exact aI.chg f h|.obj n,v,h=>by rw[au] at h ⊢;exact h|.dw ns,v,h=>by
  rw[au] at h ⊢;obtain⟨a,e,r⟩:=h;refine⟨a,e,?_⟩;rcases r with ⟨o,r⟩|r
  ·exact .inl ⟨o,f _ _ r (λ_ _ z=>nomatch z)⟩
  ·exact .inr r
 |.fn k dB,v,h=>by rw[au] at h ⊢;obtain⟨a,c,ir,e,q,hc,r⟩:=h;exact⟨a,c,ir,e,q,f _ _ hc (λ_ _ z=>nomatch z),ah.chg f r⟩|.lf k,v,h=>by rw[au] at h ⊢;obtain⟨a,c,ct,e,q,r⟩:=h;exact⟨a,c,ct,e,f _ _ q (λ_ _ z=>nomatch z),f _ _ r (λ_ _ z=>nomatch z)⟩
theorem ah.chg(f:∀a u,H a=Δ u->(∀o us,u≠.cC o (.dK us))->H' a=Δ u):∀{xs:List P} {us:List V},ah K H m Z xs us->ah K H' m Z xs us
 |[],_,h=>h|x::xs,us,h=>by obtain⟨v,vs,e,r,rs⟩:=(show ∃v vs,us=v::vs/\au K H m Z x v/\ah K H m Z xs vs by rw[ah] at h;exact h);rw[ah];exact⟨v,vs,e,au.chg f r,ah.chg f rs⟩
end
end
theorem Gz{K:KB}(e1:H1 d=Δ (.dK us))(hm:m1[n]?=Δ d)(rs:aM K H1 m1 Z kvs us)(le:Le K m1 (upd H1 d (.cC o (.dK us))) m2 H2)(as:ay K H2 m2 Z aB):H2 d=Δ (.cC o (.dK us))/\Le K m1 H1 m2 (upd H2 d (.dK us))/\ay K (upd H2 d (.dK us)) m2 Z (aB.set n (.dK kvs))/\∀p v,au K H2 m2 Z p v->au K (upd H2 d (.dK us)) m2 Z p v:=by
 have e2:H2 d=Δ (.cC o (.dK us)):=le.cC _ _ _ aF;have dm:d∈m1:=RI hm;have f:∀a u,H2 a=Δ u->(∀o us,u≠.cC o (.dK us))->upd H2 d (.dK us) a=Δ u:=λa u q z=>by rw[aw (λw'=>by rw[w',e2] at q;exact z o us (P4 q).symm)];exact q
 have up:∀{a:Addr} {u:HO},H1 a=Δ u->a≠d->upd H1 d (.cC o (.dK us)) a=Δ u:=λq z=>by rw[aw z];exact q
 have lf:Le K m1 H1 m2 (upd H2 d (.dK us)):=by
  refine⟨le.pre,λa xs q=>?_,λa u q ha hu=>?_,λa ha=>?_,λa q=>?_,λa q=>?_,λa ob u q=>?_,λa φ q=>?_,λa ps q=>?_⟩;·exact f _ _ (le.tup _ _ (up q (λz=>by rw[z,e1] at q;cases q))) (λ_ _ z=>nomatch z)
  ·have hd:a≠d:=λz=>ha (by rw[z];exact dm);rw[aw hd];exact le.keep _ _ (up q hd) ha hu
  ·rcases le.new a ha with z|z;·exact .inl z
   ·by_cases hd:a=d;·rw[hd];exact .inl dm
    ·rw[aw hd] at z;exact .inr z
  ·by_cases hd:a=d;·rw[hd,aF];exact λz=>nomatch z
   ·rw[aw hd];exact le.lj _ (by rw[aw hd];exact q)
  ·exact hW (λ_ z=>nomatch z) (le.yn _ (hW (λ_ z=>nomatch z) q))
  ·have hd:a≠d:=λz=>by rw[z,e1] at q;cases q
   rw[aw hd];exact le.cC _ _ _ (up q hd)
  ·exact f _ _ (le.ext _ _ (up q (λz=>by rw[z,e1] at q;cases q))) (λ_ _ z=>nomatch z)
  ·obtain⟨more,w'⟩:=le.iz _ _ (up q (λz=>by rw[z,e1] at q;cases q));exact⟨more,f _ _ w' (λ_ _ z=>nomatch z)⟩
 have GA:m2[n]?=Δ d:=by obtain⟨t,et⟩:=le.pre;rw[et,P8 (qqz hm).1];exact hm
 refine⟨e2,lf,⟨by rw[R4];exact as.len,as.nd,λk ob hk=>?_,λb hb=>hW (λ_ z=>nomatch z) (as.zt b hb),as.zm,λt ht=>?_⟩,λp v z=>z.chg f⟩
 ·by_cases Ft:n=k
  ·subst Ft;have fH:n < aB.length:=by rw[<-as.len];exact(qqz GA).1
   rw[QC fH] at hk;cases hk;exact⟨d,GA,us,aF,rs.mono λp v z=>z.le lf⟩
  ·rw[Rm Ft] at hk;obtain⟨b,q,rr⟩:=as.at_ k ob hk;have OH:b≠d:=by rintro rfl;obtain⟨l1,e1⟩:=qqz GA;obtain⟨l2,e2⟩:=qqz q;exact Ft (gj as.nd l1 l2 (e1.trans e2.symm))
   refine⟨b,q,rr.mono (λb' u fh hu=>?_) λp v z=>z.chg f⟩;rw[aw (λz=>by
    rcases fh with w1|w1;·exact OH (w1▸z)
    ·rw[z,e2] at w1;cases w1)]
   exact hu
 ·obtain⟨ps,h1,h2⟩:=as.tab t ht;exact⟨ps,f _ _ h1 (λ_ _ z=>nomatch z),gw.same (λa φ z=>f _ _ z (λ_ _ w'=>nomatch w')) h2⟩
theorem ke.xg{D:Ends}(e1:H1 d=Δ (.dK us))(hm:m1[n]?=Δ d)(rs:aM (ae X kt) H1 m1 Z kvs us)(nf:NF X d)(le:Le (ae X kt) m1 (upd H1 d (.cC o (.dK us))) m2 H2)(as:ay (ae X kt) H2 m2 Z aB)(h:∀m' H',Le (ae X kt) m1 H1 m' H'->ay (ae X kt) H' m' Z (aB.set n (.dK kvs))->ke (ae X kt) Z D fl (aB.set n (.dK kvs)) m' H'):ke (ae X kt) Z (oz X D) fl aB m2 H2:=by obtain⟨e2,lf,cz,f⟩:=Gz e1 hm rs le as;have q:=h m2 _ lf cz;have ra:∀{r:cE} {σ:L2.St},b8 (ae X kt) H2 m2 Z r σ->b8 (ae X kt) (upd H2 d (.dK us)) m2 Z r σ:=λA=>⟨A.len,λi p w'=>let ⟨v,x1,x2⟩:=A.at_ i p w';⟨v,x1,f _ _ x2⟩⟩;cases fl with|nx r=>exact λσ A=>⟨d,o,_,e2,nf,q σ (ra A)⟩|bk r=>exact λσ A=>⟨d,o,_,e2,nf,q σ (ra A)⟩|ct r=>exact λσ A=>⟨d,o,_,e2,nf,q σ (ra A)⟩|rt p=>exact λv A=>⟨d,o,_,e2,nf,q v (f _ _ A)⟩
theorem aM.at_{κ:Type}{K:KB}{m:List Addr}:∀{kvs:List (κ×P)} {us:List (κ×V)} {i:Nat} {k:κ} {v:V},aM K H m Z kvs us->us[i]?=Δ (k,v)->∃p,kvs[i]?=Δ (k,p)/\au K H m Z p v
 |[],us,i,k,v,h,e=>by cases (show us=[] from h);simp at e|(q,p)::kvs,us,i,k,v,h,e=>by obtain⟨v',vs,rfl,r,rs⟩:=(show ∃v vs,us=(q,v)::vs/\au K H m Z p v/\aM K H m Z kvs vs from h);cases i with|zero=>simp at e;obtain⟨rfl,rfl⟩:=e;exact⟨p,rfl,r⟩|succ i=>simpa using aM.at_ rs (by simpa using e)
theorem GB(T:dO X kt g C)(hi:g.N[i]?=Δ x)(hl:dY g x=Λ)(zg:g.N[j]?=Δ y)(ow:dY g y=Λ)(hc:isCall o=Ξ)(Hx:(ap.endLine==cp.line)=Λ)(ho:PE X o (tE (ae X kt) Z (aa C a)))(hb:i5 X body (tS (ae X kt) Z (ai C eb))):
  PS X (.For (.Tuple [.Name x p,.Name y p'] k p2) (.Call (.Attribute o "items" ap) [] [] cp) body [] pos) (tS (ae X kt) Z (aX C (.zS i j a eb))):=by
 have nm:∀{z:Str} {a:Nat} {q:Pos},g.N[a]?=Δ z->dY g z=Λ->PG X (.Name z q) (n9 a):=λ{z a q} h1 h2=>g6 (i:=a) (by rw[T.N];exact T.nd) (by rw[T.N];exact h1) (T.vi h2) (T.Gp h2);refine PS.imp (BQ (pG T.own T.calm (zy ho (iV hc) Hx) (tK (n:=2) T.calm (fi (nm hi hl) (fi (nm zg ow) pE))) hb (λ_=>rfl))) ?_;rintro D σ H ⟨m,r,st,ar,as,h⟩;rw[uX] at h;refine⟨m,r,st,ar,as,(Ok.bind h).mono λx0 st1 m1 H1 br aS h1 v rv=>?_⟩;obtain⟨⟨n,kvs⟩,ek,h2,cu⟩:=Ok.of (Ok.bind h1) aS;clear cu h1;obtain⟨d,us,rfl,pF,hm,rfl,hu,rs⟩:=vZ aS ek rv;dsimp only at h2 pF hm rs;refine⟨d,us,rfl,hu,λob nf=>?_⟩;obtain⟨lel,asl⟩:=aS.write (ho:=.cC ob (.dK us)) (o':=.qI) pF hm (λH' e _ f=>⟨ob,us,e⟩);have rsl:aM (ae X kt) (upd H1 d (.cC ob (.dK us))) m1 Z kvs us:=rs.mono λp v z=>z.le lel;cases hr:ka i j (ai C eb) kvs r (st1.set n .qI) with
 |ex z s=>rw[hr] at h2;exact(show False from h2).elim|no=>rw[hr] at h2;exact(show False from h2).elim|ok f0 jO=>
  rw[hr,l6,ag] at h2;have OI:∀m2 H2,Le (ae X kt) m1 (upd H1 d (.cC ob (.dK us))) m2 H2->ay (ae X kt) H2 m2 Z jO->ke (ae X kt) Z (oz X D) f0 jO m2 H2:=λm2 H2 cS cB=>ke.xg hu hm rs nf cS cB h2;have OJ:Ok (ae X kt) Z (ka i j (ai C eb) kvs r (st1.set n .qI)) m1 (upd H1 d (.cC ob (.dK us))) (ke (ae X kt) Z (oz X D)):=by rw[hr];exact λm2 H2 cS cB=>OI m2 H2 cS cB
  refine⟨λq l σ H=>l=kvs.length - q/\q<=kvs.length/\∃m r st,Le (ae X kt) m1 (upd H1 d (.cC ob (.dK us))) m H/\b8 (ae X kt) H m Z r σ/\ay (ae X kt) H m Z st/\Ok (ae X kt) Z (ka i j (ai C eb) (kvs.drop q) r st) m H (ke (ae X kt) Z (oz X D)),⟨kvs.length,by simp,QH _,m1,r,_,Le.refl,(ar.le br).le lel,asl,by rw[Sd];exact OJ⟩,?_⟩;rintro q l σ H ⟨rfl,hq,m,r,st,le,ar,as,h⟩;have hd:H d=Δ (.cC ob (.dK us)):=le.cC _ _ _ aF;have hlen:us.length=kvs.length:=rs.length.symm▸rfl;by_cases fH:q < kvs.length
  ·have cu:kvs.drop q=kvs[q]::kvs.drop (q+1):=RF fH;rw[cu,xJ] at h;refine .inr ⟨⟨hd,by lia⟩,λbZ H'=>∃m r st,Le (ae X kt) m1 (upd H1 d (.cC ob (.dK us))) m H'/\b8 (ae X kt) H' m Z r bZ/\ay (ae X kt) H' m Z st/\Ok (ae X kt) Z (ka i j (ai C eb) (kvs.drop (q+1)) r st) m H' (ke (ae X kt) Z (oz X D)),λbZ H' z=>⟨kvs.length - (q+1),Sa _ _ fH,rfl,fH,z⟩,λw' H' hy=>?_⟩;obtain⟨t,kk,vv,A2,ht,rfl,rfl⟩:=hy;obtain⟨pp,hpp,rp⟩:=rsl.at_ A2;have epp:kvs[q]=(kk,pp):=by have:=PV fH;rw[hpp] at this;exact(P4 this).symm
   rw[epp] at h;have vf:Le (ae X kt) m H m (upd H t (.tup [kV kk,vv])):=Le.same (aZ ht _);have cz:=as.same (aZ ht (.tup [kV kk,vv]));have le':=le.trans vf;refine⟨t,[kV kk,vv],rfl,de.of aF,rfl,kV kk,[vv],rfl,vv,[],rfl,rfl,?_⟩;have rk:au (ae X kt) (upd H t (.tup [kV kk,vv])) m Z (xw kk) (kV kk):=by cases kk<;>rfl
   refine⟨m,_,st,((ar.le vf).set rk).set (rp.le le'),cz,(Ok.bind (Ok.le h vf)).mono λf aB m2 H2 cS cB h3=>?_⟩;exact sr (k:=λr2 aB=>ka i j (ai C eb) (kvs.drop (q+1)) r2 aB) cB h3 λr2 Hh A8 z=>⟨m2,r2,aB,le'.trans cS,A8,cB,z⟩
  ·have e:q=kvs.length:=by lia
   subst e;rw[Sl,z0] at h;exact .inl ⟨⟨hd,by lia⟩,Ok.here h as σ ar⟩
theorem GC(T:dO X kt g C)(hi:g.N[i]?=Δ x)(hl:dY g x=Λ)(zg:g.N[j]?=Δ y)(ow:dY g y=Λ)(hg:g.gl "enumerate"=Λ)(hs:notStar o=Λ)(ho:PE X o (tE (ae X kt) Z (aa C a)))(hb:i5 X body (tS (ae X kt) Z (ai C eb))):
  PS X (.For (.Tuple [.Name x p,.Name y p'] k p2) (.Call (.Name "enumerate" pe) [o] [] cp) body [] pos) (tS (ae X kt) Z (aX C (.gA i j a eb))):=by
 have nm:∀{z:Str} {a:Nat} {q:Pos},g.N[a]?=Δ z->dY g z=Λ->PG X (.Name z q) (n9 a):=λ{z a q} h1 h2=>g6 (i:=a) (by rw[T.N];exact T.nd) (by rw[T.N];exact h1) (T.vi h2) (T.Gp h2);refine PS.imp (pG T.own T.calm (zv (T.toGood.glob hg) (T.bl _ (by decide+kernel)) (fc ho jB hs) (bu hs)) (tK (n:=2) T.calm (fi (nm hi hl) (fi (nm zg ow) pE))) hb (λ_=>rfl)) ?_;rintro D σ H ⟨m,r,st,ar,as,h⟩;rw[uY] at h;refine⟨m,r,st,ar,as,?_⟩;show Ok (ae X kt) Z (aG C [a] r st) m H _;simp only[aY,aP];cases hr:aa C a r st with
 |ex x s=>rw[hr] at h;exact h|no=>rw[hr] at h;exact h|ok y0 st1=>
  rw[hr] at h;simp only[ag] at h ⊢;intro m1 H1 br aS vs fe;obtain⟨v,nz,rfl,rv,e⟩:=(show ∃v nz,vs=v::nz/\au (ae X kt) H1 m1 Z y0 v/\nz=[] from fe);subst e;have h1:=Ok.le h br;split at h1
  ·rename_i n;obtain⟨a,ha,rfl⟩:=rv;have OD:∃us,H1 a=Δ (.lst us):=by have h2:Ok (ae X kt) Z (gA n i j (ai C eb) (999999+1) 0 r st1) m1 H1 (ke (ae X kt) Z D):=h1;rw[oN] at h2;cases ho:zW n st1 0 with|none=>rw[ho] at h2;exact(show False from h2).elim|some o=>obtain⟨us,hu,_⟩:=qj aS ha ho;exact⟨us,hu⟩
   obtain⟨OE,OF⟩:=OD;refine⟨a,rfl,⟨OE,.inl (.inl OF)⟩,?_⟩;refine⟨λq k σ H=>∃m r st,Le (ae X kt) m1 H1 m H/\b8 (ae X kt) H m Z r σ/\ay (ae X kt) H m Z st/\Ok (ae X kt) Z (gA n i j (ai C eb) k q r st) m H (ke (ae X kt) Z D),⟨jq,m1,r,st1,Le.refl,ar.le br,aS,h1⟩,?_⟩;rintro q k σ H ⟨m,r,st,le,ar,as,h⟩;have OG:m[n]?=Δ a:=by obtain⟨t,et⟩:=le.pre;rw[et,P8 (qqz ha).1];exact ha
   cases k with|zero=>exact(show False from h).elim|succ k=>rw[oN] at h;cases ho:zW n st q with|none=>rw[ho] at h;exact(show False from h).elim|some o=>rw[ho] at h;obtain⟨us,hu,q0,q1⟩:=qj as OG ho;cases o with|none=>exact .inl ⟨⟨us,.inl (.inl hu),q0 rfl⟩,Ok.here (show Ok (ae X kt) Z (R.ok (Fl.nx r) st) m H (ke (ae X kt) Z D) from h) as σ ar⟩|some pq=>obtain⟨vx,Kr,rx⟩:=q1 pq rfl;refine .inr ⟨⟨us,vx,.inl (.inl hu),Kr⟩,λbZ H'=>∃m r st,Le (ae X kt) m1 H1 m H'/\b8 (ae X kt) H' m Z r bZ/\ay (ae X kt) H' m Z st/\Ok (ae X kt) Z (gA n i j (ai C eb) k (q+1) r st) m H' (ke (ae X kt) Z D),λbZ H' z=>⟨k,RT k,z⟩,λw' H' hy=>?_⟩;obtain⟨t,vv,ht,rfl,rfl,hx⟩:=hy;have rn:=hx us (.inl (.inl hu));rw[Kr] at rn;cases rn;have vf:Le (ae X kt) m H m (upd H t (.tup [.int q,vx])):=Le.same (aZ ht _);have cz:=as.same (aZ ht (.tup [.int q,vx]));have h2:Ok (ae X kt) Z ((ai C eb ((r.set i (Δ (.d (.int q)))).set j (Δ pq)) st).bind _) m H (ke (ae X kt) Z D):=h;refine⟨t,[.int q,vx],rfl,de.of aF,rfl,.int q,[vx],rfl,vx,[],rfl,rfl,?_⟩;refine⟨m,_,st,((ar.le vf).set (p:=.d (.int q)) (v:=.int q) rfl).set (rx.le vf),cz,(Ok.bind (Ok.le h2 vf)).mono λf aB m2 H2 cS cB h3=>?_⟩;exact sr (k:=λr2 aB=>gA n i j (ai C eb) k (q+1) r2 aB) cB h3 λr2 Hh A8 z=>⟨m2,r2,aB,(le.trans vf).trans cS,A8,cB,z⟩
  ·exact(show False from h1).elim
theorem As(h1:Kk g (.two i j) tg=Λ):∃x y p p' k p2,tg=.Tuple [.Name x p,.Name y p'] k p2/\g.N[i]?=Δ x/\dY g x=Λ/\g.N[j]?=Δ y/\dY g y=Λ:=by refine ki h1 λ_ _ _ h1=>?_;refine aE h1 λ_ _ h1=>?_;refine aJ h1 λ_ _ h1=>?_;refine aE h1 λ_ _ h1=>?_;refine aJ h1 λ_ _ h1=>?_;simp only[Pw,qqq,PM] at h1;obtain⟨⟨⟨⟨rfl,h6⟩,h7⟩,h8⟩,h9⟩:=h1;exact⟨_,_,_,_,_,_,rfl,h6,h7,h8,h9⟩
variable(C) in
def SSt(s:S):Prop:=∀(kt:KT) (X:Cx) (g:G) (x:Stmt) (Z:List Addr),dO X kt g C->oY g s x=Λ->PS X x (tS (ae X kt) Z (aX C s))
variable(C) in
def OK(s:List S):Prop:=∀(kt:KT) (X:Cx) (g:G) (x:List Stmt) (Z:List Addr),dO X kt g C->nR g s x=Λ->i5 X x (tS (ae X kt) Z (ai C s))
mutual
theorem GD:∀s:S,SSt C s
 |.ret e=>λkt X g x Z T h=>by refine kM h λ_ _ h=>?_;refine gG h λ_ h=>?_;exact DI (az e kt X g _ Z T.toGood h).1|.zR=>λkt X g x Z T h=>by refine kM h λ_ _ h=>?_;rw[Rb] at h;subst h;exact Gq|.set i e=>λkt X g x Z T h=>by refine gJ h λ_ _ _ h=>?_;refine aE h λ_ _ h=>?_;refine aJ h λ_ _ h=>?_;simp only[Pw,qqq,PY,PM] at h;obtain⟨⟨⟨⟨rfl,h1⟩,h2⟩,h3⟩,h4⟩:=h;exact Kl T h1 h2 h4 (az _ kt X g _ Z T.toGood h3).1|.ifs c a b=>λkt X g x Z T h=>by refine B4 h λ_ _ _ _ h=>?_;simp only[Pw] at h;exact OC (az c kt X g _ Z T.toGood h.1.1).2 (dh a kt X g _ Z T h.1.2) (dh b kt X g _ Z T h.2)|.l7 t w b=>λkt X g x Z T h=>by
  refine jz h λ_ _ _ _ _ h=>?_;simp only[Pw,PY,PM] at h;obtain⟨⟨⟨⟨⟨rfl,h1⟩,h2⟩,h3⟩,h4⟩,h5⟩:=h;cases t with
  |tup is=>cases h1|nm i=>refine aJ h1 λ_ _ h1=>?_;·simp only[Pw,qqq] at h1;exact Kq T h1.1 h1.2 h4 (vh w kt X g _ _ Z T.toGood h2 λz=>by rw[z] at h5;simp[Aq] at h5) (dh b kt X g _ Z T h3)
  |two i j=>refine ki h1 λ_ _ _ h1=>?_;refine aE h1 λ_ _ h1=>?_;refine aJ h1 λ_ _ h1=>?_;refine aE h1 λ_ _ h1=>?_;refine aJ h1 λ_ _ h1=>?_;simp only[Pw,qqq,PM] at h1;obtain⟨⟨⟨⟨rfl,h6⟩,h7⟩,h8⟩,h9⟩:=h1;exact Gx T h6 h7 h8 h9 h4 (vh w kt X g _ _ Z T.toGood h2 λ_=>⟨_,_,_,rfl⟩) (dh b kt X g _ Z T h3)
 |.gz t e b=>λkt X g x Z T h=>by refine jz h λ_ _ _ _ _ h=>?_;simp only[Pw,PY,PM] at h;obtain⟨⟨⟨⟨⟨rfl,h1⟩,h2⟩,h3⟩,h4⟩,h5⟩:=h;cases t with|tup is=>cases h1|two i j=>cases h5|nm i=>refine aJ h1 λ_ _ h1=>?_;·simp only[Pw,qqq] at h1;exact Gy T h1.1 h1.2 h4 (az e kt X g _ Z T.toGood h2).1 (dh b kt X g _ Z T h3)
 |.zS i j a b=>λkt X g x Z T h=>by refine jz h λ_ _ _ _ _ h=>?_;refine aO h λ_ _ _ _ h=>?_;refine bb h λ_ _ _ h=>?_;simp only[Pw,qqq,PY,PM] at h;obtain⟨⟨⟨⟨⟨⟨⟨⟨rfl,rfl⟩,rfl⟩,h1⟩,rfl⟩,h2⟩,h3⟩,h4⟩,h5⟩:=h;obtain⟨x,y,p,p',k,p2,rfl,h6,h7,h8,h9⟩:=As h1;exact GB T h6 h7 h8 h9 h2 h3 (az a kt X g _ Z T.toGood h4).1 (dh b kt X g _ Z T h5)|.gA i j a b=>λkt X g x Z T h=>by refine jz h λ_ _ _ _ _ h=>?_;refine aO h λ_ _ _ _ h=>?_;refine aJ h λ_ _ h=>?_;refine aE h λ_ _ h=>?_;simp only[Pw,qqq,PY,PM] at h;obtain⟨⟨⟨⟨⟨⟨⟨⟨rfl,rfl⟩,rfl⟩,h1⟩,rfl⟩,h2⟩,h3⟩,h4⟩,h5⟩:=h;obtain⟨x,y,p,p',k,p2,rfl,h6,h7,h8,h9⟩:=As h1;exact GC T h6 h7 h8 h9 h2 h3 (az a kt X g _ Z T.toGood h4).1 (dh b kt X g _ Z T h5)|.l8 c b=>λkt X g x Z T h=>by refine u7 h λ_ _ _ _ h=>?_;simp only[Pw,PM] at h;obtain⟨⟨rfl,h1⟩,h2⟩:=h;exact CC T (az c kt X g _ Z T.toGood h1).2 (dh b kt X g _ Z T h2)|.expr e=>λkt X g x Z T h=>by refine oR h λ_ _ h=>?_;simp only[Pw,PY] at h;exact Gr h.2 (az e kt X g _ Z T.toGood h.1).1|.app a e=>λkt X g x Z T h=>by refine oR h λ_ _ h=>?_;refine aO h λ_ _ _ _ h=>?_;refine bb h λ_ _ _ h=>?_;refine aE h λ_ _ h=>?_;simp only[Pw,qqq,PY,PM] at h;obtain⟨⟨⟨⟨⟨⟨⟨rfl,rfl⟩,h0⟩,rfl⟩,h1⟩,h2⟩,h3⟩,h4⟩:=h;exact Km h0 h1 (az a kt X g _ Z T.toGood h2).1 (az e kt X g _ Z T.toGood h3).1 h4|.put a i e=>λkt X g x Z T h=>by refine gJ h λ_ _ _ h=>?_;refine aE h λ_ _ h=>?_;refine bX h λ_ _ _ h=>?_;simp only[Pw,PY,PM] at h;obtain⟨⟨⟨⟨rfl,h1⟩,h2⟩,h3⟩,h4⟩:=h;exact Ko T.toGood h4 (az a kt X g _ Z T.toGood h1).1 (az i kt X g _ Z T.toGood h2).1 (az e kt X g _ Z T.toGood h3).1|.raise x=>λkt X g s Z T h=>by refine u6 h λ_ _ _ h=>?_;refine gG h λ_ h=>?_;refine aO h λ_ _ _ _ h=>?_;refine aJ h λ_ _ h=>?_;refine aE h λ_ _ h=>?_;refine cN h λk _ _ h=>?_;simp only[Pw,qqq,PM,Rb] at h;obtain⟨⟨⟨⟨⟨⟨rfl,rfl⟩,rfl⟩,hk⟩,rfl⟩,hr⟩,hgl⟩:=h;cases k with|str msg=>exact PS.imp (T.Oz _ hr hgl _ _ _ _ _ _) λD σ H ⟨m,r,st,_,as,h⟩=>h m H Le.refl as|_=>cases hk
 |.uF c f i k=>λkt X g s Z T h=>by refine Aa h λ_ _ _ _ h=>?_;refine bb h λ_ _ _ h=>?_;refine aJ h λ_ _ h=>?_;refine cN h λ_ _ _ h=>?_;simp only[Pw,qqq] at h;obtain⟨⟨⟨⟨⟨⟨rfl,rfl⟩,h1⟩,h2⟩,h3⟩,h4⟩,rfl⟩:=h;exact Gv T.toGood h1 h2 h3 h4|.uG _ _ _=>λkt X g s Z T h=>nomatch (show Ξ=Λ from h)|.pW c f i e=>λkt X g s Z T h=>by refine gJ h λ_ _ _ h=>?_;refine aE h λ_ _ h=>?_;refine bb h λ_ _ _ h=>?_;refine aJ h λ_ _ h=>?_;simp only[Pw,qqq,PM] at h;obtain⟨⟨⟨⟨⟨⟨rfl,rfl⟩,h1⟩,h2⟩,h3⟩,h4⟩,h5⟩:=h;exact Gu T.toGood h1 h2 h3 h4 (az e kt X g _ Z T.toGood h5).1
theorem dh:∀s:List S,OK C s
 |[]=>λkt X g x Z T h=>by have:x=[]:=PM.mp h;rw[this];exact Gw|s::ss=>λkt X g x Z T h=>by refine aE h λ_ _ h=>?_;simp only[Pw] at h;exact CB (GD s kt X g _ Z T h.1) (dh ss kt X g _ Z T h.2)
end
end
section
variable{K:KB}{H H':Hp}{m m1 m2 Z Z1 Z2:List Addr}
mutual
theorem aI.weak(hw:∀a,a∉m1->a∉Z1->a∉m2/\a∉Z2):∀{x:D} {v:V},aI K H m1 Z1 x v->aI K H m2 Z2 x v
 |.aU,_,h=>h|.bl _,_,h=>h|.int _,_,h=>h|.str _,_,h=>h|.tup xs,v,h=>by obtain⟨a,us,e,q,r⟩:=(show ∃a us,v=.ref a/\H a=Δ (.tup us)/\aj K H m1 Z1 xs us from h);exact⟨a,us,e,q,aj.weak hw r⟩
 |.pl xs,v,h=>by obtain⟨a,us,e,q,hm,hz,r⟩:=(show ∃a us,v=.ref a/\Rd H a (.lst us)/\a∉m1/\a∉Z1/\aj K H m1 Z1 xs us from h);exact⟨a,us,e,q,(hw a hm hz).1,(hw a hm hz).2,aj.weak hw r⟩
theorem aj.weak(hw:∀a,a∉m1->a∉Z1->a∉m2/\a∉Z2):∀{xs:List D} {us:List V},aj K H m1 Z1 xs us->aj K H m2 Z2 xs us
 |[],_,h=>h|x::xs,us,h=>by obtain⟨v,vs,e,r,rs⟩:=(show ∃v vs,us=v::vs/\aI K H m1 Z1 x v/\aj K H m1 Z1 xs vs from h);exact⟨v,vs,e,aI.weak hw r,aj.weak hw rs⟩
end
mutual
theorem aI.ju:∀{x:D} {v:V},Y.ju x=Λ->aI K H m1 Z1 x v->aI K H m2 Z2 x v
 |.aU,_,_,h=>h|.bl _,_,_,h=>h|.int _,_,_,h=>h|.str _,_,_,h=>h|.tup xs,v,n,h=>by obtain⟨a,us,e,q,r⟩:=(show ∃a us,v=.ref a/\H a=Δ (.tup us)/\aj K H m1 Z1 xs us from h);exact⟨a,us,e,q,aj.ju (by simpa[Y.ju] using n) r⟩
 |.pl xs,v,n,h=>by simp[Y.ju] at n
theorem aj.ju:∀{xs:List D} {us:List V},vS xs=Λ->aj K H m1 Z1 xs us->aj K H m2 Z2 xs us
 |[],_,_,h=>h|x::xs,us,n,h=>by obtain⟨v,vs,e,r,rs⟩:=(show ∃v vs,us=v::vs/\aI K H m1 Z1 x v/\aj K H m1 Z1 xs vs from h);simp only[vS,Pw] at n;exact⟨v,vs,e,aI.ju n.1 r,aj.ju n.2 rs⟩
end
mutual
theorem au.weak(hw:∀a,a∉m1->a∉Z1->a∉m2/\a∉Z2):∀{x:P} {v:V},cV x=Λ->au K H m1 Z1 x v->au K H m2 Z2 x v
 |.d _,_,_,h=>by rw[au] at h ⊢;exact aI.weak hw h|.obj _,_,n,_=>by simp[cV] at n|.dw _,_,n,_=>by simp[cV] at n|.fn k dB,v,n,h=>by rw[au] at h ⊢;obtain⟨a,c,ir,e,q,hc,r⟩:=h;exact⟨a,c,ir,e,q,hc,ah.weak hw (by simpa[cV] using n) r⟩
 |.lf k,_,n,_=>by simp[cV] at n
theorem ah.weak(hw:∀a,a∉m1->a∉Z1->a∉m2/\a∉Z2):∀{xs:List P} {us:List V},df xs=Λ->ah K H m1 Z1 xs us->ah K H m2 Z2 xs us
 |[],_,_,h=>h|x::xs,us,n,h=>by rw[ah] at h ⊢;obtain⟨v,vs,e,r,rs⟩:=h;simp only[df,Pw] at n;exact⟨v,vs,e,au.weak hw n.1 r,ah.weak hw n.2 rs⟩
end
theorem OL{st:aW}(as:ay K H m Z st)(r:au K H m Z p v)(e:pX st p=Δ q):au K H [] [] q v/\(isObj p=Ξ->au K H [] (Z++m) q v):=by
 have hw:∀a,a∉m->a∉Z->a∉([]:List Addr)/\a∉Z++m:=λa h1 h2=>⟨by simp,λz=>by
  rcases List.mem_append.mp z with z|z;·exact h2 z
  ·exact h1 z⟩
 cases p with
 |dw ns=>cases e;rw[au] at r;exact⟨by rw[au];exact r,λ_=>by rw[au];exact r⟩|d x=>cases e;rw[au] at r;exact⟨by rw[au];exact aI.bare r,λ_=>by rw[au];exact aI.weak hw r⟩|obj n=>obtain⟨x,e1,rfl⟩:=dE (show(iy st (.obj n)).map P.d=Δ q from e);exact⟨by rw[au];exact gK as e1 r,λz=>nomatch z⟩|fn k dB=>
  have e':(if df dB=Λ then Δ (P.fn k dB) else Θ)=Δ q:=e;split at e'
  ·rename_i hp;cases e';have wZ:cV (.fn k dB)=Λ:=by simpa[cV] using hp
   exact⟨au.weak (m1:=m) (Z1:=Z) (λ_ _ _=>⟨by simp,by simp⟩) wZ r,λ_=>au.weak hw wZ r⟩
  ·cases e'
 |lf k=>cases e
theorem su{st:aW}(as:ay K H m Z st):∀{ps qs} {vs},ah K H m Z ps vs->dQ st ps=Δ qs->ah K H [] [] qs vs/\(ps.any isObj=Ξ->ah K H [] (Z++m) qs vs)
 |[],qs,vs,r,e=>by cases e;exact⟨r,λ_=>r⟩|p::ps,qs,vs,r,e=>by rw[ah] at r;obtain⟨v,w',rfl,r1,r2⟩:=r;obtain⟨q,e1,e⟩:=bT (show((pX st p).bind λx=>(dQ st ps).map λxs=>x::xs)=Δ qs from e);obtain⟨q2,e2,rfl⟩:=dE e;obtain⟨i1,i2⟩:=OL as r1 e1;obtain⟨j1,j2⟩:=su as r2 e2;refine⟨by rw[ah];exact⟨v,w',rfl,i1,j1⟩,λh=>?_⟩;rw[Rw,Bool.or_eq_false_iff] at h;rw[ah];exact⟨v,w',rfl,i2 h.1,j2 h.2⟩
theorem oZ(r:ah K H m Z qs vs):b8 K H m Z (aq N.length qs) (L2.start N vs):=by
 have hl:=r.length;refine⟨by unfold aq L2.start;simp[hl],λi p h=>?_⟩;unfold aq at h;unfold L2.start;by_cases hi:i < qs.length
 ·rw[P8 (by simpa using hi),Qa] at h;cases e:qs[i]? with
  |none=>rw[e] at h;cases h|some q=>
   rw[e] at h;have h':q=p:=by simpa using h
   subst h';obtain⟨v,e1,r1⟩:=r.get e;exact⟨v,by rw[P8 (by rw[PX,hl];exact hi),Qa,e1];rfl,r1⟩
 ·rw[Qk (by simpa using hi),RV] at h;split at h<;>cases h
theorem ay.OM{st:aW}(A:ay K H m Z st)(h:a∈m):nJ H a≠Θ:=by
 obtain⟨n,hn,e⟩:=List.mem_iff_getElem.mp h;have pz:n < st.length:=by rw[<-A.len];exact hn
 obtain⟨a',e',r⟩:=A.at_ n st[n] (PV pz);rw[PV hn,e] at e';cases e';cases q:H a with|none=>exact absurd q r.lj.1|some u=>rw[gv q λφ z=>r.lj.2.2.2.1 φ (by rw[q,z])];exact λz=>nomatch z
theorem o3(hz:∀a∈Z,nJ H a≠Θ)(ht:∀t∈K.tabs,∃ps,H t.1=Δ (.iz ps)/\gw H t.2 ps):ay K H [] Z []:=⟨rfl,by simp,λn o h=>by simp at h,hz,λa _=>by simp,ht⟩
theorem Le.outer(le:Le K [] H m' H'):Le K m H m H':=⟨⟨[],by simp⟩,le.tup,λa u h _=>le.keep a u h (by simp),λa h=>.inl h,le.lj,le.yn,le.cC,le.ext,le.iz⟩
theorem ay.outer{st:aW}(as:ay K H m Z st)(le:Le K [] H m' H')(ht:∀t∈K.tabs,∃ps,H' t.1=Δ (.iz ps)/\gw H' t.2 ps):ay K H' m Z st:=by
 refine⟨as.len,as.nd,λn o h=>?_,λa h=>le.yn a (as.zt a h),as.zm,ht⟩;obtain⟨a,q,r⟩:=as.at_ n o h;exact⟨a,q,r.mono (λb u hb hu=>le.keep b u hu (by simp) (λps z=>by
  rcases hb with w1|w1;·subst w1;rw[z] at hu;exact r.lj.2.2.2.2.1 ps hu
  ·rw[w1] at hu;cases hu;cases z)) λp v z=>z.le le.outer⟩
end
structure Info where
 name:Str
 st:Stmt
 N:List Str
 ps:List Str
 F:Fn
structure CI where
 lam:Bool
 qual:Str
 N:List Str
 ps:List Str
 fr:List Str
 F:Fn
structure KI where
 name:Str
 GF:List Str
 Au:List (Str×Nat)
structure TX where
 is:List (Info×List (Nat×Pos))
 cis:List CI
 cs:List (Str×Int)
 ts:List (Str×List (Str×Int))
 nf:Nat
 ks:List KI
 Ks:List Nat:=[]
 rs:List Str:=[]
noncomputable def TX.Fs(S:TX):List Fn:=S.is.map (·.1.F)++S.cis.map (·.F)
def TX.fns(S:TX):List (Str×Nat):=(S.is.take S.nf).map λj=>(j.1.name,j.1.F.np)
theorem TX.GG{S:TX}(h:S.fns[k]?=Δ (x,n)):k < S.nf/\∃i,S.is[k]?=Δ i/\(i.1.name,i.1.F.np)=(x,n):=by
 unfold TX.fns at h;rw[Qa,List.getElem?_take] at h;split at h;·rename_i hk;refine⟨hk,?_⟩;cases ej:S.is[k]? with|none=>rw[ej] at h;cases h|some i2=>rw[ej] at h;exact⟨i2,rfl,by simpa using h⟩
 ·cases h
noncomputable def TX.np(S:TX)(k:Nat):Option Nat:=(S.is[k]?).map (·.1.F.np)
noncomputable def TX.vU(S:TX)(c f:Str):Bool:=S.ks.any λq=>decide (q.name=c)&&q.GF.any (λx=>decide (x=f))
def TX.A6(S:TX)(k:Nat)(c m:Str)(n:Nat):Bool:=S.ks.any λq=>decide (q.name=c)&&decide (q.Au.lookup m=Δ k)&&decide (S.np k=Δ (n+1))
def TX.A7(S:TX)(k:Nat)(c:Str)(n:Nat):Bool:=S.ks.any λq=>decide (q.name=c)&&decide (q.Au.lookup ("__init__":Str)=Δ k)&&decide (S.np k=Δ (n+1))
def lv:Nat->Nat
 |0=>0|n+1=>lv n+3
theorem TX.Kt{S:TX}{k:Nat}(h:S.is[k]?=Δ i):S.Fs[k]?=Δ i.1.F:=by unfold TX.Fs;rw[P8 (by rw[PX];exact(qqz h).1),Qa,h];rfl
abbrev sv(S:TX)(K:PD)(base:Heap)(tabs:List (Addr×List (Pos×Str)))(xq:Hp->Prop:=λ_=>False):KB:=⟨K,base,tabs,λ_ _ _ _=>False,λ_ _ _ _ _=>False,λ_=>"",xq⟩
abbrev ON(cx:vF)(xq:Hp->Prop)(tabs:List (Addr×List (Pos×Str))):KT:={tabs:=tabs,cx:=cx,xq:=xq}
section
variable{K1 K2:KB}{H:Hp}{m Z:List Addr}
mutual
theorem aI.kb:∀{x:D} {v:V},aI K1 H m Z x v->aI K2 H m Z x v
 |.aU,_,h=>h|.bl _,_,h=>h|.int _,_,h=>h|.str _,_,h=>h|.tup xs,v,h=>by obtain⟨a,us,e,q,r⟩:=(show ∃a us,v=.ref a/\H a=Δ (.tup us)/\aj K1 H m Z xs us from h);exact⟨a,us,e,q,aj.kb r⟩
 |.pl xs,v,h=>by obtain⟨a,us,e,q,hm,hz,r⟩:=(show ∃a us,v=.ref a/\Rd H a (.lst us)/\a∉m/\a∉Z/\aj K1 H m Z xs us from h);exact⟨a,us,e,q,hm,hz,aj.kb r⟩
theorem aj.kb:∀{xs:List D} {us:List V},aj K1 H m Z xs us->aj K2 H m Z xs us
 |[],_,h=>h|x::xs,us,h=>by obtain⟨v,vs,e,r,rs⟩:=(show ∃v vs,us=v::vs/\aI K1 H m Z x v/\aj K1 H m Z xs vs from h);exact⟨v,vs,e,aI.kb r,aj.kb rs⟩
end
mutual
theorem au.kb(hk:K1.K=K2.K)(hq:K1.ym=K2.ym)(hc:∀k a c ir,K1.z7 k a c ir->K2.z7 k a c ir):∀{x:P} {v:V},cV x=Λ->au K1 H m Z x v->au K2 H m Z x v
 |.d _,_,_,h=>by rw[au] at h ⊢;exact aI.kb h|.obj _,_,n,_=>by simp[cV] at n|.dw _,_,n,_=>by simp[cV] at n|.fn k dB,v,n,h=>by rw[au] at h ⊢;obtain⟨a,c,ir,e,q,hx,r⟩:=h;exact⟨a,c,ir,e,hc _ _ _ _ q,by rw[<-hq];exact hx,ah.kb hk hq hc (by simpa[cV] using n) r⟩
 |.lf k,_,n,_=>by simp[cV] at n
theorem ah.kb(hk:K1.K=K2.K)(hq:K1.ym=K2.ym)(hc:∀k a c ir,K1.z7 k a c ir->K2.z7 k a c ir):∀{xs:List P} {us:List V},df xs=Λ->ah K1 H m Z xs us->ah K2 H m Z xs us
 |[],_,_,h=>h|x::xs,us,n,h=>by rw[ah] at h ⊢;obtain⟨v,vs,e,r,rs⟩:=h;simp only[df,Pw] at n;exact⟨v,vs,e,au.kb hk hq hc n.1 r,ah.kb hk hq hc n.2 rs⟩
end
def CD:P->Bool
 |.dw _=>Λ|p=>cV p
theorem GH{st:aW}(h:pX st p=Δ q):CD q=Λ:=by
 cases p with
 |dw ns=>cases h;rfl|d x=>cases h;rfl|obj n=>obtain⟨x,e1,rfl⟩:=dE (show(iy st (.obj n)).map P.d=Δ q from h);rfl
 |fn k dB=>
  have e':(if df dB=Λ then Δ (P.fn k dB) else Θ)=Δ q:=h;split at e';·rename_i hp;cases e';simpa[CD,cV] using hp
  ·cases e'
 |lf k=>cases h
theorem v8{st:aW}:∀{ps qs},dQ st ps=Δ qs->∀q∈qs,CD q=Λ
 |[],qs,h=>by cases h;exact λq z=>by cases z|p::ps,qs,h=>by
  obtain⟨q,e1,e⟩:=bT (show((pX st p).bind λx=>(dQ st ps).map λxs=>x::xs)=Δ qs from h);obtain⟨q2,e2,rfl⟩:=dE e;intro x hx;rcases Ub.mp hx with z|z;·rw[z];exact GH e1
  ·exact v8 e2 x z
theorem ah.kbA(hk:K1.K=K2.K)(hq:K1.ym=K2.ym)(hc:∀k a c ir,K1.z7 k a c ir->K2.z7 k a c ir):∀{xs} {us},(∀q∈xs,CD q=Λ)->ah K1 H m Z xs us->ah K2 H m Z xs us
 |[],_,_,h=>h|x::xs,us,n,h=>by rw[ah] at h ⊢;obtain⟨v,vs,e,r,rs⟩:=h;refine⟨v,vs,e,?_,ah.kbA hk hq hc (λq hq=>n q (Pz _ hq)) rs⟩;have hx:=n x PC;cases x with|dw ns=>rw[au] at r ⊢;rw[<-hk];exact r|d y=>exact au.kb hk hq hc rfl r|obj y=>cases hx|fn k c=>exact au.kb hk hq hc hx r|lf k=>cases hx
end
theorem o4(L9:F.nn=N.length){st:aW}(rq:ah kb H m Z qs vs)(as:ay kb H m Z st)(hk:kb.K=X.K)(hq:kb.ym=kt.ym)(hc:∀k a c ir,kb.z7 k a c ir->kt.z7 k a c ir)(ht:kb.tabs=kt.tabs)(ea:dQ st qs=Δ q2)(er:nP C F q2=Δ d)(aQ:Ok kb Z (mv qs d st) m H (λp _ m' H'=>∀v,au kb H' m' Z p v->Q v H')):
  ∃Z0,tS (ae X kt) Z0 (ai C F.body) {nx:=λ_ H'=>Q .aU H',rt:=Q} (L2.start N vs) H:=by
 obtain⟨r1,r2⟩:=su as rq ea;have hb:=v8 ea;obtain⟨Z0,L4,rs0,hw⟩:∃Z0:List Addr,(∀b∈Z0,nJ H b≠Θ)/\ah kb H [] Z0 q2 vs/\((qs.any isObj=Ξ/\Z0=Z++m)\/qs.any isObj=Λ):=by
  cases ho:qs.any isObj with
  |false=>
   refine⟨Z++m,λb hb=>?_,r2 ho,.inl ⟨rfl,rfl⟩⟩;rcases List.mem_append.mp hb with z|z;·exact as.zt b z
   ·exact as.OM z
  |true=>exact⟨[],(λb hb=>by cases hb),r1,.inr rfl⟩
 have tab:∀t∈(ae X kt).tabs,∃ps,H t.1=Δ (.iz ps)/\gw H t.2 ps:=λt h=>as.tab t (by rw[ht];exact h);refine⟨Z0,[],aq F.nn q2,[],by rw[L9];exact oZ (ah.kbA hk hq hc hb rs0),o3 L4 tab,?_⟩;unfold nP at er;split at er
 ·cases hx:ai C F.body (aq F.nn q2) [] with
  |ex x s=>rw[hx] at er;cases er|no=>rw[hx] at er;cases er|ok f bI=>
   rw[hx] at er;intro m' H' le cz;have le0:Le kb [] H m' H':=⟨le.pre,le.tup,le.keep,le.new,le.lj,le.yn,le.cC,le.ext,le.iz⟩;have fin:∀v,aI kb H' m Z d v->Q v H':=λv rv=>by
    unfold mv at aQ;split at aQ;·exact(show False from aQ).elim
    ·exact aQ m H' le0.outer (as.outer le0 (λt h=>cz.tab t (by show t∈kt.tabs;rw[<-ht];exact h))) v rv
   have OO:qs.any isObj=Λ->Y.ju d=Λ:=λz=>by
    unfold mv at aQ;split at aQ;·exact(show False from aQ).elim
    ·rename_i hc;cases hp:Y.ju d with|true=>rfl|false=>rw[z,hp] at hc;exact absurd rfl hc
   cases f with
   |bk r=>cases er|ct r=>cases er|nx r=>cases er;exact λσ _=>fin .aU rfl
   |rt p=>
    have yp:iy bI p=Δ d:=er;intro v rv;apply fin;rcases hw with ⟨_,rfl⟩|ho
    ·have tw:∀b,b∉m'->b∉Z++m->b∉m/\b∉Z:=λb _ h=>⟨λz=>h (P9 _ z),λz=>h (QB _ z)⟩;cases p with
     |dw ns=>cases yp|fn k c=>cases yp|lf k=>cases yp|d x=>cases yp;exact aI.kb (aI.weak tw rv)|obj j=>
      obtain⟨b,e,rfl⟩:=rv;have h':(match bI[j]? with|some (.lst xs)=>(ba xs).map D.pl|_=>Θ)=Δ d:=yp;split at h'
      ·rename_i xs hs;obtain⟨b',e',o⟩:=cz.at_ j _ hs;rw[e] at e';cases e';obtain⟨us,hu,rs⟩:=o;obtain⟨ys,hd,rfl⟩:=dE h';have hbn:H b=Θ:=by
        rcases le.new b (RI e) with z|z;·cases z
        ·exact z
       exact⟨b,us,rfl,.inl hu,λz=>as.JQ z hbn,λz=>as.zt b z (zk hbn),aj.kb (aj.weak tw (rs.ba hd))⟩
      ·cases h'
    ·have np:=OO ho;cases p with
     |dw ns=>cases yp|fn k c=>cases yp|lf k=>cases yp|d x=>cases yp;exact aI.kb (aI.ju np rv)|obj j=>
      have h':(match bI[j]? with|some (.lst xs)=>(ba xs).map D.pl|_=>Θ)=Δ d:=yp;split at h';·obtain⟨ys,hd,rfl⟩:=dE h';simp[Y.ju] at np
      ·cases h'
 ·cases er
theorem o5{st:aW}:∀{ps qs},dQ st ps=Δ qs->qs.length=ps.length
 |[],qs,h=>by cases h;rfl|p::ps,qs,h=>by obtain⟨q,e1,e⟩:=bT (show((pX st p).bind λx=>(dQ st ps).map λxs=>x::xs)=Δ qs from h);obtain⟨q2,e2,rfl⟩:=dE e;rw[PU,PU,o5 e2]
theorem o6{st:aW}(hF:Fs[k]?=Δ F)(hs:F.sh=Ξ)(h:Ok kb Z (callC Fs (n+1) k ps st) m H Q):
  ∃q2 d,dQ st ps=Δ q2/\nP (callC Fs n) F q2=Δ d/\Ok kb Z (mv ps d st) m H Q/\ps.length=F.np:=by
 rw[dD,hF] at h;simp only[hs,QD,if_false] at h;cases ea:dQ st ps with
 |none=>rw[ea] at h;exact(show False from h).elim|some q2=>
  rw[ea] at h;simp only at h;cases er:nP (callC Fs n) F q2 with
  |none=>rw[er] at h;exact(show False from h).elim|some d=>
   rw[er] at h;refine⟨q2,d,rfl,er,h,?_⟩;unfold nP at er;split at er;·rename_i hl;rw[<-o5 ea];exact hl
   ·cases er
def kl(S:TX)(i:Info×List (Nat×Pos)):G:={N:=i.1.N,names:=(aR i.1.st).names,fns:=S.fns,mE:=S.cs,tabs:=S.ts,vU:=S.vU,A6:=S.A6,A7:=S.A7,Hu:=λx=>S.rs.contains x}
def Ku(S:TX)(i:Info×List (Nat×Pos)):Bool:=nR (kl S i) i.1.F.body (fM i.1.st)&&decide (i.1.F.np=i.1.ps.length)&&decide (i.1.F.nn=i.1.N.length)
def Ma(S:TX)(k:Nat)(i:Info×List (Nat×Pos)):Bool:=if S.Ks.contains k then decide (i.1.F.np=i.1.ps.length) else Ku S i
noncomputable def OP(K:PD)(C:Addr):Prop:=∃(Bn newId NR B NT uB:String) (NS bm:List Value),UD Bn newId NR NS/\bm.contains (.type Bn)=Λ/\UD B NT uB bm/\PySem.W.excIn K C bm newId=Λ
structure nS(C:Addr)(K:PD)(mg:Str->Option Value)(S:TX)(tabs:List (Addr×List (Pos×Str)))(a:Nat->Addr)(fd:Nat->Rn):Prop where
 fn:∀(k:Nat) (i:Info×List (Nat×Pos)),S.is[k]?=Δ i->(∃x,nt K x i.1.name i.1.st (a k) (fd k))/\(k < S.nf->mg i.1.name=Δ (.ref (a k)))/\Binds K (fd k) i.1.ps []/\g7 i.1.N i.1.ps (aR i.1.st)/\Ma S k i=Λ
 bl:∀x∈mJ,mg x=Θ
 cs:∀x i,S.cs.lookup x=Δ i->∃t,mg x=Δ (.int i t)
 tb:∀x t,S.ts.lookup x=Δ t->∃a,mg x=Δ (.ref a)/\um K a t
 cl:∀q∈S.ks,∃A,PN K PL q.name=Δ (Δ (.ref A))/\mg q.name=Δ (.ref A)/\qQ K A/\(∀f∈q.GF,eX K A f)/\(∀m k,q.Au.lookup m=Δ k->tY K A m (a k))/\∀k,q.Au.lookup ("__init__":Str)=Δ k->Mk K A (a k)
 rs:∀x,S.rs.contains x=Λ->mg x=Δ (.ref C)/\(x==("__debug__":Str))=Ξ
 xc:OP K C
def o7{α:Type}(P:Nat->α->Prop):Nat->List α->Prop
 |_,[]=>True|j,x::xs=>P j x/\o7 P (j+1) xs
theorem OQ{α:Type}{P:Nat->α->Prop}:o7 P j []:=trivial
theorem gO{α:Type}{P:Nat->α->Prop}{x:α}{xs:List α}(h:P j x)(t:o7 P (j+1) xs):o7 P j (x::xs):=⟨h,t⟩
theorem DJ{α:Type}{P:Nat->α->Prop}:∀{l} {j},o7 P j l->∀k i,l[k]?=Δ i->P (j+k) i
 |[],j,_,k,i,e=>by simp at e|x::xs,j,h,0,i,e=>by simp at e;subst e;exact h.1
 |x::xs,j,h,k+1,i,e=>by have:=DJ h.2 k i (by simpa using e);rwa [Nat.add_assoc,Nat.add_comm 1 k] at this
theorem GI{α:Type}{P:Nat->α->Prop}{l:List α}(h:o7 P 0 l)k(i:α)(e:l[k]?=Δ i):P k i:=by have:=DJ h k i e;rwa [Tq] at this
def scB(i:Info):Bool:=decide ((aR i.st).kind=.function)&&!(aR i.st).isCoroutine&&!(aR i.st).isGenerator&&decide i.N.Nodup&&decide (i.N.take i.ps.length=i.ps)&&
 decide (∀x∈i.ps,(aR i.st).names.lookup x=Δ .local\/(aR i.st).names.lookup x=Δ .cell)&&decide (∀y∈(aR i.st).names,y.2≠.free)
def DK(S:TX):Bool:=S.is.zipIdx.all λj=>Ma S j.2 j.1&&scB j.1.1
theorem sx{S:TX}(h:DK S=Λ)(e:S.is[k]?=Δ i):g7 i.1.N i.1.ps (aR i.1.st)/\Ma S k i=Λ:=by have q:=Ri.mp h (i,k) (List.mem_zipIdx_iff_getElem?.mpr e);unfold scB at q;simp only[Pw,qqq,PY] at q;obtain⟨q1,⟨⟨⟨⟨⟨h1,h2⟩,h3⟩,h4⟩,h5⟩,h6⟩,h7⟩:=q;exact⟨⟨h1,h2,h3,h4,h5,h6,h7⟩,q1⟩
theorem Kv{α:Type}{P:α->Prop}:∀y∈([]:List α),P y:=λ_ h=>nomatch h
theorem memC{α:Type}{P:α->Prop}{x:α}{xs:List α}(h:P x)(t:∀y∈xs,P y):∀y∈x::xs,P y:=List.forall_mem_cons.mpr ⟨h,t⟩
theorem lkN{β:Type}{P:Str->β->Prop}:∀m k,([]:List (Str×β)).lookup m=Δ k->P m k:=λ_ _ h=>nomatch h
theorem Mb{β:Type}{P:Str->β->Prop}{b:β}{xs:List (Str×β)}(h:P x b)(t:∀m k,xs.lookup m=Δ k->P m k):∀m k,((x,b)::xs).lookup m=Δ k->P m k:=λm k e=>by
 rw[P7] at e;split at e;·rename_i hq;cases e;rw[eq_of_beq hq];exact h
 ·exact t m k e
theorem CF{α:Type}{P:List α->Prop}(h:∀a,P [a]):∀us,us.length=1->P us
 |[a],_=>h a
theorem nT{α:Type}{P:List α->Prop}(h:∀a b,P [a,b]):∀us,us.length=2->P us
 |[a,b],_=>h a b
theorem GJ{α:Type}{P:List α->Prop}(h:∀a b c,P [a,b,c]):∀us,us.length=3->P us
 |[a,b,c],_=>h a b c
section
variable{C:Addr}{P:Qr}{w:World}{K:PD}{mg:Str->Option Value}{S:TX}{tabs:List (Addr×List (Pos×Str))}{a:Nat->Addr}{fd:Nat->Rn}
def fW(C:Addr)(P:Qr)(w:World)(K:PD)(mg:Str->Option Value)(S:TX)(tabs:List (Addr×List (Pos×Str)))(a:Nat->Addr)(fd:Nat->Rn)(n:Nat)(base:Heap):Prop:=
 ∀(k:Nat) (i:Info×List (Nat×Pos)),S.is[k]?=Δ i->∀xq,dy P w K mg base (kF P w C) (lv n) (a k) (fd k) i.1.ps (qJ (sv S K base tabs xq) (callC S.Fs n k) i.1.F.np)
theorem sA(T:nS C K mg S tabs a fd)(D:fW C P w K mg S tabs a fd n base)(hX:X.prog=P/\X.w=w/\X.K=K/\X.mg=mg/\X.base=base)(hr:cR (lv n+1) X.A)(Kw:ae X kt=sv S K base tabs kt.xq)(GK:kt.cx=kF P w C):∀(k) (x) (m),S.fns[k]?=Δ (x,m)->mI X kt (callC S.Fs n k) x m:=by obtain⟨rfl,rfl,rfl,rfl,rfl⟩:=hX;intro j x nn hj;obtain⟨hk,i2,ej,e2⟩:=TX.GG hj;cases e2;obtain⟨⟨x2,F2⟩,GA,tB,_⟩:=T.fn j i2 ej;exact⟨⟨lv n,a j,fd j,i2.1.ps,by rw[Kw,GK];exact D j i2 ej _,hr.mono (RZ _),GA hk,F2.kp,tB⟩⟩
theorem sC{X:Cx}(T:nS C K mg S tabs a fd)(hK:X.K=K):∀c f,S.vU c f=Λ->∃A,PN X.K PL c=Δ (Δ (.ref A))/\qQ X.K A/\eX X.K A f:=by subst hK;intro c f h;unfold TX.vU at h;rw[Sm] at h;obtain⟨q,hq,h⟩:=h;simp only[Pw,qqq,Sm] at h;obtain⟨rfl,f',hf,rfl⟩:=h;obtain⟨A,k1,k2,k3,k4,_⟩:=T.cl q hq;exact⟨A,k1,k3,k4 _ hf⟩
theorem DL(h:S.np k=Δ n):∃i,S.is[k]?=Δ i/\i.1.F.np=n:=by unfold TX.np at h;cases ej:S.is[k]? with|none=>rw[ej] at h;cases h|some i=>rw[ej] at h;exact⟨i,rfl,by simpa using h⟩
theorem sD(T:nS C K mg S tabs a fd)(D:fW C P w K mg S tabs a fd n base)(hX:X.prog=P/\X.w=w/\X.K=K/\X.mg=mg/\X.base=base)(hr:cR (lv n+1) X.A)(Kw:ae X kt=sv S K base tabs kt.xq)(GK:kt.cx=kF P w C):∀k c m nn,S.A6 k c m nn=Λ->∃A l fa fd ps,PN X.K PL c=Δ (Δ (.ref A))/\qQ X.K A/\tY X.K A m fa/\dy X.prog X.w X.K X.mg X.base kt.cx l fa fd ps (qJ (ae X kt) (callC S.Fs n k) (nn+1))/\cR l X.A/\Binds X.K fd ps []:=by obtain⟨rfl,rfl,rfl,rfl,rfl⟩:=hX;intro k c m nn h;unfold TX.A6 at h;rw[Sm] at h;obtain⟨q,hq,h⟩:=h;simp only[Pw,qqq] at h;obtain⟨⟨rfl,hm⟩,hn⟩:=h;obtain⟨i,ei,en⟩:=DL hn;obtain⟨A,k1,k2,k3,k4,k5,_⟩:=T.cl q hq;obtain⟨_,_,tB,_⟩:=T.fn k i ei;refine⟨A,lv n,a k,fd k,i.1.ps,k1,k3,k5 _ _ hm,?_,hr.mono (RZ _),tB⟩;have:=D k i ei kt.xq;rw[Kw,<-en,GK];exact this
theorem sE(T:nS C K mg S tabs a fd)(D:fW C P w K mg S tabs a fd n base)(hX:X.prog=P/\X.w=w/\X.K=K/\X.mg=mg/\X.base=base)(hr:cR (lv n+1) X.A)(Kw:ae X kt=sv S K base tabs kt.xq)(GK:kt.cx=kF P w C):∀k c nn,S.A7 k c nn=Λ->∃A l fa fd ps,X.mg c=Δ (.ref A)/\PN X.K PL c=Δ (Δ (.ref A))/\Mk X.K A fa/\dy X.prog X.w X.K X.mg X.base kt.cx l fa fd ps (qJ (ae X kt) (callC S.Fs n k) (nn+1))/\cR (l+1) X.A/\Binds X.K fd ps []:=by obtain⟨rfl,rfl,rfl,rfl,rfl⟩:=hX;intro k c nn h;unfold TX.A7 at h;rw[Sm] at h;obtain⟨q,hq,h⟩:=h;simp only[Pw,qqq] at h;obtain⟨⟨rfl,hm⟩,hn⟩:=h;obtain⟨i,ei,en⟩:=DL hn;obtain⟨A,k1,k2,k3,k4,k5,k6⟩:=T.cl q hq;obtain⟨_,_,tB,_⟩:=T.fn k i ei;refine⟨A,lv n,a k,fd k,i.1.ps,k2,k1,k6 _ hm,?_,hr,tB⟩;have:=D k i ei kt.xq;rw[Kw,<-en,GK];exact this
theorem v9{st:Stmt}{fd:Rn}(F:nt K x qual st f fd)(S:g7 N ps (aR st))(len:∀vs H Q E,sp vs H Q E->vs.length=ps.length)(qT:∀(A:QJ) (outer:List Env) (s:PJ) (H:Hp) (vs:List V) (Q:VK) (E:XK),cR k (A.deeper (Uw qual (aR st) s.heap.objs.size f fd.code))->sp vs H Q E->
   ∃t,i5 (lU CX P w K mg base N qual (aR st) f fd.code A outer s H E) (fM st) t/\t {nx:=λ_ H'=>Q .aU H',rt:=Q} (L2.start N vs) H):dy P w K mg base CX (k+1) f fd ps sp:=by
 obtain⟨oc,od,kV,doc,pm,an,nA,ct,Eh,rfl,lk,n6⟩:=F.ex;exact IH lk n6 S len qT
theorem vj(T:nS C K mg S tabs a fd)(D:fW C P w K mg S tabs a fd n base)(sc:g7 i.1.N i.1.ps (aR i.1.st)){E:XK}(hr:cR (lv n+1) (A.deeper (Uw i.1.name (aR i.1.st) s.heap.objs.size (a k) (fd k).code)))(hE:∀H',xq H'->∀e t,E (.ref e) (Δ t) H'):
  dO (lU (kF P w C) P w K mg base i.1.N i.1.name (aR i.1.st) (a k) (fd k).code A outer s H E) (ON (kF P w C) xq tabs) (kl S i) (callC S.Fs n):=
 {N:=rfl,loc:=λx h=>h,DE:=λx h=>h,gl:=λx h=>h,calm:=rfl,hu:=by have:=hr.un;show(A.deeper _).units+100 < cLine;lia,bl:=T.bl,
  fn:=sA T D ⟨rfl,rfl,rfl,rfl,rfl⟩ hr rfl rfl,cs:=T.cs,tb:=T.tb,px:=λ_ η σ H1 s1 e s' I F=>E4 (X:=lU (kF P w C) P w K mg base i.1.N i.1.name (aR i.1.st) (a k) (fd k).code A outer s H E) (C:=C) (Ex:=λ_ _ H'=>xq H') (E:=E) I rfl rfl rfl F λe t H' z=>hE H' z e t,
  pb:=λ_=>E5 (X:=lU (kF P w C) P w K mg base i.1.N i.1.name (aR i.1.st) (a k) (fd k).code A outer s H E) (C:=C) (Ex:=λ_ _ H'=>xq H') (E:=E) rfl rfl rfl (λe t H' z=>hE H' z e t) λe s' h=>h,fld:=sC T rfl,Fz:=sD T D ⟨rfl,rfl,rfl,rfl,rfl⟩ hr rfl rfl,FA:=sE T D ⟨rfl,rfl,rfl,rfl,rfl⟩ hr rfl rfl,
  cell:=λx h=>h,nd:=sc.nd,Oy:=λx _=>rfl,own:=PassesOwn.leaving,
  Oz:=λx hx hg msg j np cp cM pos=>by obtain⟨hm,hd⟩:=T.rs x hx;obtain⟨Bn,newId,NR,B,NT,uB,NS,bm,h1,h2,h3,h4⟩:=T.xc;exact PS.imp (zD (E:=λ_ _ H=>xq H) h1 h2 h3 h4 hm (show(aR i.1.st).names.lookup x=Δ .globalImplicit from of_decide_eq_true hg) rfl (λη σ H2 s2 h' e args I hx hz=>zB I rfl rfl rfl hx λt=>hE H2 (hz t) e t) hd) λD σ H z _ _=>z}
def sF(C:Addr)(P:Qr)(w:World)(K:PD)(mg:Str->Option Value)(S:TX)(tabs:List (Addr×List (Pos×Str)))(a:Nat->Addr)(fd:Nat->Rn):Prop:=
 ∀(n:Nat) (base:Heap),fW C P w K mg S tabs a fd n base->∀(k:Nat) (i:Info×List (Nat×Pos)),S.is[k]?=Δ i->S.Ks.contains k=Λ->
  ∀xq,dy P w K mg base (kF P w C) (lv (n+1)) (a k) (fd k) i.1.ps (qJ (sv S K base tabs xq) (callC S.Fs (n+1) k) i.1.F.np)
theorem GL(T:nS C K mg S tabs a fd)(D:fW C P w K mg S tabs a fd n base)(spc:∀(k:Nat) (i:Info×List (Nat×Pos)),S.is[k]?=Δ i->S.Ks.contains k=Λ->∀xq,dy P w K mg base (kF P w C) (lv (n+1)) (a k) (fd k) i.1.ps (qJ (sv S K base tabs xq) (callC S.Fs (n+1) k) i.1.F.np)):fW C P w K mg S tabs a fd (n+1) base:=by
 intro k i hi xq;by_cases hs:S.Ks.contains k=Λ;·exact spc k i hi hs xq
 obtain⟨⟨x1,F⟩,hm,hb,sc,ok⟩:=T.fn k i hi;unfold Ma at ok;rw[if_neg hs] at ok;unfold Ku at ok;simp only[Pw,qqq] at ok;obtain⟨⟨Hy,OR⟩,L9⟩:=ok;have ek:=TX.Kt hi;refine(v9 (k:=lv n+1) F sc (λvs H Q E h=>?_) (λA outer s H vs Q E hr h=>?_)).mono (RZ _);·obtain⟨_,m,Z,qs,st,hl,_⟩:=h;rw[hl,OR]
 obtain⟨hE,m,Z,qs,st,hl,rq,as,aQ⟩:=h;have G:=vj (outer:=outer) (H:=H) (E:=E) (xq:=xq) T D sc hr hE;by_cases vN:i.1.F.sh=Λ
 ·rw[dD,ek] at aQ;simp only[vN,if_true] at aQ;by_cases Mc:qs.length=i.1.F.np;·rw[if_pos Mc] at aQ;refine⟨_,dh i.1.F.body _ _ _ _ Z G Hy,m,aq i.1.F.nn qs,st,by rw[L9];exact oZ rq,as,?_⟩;show Ok (sv S K base tabs xq) Z (ai (callC S.Fs n) i.1.F.body (aq i.1.F.nn qs) st) m H _;cases hx:ai (callC S.Fs n) i.1.F.body (aq i.1.F.nn qs) st with|ex x s=>rw[hx] at aQ;exact aQ|no=>rw[hx] at aQ;exact(show False from aQ).elim|ok f bI=>rw[hx] at aQ;cases f with|bk r=>exact(show False from aQ).elim|ct r=>exact(show False from aQ).elim|nx r=>exact λm' H' le cz σ _=>(show Ok (sv S K base tabs xq) Z (R.ok (Y.P.d .aU) bI) m H _ from aQ) m' H' le cz .aU rfl|rt p=>exact λm' H' le cz v rv=>(show Ok (sv S K base tabs xq) Z (R.ok p bI) m H _ from aQ) m' H' le cz v rv
  ·rw[if_neg Mc] at aQ;exact(show False from aQ).elim
 ·have wH:i.1.F.sh=Ξ:=by cases q:i.1.F.sh with|false=>rfl|true=>exact absurd q vN
  obtain⟨q2,d,ea,er,h2,_⟩:=o6 ek wH aQ;obtain⟨Z0,ht⟩:=o4 (X:=lU (kF P w C) P w K mg base i.1.N i.1.name (aR i.1.st) (a k) (fd k).code A outer s H E) (kt:=ON (kF P w C) xq tabs) (kb:=sv S K base tabs xq) L9 rq as rfl rfl (λ_ _ _ _ z=>z) rfl ea er h2;exact⟨_,dh i.1.F.body _ _ _ _ Z0 G Hy,ht⟩
theorem ql(T:nS C K mg S tabs a fd)(SP:sF C P w K mg S tabs a fd)base:∀n,fW C P w K mg S tabs a fd n base
 |0=>λk i hi xq=>by
  have no:∀vs H Q E,¬qJ (sv S K base tabs xq) (callC S.Fs 0 k) i.1.F.np vs H Q E:=λvs H Q E ⟨_,m,Z,qs,st,_,_,_,h⟩=>by rw[u0] at h;exact h
  exact⟨λvs H Q E h=>absurd h (no vs H Q E),λA outer s H args us vs Q E _ _ _ _ h=>absurd h (no vs H Q E)⟩
 |n+1=>GL T (ql T SP base n) (SP n base (ql T SP base n))
theorem GN{fd:Rn}(F:dy P w K mg base (kF P w C) k f fd ps sp)(hs:∀vs H Q E,sp vs H Q E->sp vs H Q λ_ _ _=>False):dy P w K mg base Jb k f fd ps sp:=
 ⟨F.len,λA outer s H args us vs Q E hr e0 hb r h=>SH (F.run A outer s H args us vs Q _ hr e0 hb r (hs _ _ _ _ h)) λrr s' hc=>by
  cases rr with
  |ok fl=>cases fl<;>exact hc|error e=>obtain⟨_,_,_,_,_,_,_,_,_,_,_,z⟩:=(show kF P w C outer H s (λ_ _ _=>False) e s' from hc);exact z.elim⟩
theorem CG(ht:∀t∈tabs,t.1∈Kx.map (·.2))(hc:c [.dw ns] []=.ok (.d (.bl Λ)) [])(ho:vQ Kx H)(hs:gZ K H b (ns.map V.int)){E:XK}:
  qJ (sv S K base tabs) c 1 [.ref b] H (λv _=>v=.bl Λ) E:=by
 refine⟨λ_ z=>z.elim,[],[],[.dw ns],[],rfl,⟨_,_,rfl,⟨b,rfl,?_⟩,rfl⟩,o3 (λ_ h=>by cases h) (λt h=>?_),?_⟩
 ·rcases hs with (h|h)|h
  ·rcases ho.1 b with z|⟨o,xs,z⟩|⟨z,_⟩;·rw[h] at z;cases z
   ·rw[h] at z;cases z
   ·rw[h] at z;cases z
  ·exact .inl h
  ·exact .inr h
 ·obtain⟨q,hq,e⟩:=List.mem_map.mp (ht t h);exact⟨#[],by rw[<-e];exact ho.2 q hq,trivial,λp hp cv N7=>by cases (show(Θ:Option Value)=Δ cv from N7)⟩
 ·rw[hc];exact λm' H' le as v rv=>rv
end
end Y
namespace L2
open PySem PySem.Spec PyProof.Rows PySem.W
section
variable{X:Cx}
theorem CH{ix ig:Nat}{D:Ends}(ho:ob.cls=.ref C)(hN:X.N.Nodup)(hi:X.N[ix]?=Δ n0)(hl:X.env.scope.names.lookup n0=Δ .local)(GO:X.N[ig]?=Δ gn)(GP:X.env.scope.names.lookup gn=Δ .local)(GQ:Gl X "isinstance")(Ky:X.mg "isinstance"=Θ)(Kz:Gl X "int")(OS:X.mg "int"=Θ)(KA:Gl X ux)(KC:X.mg ux=Δ (.ref U))(KD:Gl X vx)(KE:X.mg vx=Δ (.ref V'))(KG:Gl X tx)(KH:X.mg tx=Θ)(KJ:Rt tx=Δ (.type tn))(i1:kitOne X.K (.ref C) (.ref U)=Δ Λ)(i2:kitOne X.K (.ref C) (.type tn)=Δ Λ)(i3:kitOne X.K (.ref C) (.ref V')=Δ Ξ)(G:gy X.K C)(hD:(clsIn X.K C).isSome=Λ)(I:Inv (X.held ea ob) η σ H s)(OT:σ[ix]?=Δ (Δ (.ref ea)))(h:∀H',du H H'->D.rt .aU H')(KL:(ux==("__debug__":Str))=Ξ:=by decide)(KN:(vx==("__debug__":Str))=Ξ:=by decide)(Hz:(tx==("__debug__":Str))=Ξ:=by decide)(EO:tx≠"__name__":=by decide)(CJ:(n0==("__debug__":Str))=Ξ:=by decide)(n6:(n0==("__classdict__":Str))=Ξ:=by decide)(HA:(gn==("__debug__":Str))=Ξ:=by decide)(OU:(gn==("__classdict__":Str))=Ξ:=by decide):
  wpAny (model X.prog X.w) (X.A.mark (Δ (.ref ea))) (execs [.Assign [.Name gn gp] (.BoolOp .And [.Call (.Name "isinstance" p1) [.Name n0 p2,.Name ux p3] [] c1,.Call (.Name "isinstance" p4) [.Name n0 p5,.Name tx p6] [] c2,.UnaryOp .Not (.Call (.Name "isinstance" p7) [.Name n0 p8,.Name vx p9] [] c3) np] bp) ap,
   .Return (Δ (.Subscript (.List [.Tuple [] kk e1,.Constant .none j e2] lp) (.Call (.Name "int" ip) [.Name gn jp] [] kp) sp)) rp] X.env) (SP (X.held ea ob) η {nx:=λ_ _=>False,rt:=D.rt}) (λ_ _=>False) s:=by
 have v0:PE (X.held ea ob) (.Name n0 p2) (HY ix):=iF hi (.inl hl) CJ n6;have ps1:i5 (X.held ea ob) _ _:=lO (tM (pos:=ap) (pos':=gp) hN GO (.inl GP)
   (tJ (pos:=bp) (fj (p:=p1) (pos:=c1) (oA ho i1 (v:=.ref U) λu z=>z) GQ Ky Td (cj (iF (pos:=p2) hi (.inl hl) CJ n6) (cj (fJ (pos:=p3) (v:=.ref U) KA KC rfl KL) ez)) (by decide+kernel) (by decide+kernel))
    (tJ (fj (p:=p4) (pos:=c2) (oA ho i2 (v:=.ty tn) λu z=>z) GQ Ky Td (cj (iF (pos:=p5) hi (.inl hl) CJ n6) (cj (vt (pos:=p6) (v:=.ty tn) KG KH KJ rfl EO Hz) ez)) (by decide+kernel) (by decide+kernel))
     (tI (DZ (pos:=np) (fj (p:=p7) (pos:=c3) (uE ho G hD i3 (v:=.ref V') λu z=>z) GQ Ky Td (cj (iF (pos:=p8) hi (.inl hl) CJ n6) (cj (fJ (pos:=p9) (v:=.ref V') KD KE rfl KN) ez)) (by decide+kernel) (by decide+kernel)))))) rfl (.inr GP))
  (vz (yx (pos:=rp) (vK (pos:=sp) vL (yL (pos:=lp) (cj (yK (x1:=kk) (pos:=e1) ez) (cj (tH (j:=j) (pos:=e2)) ez))) (cZ (p:=ip) (pos:=kp) oa Kz OS boot_int (cj (iF (pos:=jp) GO (.inl GP) HA OU) ez) (by decide+kernel) (by decide+kernel)) λ_ _=>rfl)))
 refine ps1 η s σ H _ I ?_;have g:(σ.set ig (Δ (V.bl Λ)))[ig]?=Δ (Δ (.bl Λ)):=QC (by rw[I.len];exact(qqz GO).1);refine⟨_,OT,rfl,Λ,rfl,(if_pos rfl).mpr ⟨_,OT,rfl,Λ,rfl,(if_pos rfl).mpr ⟨_,OT,rfl,Ξ,rfl,?_⟩⟩⟩;exact⟨QH _,λp hp=>⟨(show 2<=PQ by decide+kernel),λp2 IV=>⟨_,g,.inr ⟨Λ,rfl,p2,_,1,.aU,rfl,rfl,.inl (.inl aF),rfl,h _ ((aZ hp _).trans (aZ IV _))⟩⟩⟩⟩
end
end L2
namespace Y
open PySem L2 PySem.Spec PyProof.Rows
section
variable{C:Addr}{P:Qr}{w:World}{K:PD}{mg:Str->Option Value}{S:TX}{tabs:List (Addr×List (Pos×Str))}{a:Nat->Addr}{fd:Nat->Rn}
abbrev Av(X:Cx)(C:Addr)(Ex:XK)(η:List (Addr×Obj)):Cx:={X with pn:=X.pn++η,xe:=λe s'=>∃dc bZ H1 s1,Inv {X with pn:=X.pn++η} dc bZ H1 s1/\kF X.prog X.w C X.stack H1 s1 Ex e s'}
theorem CL(I:Inv X η σ H s):Inv (Av X C Ex η) [] σ H s:=
 ⟨⟨I.ok.mod,I.ok.kind,I.ok.glob,I.ok.blt,I.ok.above,I.ok.inj,I.ok.has,I.ok.Dc,I.ok.hd,I.ok.frames,I.ok.DX,I.ok.HR,I.ok.bs,I.ok.yg,I.ok.qM,I.ok.tF,I.ok.eM,I.ok.tG⟩,
  I.os,I.bare,I.base,I.loc,I.cell,I.free,I.dI,λp hp=>I.pin p (by simpa using hp),I.aQ,I.len⟩
theorem GR(ok:X.Ok)(I:Inv {X with pn:=X.pn++η} dc σ H s):Inv X η σ H s:=
 ⟨ok,I.os,I.bare,I.base,I.loc,I.cell,I.free,I.dI,λp hp=>I.pin p (QB _ hp),I.aQ,I.len⟩
theorem lI(ok:X.Ok)(I:Inv (Av X C Ex η) dc σ H s):Inv X η σ H s:=
 ⟨ok,I.os,I.bare,I.base,I.loc,I.cell,I.free,I.dI,λp hp=>I.pin p (QB _ hp),I.aQ,I.len⟩
theorem KO(T:dO X kt g Cc)(GK:kt.cx=kF X.prog X.w C)(hq:∀H,kt.xq H=∀H',du H H'->Q .aU H')(hs:X.stack=X.env::X.outer)(hf:X.env.frame=Δ X.env.locals){i ix ig:Nat}(Hy:cU {g with nc:=Λ,nx:=Ξ} e ce=Λ)(OV:S3 ce (Δ (.Name y py)) apos.line X.env=pure Ξ)(hi:g.N[i]?=Δ y)(hl:dY g y=Λ)(hx:TH X.K (.ref C) (.ref C)=Δ Λ)(hm:X.mg x=Δ (.ref C))(hg:Gl X x)(Hk:X.N[ix]?=Δ n0)(Hx:X.env.scope.names.lookup n0=Δ .local)(GO:X.N[ig]?=Δ gn)(GP:X.env.scope.names.lookup gn=Δ .local)(GQ:Gl X "isinstance")(Ky:X.mg "isinstance"=Θ)(Kz:Gl X "int")(OS:X.mg "int"=Θ)(KA:Gl X ux)(KC:X.mg ux=Δ (.ref U))(KD:Gl X vx)(KE:X.mg vx=Δ (.ref V'))(KG:Gl X tx)(KH:X.mg tx=Θ)(KJ:Rt tx=Δ (.type tn))(i1:Qw X.K (.ref C) (.ref U)=Δ Λ)(i2:Qw X.K (.ref C) (.type tn)=Δ Λ)(i3:Qw X.K (.ref C) (.ref V')=Δ Ξ)(G:gy X.K C)(hD:(T9 X.K C).isSome=Λ)(hd:(x==("__debug__":Str))=Ξ)(KL:(ux==("__debug__":Str))=Ξ)(KN:(vx==("__debug__":Str))=Ξ)(Hz:(tx==("__debug__":Str))=Ξ)(EO:tx≠"__name__")(CJ:(n0==("__debug__":Str))=Ξ)(n6:(n0==("__classdict__":Str))=Ξ)(HA:(gn==("__debug__":Str))=Ξ)(OU:(gn==("__classdict__":Str))=Ξ):
  PS X (.Try [.Assign [.Name y py] ce apos] [.ExceptHandler (Δ (.Name x xp)) (Δ n0) [.Assign [.Name gn gp] (.BoolOp .And [.Call (.Name "isinstance" p1) [.Name n0 p2,.Name ux p3] [] c1,.Call (.Name "isinstance" p4) [.Name n0 p5,.Name tx p6] [] c2,.UnaryOp .Not (.Call (.Name "isinstance" p7) [.Name n0 p8,.Name vx p9] [] c3) np] bp) ap,
   .Return (Δ (.Subscript (.List [.Tuple [] kk e1,.Constant .none j e2] lp) (.Call (.Name "int" ip) [.Name gn jp] [] kp) sp)) rp] Ge] [] [] pos)
   (λD σ H=>D.rt=Q/\tS (ae X kt) Z (aX Cc (.uG i e [.ret (.cst .aU)])) D σ H):=by
 intro η s σ H D I ⟨KP,m,r,st,ar,as,h⟩;rw[iS] at h
 let X':=Av X C (λ_ _ H'=>kt.xq H') η
 have GX:Good X' kt {g with nc:=Λ,nx:=Ξ} Cc:=
  {N:=T.N,loc:=T.loc,DE:=T.DE,gl:=T.gl,calm:=T.calm,hu:=T.hu,bl:=T.bl,fn:=λk x n h=>⟨(T.fn k x n h).ex⟩,cs:=T.cs,tb:=T.tb,
   px:=λ_ dc bZ H1 s1 e s' I F=>⟨dc,bZ,H1,s1,I.lN,by rw[GK] at F;exact F⟩,pb:=λz=>absurd (show Λ=Ξ from z) (by decide),fld:=T.fld,Fz:=T.Fz,FA:=T.FA}
 have hpe:=(az e kt X' _ ce Z GX Hy).1;have hN:X.N.Nodup:=by rw[T.N];exact T.nd
 have hps:PS X' (.Assign [.Name y py] ce apos) _:=tM (X:=X') hN (by show X.N[i]?=Δ y;rw[T.N];exact hi) (T.vi hl) hpe OV (T.Gp hl);refine wpAny_Try_except (Uh ?_);refine QY (hps [] s σ H D (CL I) ⟨m,r,st,ar,as,?_⟩) (λf s1 q=>?_) λe0 s' ⟨dc,bZ,H1,s1,I1,F⟩=>?_
 ·cases hr:aa Cc e r st with
  |ok v st1=>rw[hr] at h;exact λm1 H1 br aS u ru=>h m1 H1 br aS _ ((ar.le br).set ru)|ex z st1=>rw[hr] at h;intro m1 H1 br aS;show kt.xq H1;rw[hq];intro H2 sm;rw[<-KP];exact(show Ok (ae X kt) Z (R.ok (.rt (.d .aU)) st1) m H (ke (ae X kt) Z D) from h) m1 H2 (br.trans (Le.same sm)) (aS.same sm) .aU rfl
  |no=>rw[hr] at h;exact h
 ·cases f with|next=>obtain⟨bZ,H',I',q⟩:=q;exact R3 (R3 ⟨bZ,H',lI I.ok I',q⟩)|ret u=>obtain⟨v,bZ,H',I',rv,q⟩:=q;exact⟨v,bZ,H',lI I.ok I',rv,q⟩|brk=>obtain⟨bZ,H',I',q⟩:=q;exact⟨bZ,H',lI I.ok I',q⟩|cont=>obtain⟨bZ,H',I',q⟩:=q;exact⟨bZ,H',lI I.ok I',q⟩
 ·have IX:=GR I.ok I1;refine zG (C:=C) (Y:=C) (E:=λ_ _ H'=>kt.xq H') IX hs hf F hx hm hg hN Hk Hx (λea t H' ob s6 _ hu ho I6=>?_) hd;have hu':∀H'',du H' H''->D.rt .aU H'':=by rw[KP];have:kt.xq H':=hu;rw[hq] at this;exact this
  exact CH ho hN Hk Hx GO GP GQ Ky Kz OS KA KC KD KE KG KH KJ i1 i2 i3 G hD I6 (QC (by rw[IX.len];exact(qqz Hk).1)) hu' KL KN Hz EO CJ n6 HA OU
theorem Aw(T:nS C K mg S tabs a fd)(D:fW C P w K mg S tabs a fd n base)(hk:S.is[k]?=Δ i)(vN:i.1.F.sh=Ξ){ei ix ig:Nat}(OH:i.1.F.body=[.uG ei e [.ret (.cst .aU)],.ret er])(hnn:i.1.F.nn=i.1.N.length)(Mc:i.1.F.np=i.1.ps.length)(qT:fM i.1.st=[.Try [.Assign [.Name y py] ce apos] [.ExceptHandler (Δ (.Name x xp)) (Δ n0) [.Assign [.Name gn gp] (.BoolOp .And [.Call (.Name "isinstance" p1) [.Name n0 p2,.Name ux p3] [] c1,.Call (.Name "isinstance" p4) [.Name n0 p5,.Name tx p6] [] c2,.UnaryOp .Not (.Call (.Name "isinstance" p7) [.Name n0 p8,.Name vx p9] [] c3) np] bp) ap,
   .Return (Δ (.Subscript (.List [.Tuple [] kk e1,.Constant .none j e2] lp) (.Call (.Name "int" ip) [.Name gn jp] [] kp) sp)) rp] Ge] [] [] pos,.Return (Δ re) rp2])(Hy:cU {kl S i with nc:=Λ,nx:=Ξ,Hu:=λ_=>Ξ} e ce=Λ)(OR:cU {kl S i with nc:=Λ,nx:=Λ,Hu:=λ_=>Ξ} er re=Λ)(OV:∀env,S3 ce (Δ (.Name y py)) apos.line env=pure Ξ)(hi:i.1.N[ei]?=Δ y)(hl:dY (kl S i) y=Λ)(hx:TH K (.ref C) (.ref C)=Δ Λ)(hm:mg x=Δ (.ref C))(hg:(kl S i).gl x=Λ)(Hk:i.1.N[ix]?=Δ n0)(Hx:(aR i.1.st).names.lookup n0=Δ .local)(GO:i.1.N[ig]?=Δ gn)(GP:(aR i.1.st).names.lookup gn=Δ .local)(GQ:(kl S i).gl "isinstance"=Λ)(Kz:(kl S i).gl "int"=Λ)(KA:(kl S i).gl ux=Λ)(KC:mg ux=Δ (.ref U))(KD:(kl S i).gl vx=Λ)(KE:mg vx=Δ (.ref V'))(KG:(kl S i).gl tx=Λ)(KH:mg tx=Θ)(KJ:Rt tx=Δ (.type tn))(i1:Qw K (.ref C) (.ref U)=Δ Λ)(i2:Qw K (.ref C) (.type tn)=Δ Λ)(i3:Qw K (.ref C) (.ref V')=Δ Ξ)(G:gy K C)(hD:(T9 K C).isSome=Λ)(hd:aH x=Λ)(KL:aH ux=Λ)(KN:aH vx=Λ)(Hz:aH tx=Λ)(CJ:aH n0=Λ)(HA:aH gn=Λ)xq:
  dy P w K mg base (kF P w C) (lv (n+1)) (a k) (fd k) i.1.ps (qJ (sv S K base tabs xq) (callC S.Fs (n+1) k) i.1.F.np):=by
 obtain⟨⟨x1,F⟩,_,hb,sc,_⟩:=T.fn k i hk;refine(v9 (k:=lv n+1) F sc (λvs H Q E h=>?_) (λA outer s H vs Q E hr h=>?_)).mono (RZ _);·obtain⟨_,m,Z,qs,st,hl,_⟩:=h;rw[hl,Mc]
 obtain⟨hE,m,Z,qs,st,hlen,rq,as,aQ⟩:=h;have ek:=TX.Kt hk;obtain⟨q2,d,ea,yp,h2,_⟩:=o6 ek vN aQ
 let X:=lU (kF P w C) P w K mg base i.1.N i.1.name (aR i.1.st) (a k) (fd k).code A outer s H E
 let kt:KT:=ON (kF P w C) (λH=>∀H',du H H'->Q .aU H') tabs
 obtain⟨Z0,ht⟩:=o4 (X:=X) (kt:=kt) (kb:=sv S K base tabs xq) hnn rq as rfl rfl (λ_ _ _ _ z=>z) rfl ea yp h2;have T1:dO X kt {kl S i with nc:=Λ,nx:=Λ,Hu:=λ_=>Ξ} (callC S.Fs n):=
  {N:=rfl,loc:=λx h=>h,DE:=λx h=>h,gl:=λx h=>h,calm:=rfl,hu:=by have:=hr.un;show(A.deeper _).units+100 < cLine;lia,bl:=T.bl,
   fn:=sA T D ⟨rfl,rfl,rfl,rfl,rfl⟩ hr rfl rfl,cs:=T.cs,tb:=T.tb,px:=λz=>absurd (show Λ=Ξ from z) (by decide),
   pb:=λz=>absurd (show Λ=Ξ from z) (by decide),fld:=sC T rfl,Fz:=sD T D ⟨rfl,rfl,rfl,rfl,rfl⟩ hr rfl rfl,FA:=sE T D ⟨rfl,rfl,rfl,rfl,rfl⟩ hr rfl rfl,
   cell:=λx h=>h,nd:=sc.nd,Oy:=λx _=>rfl,own:=PassesOwn.leaving,Oz:=λx hx=>absurd (show Ξ=Λ from hx) (by decide)}
 rw[OH] at ht;rw[qT];have gl:∀{z:Str},(kl S i).gl z=Λ->Gl X z:=λ{z} h=>(show(aR i.1.st).names.lookup z=Δ .globalImplicit from of_decide_eq_true h);refine⟨_,lO (KO (X:=X) (kt:=kt) (Z:=Z0) (Q:=Q) (i:=ei) (ix:=ix) (ig:=ig) (e:=e) (U:=U) (V':=V') (tn:=tn) T1 rfl (λ_=>rfl) rfl rfl Hy (OV _) hi hl hx hm (gl hg) Hk Hx GO GP (gl GQ) (T.bl _ (by decide+kernel)) (gl Kz) (T.bl _ (by decide+kernel)) (gl KA) KC (gl KD) KE (gl KG) KH KJ i1 i2 i3 G hD (pn hd).1 (pn KL).1 (pn KN).1 (pn Hz).1 (pn Hz).2.2 (pn CJ).1 (pn CJ).2.1 (pn HA).1 (pn HA).2.1)
  (vz (DI (Z:=Z0) (C:=callC S.Fs n) (az er kt X _ re Z0 T1.toGood OR).1)),?_⟩
 obtain⟨m1,r1,st1,ar1,aS,h1⟩:=ht;rw[c0] at h1;refine⟨rfl,m1,r1,st1,ar1,aS,(Ok.bind h1).mono λf aB m2 H2 cS cB h3=>?_⟩;cases f with
 |nx r2=>intro bZ Kp;refine⟨m2,r2,aB,Kp,cB,?_⟩;have h3:Ok (ae X kt) Z0 (ai (callC S.Fs n) [.ret er] r2 aB) m2 H2 _:=h3;rw[c0] at h3;refine(Ok.bind h3).mono λf lA m4 H4 ny nQ h4=>?_;cases f with|nx r5=>exact Ok.here h4 nQ|bk r5=>exact Ok.here h4 nQ|ct r5=>exact Ok.here h4 nQ|rt v=>exact Ok.here h4 nQ
 |bk r2=>exact Ok.here h3 cB|ct r2=>exact Ok.here h3 cB|rt v=>exact Ok.here h3 cB
end
end Y
namespace Y
open PySem
variable{Fs:List Fn}
@[simp] theorem KQ st x:eD st (.d x)=Θ:=rfl
@[simp] theorem GS st x:eD st (.dw x)=Θ:=rfl
@[simp] theorem Md xs:oE (.lst xs)=Ξ:=rfl
@[simp] theorem OW kvs:oE (.dK kvs)=Λ:=rfl
@[simp] theorem xT{α:Type}(f:α->D):∀xs:List α,ba (xs.map λx=>P.d (f x))=Δ (xs.map f)
 |[]=>rfl|x::xs=>by simp[ba,BW,xT f xs]
@[simp] theorem fX:∀xs,ba (xs.map P.d)=Δ xs
 |[]=>rfl|x::xs=>by simp[ba,BW,fX xs]
theorem jC{G:P->cE}{f:D->D}:∀{xs:List D},(∀x∈xs,c (G (.d x)) st=.ok (p x) st)->(∀x∈xs,e (G (.d x)) st=.ok (.d (f x)) st)->
  cG G c e (xs.map .d) st=.ok ((xs.filter p).map λx=>.d (f x)) st
 |[],_,_=>rfl|x::xs,h,k=>by have ih:=jC (G:=G) (c:=c) (e:=e) (st:=st) (f:=f) (p:=p) (xs:=xs) (λy hy=>h y (Pz _ hy)) λy hy=>k y (Pz _ hy);simp only[Qq];rw[eF,h x PC,ag];cases hp:p x with|true=>rw[if_pos rfl,k x PC,ag,ih,ag,RW hp,Qq]|false=>rw[if_neg (by simp),ih,RX (by simp[hp])]
theorem qm{xs:List D}{f:D->D}(hw:b7 C w r st=.ok (xs.map .d) st1)(hl:xs.length<=aC)(hc:∀x∈xs,aa C c (Δ (.d x)::cH js r) st1=.ok (.d (.bl (p x))) st1)(he:∀x∈xs,aa C e (Δ (.d x)::cH js r) st1=.ok (.d (f x)) st1):bN C (.comp w 1 js (Δ c) e) r st=.ok ((xs.filter p).map λx=>.d (f x)) st1:=by rw[iR,hw,ag,if_pos ⟨rfl,by simpa using hl⟩];exact jC (λx hx=>by rw[mj,hc x hx];rfl) he
def Ax:P->Bool
 |.obj _=>Ξ|.lf _=>Ξ|.fn _ dB=>df dB|_=>Λ
theorem mQ:∀{ps},ps.all Ax=Λ->dQ st ps=Δ ps/\ps.any isObj=Ξ
 |[],_=>⟨rfl,rfl⟩|p::ps,h=>by rw[RO,Pw] at h;obtain⟨i1,i2⟩:=mQ (st:=st) h.2;cases p with|obj n=>cases h.1|lf n=>cases h.1|d x=>exact⟨by simp[dQ,pX,iy,i1],by simp[isObj,i2]⟩|dw ns=>exact⟨by simp[dQ,pX,i1],by simp[isObj,i2]⟩|fn k dB=>exact⟨by simp[dQ,pX,i1,show df dB=Λ from h.1],by simp[isObj,i2]⟩
theorem call_of(hF:Fs[k]?=Δ F)(hp:ps.all Ax=Λ)(hr:nP (callC Fs n) F ps=Δ d)(vN:F.sh=Ξ:=by rfl):callC Fs (n+1) k ps st=.ok (.d d) st:=by obtain⟨a1,a2⟩:=mQ (st:=st) hp;rw[dD,hF];simp only[vN,a1,hr,mv,a2,Bool.false_and,QD,if_false]
theorem jD(hF:Fs[k]?=Δ F)(vN:F.sh=Λ)(hl:ps.length=F.np)(hr:ai (callC Fs n) F.body (aq F.nn ps) st=.ok (.rt p) bI):callC Fs (n+1) k ps st=.ok p bI:=by rw[dD,hF];simp only[vN,hl,hr,if_true,B0]
theorem cb(hl:ps.length=F.np)(he:ai C F.body (aq F.nn ps) []=.ok (.rt p) st)(hf:iy st p=Δ d):nP C F ps=Δ d:=by unfold nP;rw[if_pos hl,he];exact hf
class Kf (α β:Type) where
 f:α->aW->R β
def bc{α β:Type}(a:R α)[k:Kf α β]:R β:=a.bind k.f
@[simp] theorem KR{α β:Type}(a:α)st(f:α->aW->R β):bc (.ok a st) (k:=⟨f⟩)=f a st:=rfl
section
variable{C:Nat->List P->aW->R P}{r:cE}{st:aW}
@[simp] theorem OX i:aa C (.var i) r st=R.of (r[i]?).join st:=rfl
@[simp] theorem Me o a b:aa C (.op o a b) r st=bc (aa C a r st) (k:=⟨λx st1=>bc (aa C b r st1) (k:=⟨λy aB=>R.of (A5 o x y aB) aB⟩)⟩):=rfl
@[simp] theorem KS a:aa C (.neg a) r st=bc (aa C a r st) (k:=⟨λx st1=>match x with|.d (.int i)=>.ok (.d (.int (-i))) st1|_=>.no⟩):=rfl
@[simp] theorem KU a:aa C (.not a) r st=bc (aa C a r st) (k:=⟨λx st1=>bc (R.of (iM st1 x) st1) (k:=⟨λb aB=>.ok (.d (.bl (!b))) aB⟩)⟩):=rfl
@[simp] theorem KW o a b:aa C (.cmp o a b) r st=bc (aa C a r st) (k:=⟨λx st1=>bc (aa C b r st1) (k:=⟨λy aB=>bc (R.of (fu o x y aB) aB) (k:=⟨λb cf=>.ok (.d (.bl b)) cf⟩)⟩)⟩):=rfl
@[simp] theorem GU o o' a b c:aa C (.chain o o' a b c) r st=bc (aa C a r st) (k:=⟨λx st1=>bc (aa C b r st1) (k:=⟨λy aB=>bc (R.of (fu o x y aB) aB) (k:=⟨λk cf=>if k then bc (aa C c r cf) (k:=⟨λz lA=>bc (R.of (fu o' y z lA) lA) (k:=⟨λb yh=>.ok (.d (.bl b)) yh⟩)⟩) else .ok (.d (.bl Ξ)) cf⟩)⟩)⟩):=rfl
@[simp] theorem KY c a b:aa C (.ite c a b) r st=bc (aa C c r st) (k:=⟨λx st1=>bc (R.of (iM st1 x) st1) (k:=⟨λk aB=>if k then aa C a r aB else aa C b r aB⟩)⟩):=rfl
@[simp] theorem KZ es:aa C (.tup es) r st=bc (aG C es r st) (k:=⟨λps st1=>if ps.length<=aC then bc (R.of (ba ps) st1) (k:=⟨λxs aB=>.ok (.d (.tup xs)) aB⟩) else .no⟩):=rfl
theorem CM l:aa C (.lst Ξ l) r st=(bN C l r st).bind λps st1=>(R.of (ba ps) st1).bind λxs aB=>.ok (.d (.pl xs)) aB:=rfl
@[simp] theorem HB l:aa C (.lst Ξ l) r st=bc (bN C l r st) (k:=⟨λps st1=>bc (R.of (ba ps) st1) (k:=⟨λxs aB=>.ok (.d (.pl xs)) aB⟩)⟩):=CM l
@[simp] theorem HC f es:aa C (.call f es) r st=bc (aG C es r st) (k:=⟨λps st1=>C f ps st1⟩):=rfl
@[simp] theorem K0 a T:aa C (.zM a T) r st=bc (aa C a r st) (k:=⟨λx st1=>bc (R.of (BY x st1) st1) (k:=⟨λt aB=>.ok (.d (.bl (dS t T))) aB⟩)⟩):=rfl
@[simp] theorem Mf f es:aa C (.bf f es) r st=bc (aG C es r st) (k:=⟨λps st1=>R.of (yk f ps st1) st1⟩):=rfl
@[simp] theorem Mg a b:aa C (.ix a b) r st=bc (aa C a r st) (k:=⟨λx st1=>bc (aa C b r st1) (k:=⟨λy aB=>R.of (Fg x y aB) aB⟩)⟩):=rfl
@[simp] theorem GV a lo hi:aa C (.slice a lo hi) r st=bc (aa C a r st) (k:=⟨λx st1=>bc (cg C lo r st1) (k:=⟨λl aB=>bc (cg C hi r aB).nx (k:=⟨λh cf=>R.of (fS x l h cf) cf⟩)⟩)⟩):=rfl
@[simp] theorem K3 a:aa C (.rev a) r st=bc (aa C a r st) (k:=⟨λx st1=>match x with|.d (.tup xs)=>.ok (.d (.tup xs.reverse)) st1|_=>.no⟩):=rfl
@[simp] theorem HD t a:aa C (.xt t a) r st=bc (aa C a r st) (k:=⟨λx st1=>match x with|.d (.str k)=>.ok (.d (match dA t k with|some i=>.int i|none=>.aU)) st1|_=>.no⟩):=rfl
@[simp] theorem HE es:bN C (.gd es) r st=bc (aG C es r st) (k:=⟨λps st1=>bc (R.of (jo ps) st1) (k:=⟨λqs aB=>if qs.length<=aC then .ok qs aB else .no⟩)⟩):=rfl
@[simp] theorem HF a b:bN C (.zip a b) r st=bc (aa C a r st) (k:=⟨λx st1=>bc (aa C b r st1) (k:=⟨λy aB=>bc (R.of (BZ x y) aB) (k:=⟨λzs cf=>.ok (zs.map .d) cf⟩)⟩)⟩):=rfl
@[simp] theorem GW e:cg C (Δ e) r st=bc (aa C e r st) (k:=⟨λx st1=>.ok (Δ x) st1⟩):=rfl
@[simp] theorem GY e es:aG C (e::es) r st=bc (aa C e r st) (k:=⟨λx st1=>bc (aG C es r st1) (k:=⟨λxs aB=>.ok (x::xs) aB⟩)⟩):=rfl
@[simp] theorem HG e e' es:dJ C (e::e'::es) r st=bc (aa C e r st) (k:=⟨λx st1=>match x with|.d (.bl b)=>if b then dJ C (e'::es) r st1 else .ok (.d (.bl Ξ)) st1|_=>.no⟩):=rfl
@[simp] theorem HI e e' es:dM C (e::e'::es) r st=bc (aa C e r st) (k:=⟨λx st1=>match x with|.d (.bl b)=>if b then .ok (.d (.bl Λ)) st1 else dM C (e'::es) r st1|_=>.no⟩):=rfl
@[simp] theorem GZ es:bN C (.eP es) r st=bc (aG C es r st) (k:=⟨λps st1=>if ps.length<=aC then .ok ps st1 else .no⟩):=rfl
@[simp] theorem G0 e:bN C (.list e) r st=bc (aa C e r st) (k:=⟨λx st1=>R.of (eC st1 x) st1⟩):=rfl
@[simp] theorem K4 e:b7 C (.ex e) r st=bc (aa C e r st) (k:=⟨λx st1=>R.of (j9 x) st1⟩):=rfl
@[simp] theorem HJ es:b7 C (.gd es) r st=bc (aG C es r st).nx (k:=⟨λps st1=>R.of (jo ps) st1⟩):=rfl
@[simp] theorem G1 e:b7 C (.enum e) r st=bc (aa C e r st) (k:=⟨λx st1=>match x with|.d (.tup xs)=>.ok (gC 0 xs) st1|_=>.no⟩):=rfl
@[simp] theorem K5 o i j:A5 o (.d (.int i)) (.d (.int j)) st=(ko o i j).map λk=>.d (.int k):=by cases o<;>rfl
@[simp] theorem op_tt xs ys:A5 .add (.d (.tup xs)) (.d (.tup ys)) st=if xs.length+ys.length<=aC then Δ (.d (.tup (xs++ys))) else Θ:=rfl
@[simp] theorem K6 x y:A5 .add (.d (.str x)) (.d (.str y)) st=if x.length+y.length<=aC then Δ (.d (.str (x++y))) else Θ:=rfl
@[simp] theorem K7 xs ys:A5 .add (.d (.pl xs)) (.d (.pl ys)) st=if xs.length+ys.length<=aC then Δ (.d (.pl (xs++ys))) else Θ:=by
 have e:ba (xs.map P.d++ys.map P.d)=Δ (xs++ys):=by rw[<-List.map_append,fX]
 show(ba (xs.map P.d++ys.map P.d)).bind _=_;rw[e,<-Qh];rfl
@[simp] theorem Mh i j:ko .add i j=Δ (i+j):=rfl
@[simp] theorem Mi i j:ko .sub i j=Δ (i - j):=rfl
theorem dZ(h:(-iw < i/\i < iw)\/(-iw < j/\j < iw)):ko .mul i j=Δ (i*j):=by unfold ko;simp only[if_pos h]
theorem bH(h:0 < j):ko .mod i j=Δ (i % j):=by unfold ko;simp only[if_pos h]
theorem di(h:0 < j/\j < 1073741824):ko .fdiv i j=Δ (i / j):=by unfold ko;simp only[if_pos h]
@[simp] theorem OY b:iM st (.d (.bl b))=Δ b:=rfl
@[simp] theorem OZ:BY (.d .aU) st=Δ "NoneType":=rfl
@[simp] theorem ty_bl b:BY (.d (.bl b)) st=Δ "bool":=rfl
@[simp] theorem ty_int b:BY (.d (.int b)) st=Δ "int":=rfl
@[simp] theorem ty_str b:BY (.d (.str b)) st=Δ "str":=rfl
@[simp] theorem O0 b:BY (.d (.tup b)) st=Δ "tuple":=rfl
@[simp] theorem ty_pl b:BY (.d (.pl b)) st=Δ "list":=rfl
@[simp] theorem O1 i j:fu .lt (.d (.int i)) (.d (.int j)) st=Δ (decide (i < j)):=rfl
@[simp] theorem O2 i j:fu .le (.d (.int i)) (.d (.int j)) st=Δ (decide (i<=j)):=rfl
@[simp] theorem cmp_gt i j:fu .gt (.d (.int i)) (.d (.int j)) st=Δ (decide (j < i)):=rfl
@[simp] theorem O3 i j:fu .ge (.d (.int i)) (.d (.int j)) st=Δ (decide (j<=i)):=rfl
@[simp] theorem O4 x y:fu .eq (.d x) (.d y) st=nu x y:=rfl
@[simp] theorem O5 x y:fu .ne (.d x) (.d y) st=(nu x y).map not:=rfl
@[simp] theorem Mj x:fu .xr (.d x) (.d .aU) st=Δ (eR (.d x)):=rfl
@[simp] theorem K8 x:fu .nN (.d x) (.d .aU) st=Δ (!eR (.d x)):=rfl
@[simp] theorem Ml x y:nu (.str x) (.str y)=Δ (x==y):=rfl
@[simp] theorem Mm x y:nu (.int x) (.int y)=Δ (x==y):=rfl
@[simp] theorem O6 x y:nu (.bl x) (.bl y)=Δ (x==y):=rfl
@[simp] theorem O7 y:nu .aU (.int y)=Δ Ξ:=rfl
@[simp] theorem O8 xs:nu (.tup xs) (.tup [])=Δ xs.isEmpty:=by have h:min (iK (.tup xs)) (iK (.tup []))<=100:=Qj (RS _ _) (by decide);unfold nu;rw[if_pos h];cases xs<;>rfl
@[simp] theorem O9 xs:nu (.pl xs) (.pl [])=Δ xs.isEmpty:=by have h:min (iK (.pl xs)) (iK (.pl []))<=100:=Qj (RS _ _) (by decide);unfold nu;rw[if_pos h];cases xs<;>rfl
@[simp] theorem Mn xs:yk .len [.d (.tup xs)] st=Δ (.d (.int xs.length)):=congrArg (λn:Nat=>Δ (P.d (.int n))) (PX ..)
@[simp] theorem Mo xs:yk .len [.d (.pl xs)] st=Δ (.d (.int xs.length)):=congrArg (λn:Nat=>Δ (P.d (.int n))) (PX ..)
@[simp] theorem Mp ns:yk .len [.dw ns] st=Δ (.d (.int ns.length)):=congrArg (λn:Nat=>Δ (P.d (.int n))) (PX ..)
@[simp] theorem Mq xs:yk .tuple [.d (.pl xs)] st=Δ (.d (.tup xs)):=congrArg (λo:Option (List D)=>o.map λys=>P.d (.tup ys)) (fX xs)
theorem qo:jV (xs.map f) i=(jV xs i).map f:=by unfold jV;rw[PX];cases wQ xs.length i with|none=>rfl|some k=>exact Qa ..
@[simp] theorem ix_t xs i:Fg (.d (.tup xs)) (.d (.int i)) st=(jV xs i).map .d:=by exact qo
@[simp] theorem Pa xs i:Fg (.d (.pl xs)) (.d (.int i)) st=(jV xs i).map .d:=by exact qo
@[simp] theorem ix_s ns i:Fg (.dw ns) (.d (.int i)) st=(jV ns i).map λk=>.d (.int k):=by exact qo
@[simp] theorem dit_t xs:j9 (.d (.tup xs))=Δ (xs.map .d):=rfl
@[simp] theorem dit_l xs:j9 (.d (.pl xs))=Δ (xs.map .d):=rfl
@[simp] theorem sit_t xs:eC st (.d (.tup xs))=Δ (xs.map .d):=rfl
@[simp] theorem sit_l xs:eC st (.d (.pl xs))=Δ (xs.map .d):=rfl
@[simp] theorem sl_t xs lo hi:fS (.d (.tup xs)) lo hi st=(fw lo).bind λl=>(fw hi).map λh=>.d (.tup (cF xs l h)):=by unfold fS;cases fw lo<;>simp;cases fw hi<;>simp
@[simp] theorem HK:fw Θ=Δ Θ:=rfl
@[simp] theorem K9 i:fw (Δ (.d (.int i)))=Δ (Δ i):=rfl
@[simp] theorem Mr x ps:ba (.d x::ps)=(ba ps).map λxs=>x::xs:=rfl
@[simp] theorem Pb:ba []=Δ []:=rfl
theorem ie{α:Type}{xs:List α}{k:Nat}{a:α}(h:xs[k]?=Δ a):jV xs (k:Int)=Δ a:=by have hk:=(qqz h).1;unfold jV wQ;rw[if_pos (by lia),if_pos (by lia)];simpa using h
@[simp] theorem Pc{α:Type}(a:α)xs:jV (a::xs) 0=Δ a:=ie (k:=0) rfl
@[simp] theorem Pd{α:Type}(a b:α)xs:jV (a::b::xs) 1=Δ b:=ie (k:=1) rfl
theorem ak(h:aX C s r st=.ok (.nx r1) st1)(k:ai C rest r1 st1=res):ai C (s::rest) r st=res:=by rw[c0,h,ag];exact k
theorem av(h:aX C s r st=.ok (.rt v) st1):ai C (s::rest) r st=.ok (.rt v) st1:=by rw[c0,h,ag]
theorem aA:ai C [] r st=.ok (.nx r) st:=by rw[mr]
theorem bw(h:aa C e r st=.ok v st1):aX C (.ret e) r st=.ok (.rt v) st1:=by rw[hU,h,ag]
theorem bO(h:aa C e r st=.ok v st1):aX C (.set i e) r st=.ok (.nx (r.set i (Δ v))) st1:=by rw[dC,h,ag]
theorem bU(hc:aa C c r st=.ok (.d (.bl Λ)) st1)(h:ai C a r st1=res):aX C (.ifs c a b) r st=res:=by rw[kd,bL,hc];simpa using h
theorem bD(hc:aa C c r st=.ok (.d (.bl Ξ)) st1)(h:ai C b r st1=res):aX C (.ifs c a b) r st=res:=by rw[kd,bL,hc];simpa using h
theorem wa(hw:b7 C w r st=.ok ps st1)(h:forL (me t) (ai C b) ps r st1=res):aX C (.l7 t w b) r st=res:=by rw[mn,hw,ag];exact h
end
end Y
namespace Y
open PySem
section
variable{C:Nat->List P->aW->R P}{r:cE}{st:aW}
theorem qp c f i:aa C (.attr c f i) r st=(R.of (r[i]?).join st).bind λx st1=>R.of ((iO c st1 x).bind λq=>q.2.lookup f) st1:=rfl
theorem CN k c m i es:aa C (.eO k c m i es) r st=(R.of (r[i]?).join st).bind λx jO=>(R.of ((iO c jO x).bind λq=>if(q.2.lookup m).isNone then Δ () else Θ) jO).bind λ_ jO=>(aG C es r jO).bind λps st1=>C k (x::ps) st1:=rfl
theorem vk(he:aa C e r st=.ok v st1)(hi:(r[i]?).join=Δ x)(hq:iO c st1 x=Δ (n,fs))(hl:fs.length < 1000):aX C (.pW c f i e) r st=.ok (.nx r) (st1.set n (.ins c (j8 f v fs))):=by have BK:iP r i=Δ x:=hi;rw[mo,he,ag,BK,dW,ag,hq];simp[hl]
theorem sG{I:Nat->cE->aW->Prop}:∀{ps} {k} {r} {st},(∀i p r st,I (k+i) r st->ps[i]?=Δ p->∃r1 r2 st1,g p r=Δ r1/\b r1 st=.ok (.nx r2) st1/\I (k+i+1) r2 st1)->I k r st->
  ∃r' bI,forL g b ps r st=.ok (.nx r') bI/\I (k+ps.length) r' bI
 |[],k,r,st,_,h=>⟨r,st,rfl,h⟩|p::ps,k,r,st,hs,h=>by obtain⟨r1,r2,st1,h1,h2,h3⟩:=hs 0 p r st h rfl;obtain⟨r',bI,e,q⟩:=sG (g:=g) (b:=b) (I:=I) (ps:=ps) (k:=k+1) (r:=r2) (st:=st1) (λi p r st hi hp=>by have:=hs (i+1) p r st (by rw[show k+(i+1)=k+1+i from TK k i 1];exact hi) (by simpa using hp);rw[show k+(i+1)+1=k+1+i+1 from congrArg (·+1) (TK k i 1)] at this;exact this) h3;refine⟨r',bI,?_,by rw[PU,show k+(ps.length+1)=k+1+ps.length from TK k ps.length 1];exact q⟩;rw[oK,h1,dW,ag,h2,ag];exact e
end
theorem Ay(hF:Fs[k]?=Δ F)(vN:F.sh=Λ)(hl:ps.length=F.np)(hr:ai (callC Fs n) F.body (aq F.nn ps) st=.ok (.nx r) bI):callC Fs (n+1) k ps st=.ok (.d .aU) bI:=by rw[dD,hF];simp only[vN,if_true,hl,hr,B0]
theorem blank_eq:blank=⟨#[32]⟩:=by decide+kernel
theorem wb:∀{a b r s},32∉a->32∉b->a++32::r=b++32::s->a=b/\r=s
 |[],[],r,s,_,_,h=>⟨rfl,(QT h).2⟩|[],y::b,r,s,_,hb,h=>absurd (QT h).1 (λz=>hb (z▸PC))|x::a,[],r,s,ha,_,h=>absurd (QT h).1 (λz=>ha (z▸PC))|x::a,y::b,r,s,ha,hb,h=>by obtain⟨h1,h2⟩:=QT h;obtain⟨e1,e2⟩:=wb (λz=>ha (Pz _ z)) (λz=>hb (Pz _ z)) h2;exact⟨by rw[h1,e1],e2⟩
theorem str_inj{a b:Str}(h:a.cps.toList=b.cps.toList):a=b:=by obtain⟨a⟩:=a;obtain⟨b⟩:=b;have:a=b:=Array.ext' h;rw[this]
theorem qr(a b:Str):(a++b).cps.toList=a.cps.toList++b.cps.toList:=by show(a.cps++b.cps).toList=_;rw[Array.toList_append]
theorem o8 x y r:(Qd blank (x::y::r)).cps.toList=x.cps.toList++32::(Qd blank (y::r)).cps.toList:=by show(x++blank++Qd blank (y::r)).cps.toList=_;rw[qr,qr,blank_eq];simp
theorem La x:Qd blank [x]=x:=rfl
def free(ws:List Str):Prop:=∀p∈ws,32∉p.cps.toList
theorem sH:∀{us vs},us≠[]->vs≠[]->free us->free vs->Qd blank us=Qd blank vs->us=vs
 |[],_,h,_,_,_,_=>absurd rfl h|_,[],_,h,_,_,_=>absurd rfl h|[a],[b],_,_,_,_,h=>by rw[show a=b from h]|[a],b::c::r,_,_,fa,_,h=>by have e:a.cps.toList=_:=(congrArg (λz=>z.cps.toList) h).trans (o8 b c r);exact absurd (by rw[e];simp) (fa a PC)
 |a::c::r,[b],_,_,_,fb,h=>by have e:b.cps.toList=_:=(congrArg (λz=>z.cps.toList) h).symm.trans (o8 a c r);exact absurd (by rw[e];simp) (fb b PC)|a::c::r,b::d::s,_,_,fa,fb,h=>by have e:=congrArg (λz=>z.cps.toList) h;simp only[o8] at e;obtain⟨e1,e2⟩:=wb (fa a PC) (fb b PC) e;have:=sH (us:=c::r) (vs:=d::s) (by simp) (by simp) (λp hp=>fa p (Pz _ hp)) (λp hp=>fb p (Pz _ hp)) (str_inj e2);rw[str_inj e1,this]
theorem mR z y:Qm z y≠[]:=by
 unfold Qm;split;·simp
 ·split;·simp
  ·rw[StrLaws.partsBetween_eq];obtain⟨p,r,e⟩:=StrLaws.partsFrom_ne z y.length 0 (Q2 z y 0 z.length (z.length+1));rw[e];simp
theorem sI z:free (Qm z blank):=λp hp=>by rw[blank_eq] at hp;exact StrLaws.split_free z 32 p hp
theorem fY(h:ws≠[])(hf:free ws):Qm (Qd blank ws) blank=ws:=
 sH (mR _ _) h (sI _) hf (TB _ _)
theorem sJ:∀ws,(Qd blank ws).length<=(ws.map (·.length)).sum+ws.length
 |[]=>QH _|[x]=>by simp[Qd]|x::y::r=>by
  have ih:=sJ (y::r);have e:=congrArg T3 (o8 x y r);simp only[Qh,PU] at e;have l:∀s:Str,s.cps.toList.length=s.length:=λs=>by simp[Uz]
  rw[l,l,l] at e;simp only[Qq,U1,PU] at ih ⊢;omega
theorem Pe(a b c:Str):a++b++c=a++(b++c):=by show(⟨a.cps++b.cps++c.cps⟩:Str)=⟨a.cps++(b.cps++c.cps)⟩;rw[TN]
theorem vm(a b:Str):(a++b).length=a.length+b.length:=by show(a.cps++b.cps).size=_;rw[Array.size_append];rfl
theorem sL:∀{us vs},us≠[]->vs≠[]->Qd blank (us++vs)=Qd blank us++blank++Qd blank vs
 |[],_,h,_=>absurd rfl h|_,[],_,h=>absurd rfl h|[a],v::vs,_,_=>rfl|a::b::us,v::vs,_,_=>by have ih:=sL (us:=b::us) (vs:=v::vs) (by simp) (by simp);show a++blank++Qd blank ((b::us)++(v::vs))=(a++blank++Qd blank (b::us))++blank++Qd blank (v::vs);rw[ih];simp only[Pe]
theorem split_len z:(Qm z blank).length<=z.length+2:=by
 unfold Qm;split;·simp
 ·split;·simp
  ·have e1:=StrLaws.occ_length_le z blank 0 z.length (z.length+1);rw[PySem.length_partsBetween];omega
end Y
namespace Lb
open PySem Y
noncomputable def aK:List (Str×Int):=[("none",0),("empty",0),("any",0),("then",2),("or",2),("and",2),("not",1),("many",1)]
def mS:Fn:={np:=2,nn:=4,sh:=Λ,body:=[.set 2 (.make 13 "Reader" [.var 0,.var 1]),
  .set 3 (.eO 16 "Reader" "pattern" 2 [.cst (.int 0)]),
  .ifs (.cmp .lt (.attr "Reader" "place" 2) (.bf .len [.attr "Reader" "words" 2])) [.raise "NoText"] [],
  .ret (.var 3)]}
def cc:Fn:={np:=2,nn:=2,body:=[.ifs (.cmp .lt (.var 1) (.bf .len [.var 0])) [.ret (.ix (.var 0) (.var 1))] [],
  .ret (.cst (.int 0))]}
def dj:Fn:={np:=2,nn:=3,body:=[.set 2 (.op .mod (.op .mul (.op .add (.op .add (.call 1 [.var 0,.var 1]) (.op .mul (.cst (.int 7919)) (.var 1))) (.cst (.int 1))) (.cst (.int 48271))) (.cst (.int 2147483647))),
  .ret (.op .mod (.op .add (.op .add (.op .mul (.var 2) (.var 2)) (.op .mul (.cst (.int 7)) (.var 2))) (.var 1)) (.cst (.int 2147483629)))]}
def dk:Fn:={np:=2,nn:=3,body:=[.set 2 (.op .mod (.op .mul (.op .add (.op .add (.var 0) (.op .mul (.cst (.int 104729)) (.var 1))) (.cst (.int 17))) (.cst (.int 69621))) (.cst (.int 2147483647))),
  .ret (.op .mod (.op .add (.op .add (.op .mul (.var 2) (.var 2)) (.op .mul (.cst (.int 3)) (.var 2))) (.var 1)) (.cst (.int 2147483629)))]}
def bW:Fn:={np:=2,nn:=3,body:=[.set 2 (.op .mod (.var 0) (.cst (.int 12))),
  .ifs (.cmp .lt (.var 2) (.cst (.int 8))) [.ret (.tup [.cst (.str "letter"),.op .mod (.op .fdiv (.var 0) (.cst (.int 12))) (.var 1)])] [],
  .ret (.ix (.lst Ξ (.eP [.tup [.cst (.str "any")],.tup [.cst (.str "empty")],.tup [.cst (.str "none")],.tup [.cst (.str "any")]])) (.op .sub (.var 2) (.cst (.int 8))))]}
def bt:Fn:={np:=3,nn:=6,body:=[.set 3 (.op .mod (.var 0) (.cst (.int 9))),
  .ifs (.or [.cmp .eq (.var 2) (.cst (.int 0)),.cmp .eq (.var 3) (.cst (.int 0))]) [.ret (.call 4 [.op .fdiv (.var 0) (.cst (.int 9)),.var 1])] [],
  .set 4 (.call 5 [.call 3 [.var 0,.cst (.int 1)],.var 1,.op .sub (.var 2) (.cst (.int 1))]),
  .ifs (.cmp .eq (.var 3) (.cst (.int 1))) [.ret (.tup [.cst (.str "not"),.var 4])] [],
  .ifs (.cmp .lt (.var 3) (.cst (.int 4))) [.ret (.tup [.cst (.str "many"),.var 4])] [],
  .set 5 (.call 5 [.call 3 [.var 0,.cst (.int 2)],.var 1,.op .sub (.var 2) (.cst (.int 1))]),
  .ret (.tup [.ix (.lst Ξ (.eP [.cst (.str "then"),.cst (.str "then"),.cst (.str "or"),.cst (.str "or"),.cst (.str "and")])) (.op .sub (.var 3) (.cst (.int 4))),.var 4,.var 5])]}
def bP:Fn:={np:=2,nn:=4,body:=[.set 2 (.call 5 [.call 3 [.var 0,.cst (.int 3)],.var 1,.cst (.int 2)]),
  .set 3 (.op .mod (.var 0) (.cst (.int 5))),
  .ifs (.cmp .lt (.var 3) (.cst (.int 2))) [.ret (.var 2)] [],
  .ifs (.cmp .eq (.var 3) (.cst (.int 2))) [.ret (.tup [.cst (.str "not"),.var 2])] [],
  .ret (.tup [.ix (.lst Ξ (.eP [.cst (.str "or"),.cst (.str "and")])) (.op .sub (.var 3) (.cst (.int 3))),.var 2,.call 5 [.call 3 [.var 0,.cst (.int 4)],.var 1,.cst (.int 2)]])]}
def cA:Fn:={np:=2,nn:=2,body:=[.ret (.and [.zM (.var 0) "int",.not (.zM (.var 0) "bool"),.chain .le .le (.cst (.int 0)) (.var 0) (.var 1)])]}
def af:Fn:={np:=3,nn:=3,body:=[.ifs (.or [.cmp .gt (.var 2) (.cst (.int 40)),.not (.zM (.var 0) "tuple"),.cmp .eq (.var 0) (.tup []),.not (.zM (.ix (.var 0) (.cst (.int 0))) "str")]) [.ret (.cst (.bl Ξ))] [],
  .ifs (.cmp .isin (.ix (.var 0) (.cst (.int 0))) (.tup [.cst (.str "none"),.cst (.str "empty"),.cst (.str "any")])) [.ret (.cmp .eq (.bf .len [.var 0]) (.cst (.int 1)))] [],
  .ifs (.cmp .eq (.ix (.var 0) (.cst (.int 0))) (.cst (.str "letter"))) [.ret (.and [.cmp .eq (.bf .len [.var 0]) (.cst (.int 2)),.call 7 [.ix (.var 0) (.cst (.int 1)),.op .sub (.var 1) (.cst (.int 1))]])] [],
  .ifs (.or [.and [.cmp .eq (.bf .len [.var 0]) (.cst (.int 2)),.cmp .isin (.ix (.var 0) (.cst (.int 0))) (.tup [.cst (.str "not"),.cst (.str "many")])],.and [.cmp .eq (.bf .len [.var 0]) (.cst (.int 3)),.cmp .isin (.ix (.var 0) (.cst (.int 0))) (.tup [.cst (.str "then"),.cst (.str "or"),.cst (.str "and")])]]) [.ret (.cmp .eq (.lst Ξ (.comp (.ex (.slice (.var 0) (Δ (.cst (.int 1))) Θ)) 1 [1,2] (Δ (.not (.call 8 [.var 0,.var 1,.op .add (.var 2) (.cst (.int 1))]))) (.var 0))) (.lst Ξ (.eP [])))] [],
  .ret (.cst (.bl Ξ))]}
noncomputable def bF:List S:=[.ifs (.zM (.var 2) "tuple") [.set 1 (.op .add (.op .add (.var 1) (.cst (.str " "))) (.call 9 [.var 2]))] [.set 1 (.op .add (.op .add (.var 1) (.cst (.str " "))) (.bf .str [.var 2]))]]
def cI:Fn:={np:=1,nn:=3,body:=[.set 1 (.ix (.var 0) (.cst (.int 0))),
  .l7 (.nm 2) (.ex (.slice (.var 0) (Δ (.cst (.int 1))) Θ)) bF,
  .ret (.var 1)]}
def bx:Fn:={np:=2,nn:=9,body:=[.set 2 (.lst Ξ (.split (.var 0))),
  .set 3 (.op .mod (.op .fdiv (.var 1) (.cst (.int 8))) (.bf .len [.var 2])),
  .set 4 (.op .mod (.op .fdiv (.var 1) (.cst (.int 8))) (.op .add (.bf .len [.var 0]) (.cst (.int 1)))),
  .set 5 (.op .mod (.var 1) (.cst (.int 8))),
  .ifs (.cmp .eq (.var 5) (.cst (.int 0))) [.ret (.op .add (.eY (.var 0) Θ (Δ (.var 4))) (.eY (.var 0) (Δ (.op .add (.var 4) (.cst (.int 1)))) Θ))] [],
  .ifs (.cmp .lt (.var 5) (.cst (.int 3))) [.set 6 (.tchar (.cst (.str " 0123anty-\n\t")) (.op .mod (.op .fdiv (.var 1) (.cst (.int 7))) (.cst (.int 12)))),
  .ret (.op .add (.op .add (.eY (.var 0) Θ (Δ (.var 4))) (.var 6)) (.eY (.var 0) (Δ (.op .sub (.op .add (.var 4) (.var 5)) (.cst (.int 1)))) Θ))] [],
  .ifs (.cmp .eq (.var 5) (.cst (.int 3))) [.ret (.join (.cst (.str " ")) (.op .add (.slice (.var 2) Θ (Δ (.var 3))) (.slice (.var 2) (Δ (.op .add (.var 3) (.cst (.int 1)))) Θ)))] [],
  .ifs (.cmp .eq (.var 5) (.cst (.int 4))) [.ret (.join (.cst (.str " ")) (.op .add (.op .add (.slice (.var 2) Θ (Δ (.var 3))) (.slice (.var 2) (Δ (.var 3)) (Δ (.op .add (.var 3) (.cst (.int 1)))))) (.slice (.var 2) (Δ (.var 3)) Θ)))] [],
  .ifs (.cmp .eq (.var 5) (.cst (.int 5))) [.set 7 (.op .add (.slice (.var 2) (Δ (.op .add (.var 3) (.cst (.int 1)))) (Δ (.op .add (.var 3) (.cst (.int 2))))) (.slice (.var 2) (Δ (.var 3)) (Δ (.op .add (.var 3) (.cst (.int 1)))))),
  .ret (.join (.cst (.str " ")) (.op .add (.op .add (.slice (.var 2) Θ (Δ (.var 3))) (.var 7)) (.slice (.var 2) (Δ (.op .add (.var 3) (.cst (.int 2)))) Θ)))] [],
  .set 8 (.lst Ξ (.split (.cst (.str "none empty any letter then or and not many 0 1 2 3 00 -1 a True None")))),
  .ret (.join (.cst (.str " ")) (.op .add (.op .add (.slice (.var 2) Θ (Δ (.var 3))) (.lst Ξ (.eP [.ix (.var 8) (.op .mod (.op .fdiv (.var 1) (.cst (.int 7))) (.cst (.int 18)))]))) (.slice (.var 2) (Δ (.op .add (.var 3) (.cst (.int 1)))) Θ)))]}
def ef:Fn:={np:=2,nn:=5,body:=[.uG 2 (.call 0 [.var 0,.var 1]) [.ret (.cst .aU)],
  .ret (.ix (.lst Ξ (.eP [.var 2,.tup []])) (.toint (.cmp .xr (.var 2) (.cst .aU))))]}
noncomputable def qt:List S:=[.set 3 (.call 10 [.var 3,.call 3 [.var 4,.var 7]])]
def gP:Fn:={np:=1,nn:=8,body:=[.set 1 (.op .add (.cst (.int 1)) (.op .mod (.call 2 [.var 0,.cst (.int 0)]) (.cst (.int 3)))),
  .set 2 (.call 6 [.call 2 [.var 0,.cst (.int 1)],.var 1]),
  .set 3 (.call 9 [.var 2]),
  .set 4 (.call 2 [.var 0,.cst (.int 2)]),
  .ifs (.cmp .eq (.op .mod (.var 4) (.cst (.int 9))) (.cst (.int 4))) [.set 5 (.ix (.lst Ξ (.eP [.op .mod (.op .fdiv (.var 4) (.cst (.int 9))) (.cst (.int 150)),.op .add (.cst (.int 37)) (.op .mod (.op .fdiv (.var 4) (.cst (.int 9))) (.cst (.int 7)))])) (.op .mod (.op .fdiv (.var 4) (.cst (.int 63))) (.cst (.int 2)))),
  .set 3 (.op .add (.pU (.cst (.str "many ")) (.var 5)) (.cst (.str "letter 0"))),
  .set 6 (.call 11 [.var 3,.var 1]),
  .ret (.and [.cmp .eq (.cmp .nN (.var 6) (.cst .aU)) (.cmp .lt (.var 5) (.cst (.int 41))),.or [.cmp .xr (.var 6) (.cst .aU),.cmp .eq (.call 9 [.var 6]) (.var 3)]])] [],
  .l7 (.nm 7) (.gd [.op .mul (.op .mod (.op .fdiv (.var 4) (.cst (.int 9))) (.cst (.int 3))) (.op .add (.cst (.int 1)) (.op .mod (.op .fdiv (.var 4) (.cst (.int 27))) (.cst (.int 2))))]) qt,
  .set 6 (.call 11 [.var 3,.var 1]),
  .ifs (.cmp .eq (.var 3) (.call 9 [.var 2])) [.ret (.and [.cmp .eq (.var 6) (.var 2),.call 8 [.var 6,.var 1,.cst (.int 0)]])] [],
  .ret (.or [.cmp .xr (.var 6) (.cst .aU),.and [.call 8 [.var 6,.var 1,.cst (.int 0)],.cmp .eq (.call 9 [.var 6]) (.var 3)]])]}
def bJ:Fn:={np:=3,nn:=3,sh:=Λ,body:=[.pW "Reader" "words" 0 (.lst Ξ (.split (.var 1))),
  .pW "Reader" "place" 0 (.cst (.int 0)),
  .pW "Reader" "wide" 0 (.var 2)]}
def cJ:Fn:={np:=1,nn:=1,sh:=Λ,body:=[.ifs (.cmp .eq (.attr "Reader" "place" 0) (.bf .len [.attr "Reader" "words" 0])) [.raise "NoText"] [],
  .uF "Reader" "place" 0 (1),
  .ret (.ix (.attr "Reader" "words" 0) (.op .sub (.attr "Reader" "place" 0) (.cst (.int 1))))]}
noncomputable def bq:List S:=[.ifs (.cmp .eq (.var 1) (.bf .str [.var 2])) [.ret (.tup [.cst (.str "letter"),.var 2])] []]
def cw:Fn:={np:=1,nn:=3,sh:=Λ,body:=[.set 1 (.eO 14 "Reader" "taken" 0 []),
  .l7 (.nm 2) (.gd [.attr "Reader" "wide" 0]) bq,
  .raise "NoText"]}
def ax:Fn:={np:=2,nn:=3,sh:=Λ,body:=[.ifs (.cmp .gt (.var 1) (.cst (.int 40))) [.raise "NoText"] [],
  .set 2 (.eO 14 "Reader" "taken" 0 []),
  .ifs (.cmp .eq (.var 2) (.cst (.str "letter"))) [.ret (.eO 15 "Reader" "letter" 0 [])] [],
  .ifs (.pV aK (.var 2)) [.raise "NoText"] [],
  .ret (.bf .tuple [.op .add (.lst Ξ (.eP [.var 2])) (.lst Ξ (.comp (.gd [.A4 aK (.var 2)]) 1 [0,1] Θ (.eO 16 "Reader" "pattern" 1 [.op .add (.var 2) (.cst (.int 1))])))])]}
def Fs:List Fn:=[mS,cc,dj,dk,bW,bt,bP,cA,af,cI,bx,ef,gP,bJ,cJ,cw,ax]
theorem qu:Fs[0]?=Δ mS:=rfl
theorem k7:Fs[1]?=Δ cc:=rfl
theorem nU:Fs[2]?=Δ dj:=rfl
theorem nV:Fs[3]?=Δ dk:=rfl
theorem jE:Fs[4]?=Δ bW:=rfl
theorem eh:Fs[5]?=Δ bt:=rfl
theorem dP:Fs[6]?=Δ bP:=rfl
theorem mT:Fs[7]?=Δ cA:=rfl
theorem eJ:Fs[8]?=Δ af:=rfl
theorem k8:Fs[9]?=Δ cI:=rfl
theorem k9:Fs[10]?=Δ bx:=rfl
theorem iD:Fs[11]?=Δ ef:=rfl
theorem G2:Fs[12]?=Δ gP:=rfl
theorem iW:Fs[13]?=Δ bJ:=rfl
theorem gb:Fs[14]?=Δ cJ:=rfl
theorem dG:Fs[15]?=Δ cw:=rfl
theorem bz:Fs[16]?=Δ ax:=rfl
noncomputable def qv(x:D)(w:Int):Bool:=match x with|.int i=>decide (0<=i)&&decide (i < w)|_=>Ξ
def vn(w:Int):List D->Bool
 |[k]=>qv k w|_=>Ξ
def mW(w:Int):D->Bool
 |.tup (.str nm::xs)=>if nm="letter" then vn w xs else decide (dA aK nm=Δ (xs.length:Int))|_=>Ξ
def kids:D->List D
 |.tup (.str nm::xs)=>if nm="letter" then[] else xs|_=>[]
def pat:Nat->Int->D->Bool
 |0,_,_=>Ξ|n+1,w,x=>mW w x&&(kids x).all λy=>pat n w y
mutual
def sm:D->Bool
 |.tup xs=>decide (xs.length<=1000)&&G3 xs|_=>Λ
def G3:List D->Bool
 |[]=>Λ|x::xs=>sm x&&G3 xs
end
theorem wc:∀{xs},G3 xs=Λ->∀x∈xs,sm x=Λ
 |[],_,x,h=>by cases h|y::ys,h,x,hx=>by
  simp only[G3,Pw] at h;rcases Ub.mp hx with z|z;·rw[z];exact h.1
  ·exact wc h.2 x z
theorem Az{xs:List D}(h:sm (.tup xs)=Λ):xs.length<=1000/\∀x∈xs,sm x=Λ:=by simp only[sm,Pw,qqq] at h;exact⟨h.1,wc h.2⟩
theorem o9{α:Type}(a:α)xs:cF (a::xs) (Δ 1) Θ=xs:=by
 unfold cF cm;have e1:min (1:Int).toNat (a::xs).length=1:=by simp
 simp only[show ¬((1:Int) < 0) by decide,if_false,e1,List.drop_succ_cons,Sd];rw[List.take_of_length_le (by simp)]
theorem AA(h:mW w x=Λ):∃nm xs,x=.tup (.str nm::xs):=by
 unfold mW at h;split at h;·exact⟨_,_,rfl⟩
 ·cases h
theorem xU n x h st:callC Fs (n+1) 7 [.d x,.d (.int h)] st=.ok (.d (.bl (qv x (h+1)))) st:=by
 refine call_of mT rfl (cb (p:=.d (.bl (qv x (h+1)))) (st:=[]) rfl (av (bw ?_)) rfl);cases x with
 |int i=>
  by_cases h0:0<=i
  ·have e:decide (i < h+1)=decide (i<=h):=by rw[decide_eq_decide];omega
   simp[cA,aq,dS,qv,h0,e]
  ·simp[cA,aq,dS,qv,h0]
 |_=>simp[cA,aq,dS,qv]
noncomputable def cell(ns:List Int)(k:Nat):Int:=ns.getD k 0
def sM(ns:List Int)(k:Nat):Int:=(cell ns k+7919*k+1)*48271 % 2147483647
def mixed(ns:List Int)(k:Nat):Int:=(sM ns k*sM ns k+7*sM ns k+k) % 2147483629
theorem sN ns k:0<=mixed ns k/\mixed ns k < 2147483629:=⟨UL _ (by decide),TL _ (by decide)⟩
theorem bK i{j:Int}(h:0 < j):0<=i % j/\i % j < j:=⟨UL _ (by omega),TL _ h⟩
theorem xV n ns(k:Nat)st:callC Fs (n+1) 1 [.dw ns,.d (.int k)] st=.ok (.d (.int (cell ns k))) st:=by
 refine call_of k7 rfl (cb (p:=.d (.int (cell ns k))) (st:=[]) rfl ?_ rfl);by_cases h:k < ns.length
 ·have h1:(k:Int) < (ns.length:Int):=by omega
  have h2:jV ns (k:Int)=Δ (cell ns k):=ie (by unfold cell;rw[Q4,PV h];rfl);exact av (bU (st1:=[]) (by simp[aq,cc,h]) (av (bw (by simp[aq,cc,h2]))))
 ·have h1:cell ns k=0:=by unfold cell;rw[Q4,List.getElem?_eq_none (by omega)];rfl
  rw[h1];exact ak (bD (st1:=[]) (by simp[aq,cc];omega) aA) (av (bw (by simp)))
theorem iX n ns(k:Nat)(hk:k<=1000)st:callC Fs (n+2) 2 [.dw ns,.d (.int k)] st=.ok (.d (.int (mixed ns k))) st:=by
 refine call_of nU rfl (cb (p:=.d (.int (mixed ns k))) (st:=[]) rfl ?_ rfl);obtain⟨m1,m2⟩:=bK ((cell ns k+7919*k+1)*48271) (show(0:Int) < 2147483647 by decide);have c1:∀z:Int,ko .mul 7919 z=Δ (7919*z):=λz=>dZ (.inl (by decide));have c2:∀z:Int,ko .mul z 48271=Δ (z*48271):=λz=>dZ (.inr (by decide));have c3:∀z:Int,ko .mul 7 z=Δ (7*z):=λz=>dZ (.inl (by decide));refine ak (bO (v:=.d (.int (sM ns k))) (st1:=[]) (by simp[aq,dj,xV,c1,c2,bH,sM])) ?_;have b: -iw < sM ns k/\sM ns k < iw:=by unfold iw sM;omega
 exact av (bw (by simp[aq,dj,dZ,c3,bH,b,mixed]))
noncomputable def sO(x:Int)(k:Nat):Int:=(x+104729*k+17)*69621 % 2147483647
def drawn(x:Int)(k:Nat):Int:=(sO x k*sO x k+3*sO x k+k) % 2147483629
theorem sP x k:0<=drawn x k/\drawn x k < 2147483629:=⟨UL _ (by decide),TL _ (by decide)⟩
theorem eK n x(k:Nat)st:callC Fs (n+1) 3 [.d (.int x),.d (.int k)] st=.ok (.d (.int (drawn x k))) st:=by
 refine call_of nV rfl (cb (p:=.d (.int (drawn x k))) (st:=[]) rfl ?_ rfl);obtain⟨m1,m2⟩:=bK ((x+104729*k+17)*69621) (show(0:Int) < 2147483647 by decide);have c1:∀z:Int,ko .mul 104729 z=Δ (104729*z):=λz=>dZ (.inl (by decide));have c2:∀z:Int,ko .mul z 69621=Δ (z*69621):=λz=>dZ (.inr (by decide));have c3:∀z:Int,ko .mul 3 z=Δ (3*z):=λz=>dZ (.inl (by decide));refine ak (bO (v:=.d (.int (sO x k))) (st1:=[]) (by simp[aq,dk,c1,c2,bH,sO])) ?_;have b: -iw < sO x k/\sO x k < iw:=by unfold iw sO;omega
 exact av (bw (by simp[aq,dk,dZ,c3,bH,b,drawn]))
theorem HL nm a b c st:fu .isin (.d (.str nm)) (.d (.tup [.str a,.str b,.str c])) st=Δ (a==nm||b==nm||c==nm):=by show Δ (a==nm||(b==nm||(c==nm||false)))=_;rw[Ud,Bool.or_assoc]
theorem Pf nm a b st:fu .isin (.d (.str nm)) (.d (.tup [.str a,.str b])) st=Δ (a==nm||b==nm):=by show Δ (a==nm||(b==nm||false))=_;rw[Ud]
theorem filter_none:∀xs:List D,(xs.filter λy=>!p y).isEmpty=xs.all p
 |[]=>rfl|x::xs=>by
  cases h:p x;·rw[RW (by simp[h]),RO,h];rfl
  ·rw[RX (by simp[h]),RO,h,filter_none xs];rfl
theorem sQ nm:(dA aK nm=Δ 0/\(("none":Str)==nm||("empty":Str)==nm||("any":Str)==nm)=Λ)\/
  (dA aK nm=Δ 1/\(("none":Str)==nm||("empty":Str)==nm||("any":Str)==nm)=Ξ/\(("not":Str)==nm||("many":Str)==nm)=Λ/\(("then":Str)==nm||("or":Str)==nm||("and":Str)==nm)=Ξ)\/
  (dA aK nm=Δ 2/\(("none":Str)==nm||("empty":Str)==nm||("any":Str)==nm)=Ξ/\(("not":Str)==nm||("many":Str)==nm)=Ξ/\(("then":Str)==nm||("or":Str)==nm||("and":Str)==nm)=Λ)\/
  (dA aK nm=Θ/\(("none":Str)==nm||("empty":Str)==nm||("any":Str)==nm)=Ξ/\(("not":Str)==nm||("many":Str)==nm)=Ξ/\(("then":Str)==nm||("or":Str)==nm||("and":Str)==nm)=Ξ):=by
 by_cases h1:nm="none";·subst h1;exact .inl (by decide+kernel)
 by_cases h2:nm="empty";·subst h2;exact .inl (by decide+kernel)
 by_cases h3:nm="any";·subst h3;exact .inl (by decide+kernel)
 by_cases h4:nm="then";·subst h4;exact .inr (.inr (.inl (by decide+kernel)))
 by_cases h5:nm="or";·subst h5;exact .inr (.inr (.inl (by decide+kernel)))
 by_cases h6:nm="and";·subst h6;exact .inr (.inr (.inl (by decide+kernel)))
 by_cases h7:nm="not";·subst h7;exact .inr (.inl (by decide+kernel))
 by_cases h8:nm="many";·subst h8;exact .inr (.inl (by decide+kernel))
 have b:∀s:Str,nm≠s->(s==nm)=Ξ:=λs h=>beq_false_of_ne h.symm;refine .inr (.inr (.inr ⟨?_,?_,?_,?_⟩));·simp only[aK,dA,h1,h2,h3,h4,h5,h6,h7,h8,if_false]
 ·rw[b _ h1,b _ h2,b _ h3];rfl
 ·rw[b _ h7,b _ h8];rfl
 ·rw[b _ h4,b _ h5,b _ h6];rfl
theorem HM:dA aK "letter"=Θ:=by decide+kernel
theorem pf w:∀(m:Nat) (o:Int),o+m=41->∀(n) (x) (st),sm x=Λ->callC Fs (n+m+2) 8 [.d x,.d (.int w),.d (.int o)] st=.ok (.d (.bl (pat m w x))) st
 |0,o,ho,n,x,st,hx=>by
  refine call_of eJ rfl (cb (p:=.d (.bl Ξ)) (st:=[]) rfl ?_ rfl);have h1:(40:Int) < o:=by omega
  exact av (bU (st1:=[]) (by simp[aq,af,h1]) (av (bw rfl)))
 |m+1,o,ho,n,x,st,hx=>by
  have h1:¬(40:Int) < o:=by omega
  have ih:=pf w m (o+1) (by omega) n;refine call_of (n:=n+m+2) eJ rfl (cb (p:=.d (.bl (pat (m+1) w x))) (st:=[]) rfl ?_ rfl);have no:∀y:D,(∀xs,y≠.tup xs)->ai (callC Fs (n+m+2)) af.body (aq af.nn [.d y,.d (.int w),.d (.int o)]) []=.ok (.rt (.d (.bl (pat (m+1) w y)))) []:=λy hy=>by
   refine av (bU (st1:=[]) ?_ (av (bw (by cases y<;>first|rfl|exact absurd rfl (hy _)))));cases y<;>first
    |exact absurd rfl (hy _)
    |simp[aq,af,dS,h1]
  cases x with
  |tup zs=>
   cases zs with
   |nil=>exact av (bU (st1:=[]) (by simp[aq,af,dS,h1,aC]) (av (bw (by simp[pat,mW]))))|cons y xs=>
    have no2:∀z:D,(∀nm,z≠.str nm)->ai (callC Fs (n+m+2)) af.body (aq af.nn [.d (.tup (z::xs)),.d (.int w),.d (.int o)]) []=.ok (.rt (.d (.bl (pat (m+1) w (.tup (z::xs)))))) []:=λz hz=>by
     refine av (bU (st1:=[]) ?_ (av (bw (by cases z<;>first|rfl|exact absurd rfl (hz _)))));cases z<;>first
      |exact absurd rfl (hz _)
      |simp[aq,af,dS,h1,aC]
    cases y with
    |str nm=>
     have hs:=(Az hx).2;have hlen:=(Az hx).1;have ow:xs.length<=aC:=by unfold aC;simp at hlen;omega
     have hp:pat (m+1) w (.tup (.str nm::xs))=((if nm="letter" then vn w xs else decide (dA aK nm=Δ (xs.length:Int)))&&(if nm="letter" then[] else xs).all λy=>pat m w y):=rfl;have hc:∀st,bN (callC Fs (n+m+2)) (.comp (.ex (.slice (.var 0) (Δ (.cst (.int 1))) Θ)) 1 [1,2] (Δ (.not (.call 8 [.var 0,.var 1,.op .add (.var 2) (.cst (.int 1))]))) (.var 0)) [Δ (.d (.tup (.str nm::xs))),Δ (.d (.int w)),Δ (.d (.int o))] st=.ok ((xs.filter λy=>!pat m w y).map λy=>.d y) st:=λst=>qm (f:=λy=>y) (p:=λy=>!pat m w y) (by simp[o9]) ow (λy hy=>by simp[cH,ih y st (hs y (Pz _ hy))]) λy _=>by simp
     refine ak (bD (st1:=[]) (by simp[aq,af,dS,h1,aC]) aA) ?_;by_cases hn:nm="letter"
     ·subst hn;refine ak (bD (st1:=[]) ?_ aA) ?_
      ·have e:(("none":Str)=="letter"||("empty":Str)=="letter"||("any":Str)=="letter")=Ξ:=by decide+kernel
       simp[aq,af,aC,HL,e]
      refine av (bU (st1:=[]) (by simp[aq,af]) (av (bw ?_)));rw[hp];cases xs with
      |nil=>simp[aq,af,vn]|cons k ks=>
       cases ks with
       |nil=>simp[aq,af,vn,xU]|cons k2 ks=>
        have h1:¬((ks.length:Int)+1+1+1=2):=by omega
        simp[aq,af,vn,h1]
     ·rw[if_neg hn,if_neg hn] at hp;rw[hp];rcases sQ nm with ⟨e,e1⟩|⟨e,e1,e2,e3⟩|⟨e,e1,e2,e3⟩|⟨e,e1,e2,e3⟩
      ·refine av (bU (st1:=[]) (by simp[aq,af,aC,HL,e1]) (av (bw ?_)));cases xs with
       |nil=>simp[aq,af,e]|cons k ks=>
        have h2:¬((ks.length:Int)+1+1=1):=by omega
        have h3:¬((0:Int)=(ks.length:Int)+1):=by omega
        simp[aq,af,e,h2,h3]
      all_goals
       refine ak (bD (st1:=[]) (by simp[aq,af,aC,HL,e1]) aA) ?_;refine ak (bD (st1:=[]) (by simp[aq,af,hn]) aA) ?_
      ·by_cases h2:xs.length=1
       ·have h3:((xs.length:Int)+1==2)=Λ:=by rw[h2];rfl
        refine av (bU (st1:=[]) (by simp[aq,af,aC,Pf,e2,h3]) (av (bw ?_)));simp[aq,af,hc,filter_none,e,h2,aC]
       ·have h3:((xs.length:Int)+1==2)=Ξ:=by rw[beq_eq_false_iff_ne];omega
        have h4:¬((1:Int)=(xs.length:Int)):=by omega
        refine ak (bD (st1:=[]) ?_ aA) (av (bw (by simp[e,h4])));by_cases h5:xs.length=2
        ·have h6:((xs.length:Int)+1==3)=Λ:=by rw[h5];rfl
         simp[aq,af,aC,HL,e3,h3,h6]
        ·have h6:((xs.length:Int)+1==3)=Ξ:=by rw[beq_eq_false_iff_ne];omega
         simp[aq,af,h3,h6]
      ·by_cases h2:xs.length=2
       ·have h3:((xs.length:Int)+1==2)=Ξ:=by rw[h2];rfl
        have h6:((xs.length:Int)+1==3)=Λ:=by rw[h2];rfl
        refine av (bU (st1:=[]) (by simp[aq,af,aC,HL,e3,h3,h6]) (av (bw ?_)));simp[aq,af,hc,filter_none,e,h2,aC]
       ·have h6:((xs.length:Int)+1==3)=Ξ:=by rw[beq_eq_false_iff_ne];omega
        have h4:¬((2:Int)=(xs.length:Int)):=by omega
        refine ak (bD (st1:=[]) ?_ aA) (av (bw (by simp[e,h4])));by_cases h5:xs.length=1
        ·have h3:((xs.length:Int)+1==2)=Λ:=by rw[h5];rfl
         simp[aq,af,aC,Pf,e2,h3,h6]
        ·have h3:((xs.length:Int)+1==2)=Ξ:=by rw[beq_eq_false_iff_ne];omega
         simp[aq,af,h3,h6]
      ·refine ak (bD (st1:=[]) ?_ aA) (av (bw (by simp[e])));by_cases h5:xs.length=1
       ·have h3:((xs.length:Int)+1==2)=Λ:=by rw[h5];rfl
        have h6:((xs.length:Int)+1==3)=Ξ:=by rw[h5];rfl
        simp[aq,af,aC,Pf,e2,h3,h6]
       ·have h3:((xs.length:Int)+1==2)=Ξ:=by rw[beq_eq_false_iff_ne];omega
        by_cases h7:xs.length=2
        ·have h6:((xs.length:Int)+1==3)=Λ:=by rw[h7];rfl
         simp[aq,af,aC,HL,e3,h3,h6]
        ·have h6:((xs.length:Int)+1==3)=Ξ:=by rw[beq_eq_false_iff_ne];omega
         simp[aq,af,h3,h6]
    |_=>exact no2 _ λ_ z=>nomatch z
  |_=>exact no _ λ_ z=>nomatch z
theorem AB:∀{m} {w} {x},pat m w x=Λ->pat (m+1) w x=Λ
 |0,w,x,h=>by cases h|m+1,w,x,h=>by simp only[pat,Pw,Ri] at h;have e:pat (m+1+1) w x=(mW w x&&(kids x).all λy=>pat (m+1) w y):=rfl;rw[e,Pw,Ri];exact⟨h.1,λy hy=>AB (h.2 y hy)⟩
theorem ph(h:pat m w x=Λ):∀{j},m<=j->pat j w x=Λ
 |0,q=>by
  obtain rfl:m=0:=by omega
  exact h
 |j+1,q=>by
  by_cases z:m=j+1;·rw[<-z];exact h
  ·exact AB (ph h (by omega))
theorem G4(h0:0<=i)(h1:i < w):pat 1 w (.tup [.str "letter",.int i])=Λ:=by have e:pat 1 w (.tup [.str "letter",.int i])=(qv (.int i) w&&Λ):=rfl;rw[e];simp[qv,h0,h1]
theorem we{xs:List D}(h:dA aK nm=Δ (xs.length:Int)/\nm≠"letter")(hx:∀y∈xs,pat m w y=Λ):pat (m+1) w (.tup (.str nm::xs))=Λ:=by have e:pat (m+1) w (.tup (.str nm::xs))=((if nm="letter" then vn w xs else decide (dA aK nm=Δ (xs.length:Int)))&&(if nm="letter" then[] else xs).all λy=>pat m w y):=rfl;rw[e,if_neg h.2,if_neg h.2,h.1];simp only[decide_true,Bool.true_and,Ri];exact hx
theorem CO(h:dA aK nm=Δ 0/\nm≠"letter"):pat 1 w (.tup [.str nm])=Λ:=we (xs:=[]) h λ_ z=>(nomatch z)
theorem CP(h:dA aK nm=Δ 1/\nm≠"letter")(p:pat m w a=Λ):pat (m+1) w (.tup [.str nm,a])=Λ:=we (xs:=[a]) h (by simpa using p)
theorem Lc(h:dA aK nm=Δ 2/\nm≠"letter")(p:pat m w a=Λ)(q:pat m w b=Λ):pat (m+1) w (.tup [.str nm,a,b])=Λ:=we (xs:=[a,b]) h (by intro y hy;simp at hy;rcases hy with rfl|rfl<;>assumption)
theorem xW x w(hw:1<=w/\w<=3):∃d,pat 1 w d=Λ/\∀n st,callC Fs (n+1) 4 [.d (.int x),.d (.int w)] st=.ok (.d d) st:=by
 obtain⟨k1,k2⟩:=bK x (show(0:Int) < 12 by decide);have hw0:0 < w:=by omega
 by_cases h:x % 12 < 8;·obtain⟨l1,l2⟩:=bK (x / 12) hw0;refine⟨.tup [.str "letter",.int (x / 12 % w)],G4 l1 l2,λn st=>?_⟩;refine call_of jE rfl (cb (p:=.d _) (st:=[]) rfl ?_ rfl);refine ak (bO (v:=.d (.int (x % 12))) (st1:=[]) (by simp[aq,bW,bH])) ?_;exact av (bU (st1:=[]) (by simp[aq,bW,h]) (av (bw (by simp[aq,bW,bH,di,hw0,aC]))))
 ·have go:∀d:D,pat 1 w d=Λ->jV [D.tup [.str "any"],.tup [.str "empty"],.tup [.str "none"],.tup [.str "any"]] (x % 12 - 8)=Δ d->∃d,pat 1 w d=Λ/\∀n st,callC Fs (n+1) 4 [.d (.int x),.d (.int w)] st=.ok (.d d) st:=λd hd ha=>by refine⟨d,hd,λn st=>?_⟩;refine call_of jE rfl (cb (p:=.d d) (st:=[]) rfl ?_ rfl);refine ak (bO (v:=.d (.int (x % 12))) (st1:=[]) (by simp[aq,bW,bH])) ?_;refine ak (bD (st1:=[]) (by simp[aq,bW];omega) aA) ?_;exact av (bw (by simp[aq,bW,aC,ha]))
  have hc:x % 12=8\/x % 12=9\/x % 12=10\/x % 12=11:=by omega
  rcases hc with e|e|e|e<;>rw[e] at go;·exact go _ (CO (by decide+kernel)) rfl
  ·exact go _ (CO (by decide+kernel)) rfl
  ·exact go _ (CO (by decide+kernel)) rfl
  ·exact go _ (CO (by decide+kernel)) rfl
theorem ij w(hw:1<=w/\w<=3):∀(deep) (x),∃d,pat (deep+1) w d=Λ/\∀n st,callC Fs (n+deep+2) 5 [.d (.int x),.d (.int w),.d (.int deep)] st=.ok (.d d) st
 |deep,x=>by
  obtain⟨k1,k2⟩:=bK x (show(0:Int) < 9 by decide);obtain⟨dl,pl,hl⟩:=xW (x / 9) w hw;by_cases h0:deep=0\/x % 9=0
  ·refine⟨dl,ph pl (by omega),λn st=>?_⟩;refine call_of (n:=n+deep+1) eh rfl (cb (p:=.d dl) (st:=[]) rfl ?_ rfl);refine ak (bO (v:=.d (.int (x % 9))) (st1:=[]) (by simp[aq,bt,bH])) ?_;refine av (bU (st1:=[]) ?_ (av (bw (by simp[aq,bt,di,hl]))));rcases h0 with rfl|h0;·simp[aq,bt]
   ·by_cases hd:deep=0;·subst hd;simp[aq,bt]
    ·have yu:¬((deep:Int)=0):=by omega
     simp[aq,bt,h0,hd]
  ·have hd0:deep≠0:=λz=>h0 (.inl z);have Kc:¬x % 9=0:=λz=>h0 (.inr z);obtain⟨e,rfl⟩:∃e,deep=e+1:=⟨deep - 1,by omega⟩;obtain⟨d1,p1,q1⟩:=ij w hw e (drawn x 1);obtain⟨d2,p2,q2⟩:=ij w hw e (drawn x 2);have hdi:((e+1:Nat):Int) - 1=(e:Int):=by omega
   have Pg:¬((e:Int)+1=0):=by omega
   have a1:∀n st,callC Fs (n+(e+1)+1) 3 [.d (.int x),.d (.int 1)] st=.ok (.d (.int (drawn x 1))) st:=λn st=>eK (n+(e+1)) x 1 st;have a2:∀n st,callC Fs (n+(e+1)+1) 3 [.d (.int x),.d (.int 2)] st=.ok (.d (.int (drawn x 2))) st:=λn st=>eK (n+(e+1)) x 2 st;have b1:∀n st,callC Fs (n+(e+1)+1) 5 [.d (.int (drawn x 1)),.d (.int w),.d (.int e)] st=.ok (.d d1) st:=λn st=>q1 n st;have b2:∀n st,callC Fs (n+(e+1)+1) 5 [.d (.int (drawn x 2)),.d (.int w),.d (.int e)] st=.ok (.d d2) st:=λn st=>q2 n st;have head:∀(n:Nat) (res:R Fl),ai (callC Fs (n+(e+1)+1)) [.ifs (.cmp .eq (.var 3) (.cst (.int 1))) [.ret (.tup [.cst (.str "not"),.var 4])] [],
     .ifs (.cmp .lt (.var 3) (.cst (.int 4))) [.ret (.tup [.cst (.str "many"),.var 4])] [],
     .set 5 (.call 5 [.call 3 [.var 0,.cst (.int 2)],.var 1,.op .sub (.var 2) (.cst (.int 1))]),
     .ret (.tup [.ix (.lst Ξ (.eP [.cst (.str "then"),.cst (.str "then"),.cst (.str "or"),.cst (.str "or"),.cst (.str "and")])) (.op .sub (.var 3) (.cst (.int 4))),.var 4,.var 5])]
     [Δ (.d (.int x)),Δ (.d (.int w)),Δ (.d (.int (e+1:Nat))),Δ (.d (.int (x % 9))),Δ (.d d1),Θ] []=res->
     ai (callC Fs (n+(e+1)+1)) bt.body (aq bt.nn [.d (.int x),.d (.int w),.d (.int (e+1:Nat))]) []=res:=λn res hr=>by
    refine ak (bO (v:=.d (.int (x % 9))) (st1:=[]) (by simp[aq,bt,bH])) ?_;refine ak (bD (st1:=[]) (by simp[aq,bt,Kc,Pg]) aA) ?_;refine ak (bO (v:=.d d1) (st1:=[]) ?_) ?_;·simp[aq,bt,a1,b1]
    ·exact hr
   by_cases AY:x % 9=1;·refine⟨.tup [.str "not",d1],CP (by decide+kernel) p1,λn st=>?_⟩;refine call_of (n:=n+(e+1)+1) eh rfl (cb (p:=.d _) (st:=[]) rfl (head n _ ?_) rfl);exact av (bU (st1:=[]) (by simp[AY]) (av (bw (by simp[aC]))))
   ·by_cases hk4:x % 9 < 4;·refine⟨.tup [.str "many",d1],CP (by decide+kernel) p1,λn st=>?_⟩;refine call_of (n:=n+(e+1)+1) eh rfl (cb (p:=.d _) (st:=[]) rfl (head n _ ?_) rfl);refine ak (bD (st1:=[]) (by simp[AY]) aA) ?_;exact av (bU (st1:=[]) (by simp[hk4]) (av (bw (by simp[aC]))))
    ·have go:∀s:Str,(dA aK s=Δ 2/\s≠"letter")->jV [D.str "then",.str "then",.str "or",.str "or",.str "and"] (x % 9 - 4)=Δ (.str s)->∃d,pat (e+1+1) w d=Λ/\∀n st,callC Fs (n+(e+1)+2) 5 [.d (.int x),.d (.int w),.d (.int (e+1:Nat))] st=.ok (.d d) st:=λs hs ha=>by
      refine⟨.tup [.str s,d1,d2],Lc hs p1 p2,λn st=>?_⟩;refine call_of (n:=n+(e+1)+1) eh rfl (cb (p:=.d _) (st:=[]) rfl (head n _ ?_) rfl);refine ak (bD (st1:=[]) (by simp[AY]) aA) ?_;refine ak (bD (st1:=[]) (by simp;omega) aA) ?_;refine ak (bO (v:=.d d2) (st1:=[]) ?_) ?_;·simp[a2,b2]
      ·exact av (bw (by simp[aC,ha]))
     have hc:x % 9=4\/x % 9=5\/x % 9=6\/x % 9=7\/x % 9=8:=by omega
     rcases hc with z|z|z|z|z<;>rw[z] at go;·exact go "then" (by decide+kernel) rfl
     ·exact go "then" (by decide+kernel) rfl
     ·exact go "or" (by decide+kernel) rfl
     ·exact go "or" (by decide+kernel) rfl
     ·exact go "and" (by decide+kernel) rfl
 termination_by deep=>deep
theorem qw x w(hw:1<=w/\w<=3):∃d,pat 4 w d=Λ/\∀n st,callC Fs (n+5) 6 [.d (.int x),.d (.int w)] st=.ok (.d d) st:=by
 obtain⟨k1,k2⟩:=bK x (show(0:Int) < 5 by decide);obtain⟨d1,p1,q1⟩:=ij w hw 2 (drawn x 3);obtain⟨d2,p2,q2⟩:=ij w hw 2 (drawn x 4);have a3:∀n st,callC Fs (n+4) 3 [.d (.int x),.d (.int 3)] st=.ok (.d (.int (drawn x 3))) st:=λn st=>eK (n+3) x 3 st;have a4:∀n st,callC Fs (n+4) 3 [.d (.int x),.d (.int 4)] st=.ok (.d (.int (drawn x 4))) st:=λn st=>eK (n+3) x 4 st;have b1:∀n st,callC Fs (n+4) 5 [.d (.int (drawn x 3)),.d (.int w),.d (.int 2)] st=.ok (.d d1) st:=λn st=>q1 n st;have b2:∀n st,callC Fs (n+4) 5 [.d (.int (drawn x 4)),.d (.int w),.d (.int 2)] st=.ok (.d d2) st:=λn st=>q2 n st;have head:∀(n:Nat) (res:R Fl),ai (callC Fs (n+4)) [.ifs (.cmp .lt (.var 3) (.cst (.int 2))) [.ret (.var 2)] [],
   .ifs (.cmp .eq (.var 3) (.cst (.int 2))) [.ret (.tup [.cst (.str "not"),.var 2])] [],
   .ret (.tup [.ix (.lst Ξ (.eP [.cst (.str "or"),.cst (.str "and")])) (.op .sub (.var 3) (.cst (.int 3))),.var 2,.call 5 [.call 3 [.var 0,.cst (.int 4)],.var 1,.cst (.int 2)]])]
   [Δ (.d (.int x)),Δ (.d (.int w)),Δ (.d d1),Δ (.d (.int (x % 5)))] []=res->
   ai (callC Fs (n+4)) bP.body (aq bP.nn [.d (.int x),.d (.int w)]) []=res:=λn res hr=>by
  refine ak (bO (v:=.d d1) (st1:=[]) (by simp[aq,bP,a3,b1])) ?_;exact ak (bO (v:=.d (.int (x % 5))) (st1:=[]) (by simp[aq,bP,bH])) hr
 by_cases h2:x % 5 < 2;·refine⟨d1,ph p1 (by omega),λn st=>?_⟩;refine call_of (n:=n+4) dP rfl (cb (p:=.d _) (st:=[]) rfl (head n _ ?_) rfl);exact av (bU (st1:=[]) (by simp[h2]) (av (bw (by simp))))
 ·by_cases h3:x % 5=2;·refine⟨.tup [.str "not",d1],CP (by decide+kernel) p1,λn st=>?_⟩;refine call_of (n:=n+4) dP rfl (cb (p:=.d _) (st:=[]) rfl (head n _ ?_) rfl);refine ak (bD (st1:=[]) (by simp;omega) aA) ?_;exact av (bU (st1:=[]) (by simp[h3]) (av (bw (by simp[aC]))))
  ·have go:∀s:Str,(dA aK s=Δ 2/\s≠"letter")->jV [D.str "or",.str "and"] (x % 5 - 3)=Δ (.str s)->∃d,pat 4 w d=Λ/\∀n st,callC Fs (n+5) 6 [.d (.int x),.d (.int w)] st=.ok (.d d) st:=λs hs ha=>by refine⟨.tup [.str s,d1,d2],Lc hs p1 p2,λn st=>?_⟩;refine call_of (n:=n+4) dP rfl (cb (p:=.d _) (st:=[]) rfl (head n _ ?_) rfl);refine ak (bD (st1:=[]) (by simp;omega) aA) ?_;refine ak (bD (st1:=[]) (by simp[h3]) aA) ?_;exact av (bw (by simp[aC,ha,a4,b2]))
   have hc:x % 5=3\/x % 5=4:=by omega
   rcases hc with z|z<;>rw[z] at go;·exact go "or" (by decide+kernel) rfl
   ·exact go "and" (by decide+kernel) rfl
noncomputable def rd(ws:List Str)(w:Int)(p:Nat):aW:=[.ins "Reader" [("words",.d (.pl (ws.map .str))),("place",.d (.int p)),("wide",.d (.int w))]]
theorem cq(h:aX C s r st=.ex x st1):ai C (s::rest) r st=.ex x st1:=by rw[c0,h];rfl
theorem dH(hF:Fs[k]?=Δ F)(vN:F.sh=Λ)(hl:ps.length=F.np)(hr:ai (callC Fs n) F.body (aq F.nn ps) st=.ex x bI):callC Fs (n+1) k ps st=.ex x bI:=by rw[dD,hF];simp only[vN,if_true,hl,hr];rfl
section
variable{C:Nat->List P->aW->R P}{r:cE}{ws:List Str}{w:Int}{p i:Nat}
theorem lJ(h:(r[i]?).join=Δ (.obj 0)):aa C (.attr "Reader" "words" i) r (rd ws w p)=.ok (.d (.pl (ws.map .str))) (rd ws w p):=by rw[qp,h];rfl
theorem lK(h:(r[i]?).join=Δ (.obj 0)):aa C (.attr "Reader" "place" i) r (rd ws w p)=.ok (.d (.int p)) (rd ws w p):=by rw[qp,h];rfl
theorem G5(h:(r[i]?).join=Δ (.obj 0)):aa C (.attr "Reader" "wide" i) r (rd ws w p)=.ok (.d (.int w)) (rd ws w p):=by rw[qp,h];rfl
theorem Ld(h:(r[i]?).join=Δ (.obj 0)):aX C (.uF "Reader" "place" i 1) r (rd ws w p)=.ok (.nx r) (rd ws w (p+1)):=by rw[mq];show(R.of (r[i]?).join _).bind _=_;rw[h];rfl
end
theorem sR n(h:ws[p]?=Δ x)(hl:ws.length<=1000000):callC Fs (n+1) 14 [.obj 0] (rd ws w p)=.ok (.d (.str x)) (rd ws w (p+1)):=by
 have hp:p < ws.length:=(qqz h).1;refine jD gb rfl rfl ?_;have j0:((aq cJ.nn [P.obj 0])[0]?).join=Δ (.obj 0):=rfl;have iZ:((p:Int)==(ws.length:Int))=Ξ:=by rw[beq_eq_false_iff_ne];omega
 refine ak (bD (st1:=rd ws w p) ?_ aA) ?_;·rw[g9,lK j0,ag];simp[lJ j0,iZ]
 refine ak (Ld j0) ?_;refine av (bw ?_);have e1:∀st,A5 .sub (.d (.int ((p+1:Nat):Int))) (.d (.int 1)) st=Δ (.d (.int (p:Int))):=λst=>by show Δ (P.d (.int (((p+1:Nat):Int) - 1)))=_;congr 3;omega
 have e2:jV (ws.map D.str) (p:Int)=Δ (.str x):=ie (by rw[Qa,h];rfl);rw[rQ,lJ j0,ag,gD,lK j0,ag,fA,ag,e1,dW,ag,Pa,e2];rfl
theorem sS n(h:p=ws.length):callC Fs (n+1) 14 [.obj 0] (rd ws w p)=.ex "NoText" (rd ws w p):=by
 refine dH gb rfl rfl ?_;have j0:((aq cJ.nn [P.obj 0])[0]?).join=Δ (.obj 0):=rfl;have iZ:((p:Int)==(ws.length:Int))=Λ:=by rw[beq_iff_eq];omega
 refine cq (bU (st1:=rd ws w p) ?_ ?_);·rw[g9,lK j0,ag];simp[lJ j0,iZ]
 ·exact cq rfl
theorem mX{m:Str}(hi:(r[i]?).join=Δ (.obj 0))(hm:m≠"words"/\m≠"place"/\m≠"wide")(he:aG C es r (rd ws w p)=.ok ps (rd ws w p)):
  aa C (.eO k "Reader" m i es) r (rd ws w p)=C k (.obj 0::ps) (rd ws w p):=by
 rw[CN,hi,dW,ag];have e:(iO "Reader" (rd ws w p) (.obj 0)).bind (λq=>if(q.2.lookup m).isNone then Δ () else Θ)=Δ ():=by have:iO "Reader" (rd ws w p) (.obj 0)=Δ (0,[(("words":Str),P.d (.pl (ws.map .str))),(("place":Str),P.d (.int p)),(("wide":Str),P.d (.int w))]):=rfl;rw[this];have b1:(m==("words":Str))=Ξ:=beq_false_of_ne hm.1;have b2:(m==("place":Str))=Ξ:=beq_false_of_ne hm.2.1;have b3:(m==("wide":Str))=Ξ:=beq_false_of_ne hm.2.2;simp[P7,b1,b2,b3]
 rw[e,dW,ag,he,ag]
def num(i:Int):Str:=Qg (toString i)
theorem CQ(hi:0<=i/\i < 3)(hj:0<=j/\j < 3)(h:num i=num j):i=j:=by
 have a:i=0\/i=1\/i=2:=by omega
 have b:j=0\/j=1\/j=2:=by omega
 rcases a with rfl|rfl|rfl<;>rcases b with rfl|rfl|rfl<;>first|rfl|exact absurd h (by decide+kernel)
theorem sT n(hw:1<=w/\w<=3)(hp:p<=ws.length)(hl:ws.length<=1000000):
  (∃i,0<=i/\i < w/\ws[p]?=Δ (num i)/\callC Fs (n+2) 15 [.obj 0] (rd ws w p)=.ok (.d (.tup [.str "letter",.int i])) (rd ws w (p+1)))\/
  ((∀i,0<=i->i < w->ws[p]?≠Δ (num i))/\∃x st,callC Fs (n+2) 15 [.obj 0] (rd ws w p)=.ex x st):=by
 have j0:((aq cw.nn [P.obj 0])[0]?).join=Δ (.obj 0):=rfl;have mt:=mX (C:=callC Fs (n+1)) (ws:=ws) (w:=w) (p:=p) (k:=14) (m:="taken") (es:=[]) (ps:=[]) j0 (by decide+kernel) aP;cases hx:ws[p]? with
 |none=>
  have wZ:p=ws.length:=by have:=List.getElem?_eq_none_iff.mp hx;omega
  refine .inr ⟨λi _ _ z=>(nomatch z),"NoText",rd ws w p,dH dG rfl rfl (cq ?_)⟩;rw[dC,mt,sS n wZ];rfl
 |some x=>
  have tk:=sR n (w:=w) hx hl;have bd:∀(j:Int) (st:aW),0<=j->j < 3->ai (callC Fs (n+1)) bq [Δ (.obj 0),Δ (.d (.str x)),Δ (.d (.int j))] st=
    if x=num j then .ok (.rt (.d (.tup [.str "letter",.int j]))) st else .ok (.nx [Δ (.obj 0),Δ (.d (.str x)),Δ (.d (.int j))]) st:=λj st h0 h3=>by
   have G6:j.natAbs.log2 < 1920:=Nat.lt_of_le_of_lt (Nat.log2_le_self _) (by omega);have hs:yk .str [.d (.int j)] st=Δ (.d (.str (num j))):=by show(if j.natAbs.log2 < 1920 then _ else _)=_;rw[if_pos G6];rfl
   have ec:aa (callC Fs (n+1)) (.cmp .eq (.var 1) (.bf .str [.var 2])) [Δ (.obj 0),Δ (.d (.str x)),Δ (.d (.int j))] st=.ok (.d (.bl (x==num j))) st:=by simp[hs]
   by_cases h:x=num j;·rw[if_pos h];refine av (bU (st1:=st) (by rw[ec,h];simp) (av (bw (by simp[aC]))))
   ·rw[if_neg h];refine ak (bD (st1:=st) (by rw[ec,beq_false_of_ne h]) aA) aA
  have Lf:aX (callC Fs (n+1)) (.set 1 (.eO 14 "Reader" "taken" 0 [])) (aq cw.nn [P.obj 0]) (rd ws w p)=.ok (.nx [Δ (.obj 0),Δ (.d (.str x)),Θ]) (rd ws w (p+1)):=by rw[dC,mt,tk];rfl
  let js:List Int:=(Q0 w.toNat).map λk=>(0+((k:Nat):Int))
  have HN:∀j∈js,0<=j/\j < w:=λj hj=>by obtain⟨k,hk,rfl⟩:=List.mem_map.mp hj;have:=List.mem_range.mp hk;omega
  have hw3:b7 (callC Fs (n+1)) (.gd [.attr "Reader" "wide" 0]) [Δ (.obj 0),Δ (.d (.str x)),Θ] (rd ws w (p+1))=.ok (js.map λj=>.d (.int j)) (rd ws w (p+1)):=by
   rw[hJ,aY,G5 rfl,ag,aP,ag,l6,ag];have e:jo [.d (.int w)]=Δ (eE 0 w):=by show(if -dX<=w/\w < dX then _ else _)=_;rw[if_pos (by unfold dX;omega)]
   rw[e,dW];unfold eE;rw[List.map_map,Int.sub_zero];rfl
  have loop:∀(js:List Int) (u:Option P) (st:aW),(∀j∈js,0<=j/\j < w)->(∃j∈js,x=num j/\forL (me (.nm 2)) (ai (callC Fs (n+1)) bq) (js.map λj=>.d (.int j)) [Δ (.obj 0),Δ (.d (.str x)),u] st=.ok (.rt (.d (.tup [.str "letter",.int j]))) st)\/
    ((∀j∈js,x≠num j)/\∃u',forL (me (.nm 2)) (ai (callC Fs (n+1)) bq) (js.map λj=>.d (.int j)) [Δ (.obj 0),Δ (.d (.str x)),u] st=.ok (.nx [Δ (.obj 0),Δ (.d (.str x)),u']) st):=by
   intro js;induction js with
   |nil=>exact λu st _=>.inr ⟨λ_ h=>(nomatch h),u,rfl⟩|cons j js ih=>
    intro u st hj;obtain⟨j0,j3⟩:=hj j PC;have b1:=bd j st j0 (by omega);by_cases h:x=num j;·rw[if_pos h] at b1;refine .inl ⟨j,PC,h,?_⟩;show((ai (callC Fs (n+1)) bq [Δ (.obj 0),Δ (.d (.str x)),Δ (.d (.int j))] st).bind _)=_;rw[b1];rfl
    ·rw[if_neg h] at b1;have e:∀res,forL (me (.nm 2)) (ai (callC Fs (n+1)) bq) (js.map λj=>.d (.int j)) [Δ (.obj 0),Δ (.d (.str x)),Δ (.d (.int j))] st=res->forL (me (.nm 2)) (ai (callC Fs (n+1)) bq) ((j::js).map λj=>.d (.int j)) [Δ (.obj 0),Δ (.d (.str x)),u] st=res:=λres hr=>by show((ai (callC Fs (n+1)) bq [Δ (.obj 0),Δ (.d (.str x)),Δ (.d (.int j))] st).bind _)=_;rw[b1,ag];exact hr
     rcases ih (Δ (.d (.int j))) st (λk hk=>hj k (Pz _ hk)) with ⟨k,hk,e1,e2⟩|⟨e1,u',e2⟩
     ·exact .inl ⟨k,Pz _ hk,e1,e _ e2⟩
     ·refine .inr ⟨λk hk=>?_,u',e _ e2⟩;rcases Ub.mp hk with rfl|hk;·exact h
      ·exact e1 k hk
  rcases loop js Θ (rd ws w (p+1)) HN with ⟨j,hj,e1,e2⟩|⟨e1,u',e2⟩
  ·refine .inl ⟨j,(HN j hj).1,(HN j hj).2,by rw[e1],jD dG rfl rfl ?_⟩;exact ak Lf (av (wa hw3 e2))
  ·refine .inr ⟨λi h0 h1 z=>?_,"NoText",rd ws w (p+1),dH dG rfl rfl ?_⟩;·refine e1 i (List.mem_map.mpr ⟨i.toNat,List.mem_range.mpr (by omega),by omega⟩) (P4 z)
   ·exact ak Lf (ak (wa hw3 e2) (cq rfl))
mutual
def wd:D->List Str
 |.str s=>[s]|.int i=>[num i]|.tup xs=>lg xs|_=>[]
def lg:List D->List Str
 |[]=>[]|x::xs=>wd x++lg xs
end
theorem cK nm xs:wd (.tup (.str nm::xs))=nm::lg xs:=by simp[wd,lg]
theorem bQ x xs:lg (x::xs)=wd x++lg xs:=by simp[lg]
theorem el:lg []=[]:=by simp[lg]
def bS(ws:List Str):Nat:=(ws.map (·.length)).sum+ws.length
theorem bj us vs:bS (us++vs)=bS us+bS vs:=by simp[bS];omega
theorem G7 ws:(Qd blank ws).length<=bS ws:=sJ ws
theorem cL(hw:w<=3)(h:pat m w x=Λ):∃j,m=j+1/\((∃i,x=.tup [.str "letter",.int i]/\0<=i/\i < w)\/
  (∃nm xs,x=.tup (.str nm::xs)/\nm≠"letter"/\dA aK nm=Δ (xs.length:Int)/\∀y∈xs,pat j w y=Λ)):=by
 cases m with
 |zero=>cases h|succ j=>
  refine⟨j,rfl,?_⟩;simp only[pat,Pw] at h;obtain⟨nm,xs,rfl⟩:=AA h.1;by_cases hn:nm="letter"
  ·subst hn;have h1:=h.1;simp only[mW,if_true] at h1
   match xs,h1 with
   |[k],h1=>simp only[vn] at h1;cases k with|int i=>simp only[qv,Pw,qqq] at h1;exact .inl ⟨i,rfl,h1.1,h1.2⟩|_=>cases h1
   |[],h1=>cases h1|_::_::_,h1=>cases h1
  ·have h1:=h.1;simp only[mW,if_neg hn,qqq] at h1;have h2:=h.2;simp only[kids,if_neg hn,Ri] at h2;exact .inr ⟨nm,xs,rfl,hn,h1,h2⟩
theorem sU(hw:w<=3)(h:pat m w x=Λ):wd x≠[]:=by
 obtain⟨j,rfl,⟨i,rfl,_⟩|⟨nm,xs,rfl,_⟩⟩:=cL hw h;·rw[cK];simp
 ·rw[cK];simp
theorem CS(h:0<=i/\i < 3):(num i).length=1:=by
 have a:i=0\/i=1\/i=2:=by omega
 rcases a with rfl|rfl|rfl<;>decide+kernel
theorem G8(h:C 9 [.d (.tup ys)] st=.ok (.d (.str t)) st)(hl:acc.length+1+t.length<=100000):
  ai C bF [X,Δ (.d (.str acc)),Δ (.d (.tup ys))] st=.ok (.nx [X,Δ (.d (.str (acc++" "++t))),Δ (.d (.tup ys))]) st:=by
 have l1:(" ":Str).length=1:=by decide+kernel
 have l2:(acc++" ").length=acc.length+1:=by rw[vm,l1]
 refine ak (bU (st1:=st) (by simp[dS]) (ak (bO (v:=.d (.str (acc++" "++t))) (st1:=st) ?_) aA)) aA;have b1:acc.length+1<=aC:=by unfold aC;omega
 have b2:acc.length+1+t.length<=aC:=by unfold aC;omega
 simp[h,l1,l2,b1,b2]
theorem G9(h0:0<=i)(h3:i < 3)(hl:acc.length<=100000):
  ai C bF [X,Δ (.d (.str acc)),Δ (.d (.int i))] st=.ok (.nx [X,Δ (.d (.str (acc++" "++Qg (toString i)))),Δ (.d (.int i))]) st:=by
 have l1:(" ":Str).length=1:=by decide+kernel
 have l2:(acc++" ").length=acc.length+1:=by rw[vm,l1]
 have l3:(Qg (toString i)).length=1:=by
  have hi:i=0\/i=1\/i=2:=by omega
  rcases hi with rfl|rfl|rfl<;>decide+kernel
 have G6:i.natAbs.log2 < 1920:=Nat.lt_of_le_of_lt (Nat.log2_le_self _) (by omega);have hs:∀st,yk .str [.d (.int i)] st=Δ (.d (.str (Qg (toString i)))):=λst=>by show(if i.natAbs.log2 < 1920 then _ else _)=_;rw[if_pos G6]
 generalize Qg (toString i)=t at*;refine ak (bD (st1:=st) (by simp[dS]) (ak (bO (v:=.d (.str (acc++" "++t))) (st1:=st) ?_) aA)) aA;have b1:acc.length+1<=aC:=by unfold aC;omega
 have b2:acc.length+1+1<=aC:=by unfold aC;omega
 simp[hs,l1,l2,l3,b1,b2]
theorem AD n{xs:List D}(hf:forL (me (.nm 2)) (ai (callC Fs n) bF) (xs.map .d) [Δ (.d (.tup (.str nm::xs))),Δ (.d (.str nm)),Θ] []=
   .ok (.nx [Δ (.d (.tup (.str nm::xs))),Δ (.d (.str fin)),u]) [])st:callC Fs (n+1) 9 [.d (.tup (.str nm::xs))] st=.ok (.d (.str fin)) st:=by
 refine call_of k8 rfl (cb (p:=.d (.str fin)) (st:=[]) rfl ?_ rfl);refine ak (bO (v:=.d (.str nm)) (st1:=[]) (by simp[aq,cI])) ?_;refine ak (wa (ps:=xs.map .d) (st1:=[]) (by simp[aq,cI,o9]) hf) ?_;exact av (bw (by simp))
theorem qx n{w:Int}(hw:w<=3):∀(xs) (us) (u),us≠[]->bS us+bS (lg xs)<=90000->
  (∀y∈xs,(∃i,y=.int i/\0<=i/\i < 3)\/∃ys,y=.tup ys/\wd y≠[]/\∀st,callC Fs n 9 [.d y] st=.ok (.d (.str (Qd blank (wd y)))) st)->
  ∃u',forL (me (.nm 2)) (ai (callC Fs n) bF) (xs.map .d) [X,Δ (.d (.str (Qd blank us))),u] []=.ok (.nx [X,Δ (.d (.str (Qd blank (us++lg xs)))),u']) []
 |[],us,u,hu,hl,h=>⟨u,by rw[el,QK];rfl⟩|y::xs,us,u,hu,hl,h=>by
  rw[bQ,bj] at hl;have lu:=G7 us;have ly:=G7 (wd y);have hy0:wd y≠[]:=by
   rcases h y PC with ⟨i,rfl,_⟩|⟨ys,rfl,q,_⟩
   ·simp[wd]
   ·exact q
  have e:ai (callC Fs n) bF [X,Δ (.d (.str (Qd blank us))),Δ (.d y)] []=.ok (.nx [X,Δ (.d (.str (Qd blank (us++wd y)))),Δ (.d y)]) []:=by
   rw[sL hu hy0];rcases h y PC with ⟨i,rfl,h0,h3⟩|⟨ys,rfl,q,hc⟩
   ·exact G9 h0 h3 (by omega)
   ·exact G8 (hc []) (by omega)
  obtain⟨u',ih⟩:=qx n hw (X:=X) xs (us++wd y) (Δ (.d y)) (by simp[hu]) (by rw[bj];omega) λz hz=>h z (Pz _ hz);refine⟨u',?_⟩;show((ai (callC Fs n) bF [X,Δ (.d (.str (Qd blank us))),Δ (.d y)] []).bind _)=_;rw[e,ag,bQ,<-QQ];exact ih
theorem sV:∀{xs},y∈xs->bS (wd y)<=bS (lg xs)
 |x::xs,h=>by
  rw[bQ,bj];rcases Ub.mp h with rfl|h;·omega
  ·have:=sV h;omega
theorem cT(hw:w<=3):∀(m n) (x),pat m w x=Λ->bS (wd x)<=80000->∀st,callC Fs (n+m) 9 [.d x] st=.ok (.d (.str (Qd blank (wd x)))) st
 |0,n,x,h,_=>by cases h|m+1,n,x,h,hl=>by
  intro st;obtain⟨j,e,h'⟩:=cL hw h;cases e;rcases h' with ⟨i,rfl,h0,h1⟩|⟨nm,xs,rfl,hn,hk,hx⟩
  ·obtain⟨u',hf⟩:=qx (n+m) hw (X:=Δ (.d (.tup [.str "letter",.int i]))) [.int i] ["letter"] Θ (by simp) (by rw[cK] at hl;simp[bS] at hl ⊢;omega) (λy hy=>.inl ⟨i,by simpa using hy,h0,by omega⟩);rw[cK];exact AD (n+m) hf st
  ·rw[cK] at hl ⊢;have ow:bS (nm::lg xs)=bS [nm]+bS (lg xs):=bj [nm] (lg xs);obtain⟨u',hf⟩:=qx (n+m) hw (X:=Δ (.d (.tup (.str nm::xs)))) xs [nm] Θ (by simp) (by omega) (λy hy=>.inr (by
    obtain⟨ys,e⟩:∃ys,y=.tup ys:=by
     obtain⟨_,_,⟨i,rfl,_⟩|⟨nm,zs,rfl,_⟩⟩:=cL hw (hx y hy);·exact⟨_,rfl⟩
     ·exact⟨_,rfl⟩
    have:=sV hy;exact⟨ys,e,sU hw (hx y hy),cT hw m n y (hx y hy) (by omega)⟩))
   exact AD (n+m) hf st
theorem wg(ih:∀(m':Nat) (x x':D) (r r':List Str),pat m w x=Λ->pat m' w x'=Λ->wd x++r=wd x'++r'->x=x'/\r=r'):
  ∀(xs CT) (r r'),(∀y∈xs,pat m w y=Λ)->(∀y∈CT,pat m' w y=Λ)->xs.length=CT.length->lg xs++r=lg CT++r'->xs=CT/\r=r'
 |[],[],r,r',_,_,_,h=>⟨rfl,by simpa[el] using h⟩|[],_::_,_,_,_,_,h,_=>by simp at h|_::_,[],_,_,_,_,h,_=>by simp at h|x::xs,x'::CT,r,r',h1,h2,hl,h=>by rw[bQ,bQ,QQ,QQ] at h;obtain⟨e1,e2⟩:=ih m' x x' _ _ (h1 x PC) (h2 x' PC) h;obtain⟨e3,e4⟩:=wg ih xs CT r r' (λy hy=>h1 y (Pz _ hy)) (λy hy=>h2 y (Pz _ hy)) (by simpa using hl) e2;exact⟨by rw[e1,e3],e4⟩
theorem mY(hw:w<=3):∀(m m') (x x') (r r'),pat m w x=Λ->pat m' w x'=Λ->wd x++r=wd x'++r'->x=x'/\r=r'
 |0,_,_,_,_,_,h,_,_=>by cases h|m+1,m',x,x',r,r',h,h',e=>by
  obtain⟨j,ej,hx⟩:=cL hw h;cases ej;obtain⟨j',ej',rn⟩:=cL hw h';subst ej';rcases hx with ⟨i,rfl,i0,i1⟩|⟨nm,xs,rfl,hn,hk,hp⟩<;>rcases rn with ⟨i',rfl,i0',i1'⟩|⟨nm',CT,rfl,pz,tz,wZ⟩<;>rw[cK,cK,List.cons_append,List.cons_append] at e<;>obtain⟨e1,e2⟩:=QT e
  ·rw[bQ,bQ,el] at e2;have e3:num i::r=num i'::r':=by simpa[wd] using e2
   obtain⟨e4,e5⟩:=QT e3;exact⟨by rw[CQ ⟨i0,by omega⟩ ⟨i0',by omega⟩ e4],e5⟩
  ·exact absurd e1.symm pz
  ·exact absurd e1 hn
  ·subst e1;rw[hk] at tz;have hl:xs.length=CT.length:=by have:=P4 tz;omega
   obtain⟨e3,e4⟩:=wg (mY hw m) xs CT r r' hp wZ hl e2;exact⟨by rw[e3],e4⟩
theorem wj{ws:List Str}(h:ws[p]?=Δ x):ws.drop p=x::ws.drop (p+1):=by obtain⟨hp,e⟩:=qqz h;rw[RF hp,e]
def Got(m:Nat)(w:Int)(ws:List Str)(p:Nat)(d:D)(p':Nat):Prop:=pat m w d=Λ/\ws.drop p=wd d++ws.drop p'/\p'<=ws.length
def Lg(m:Nat)(w:Int)(ws:List Str)(p:Nat):Prop:=∀d r,pat m w d=Λ->ws.drop p≠wd d++r
def Step(m n:Nat)(w:Int)(ws:List Str)(o:Int):Prop:=∀p,p<=ws.length->(∃d p',Got m w ws p d p'/\callC Fs n 16 [.obj 0,.d (.int o)] (rd ws w p)=.ok (.d d) (rd ws w p'))\/
 (Lg m w ws p/\∃x st,callC Fs n 16 [.obj 0,.d (.int o)] (rd ws w p)=.ex x st)
theorem pj(hw:w<=3)(S1:Step m n w ws (o+1)):∀(ps) (p),p<=ws.length->
  (∃ds p',ds.length=ps.length/\(∀y∈ds,pat m w y=Λ)/\ws.drop p=lg ds++ws.drop p'/\p'<=ws.length/\
   cG (λq=>Δ q::cH [0,1] [Δ (.obj 0),Δ (.d (.int o)),Δ (.d (.str nm))]) (cD (callC Fs n) Θ) (λr' bI=>aa (callC Fs n) (.eO 16 "Reader" "pattern" 1 [.op .add (.var 2) (.cst (.int 1))]) r' bI) ps (rd ws w p)=.ok (ds.map .d) (rd ws w p'))\/
  ((∀ds r,ds.length=ps.length->(∀y∈ds,pat m w y=Λ)->ws.drop p≠lg ds++r)/\∃x st,
   cG (λq=>Δ q::cH [0,1] [Δ (.obj 0),Δ (.d (.int o)),Δ (.d (.str nm))]) (cD (callC Fs n) Θ) (λr' bI=>aa (callC Fs n) (.eO 16 "Reader" "pattern" 1 [.op .add (.var 2) (.cst (.int 1))]) r' bI) ps (rd ws w p)=.ex x st)
 |[],p,hp=>.inl ⟨[],p,rfl,(λ_ h=>nomatch h),by rw[el];rfl,hp,rfl⟩|q::ps,p,hp=>by
  have em:∀p,aa (callC Fs n) (.eO 16 "Reader" "pattern" 1 [.op .add (.var 2) (.cst (.int 1))]) (Δ q::cH [0,1] [Δ (.obj 0),Δ (.d (.int o)),Δ (.d (.str nm))]) (rd ws w p)=callC Fs n 16 [.obj 0,.d (.int (o+1))] (rd ws w p):=λp=>mX (m:="pattern") rfl (by decide+kernel) (by simp[cH]);rcases S1 p hp with ⟨d,p1,⟨h1,h2,h3⟩,e1⟩|⟨h1,x,st,e1⟩
  ·rcases pj hw S1 ps p1 h3 with ⟨ds,p',l,h4,h5,h6,e2⟩|⟨h4,x,st,e2⟩
   ·refine .inl ⟨d::ds,p',by simp[l],λy hy=>?_,by rw[bQ,QQ,<-h5];exact h2,h6,?_⟩
    ·rcases Ub.mp hy with rfl|hy;·exact h1
     ·exact h4 y hy
    ·rw[eF,fU,ag,if_pos rfl,em,e1,ag,e2,ag];rfl
   ·refine .inr ⟨λds r hl hd z=>?_,x,st,?_⟩
    ·match ds,hl,hd,z with|y::ys,hl,hd,z=>rw[bQ,QQ,h2] at z;obtain⟨e3,e4⟩:=mY hw m m d y _ _ h1 (hd y PC) z;exact h4 ys r (by simpa using hl) (λu hu=>hd u (Pz _ hu)) e4
    ·rw[eF,fU,ag,if_pos rfl,em,e1,ag,e2];rfl
  ·refine .inr ⟨λds r hl hd z=>?_,x,st,?_⟩
   ·match ds,hl,hd,z with|y::ys,hl,hd,z=>rw[bQ,QQ] at z;exact h1 y _ (hd y PC) z
   ·rw[eF,fU,ag,if_pos rfl,em,e1];rfl
theorem jF(hw:1<=w/\w<=3)(hl:ws.length<=1000000):∀(m n:Nat) (o:Int),o+m=41->Step m (n+m+3) w ws o
 |0,n,o,ho=>λp hp=>by
  have h1:(40:Int) < o:=by omega
  refine .inr ⟨λd r h=>(by cases h),"NoText",rd ws w p,dH (n:=n+0+2) bz rfl rfl ?_⟩;exact cq (bU (st1:=rd ws w p) (by simp[aq,ax,h1]) (cq rfl))
 |m+1,n,o,ho=>λp hp=>by
  have h1:¬(40:Int) < o:=by omega
  have S1:=jF hw hl m n (o+1) (by omega);have j0:((aq ax.nn [P.obj 0,.d (.int o)])[0]?).join=Δ (.obj 0):=rfl;have mt:=mX (C:=callC Fs (n+m+3)) (ws:=ws) (w:=w) (p:=p) (k:=14) (m:="taken") (es:=[]) (ps:=[]) j0 (by decide+kernel) aP;have first:∀res,ai (callC Fs (n+m+3)) (ax.body.drop 1) (aq ax.nn [P.obj 0,.d (.int o)]) (rd ws w p)=res->ai (callC Fs (n+m+3)) ax.body (aq ax.nn [P.obj 0,.d (.int o)]) (rd ws w p)=res:=λres hr=>ak (bD (st1:=rd ws w p) (by simp[aq,ax,h1]) aA) hr
  cases hx:ws[p]? with
  |none=>
   have wZ:p=ws.length:=by have:=List.getElem?_eq_none_iff.mp hx;omega
   refine .inr ⟨λd r h z=>?_,"NoText",rd ws w p,dH (n:=n+m+3) bz rfl rfl (first _ (cq ?_))⟩;·rw[wZ,Sl] at z;have:=sU hw.2 h;cases hd:wd d with|nil=>exact this hd|cons a b=>rw[hd] at z;cases z
   ·rw[dC,mt,sS (n+m+2) wZ];rfl
  |some x=>
   have tk:=sR (n+m+2) (w:=w) hx hl;have hp1:p+1<=ws.length:=(qqz hx).1;have ET:=wj hx;have second:∀res,ai (callC Fs (n+m+3)) (ax.body.drop 2) [Δ (.obj 0),Δ (.d (.int o)),Δ (.d (.str x))] (rd ws w (p+1))=res->ai (callC Fs (n+m+3)) ax.body (aq ax.nn [P.obj 0,.d (.int o)]) (rd ws w p)=res:=λres hr=>first _ (ak (by rw[dC,mt,tk];rfl) hr)
   by_cases hn:x="letter"
   ·subst hn;have ml:=mX (C:=callC Fs (n+m+3)) (r:=[Δ (.obj 0),Δ (.d (.int o)),Δ (.d (.str "letter"))]) (ws:=ws) (w:=w) (p:=p+1) (k:=15) (m:="letter") (i:=0) (es:=[]) (ps:=[]) rfl (by decide+kernel) aP;rcases sT (n+m+1) hw hp1 hl with ⟨i,i0,i1,hi,e⟩|⟨IK,z,st,e⟩
    ·have IV:p+1+1<=ws.length:=(qqz hi).1;refine .inl ⟨.tup [.str "letter",.int i],p+1+1,⟨ph (G4 i0 i1) (by omega),?_,IV⟩,jD (n:=n+m+3) bz rfl rfl (second _ ?_)⟩;·rw[ET,wj hi,cK,bQ,el];simp[wd]
     ·refine av (bU (st1:=rd ws w (p+1)) (by simp) (av (bw ?_)));rw[ml];exact e
    ·refine .inr ⟨λd r h z'=>?_,z,st,dH (n:=n+m+3) bz rfl rfl (second _ ?_)⟩
     ·rw[ET] at z';obtain⟨j,ej,⟨i,rfl,i0,i1⟩|⟨nm,xs,rfl,pz,_⟩⟩:=cL hw.2 h
      ·rw[cK,bQ,el] at z';have z2:ws.drop (p+1)=num i::r:=by simpa[wd] using(QT z').2
       refine IK i i0 i1 ?_;have:=congrArg (λl=>l[0]?) z2;simpa using this
      ·rw[cK] at z';exact pz (QT z').1.symm
     ·refine cq (bU (st1:=rd ws w (p+1)) (by simp) (cq ?_));rw[hU,ml,e];rfl
   ·have DM:∀res,ai (callC Fs (n+m+3)) (ax.body.drop 3) [Δ (.obj 0),Δ (.d (.int o)),Δ (.d (.str x))] (rd ws w (p+1))=res->ai (callC Fs (n+m+3)) ax.body (aq ax.nn [P.obj 0,.d (.int o)]) (rd ws w p)=res:=λres hr=>second _ (ak (bD (st1:=rd ws w (p+1)) (by simp[hn]) aA) hr);have et:∀st,aa (callC Fs (n+m+3)) (.pV aK (.var 2)) [Δ (.obj 0),Δ (.d (.int o)),Δ (.d (.str x))] st=.ok (.d (.bl (!(dA aK x).isSome))) st:=λst=>by rw[fT];rfl
    cases hk:dA aK x with
    |none=>
     rw[hk] at et;refine .inr ⟨λd r h z'=>?_,"NoText",rd ws w (p+1),dH (n:=n+m+3) bz rfl rfl (DM _ (cq (bU (et _) (cq rfl))))⟩;rw[ET] at z';obtain⟨j,ej,⟨i,rfl,i0,i1⟩|⟨nm,xs,rfl,pz,tz,_⟩⟩:=cL hw.2 h;·rw[cK] at z';exact hn (QT z').1
     ·rw[cK] at z';rw[<-(QT z').1,hk] at tz;cases tz
    |some c=>
     rw[hk] at et;have AE:∀res,ai (callC Fs (n+m+3)) (ax.body.drop 4) [Δ (.obj 0),Δ (.d (.int o)),Δ (.d (.str x))] (rd ws w (p+1))=res->ai (callC Fs (n+m+3)) ax.body (aq ax.nn [P.obj 0,.d (.int o)]) (rd ws w p)=res:=λres hr=>DM _ (ak (bD (et _) aA) hr);have hc:0<=c/\c<=2:=by
      rcases sQ x with z|z|z|z<;>rw[hk] at z;·have:=P4 z.1;omega
      ·have:=P4 z.1;omega
      ·have:=P4 z.1;omega
      ·cases z.1
     have ew:b7 (callC Fs (n+m+3)) (.gd [.A4 aK (.var 2)]) [Δ (.obj 0),Δ (.d (.int o)),Δ (.d (.str x))] (rd ws w (p+1))=.ok (eE 0 c) (rd ws w (p+1)):=by
      have e0:aa (callC Fs (n+m+3)) (.A4 aK (.var 2)) [Δ (.obj 0),Δ (.d (.int o)),Δ (.d (.str x))] (rd ws w (p+1))=.ok (.d (.int c)) (rd ws w (p+1)):=by rw[oH];show R.of ((dA aK x).map λi=>P.d (.int i)) _=_;rw[hk];rfl
      rw[hJ,aY,e0,ag,aP,ag,l6,ag];have e:jo [.d (.int c)]=Δ (eE 0 c):=by show(if -dX<=c/\c < dX then _ else _)=_;rw[if_pos (by unfold dX;omega)]
      rw[e];rfl
     have hlen:((eE 0 c).length:Int)=c:=by unfold eE;rw[PX,Ro];omega
     have h2:(eE 0 c).length<=2:=by omega
     have ec:∀res,cG (λq=>Δ q::cH [0,1] [Δ (.obj 0),Δ (.d (.int o)),Δ (.d (.str x))]) (cD (callC Fs (n+m+3)) Θ) (λr' bI=>aa (callC Fs (n+m+3)) (.eO 16 "Reader" "pattern" 1 [.op .add (.var 2) (.cst (.int 1))]) r' bI) (eE 0 c) (rd ws w (p+1))=res->
       bN (callC Fs (n+m+3)) (.comp (.gd [.A4 aK (.var 2)]) 1 [0,1] Θ (.eO 16 "Reader" "pattern" 1 [.op .add (.var 2) (.cst (.int 1))])) [Δ (.obj 0),Δ (.d (.int o)),Δ (.d (.str x))] (rd ws w (p+1))=res:=λres hr=>by
      rw[iR,ew,ag,if_pos ⟨rfl,by unfold aC;omega⟩];exact hr
     rcases pj hw.2 S1 (nm:=x) (eE 0 c) (p+1) hp1 with ⟨ds,p',l,h4,h5,h6,e2⟩|⟨h4,z,st,e2⟩
     ·have JW:=ec _ e2;have l2:ds.length<=2:=by omega
      refine .inl ⟨.tup (.str x::ds),p',⟨we ⟨by rw[hk,l,hlen],hn⟩ h4,by rw[ET,cK,h5];rfl,h6⟩,jD (n:=n+m+3) bz rfl rfl (AE _ (av (bw ?_)))⟩;have ha:aa (callC Fs (n+m+3)) (.op .add (.lst Ξ (.eP [.var 2])) (.lst Ξ (.comp (.gd [.A4 aK (.var 2)]) 1 [0,1] Θ (.eO 16 "Reader" "pattern" 1 [.op .add (.var 2) (.cst (.int 1))])))) [Δ (.obj 0),Δ (.d (.int o)),Δ (.d (.str x))] (rd ws w (p+1))=.ok (.d (.pl (.str x::ds))) (rd ws w p'):=by simp[JW,aC];rw[if_pos (by omega)];rfl
      rw[jr,aY,ha,ag,aP,ag,ag];simp[aC]
     ·have JW:=ec _ e2;refine .inr ⟨λd r h z'=>?_,z,st,dH (n:=n+m+3) bz rfl rfl (AE _ (cq ?_))⟩
      ·rw[ET] at z';obtain⟨j,ej,⟨i,rfl,i0,i1⟩|⟨nm,xs,rfl,pz,tz,rn⟩⟩:=cL hw.2 h;·rw[cK] at z';exact hn (QT z').1
       ·cases ej;rw[cK] at z';obtain⟨z1,z2⟩:=QT z';rw[<-z1,hk] at tz;have:=P4 tz;exact h4 xs r (by omega) rn z2
      ·have Oc:aa (callC Fs (n+m+3)) (.lst Ξ (.eP [.var 2])) [Δ (.obj 0),Δ (.d (.int o)),Δ (.d (.str x))] (rd ws w (p+1))=.ok (.d (.pl [.str x])) (rd ws w (p+1)):=by simp[aC]
       rw[hU,jr,aY,gD,Oc,ag,hG,JW];rfl
theorem xX n(ht:t.length<=100000):callC Fs (n+1) 13 [.obj 0,.d (.str t),.d (.int w)] [.ins "Reader" []]=.ok (.d .aU) (rd (Qm t blank) w 0):=by
 have e1:∀st,aa (callC Fs n) (.lst Ξ (.split (.var 1))) (aq bJ.nn [.obj 0,.d (.str t),.d (.int w)]) st=.ok (.d (.pl ((Qm t blank).map .str))) st:=λst=>by
  have e0:iN (.d (.str t))=Δ ((Qm t blank).map λw=>.d (.str w)):=by show(if t.length+2<=aC then _ else _)=_;rw[if_pos (by unfold aC;omega)]
  have e2:bN (callC Fs n) (.split (.var 1)) (aq bJ.nn [.obj 0,.d (.str t),.d (.int w)]) st=.ok ((Qm t blank).map λw=>.d (.str w)) st:=by rw[gE];show(R.of (iN (.d (.str t))) st)=_;rw[e0];rfl
  have e3:ba ((Qm t blank).map λw=>P.d (.str w))=Δ ((Qm t blank).map .str):=by induction Qm t blank with|nil=>rfl|cons a b ih=>simp[ba,ih]
  rw[hG,e2,ag];simp[e3]
 refine Ay (r:=aq bJ.nn [.obj 0,.d (.str t),.d (.int w)]) iW rfl rfl ?_;refine ak (vk (n:=0) (x:=.obj 0) (fs:=[]) (e1 _) rfl rfl (by decide)) ?_;refine ak (vk (n:=0) (x:=.obj 0) (fs:=[(("words":Str),P.d (.pl ((Qm t blank).map .str)))]) (v:=.d (.int 0)) rfl rfl rfl (by simp)) ?_;refine ak (vk (n:=0) (x:=.obj 0) (fs:=[(("words":Str),P.d (.pl ((Qm t blank).map .str))),(("place":Str),P.d (.int 0))]) (v:=.d (.int w)) rfl rfl rfl (by simp)) ?_;exact aA
theorem xY n(hw:1<=w/\w<=3)(ht:t.length<=100000):
  (∃d,pat 41 w d=Λ/\wd d=Qm t blank/\∃st,callC Fs (n+45) 0 [.d (.str t),.d (.int w)] []=.ok (.d d) st)\/
  ((∀d,pat 41 w d=Λ->wd d≠Qm t blank)/\∃x st,callC Fs (n+45) 0 [.d (.str t),.d (.int w)] []=.ex x st):=by
 have hs:=split_len t;have i1:=xX (n+43) (w:=w) ht;generalize hws:Qm t blank=ws at*;have r0:aX (callC Fs (n+44)) (.set 2 (.make 13 "Reader" [.var 0,.var 1])) (aq mS.nn [.d (.str t),.d (.int w)]) []=.ok (.nx [Δ (.d (.str t)),Δ (.d (.int w)),Δ (.obj 0),Θ]) (rd ws w 0):=by
  have e:aa (callC Fs (n+44)) (.make 13 "Reader" [.var 0,.var 1]) (aq mS.nn [.d (.str t),.d (.int w)]) []=.ok (.obj 0) (rd ws w 0):=by rw[mh];show((callC Fs (n+44) 13 [.obj 0,.d (.str t),.d (.int w)] [.ins "Reader" []]).bind _)=_;rw[i1];rfl
  exact bO e
 have em:=mX (C:=callC Fs (n+44)) (r:=[Δ (.d (.str t)),Δ (.d (.int w)),Δ (.obj 0),Θ]) (ws:=ws) (w:=w) (p:=0) (k:=16) (m:="pattern") (i:=2) (es:=[.cst (.int 0)]) (ps:=[.d (.int 0)]) rfl (by decide+kernel) rfl;rcases jF hw (ws:=ws) (by omega) 41 n 0 (by decide) 0 (QH _) with ⟨d,p',⟨h1,h2,h3⟩,e⟩|⟨h1,x,st,e⟩
 ·rw[Sd] at h2;have r1:aX (callC Fs (n+44)) (.set 3 (.eO 16 "Reader" "pattern" 2 [.cst (.int 0)])) [Δ (.d (.str t)),Δ (.d (.int w)),Δ (.obj 0),Θ] (rd ws w 0)=.ok (.nx [Δ (.d (.str t)),Δ (.d (.int w)),Δ (.obj 0),Δ (.d d)]) (rd ws w p'):=by have:aa (callC Fs (n+44)) (.eO 16 "Reader" "pattern" 2 [.cst (.int 0)]) [Δ (.d (.str t)),Δ (.d (.int w)),Δ (.obj 0),Θ] (rd ws w 0)=.ok (.d d) (rd ws w p'):=em.trans e;exact bO this
  have ec:∀b,decide ((p':Int) < (ws.length:Int))=b->aa (callC Fs (n+44)) (.cmp .lt (.attr "Reader" "place" 2) (.bf .len [.attr "Reader" "words" 2])) [Δ (.d (.str t)),Δ (.d (.int w)),Δ (.obj 0),Δ (.d d)] (rd ws w p')=.ok (.d (.bl b)) (rd ws w p'):=λb hb=>by
   rw[g9,lK rfl,ag];have e2:aa (callC Fs (n+44)) (.bf .len [.attr "Reader" "words" 2]) [Δ (.d (.str t)),Δ (.d (.int w)),Δ (.obj 0),Δ (.d d)] (rd ws w p')=.ok (.d (.int ws.length)) (rd ws w p'):=by rw[jr,aY,lJ rfl,ag,aP,ag,ag];simp
   rw[e2,ag];show R.ok (P.d (.bl (decide ((p':Int) < (ws.length:Int))))) _=_;rw[hb]
  by_cases hp:p' < ws.length
  ·refine .inr ⟨λd' h' z=>?_,"NoText",rd ws w p',dH (n:=n+44) qu rfl rfl (ak r0 (ak r1 (cq (bU (ec Λ (by simpa using hp)) (cq rfl)))))⟩;have e3:wd d'++[]=wd d++ws.drop p':=by rw[QK,z];exact h2
   obtain⟨_,e4⟩:=mY hw.2 41 41 d' d _ _ h' h1 e3;have:=congrArg T3 e4;rw[Um] at this;simp at this;omega
  ·have wZ:p'=ws.length:=by omega
   refine .inl ⟨d,h1,by rw[wZ,Sl,QK] at h2;exact h2.symm,rd ws w p',jD (n:=n+44) qu rfl rfl (ak r0 (ak r1 (ak (bD (ec Ξ (by simpa using(by omega:ws.length<=p'))) aA) (av (bw rfl)))))⟩
 ·refine .inr ⟨λd' h' z=>h1 d' [] h' (by rw[Sd,QK];exact z.symm),x,st,dH (n:=n+44) qu rfl rfl (ak r0 (cq ?_))⟩;rw[dC,em,e];rfl
theorem mZ n(hw:1<=w/\w<=3)(ht:t.length<=100000):
  (∃d,pat 41 w d=Λ/\wd d=Qm t blank/\∀st,callC Fs (n+46) 11 [.d (.str t),.d (.int w)] st=.ok (.d d) st)\/
  ((∀d,pat 41 w d=Λ->wd d≠Qm t blank)/\∀st,callC Fs (n+46) 11 [.d (.str t),.d (.int w)] st=.ok (.d .aU) st):=by
 have ev:aa (callC Fs (n+45)) (.call 0 [.var 0,.var 1]) (aq ef.nn [.d (.str t),.d (.int w)]) []=callC Fs (n+45) 0 [.d (.str t),.d (.int w)] []:=rfl;rcases xY n hw ht with ⟨d,h1,h2,st1,e⟩|⟨h1,x,st1,e⟩
 ·refine .inl ⟨d,h1,h2,λst=>call_of (n:=n+45) iD rfl (cb (p:=.d d) (st:=st1) rfl ?_ rfl)⟩;obtain⟨ys,rfl⟩:∃ys,d=.tup ys:=by
   obtain⟨_,_,⟨i,rfl,_⟩|⟨nm,zs,rfl,_⟩⟩:=cL hw.2 h1;·exact⟨_,rfl⟩
   ·exact⟨_,rfl⟩
  refine ak (r1:=[Δ (.d (.str t)),Δ (.d (.int w)),Δ (.d (.tup ys)),Θ,Θ]) (st1:=st1) ?_ (av (bw ?_));·rw[iS,ev,e];rfl
  ·rw[rQ];have ed:aa (callC Fs (n+45)) (.lst Ξ (.eP [.var 2,.tup []])) [Δ (.d (.str t)),Δ (.d (.int w)),Δ (.d (.tup ys)),Θ,Θ] st1=.ok (.d (.pl [.tup ys,.tup []])) st1:=by simp[aC]
   have ei:aa (callC Fs (n+45)) (.toint (.cmp .xr (.var 2) (.cst .aU))) [Δ (.d (.str t)),Δ (.d (.int w)),Δ (.d (.tup ys)),Θ,Θ] st1=.ok (.d (.int 0)) st1:=by rw[kJ];rfl
   rw[ed,ag,ei,ag];simp
 ·refine .inr ⟨h1,λst=>call_of (n:=n+45) iD rfl (cb (p:=.d .aU) (st:=st1) rfl ?_ rfl)⟩;refine av ?_;rw[iS,ev,e];rfl
theorem jG:∀{ws},ws≠[]->(Qd blank ws).length+1=bS ws
 |[],h=>absurd rfl h|[x],_=>by simp[bS,La]|x::y::r,_=>by
  have ih:=jG (ws:=y::r) (by simp);have e:=congrArg T3 (o8 x y r);simp only[Qh,PU] at e;have l:∀s:Str,s.cps.toList.length=s.length:=λs=>by simp[Uz]
  rw[l,l,l] at e;simp only[bS,Qq,U1,PU] at ih ⊢;omega
theorem xZ k ws:bS (ws.take k)<=bS ws:=by have:=bj (ws.take k) (ws.drop k);rw[List.take_append_drop] at this;omega
theorem x6 k ws:bS (ws.drop k)<=bS ws:=by have:=bj (ws.take k) (ws.drop k);rw[List.take_append_drop] at this;omega
theorem AF ws l h:bS (cF ws l h)<=bS ws:=Qj (xZ _ _) (x6 _ _)
theorem m6 ws:ws.length<=bS ws:=by unfold bS;omega
theorem Ms ws l h:cF (ws.map D.str) l h=(cF ws l h).map .str:=by unfold cF;rw[PX,U2,U3]
theorem AG:∀l,strsOf (l.map λs=>.d (.str s))=Δ l
 |[]=>rfl|s::l=>by simp[strsOf,xu,AG l]
theorem Ha(h:aa C e r []=.ok (.d (.pl (us.map .str))) [])(hb:bS us<=900000):aa C (.join (.cst (.str " ")) e) r []=.ok (.d (.str (Qd blank us))) []:=by
 have hj:zU (" ":Str) (.d (.pl (us.map .str))) []=Δ (.d (.str (Qd blank us))):=by
  show((strsOf ((us.map D.str).map .d)).bind λts=>_)=_;rw[List.map_map];show((strsOf (us.map λs=>.d (.str s))).bind λts=>_)=_;rw[AG];refine if_pos ?_;have l1:(" ":Str).length=1:=by decide+kernel
  unfold bS at hb;rw[l1];omega
 rw[mf,fA,ag];show(aa C _ _ _).bind _=_;rw[h,ag,hj];rfl
theorem m7(ha:aa C a r []=.ok (.d (.pl (us.map .str))) [])(hl:cg C lo r []=.ok (l.map λi=>.d (.int i)) [])(hh:cg C hi r []=.ok (h.map λi=>.d (.int i)) []):aa C (.slice a lo hi) r []=.ok (.d (.pl ((cF us l h).map .str))) []:=by
 have p:∀z:Option Int,fw (z.map λi=>.d (.int i))=Δ z:=λz=>by cases z<;>rfl
 rw[kK,ha,ag,hl,ag,hh];show R.of (fS _ _ _ _) _=_;unfold fS;rw[p,p];show R.of ((b0 [] (.d (.pl (us.map .str)))).bind λxs=>(ba (cF xs l h)).map λys=>P.d (.pl ys)) _=_;have:b0 [] (.d (.pl (us.map D.str)))=Δ ((us.map D.str).map .d):=rfl;rw[this];have e:cF ((us.map D.str).map P.d) l h=((cF us l h).map .str).map .d:=by unfold cF;simp only[PX,U2,U3]
 show R.of ((ba (cF ((us.map D.str).map P.d) l h)).map λys=>P.d (.pl ys)) _=_;rw[e,fX];rfl
theorem sW(ha:aa C a r []=.ok (.d (.pl (us.map .str))) [])(hb:aa C b r []=.ok (.d (.pl (vs.map .str))) [])(hl:bS us+bS vs<=1000000):
  aa C (.op .add a b) r []=.ok (.d (.pl ((us++vs).map .str))) []:=by
 have h1:=m6 us;have h2:=m6 vs;rw[gD,ha,ag,hb,ag,K7,PX,PX,if_pos (by unfold aC;omega),List.map_append];rfl
theorem CU(ha:aa C a r []=.ok (.d (.str z)) [])(hl:cg C lo r []=.ok (l.map λi=>.d (.int i)) [])(hh:cg C hi r []=.ok (h.map λi=>.d (.int i)) [])(hz:z.length<=100000):aa C (.eY a lo hi) r []=.ok (.d (.str (Tv z l h))) []:=by
 have p:∀z:Option Int,fw (z.map λi=>.d (.int i))=Δ z:=λz=>by cases z<;>rfl
 rw[jt,ha,ag,hl,ag,hh];show R.of (g8 _ _ _) _=_;unfold g8;rw[p,p];show R.of (if z.length<=aC then _ else _) _=_;rw[if_pos (by unfold aC;omega)];rfl
theorem CV(ha:aa C a r []=.ok (.d (.str x)) [])(hb:aa C b r []=.ok (.d (.str y)) [])(hl:x.length+y.length<=1000000):
  aa C (.op .add a b) r []=.ok (.d (.str (x++y))) []:=by
 rw[gD,ha,ag,hb,ag,K6,if_pos (by unfold aC;omega)];rfl
theorem DN(ha:aa C a r []=.ok (.d (.str t)) [])(ht:t.length<=100000):aa C (.lst Ξ (.split a)) r []=.ok (.d (.pl ((Qm t blank).map .str))) []:=by
 have e0:iN (.d (.str t))=Δ ((Qm t blank).map λw=>.d (.str w)):=by show(if t.length+2<=aC then _ else _)=_;rw[if_pos (by unfold aC;omega)]
 have e2:bN C (.split a) r []=.ok ((Qm t blank).map λw=>.d (.str w)) []:=by rw[gE,ha,ag,e0];rfl
 rw[hG,e2,ag];simp
theorem Ph{k:Nat}(hk:k < z.length)(hz:z.length<=1000):∃s:Str,s.length=1/\j7 (.d (.str z)) (.d (.int k))=Δ (.d (.str s)):=by
 have tz:k < z.cps.toList.length:=by simpa[Uz] using hk
 have e:j7 (.d (.str z)) (.d (.int k))=if z.length<=aC then(jV z.cps.toList (k:Int)).map λc=>.d (.str ⟨#[c]⟩) else Θ:=rfl
 refine⟨⟨#[z.cps.toList[k]]⟩,rfl,?_⟩;rw[e,if_pos (by unfold aC;omega),ie (PV tz)];rfl
noncomputable def ff:List Str:=["none","empty","any","letter","then","or","and","not","many","0","1","2","3","00","-1","a","True","None"]
theorem x8:Qm "none empty any letter then or and not many 0 1 2 3 00 -1 a True None" blank=ff:=by
 have e:("none empty any letter then or and not many 0 1 2 3 00 -1 a True None":Str)=Qd blank ff:=by decide+kernel
 rw[e];exact fY (by decide) (by unfold free;decide+kernel)
theorem qy n(hx:0<=x)(ht:t.length<=30000):∃t',t'.length<=4*t.length+30/\∀st,callC Fs (n+1) 10 [.d (.str t),.d (.int x)] st=.ok (.d (.str t')) st:=by
 have iZ:=mR t blank;have BB:=jG iZ;rw[TB] at BB;have tw:∀r,aa (callC Fs n) (.lst Ξ (.split (.var 0))) (Δ (.d (.str t))::r) []=.ok (.d (.pl ((Qm t blank).map .str))) []:=λr=>DN rfl (by omega);generalize Qm t blank=ws at iZ BB tw;have hl0:0 < ws.length:=List.length_pos_iff.mpr iZ;have hll:=m6 ws;have d1:(0:Int) < (ws.length:Int):=by omega
 have d2:(0:Int) < (t.length:Int)+1:=by omega
 have m1:ko .mod (x / 8) (ws.length:Int)=Δ (x / 8 % (ws.length:Int)):=bH d1;have m2:ko .mod (x / 8) ((t.length:Int)+1)=Δ (x / 8 % ((t.length:Int)+1)):=bH d2;obtain⟨a1,a2⟩:=bK (x / 8) d1;obtain⟨b1,b2⟩:=bK (x / 8) d2;obtain⟨k1,k2⟩:=bK x (show(0:Int) < 8 by decide);have go:∀t':Str,t'.length<=4*t.length+30->ai (callC Fs n) (bx.body.drop 4) [Δ (.d (.str t)),Δ (.d (.int x)),Δ (.d (.pl (ws.map .str))),Δ (.d (.int (x / 8 % (ws.length:Int)))),Δ (.d (.int (x / 8 % ((t.length:Int)+1)))),Δ (.d (.int (x % 8))),Θ,Θ,Θ] []=.ok (.rt (.d (.str t'))) []->
   ∃t':Str,t'.length<=4*t.length+30/\∀st,callC Fs (n+1) 10 [.d (.str t),.d (.int x)] st=.ok (.d (.str t')) st:=λt' hl hr=>by
  refine⟨t',hl,λst=>call_of k9 rfl (cb (p:=.d (.str t')) (st:=[]) rfl ?_ rfl)⟩;refine ak (bO (tw _)) ?_;have hlen:yk .len [.d (.str t)] []=Δ (.d (.int t.length)):=by show(if t.length<=aC then _ else _)=_;rw[if_pos (by unfold aC;omega)]
  refine ak (bO (v:=.d (.int (x / 8 % (ws.length:Int)))) (st1:=[]) (by simp[bx,aq,di,m1])) ?_;refine ak (bO (v:=.d (.int (x / 8 % ((t.length:Int)+1)))) (st1:=[]) (by simp[bx,aq,di,m2,hlen])) ?_;exact ak (bO (v:=.d (.int (x % 8))) (st1:=[]) (by simp[bx,aq,bH])) hr
 generalize x / 8 % (ws.length:Int)=a at*;generalize x / 8 % ((t.length:Int)+1)=b at*;by_cases h0:x % 8=0
 ·refine go (Tv t Θ (Δ b)++Tv t (Δ (b+1)) Θ) ?_ (av (bU (st1:=[]) (by simp[h0]) (av (bw ?_))));·have:=Si t Θ (Δ b);have:=Si t (Δ (b+1)) Θ;rw[vm];omega
  ·have:=Si t Θ (Δ b);have:=Si t (Δ (b+1)) Θ;exact CV (CU rfl rfl rfl (by omega)) (CU rfl rfl rfl (by omega)) (by omega)
 have cut:=AF ws;by_cases h3:x % 8 < 3
 ·obtain⟨s1,s2⟩:=bK (x / 7) (show(0:Int) < 12 by decide);have hs:∃s:Str,s.length=1/\j7 (.d (.str " 0123anty-\n\t")) (.d (.int (x / 7 % 12)))=Δ (.d (.str s)):=by
   generalize x / 7 % 12=y at s1 s2;obtain⟨k,rfl⟩:∃k:Nat,y=k:=⟨y.toNat,by omega⟩;have hl:(" 0123anty-\n\t":Str).length=12:=by decide+kernel
   exact Ph (by omega) (by omega)
  obtain⟨s,hs1,wH⟩:=hs;have e6:∀r,aa (callC Fs n) (.tchar (.cst (.str " 0123anty-\n\t")) (.op .mod (.op .fdiv (.var 1) (.cst (.int 7))) (.cst (.int 12)))) (Δ (.d (.str t))::Δ (.d (.int x))::r) []=.ok (.d (.str s)) []:=λr=>by
   have e7:aa (callC Fs n) (.op .mod (.op .fdiv (.var 1) (.cst (.int 7))) (.cst (.int 12))) (Δ (.d (.str t))::Δ (.d (.int x))::r) []=.ok (.d (.int (x / 7 % 12))) []:=by simp[di,bH]
   rw[kI,fA,ag,e7,ag,wH];rfl
  have l1:=Si t Θ (Δ b);have l2:=Si t (Δ (b+x % 8 - 1)) Θ;refine go (Tv t Θ (Δ b)++s++Tv t (Δ (b+x % 8 - 1)) Θ) ?_ (ak (bD (st1:=[]) (by simp[h0]) aA) (av (bU (st1:=[]) (by simp[h3]) (ak (bO (e6 _)) (av (bw ?_))))));·rw[vm,vm];omega
  ·exact CV (CV (CU rfl rfl rfl (by omega)) rfl (by omega)) (CU rfl rfl rfl (by omega)) (by rw[vm];omega)
 have fin:∀(us:List Str) {e:E} {r:cE},aa (callC Fs n) e r []=.ok (.d (.pl (us.map .str))) []->bS us<=4*t.length+30->(Qd blank us).length<=4*t.length+30/\aX (callC Fs n) (.ret (.join (.cst (.str " ")) e)) r []=.ok (.rt (.d (.str (Qd blank us)))) []:=λus e r h hl=>⟨Qj (G7 us) hl,bw (Ha h (by omega))⟩;by_cases h4:x % 8=3;·have c1:=cut Θ (Δ a);have c2:=cut (Δ (a+1)) Θ;obtain⟨q1,q2⟩:=fin (cF ws Θ (Δ a)++cF ws (Δ (a+1)) Θ) (sW (r:=[Δ (.d (.str t)),Δ (.d (.int x)),Δ (.d (.pl (ws.map .str))),Δ (.d (.int a)),Δ (.d (.int b)),Δ (.d (.int (x % 8))),Θ,Θ,Θ]) (a:=.slice (.var 2) Θ (Δ (.var 3))) (b:=.slice (.var 2) (Δ (.op .add (.var 3) (.cst (.int 1)))) Θ) (m7 rfl rfl rfl) (m7 rfl rfl rfl) (by omega)) (by rw[bj];omega);exact go _ q1 (ak (bD (st1:=[]) (by simp[h0]) aA) (ak (bD (st1:=[]) (by simp;omega) aA) (av (bU (st1:=[]) (by simp[h4]) (av q2)))))
 by_cases h5:x % 8=4;·have c1:=cut Θ (Δ a);have c2:=cut (Δ a) (Δ (a+1));have c3:=cut (Δ a) Θ;obtain⟨q1,q2⟩:=fin (cF ws Θ (Δ a)++cF ws (Δ a) (Δ (a+1))++cF ws (Δ a) Θ) (sW (r:=[Δ (.d (.str t)),Δ (.d (.int x)),Δ (.d (.pl (ws.map .str))),Δ (.d (.int a)),Δ (.d (.int b)),Δ (.d (.int (x % 8))),Θ,Θ,Θ]) (a:=.op .add (.slice (.var 2) Θ (Δ (.var 3))) (.slice (.var 2) (Δ (.var 3)) (Δ (.op .add (.var 3) (.cst (.int 1)))))) (b:=.slice (.var 2) (Δ (.var 3)) Θ) (sW (m7 rfl rfl rfl) (m7 rfl rfl rfl) (by omega)) (m7 rfl rfl rfl) (by rw[bj];omega)) (by rw[bj,bj];omega);exact go _ q1 (ak (bD (st1:=[]) (by simp[h0]) aA) (ak (bD (st1:=[]) (by simp;omega) aA) (ak (bD (st1:=[]) (by simp[h4]) aA) (av (bU (st1:=[]) (by simp[h5]) (av q2))))))
 have skip:∀{res},ai (callC Fs n) (bx.body.drop 8) [Δ (.d (.str t)),Δ (.d (.int x)),Δ (.d (.pl (ws.map .str))),Δ (.d (.int a)),Δ (.d (.int b)),Δ (.d (.int (x % 8))),Θ,Θ,Θ] []=res->
   ai (callC Fs n) (bx.body.drop 4) [Δ (.d (.str t)),Δ (.d (.int x)),Δ (.d (.pl (ws.map .str))),Δ (.d (.int a)),Δ (.d (.int b)),Δ (.d (.int (x % 8))),Θ,Θ,Θ] []=res:=λh=>
  ak (bD (st1:=[]) (by simp[h0]) aA) (ak (bD (st1:=[]) (by simp;omega) aA) (ak (bD (st1:=[]) (by simp[h4]) aA) (ak (bD (st1:=[]) (by simp[h5]) aA) h)))
 by_cases h6:x % 8=5
 ·have c1:=cut Θ (Δ a);have c2:=cut (Δ (a+1)) (Δ (a+2));have c3:=cut (Δ a) (Δ (a+1));have c4:=cut (Δ (a+2)) Θ;have w:aa (callC Fs n) (.op .add (.slice (.var 2) (Δ (.op .add (.var 3) (.cst (.int 1)))) (Δ (.op .add (.var 3) (.cst (.int 2))))) (.slice (.var 2) (Δ (.var 3)) (Δ (.op .add (.var 3) (.cst (.int 1)))))) [Δ (.d (.str t)),Δ (.d (.int x)),Δ (.d (.pl (ws.map .str))),Δ (.d (.int a)),Δ (.d (.int b)),Δ (.d (.int (x % 8))),Θ,Θ,Θ] []=.ok (.d (.pl ((cF ws (Δ (a+1)) (Δ (a+2))++cF ws (Δ a) (Δ (a+1))).map .str))) []:=
   sW (m7 rfl rfl rfl) (m7 rfl rfl rfl) (by omega)
  obtain⟨q1,q2⟩:=fin (cF ws Θ (Δ a)++(cF ws (Δ (a+1)) (Δ (a+2))++cF ws (Δ a) (Δ (a+1)))++cF ws (Δ (a+2)) Θ) (sW (r:=[Δ (.d (.str t)),Δ (.d (.int x)),Δ (.d (.pl (ws.map .str))),Δ (.d (.int a)),Δ (.d (.int b)),Δ (.d (.int (x % 8))),Θ,Δ (.d (.pl ((cF ws (Δ (a+1)) (Δ (a+2))++cF ws (Δ a) (Δ (a+1))).map .str))),Θ]) (a:=.op .add (.slice (.var 2) Θ (Δ (.var 3))) (.var 7)) (b:=.slice (.var 2) (Δ (.op .add (.var 3) (.cst (.int 2)))) Θ) (sW (m7 rfl rfl rfl) rfl (by rw[bj];omega)) (m7 rfl rfl rfl) (by rw[bj,bj];omega)) (by rw[bj,bj,bj];omega);exact go _ q1 (skip (av (bU (st1:=[]) (by simp[h6]) (ak (bO w) (av q2)))))
 ·have c1:=cut Θ (Δ a);have c2:=cut (Δ (a+1)) Θ;have w:∀r,aa (callC Fs n) (.lst Ξ (.split (.cst (.str "none empty any letter then or and not many 0 1 2 3 00 -1 a True None")))) r []=.ok (.d (.pl (ff.map .str))) []:=λr=>by have:=DN (C:=callC Fs n) (r:=r) (a:=.cst (.str "none empty any letter then or and not many 0 1 2 3 00 -1 a True None")) (t:="none empty any letter then or and not many 0 1 2 3 00 -1 a True None") rfl (by decide+kernel);rw[x8] at this;exact this
  obtain⟨s1,s2⟩:=bK (x / 7) (show(0:Int) < 18 by decide);obtain⟨s,hs1,wH⟩:∃s:Str,s.length<=6/\jV (ff.map D.str) (x / 7 % 18)=Δ (.str s):=by
   generalize x / 7 % 18=y at s1 s2;obtain⟨k,rfl⟩:∃k:Nat,y=k:=⟨y.toNat,by omega⟩;have hk:k < ff.length:=by rw[show ff.length=18 from rfl];omega
   refine⟨ff[k],?_,ie (by rw[Qa,PV hk];rfl)⟩;have:∀s∈ff,s.length<=6:=by decide+kernel
   exact this _ (Uo hk)
  have w2:aa (callC Fs n) (.lst Ξ (.eP [.ix (.var 8) (.op .mod (.op .fdiv (.var 1) (.cst (.int 7))) (.cst (.int 18)))])) [Δ (.d (.str t)),Δ (.d (.int x)),Δ (.d (.pl (ws.map .str))),Δ (.d (.int a)),Δ (.d (.int b)),Δ (.d (.int (x % 8))),Θ,Θ,Δ (.d (.pl (ff.map .str)))] []=.ok (.d (.pl (([s]:List Str).map .str))) []:=by generalize ff.map D.str=l18 at*;simp[di,bH,wH,aC]
  have e1:bS [s]<=7:=by simp[bS];omega
  obtain⟨q1,q2⟩:=fin (cF ws Θ (Δ a)++[s]++cF ws (Δ (a+1)) Θ) (sW (a:=.op .add (.slice (.var 2) Θ (Δ (.var 3))) (.lst Ξ (.eP [.ix (.var 8) (.op .mod (.op .fdiv (.var 1) (.cst (.int 7))) (.cst (.int 18)))]))) (b:=.slice (.var 2) (Δ (.op .add (.var 3) (.cst (.int 1)))) Θ) (sW (m7 rfl rfl rfl) w2 (by omega)) (m7 rfl rfl rfl) (by rw[bj];omega)) (by rw[bj,bj];omega);exact go _ q1 (skip (ak (bD (st1:=[]) (by simp[h6]) aA) (ak (bO (w _)) (av q2))))
theorem CW(h:dA aK nm=Δ j):32∉nm.cps.toList/\nm.length<=5/\j<=2:=by
 by_cases h1:nm="none";·subst h1;exact⟨by decide+kernel,by decide+kernel,by simp[show dA aK "none"=Δ 0 by decide+kernel] at h;omega⟩
 by_cases h2:nm="empty";·subst h2;exact⟨by decide+kernel,by decide+kernel,by simp[show dA aK "empty"=Δ 0 by decide+kernel] at h;omega⟩
 by_cases h3:nm="any";·subst h3;exact⟨by decide+kernel,by decide+kernel,by simp[show dA aK "any"=Δ 0 by decide+kernel] at h;omega⟩
 by_cases h4:nm="then";·subst h4;exact⟨by decide+kernel,by decide+kernel,by simp[show dA aK "then"=Δ 2 by decide+kernel] at h;omega⟩
 by_cases h5:nm="or";·subst h5;exact⟨by decide+kernel,by decide+kernel,by simp[show dA aK "or"=Δ 2 by decide+kernel] at h;omega⟩
 by_cases h6:nm="and";·subst h6;exact⟨by decide+kernel,by decide+kernel,by simp[show dA aK "and"=Δ 2 by decide+kernel] at h;omega⟩
 by_cases h7:nm="not";·subst h7;exact⟨by decide+kernel,by decide+kernel,by simp[show dA aK "not"=Δ 1 by decide+kernel] at h;omega⟩
 by_cases h8:nm="many";·subst h8;exact⟨by decide+kernel,by decide+kernel,by simp[show dA aK "many"=Δ 1 by decide+kernel] at h;omega⟩
 simp only[aK,dA,h1,h2,h3,h4,h5,h6,h7,h8,if_false] at h;cases h
theorem AH(h:0<=i/\i < 3):32∉(num i).cps.toList:=by
 have a:i=0\/i=1\/i=2:=by omega
 rcases a with rfl|rfl|rfl<;>decide+kernel
theorem sX:∀{xs},(∀y∈xs,free (wd y))->free (lg xs)
 |[],_=>by rw[el];exact λ_ h=>nomatch h|x::xs,h=>by
  rw[bQ];intro p hp;rcases List.mem_append.mp hp with z|z;·exact h x PC p z
  ·exact sX (λy hy=>h y (Pz _ hy)) p z
theorem AI:∀{xs},(∀y∈xs,sm y=Λ)->G3 xs=Λ
 |[],_=>rfl|x::xs,h=>by simp only[G3,h x PC,AI λy hy=>h y (Pz _ hy),Bool.and_self]
theorem AJ:∀{xs},(∀y∈xs,iK y<=k)->jm xs<=k
 |[],_=>QH _|x::xs,h=>by rw[lB];exact Nat.max_le.mpr ⟨h x PC,AJ λy hy=>h y (Pz _ hy)⟩
def wB:Nat->Nat
 |0=>0|k+1=>2*wB k+9
theorem DO:∀{xs},(∀y∈xs,bS (wd y)<=k)->bS (lg xs)<=xs.length*k
 |[],_=>by rw[el];exact QH _|x::xs,h=>by have h1:=h x PC;have h2:=DO λy hy=>h y (Pz _ hy);rw[bQ,bj,PU,Nat.succ_mul];omega
theorem jH(hw:w<=3):∀(m) (x),pat m w x=Λ->free (wd x)/\sm x=Λ/\iK x<=m/\bS (wd x)<=wB m
 |0,x,h=>by cases h|m+1,x,h=>by
  obtain⟨j,e,h'⟩:=cL hw h;cases e;rcases h' with ⟨i,rfl,h0,h1⟩|⟨nm,xs,rfl,hn,hk,hx⟩
  ·have e1:wd (.tup [.str "letter",.int i])=[("letter":Str),num i]:=by simp[wd,lg]
   have l1:("letter":Str).length=6:=by decide+kernel
   have l2:=CS (i:=i) ⟨h0,by omega⟩;rw[e1];refine⟨λp hp=>?_,rfl,by rw[zT,lB,lB];exact Nat.succ_le_succ (QH _),?_⟩
   ·rcases Ub.mp hp with rfl|hp;·decide+kernel
    ·rcases Ub.mp hp with rfl|hp;·exact AH ⟨h0,by omega⟩
     ·cases hp
   ·simp only[bS,Qq,Ts,U1,List.sum_nil,PU,UK,l1,l2,wB];omega
  ·obtain⟨f1,f2,f3⟩:=CW hk;have hl:xs.length<=2:=by omega
   have ih:=λy hy=>jH hw m y (hx y hy);rw[cK];refine⟨λp hp=>?_,?_,?_,?_⟩
   ·rcases Ub.mp hp with rfl|hp;·exact f1
    ·exact sX (λy hy=>(ih y hy).1) p hp
   ·have:sm (.tup (.str nm::xs))=(decide ((D.str nm::xs).length<=1000)&&(sm (.str nm)&&G3 xs)):=rfl;rw[this,AI λy hy=>(ih y hy).2.1,decide_eq_true (by simp;omega)];rfl
   ·rw[zT,lB];have:=AJ λy hy=>(ih y hy).2.2.1;exact Nat.succ_le_succ (Nat.max_le.mpr ⟨QH _,this⟩)
   ·have h2:=DO λy hy=>(ih y hy).2.2.2;have h3:bS (nm::lg xs)=bS [nm]+bS (lg xs):=bj [nm] _;have h4:bS [nm]=nm.length+1:=by simp[bS]
    have h5:xs.length*wB m<=2*wB m:=Nat.mul_le_mul_right _ hl;rw[h3,h4];show _<=2*wB m+9;omega
mutual
theorem AK:∀x:D,l9 x x=Λ
 |.aU=>rfl|.bl a=>by rw[Fb];simp|.int i=>by rw[E9];simp|.str s=>by rw[Fc];simp|.tup xs=>by rw[Fd];exact qz xs|.pl xs=>qz xs
theorem qz:∀xs:List D,eB xs xs=Λ
 |[]=>rfl|x::xs=>by rw[BX,AK x,qz xs];rfl
end
noncomputable def gQ:Nat->D
 |0=>.tup [.str "letter",.int 0]|k+1=>.tup [.str "many",gQ k]
noncomputable def gR(k:Nat):List Str:=Qo k ("many":Str)++[("letter":Str),("0":Str)]
theorem qA:∀k,wd (gQ k)=gR k
 |0=>by
  have e:num 0="0":=by decide+kernel
  show wd (.tup [.str "letter",.int 0])=_;simp only[wd,lg,e];rfl
 |k+1=>by have:=qA k;show wd (.tup [.str "many",gQ k])=_;rw[cK,bQ,el,this,QK];rfl
theorem m8(hw:1<=w):∀k,pat (k+1) w (gQ k)=Λ
 |0=>G4 (by decide) (by omega)|k+1=>CP (by decide+kernel) (m8 hw k)
theorem wm:∀k m,pat m w (gQ k)=Λ->k < m
 |_,0,h=>by cases h|0,m+1,h=>Nat.succ_pos _|k+1,m+1,h=>by simp only[pat,Pw,Ri] at h;have:=wm k m (h.2 (gQ k) (by show gQ k∈kids (.tup [.str "many",gQ k]);simp only[kids];rw[if_neg (by decide+kernel)];simp));omega
theorem x9 k:free (gR k):=λp hp=>by
 rcases List.mem_append.mp hp with z|z;·rw[List.eq_of_mem_replicate z];decide+kernel
 ·simp at z;rcases z with rfl|rfl<;>decide+kernel
theorem join_cons x(h:r≠[]):(Qd blank (x::r)).cps.toList=x.cps.toList++32::(Qd blank r).cps.toList:=by cases r with|nil=>exact absurd rfl h|cons y r=>exact o8 x y r
theorem qB k:gR k≠[]:=by simp[gR]
theorem sY:∀k,(Qd blank (gR k)).cps.toList=(Qo k ("many ":Str).cps.toList).flatten++("letter 0":Str).cps.toList
 |0=>by decide+kernel|k+1=>by
  have e:gR (k+1)=("many":Str)::gR k:=rfl;have e2:("many ":Str).cps.toList=("many":Str).cps.toList++[32]:=by decide+kernel
  rw[e,join_cons _ (qB k),sY k,Tn,List.flatten_cons,e2];simp
theorem sZ x:∀(k:Nat) (a:Array Nat),(S6 (λx1 x2=>x1++x2) a (Qo k x)).toList=a.toList++(Qo k x.toList).flatten
 |0,a=>by simp|k+1,a=>by rw[Tn,List.foldl_cons,sZ x k,Tn,List.flatten_cons,Array.toList_append];simp
theorem CY x(k:Nat):(Vd x (k:Int)).cps.toList=(Qo k x.cps.toList).flatten:=by
 unfold Vd;split
 ·have:k=0:=by omega
  subst this;rfl
 ·split
  ·rename_i h1 h2;simp only[Th,beq_iff_eq] at h2;rcases h2 with h2|h2
   ·have:k=1:=by omega
    subst this;simp
   ·have:x.cps.toList=[]:=by apply List.eq_nil_of_length_eq_zero;simpa[Uz] using h2
    rw[this];induction k with|zero=>rfl|succ k ih=>simp
  ·simp only[T5];rw[sZ];simp
theorem AL(k:Nat):Vd "many " (k:Int)++"letter 0"=Qd blank (gR k):=str_inj (by rw[qr,CY,sY])
theorem CZ k:bS (gR k)=5*k+9:=by
 have e1:bS (["letter","0"]:List Str)=9:=by decide+kernel
 have e2:∀k,bS (Qo k ("many":Str))=5*k:=λk=>by
  have l1:("many":Str).length=4:=by decide+kernel
  simp[bS,l1];omega
 show bS (Qo k _++_)=_;rw[bj,e1,e2]
def gT:Nat->Nat
 |0=>140|k+1=>4*gT k+30
theorem Lh(h:k<=4):gT k<=79000:=by
 have:∀j,j < 5->gT j<=79000:=by decide+kernel
 exact this k (by omega)
theorem Li(h:k < 4):gT k<=30000:=by
 have:∀j,j < 4->gT j<=30000:=by decide+kernel
 exact this k h
theorem C0(h: -dX<=c/\c < dX):jo [.d (.int c)]=Δ (eE 0 c):=by
 have e:jo [.d (.int c)]=if -dX<=c/\c < dX then Δ (eE 0 c) else Θ:=rfl
 rw[e,if_pos h]
theorem eq_self(hw:w<=3)(h:pat m w d=Λ)(hm:m<=41):nu d d=Δ Λ:=by have:=(jH hw m d h).2.2.1;unfold nu;rw[if_pos (by omega),AK]
theorem wo(hw:w<=3)(h:pat m w d=Λ):eR (.d d)=Ξ:=by obtain⟨_,_,⟨i,rfl,_⟩|⟨nm,zs,rfl,_⟩⟩:=cL hw h<;>rfl
theorem AM(hw:1<=w/\w<=3){k:Nat}(hk:k < 150):
  ai (callC Fs 59) [.set 3 (.op .add (.pU (.cst (.str "many ")) (.var 5)) (.cst (.str "letter 0"))),
  .set 6 (.call 11 [.var 3,.var 1]),
  .ret (.and [.cmp .eq (.cmp .nN (.var 6) (.cst .aU)) (.cmp .lt (.var 5) (.cst (.int 41))),.or [.cmp .xr (.var 6) (.cst .aU),.cmp .eq (.call 9 [.var 6]) (.var 3)]])]
  [Δ (.dw ns),Δ (.d (.int w)),Δ (.d d),Δ (.d (.str x)),Δ (.d (.int y)),Δ (.d (.int (k:Int))),Θ,Θ] []=.ok (.rt (.d (.bl Λ))) []:=by
 have BB:=CZ k;have Hm:=jG (qB k);have tw:=fY (qB k) (x9 k);have et:=AL k;have e1:aa (callC Fs 59) (.op .add (.pU (.cst (.str "many ")) (.var 5)) (.cst (.str "letter 0"))) [Δ (.dw ns),Δ (.d (.int w)),Δ (.d d),Δ (.d (.str x)),Δ (.d (.int y)),Δ (.d (.int (k:Int))),Θ,Θ] []=.ok (.d (.str (Qd blank (gR k)))) []:=by
  have em:aa (callC Fs 59) (.pU (.cst (.str "many ")) (.var 5)) [Δ (.dw ns),Δ (.d (.int w)),Δ (.d d),Δ (.d (.str x)),Δ (.d (.int y)),Δ (.d (.int (k:Int))),Θ,Θ] []=.ok (.d (.str (Vd "many " (k:Int)))) []:=by
   have l1:("many ":Str).length<=1000:=by decide+kernel
   have e:rP (.d (.str "many ")) (.d (.int (k:Int)))=Δ (.d (.str (Vd "many " (k:Int)))):=if_pos ⟨by omega,by omega,l1⟩;rw[uJ,fA,ag];show(R.of (rP (.d (.str "many ")) (.d (.int (k:Int)))) [])=_;rw[e];rfl
  rw[<-et] at Hm ⊢;rw[vm] at Hm;exact CV em rfl (by omega)
 refine ak (bO e1) ?_;generalize ht:Qd blank (gR k)=t at Hm tw ⊢;have KP:∀{v:P},ai (callC Fs 59) [.ret (.and [.cmp .eq (.cmp .nN (.var 6) (.cst .aU)) (.cmp .lt (.var 5) (.cst (.int 41))),.or [.cmp .xr (.var 6) (.cst .aU),.cmp .eq (.call 9 [.var 6]) (.var 3)]])] [Δ (.dw ns),Δ (.d (.int w)),Δ (.d d),Δ (.d (.str t)),Δ (.d (.int y)),Δ (.d (.int (k:Int))),Δ v,Θ] []=.ok (.rt (.d (.bl Λ))) []->
   (∀st,callC Fs 59 11 [.d (.str t),.d (.int w)] st=.ok v st)->ai (callC Fs 59) [.set 6 (.call 11 [.var 3,.var 1]),
  .ret (.and [.cmp .eq (.cmp .nN (.var 6) (.cst .aU)) (.cmp .lt (.var 5) (.cst (.int 41))),.or [.cmp .xr (.var 6) (.cst .aU),.cmp .eq (.call 9 [.var 6]) (.var 3)]])] [Δ (.dw ns),Δ (.d (.int w)),Δ (.d d),Δ (.d (.str t)),Δ (.d (.int y)),Δ (.d (.int (k:Int))),Θ,Θ] []=.ok (.rt (.d (.bl Λ))) []:=λh hc=>
  ak (bO (by simp[hc])) h
 rcases mZ 13 hw (t:=t) (by omega) with ⟨d',h1,h2,h3⟩|⟨h1,h3⟩
 ·refine KP ?_ h3;rw[tw] at h2;have h4:d'=gQ k:=(mY hw.2 41 (k+1) d' (gQ k) [] [] h1 (m8 hw.1 k) (by rw[h2,qA])).1;have h5:k < 41:=wm k 41 (h4▸h1);have h6:(k:Int) < 41:=by omega
  have h7:∀st,callC Fs 59 9 [.d d'] st=.ok (.d (.str t)) st:=λst=>by have:=cT hw.2 41 18 d' h1 (by rw[h2];omega) st;rw[h2,ht] at this;exact this
  exact av (bw (by simp[wo hw.2 h1,h6,h7]))
 ·refine KP ?_ h3;have h5:¬k < 41:=λz=>h1 (gQ k) (ph (m8 hw.1 k) (by omega)) (by rw[tw,qA]);have h6:¬(k:Int) < 41:=by omega
  exact av (bw (by simp[eR,h6]))
theorem last_run(hw:1<=w/\w<=3)(hd:pat 4 w d=Λ)(ht:t.length<=100000)(ht2:t.length<=79000):
  ai (callC Fs 59) (gP.body.drop 6) [Δ (.dw ns),Δ (.d (.int w)),Δ (.d d),Δ (.d (.str t)),Δ (.d (.int y)),u,Θ,v] []=.ok (.rt (.d (.bl Λ))) []:=by
 obtain⟨a1,a2,a3,a4⟩:=jH hw.2 4 d hd;have b4:wB 4<=1000:=by decide
 have Lj:∀st,callC Fs 59 9 [.d d] st=.ok (.d (.str (Qd blank (wd d)))) st:=λst=>cT hw.2 4 55 d hd (by omega) st;have HN:Qd blank (Qm t blank)=t:=TB _ _;have BB:=jG (mR t blank);rw[HN] at BB;rcases mZ 13 hw ht with ⟨d',h1,h2,h3⟩|⟨h1,h3⟩
 ·have l1:∀st,callC Fs 59 8 [.d d',.d (.int w),.d (.int 0)] st=.ok (.d (.bl Λ)) st:=λst=>by have:=pf w 41 0 (by decide) 16 d' st (jH hw.2 41 d' h1).2.1;rw[h1] at this;exact this
  refine ak (bO (v:=.d d') (st1:=[]) (by simp[h3])) ?_;by_cases he:t=Qd blank (wd d)
  ·have hdd:d'=d:=by rw[he,fY (sU hw.2 hd) a1] at h2;exact(mY hw.2 41 4 d' d [] [] h1 hd (by rw[h2])).1
   subst hdd;refine av (bU (st1:=[]) (by simp[Lj,<-he]) (av (bw ?_)));simp[eq_self hw.2 hd (by decide),l1]
  ·refine ak (bD (st1:=[]) (by simp[Lj,he]) aA) ?_;have hw2:∀st,callC Fs 59 9 [.d d'] st=.ok (.d (.str t)) st:=λst=>by have:=cT hw.2 41 18 d' h1 (by rw[h2];omega) st;rw[h2,HN] at this;exact this
   exact av (bw (by simp[wo hw.2 h1,l1,hw2]))
 ·refine ak (bO (v:=.d .aU) (st1:=[]) (by simp[h3])) ?_;by_cases he:t=Qd blank (wd d);·exact absurd (by rw[he,fY (sU hw.2 hd) a1]) (h1 d (ph hd (by decide)))
  ·refine ak (bD (st1:=[]) (by simp[Lj,he]) aA) ?_;exact av (bw (by simp[eR]))
theorem AN{c:Nat}(hc:c<=4)(h0:t0.length<=140):∃t u,t.length<=79000/\forL (me (.nm 7)) (ai (callC Fs 59) qt) (eE 0 (c:Int)) [Δ (.dw ns),Δ (.d (.int w)),Δ (.d d),Δ (.d (.str t0)),Δ (.d (.int x)),Θ,Θ,Θ] []=
  .ok (.nx [Δ (.dw ns),Δ (.d (.int w)),Δ (.d d),Δ (.d (.str t)),Δ (.d (.int x)),Θ,Θ,u]) []:=by
 have hlen:(eE 0 (c:Int)).length=c:=by unfold eE;simp
 have Pj:∀i p,(eE 0 (c:Int))[i]?=Δ p->i < c/\p=.d (.int (i:Int)):=λi p h=>by unfold eE at h;rw[Qa] at h;obtain⟨j,e1,e2⟩:=Option.map_eq_some_iff.mp h;obtain⟨e3,e4⟩:=qqz e1;rw[List.getElem_range] at e4;rw[Ro] at e3;subst e4;exact⟨by omega,by rw[<-e2,Int.zero_add]⟩
 obtain⟨r',bI,hf,⟨t,u,hi,e1,e2⟩⟩:=sG (g:=me (.nm 7)) (b:=ai (callC Fs 59) qt) (I:=λi r st=>∃t u,t.length<=gT i/\r=[Δ (.dw ns),Δ (.d (.int w)),Δ (.d d),Δ (.d (.str t)),Δ (.d (.int x)),Θ,Θ,u]/\st=[])
  (ps:=eE 0 (c:Int)) (k:=0) (r:=[Δ (.dw ns),Δ (.d (.int w)),Δ (.d d),Δ (.d (.str t0)),Δ (.d (.int x)),Θ,Θ,Θ]) (st:=[])
  (λi p r st hI hp=>by
   obtain⟨t,u,h1,rfl,rfl⟩:=hI;obtain⟨hi,rfl⟩:=Pj i p hp;rw[Tq] at h1;have hg:=Li (k:=i) (by omega);obtain⟨t',h2,h3⟩:=qy 58 (t:=t) (sP x i).1 (by omega);refine⟨_,[Δ (.dw ns),Δ (.d (.int w)),Δ (.d d),Δ (.d (.str t')),Δ (.d (.int x)),Θ,Θ,Δ (.d (.int (i:Int)))],[],rfl,?_,t',_,?_,rfl,rfl⟩;·have hd:∀st,callC Fs 59 3 [.d (.int x),.d (.int (i:Int))] st=.ok (.d (.int (drawn x i))) st:=λst=>eK 58 x i st;exact ak (bO (v:=.d (.str t')) (st1:=[]) (by simp[hd,h3])) aA
   ·rw[Tq];show _<=4*gT i+30;omega)
  ⟨t0,Θ,h0,rfl,rfl⟩
 subst e1 e2;rw[hlen,Tq] at hi;have:=Lh hc;exact⟨t,u,by omega,hf⟩
theorem AO ns(NM:ns.length<=63):callC Fs 60 12 [.dw ns] []=.ok (.d (.bl Λ)) []:=by
 refine call_of (n:=59) G2 rfl (cb (p:=.d (.bl Λ)) (st:=[]) rfl ?_ rfl);obtain⟨w1,w2⟩:=bK (mixed ns 0) (show(0:Int) < 3 by decide);have hw:(1:Int)<=1+mixed ns 0 % 3/\1+mixed ns 0 % 3<=3:=by omega
 have m0:∀st,callC Fs 59 2 [.dw ns,.d (.int 0)] st=.ok (.d (.int (mixed ns 0))) st:=λst=>iX 57 ns 0 (by decide) st;have m1:∀st,callC Fs 59 2 [.dw ns,.d (.int 1)] st=.ok (.d (.int (mixed ns 1))) st:=λst=>iX 57 ns 1 (by decide) st;have m2:∀st,callC Fs 59 2 [.dw ns,.d (.int 2)] st=.ok (.d (.int (mixed ns 2))) st:=λst=>iX 57 ns 2 (by decide) st;refine ak (bO (v:=.d (.int (1+mixed ns 0 % 3))) (st1:=[]) (by simp[aq,gP,m0,bH])) ?_;generalize 1+mixed ns 0 % 3=w at hw ⊢;obtain⟨d,pd,q0⟩:=qw (mixed ns 1) w hw;obtain⟨a1,a2,a3,a4⟩:=jH hw.2 4 d pd;have b4:wB 4=135:=by decide
 have Lj:∀st,callC Fs 59 9 [.d d] st=.ok (.d (.str (Qd blank (wd d)))) st:=λst=>cT hw.2 4 55 d pd (by omega) st;have hj:=jG (sU hw.2 pd);refine ak (bO (v:=.d d) (st1:=[]) (by simp[aq,gP,m1,q0 54])) ?_;refine ak (bO (v:=.d (.str (Qd blank (wd d)))) (st1:=[]) (by simp[aq,gP,Lj])) ?_;generalize Qd blank (wd d)=t0 at hj;have hx0:0<=mixed ns 2:=(sN ns 2).1;refine ak (bO (v:=.d (.int (mixed ns 2))) (st1:=[]) (by simp[aq,gP,m2])) ?_;generalize mixed ns 2=x at hx0;by_cases h9:x % 9=4
 ·obtain⟨k,hk,Dt⟩:∃k:Nat,k < 150/\jV [D.int (x / 9 % 150),.int (37+x / 9 % 7)] (x / 63 % 2)=Δ (.int (k:Int)):=by
   obtain⟨s1,s2⟩:=bK (x / 9) (show(0:Int) < 150 by decide);obtain⟨s3,s4⟩:=bK (x / 9) (show(0:Int) < 7 by decide);have hc:x / 63 % 2=0\/x / 63 % 2=1:=by omega
   rcases hc with e|e<;>rw[e];·exact⟨(x / 9 % 150).toNat,by omega,by rw[Pc,Int.toNat_of_nonneg s1]⟩
   ·exact⟨(37+x / 9 % 7).toNat,by omega,by rw[Pd,Int.toNat_of_nonneg (by omega)]⟩
  refine av (bU (st1:=[]) (by simp[aq,gP,bH,h9]) (ak (bO (v:=.d (.int (k:Int))) (st1:=[]) (by simp[aq,gP,di,bH,aC,Dt])) ?_));exact AM hw hk
 ·refine ak (bD (st1:=[]) (by simp[aq,gP,bH,h9]) aA) ?_;obtain⟨c,hc,Ej⟩:∃c:Nat,c<=4/\x / 9 % 3*(1+x / 27 % 2)=(c:Int):=by
   have h1:x / 9 % 3=0\/x / 9 % 3=1\/x / 9 % 3=2:=by omega
   have h2:x / 27 % 2=0\/x / 27 % 2=1:=by omega
   rcases h1 with e|e|e<;>rcases h2 with e'|e'<;>rw[e,e'];·exact⟨0,by decide,rfl⟩
   ·exact⟨0,by decide,rfl⟩
   ·exact⟨1,by decide,rfl⟩
   ·exact⟨2,by decide,rfl⟩
   ·exact⟨2,by decide,rfl⟩
   ·exact⟨4,by decide,rfl⟩
  have M0:ko .mul (x / 9 % 3) (1+x / 27 % 2)=Δ (c:Int):=by rw[dZ (.inl ⟨by unfold iw;omega,by unfold iw;omega⟩),Ej]
  have hr:jo [.d (.int (c:Int))]=Δ (eE 0 (c:Int)):=C0 ⟨by unfold dX;omega,by unfold dX;omega⟩;obtain⟨t,u,hi,hf⟩:=AN (w:=w) (x:=x) (ns:=ns) (d:=d) (t0:=t0) hc (by omega);have e1:aa (callC Fs 59) (.op .mod (.op .fdiv (.var 4) (.cst (.int 9))) (.cst (.int 3))) [Δ (.dw ns),Δ (.d (.int w)),Δ (.d d),Δ (.d (.str t0)),Δ (.d (.int x)),Θ,Θ,Θ] []=.ok (.d (.int (x / 9 % 3))) []:=by simp[di,bH]
  have e2:aa (callC Fs 59) (.op .add (.cst (.int 1)) (.op .mod (.op .fdiv (.var 4) (.cst (.int 27))) (.cst (.int 2)))) [Δ (.dw ns),Δ (.d (.int w)),Δ (.d d),Δ (.d (.str t0)),Δ (.d (.int x)),Θ,Θ,Θ] []=.ok (.d (.int (1+x / 27 % 2))) []:=by simp[di,bH]
  have e3:aa (callC Fs 59) (.op .mul (.op .mod (.op .fdiv (.var 4) (.cst (.int 9))) (.cst (.int 3))) (.op .add (.cst (.int 1)) (.op .mod (.op .fdiv (.var 4) (.cst (.int 27))) (.cst (.int 2))))) [Δ (.dw ns),Δ (.d (.int w)),Δ (.d d),Δ (.d (.str t0)),Δ (.d (.int x)),Θ,Θ,Θ] []=.ok (.d (.int (c:Int))) []:=by rw[gD,e1,ag,e2,ag,K5,M0];rfl
  have ew:b7 (callC Fs 59) (.gd [.op .mul (.op .mod (.op .fdiv (.var 4) (.cst (.int 9))) (.cst (.int 3))) (.op .add (.cst (.int 1)) (.op .mod (.op .fdiv (.var 4) (.cst (.int 27))) (.cst (.int 2))))]) [Δ (.dw ns),Δ (.d (.int w)),Δ (.d d),Δ (.d (.str t0)),Δ (.d (.int x)),Θ,Θ,Θ] []=.ok (eE 0 (c:Int)) []:=by rw[hJ,aY,e3,ag,aP,ag,l6,ag,hr];rfl
  exact ak (wa ew hf) (last_run hw pd (by omega) hi)
end Lb
namespace Lb
open PySem L2 Y
noncomputable def top(i:Nat):Stmt:=PySem.Challenge.pw_wordyard_k04_whole_read.main.body.getD i (.Pass ⟨0,0,0,0⟩)
noncomputable def wq(j:Nat):Stmt->Stmt
 |.ClassDef _ _ _ body _ _ _ _ _ _ _=>body.getD j (.Pass ⟨0,0,0,0⟩)|_=>.Pass ⟨0,0,0,0⟩
abbrev AQ:Stmt:=top 8
def Hb:Info:=⟨"read",AQ,["text","wide","reader","pattern"],["text","wide"],mS⟩
abbrev gS:Stmt:=top 10
def m9:Info:=⟨"_law_cell_at",gS,["_law_script","_law_k"],["_law_script","_law_k"],cc⟩
abbrev jI:Stmt:=top 11
def qC:Info:=⟨"_law_mixed",jI,["_law_script","_law_k","_law_drawn_here"],["_law_script","_law_k"],dj⟩
abbrev jJ:Stmt:=top 12
def qD:Info:=⟨"_law_drawn",jJ,["_law_number_here","_law_k","_law_drawn_here"],["_law_number_here","_law_k"],dk⟩
abbrev kO:Stmt:=top 13
def ti:Info:=⟨"_law_leaf",kO,["_law_number_here","_law_wide","_law_kind"],["_law_number_here","_law_wide"],bW⟩
abbrev kP:Stmt:=top 14
def tj:Info:=⟨"_law_part",kP,["_law_number_here","_law_wide","_law_deep","_law_kind","_law_one","_law_other"],["_law_number_here","_law_wide","_law_deep"],bt⟩
abbrev gU:Stmt:=top 15
def ng:Info:=⟨"_law_pattern",gU,["_law_number_here","_law_wide","_law_one","_law_kind"],["_law_number_here","_law_wide"],bP⟩
abbrev iE:Stmt:=top 16
def nW:Info:=⟨"_law_number",iE,["_law_thing","_law_high"],["_law_thing","_law_high"],cA⟩
abbrev eU:Stmt:=top 17
def jK:Info:=⟨"_law_is_pattern",eU,["_law_thing","_law_wide","_law_deep"],["_law_thing","_law_wide","_law_deep"],af⟩
abbrev gW:Stmt:=top 18
def nh:Info:=⟨"_law_written",gW,["_law_pattern_here","_law_found_here","_law_part_here"],["_law_pattern_here"],cI⟩
abbrev gX:Stmt:=top 19
def ni:Info:=⟨"_law_changed",gX,["_law_text","_law_number_here","_law_words","_law_at","_law_place","_law_kind","_law_sign","_law_swapped","_law_some"],["_law_text","_law_number_here"],bx⟩
abbrev jL:Stmt:=top 20
def jM:Info:=⟨"_law_found",jL,["_law_text","_law_wide","_law_found_here","e","_law_good"],["_law_text","_law_wide"],ef⟩
abbrev DP:Stmt:=top 21
def Lk:Info:=⟨"law",DP,["_law_script","_law_wide","_law_pattern_here","_law_text","_law_number_here","_law_deep","_law_found_here","_law_k"],["_law_script"],gP⟩
abbrev eV:Stmt:=wq 0 (top 7)
def jN:Info:=⟨"Reader.__init__",eV,["self","text","wide"],["self","text","wide"],bJ⟩
abbrev gY:Stmt:=wq 1 (top 7)
def nj:Info:=⟨"Reader.taken",gY,["self"],["self"],cJ⟩
abbrev gc:Stmt:=wq 2 (top 7)
def lh:Info:=⟨"Reader.letter",gc,["self","word","number"],["self"],cw⟩
abbrev fG:Stmt:=wq 3 (top 7)
def kn:Info:=⟨"Reader.pattern",fG,["self","others","name"],["self","others"],ax⟩
def tx:TX:={is:=[(Hb,[]),(m9,[]),(qC,[]),(qD,[]),(ti,[]),(tj,[]),(ng,[]),(nW,[]),(jK,[]),(nh,[]),(ni,[]),(jM,[]),(Lk,[]),(jN,[]),(nj,[]),(lh,[]),(kn,[])],cis:=[],cs:=[("MOST_OTHERS",40)],ts:=[("PARTS",aK)],nf:=13,ks:=[{name:="Reader",GF:=["words","place","wide"],Au:=[("__init__",13),("taken",14),("letter",15),("pattern",16)]}],Ks:=[11],rs:=["NoText"]}
theorem is_Fs:tx.Fs=Fs:=rfl
theorem oY:DK tx=Λ:=by decide+kernel
noncomputable def bmV:List Value:=[.type "ValueError",.type "Exception",.type "BaseException",.type "object"]
section
variable{P:Qr}{w:World}{K:PD}{mg:Str->Option Value}{tabs:List (Addr×List (Pos×Str))}{a:Nat->Addr}{fd:Nat->Rn}
theorem C1(T:nS C K mg tx tabs a fd)(mC:mg "NoText"=Δ (.ref C))(mU:mg "YardError"=Δ (.ref U))(mV:mg "NoPattern"=Δ (.ref V'))(mB:mg "ValueError"=Θ)(hx:TH K (.ref C) (.ref C)=Δ Λ)(i1:Qw K (.ref C) (.ref U)=Δ Λ)(i2:Qw K (.ref C) (.type "ValueError")=Δ Λ)(i3:Qw K (.ref C) (.ref V')=Δ Ξ)(G:gy K C)(hD:(T9 K C).isSome=Λ):sF C P w K mg tx tabs a fd:=by
 intro n base D k i hi hk;have hk:k=11:=by have:k∈[11]:=List.contains_iff_mem.mp hk;simpa using this
 subst hk;cases hi;exact Aw (U:=U) (V':=V') (tn:="ValueError") (ei:=2) (ix:=3) (ig:=4) T D (k:=11) (i:=(jM,[])) rfl rfl rfl rfl rfl rfl (by decide+kernel) (by decide+kernel) (λ_=>rfl) rfl (by decide+kernel) hx mC (by decide+kernel) rfl (by decide+kernel) rfl (by decide+kernel) (by decide+kernel) (by decide+kernel) (by decide+kernel) mU (by decide+kernel) mV (by decide+kernel) mB rfl i1 i2 i3 G hD (by decide+kernel) (by decide+kernel) (by decide+kernel) (by decide+kernel) (by decide+kernel) (by decide+kernel)
end
def tpK(K:PD)(x:Str):Addr:=((RM K x).map (·.2)).getD 0
theorem Pk(h:(RM K x).map (·.1)=Δ c):RM K x=Δ (c,tpK K x):=by unfold tpK;cases e:RM K x with|none=>rw[e] at h;cases h|some p=>rw[e] at h;cases h;rfl
noncomputable def xs:List Str:=[]
noncomputable def Pl:List (List (Pos×Str)):=[]
def nk(pt:List (Addr×Addr)):List (Addr×List (Pos×Str)):=(pt.zip Pl).map λp=>(p.1.2,p.2)
set_option maxHeartbeats 0 in
theorem all_mk{l:UJ}{w:World}{K:PD}{h:Heap}{mg:Str->Option Value}{fa f0 f1 f2 f3 f4 f5 f6 f7 f8 f9 Pm Pn f12 Mt Mu Mv Mw bR:Addr}{d0 d1 d2 d3 d4 d5 d6 d7 d8 d9 d10 d11 Mx d13 d14 d15 d16:Rn}(X:K.In h)(G:h.Ns PL mg)(hfa:mg "law"=Δ (.ref fa))
  (tm:PN K PL "Reader"=Δ (Δ (.ref bR)))
  (ya:Sj K bR Str.empty=Λ)
  (yb:SJ K bR=Λ)
  (yc:TY K bR=Λ)
  (yd:Qi K (.ref bR) "__setattr__"=Δ (Δ (.builtin "object.__setattr__")))
  (ye:UI K bR=Λ)
  (yf:Rz K (.ref bR)=Λ)
  (nq:Qi K (.ref bR) "words"=Δ Θ)
  (nr:Qi K (.ref bR) "place"=Δ Θ)
  (nX:Qi K (.ref bR) "wide"=Δ Θ)
  (a0:PN K PL "read"=Δ (Δ (.ref f0)))
  (F0:nt K "read" "read" AQ f0 d0)
  (a1:PN K PL "_law_cell_at"=Δ (Δ (.ref f1)))
  (F1:nt K "_law_cell_at" "_law_cell_at" gS f1 d1)
  (a2:PN K PL "_law_mixed"=Δ (Δ (.ref f2)))
  (F2:nt K "_law_mixed" "_law_mixed" jI f2 d2)
  (a3:PN K PL "_law_drawn"=Δ (Δ (.ref f3)))
  (F3:nt K "_law_drawn" "_law_drawn" jJ f3 d3)
  (a4:PN K PL "_law_leaf"=Δ (Δ (.ref f4)))
  (F4:nt K "_law_leaf" "_law_leaf" kO f4 d4)
  (a5:PN K PL "_law_part"=Δ (Δ (.ref f5)))
  (F5:nt K "_law_part" "_law_part" kP f5 d5)
  (a6:PN K PL "_law_pattern"=Δ (Δ (.ref f6)))
  (F6:nt K "_law_pattern" "_law_pattern" gU f6 d6)
  (a7:PN K PL "_law_number"=Δ (Δ (.ref f7)))
  (F7:nt K "_law_number" "_law_number" iE f7 d7)
  (a8:PN K PL "_law_is_pattern"=Δ (Δ (.ref f8)))
  (F8:nt K "_law_is_pattern" "_law_is_pattern" eU f8 d8)
  (a9:PN K PL "_law_written"=Δ (Δ (.ref f9)))
  (F9:nt K "_law_written" "_law_written" gW f9 d9)
  (a10:PN K PL "_law_changed"=Δ (Δ (.ref Pm)))
  (F10:nt K "_law_changed" "_law_changed" gX Pm d10)
  (a11:PN K PL "_law_found"=Δ (Δ (.ref Pn)))
  (F11:nt K "_law_found" "_law_found" jL Pn d11)
  (a12:PN K PL "law"=Δ (Δ (.ref f12)))
  (Po:nt K "law" "law" DP f12 Mx)
  (a13:Qi K (.ref bR) "__init__"=Δ (Δ (.ref Mt)))
  (Pp:nt K "__init__" "Reader.__init__" eV Mt d13)
  (n13:Sk K (.ref Mt)=Λ)
  (a14:Qi K (.ref bR) "taken"=Δ (Δ (.ref Mu)))
  (Pq:nt K "taken" "Reader.taken" gY Mu d14)
  (n14:Sk K (.ref Mu)=Λ)
  (a15:Qi K (.ref bR) "letter"=Δ (Δ (.ref Mv)))
  (Pr:nt K "letter" "Reader.letter" gc Mv d15)
  (n15:Sk K (.ref Mv)=Λ)
  (a16:Qi K (.ref bR) "pattern"=Δ (Δ (.ref Mw)))
  (Pt:nt K "pattern" "Reader.pattern" fG Mw d16)
  (n16:Sk K (.ref Mw)=Λ)
  (Ll:PN K PL "len"=Δ Θ)
  (Lm:PN K PL "min"=Δ Θ)
  (Ln:PN K PL "max"=Δ Θ)
  (Lo:PN K PL "all"=Δ Θ)
  (Lp:PN K PL "any"=Δ Θ)
  (Lq:PN K PL "sum"=Δ Θ)
  (Lr:PN K PL "str"=Δ Θ)
  (C2:PN K PL "tuple"=Δ Θ)
  (Hc:PN K PL "list"=Δ Θ)
  (Ls:PN K PL "int"=Δ Θ)
  (Hd:PN K PL "bool"=Δ Θ)
  (qE:PN K PL "isinstance"=Δ Θ)
  (C3:PN K PL "range"=Δ Θ)
  (Lu:PN K PL "zip"=Δ Θ)
  (tq:PN K PL "enumerate"=Δ Θ)
  (AR:PN K PL "sorted"=Δ Θ)
  {nY:Tok}
  (nZ:PN K PL "MOST_OTHERS"=Δ (Δ (.int 40 nY)))
  {qF:Addr} {wt:Obj}
  (C4:PN K PL "PARTS"=Δ (Δ (.ref qF)))
  (C5:K.lookup qF=Δ wt)
  (C6:EI wt=Δ aK)
  (C7:(qF==QZ)=Ξ)
  {wu U_e V_e:Addr}
  (e_C:PN K PL "NoText"=Δ (Δ (.ref wu)))
  (e_U:PN K PL "YardError"=Δ (Δ (.ref U_e)))
  (e_V:PN K PL "NoPattern"=Δ (Δ (.ref V_e)))
  (e_B:PN K PL "ValueError"=Δ Θ)
  (e_q:PySem.W.excIn K wu bmV "ValueError.__new__"=Λ)
  (e_m:TH K (.ref wu) (.ref wu)=Δ Λ)
  (e_1:Qw K (.ref wu) (.ref U_e)=Δ Λ)
  (e_2:Qw K (.ref wu) (.type "ValueError")=Δ Λ)
  (e_3:Qw K (.ref wu) (.ref V_e)=Δ Ξ)
  (e_4:Qi K (.ref wu) "__getattribute__"=Δ (Δ (.builtin "BaseException.__getattribute__")))
  (e_5:Qi K (.ref wu) "__class__"=Δ (Δ (.builtin "object.__class__")))
  (e_6:PySem.W.specialIn K (.builtin "object.__class__") "__get__"=Δ (Δ (.builtin "getset_descriptor.__get__")))
  (e_7:PySem.W.takesIn K (.builtin "object.__class__")=Δ Λ)
  (e_8:PySem.W.mroIn K wu (.type "object")=Δ Λ)
  (e_9:Qi K (.ref wu) "__getattr__"=Δ Θ)
  (e_a:PySem.W.subIn K (.ref wu) (.type "BaseException")=Δ Λ)
  (e_b:(T9 K wu).isSome=Λ)
  :(xs≠[]->TC K=Λ)/\∃(tabs:List (Addr×Addr)) (fd:Rn),xs.map (RM K)=tabs.map Δ/\(∀(s:PJ) (v:Value),Vh s fd ⟨[v],[]⟩ [("_law_script",v)])/\
   (∀base:Heap,K.In base->base.Ns PL mg->(∀q∈tabs,RQ base q.1 q.2)->BMain mg base->dy l.prog w K mg base Jb (lv 60) fa fd ["_law_script"] (qJ (sv tx K base (nk tabs)) (callC Fs 60 12) 1))/\tabs.length=Pl.length:=by
 have e:=hfa.symm.trans (Qn X G a12);cases e;have T:nS wu K mg tx (nk []) (λk=>[f0,f1,f2,f3,f4,f5,f6,f7,f8,f9,Pm,Pn,fa,Mt,Mu,Mv,Mw].getD k 0) (λk=>[d0,d1,d2,d3,d4,d5,d6,d7,d8,d9,d10,d11,Mx,d13,d14,d15,d16].getD k Mx):=by
  refine⟨GI ?_,?_,λx i hx=>?_,λx t hx=>?_,λq hq=>?_,λx hx=>?_,⟨_,_,_,_,_,_,_,_,F.excBase_ValueError,(by decide+kernel),F.excBase_ValueError,e_q⟩⟩;·exact(gO ⟨⟨_,F0⟩,λ_=>Qn X G a0,F0.binds λ_ _ _ _ _ _=>nT λ_ _=>rfl,sx oY (k:=0) rfl⟩ (gO ⟨⟨_,F1⟩,λ_=>Qn X G a1,F1.binds λ_ _ _ _ _ _=>nT λ_ _=>rfl,sx oY (k:=1) rfl⟩ (gO ⟨⟨_,F2⟩,λ_=>Qn X G a2,F2.binds λ_ _ _ _ _ _=>nT λ_ _=>rfl,sx oY (k:=2) rfl⟩ (gO ⟨⟨_,F3⟩,λ_=>Qn X G a3,F3.binds λ_ _ _ _ _ _=>nT λ_ _=>rfl,sx oY (k:=3) rfl⟩ (gO ⟨⟨_,F4⟩,λ_=>Qn X G a4,F4.binds λ_ _ _ _ _ _=>nT λ_ _=>rfl,sx oY (k:=4) rfl⟩ (gO ⟨⟨_,F5⟩,λ_=>Qn X G a5,F5.binds λ_ _ _ _ _ _=>GJ λ_ _ _=>rfl,sx oY (k:=5) rfl⟩ (gO ⟨⟨_,F6⟩,λ_=>Qn X G a6,F6.binds λ_ _ _ _ _ _=>nT λ_ _=>rfl,sx oY (k:=6) rfl⟩ (gO ⟨⟨_,F7⟩,λ_=>Qn X G a7,F7.binds λ_ _ _ _ _ _=>nT λ_ _=>rfl,sx oY (k:=7) rfl⟩ (gO ⟨⟨_,F8⟩,λ_=>Qn X G a8,F8.binds λ_ _ _ _ _ _=>GJ λ_ _ _=>rfl,sx oY (k:=8) rfl⟩ (gO ⟨⟨_,F9⟩,λ_=>Qn X G a9,F9.binds λ_ _ _ _ _ _=>CF λ_=>rfl,sx oY (k:=9) rfl⟩ (gO ⟨⟨_,F10⟩,λ_=>Qn X G a10,F10.binds λ_ _ _ _ _ _=>nT λ_ _=>rfl,sx oY (k:=10) rfl⟩ (gO ⟨⟨_,F11⟩,λ_=>Qn X G a11,F11.binds λ_ _ _ _ _ _=>nT λ_ _=>rfl,sx oY (k:=11) rfl⟩ (gO ⟨⟨_,Po⟩,λ_=>Qn X G a12,Po.binds λ_ _ _ _ _ _=>CF λ_=>rfl,sx oY (k:=12) rfl⟩ (gO ⟨⟨_,Pp⟩,λz=>absurd z (by decide),Pp.binds λ_ _ _ _ _ _=>GJ λ_ _ _=>rfl,sx oY (k:=13) rfl⟩ (gO ⟨⟨_,Pq⟩,λz=>absurd z (by decide),Pq.binds λ_ _ _ _ _ _=>CF λ_=>rfl,sx oY (k:=14) rfl⟩ (gO ⟨⟨_,Pr⟩,λz=>absurd z (by decide),Pr.binds λ_ _ _ _ _ _=>CF λ_=>rfl,sx oY (k:=15) rfl⟩ (gO ⟨⟨_,Pt⟩,λz=>absurd z (by decide),Pt.binds λ_ _ _ _ _ _=>nT λ_ _=>rfl,sx oY (k:=16) rfl⟩ OQ)))))))))))))))))
  ·exact(memC (Qc X G Ll) (memC (Qc X G Lm) (memC (Qc X G Ln) (memC (Qc X G Lo) (memC (Qc X G Lp) (memC (Qc X G Lq) (memC (Qc X G Lr) (memC (Qc X G C2) (memC (Qc X G Hc) (memC (Qc X G Ls) (memC (Qc X G Hd) (memC (Qc X G qE) (memC (Qc X G C3) (memC (Qc X G Lu) (memC (Qc X G tq) (memC (Qc X G AR) Kv))))))))))))))))
  ·simp only[tx,P7,List.lookup_nil] at hx;split at hx;·rename_i hq;have hq:=eq_of_beq hq;subst hq;cases hx;exact⟨_,Qn X G nZ⟩
   ·cases hx
  ·simp only[tx,P7,List.lookup_nil] at hx;split at hx;·rename_i hq;have hq:=eq_of_beq hq;subst hq;cases hx;exact⟨_,Qn X G C4,⟨C7,_,C5,C6⟩⟩
   ·cases hx
  ·simp only[tx,Ub,S5,or_false] at hq;rcases hq with rfl;·refine⟨bR,tm,Qn X G tm,⟨ya,yb,yc,yd⟩,memC nq (memC nr (memC nX Kv)),Mb ⟨a13,n13,Pp.kp⟩ (Mb ⟨a14,n14,Pq.kp⟩ (Mb ⟨a15,n15,Pr.kp⟩ (Mb ⟨a16,n16,Pt.kp⟩ lkN))),λk hm=>?_⟩;have GA:(13:Nat)=k:=P4 ((by rfl:Q9 ("__init__":Str) _=Δ 13).symm.trans hm);subst GA;exact⟨ye,a13,n13,yf⟩
  ·have hx:x="NoText":=by simpa[tx] using hx
   subst hx;exact⟨Qn X G e_C,rfl⟩
 refine⟨λ_=>absurd rfl ‹_›,[],Mx,by simp only[xs,Qq,Ts],λs v=>?_,λbase kb nb n6 bm=>?_,rfl⟩;·obtain⟨_,_,_,_,_,_,_,_,_,rfl,_⟩:=Po.ex;exact .of_eq rfl
 exact GN (ql (P:=l.prog) (w:=w) T (C1 T (Qn X G e_C) (Qn X G e_U) (Qn X G e_V) (Qc X G e_B) e_m e_1 e_2 e_3 ⟨e_4,e_9,e_5,e_6,e_7,e_8,e_a⟩ e_b) base 60 12 _ rfl λ_=>False) λvs H Q E h=>⟨λ_ z=>z.elim,h.2⟩
theorem walk{l:UJ}{K:Params->PD}(hn:l.most=Δ 63)(I0:d.params.defaults=[])(hY:∀(w:World) (h:Heap),YP w h->(K w.params).In h)(ER:∀y∈xs,((PyProof.Rows.recsOf q).find? (λe=>e.name==y)).isSome=Λ)(F:∀(w:World) (mg:Str->Option Value) (fa:Addr) (h:Heap),(K w.params).In h->h.Ns PL mg->mg d.name=Δ (.ref fa)->
   (xs≠[]->TC (K w.params)=Λ)/\∃(tabs:List (Addr×Addr)) (fd:Rn),xs.map (RM (K w.params))=tabs.map Δ/\(∀(s:PJ) (u:Value),Vh s fd ⟨[u],[]⟩ [("_law_script",u)])/\
    (∀base:Heap,(K w.params).In base->base.Ns PL mg->(∀q∈tabs,RQ base q.1 q.2)->BMain mg base->dy l.prog w (K w.params) mg base Jb (lv 60) fa fd ["_law_script"] (qJ (sv tx (K w.params) base (nk tabs)) (callC Fs 60 12) 1))/\tabs.length=Pl.length):
  PySem.W.WalkO q loose XP YP l.row.toRowW d [] (λf vs=>Vw f vs):=
 L2.zq (n:=63) (k:=lv 60) (x:="_law_script") (CX:=λ_=>Jb) (sp:=λw _ pt base=>qJ (sv tx (K w.params) base (nk pt)) (callC Fs 60 12) 1) xs hn (by decide) I0 ⟨rfl,by decide,by decide⟩ hY (λy hy=>by obtain⟨dr,h⟩:=Option.isSome_iff_exists.mp (ER y hy);exact⟨dr,h⟩) (λw mg fa h X N m=>by obtain⟨h1,tabs,fd,h2,h3,h4,h5⟩:=F w mg fa h X N m;refine⟨h1,tabs,fd,h2,h3,h4,λbase H a ns hl _ _ ho hS=>CG (λt ht=>?_) (AO ns hl) ho hS⟩;unfold nk at ht;obtain⟨p,hp,rfl⟩:=List.mem_map.mp ht;exact List.mem_map.mpr ⟨p.1,(Tf hp).1,rfl⟩) λ_ _ _ _ _ z=>z
end Lb
open PySem PySem.W PyProof.Rows
set_option maxRecDepth 100000 in
set_option maxHeartbeats 0 in
theorem PySem.Challenge.cw_wordyard_k04_whole_read_holds : PySem.Challenge.rw_wordyard_k04_whole_read.Holds := by
 w_on;o_law;k_head;(case hw=>w_witness2)
 k_fill
 refine Lb.walk (l:=PySem.Challenge.rw_wordyard_k04_whole_read) rfl rfl (λw h Y=>by first|exact PySem.W.kIn_of Y|exact PySem.W.km_in_of Y) (by decide+kernel) ?F
 case F=>intro w mg fa h KX G Ja;refine' Lb.all_mk KX G Ja ?_ ?_ ?_ ?_ ?_ ?_ ?_ ?_ ?_ ?_ ?_ ?_ ?_ ?_ ?_ ?_ ?_ ?_ ?_ ?_ ?_ ?_ ?_ ?_ ?_ ?_ ?_ ?_ ?_ ?_ ?_ ?_ ?_ ?_ ?_ ?_ ?_ ?_ ?_ ?_ ?_ ?_ ?_ ?_ ?_ ?_ ?_ ?_ ?_ ?_ ?_ ?_ ?_ ?_ ?_ ?_ ?_ ?_ ?_ ?_ ?_ ?_ ?_ ?_ ?_ ?_ ?_ ?_ ?_ ?_ ?_ ?_ ?_ ?_ ?_ ?_ ?_ ?_ ?_ ?_ ?_ ?_ ?_ ?_ ?_ ?_;all_goals try first|k_is|(refine' L2.EC ?l ?c ?k;(case l=>k_is);(case c=>k_is);(case k=>k_is))|rfl|kernel_rfl
