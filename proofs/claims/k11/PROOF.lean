import PyProof.Rows.All
import Wide.All
import OpenK.AllK
import Wide.FinOn
import Lean
import PyProof.EqAt
import PyProof.EqKinds
import PyProof.TupleCall
import PyProof.NeKinds
import PySem.Challenge.RW_wordyard_k11_whole_least
set_option Elab.async false
set_option linter.all false
set_option maxRecDepth 100000
set_option maxHeartbeats 4000000
noncomputable section
open Option renaming some->Δ,none->Θ
open Bool renaming true->Λ,false->Ξ
open PySem renaming wpAny_bind->W7,wpAny_pure->Xn,mainGlobals->Xu,Shared->Xv,sizeLine->XE,starEach->XO,mem_of_lookup->X8,Program->Yi,wpAny_callSpecial?_slot->Yk,wpAny_field->YC,wpAny_newObj_type->YE,compareOp->YF,wpAny_Call_Name_kw->YG,sizeLine_eq->YH,wpAny_call_entry->YN,Around->YO,wpAny_loadPart'->YW,wpAny_mono->YY,wpAny_truthy_bool->Y4,sysModules->Y5,FuncData->Ze,wpAny_setField_rec->Zf,wpAny_seqItems->Zk,rawInt->Zl,backTo->Zm,wpAny_pyIter_tuple->ZC,binaryOp->ZD,IsPair->ZG,wpAny_passesOwn->ZL,Arguments->ZR,NameKind->ZT,wpAny_holding->ZX,attributeBase->ZY,codeAmong->Z5,keywordEach->aab,wpAny_newFunctionEnv->aar,call_meets->aas,swapsWith->aav,bootBuiltins->aaw,wpAny_binaryOp_repeat_ref->aaz,tupleKind_room_in1->aaG,sliceBounds->aaL,wpAny_pyIter_enum->aaR,wpAny_rule->aa7,typeIs_int->aa8,qualnameIn->aa9,Spec->abd,getItem->abg,codeAny->abh,Builtin->abi,wpAny_updateSeq_pair->abj,backToKw->abk,wpAny_updateSeq->abo,letOwnedTupleGo->abp,codeAny_mono->abu,call_meetsIn->abv,TriplesOk->abx,closureFor->aby,wpAny_letGo->abC,foldedSetIterable->abD,Keyword->abJ,wpAny_onRaise->abL,wpAny_attempt->abM,pyNext->abO,annotationsOf->abP,Comprehension->abS,wpAny_isInstance->abT,tupleKind->abU,noFill_tuple_add->abV,getMethod->abW,wpAny_typeOf->ab5,valueAt->ab6,standAt->ab7,builtinsNs->ab9,assignEach->aca,IsPart->acb,BindsTo->acd,wpAny_specialOf->ace,wpAny_execs_nil->acf,subscripted->acm,isSubtype_stop->acn,holding->acr,callerA->acs,wpAny_standAt->acx,seq_tuple_add->acy,behindInMarks->acz,Paired->acD,seqIndex_neg->acE,concat_meets->acF,callWith->acG,Within->acH,updateSeq->acP,isTrue->acQ,cellOf->acR,seqIndex_of->acS,wpAny_call->acX,wpAny_Name->acY,typeLookup->acZ,bindArgs->ac0,assign->ac1,call->ac2
open List renaming range->W8,mem_cons_of_mem->Xb,getElem?_eq_getElem->Xc,getD_eq_getElem?_getD->Xd,getElem?_set_ne->Xe,length_map->Xf,getElem?_append_left->Xg,mem_cons_self->Xh,getElem?_map->Xi,getElem?_cons_zero->Xk,getElem?_cons_succ->Xl,map_cons->Xo,size_toArray->Xp,isEmpty_iff->Xr,length_cons->Xt,mem_of_getElem?->Xw,getElem?_append_right->Xy,length_append->Xz,getElem?_set_self->XC,lookup_cons->XH,getElem?_eq_none->XI,mem_append_right->XQ,length_range->XS,filter_cons_of_pos->XT,map_append->XW,filter_cons_of_neg->X4,replicate->X6,append_assoc->X7,nodup_append->X9,getElem_mem->Ya,drop_eq_getElem_cons->Yd,take_of_length_le->Ye,append_nil->Yf,mem_singleton->Yg,mem_range->Yl,idxOf_lt_length_of_mem->Yp,range_succ->Ys,mem_filter->Yt,length_take->Yu,take_add_one->Yv,mem_append_left->Yw,find?_cons->YB,getElem?_range->YD,nodup_cons->YK,length_set->YL,length_nil->YM,flatMap_append->YS,cons_append->Y0,any_eq_true->Y1,all_eq_true->Y2,mem_map->Y7,length_pos_of_mem->Y8,lookup->Za,nodup_range->Zh,map_nil->Zi,map_map->Zj,nil_append->Zp,mem_append->Zq,foldl_cons->Zr,filter_eq_nil_iff->Zu,any_cons->Zy,all_cons->Zz,length_filter_le->ZH,forIn_cons->ZN,set->ZU,foldl_append->ZV,length_erase_of_mem->Z3,filterMap_cons->Z4,not_mem_nil->Z8,getElem?_replicate->Z9,drop_zero->aaa,filter_append->aae,of_mem_zip->aag,map->aah,mem_cons->aai,take_append_drop->aal,set_append_right->aam,length_replicate->aan,flatMap_cons->aaq,mem_erase_of_ne->aat,forIn_nil->aau,mem_map_of_mem->aaB,zip_cons_cons->aaJ,getElem_idxOf->aaK,drop_eq_nil_of_le->aa0,mem_flatMap->abe,getElem?_of_mem->abm,length_zip->abq,map_congr_left->abt,foldl->abA,find?_eq_none->abB,length->abG,ext_getElem?->abH,any_eq_false->abI,zipIdx_cons->abZ,length_drop->ab0,getElem_zip->ab1,drop_length->ab2,idxOf_cons->ack,map_take->acA,map_drop->acB,set_set->acJ,map_set->acK,zipIdx->acW
open Bool renaming and_eq_true->W9,not_eq_true'->XJ,false_eq_true->XZ,false_ne_true->Yc,or_eq_true->ZO,eq_iff_iff->ZQ,eq_false_or_eq_true->aaE,false_and->aa3,true_and->acC
open PySem.Heap renaming get?_push_of_some->Xa,get?_push_size->Xq,lt_size->Xs,get?_update_other->Yy,size_push->YI,get?_update_self->Zd,SameBut->ZW,size_update->abf,IsTuple->acM
open Nat renaming le_refl->Xj,lt_of_lt_of_le->XD,zero_add->XN,ne_of_lt->XR,le_trans->X5,zero_le->Yq,ne_of_gt->Yr,add_right_comm->Yx,lt_succ_self->YZ,lt_irrefl->Y3,le_succ->Y9,le_add_right->ZA,not_lt_zero->ZM,sub_succ_lt_self->ZS,min_le_right->Z7,lt_of_sub_eq_succ->aak,le_of_lt->aay,min_le_left->aaF,succ_mul->aaY,lt_trans->aaZ,mul_le_mul_right->abl,le_of_eq->abw,reduceAdd->abR,add_comm->acI
open PySem.W renaming Frag->Xm,nsIn->XB,mg_none_of->XY,findIn->X2,mg_of->Yb,kia_one->YA,emptyDict->YT,CodeHd->Zn,instObj->Zo,tabIn->Zx,keepIn->ZE,tabObj->Z6,isFn->aad,plainGet->aax,callWith_K->aaI,noTabs->aaS,hasDictIn->aaT,fnOf->aaU,methodCall_KW->aa4,plainGet_of->abr,lookIn->abz,plainOver->abE,methodObj->abF,takerIn->acg,makesIn->ach,OpenLaw->aci,kla_fn->aco,kitOne->acp,codeIn->acq,fnX->acV
open Option renaming join_some->Xx,map_some->XF,bind_some->X3,isNone_iff_eq_none->YQ,isSome_map->aap,getD_some->abX,getD_none->abY
open PySem.NameKind renaming free->XA,cell->YU
open Classical renaming byContradiction->XG
open PySem.Value renaming ref->XM,none->Zg,type->aac,bool->aaH,str->abb,int->abc,float->acT
open Option.some renaming inj->XU,injEq->aao
open PySem.Builtin.SmallTypes renaming nextOf->XX,ownedTupleIsFree->YV
open PySem.Str renaming ofString->Yh
open Ne renaming symm->Yj
open Function renaming comp_def->Ym
open PySem.Builtin.Tuple renaming tupleExact->Yn,tupleTooMany->YJ
open PyProof.Rows renaming callWith_type1->Yo,slot_tuple_getitem->Zb,kindOf->aba,AllBare->abK,subscriptTail->abN,envOfC->ab8,IntsAre->acL
open False renaming elim->Yz
open True renaming intro->YR
open ForInStep renaming yield->YX
open PySem.F renaming slot_tuple_iterator_next->Y6,slot_int_rmul->Zc,slot_enumerate_next->Zt,plain_extend_loop->ZJ,slot_zip_next->aaj,args_tuple_mul_2->aaC,args_tuple_add_2->aaD,plainAttrs_list->aaM,plainAttrs_dict->aaN,entry_tuple_mul->aaO,entry_tuple_add->aaP,args_int_rmul_2->aaQ,slot_tuple_mul->aaV,slot_tuple_add->aaW,entry_int_rmul->aaX,fills_int_mul->aa5
open Array renaming length_toList->Zs,getElem?_toList->aa6
open PySem.Calls renaming callWith_builtin->Zv,spliced_cons->aaf,spliced_nil->aa2,evalArgs_plain->abn
open PySem.Builtin.List renaming listExtendWith->Zw
open PySem.Builtin.Slice renaming slicePlaces->ZK,sliceAdjust->aaA
open PySem.Obj renaming mapSeq->ZZ
open Int renaming toNat_natCast->aa1,toNat->ab3
open PySem.Paired renaming length->abQ
open PySem.AutoSeq1 renaming idx_int->ab4
open PySem.PassesOwn renaming never->acj
open Sum renaming inr->acu,inl->acv
open PyProof.Rows.IsTup renaming new->acw
open PySem.Code renaming isFrame->acN
open PySem.Around renaming under->acO
open PySem.Shared renaming heap->acU
open Prod renaming ext->ac3
namespace PySem.W.Fast
def tw9366396838906156240:=0
def tw17142697917480007861:=0
def tw2356975300514529795:=0
def tw2855140404898979877:=0
def tw17632923552637707334:=0
def tw7274311492380511725:=0
def tw4028500788680722347:=0
def tw17576679585629180857:=0
def tw15461540545009035700:=0
def tw12250168533514213575:=0
def tw18000405946205059097:=0
def tw3656529405918225689:=0
def tw4806657632184968168:=0
def tw13376072212203416633:=0
def tw2502649098065329577:=0
def tw12020108814531369359:=0
def tw4109463720908259839:=0
def tw16207394471202310252:=0
def tw3647972118725612148:=0
def tw7463391862749845672:=0
def tw13804497172156116043:=0
def tw2917103995688790879:=0
def tw13025416772471050833:=0
def tw12979255431944789061:=0
def tw13452864540360975675:=0
def tw9718930413858595716:=0
def tw14200513212461098471:=0
def tw16626790660955030995:=0
def tw12608261462957262545:=0
def tw17817545967389690021:=0
def tw6124722538729327625:=0
def tw2204906427746980662:=0
def tw10154115993207735268:=0
def tw3127165219443847523:=0
def tw3876005034950438547:=0
def tw12487529497582385572:=0
def tw9446195503583981671:=0
def tw9103672778483422468:=0
def tw12530336490884991560:=0
def tw16376548596018925724:=0
def tw2596408636164226976:=0
def tw4019048192373775109:=0
def tw6516330600781057197:=0
def tw16273348190746618296:=0
end PySem.W.Fast
theorem qqq{p:Prop}[Decidable p]:(decide p=Bool.true)=p:=decide_eq_true_eq
theorem qqz{A:Type u}{l:List A}{i:Nat}{a:A}(h:l[i]?=Option.some a):∃h:i<l.length,l[i]=a:=List.getElem?_eq_some_iff.mp h
theorem ft{g:Prop}(h:Ξ=Λ):g:=Bool.noConfusion h
namespace L2
open PySem PySem.Spec PyProof.Rows
abbrev Key:=Sum Int Str
noncomputable def vT:Key->Value->Bool
 |.inl k,v=>Value.isInt k v|.inr x,v=>Value.isStrOf x v
def T7(w:World):Key->Int
 |.inl k=>hashInt k|.inr x=>hashStr w x
theorem b7:∀{k} {v},vT k v=Λ->(∃i t,k=acv i/\v=abc i t)\/(∃x t,k=acu x/\v=abb x t)
 |.inl i,v,h=>by obtain⟨t,e⟩:=Value.isInt_shape (k:=i) (v:=v) h;exact .inl ⟨i,t,rfl,e⟩|.inr x,v,h=>by obtain⟨t,e⟩:=Value.isStrOf_shape (x:=x) (v:=v) h;exact .inr ⟨x,t,rfl,e⟩
theorem Dv i t:vT (.inl i) (.int i t)=Λ:=by simp[vT,Value.isInt]
theorem Dw x t:vT (.inr x) (.str x t)=Λ:=by simp[vT,Value.isStrOf]
theorem LA a b:decide ((acv a:Key)=acv b)=(a==b):=by
 by_cases e:a=b;·subst e;simp
 ·have h:¬(acv a:Key)=acv b:=λq=>e (acv.inj q);rw[decide_eq_false h];exact(beq_eq_false_iff_ne.mpr e).symm
theorem LB a b:decide ((acu a:Key)=acu b)=decide (a=b):=by
 by_cases e:a=b;·subst e;simp
 ·have h:¬(acu a:Key)=acu b:=λq=>e (acu.inj q);rw[decide_eq_false h,decide_eq_false e]
theorem LC a b:decide ((acv a:Key)=acu b)=Ξ:=decide_eq_false (λq=>nomatch q)
theorem LD a b:decide ((acu a:Key)=acv b)=Ξ:=decide_eq_false (λq=>nomatch q)
def be(prog:Yi)(w:World):PySem.KeyKind prog w Key where
 is:=vT
 hash:=T7 w
 inj:=λv a b ha hb=>by
  rcases b7 ha with ⟨i,t,rfl,rfl⟩|⟨x,t,rfl,rfl⟩
  ·rcases b7 hb with ⟨j,u,rfl,e⟩|⟨y,u,rfl,e⟩
   ·injection e with e1 _;rw[e1]
   ·exact nomatch e
  ·rcases b7 hb with ⟨j,u,rfl,e⟩|⟨y,u,rfl,e⟩
   ·exact nomatch e
   ·injection e with e1 _;rw[e1]
 byValue:=λk v h=>by rcases b7 h with ⟨i,t,rfl,rfl⟩|⟨x,t,rfl,rfl⟩<;>rfl
 pyHash:=λhv h=>by
  rcases b7 hv with ⟨i,t,rfl,rfl⟩|⟨x,t,rfl,rfl⟩
  ·exact wpAny_pyHash_int h
  ·exact wpAny_pyHash_str h
 eqBool:=λhu hv h=>by
  rcases b7 hu with ⟨i,t,rfl,rfl⟩|⟨x,t,rfl,rfl⟩
  ·rcases b7 hv with ⟨j,u,rfl,rfl⟩|⟨y,u,rfl,rfl⟩
   ·rw[LA] at h;exact wpAny_eqBool_int h
   ·rw[LC] at h;exact SeqAt.EqAt.int_str i t y u _ _ _ _ h
  ·rcases b7 hv with ⟨j,u,rfl,rfl⟩|⟨y,u,rfl,rfl⟩
   ·rw[LD] at h;exact SeqAt.EqAt.str_int x t j u _ _ _ _ h
   ·rw[LB] at h;exact wpAny_eqBool_str h
 «strs»:=λk x t v h=>by
  rcases b7 h with ⟨i,u,rfl,e⟩|⟨y,u,rfl,e⟩
  ·exact nomatch e
  ·injection e with e1 _;subst e1;cases v<;>rfl
theorem yO prog w i t:(be prog w).is (.inl i) (.int i t)=Λ:=Dv i t
theorem yP prog w x t:(be prog w).is (.inr x) (.str x t)=Λ:=Dw x t
inductive V where
 |bz|bl (b:Bool)|int (i:Int)|str (x:Str)|OL (b:Array UInt8)|LF (b:UInt64)|ref (a:Addr)|ty (n:String)
 deriving DecidableEq
noncomputable def RelV:V->Value->Prop
 |.bz,u=>u=Zg|.bl b,u=>u=aaH b|.int i,u=>∃t,u=abc i t|.str x,u=>∃t,u=abb x t|.OL b,u=>∃t,u=Value.bytes b t|.LF b,u=>∃t,u=acT b t|.ref a,u=>u=XM a|.ty n,u=>u=aac n
abbrev aS:List V->List Value->Prop:=acD RelV
theorem aS.length(r:aS xs us):xs.length=us.length:=abQ r
theorem aS.get:∀{xs} {us} {i:Nat} {x},aS xs us->xs[i]?=Δ x->∃u,us[i]?=Δ u/\RelV x u
 |_,_,_,_,.nil,e=>by simp at e|_,_,0,_,.cons r _,e=>by simp at e;subst e;exact⟨_,rfl,r⟩|_,_,i+1,x,.cons _ t,e=>by obtain⟨u,h1,h2⟩:=aS.get (i:=i) (x:=x) t (by simpa using e);exact⟨u,by simpa using h1,h2⟩
theorem aS.set(r:RelV x u):∀{xs} {us} (i),aS xs us->aS (xs.set i x) (us.set i u)
 |_,_,_,.nil=>.nil|_,_,0,.cons _ t=>.cons r t|_,_,i+1,.cons q t=>.cons q (aS.set r i t)
theorem aS.append:∀{xs ys} {us ws},aS xs us->aS ys ws->aS (xs++ys) (us++ws)
 |_,_,_,_,.nil,s=>s|_,_,_,_,.cons r t,s=>.cons r (aS.append t s)
theorem aS.take:∀{xs} {us} (n),aS xs us->aS (xs.take n) (us.take n)
 |_,_,0,_=>.nil|_,_,_+1,.nil=>.nil|_,_,n+1,.cons r t=>.cons r (aS.take n t)
theorem aS.drop:∀{xs} {us} (n),aS xs us->aS (xs.drop n) (us.drop n)
 |_,_,0,r=>r|_,_,_+1,.nil=>.nil|_,_,n+1,.cons _ t=>aS.drop n t
def kr:Option V->Option Value->Prop
 |some v,Δ u=>RelV v u|none,Θ=>True|_,_=>False
def KV{κ:Type}:List (κ×V)->List (κ×Value)->Prop:=acD λ(p:κ×V) (q:κ×Value)=>p.1=q.1/\RelV p.2 q.2
def kV:Key->V
 |.inl i=>.int i|.inr x=>.str x
inductive HO where
 |lst (xs:List V)
 |tup (xs:List V)
 |dK (kvs:List (Key×V))|dT (kvs:List (List Key×V))
 |set (S:Int->Bool) (n:Nat)
 |ins (C dx:Addr) (fs:List (Str×V))
 |own (x:Addr)
 |xd (fs:List (Str×V))
 |met (f x:Addr)
 |fZ (lo hi:Int)
 |dA (o:Obj) (u:HO)
 |fG (ps:Array Value)
 |ext (φ:Heap->Prop)
abbrev Hp:=Addr->Option HO
noncomputable def upd(H:Hp)(a:Addr)(o:HO):Hp:=λb=>if b=a then Δ o else H b
theorem aC:upd H a o a=Δ o:=by unfold upd;rw[if_pos rfl]
theorem ax(h:b≠a):upd H a o b=H b:=by unfold upd;rw[if_neg h]
theorem Cp:upd (upd H a o) a u=upd H a u:=by funext b;unfold upd;split<;>rfl
theorem KC{H:Hp}(h:H a=Δ o)(h':H b=Δ u)(d:o≠u):a≠b:=by intro e;subst e;rw[h] at h';exact d (XU h')
theorem aM{H:Hp}(h:H a=Δ o)(h':H b=Θ):a≠b:=by intro e;subst e;rw[h] at h';cases h'
section
variable(P:Yi)(w:World)
def bG(H:Hp)(h:Heap)(a:Addr):HO->Prop
 |.lst xs=>xs.length<=XE/\∃(its:List Value) (n:Nat),aS xs its/\h.get? a=Δ {cls:=.type "list",data:=.seq its.toArray n}|.tup xs=>xs.length<=XE/\∃its:List Value,aS xs its/\IsTup h a its.toArray|.dK kvs=>kvs.length<=XE/\(a==Y5)=Ξ/\∃vs,KV kvs vs/\h.DictOf (be P w) a vs
 |.dT kvs=>kvs.length<=XE/\(a==Y5)=Ξ/\∃xs:List (List Key×Addr×Value),
   acD (λ(p:List Key×V) (q:List Key×Addr×Value)=>p.1=q.1/\H q.2.1=Δ (.tup (p.1.map kV))/\RelV p.2 q.2.2) kvs xs/\
   ∃o es ep,h.get? a=Δ o/\o.ExactDict/\o.data=.dict es ep/\es.toList=xs.map (entryOfKey (abU (be P w)))/\(xs.map (·.1)).Nodup
 |.set S n=>h.SetOf (intKind P w) a S n
 |.ins C dx fs=>H dx=Δ (.own a)/\fs.length<=1000/\dx≠a/\h.get? a=Δ (Zo C dx)/\
   ∃mA,h.Ns1 dx mA/\(∀f,kr (fs.lookup f) (mA f))/\acH mA (fs.map (·.1))
 |.own _=>∃o,h.get? a=Δ o|.xd fs=>∃mA,h.Ns1 a mA/\∀f,kr (fs.lookup f) (mA f)|.fZ lo hi=>∃t u v,h.get? a=Δ {cls:=.type "range",data:=.fields #[.int lo t,.int hi u,.int 1 v]}|.dA o u=>h.get? a=Δ o/\bG H h a u|.fG ps=>h.get? a=Δ {cls:=.none,data:=.fields ps}|.met f x=>h.get? a=Δ (abF (.ref f) (.ref x))|.ext φ=>φ h/\(∃o,h.get? a=Δ o)/\∀h1 h2:Heap,φ h1->(∀o,h1.get? a=Δ o->h2.get? a=Δ o)->φ h2
def ku(H:Hp)(h:Heap):Prop:=∀a o,H a=Δ o->bG P w H h a o
end
section
variable{P:Yi}{w:World}{H H':Hp}{h h':Heap}{a:Addr}{o:HO}
theorem bG.lt(x:bG P w H h a o):a < h.objs.size:=by cases o with|lst xs=>obtain⟨_,_,_,_,e⟩:=x;exact Xs e|tup xs=>obtain⟨_,_,_,p⟩:=x;exact p.lt|dK kvs=>obtain⟨_,_,_,_,o,_,_,e,_⟩:=x;exact Xs e|dT kvs=>obtain⟨_,_,_,_,o,_,_,e,_⟩:=x;exact Xs e|set S n=>obtain⟨o,_,_,_,e,_⟩:=x;exact Xs e|ins C dx fs=>obtain⟨_,_,_,e,_⟩:=x;exact Xs e|own y=>obtain⟨_,e⟩:=x;exact Xs e|xd fs=>obtain⟨_,⟨_,_,_,e,_⟩,_⟩:=x;exact Xs e|fZ lo hi=>obtain⟨_,_,_,e⟩:=x;exact Xs e|dA ob u=>obtain⟨e,_⟩:=x;exact Xs e|fG ps=>exact Xs (show h.get? a=Δ _ from x)|met f y=>exact Xs (show h.get? a=Δ _ from x)|ext φ=>obtain⟨_,⟨_,e⟩,_⟩:=x;exact Xs e
theorem acD.LG:∀{E1} {E2},acD F E1 E2->(∀a b,F a b->G a b)->acD G E1 E2
 |_,_,.nil,_=>.nil|_,_,.cons r t,f=>.cons (f _ _ r) (acD.LG t f)
theorem bG.ni(x:bG P w H h a o)(k:∀b u,(b=a\/H b=Δ (.own a))->h.get? b=Δ u->h'.get? b=Δ u)
  (ho:∀b,H b=Δ (.own a)->H' b=Δ (.own a)) (ht:∀b xs,H b=Δ (.tup xs)->H' b=Δ (.tup xs)):bG P w H' h' a o:=by
 induction o with
 |lst xs=>obtain⟨z,its,n,r,e⟩:=x;exact⟨z,its,n,r,k _ _ (.inl rfl) e⟩|tup xs=>obtain⟨z,its,r,ob,e,c⟩:=x;exact⟨z,its,r,ob,k _ _ (.inl rfl) e,c⟩|dK kvs=>obtain⟨z,y,vs,r,ob,es,ep,e,c⟩:=x;exact⟨z,y,vs,r,ob,es,ep,k _ _ (.inl rfl) e,c⟩|dT kvs=>obtain⟨z,y,xs,r,ob,es,ep,e,c⟩:=x;exact⟨z,y,xs,acD.LG r λp q z=>⟨z.1,ht _ _ z.2.1,z.2.2⟩,ob,es,ep,k _ _ (.inl rfl) e,c⟩
 |set S n=>obtain⟨ob,es,ep,t,e,c⟩:=x;exact⟨ob,es,ep,t,k _ _ (.inl rfl) e,c⟩|ins C dx fs=>obtain⟨d,z,ne,e,mA,⟨od,es,ep,e2,c⟩,r⟩:=x;exact⟨ho _ d,z,ne,k _ _ (.inl rfl) e,mA,⟨od,es,ep,k _ _ (.inr d) e2,c⟩,r⟩
 |own y=>obtain⟨ob,e⟩:=x;exact⟨ob,k _ _ (.inl rfl) e⟩|xd fs=>obtain⟨mA,⟨od,es,ep,e,c⟩,r⟩:=x;exact⟨mA,⟨od,es,ep,k _ _ (.inl rfl) e,c⟩,r⟩|fZ lo hi=>obtain⟨t,u,v,e⟩:=x;exact⟨t,u,v,k _ _ (.inl rfl) e⟩|dA ob u ih=>obtain⟨e,q⟩:=x;exact⟨k _ _ (.inl rfl) e,ih q⟩|fG ps=>have e:h.get? a=Δ {cls:=.none,data:=.fields ps}:=x;show h'.get? a=Δ {cls:=.none,data:=.fields ps};exact k a _ (.inl rfl) e
 |met f y=>have e:h.get? a=Δ (abF (.ref f) (.ref y)):=x;show h'.get? a=Δ (abF (.ref f) (.ref y));exact k a _ (.inl rfl) e|ext φ=>obtain⟨p,⟨o,e⟩,st⟩:=x;exact⟨st _ _ p λo q=>k _ _ (.inl rfl) q,⟨o,k _ _ (.inl rfl) e⟩,st⟩
theorem ku.lt(x:ku P w H h)(e:H a=Δ o):a < h.objs.size:=(x a o e).lt
theorem ku.fresh(x:ku P w H h)(e:h.objs.size<=a):H a=Θ:=by cases q:H a with|none=>rfl|some u=>exact absurd (XD (x.lt q) e) (Y3 _)
theorem ku.kept(x:ku P w H h)(k:∀b u,h.get? b=Δ u->h'.get? b=Δ u):ku P w H h':=λa o e=>(x a o e).ni (λb u _ q=>k b u q) (λ_ q=>q) λ_ _ q=>q
theorem ku.laid(x:ku P w H h)(k:∀b u,h.get? b=Δ u->h'.get? b=Δ u)(hp:h.objs.size<=a)(new:bG P w (upd H a o) h' a o):ku P w (upd H a o) h':=λb u e=>by
 have hn:=x.fresh hp;by_cases hb:b=a;·subst hb;rw[aC] at e;cases e;exact new
 ·rw[ax hb] at e;exact(x b u e).ni (λc v _ q=>k c v q) (λc q=>by rw[ax (aM q hn)];exact q) λc xs q=>by rw[ax (aM q hn)];exact q
end
noncomputable def Rd(H:Hp)(a:Addr)(u:HO):Prop:=H a=Δ u\/∃o,H a=Δ (.dA o u)
theorem Rd.ok(r:Rd H a u)(x:ku P w H h):bG P w H h a u:=by
 rcases r with r|⟨o,r⟩;·exact x a u r
 ·obtain⟨_,q⟩:=x a _ r;exact q
noncomputable def Pc:Option HO->Prop
 |some (.lst _)=>True|some (.dK _)=>True|some (.dT _)=>True|some (.set _ _)=>True|some (.ins _ _ _)=>True|some (.ext _)=>True|_=>False
section
variable{P:Yi}{w:World}{H:Hp}{h h':Heap}{x e:Addr}{o':HO}
theorem ku.write(ok:ku P w H h)(mu:Pc (H x))(he:e=x\/H e=Δ (.own x))(k:∀b u,b≠e->h.get? b=Δ u->h'.get? b=Δ u)(OM:∃u,h'.get? e=Δ u)
  (new:bG P w (upd H x o') h' x o'):ku P w (upd H x o') h':=λb u q=>by
 have Pd:∀c y,H c=Δ (.own y)->c≠x:=λc y r z=>by subst z;rw[r] at mu;exact mu
 have T8:∀c xs,H c=Δ (.tup xs)->c≠x:=λc xs r z=>by subst z;rw[r] at mu;exact mu
 by_cases hb:b=x;·subst hb;rw[aC] at q;cases q;exact new
 ·rw[ax hb] at q;by_cases LH:b=e
  ·have q':H b=Δ (.own x):=by
    rcases he with z|z;·exact absurd (LH.trans z) hb
    ·rw[LH];exact z
   rw[q] at q';cases q';obtain⟨v,hv⟩:=OM;exact⟨v,by rw[LH];exact hv⟩
  ·refine(ok b u q).ni (λc v hc r=>k c v ?_ r) (λc r=>by rw[ax (Pd c b r)];exact r) λc xs r=>by rw[ax (T8 c xs r)];exact r
   rcases hc with rfl|hc;·exact LH
   ·rintro rfl;rcases he with z|z;·exact Pd c b hc z
    ·rw[hc] at z;cases z;exact hb rfl
end
structure Un(fs ex:List Addr)(H H':Hp)(h h':Heap):Prop where
 keep:∀b o,h.get? b=Δ o->H b=Θ->b∉fs->b∉ex->h'.get? b=Δ o
 slot:∀b o,h.get? b=Δ o->H b=Θ->b∈fs->b∉ex->∃sl,h'.get? b=Δ {o with slots:=sl}
 free:∀b o,h.get? b=Δ o->H b=Θ->b∉ex->H' b=Θ
 there:∀b o,h.get? b=Δ o->b∉ex->∃o',h'.get? b=Δ o'
 sx:∀b xs,H b=Δ (.tup xs)->H' b=Δ (.tup xs)
 oR:∀b o u,H b=Δ (.dA o u)->H' b=Δ (.dA o u)
 qQ:∀b ps,H b=Δ (.fG ps)->∃more,H' b=Δ (.fG (ps++more))
section
variable{fs fs' ex ex':List Addr}{H H1 H2:Hp}{h h1 h2 h':Heap}{a x e:Addr}{o:HO}
theorem Un.any(u:Un fs ex H H1 h h1)(q:h.get? b=Δ ob)(n:H b=Θ)(hx:b∉ex):∃sl,h1.get? b=Δ {ob with slots:=sl}:=by
 by_cases hb:b∈fs;·exact u.slot b ob q n hb hx
 ·exact⟨ob.slots,u.keep b ob q n hb hx⟩
theorem Un.kept(k:∀b u,h.get? b=Δ u->h'.get? b=Δ u):Un fs ex H H h h':=
 ⟨λb ob q _ _ _=>k b ob q,λb ob q _ _ _=>⟨ob.slots,k b ob q⟩,λ_ _ _ n _=>n,λb ob q _=>⟨ob,k b ob q⟩,λ_ _ q=>q,λ_ _ _ q=>q,λ_ ps q=>⟨#[],by rw[q];simp⟩⟩
theorem Un.refl:Un fs ex H H h h:=Un.kept λ_ _ q=>q
theorem Un.laid(k:∀b u,h.get? b=Δ u->h'.get? b=Δ u)(hp:h.objs.size<=a)(hn:H a=Θ):Un fs ex H (upd H a o) h h' where
 keep:=λb u q _ _ _=>k b u q
 slot:=λb u q _ _ _=>⟨u.slots,k b u q⟩
 free:=λb u q n _=>by rw[ax (XR (XD (Xs q) hp))];exact n
 there:=λb u q _=>⟨u,k b u q⟩
 sx:=λb xs q=>by rw[ax (aM q hn)];exact q
 oR:=λb u xs q=>by rw[ax (aM q hn)];exact q
 qQ:=λb ps q=>⟨#[],by rw[ax (aM q hn),q];simp⟩
theorem Un.write(mu:Pc (H x))(he:e=x\/H e=Δ (.own x))(k:∀b u,b≠e->h.get? b=Δ u->h'.get? b=Δ u)(OM:∃u,h'.get? e=Δ u):Un fs ex H (upd H x o) h h':=by
 have hx:∀b,H b=Θ->b≠x:=λb n z=>by subst z;rw[n] at mu;exact mu
 have hb:∀b,H b=Θ->b≠e:=λb n z=>by
  subst z;rcases he with r|r;·exact hx b n r
  ·rw[n] at r;cases r
 have hm:∀b u,H b=Δ u->¬Pc (Δ u)->b≠x:=λb u q nm z=>by subst z;rw[q] at mu;exact nm mu
 refine⟨λb u q n _ _=>k b u (hb b n) q,λb u q n _ _=>⟨u.slots,k b u (hb b n) q⟩,λb u q n _=>by rw[ax (hx b n)];exact n,λb u q _=>?_,
  λb xs q=>by rw[ax (hm b _ q λz=>z)];exact q,λb u xs q=>by rw[ax (hm b _ q λz=>z)];exact q,λb ps q=>⟨#[],by rw[ax (hm b _ q λz=>z),q];simp⟩⟩
 by_cases LH:b=e;·subst LH;exact OM
 ·exact⟨u,k b u LH q⟩
end
def qR(h:Heap)(H:Hp):List Addr:=(W8 h.objs.size).filter λa=>(H a).isSome
def qS(h:Heap)(H:Hp):Heap:=PySem.W.hideAll h (qR h H)
theorem vU h H:(qS h H).objs.size=h.objs.size:=PySem.W.hideAll_size _ _
theorem yQ(e:h.get? b=Δ o)(n:H b=Θ):(qS h H).get? b=Δ o:=
 PySem.W.hideAll_get _ e λhm=>by have q:(H b).isSome=Λ:=(Yt.mp hm).2;rw[n] at q;simp at q
theorem Cq(e:(qS h H).get? b=Δ o):h.get? b=Δ o/\H b=Θ:=by have e':h.get? b=Δ o:=PySem.W.of_hideAll (qR h H) e;refine⟨e',?_⟩;cases q:H b with|none=>rfl|some x=>have hm:b∈qR h H:=Yt.mpr ⟨Yl.mpr (Xs e'),by simp[q]⟩;have z:(qS h H).get? b=Θ:=PySem.W.hideAll_none (qR h H) hm;rw[z] at e;cases e
structure Mod(K:Xm)(mg:Str->Option Value)(base:Heap):Prop where
 LI:K.In base
 glob:base.Ns Xu mg
 blt:∃mb,base.Ns ab9 mb/\∀x:Str,x≠"__name__"->mb x=aaw x
 nolimit:base.NoLimit
structure Cx where
 prog:Yi
 w:World
 K:Xm
 mg:Str->Option Value
 base:Heap
 A:YO
 N:List Str
 gU:Xv
 yR:Hp
 env:Env
 outer:List Env
 stack:List Env
 ex:List Addr
 fn:Str->Bool
 calm:Bool
 pn:List (Addr×Obj)
 xe:Value->Xv->Prop
def jG(l:List Env):List Addr:=l.filterMap (·.frame)
abbrev Cx.fs(X:Cx):List Addr:=jG X.outer
def Pe(sc:Scope)(x:Str):Prop:=sc.names.lookup x=Δ .local\/sc.names.lookup x=Δ .cell\/sc.names.lookup x=Δ .free
def Loc(sc:Scope)(x:Str):Prop:=sc.names.lookup x=Δ .local\/sc.names.lookup x=Δ .cell
def Look(env:Env)(h:Heap)(m:Str->Option Value)(x:Str)(u:Value):Prop:=
 (env.kindOf x=Δ .local/\m x=Δ u)\/((env.kindOf x=Δ .cell\/env.kindOf x=Δ .free)/\∃c,env.cells.lookup x=Δ c/\h.IsCell c (Δ u))
structure Cx.Ok(X:Cx):Prop where
 mod:Mod X.K X.mg X.base
 kind:X.env.scope.kind=.function
 glob:X.env.globals=Xu
 blt:X.env.builtins=ab9
 above:X.gU.heap.objs.size<=X.env.locals
 inj:∀x y c,X.env.cells.lookup x=Δ c->X.env.cells.lookup y=Δ c->x=y
 has:∀x,(X.env.kindOf x=Δ .cell\/X.env.kindOf x=Δ .free)->∃c,X.env.cells.lookup x=Δ c
 LJ:∀x c,X.fn x=Λ->X.env.cells.lookup x=Δ c->X.gU.heap.objs.size<=c
 hd:X.calm=Λ->X.A.handled=Θ
 frames:X.A.frames=Δ X.stack
 Pf:X.stack=X.outer\/(X.stack=X.env::X.outer/\X.env.frame=Δ X.env.locals)
 T9:∀b∈X.ex,b≠X.env.locals/\∀x c,X.env.cells.lookup x=Δ c->c≠b
 bs:∀b o,X.base.get? b=Δ o->X.gU.heap.get? b=Δ o/\X.yR b=Θ
 ET:X.base.objs.size<=X.gU.heap.objs.size
 Dx:∀b o,X.base.get? b=Δ o->b∉X.ex
 E3:∀b∈X.ex,b∉X.fs
 mx:X.gU.heap.FunFrames X.base X.outer
 HZ:∀b∈X.fs,X.yR b=Θ
structure Inv(X:Cx)(η:List (Addr×Obj))(σ:List (Option V))(H:Hp)(s:Xv):Prop where
 ok:X.Ok
 os:s.os=X.gU.os
 bare:abK s.gens
 base:Un X.fs X.ex X.yR H X.gU.heap s.heap
 loc:∃m,s.heap.Ns X.env.locals m/\∀(i:Nat) (x:Str) (v:V),X.N[i]?=Δ x->σ[i]?=Δ (Δ v)->Pe X.env.scope x->∃u,RelV v u/\Look X.env s.heap m x u
 cell:∀x c,X.env.cells.lookup x=Δ c->∃v,s.heap.IsCell c v
 free:H X.env.locals=Θ
 j8:∀x c,X.env.cells.lookup x=Δ c->H c=Θ
 pin:∀p∈X.pn++η,s.heap.get? p.1=Δ p.2/\H p.1=Θ/\p.1≠X.env.locals/\p.1∉X.fs/\∀v,p.2.data≠.cell v
 aJ:ku X.prog X.w H s.heap
 len:σ.length=X.N.length
section
variable{X:Cx}{η:List (Addr×Obj)}{σ:List (Option V)}{H H':Hp}{s:Xv}{h':Heap}
theorem Cx.Ok.Ia(ok:X.Ok)(e:X.base.get? b=Δ o):b∉X.fs:=λhb=>by have:=(ok.mx.mem hb).1;rw[e] at this;cases this
theorem Inv.bs(I:Inv X η σ H s):∀b o,X.base.get? b=Δ o->s.heap.get? b=Δ o/\H b=Θ:=λb o e=>⟨I.base.keep b o (I.ok.bs b o e).1 (I.ok.bs b o e).2 (I.ok.Ia e) (I.ok.Dx b o e),I.base.free b o (I.ok.bs b o e).1 (I.ok.bs b o e).2 (I.ok.Dx b o e)⟩
theorem Inv.bk(I:Inv X η σ H s):∀b o,X.base.get? b=Δ o->s.heap.get? b=Δ o:=λb o e=>(I.bs b o e).1
theorem Inv.mod(I:Inv X η σ H s):Mod X.K X.mg X.base:=I.ok.mod
theorem Inv.nj(I:Inv X η σ H s):X.K.In s.heap:=I.ok.mod.LI.keeps I.bk
theorem Inv.lt(I:Inv X η σ H s):X.env.locals < s.heap.objs.size:=let ⟨_,hn,_⟩:=I.loc;hn.lt
theorem Inv.sz(I:Inv X η σ H s):X.gU.heap.objs.size<=s.heap.objs.size:=X5 I.ok.above (aay I.lt)
theorem Inv.Ua(I:Inv X η σ H s)(h:s.heap.objs.size<=a):a∉X.fs:=λhb=>by obtain⟨_,o,ho,_⟩:=I.ok.mx.mem hb;exact absurd (XD (Xs ho) (X5 I.sz h)) (Y3 _)
theorem Inv.KD(I:Inv X η σ H s):∀x c,X.env.cells.lookup x=Δ c->c≠X.env.locals:=λx c e z=>by obtain⟨v,o,ho,hd⟩:=I.cell x c e;obtain⟨m,⟨o',es,ep,oS,Cr,_⟩,_⟩:=I.loc;rw[z,oS] at ho;cases ho;rw[Cr] at hd;cases hd
theorem Inv.mx(I:Inv X η σ H s):s.heap.FunFrames X.base X.outer:=by
 have all:∀(l:List Env),(∀b∈jG l,b∈X.fs)->X.gU.heap.FunFrames X.base l->s.heap.FunFrames X.base l:=by intro l;induction l with|nil=>intro _ _;trivial|cons env r ih=>intro hs hl;obtain⟨hk,⟨L,o,hf,hn,ho,hd⟩,hr⟩:=hl;have hL:L∈X.fs:=hs L (by unfold jG;rw[Z4,hf];exact Xh);obtain⟨sl,e⟩:=I.base.slot L o ho (I.ok.HZ L hL) hL λz=>I.ok.E3 L z hL;exact⟨hk,⟨L,_,hf,hn,e,hd⟩,ih (λb hb=>hs b (by unfold jG;rw[Z4,hf];exact Xb _ hb)) hr⟩
 exact all X.outer (λ_ hb=>hb) I.ok.mx
theorem Inv.stack(I:Inv X η σ H s):s.heap.FunFrames X.base X.stack:=by
 rcases I.ok.Pf with e|⟨e,hf⟩;·rw[e];exact I.mx
 ·rw[e];obtain⟨m,hn,_⟩:=I.loc;refine .cons (by rw[I.ok.kind];decide) hf hn ?_ I.mx;exact Heap.get?_none_of_le (X5 I.ok.ET I.ok.above)
theorem Inv.oT(I:Inv X η σ H s):∀b∈jG X.stack,b∈X.env.locals::X.fs:=λb hb=>by
 rcases I.ok.Pf with e|⟨e,hf⟩;·rw[e] at hb;exact Xb _ hb
 ·rw[e] at hb;unfold jG at hb;rw[Z4,hf] at hb;exact hb
theorem Inv.nk(I:Inv X η σ H s):∀b∈jG X.stack,H b=Θ:=λb hb=>by
 rcases aai.mp (I.oT b hb) with e|hb;·rw[e];exact I.free
 ·obtain⟨_,o,ho,_⟩:=I.ok.mx.mem hb;exact I.base.free b o ho (I.ok.HZ b hb) λz=>I.ok.E3 b z hb
theorem Inv.step{ch:List Addr}(I:Inv X η σ H s)(HG:∀b∈ch,(b∈X.ex\/X.gU.heap.objs.size<=b)/\b≠X.env.locals/\(∀x c,X.env.cells.lookup x=Δ c->c≠b)/\∀p∈X.pn++η,p.1≠b)(keep:∀b o,b≠X.env.locals->b∉X.fs->b∉ch->s.heap.get? b=Δ o->H b=Θ->h'.get? b=Δ o)(slot:∀b o,b≠X.env.locals->b∈X.fs->b∉ch->s.heap.get? b=Δ o->H b=Θ->∃sl,h'.get? b=Δ {o with slots:=sl})(free:∀b o,b∉ch->s.heap.get? b=Δ o->H b=Θ->H' b=Θ)(there:∀b o,b∉ch->s.heap.get? b=Δ o->∃o',h'.get? b=Δ o')(sx:∀b xs,H b=Δ (.tup xs)->H' b=Δ (.tup xs))(oR:∀b o u,H b=Δ (.dA o u)->H' b=Δ (.dA o u))(qQ:∀b ps,H b=Δ (.fG ps)->∃more,H' b=Δ (.fG (ps++more)))(ns:∀m,s.heap.Ns X.env.locals m->h'.Ns X.env.locals m)(aJ:ku X.prog X.w H' h')(hg:abK g'):
  Inv X η σ H' {s with heap:=h',gens:=g',drawn:=d',toks:=t'}:=by
 have neL:∀b o,X.gU.heap.get? b=Δ o->b≠X.env.locals:=λb o e=>XR (XD (Xs e) I.ok.above);have SF:∀b o,X.gU.heap.get? b=Δ o->b∉X.ex->b∉ch:=λb o e hx hb=>by
  rcases(HG b hb).1 with z|z;·exact hx z
  ·exact absurd (XD (Xs e) z) (Y3 _)
 have cellK:∀x c,X.env.cells.lookup x=Δ c->∀v,s.heap.IsCell c v->h'.IsCell c v:=λx c e v ⟨o,ho,hd⟩=>by
  have Pg:c∉ch:=λz=>(HG c z).2.2.1 x c e rfl;by_cases hc:c∈X.fs;·obtain⟨sl,q⟩:=slot c o (I.KD x c e) hc Pg ho (I.j8 x c e);exact⟨_,q,hd⟩
  ·exact⟨o,keep c o (I.KD x c e) hc Pg ho (I.j8 x c e),hd⟩
 refine⟨I.ok,I.os,hg,⟨λb o e n hb hx=>?_,λb o e n hb hx=>?_,λb o e n hx=>?_,λb o e hx=>?_,λb xs e=>sx b xs (I.base.sx b xs e),λb o xs e=>oR b o xs (I.base.oR b o xs e),λb ps e=>?_⟩,?_,λx c e=>?_,?_,λx c e=>?_,λp hp=>?_,aJ,I.len⟩;·exact keep b o (neL b o e) hb (SF b o e hx) (I.base.keep b o e n hb hx) (I.base.free b o e n hx)
 ·obtain⟨sl,e1⟩:=I.base.slot b o e n hb hx;obtain⟨sl',e2⟩:=slot b _ (neL b o e) hb (SF b o e hx) e1 (I.base.free b o e n hx);exact⟨sl',e2⟩
 ·obtain⟨o',e1⟩:=I.base.there b o e hx;exact free b o' (SF b o e hx) e1 (I.base.free b o e n hx)
 ·obtain⟨o',e1⟩:=I.base.there b o e hx;exact there b o' (SF b o e hx) e1
 ·obtain⟨m1,e1⟩:=I.base.qQ b ps e;obtain⟨m2,e2⟩:=qQ b _ e1;exact⟨m1++m2,by rw[e2,Array.append_assoc]⟩
 ·obtain⟨m,hn,hl⟩:=I.loc;refine⟨m,ns m hn,λi x v e1 e2 e3=>?_⟩;obtain⟨u,r,l⟩:=hl i x v e1 e2 e3;refine⟨u,r,?_⟩;rcases l with l|⟨k,c,e,z⟩;·exact .inl l
  ·exact .inr ⟨k,c,e,cellK x c e _ z⟩
 ·obtain⟨v,z⟩:=I.cell x c e;exact⟨v,cellK x c e v z⟩
 ·obtain⟨m,⟨o,_,_,ho,_⟩,_⟩:=I.loc;exact free _ o (λz=>(HG _ z).2.1 rfl) ho I.free
 ·obtain⟨v,o,ho,hd⟩:=I.cell x c e;exact free c o (λz=>(HG c z).2.2.1 x c e rfl) ho (I.j8 x c e)
 ·obtain⟨e,n,ne,nf,d⟩:=I.pin p hp;have Pg:p.1∉ch:=λz=>(HG p.1 z).2.2.2 p hp rfl;exact⟨keep p.1 p.2 ne nf Pg e n,free p.1 p.2 Pg e n,ne,nf,d⟩
theorem Inv.un(I:Inv X η σ H s)(u:Un X.fs [] H H' s.heap h')(aJ:ku X.prog X.w H' h'):Inv X η σ H' {s with heap:=h',toks:=t'}:=by obtain⟨m,⟨o,es,ep,ho,r⟩,_⟩:=id I.loc;obtain⟨sl,hL⟩:=u.any ho I.free (by simp);exact I.step (g':=s.gens) (d':=s.drawn) (ch:=[]) (λ_ z=>nomatch z) (λb o _ hb _ e n=>u.keep b o e n hb (by simp)) (λb o _ hb _ e n=>u.slot b o e n hb (by simp)) (λb o _ e n=>u.free b o e n (by simp)) (λb o _ e=>u.there b o e (by simp)) u.sx u.oR u.qQ (λm' hm=>by obtain⟨o',SG,SH,oS,r'⟩:=hm;rw[ho] at oS;cases oS;exact⟨_,SG,SH,hL,r'⟩) aJ I.bare
theorem Inv.call(I:Inv X η σ H s)(u:Un (jG X.stack) ch H H' s.heap h')(aJ:ku X.prog X.w H' h')(hg:abK g')(HG:∀b∈ch,(b∈X.ex\/X.gU.heap.objs.size<=b)/\b≠X.env.locals/\(∀x c,X.env.cells.lookup x=Δ c->c≠b)/\∀p∈X.pn++η,p.1≠b):
  Inv X η σ H' {s with heap:=h',gens:=g',drawn:=d',toks:=t'}:=by
 obtain⟨m,⟨o,es,ep,ho,r⟩,_⟩:=id I.loc;obtain⟨sl,hL⟩:=u.any ho I.free λz=>(HG _ z).2.1 rfl;exact I.step (ch:=ch) HG (λb o hL hb hc e n=>u.keep b o e n (λz=>(aai.mp (I.oT b z)).elim hL hb) hc) (λb o _ _ hc e n=>u.any e n hc) (λb o hc e n=>u.free b o e n hc) (λb o hc e=>u.there b o e hc) u.sx u.oR u.qQ (λm' hm=>by obtain⟨o',SG,SH,oS,r'⟩:=hm;rw[ho] at oS;cases oS;exact⟨_,SG,SH,hL,r'⟩) aJ hg
theorem Inv.turned(I:Inv X η σ H s)(k:∀b o,b≠it->s.heap.get? b=Δ o->h'.get? b=Δ o)(hn:H it=Θ)(hL:it≠X.env.locals)(h1:it∈X.ex\/X.gU.heap.objs.size<=it)(h2:∀x c,X.env.cells.lookup x=Δ c->c≠it)(h3:∀p∈X.pn++η,p.1≠it):Inv X η σ H {s with heap:=h',toks:=t'}:=by
 have E4:∀b u,H b=Δ u->b≠it:=λb u e z=>by rw[z,hn] at e;cases e
 refine I.step (g':=s.gens) (d':=s.drawn) (ch:=[it]) (λb hb=>?_) (λb o _ _ hc e _=>k b o (λz=>hc (by simp[z])) e) (λb o _ _ hc e _=>⟨o.slots,k b o (λz=>hc (by simp[z])) e⟩) (λ_ _ _ _ n=>n)
  (λb o hc e=>⟨o,k b o (λz=>hc (by simp[z])) e⟩) (λ_ _ e=>e) (λ_ _ _ e=>e) (λb ps e=>⟨#[],by rw[e];simp⟩) (λm hm=>?_) (λb u e=>?_) I.bare
 ·have e:b=it:=by simpa using hb
  subst e;exact⟨h1,hL,h2,h3⟩
 ·obtain⟨o,es,ep,ho,r⟩:=hm;exact⟨o,es,ep,k _ o (Yj hL) ho,r⟩
 ·refine(I.aJ b u e).ni (λc v hc q=>k c v ?_ q) (λ_ q=>q) λ_ _ q=>q;rcases hc with z|z;·rw[z];exact E4 b u e
  ·exact E4 c _ z
theorem Inv.tok(I:Inv X η σ H s)t:Inv X η σ H {s with toks:=t}:=I.un (h':=s.heap) (t':=t) Un.refl I.aJ
theorem Inv.kept(I:Inv X η σ H s)(k:∀b u,s.heap.get? b=Δ u->h'.get? b=Δ u):Inv X η σ H {s with heap:=h',toks:=t'}:=I.un (Un.kept k) (I.aJ.kept k)
theorem Inv.laid(I:Inv X η σ H s)(k:∀b u,s.heap.get? b=Δ u->h'.get? b=Δ u)(hp:s.heap.objs.size<=a)(new:bG X.prog X.w (upd H a o) h' a o):
  Inv X η σ (upd H a o) {s with heap:=h',toks:=t'}:=I.un (Un.laid k hp (I.aJ.fresh hp)) (I.aJ.laid k hp new)
theorem Inv.write(I:Inv X η σ H s)(mu:Pc (H x))(he:e=x\/H e=Δ (.own x))(k:∀b u,b≠e->s.heap.get? b=Δ u->h'.get? b=Δ u)(OM:∃u,h'.get? e=Δ u)(new:bG X.prog X.w (upd H x o) h' x o):Inv X η σ (upd H x o) {s with heap:=h',toks:=t'}:=I.un (Un.write mu he k OM) (I.aJ.write mu he k OM new)
theorem Inv.Cs(I:Inv X η σ H s)(h:∀p∈Ph,s.heap.get? p.1=Δ p.2/\H p.1=Θ/\p.1≠X.env.locals/\p.1∉X.fs/\∀v,p.2.data≠.cell v):Inv X Ph σ H s:=
 ⟨I.ok,I.os,I.bare,I.base,I.loc,I.cell,I.free,I.j8,λp hp=>(Zq.mp hp).elim (λz=>I.pin p (Yw _ z)) (h p),I.aJ,I.len⟩
theorem ky{N:List Str}(hN:N.Nodup){i j:Nat}(a:N[i]?=Δ x)(b:N[j]?=Δ x):i=j:=by obtain⟨h1,e1⟩:=qqz a;obtain⟨h2,e2⟩:=qqz b;exact(List.getElem_inj hN).mp (e1.trans e2.symm)
theorem Dy(I:Inv X η σ H s)(hN:X.N.Nodup)(hi:X.N[i]?=Δ x)(hx:Loc X.env.scope x)(r:RelV v u)(h:∀s',Inv X η (σ.set i (Δ v)) H s'->(∃a,ZW a s.heap s'.heap/\(a=X.env.locals\/X.env.cells.lookup x=Δ a))->Q () s')(hf:X.fn x=Λ\/X.env.scope.names.lookup x=Δ .local:=by first|exact .inl rfl|exact .inr rfl|assumption):wpAny M A (storeName X.env x u) Q E s:=by
 obtain⟨m,hn,hl⟩:=id I.loc;have Ub:(X.env.scope.kind==.class||(X.env.scope.kind==.module&&X.env.locals !=X.env.globals))=Ξ:=by rw[I.ok.kind];rfl
 have Pj:i < σ.length:=by rw[I.len];exact(qqz hi).1
 have KD:=I.KD;have tracked:∀{a:Addr} {h':Heap},(∃o,s.heap.get? a=Δ o/\H a=Θ)->ZW a s.heap h'->ku X.prog X.w H h':=λ{a h'} ha hs b ob e=>by
  obtain⟨_,_,yS⟩:=ha;refine(I.aJ b ob e).ni (λc w' hc q=>(hs.2 c ?_).trans q) (λ_ q=>q) λ_ _ q=>q;rintro rfl;rcases hc with rfl|hc;·rw[yS] at e;cases e
  ·rw[yS] at hc;cases hc
 rcases hx with hk|hk
 ·refine wpAny_storeName_local hk hn (λh' E5 hs=>?_) Ub;obtain⟨oL,_,_,hoL,_⟩:=id hn;refine h _ ⟨I.ok,I.os,I.bare,⟨λb o e n hb hx=>?_,λb o e n hb hx=>?_,I.base.free,λb o e hx=>?_,I.base.sx,I.base.oR,I.base.qQ⟩,⟨_,E5,λj y v' e1 e2 e3=>?_⟩,λy c e=>?_,I.free,I.j8,λp hp=>?_,tracked ⟨oL,hoL,I.free⟩ hs,by simpa using I.len⟩ ⟨_,hs,.inl rfl⟩;·exact(hs.2 b (XR (XD (Xs e) I.ok.above))).trans (I.base.keep b o e n hb hx)
  ·obtain⟨sl,e1⟩:=I.base.slot b o e n hb hx;exact⟨sl,(hs.2 b (XR (XD (Xs e) I.ok.above))).trans e1⟩
  ·obtain⟨o',e1⟩:=I.base.there b o e hx;exact⟨o',(hs.2 b (XR (XD (Xs e) I.ok.above))).trans e1⟩
  ·by_cases hj:j=i;·subst hj;rw[hi] at e1;cases e1;rw[XC Pj] at e2;cases e2;exact⟨u,r,.inl ⟨hk,by simp⟩⟩
   ·rw[Xe (Yj hj)] at e2;obtain⟨u',r',q⟩:=hl j y v' e1 e2 e3;refine⟨u',r',?_⟩;rcases q with ⟨k,e⟩|⟨k,c,e,z⟩
    ·refine .inl ⟨k,?_⟩;have:y≠x:=λe=>hj (ky hN e1 (e▸hi));simp[this,e]
    ·exact .inr ⟨k,c,e,z.sameBut hs (KD y c e)⟩
  ·obtain⟨w',z⟩:=I.cell y c e;exact⟨w',z.sameBut hs (KD y c e)⟩
  ·obtain⟨e,n,ne,nf,d⟩:=I.pin p hp;exact⟨(hs.2 p.1 ne).trans e,n,ne,nf,d⟩
 ·have EU:X.fn x=Λ:=by
   rcases hf with z|z;·exact z
   ·rw[z] at hk;cases hk
  obtain⟨c,hc⟩:=I.ok.has x (.inl hk);obtain⟨w',z⟩:=I.cell x c hc;refine wpAny_storeName_cell I.ok.kind hk hc z (λh' Ct hs=>?_);obtain⟨oc,LK,Uc⟩:=id z;refine h {s with heap:=h'} ⟨I.ok,I.os,I.bare,⟨λb o e n hb hx=>?_,λb o e n hb hx=>?_,I.base.free,λb o e hx=>?_,I.base.sx,I.base.oR,I.base.qQ⟩,⟨m,hn.sameBut hs (Yj (KD x c hc)),λj y v' e1 e2 e3=>?_⟩,λy c' e=>?_,I.free,I.j8,λp hp=>?_,tracked ⟨oc,LK,I.j8 x c hc⟩ hs,by simpa using I.len⟩ ⟨c,hs,.inr hc⟩;·exact(hs.2 b (XR (XD (Xs e) (I.ok.LJ x c EU hc)))).trans (I.base.keep b o e n hb hx)
  ·obtain⟨sl,e1⟩:=I.base.slot b o e n hb hx;exact⟨sl,(hs.2 b (XR (XD (Xs e) (I.ok.LJ x c EU hc)))).trans e1⟩
  ·obtain⟨o',e1⟩:=I.base.there b o e hx;exact⟨o',(hs.2 b (XR (XD (Xs e) (I.ok.LJ x c EU hc)))).trans e1⟩
  ·by_cases hj:j=i;·subst hj;rw[hi] at e1;cases e1;rw[XC Pj] at e2;cases e2;exact⟨u,r,.inr ⟨.inl hk,c,hc,Ct⟩⟩
   ·rw[Xe (Yj hj)] at e2;obtain⟨u',r',q⟩:=hl j y v' e1 e2 e3;refine⟨u',r',?_⟩;rcases q with q|⟨k,c',e,z'⟩;·exact .inl q
    ·refine .inr ⟨k,c',e,z'.sameBut hs ?_⟩;rintro rfl;exact hj (ky hN e1 (I.ok.inj _ _ _ e hc▸hi))
  ·by_cases EV:c'=c;·subst EV;exact⟨_,Ct⟩
   ·obtain⟨w2,z2⟩:=I.cell y c' e;exact⟨w2,z2.sameBut hs EV⟩
  ·obtain⟨e,n,ne,nf,d⟩:=I.pin p hp;refine⟨(hs.2 p.1 ?_).trans e,n,ne,nf,d⟩;intro q;rw[q,LK] at e;have q':oc=p.2:=XU e;exact d w' (by rw[<-q'];exact Uc)
theorem nq(I:Inv X η σ H s)(hN:X.N.Nodup)(hi:X.N[i]?=Δ x)(hx:Loc X.env.scope x)(r:RelV v u)(h:∀s',Inv X η (σ.set i (Δ v)) H s'->Q () s')(hf:X.fn x=Λ\/X.env.scope.names.lookup x=Δ .local:=by first|exact .inl rfl|exact .inr rfl|assumption):wpAny M A (storeName X.env x u) Q E s:=
 Dy I hN hi hx r (λs' I' _=>h s' I') hf
theorem Inv.E6(I:Inv X η σ H s)(ho:s'.os=s.os)(u:Un (jG X.stack) ch H H' s.heap s'.heap)(aJ:ku X.prog X.w H' s'.heap)(hg:abK s'.gens)(HG:∀b∈ch,(b∈X.ex\/X.gU.heap.objs.size<=b)/\b≠X.env.locals/\(∀x c,X.env.cells.lookup x=Δ c->c≠b)/\∀p∈X.pn++η,p.1≠b):Inv X η σ H' s':=by obtain⟨h',g',d',t',o'⟩:=s';have e:o'=s.os:=ho;subst e;exact I.call (g':=g') (t':=t') (d':=d') u aJ hg HG
end
abbrev XK:=Value->Option Addr->Hp->Prop
abbrev St:=List (Option V)
abbrev VK:=V->Hp->Prop
abbrev TE:=St->Hp->VK->Prop
abbrev TT:=St->Hp->(Bool->Hp->Prop)->Prop
abbrev TA:=St->Hp->(List V->Hp->Prop)->Prop
structure Ends where
 nx:St->Hp->Prop
 rt:VK
 bk:St->Hp->Prop:=λ_ _=>False
 ct:St->Hp->Prop:=λ_ _=>False
abbrev TS:=Ends->St->Hp->Prop
inductive EP (X:Cx) (η:List (Addr×Obj)) (σ:St) (Q:VK) (u:Value) (s':Xv):Prop
 |mk (v:V) (H':Hp) (a:Inv X η σ H' s') (b:RelV v u) (c:Q v H'):EP X η σ Q u s'
inductive TP (X:Cx) (η:List (Addr×Obj)) (σ:St) (Q:Bool->Hp->Prop) (b:Bool) (s':Xv):Prop
 |mk (H':Hp) (a:Inv X η σ H' s') (c:Q b H'):TP X η σ Q b s'
inductive AP (X:Cx) (η:List (Addr×Obj)) (σ:St) (Q:List V->Hp->Prop) (us:List Value) (s':Xv):Prop
 |mk (vs:List V) (H':Hp) (a:Inv X η σ H' s') (b:aS vs us) (c:Q vs H'):AP X η σ Q us s'
def SP(X:Cx)(η:List (Addr×Obj))(D:Ends)(f:Flow)(s':Xv):Prop:=
 match f with|.next=>∃cQ H',Inv X η cQ H' s'/\D.nx cQ H'|.brk=>∃cQ H',Inv X η cQ H' s'/\D.bk cQ H'|.cont=>∃cQ H',Inv X η cQ H' s'/\D.ct cQ H'|.ret u=>∃v cQ H',Inv X η cQ H' s'/\RelV v u/\D.rt v H'
noncomputable def PE(X:Cx)(e:Expr)(t:TE):Prop:=
 ∀(η:List (Addr×Obj)) (s:Xv) (σ:St) (H:Hp) (Q:VK),Inv X η σ H s->t σ H Q->wpAny (model X.prog X.w) X.A (eval e X.env) (EP X η σ Q) X.xe s
noncomputable def PT(X:Cx)(e:Expr)(t:TT):Prop:=
 ∀(η:List (Addr×Obj)) (s:Xv) (σ:St) (H:Hp) (Q:Bool->Hp->Prop),Inv X η σ H s->t σ H Q->wpAny (model X.prog X.w) X.A (acQ e X.env (eval e X.env)) (TP X η σ Q) X.xe s
noncomputable def PW(X:Cx)(e:Expr)(t:TT):Prop:=
 ∀(whole:Sem Value) (η:List (Addr×Obj)) (s:Xv) (σ:St) (H:Hp) (Q:Bool->Hp->Prop),Inv X η σ H s->t σ H Q->wpAny (model X.prog X.w) X.A (acQ e X.env whole) (TP X η σ Q) X.xe s
theorem PW.pt(h:PW X e t):PT X e t:=h _
noncomputable def PA(X:Cx)(es:List Expr)(t:TA):Prop:=
 ∀(pos:Pos) (η:List (Addr×Obj)) (s:Xv) (σ:St) (H:Hp) (Q:List V->Hp->Prop),Inv X η σ H s->t σ H Q->wpAny (model X.prog X.w) X.A (spliced (Zm pos (XO es X.env))) (AP X η σ Q) X.xe s
def PS(X:Cx)(st:Stmt)(t:TS):Prop:=
 ∀(η:List (Addr×Obj)) (s:Xv) (σ:St) (H:Hp) (D:Ends),Inv X η σ H s->t D σ H->wpAny (model X.prog X.w) X.A (exec st X.env) (SP X η D) X.xe s
def my(X:Cx)(st:List Stmt)(t:TS):Prop:=
 ∀(η:List (Addr×Obj)) (s:Xv) (σ:St) (H:Hp) (D:Ends),Inv X η σ H s->t D σ H->wpAny (model X.prog X.w) X.A (execs st X.env) (SP X η D) X.xe s
theorem bS(h:wpAny M A t Q E s)(hQ:∀a s,Q a s->Q' a s):wpAny M A t Q' E s:=YY h hQ λ_ _ x=>x
section
variable{X:Cx}
theorem bin(ha:PE X a ta)(hb:PE X b tb){R:V->V->Hp->Prop}(I:Inv X η σ H s)(h:ta σ H λx H1=>tb σ H1 λy H2=>R x y H2){α:Type}{Q:α->Xv->Prop}{f:Value->Value->Sem α}(hf:∀v u s2 x y H2,Inv X η σ H2 s2->RelV x v->RelV y u->R x y H2->wpAny (model X.prog X.w) X.A (f v u) Q X.xe s2):
  wpAny (model X.prog X.w) X.A (eval a X.env) (λv bA=>wpAny (model X.prog X.w) X.A (eval b X.env) (λu vg=>wpAny (model X.prog X.w) X.A (f v u) Q X.xe vg) X.xe bA) X.xe s:=by
 refine bS (ha η s σ H _ I h) λv s1 ⟨x,H1,I1,r1,q1⟩=>?_;refine bS (hb η s1 σ H1 _ I1 q1) λu s2 ⟨y,H2,I2,r2,q2⟩=>?_;exact hf v u s2 x y H2 I2 r1 r2 q2
def Ud(i:Nat):TE:=λσ H Q=>∃v,σ[i]?=Δ (Δ v)/\Q v H
def tC(v:V):TE:=λ_ H Q=>Q v H
theorem Ba(hN:X.N[i]?=Δ x)(hv:Pe X.env.scope x)(hd:(x==("__debug__":Str))=Ξ:=by decide)(qi:(x==("__classdict__":Str))=Ξ:=by decide):PE X (.Name x pos) (Ud i):=by
 intro η s σ H Q I h;obtain⟨v,e,h⟩:=h;obtain⟨m,hn,hl⟩:=I.loc;obtain⟨u,r,l⟩:=hl i x v hN e hv;have fin:EP X η σ Q u s:=⟨v,H,I,r,h⟩;rcases l with ⟨hk,hm⟩|⟨hk,c,hc,nr⟩
 ·exact acY (wpAny_loadName_local I.ok.kind hk hn hm fin) hd
 ·rcases hk with hk|hk;·exact acY (wpAny_loadName_cell I.ok.kind hk hc nr fin) hd
  ·exact acY (wpAny_loadName_free I.ok.kind hk hc nr fin qi) hd
theorem E7{i j pos}:PE X (.Constant (.int i) j pos) (tC (.int i)):=λ_ _ _ H _ I h=>wpAny_Constant_int ⟨.int i,H,I.tok _,⟨_,rfl⟩,h⟩
theorem KE{b j pos}:PE X (.Constant (.bool b) j pos) (tC (.bl b)):=λ_ _ _ H _ I h=>Constant_bool ⟨.bl b,H,I,rfl,h⟩
theorem E8{j pos}:PE X (.Constant .none j pos) (tC .bz):=λ_ _ _ H _ I h=>Constant_none ⟨.bz,H,I,rfl,h⟩
theorem E9{x j pos}:PE X (.Constant (.str x) j pos) (tC (.str x)):=λ_ _ _ H _ I h=>Calls.Constant_str ⟨.str x,H,I.tok _,⟨_,rfl⟩,h⟩
def Gl(X:Cx)(x:Str):Prop:=X.env.kindOf x=Δ .globalImplicit
theorem nu(I:Inv X η σ H s)(hg:Gl X x)(hm:X.mg x=Δ u)(h:Q u s)(hd:(x==("__debug__":Str))=Ξ:=by decide):wpAny (model X.prog X.w) X.A (eval (.Name x pos) X.env) Q E s:=
 Calls.Name_function_global I.ok.kind hg (Calls.loadGlobal_global (by rw[I.ok.glob];exact I.mod.glob.keeps I.bk) hm h) hd
theorem jH(I:Inv X η σ H s)(hg:Gl X x)(hm:X.mg x=Θ)(hv:aaw x=Δ u)(h:Q u s)(hn:x≠"__name__":=by decide)(hd:(x==("__debug__":Str))=Ξ:=by decide):wpAny (model X.prog X.w) X.A (eval (.Name x pos) X.env) Q E s:=by obtain⟨mb,h1,h2⟩:=I.mod.blt;exact Calls.Name_function_global I.ok.kind hg (Calls.loadGlobal_builtin (by rw[I.ok.glob];exact I.mod.glob.keeps I.bk) hm (by rw[I.ok.blt];exact h1.keeps I.bk) ((h2 x hn).trans hv) h) hd
theorem Ib(hg:Gl X x)(hm:X.mg x=Δ u)(r:RelV v u)(hd:(x==("__debug__":Str))=Ξ:=by decide):PE X (.Name x pos) (tC v):=
 λ_ _ _ H _ I h=>nu I hg hm ⟨v,H,I,r,h⟩ hd
theorem Ic(hg:Gl X x)(hm:X.mg x=Θ)(hv:aaw x=Δ u)(r:RelV v u)(hn:x≠"__name__":=by decide)(hd:(x==("__debug__":Str))=Ξ:=by decide):PE X (.Name x pos) (tC v):=
 λ_ _ _ H _ I h=>jH I hg hm hv ⟨v,H,I,r,h⟩ hn hd
variable{a b:Expr}{ta tb:TE}{pos:Pos}
variable{tA SI:TT}{rest:List Expr}
def Ue(t u:TT):TT:=λσ H Q=>t σ H λc H1=>if c=Λ then u σ H1 Q else Q Ξ H1
def tOr(t u:TT):TT:=λσ H Q=>t σ H λc H1=>if c=Λ then Q Λ H1 else u σ H1 Q
def Ug(t:TT):TT:=λσ H Q=>t σ H λc H1=>Q (!c) H1
theorem pw_and1(ha:PT X a tA):PW X (.BoolOp .And [a] pos) tA:=by intro wh η s σ H Q I h;refine isTrue_and (bS (ha η s σ H Q I h) λc s1 e=>?_);cases c with|true=>exact isTrue_and_nil e|false=>exact e
theorem pw_or1(ha:PT X a tA):PW X (.BoolOp .Or [a] pos) tA:=by intro wh η s σ H Q I h;refine isTrue_or (bS (ha η s σ H Q I h) λc s1 e=>?_);cases c with|false=>exact isTrue_or_nil e|true=>exact e
theorem pw_and(ha:PT X a tA)(hb:PW X (.BoolOp .And (b::rest) pos) SI):PW X (.BoolOp .And (a::b::rest) pos) (Ue tA SI):=by intro wh η s σ H Q I h;refine isTrue_and (bS (ha η s σ H _ I h) λc s1 ⟨H1,I1,q1⟩=>?_);cases c with|true=>exact hb wh η s1 σ H1 Q I1 q1|false=>exact⟨H1,I1,q1⟩
theorem pw_or(ha:PT X a tA)(hb:PW X (.BoolOp .Or (b::rest) pos) SI):PW X (.BoolOp .Or (a::b::rest) pos) (tOr tA SI):=by intro wh η s σ H Q I h;refine isTrue_or (bS (ha η s σ H _ I h) λc s1 ⟨H1,I1,q1⟩=>?_);cases c with|true=>exact⟨H1,I1,q1⟩|false=>exact hb wh η s1 σ H1 Q I1 q1
theorem LL(ha:PT X a tA):PT X (.UnaryOp .Not a pos) (Ug tA):=by intro η s σ H Q I h;exact isTrue_not (bS (ha η s σ H (λc H1=>Q (!c) H1) I h) λc s1 ⟨H1,I1,q⟩=>⟨H1,I1,q⟩)
def Pk(ta tb:TE):TE:=λσ H Q=>ta σ H λx H1=>∃c,x=.bl c/\if c=Λ then tb σ H1 Q else Q (.bl Ξ) H1
def Uh(ta tb:TE):TE:=λσ H Q=>ta σ H λx H1=>∃c,x=.bl c/\if c=Λ then Q (.bl Λ) H1 else tb σ H1 Q
theorem Fb{op}(h:PE X a t):PE X (.BoolOp op [a] pos) t:=λη s σ H Q I hw=>BoolOp_one (h η s σ H Q I hw)
theorem LM(ha:PE X a ta)(hb:PE X (.BoolOp .And (b::rest) pos) tb):PE X (.BoolOp .And (a::b::rest) pos) (Pk ta tb):=by intro η s σ H Q I h;refine BoolOp_and (bS (ha η s σ H _ I h) λv s1 ⟨x,H1,I1,r1,q1⟩=>?_);obtain⟨c,rfl,q1⟩:=q1;cases r1;refine Y4 ?_;cases c with|true=>exact hb η s1 σ H1 Q I1 q1|false=>exact⟨.bl Ξ,H1,I1,rfl,q1⟩
theorem Pl(ha:PE X a ta)(hb:PE X (.BoolOp .Or (b::rest) pos) tb):PE X (.BoolOp .Or (a::b::rest) pos) (Uh ta tb):=by intro η s σ H Q I h;refine BoolOp_or (bS (ha η s σ H _ I h) λv s1 ⟨x,H1,I1,r1,q1⟩=>?_);obtain⟨c,rfl,q1⟩:=q1;cases r1;refine Y4 ?_;cases c with|false=>exact hb η s1 σ H1 Q I1 q1|true=>exact⟨.bl Λ,H1,I1,rfl,q1⟩
end
def lT(K:Xm)(H:Hp)(a:Addr)(xs:List V):Prop:=
 Rd H a (.lst xs)\/
  ∃(o:Obj) (its:Array Value) (n:Nat),K.lookup a=Δ o/\o.cls=.type "list"/\o.dict=Θ/\o.data=.seq its n/\its.size<=XE/\aS xs its.toList
def fH(K:Xm)(H:Hp)(a:Addr)(xs:List V):Prop:=
 Rd H a (.tup xs)\/
  ∃(o:Obj) (its:Array Value) (n:Nat),K.lookup a=Δ o/\o.cls=.type "tuple"/\o.data=.seq its n/\its.size<=XE/\aS xs its.toList
noncomputable def Ui:Value->Option V
 |.none=>Δ .bz|.bool b=>Δ (.bl b)|.int i _=>Δ (.int i)|.str x _=>Δ (.str x)|.bytes b _=>Δ (.OL b)|.float b _=>Δ (.LF b)|.ref a=>Δ (.ref a)|.type n=>Δ (.ty n)|_=>Θ
theorem RelV.abs(r:RelV x u):Ui u=Δ x:=by cases x with|bz=>cases r;rfl|bl _=>cases r;rfl|int _=>obtain⟨t,rfl⟩:=r;rfl|str _=>obtain⟨t,rfl⟩:=r;rfl|OL _=>obtain⟨t,rfl⟩:=r;rfl|LF _=>obtain⟨t,rfl⟩:=r;rfl|ref _=>cases r;rfl|ty _=>cases r;rfl
theorem RelV.inj(r:RelV x u)(q:RelV y u):x=y:=XU (r.abs.symm.trans q.abs)
theorem aS.inj:∀{xs ys} {us},aS xs us->aS ys us->xs=ys
 |_,_,_,.nil,.nil=>rfl|_,_,_,.cons r t,.cons r' t'=>by rw[r.inj r',aS.inj t t']
section
variable{X:Cx}{η:List (Addr×Obj)}{σ:St}{H:Hp}{s:Xv}{a:Addr}{xs ys:List V}
theorem fH.of{K:Xm}(h:H a=Δ (.tup xs)):fH K H a xs:=.inl (.inl h)
theorem Inv.list(I:Inv X η σ H s)(h:lT X.K H a xs):∃its,aS xs its/\PlainL s.heap a its.toArray/\xs.length<=XE:=by
 rcases h with h|⟨o,its,n,hk,hc,hd,hs,hz,r⟩;·obtain⟨z,its,n,r,e⟩:=h.ok I.aJ;exact⟨its,r,⟨_,n,e,rfl,rfl,rfl⟩,z⟩
 ·refine⟨its.toList,r,⟨o,n,I.nj a o hk,hc,hd,by simpa using hs⟩,?_⟩;have e:=r.length;simp only[Zs] at e
  lia
theorem Inv.tuple(I:Inv X η σ H s)(h:fH X.K H a xs):∃its,aS xs its/\IsTup s.heap a its.toArray/\xs.length<=XE:=by
 rcases h with h|⟨o,its,n,hk,hc,hs,hz,r⟩;·obtain⟨z,its,r,p⟩:=h.ok I.aJ;exact⟨its,r,p,z⟩
 ·refine⟨its.toList,r,⟨o,I.nj a o hk,hc,n,by simpa using hs⟩,?_⟩;have e:=r.length;simp only[Zs] at e
  lia
theorem Inv.yT(I:Inv X η σ H s)(h:lT X.K H a xs)(h':lT X.K H a ys):xs=ys:=by
 obtain⟨its,r,⟨o,n,e,_,_,d⟩,_⟩:=I.list h;obtain⟨its',r',⟨o',n',e',_,_,d'⟩,_⟩:=I.list h';rw[e] at e';cases e';rw[d] at d';injection d' with d1 _;have:its=its':=by simpa using congrArg Array.toList d1
 subst this;exact r.inj r'
theorem Inv.vV(I:Inv X η σ H s)(h:fH X.K H a xs)(h':fH X.K H a ys):xs=ys:=by
 obtain⟨its,r,⟨o,e,_,n,d⟩,_⟩:=I.tuple h;obtain⟨its',r',⟨o',e',_,n',d'⟩,_⟩:=I.tuple h';rw[e] at e';cases e';rw[d] at d';injection d' with d1 _;have:its=its':=by simpa using congrArg Array.toList d1
 subst this;exact r.inj r'
end
abbrev Cx.sA(X:Cx)(E:Value->Xv->Prop):Cx:={X with xe:=E}
abbrev Cx.EW(X:Cx):Cx:=X.sA λ_ _=>False
theorem Cx.Ok.sA{X:Cx}(ok:X.Ok)E:(X.sA E).Ok:=
 ⟨ok.mod,ok.kind,ok.glob,ok.blt,ok.above,ok.inj,ok.has,ok.LJ,ok.hd,ok.frames,ok.Pf,ok.T9,ok.bs,ok.ET,ok.Dx,ok.E3,ok.mx,ok.HZ⟩
theorem Cx.Ok.jI{X:Cx}(ok:(X.sA E).Ok):X.Ok:=
 ⟨ok.mod,ok.kind,ok.glob,ok.blt,ok.above,ok.inj,ok.has,ok.LJ,ok.hd,ok.frames,ok.Pf,ok.T9,ok.bs,ok.ET,ok.Dx,ok.E3,ok.mx,ok.HZ⟩
section
variable{X:Cx}{η:List (Addr×Obj)}{σ:St}{H:Hp}{s:Xv}{E:Value->Xv->Prop}
theorem Inv.sA(I:Inv X η σ H s)E:Inv (X.sA E) η σ H s:=⟨I.ok.sA E,I.os,I.bare,I.base,I.loc,I.cell,I.free,I.j8,I.pin,I.aJ,I.len⟩
theorem Inv.jI(I:Inv (X.sA E) η σ H s):Inv X η σ H s:=⟨I.ok.jI,I.os,I.bare,I.base,I.loc,I.cell,I.free,I.j8,I.pin,I.aJ,I.len⟩
theorem SP.jI(h:SP (X.sA E) η D f s'):SP X η D f s':=by cases f with|next=>obtain⟨cQ,H',I,q⟩:=h;exact⟨cQ,H',I.jI,q⟩|brk=>obtain⟨cQ,H',I,q⟩:=h;exact⟨cQ,H',I.jI,q⟩|cont=>obtain⟨cQ,H',I,q⟩:=h;exact⟨cQ,H',I.jI,q⟩|ret u=>obtain⟨v,cQ,H',I,r,q⟩:=h;exact⟨v,cQ,H',I.jI,r,q⟩
theorem PE.EW(h:PE X.EW e t):PE X e t:=λη s σ H Q I hw=>YY (h η s σ H Q (I.sA _) hw) (λ_ _ ⟨v,H',I',r,q⟩=>⟨v,H',I'.jI,r,q⟩) λ_ _ z=>Yz z
theorem my.EW{st:List Stmt}(h:my X.EW st t):my X st t:=λη s σ H D I hw=>YY (h η s σ H D (I.sA _) hw) (λ_ _ q=>q.jI) λ_ _ z=>Yz z
end
section
variable{X:Cx}{st:Stmt}{rest:List Stmt}{t u:TS}{e:Expr}{te:TE}{pos:Pos}
def Pm:TS:=λD σ H=>D.nx σ H
def Uj(t u:TS):TS:=λD σ H=>t {D with nx:=u D} σ H
theorem Ie:my X [] Pm:=λ_ _ σ H _ I h=>acf ⟨σ,H,I,h⟩
theorem Fc(h1:PS X st t)(h2:my X rest u):my X (st::rest) (Uj t u):=by intro η s σ H D I h;refine wpAny_execs_cons (bS (h1 η s σ H {D with nx:=u D} I h) λf s1 q=>?_);cases f with|next=>obtain⟨cQ,H',I',q⟩:=q;exact h2 η s1 cQ H' D I' q|ret v=>exact q|brk=>exact q|cont=>exact q
theorem Inv.quiet(I:Inv X η σ H s):interactive X.env=Ξ:=by simp[interactive,I.ok.kind]
def Pn(te:TE):TS:=λD σ H=>te σ H λ_ H1=>D.nx σ H1
theorem Cu(he:PE X e te)(hs:aav e Θ pos.line X.env=pure Ξ:=by rfl):PS X (.Expr e pos) (Pn te):=by intro η s σ H D I h;exact wpAny_Expr_any (bS (he η s σ H _ I h) λv s1 ⟨x,H1,I1,r1,q1⟩=>⟨σ,H1,I1,q1⟩) I.quiet hs
def Uk(te:TE):TS:=λD σ H=>te σ H D.rt
theorem LN(he:PE X e te):PS X (.Return (Δ e) pos) (Uk te):=by intro η s σ H D I h;exact wpAny_Return_some (bS (he η s σ H _ I h) λv s1 ⟨x,H1,I1,r1,q1⟩=>⟨x,σ,H1,I1,r1,q1⟩)
def Po:TS:=λD _ H=>D.rt .bz H
theorem Ig:PS X (.Return Θ pos) Po:=λ_ _ σ H _ I h=>wpAny_Return_none ⟨.bz,σ,H,I,rfl,h⟩
def Ul(c:TT)(t u:TS):TS:=λD σ H=>c σ H λb H1=>if b=Λ then t D σ H1 else u D σ H1
theorem Pp(hc:PT X c tc)(ha:my X a t)(hb:my X b u):PS X (.If c a b pos) (Ul tc t u):=by intro η s σ H D I h;refine wpAny_If (bS (hc η s σ H _ I h) λd s1 ⟨H1,I1,q1⟩=>?_);cases d with|true=>exact ha η s1 σ H1 D I1 q1|false=>exact hb η s1 σ H1 D I1 q1
end
abbrev TG:=V->St->Hp->(St->Hp->Prop)->Prop
abbrev Pq:=List V->St->Hp->(St->Hp->Prop)->Prop
def PG(X:Cx)(target:Expr)(t:TG):Prop:=
 ∀(η:List (Addr×Obj)) (s:Xv) (σ:St) (H:Hp) (v:V) (u:Value) (Q:St->Hp->Prop),Inv X η σ H s->RelV v u->t v σ H Q->
  wpAny (model X.prog X.w) X.A (ac1 target X.env u) (λ_ s'=>∃cQ H',Inv X η cQ H' s'/\Q cQ H') X.xe s
noncomputable def SJ(X:Cx)(ts:List Expr)(t:Pq):Prop:=
 ∀(η:List (Addr×Obj)) (s:Xv) (σ:St) (H:Hp) (vs:List V) (us:List Value) (Q:St->Hp->Prop),Inv X η σ H s->aS vs us->t vs σ H Q->
  wpAny (model X.prog X.w) X.A (assignInOrder ((aca ts X.env).map (·.2)) us) (λ_ s'=>∃cQ H',Inv X η cQ H' s'/\Q cQ H') X.xe s
abbrev Pr:=V->V->V->Hp->(Hp->Prop)->Prop
def Dz(X:Cx)(t:Pr):Prop:=
 ∀(η:List (Addr×Obj)) (s:Xv) (σ:St) (H:Hp) (o i v:V) (ov iv u:Value) (Q:Hp->Prop),Inv X η σ H s->RelV o ov->RelV i iv->RelV v u->t o i v H Q->
  wpAny (model X.prog X.w) X.A (setItem ov iv u) (λ_ s'=>∃H',Inv X η σ H' s'/\Q H') X.xe s
section
variable{X:Cx}{pos:Pos}
def sC(i:Nat):TG:=λv σ H Q=>Q (σ.set i (Δ v)) H
theorem fg(hN:X.N.Nodup)(hi:X.N[i]?=Δ x)(hx:Loc X.env.scope x)(hf:X.fn x=Λ\/X.env.scope.names.lookup x=Δ .local:=by first|exact .inl rfl|exact .inr rfl|assumption):PG X (.Name x pos) (sC i):=by intro η s σ H v u Q I r h;exact wpAny_assign_Name (nq I hN hi hx r (λs' I'=>⟨_,H,I',h⟩) hf)
def Um:Pq:=λvs σ H Q=>vs=[]/\Q σ H
def Pt(t:TG)(u:Pq):Pq:=λvs σ H Q=>∃v r,vs=v::r/\t v σ H λcQ H'=>u r cQ H' Q
theorem xh:SJ X [] Um:=by intro η s σ H vs us Q I r h;obtain⟨e,h⟩:=h;subst e;cases r;exact assignInOrder_nil ⟨σ,H,I,h⟩
theorem jg(h1:PG X e t)(h2:SJ X es u)(hs:(aca (e::es) X.env).map (·.2)=ac1 e X.env::(aca es X.env).map (·.2):=by rfl):SJ X (e::es) (Pt t u):=by intro η s σ H vs us Q I r h;obtain⟨v,vr,e1,h⟩:=h;subst e1;cases r with|cons r rr=>rw[hs];refine assignInOrder_cons (bS (h1 η s σ H _ _ _ I r h) λ_ s1 ⟨ON,H1,I1,q1⟩=>?_);exact h2 η s1 ON H1 _ _ Q I1 rr q1
def Uo(K:Xm)(n:Nat)(t:Pq):TG:=λv σ H Q=>∃a xs,v=.ref a/\fH K H a xs/\xs.length=n/\t xs σ H Q
theorem Bb(hc:X.calm=Λ)(h:SJ X es t)(hn:(aca es X.env).length=n:=by rfl)(qj:(aca es X.env).findIdx? (·.1)=Θ:=by rfl):PG X (.Tuple es k pos) (Uo X.K n t):=by intro η s σ H v u Q I r hw;obtain⟨a,xs,e1,hq,hl,hw⟩:=hw;subst e1;cases r;obtain⟨its,rv,ht,hz⟩:=I.tuple hq;refine assign_Tuple_tuple (I.ok.hd hc) ht (by simp[hn,<-hl,rv.length]) qj λh' hx=>?_;have I1:Inv X η σ H {s with heap:=h'}:=I.kept (t':=s.toks) λb o e=>hx b o (XR (Xs e)) e;exact h η _ σ H xs _ Q I1 (by simpa using rv) hw
def Up(te:TE)(g:TG):TS:=λD σ H=>te σ H λx H1=>g x σ H1 D.nx
theorem Fd(hN:X.N.Nodup)(hi:X.N[i]?=Δ x)(hx:Loc X.env.scope x)(he:PE X e te)(hs:aav e (Δ (.Name x pos')) pos.line X.env=pure Ξ:=by rfl)(hf:X.fn x=Λ\/X.env.scope.names.lookup x=Δ .local:=by first|exact .inl rfl|exact .inr rfl|assumption):
  PS X (.Assign [.Name x pos'] e pos) (Up te (sC i)):=by
 intro η s σ H D I h;refine wpAny_Assign_Name (bS (he η s σ H _ I h) λv s1 ⟨y,H1,I1,r1,q1⟩=>?_) hs;exact nq I1 hN hi hx r1 (λs2 I2=>⟨_,H1,I2,q1⟩) hf
end
section
variable{X:Cx}{pos:Pos}
noncomputable def LO(c:TT)(tb:TS):TS:=λD σ H=>∃W:Nat->St->Hp->Prop,(∃m,W m σ H)/\∀m σ H,W m σ H->
 c σ H λb H1=>if b=Λ then ∃N:St->Hp->Prop,(∀cQ H',N cQ H'->∃m',m' < m/\W m' cQ H')/\tb {D with nx:=N,ct:=N,bk:=D.nx} σ H1 else D.nx σ H1
theorem Fe(hp:PassesOwn (model X.prog X.w) X.A X.env X.xe)(hc:PT X c tc)(hb:my X body tb):PS X (.While c body [] pos) (LO tc tb):=by
 intro η s σ H D I h;obtain⟨W,⟨m0,w0⟩,turn⟩:=h;refine wpAny_While (codeAny_whileLoop (λn s'=>∃cQ H',Inv X η cQ H' s'/\W n cQ H') ?_ m0 ⟨σ,H,I,w0⟩);rintro n s1 ⟨ON,H1,I1,w1⟩;refine ZL hp (bS (hc η s1 ON H1 _ I1 (turn n ON H1 w1)) λb s2 ⟨H2,I2,q2⟩=>?_);cases b with
 |true=>obtain⟨N,hN,q2⟩:=q2;rw[if_pos rfl];refine ZL hp (bS (hb η s2 ON H2 _ I2 q2) λf s3 q3=>?_);cases f with|next=>obtain⟨Ff,H3,I3,n3⟩:=q3;obtain⟨m',hm,w3⟩:=hN Ff H3 n3;exact⟨m',hm,Ff,H3,I3,w3⟩|cont=>obtain⟨Ff,H3,I3,n3⟩:=q3;obtain⟨m',hm,w3⟩:=hN Ff H3 n3;exact⟨m',hm,Ff,H3,I3,w3⟩|brk=>exact q3|ret v=>exact q3
 |false=>rw[if_neg Yc];exact acf ⟨ON,H2,I2,q2⟩
end
structure It where
 go:Nat->Hp->Prop
 Pu:Nat->Hp->V->Hp->Prop
 stop:Nat->Hp->Prop
noncomputable def mz(X:Cx)(η:List (Addr×Obj))(H:Hp)(b:Addr):Prop:=
 H b=Θ/\b≠X.env.locals/\b∉X.fs/\(b∈X.ex\/X.gU.heap.objs.size<=b)/\(∀x c,X.env.cells.lookup x=Δ c->c≠b)/\∀p∈X.pn++η,p.1≠b
theorem Inv.xi(I:Inv X η σ H s)(hb:s.heap.objs.size<=b)(hn:H' b=Θ):mz X η H' b:=by
 refine⟨hn,Yr (XD I.lt hb),I.Ua hb,.inr (X5 I.sz hb),λx c e z=>?_,λp hp z=>?_⟩;·obtain⟨v,q⟩:=I.cell x c e;exact absurd (XD q.lt (by rw[z];exact hb)) (Y3 _)
 ·exact absurd (XD (Xs (I.pin p hp).1) (by rw[z];exact hb)) (Y3 _)
structure Turn(P:Yi)(w:World)(K:Xm)(tg:Expr)(J:It)(fp:List Addr)(it:Addr)(tn:Nat->Heap->Prop):Prop where
 mem:it∈fp
 obj:∀i h,tn i h->∀b∈fp,∃o,h.get? b=Δ o/\∀v,o.data≠.cell v
 keep:∀i h h',tn i h->(∀b∈fp,∀o,h.get? b=Δ o->h'.get? b=Δ o)->tn i h'
 item:∀(X:Cx),X.prog=P->X.w=w->X.K=K->X.calm=Λ->∀(i:Nat) (η:List (Addr×Obj)) (s:Xv) (σ:St) (H:Hp) (E:Value->Xv->Prop),Inv X η σ H s->(∀b∈fp,mz X η H b)->tn i s.heap->J.go i H->
  wpAny (model P w) X.A (abO (.ref it)) (λr s1=>∃u,r=Δ u/\
   wpAny (model P w) X.A (abp tg (.ref it) u) (λ_ s2=>∃x H',Inv X η σ H' s2/\RelV x u/\J.Pu i H x H'/\tn (i+1) s2.heap/\∀b∈fp,H' b=Θ) E s1) E s
 done:∀(X:Cx),X.prog=P->X.w=w->X.K=K->X.calm=Λ->∀(i:Nat) (η:List (Addr×Obj)) (s:Xv) (σ:St) (H:Hp) (E:Value->Xv->Prop),Inv X η σ H s->(∀b∈fp,mz X η H b)->tn i s.heap->J.stop i H->
  wpAny (model P w) X.A (abO (.ref it)) (λr s1=>r=Θ/\Inv X η σ H s1) E s
 self:∀(A:YO) (i:Nat) (s:Xv) (Q:Value->Xv->Prop) (E:Value->Xv->Prop),tn i s.heap->Q (.ref it) s->wpAny (model P w) A (pyIter (.ref it)) Q E s
abbrev TI:=St->Hp->(It->Hp->Prop)->Prop
def PIE(X:Cx)(η:List (Addr×Obj))(σ:St)(tg:Expr)(R:It->Hp->Prop)(SK:Value)(s2:Xv):Prop:=
 ∃(it:Addr) (fp:List Addr) (tn:Nat->Heap->Prop) (J:It) (H':Hp),SK=.ref it/\Inv X η σ H' s2/\Turn X.prog X.w X.K tg J fp it tn/\tn 0 s2.heap/\(∀b∈fp,mz X η H' b)/\R J H'
def PI(X:Cx)(tg iter:Expr)(wi:TI):Prop:=
 ∀(η:List (Addr×Obj)) (s:Xv) (σ:St) (H:Hp) (R:It->Hp->Prop),Inv X η σ H s->wi σ H R->
  wpAny (model X.prog X.w) X.A (eval iter X.env) (λv s1=>wpAny (model X.prog X.w) X.A (pyIter v) (PIE X η σ tg R) X.xe s1) X.xe s
theorem Fg(ho:s.heap.get? it=Δ o)(hc:o.cls=.type n)(hd:o.data=.fields vs)(hn:["enumerate","zip","dict_itemiterator","dict_reverseitemiterator","odict_iterator","itertools.zip_longest","itertools.pairwise"].contains n=Ξ)(hQ:Q () s):wpAny M A (abp tg (.ref it) u) Q E s:=by
 unfold abp;cases tg<;>first
  |exact Xn hQ
  |(cases u<;>first
    |exact Xn hQ
    |(refine W7 (wpAny_load ho ?_)
      rw[hc,hd];show wpAny M A (if(["enumerate","zip","dict_itemiterator","dict_reverseitemiterator","odict_iterator","itertools.zip_longest","itertools.pairwise"].contains n&&vs[0]?==Δ (Zl _))=Λ then _ else _) Q E s;rw[if_neg (by intro h;rw[hn,aa3] at h;cases h)];exact Xn hQ))
def Uq(K:Xm)(a:Addr):It:=
 ⟨λi H=>∃xs x,lT K H a xs/\xs[i]?=Δ x,λi H x H'=>H'=H/\∀xs,lT K H a xs->xs[i]?=Δ x,λi H=>∃xs,lT K H a xs/\xs.length<=i⟩
def Ur(K:Xm)(a:Addr):It:=
 ⟨λi H=>∃xs x,fH K H a xs/\xs[i]?=Δ x,λi H x H'=>H'=H/\∀xs,fH K H a xs->xs[i]?=Δ x,λi H=>∃xs,fH K H a xs/\xs.length<=i⟩
noncomputable def LP(lo:Int)(n:Nat):It:=⟨λi _=>i < n,λi H x H'=>H'=H/\x=.int (lo+i),λi _=>n<=i⟩
theorem DA{P:Yi}{w:World}{K:Xm}{tg:Expr}(a it:Addr):Turn P w K tg (Uq K a) [it] it (λi h=>h.IsListIter it a i) where
 mem:=by simp
 obj:=λi h st b hb=>by
  have e:b=it:=by simpa using hb
  subst e;obtain⟨o,e,c,d⟩:=st;exact⟨o,e,λv z=>by rw[d] at z;cases z⟩
 keep:=λi h h' st k=>st.at λo e=>k it (by simp) o e
 item:=by intro X hP hw hK hc i η s σ H E I hf st hg;subst hP hw hK;obtain⟨xs,x,hq,hx⟩:=hg;obtain⟨its,rv,p,hz⟩:=I.list hq;obtain⟨u,hu,ru⟩:=rv.get hx;obtain⟨f0,f1,f2,f3,f4,f5⟩:=hf it (by simp);refine wpAny_pyNext_list_item st p.isList (x:=u) (by simpa using hu) λh' aK sb=>?_;have I1:Inv X η σ H {s with heap:=h'}:=I.turned (t':=s.toks) (λb o hb e=>(sb.2 b hb).trans e) f0 f1 f3 f4 f5;obtain⟨o,e,c,d⟩:=id aK;exact⟨u,rfl,Fg (s:={s with heap:=h'}) e c d (by decide) ⟨x,H,I1,ru,⟨rfl,λys hy=>by rw[I.yT hy hq];exact hx⟩,aK,λb hb=>(hf b hb).1⟩⟩
 done:=by intro X hP hw hK hc i η s σ H E I hf st hg;subst hP hw hK;obtain⟨xs,hq,hx⟩:=hg;obtain⟨its,rv,p,hz⟩:=I.list hq;obtain⟨f0,f1,f2,f3,f4,f5⟩:=hf it (by simp);have hl:=rv.length;exact wpAny_pyNext_list_end (I.ok.hd hc) st p.isList (by simp;lia) λh' eb=>⟨rfl,I.turned (t':=s.toks) (λb o hb e=>eb b o hb e) f0 f1 f3 f4 f5⟩
 self:=λ_ _ _ _ _ st h=>wpAny_pyIter_listiter st h
theorem Bc{P:Yi}{w:World}{K:Xm}{tg:Expr}(a it:Addr):Turn P w K tg (Ur K a) [it] it (λi h=>h.IsTupleIter it a i) where
 mem:=by simp
 obj:=λi h st b hb=>by
  have e:b=it:=by simpa using hb
  subst e;obtain⟨o,e,c,d⟩:=st;exact⟨o,e,λv z=>by rw[d] at z;cases z⟩
 keep:=λi h h' st k=>st.at λo e=>k it (by simp) o e
 item:=by intro X hP hw hK hc i η s σ H E I hf st hg;subst hP hw hK;obtain⟨xs,x,hq,hx⟩:=hg;obtain⟨its,rv,p,hz⟩:=I.tuple hq;obtain⟨u,hu,ru⟩:=rv.get hx;obtain⟨f0,f1,f2,f3,f4,f5⟩:=hf it (by simp);refine wpAny_pyNext_tuple_item st (show s.heap.IsTuple a its.toArray from p) (x:=u) (by simpa using hu) λh' aK sb=>?_;have I1:Inv X η σ H {s with heap:=h'}:=I.turned (t':=s.toks) (λb o hb e=>(sb.2 b hb).trans e) f0 f1 f3 f4 f5;obtain⟨o,e,c,d⟩:=id aK;exact⟨u,rfl,Fg (s:={s with heap:=h'}) e c d (by decide) ⟨x,H,I1,ru,⟨rfl,λys hy=>by rw[I.vV hy hq];exact hx⟩,aK,λb hb=>(hf b hb).1⟩⟩
 done:=by intro X hP hw hK hc i η s σ H E I hf st hg;subst hP hw hK;obtain⟨xs,hq,hx⟩:=hg;obtain⟨its,rv,p,hz⟩:=I.tuple hq;obtain⟨f0,f1,f2,f3,f4,f5⟩:=hf it (by simp);have hl:=rv.length;exact wpAny_pyNext_tuple_end (I.ok.hd hc) st (show s.heap.IsTuple a its.toArray from p) (by simp;lia) λh' eb=>⟨rfl,I.turned (t':=s.toks) (λb o hb e=>eb b o hb e) f0 f1 f3 f4 f5⟩
 self:=λ_ _ _ _ _ st h=>wpAny_pyIter_tupleiter st h
theorem Bd{P:Yi}{w:World}{K:Xm}{tg:Expr}(it:Addr)(lo:Int)(n:Nat):Turn P w K tg (LP lo n) [it] it (λi h=>IsRangeIter h it (lo+(i:Nat)*1) ((n:Int) - (i:Nat)) 1) where
 mem:=by simp
 obj:=λi h st b hb=>by
  have e:b=it:=by simpa using hb
  subst e;exact⟨_,st,λv z=>by have z':Data.fields _=Data.cell v:=z;cases z'⟩
 keep:=λi h h' st k=>k it (by simp) _ st
 item:=by intro X hP hw hK hc i η s σ H E I hf st hg;subst hP hw hK;obtain⟨f0,f1,f2,f3,f4,f5⟩:=hf it (by simp);have W:=Walks.range (prog:=X.prog) (w:=X.w) (I.ok.hd hc) it lo 1 n;refine W.item i s _ _ hg st λv h' tk hv aK kk=>?_;obtain⟨t,rfl⟩:=hv;have I1:Inv X η σ H {s with heap:=h',toks:=tk}:=I.turned (λb o hb e=>kk b o (by simpa using hb) e) f0 f1 f3 f4 f5;refine⟨_,rfl,Fg (s:={s with heap:=h',toks:=tk}) (n:="range_iterator") aK rfl rfl (by decide) ⟨.int (lo+i),H,I1,⟨t,?_⟩,⟨rfl,rfl⟩,aK,λb hb=>(hf b hb).1⟩⟩;rw[Int.mul_one]
 done:=by intro X hP hw hK hc i η s σ H E I hf st hg;subst hP hw hK;obtain⟨f0,f1,f2,f3,f4,f5⟩:=hf it (by simp);exact wpAny_pyNext_range_end (I.ok.hd hc) st (by have:n<=i:=hg;lia) λh' eb=>⟨rfl,I.turned (t':=s.toks) (λb o hb e=>eb b o hb e) f0 f1 f3 f4 f5⟩
 self:=λ_ _ _ _ _ st h=>wpAny_pyIter_rangeiter st h
section
variable{X:Cx}{tg:Expr}
def KG(K:Xm)(tl:TE):TI:=λσ H R=>tl σ H λx H1=>∃a,x=.ref a/\(∃xs,lT K H1 a xs)/\R (Uq K a) H1
def Us(K:Xm)(tl:TE):TI:=λσ H R=>tl σ H λx H1=>∃a,x=.ref a/\(∃xs,fH K H1 a xs)/\R (Ur K a) H1
theorem rO(hl:PE X l tl):PI X tg l (KG X.K tl):=by
 intro η s σ H R I h;refine bS (hl η s σ H _ I h) λv s1 ⟨x,H1,I1,r1,q1⟩=>?_;obtain⟨a,e,⟨xs,hq⟩,q⟩:=q1;subst e;cases r1;obtain⟨its,rv,p,hz⟩:=I1.list hq;refine wpAny_pyIter_list p.isList ?_;refine⟨s1.heap.objs.size,[s1.heap.objs.size],_,_,H1,rfl,I1.kept (t':=s1.toks) λb o e=>Xa _ e,DA a _,⟨_,Xq _ rfl,rfl,rfl⟩,λb hb=>?_,q⟩;have e:b=s1.heap.objs.size:=by simpa using hb
 subst e;exact I1.xi (Xj _) (I1.aJ.fresh (Xj _))
theorem LR(hl:PE X l tl):PI X tg l (Us X.K tl):=by
 intro η s σ H R I h;refine bS (hl η s σ H _ I h) λv s1 ⟨x,H1,I1,r1,q1⟩=>?_;obtain⟨a,e,⟨xs,hq⟩,q⟩:=q1;subst e;cases r1;obtain⟨its,rv,p,hz⟩:=I1.tuple hq;refine ZC (show s1.heap.IsTuple a its.toArray from p) ?_;refine⟨s1.heap.objs.size,[s1.heap.objs.size],_,_,H1,rfl,I1.kept (t':=s1.toks) λb o e=>Xa _ e,Bc a _,⟨_,Xq _ rfl,rfl,rfl⟩,λb hb=>?_,q⟩;have e:b=s1.heap.objs.size:=by simpa using hb
 subst e;exact I1.xi (Xj _) (I1.aJ.fresh (Xj _))
theorem yU{lo hi:Int}(I:Inv X η σ H s)(h1: -(2 ^ 62)<=lo)(h2:lo < 2 ^ 62)(h3: -(2 ^ 62)<=hi)(h4:hi < 2 ^ 62)(q:R (LP lo (hi - lo).toNat) H):wpAny (model X.prog X.w) X.A (pyIter (.ref s.heap.objs.size)) (PIE X η σ tg R) E {s with heap:=s.heap.push {cls:=.type "range",data:=.fields #[.int lo t,.int hi u,.int 1 v]},toks:=tk}:=by
 refine wpAny_pyIter_range (IsRange.new ..) (small_one h1 h2 h3 h4) ?_;have I1:Inv X η σ H {s with heap:=s.heap.push {cls:=.type "range",data:=.fields #[.int lo t,.int hi u,.int 1 v]},toks:=tk}:=I.kept λb o e=>Xa _ e;refine⟨(s.heap.push {cls:=.type "range",data:=.fields #[.int lo t,.int hi u,.int 1 v]}).objs.size,[(s.heap.push {cls:=.type "range",data:=.fields #[.int lo t,.int hi u,.int 1 v]}).objs.size],_,_,H,rfl,
  I1.kept (t':=tk) λb o e=>Xa _ e,Bd _ lo (hi - lo).toNat,?_,λb hb=>?_,q⟩
 ·have e1:lo+((0:Nat):Int)*1=lo:=by simp
  have e2:(((hi - lo).toNat:Nat):Int) - ((0:Nat):Int)=abi.Range.rangeSize lo hi 1:=by rw[rangeSize_one];split<;>lia
  show IsRangeIter _ _ (lo+((0:Nat):Int)*1) ((((hi - lo).toNat:Nat):Int) - ((0:Nat):Int)) 1;rw[e1,e2];exact Xq _ rfl
 ·have e:b=(s.heap.push {cls:=.type "range",data:=.fields #[.int lo t,.int hi u,.int 1 v]}).objs.size:=by simpa using hb
  subst e;exact I1.xi (Xj _) (I1.aJ.fresh (Xj _))
def Pw(ta:TA):TI:=λσ H R=>ta σ H λvs H1=>∃j:Int,vs=[.int j]/\ -(2 ^ 62)<=j/\j < 2 ^ 62/\R (LP 0 j.toNat) H1
def Px(ta:TA):TI:=λσ H R=>ta σ H λvs H1=>∃i j:Int,vs=[.int i,.int j]/\(-(2 ^ 62)<=i/\i < 2 ^ 62/\ -(2 ^ 62)<=j/\j < 2 ^ 62)/\R (LP i (j - i).toNat) H1
theorem DB(hg:Gl X "range")(hm:X.mg "range"=Θ)(ha:PA X [a] ta)(hs:XO [a] X.env=[(Ξ,eval a X.env)]:=by rfl):PI X tg (.Call (.Name "range" p) [a] [] pos) (Pw ta):=by intro η s σ H R I h;refine Call_ (jH I hg hm boot_range (Yo (bS (ha pos η s σ H _ I h) λus s1 ⟨vs,H1,I1,r1,q1⟩=>?_) hs rfl));obtain⟨j,e,q1,q2,q⟩:=q1;subst e;cases r1 with|cons r rr=>cases rr;obtain⟨t,rfl⟩:=r;exact call_range_1 (yU I1 (by lia) (by lia) q1 q2 (by simpa using q))
theorem DC(hg:Gl X "range")(hm:X.mg "range"=Θ)(ha:PA X [a,b] ta)(hs:XO [a,b] X.env=[(Ξ,eval a X.env),(Ξ,eval b X.env)]:=by rfl)(sD:XO [b] X.env=[(Ξ,eval b X.env)]:=by rfl):
  PI X tg (.Call (.Name "range" p) [a,b] [] pos) (Px ta):=by
 intro η s σ H R I h;refine Call_ (jH I hg hm boot_range (Yo (bS (ha pos η s σ H _ I h) λus s1 ⟨vs,H1,I1,r1,q1⟩=>?_) (by rw[hs,sD]) (by rw[sD];rfl)));obtain⟨i,j,e,⟨q1,q2,q3,q4⟩,q⟩:=q1;subst e;cases r1 with|cons r rr=>cases rr with|cons r' rr=>cases rr;obtain⟨t,rfl⟩:=r;obtain⟨t',rfl⟩:=r';exact call_range_2 (yU I1 q1 q2 q3 q4 q)
noncomputable def Ut(wi:TI)(g:TG)(tb:TS):TS:=λD σ H=>wi σ H λJ H1=>∃W:Nat->Nat->St->Hp->Prop,(∃m,W 0 m σ H1)/\∀i m σ H,W i m σ H->
 (J.stop i H/\D.nx σ H)\/(J.go i H/\∃N:St->Hp->Prop,(∀cQ H',N cQ H'->∃m',m' < m/\W (i+1) m' cQ H')/\∀x H',J.Pu i H x H'->g x σ H' λOO H2=>tb {D with nx:=N,ct:=N,bk:=D.nx} OO H2)
def oU(fp:List Addr)(h:Heap):List (Addr×Obj):=fp.filterMap λb=>(h.get? b).map λo=>(b,o)
theorem eV(hb:b∈fp)(e:h.get? b=Δ o):(b,o)∈oU fp h:=List.mem_filterMap.mpr ⟨b,hb,by rw[e];rfl⟩
theorem DD(hp:p∈oU fp h):p.1∈fp/\h.get? p.1=Δ p.2:=by obtain⟨b,hb,e⟩:=List.mem_filterMap.mp hp;cases q:h.get? b with|none=>rw[q] at e;cases e|some o=>rw[q] at e;have e':(b,o)=p:=XU e;subst e';exact⟨hb,q⟩
theorem Inv.pinned(I:Inv X η σ H s)(hf:∀b∈fp,mz X η H b)(ho:∀b∈fp,∃o,s.heap.get? b=Δ o/\∀v,o.data≠.cell v):Inv X (η++oU fp s.heap) σ H s:=
 I.Cs λp hp=>(Zq.mp hp).elim (λz=>I.pin p (XQ _ z)) λz=>by obtain⟨hb,e⟩:=DD z;obtain⟨f0,f1,f2,_⟩:=hf p.1 hb;obtain⟨o,e',d⟩:=ho p.1 hb;rw[e] at e';cases e';exact⟨e,f0,f1,f2,d⟩
theorem Inv.jh(I:Inv X (η++pl) σ H s):Inv X η σ H s:=I.Cs λp hp=>I.pin p (XQ _ (Yw _ hp))
theorem xj(hp:PassesOwn (model X.prog X.w) X.A X.env X.xe)(hc:X.calm=Λ)(hi:PI X tg iter wi)(hg:PG X tg g)(hb:my X body tb)(hs:∀x,abD iter X.env x=pure x:=by intro _;rfl):PS X (.For tg iter body [] pos) (Ut wi g tb):=by
 intro η s σ H D I h;refine wpAny_For (bS (hi η s σ H _ I h) λv s1 h1=>bS h1 λSK s2 h2=>?_) hs;obtain⟨it,fp,tn,J,H2,e,I2,T,st2,f2,W,⟨m0,w0⟩,turn⟩:=h2;subst e;have sE:∀{H':Hp},(∀b∈fp,H' b=Θ)->∀b∈fp,mz X η H' b:=λhn b hb=>⟨hn b hb,(f2 b hb).2⟩;refine codeAny_forLoop_any (λn s'=>∃i cQ H',Inv X η cQ H' s'/\tn i s'.heap/\(∀b∈fp,H' b=Θ)/\W i n cQ H') ?_ m0 ⟨0,σ,H2,I2,st2,λb hb=>(f2 b hb).1,w0⟩;rintro n s3 ⟨i,Ff,H3,I3,st3,fr3,w3⟩;rcases turn i n Ff H3 w3 with ⟨stop,qn⟩|⟨go,N,hN,step⟩
 ·refine ZL hp (bS (T.done X rfl rfl rfl hc i η s3 Ff H3 X.xe I3 (sE fr3) st3 stop) λr s4 ⟨hr,I4⟩=>?_);subst hr;exact acf ⟨Ff,H3,I4,qn⟩
 ·refine ZL hp (bS (T.item X rfl rfl rfl hc i η s3 Ff H3 X.xe I3 (sE fr3) st3 go) λr s4 ⟨u,hr,h4⟩=>?_);subst hr;refine ZL hp (bS h4 λ_ s5 ⟨x,H5,I5,r5,y5,Be,LS⟩=>?_);have I5':=I5.pinned (sE LS) (T.obj _ _ Be);refine ZL hp (bS (hg _ s5 Ff H5 x u _ I5' r5 (step x H5 y5)) λ_ s6 ⟨σ6,H6,I6,q6⟩=>?_);refine ZL hp (bS (hb _ s6 σ6 H6 _ I6 q6) λf s7 q7=>?_);have again:∀{Fh:St} {H7:Hp},Inv X (η++oU fp s5.heap) Fh H7 s7->N Fh H7->∃m,m < n/\∃i cQ H',Inv X η cQ H' s7/\tn i s7.heap/\(∀b∈fp,H' b=Θ)/\W i m cQ H':=λ{Fh H7} I7 n7=>by obtain⟨m',hm,w7⟩:=hN Fh H7 n7;refine⟨m',hm,i+1,Fh,H7,I7.jh,T.keep _ _ _ Be λb hb o e=>(I7.pin (b,o) (XQ _ (XQ _ (eV hb e)))).1,λb hb=>?_,w7⟩;obtain⟨o,e,d⟩:=T.obj _ _ Be b hb;exact(I7.pin (b,o) (XQ _ (XQ _ (eV hb e)))).2.1
  cases f with|next=>obtain⟨Fh,H7,I7,n7⟩:=q7;exact again I7 n7|cont=>obtain⟨Fh,H7,I7,n7⟩:=q7;exact again I7 n7|brk=>obtain⟨Fh,H7,I7,q7⟩:=q7;exact⟨Fh,H7,I7.jh,q7⟩|ret v=>obtain⟨x7,Fh,H7,I7,r7,q7⟩:=q7;exact⟨x7,Fh,H7,I7.jh,r7,q7⟩
end
abbrev R2:=V->V->Hp->VK->Prop
def j9(X:Cx)(f:Value->Value->Sem Value)(r:R2):Prop:=
 ∀(η:List (Addr×Obj)) (s:Xv) (σ:St) (H:Hp) (x y:V) (v u:Value) (Q:VK),Inv X η σ H s->RelV x v->RelV y u->r x y H Q->
  wpAny (model X.prog X.w) X.A (f v u) (EP X η σ Q) X.xe s
def hW(X:Cx)(f:Value)(r:List V->Hp->VK->Prop):Prop:=
 ∀(η:List (Addr×Obj)) (s:Xv) (σ:St) (H:Hp) (xs:List V) (us:List Value) (Q:VK),Inv X η σ H s->aS xs us->r xs H Q->
  wpAny (model X.prog X.w) X.A (call f us) (EP X η σ Q) X.xe s
def Uu(X:Cx)(r:V->Hp->(Bool->Hp->Prop)->Prop):Prop:=
 ∀(η:List (Addr×Obj)) (s:Xv) (σ:St) (H:Hp) (x:V) (v:Value) (Q:Bool->Hp->Prop),Inv X η σ H s->RelV x v->r x H Q->
  wpAny (model X.prog X.w) X.A (truthy v) (TP X η σ Q) X.xe s
def Py(r:R2)(ta tb:TE):TE:=λσ H Q=>ta σ H λx H1=>tb σ H1 λy H2=>r x y H2 Q
def rI(C:Int->Int->Prop)(g:Int->Int->V):R2:=λx y H Q=>∃i j,x=.int i/\y=.int j/\C i j/\Q (g i j) H
def Cv(g:Int->Int->V):R2:=λx y H Q=>∃i j,x=.int i/\y=.int j/\Q (g i j) H
section
variable{X:Cx}{a b c:Expr}{ta tb tc:TE}{pos:Pos}
theorem LU(ha:PE X a ta)(hb:PE X b tb){R:V->V->Hp->Prop}(I:Inv X η σ H s)(h:ta σ H λx H1=>tb σ H1 λy H2=>R x y H2){f:Value->Value->Sem Value}(hf:∀v u s2 x y H2,Inv X η σ H2 s2->RelV x v->RelV y u->R x y H2->wpAny (model X.prog X.w) X.A (f v u) Q X.xe s2):
  wpAny (model X.prog X.w) X.A (eval a X.env) (λv bA=>wpAny (model X.prog X.w) X.A (eval b X.env) (λu vg=>wpAny (model X.prog X.w) X.A (f v u) Q X.xe vg) X.xe bA) X.xe s:=by
 refine bS (ha η s σ H _ I h) λv s1 ⟨x,H1,I1,r1,q1⟩=>?_;refine bS (hb η s1 σ H1 _ I1 q1) λu s2 ⟨y,H2,I2,r2,q2⟩=>?_;exact hf v u s2 x y H2 I2 r1 r2 q2
theorem Pz(ho:j9 X (ZD op) r)(ha:PE X a ta)(hb:PE X b tb):PE X (.BinOp a op b pos) (Py r ta tb):=by intro η s σ H Q I h;exact wpAny_BinOp (LU ha hb I h λv u s2 x y H2 I2 rx ry q=>ho η s2 σ H2 x y v u Q I2 rx ry q)
theorem kz{g:Int->Int->Int}(rule:∀(i j:Int) (t u:Tok) (s:Xv) (Q:Value->Xv->Prop) (E:Value->Xv->Prop),C i j->Q (.int (g i j) s.toks) {s with toks:=s.toks+1}->wpAny (model X.prog X.w) X.A (f (.int i t) (.int j u)) Q E s):
  j9 X f (rI C λi j=>.int (g i j)):=by
 intro η s σ H x y v u Q I rx ry h;obtain⟨i,j,rfl,rfl,hc,q⟩:=h;obtain⟨t,rfl⟩:=rx;obtain⟨t',rfl⟩:=ry;exact rule i j t t' s _ _ hc ⟨.int (g i j),H,I.tok _,⟨_,rfl⟩,q⟩
theorem PB{g:Int->Int->Int}(rule:∀(i j:Int) (t u:Tok) (s:Xv) (Q:Value->Xv->Prop) (E:Value->Xv->Prop),Q (.int (g i j) s.toks) {s with toks:=s.toks+1}->wpAny (model X.prog X.w) X.A (f (.int i t) (.int j u)) Q E s):
  j9 X f (Cv λi j=>.int (g i j)):=by
 intro η s σ H x y v u Q I rx ry h;obtain⟨i,j,rfl,rfl,q⟩:=h;obtain⟨t,rfl⟩:=rx;obtain⟨t',rfl⟩:=ry;exact rule i j t t' s _ _ ⟨.int (g i j),H,I.tok _,⟨_,rfl⟩,q⟩
theorem Ih{g:Int->Int->Bool}(rule:∀(i j:Int) (t u:Tok) (s:Xv) (Q:Value->Xv->Prop) (E:Value->Xv->Prop),Q (.bool (g i j)) s->wpAny (model X.prog X.w) X.A (f (.int i t) (.int j u)) Q E s):
  j9 X f (Cv λi j=>.bl (g i j)):=by
 intro η s σ H x y v u Q I rx ry h;obtain⟨i,j,rfl,rfl,q⟩:=h;obtain⟨t,rfl⟩:=rx;obtain⟨t',rfl⟩:=ry;exact rule i j t t' s _ _ ⟨.bl (g i j),H,I,rfl,q⟩
def Uv(i j:Int):Prop:=0 < j/\j < 1073741824
def Ii(i j:Int):Prop:=(-(2 ^ 64) < i/\i < 2 ^ 64)\/(-(2 ^ 64) < j/\j < 2 ^ 64)
theorem Ii.ok(h:Ii i j):IntMulOk i j:=by
 rcases h with ⟨h1,h2⟩|⟨h1,h2⟩
 ·exact .of_left (intBits_le_64 h1 h2)
 ·exact .of_right (intBits_le_64 h1 h2)
theorem LV:j9 X (ZD .Add) (Cv λi j=>.int (i+j)):=PB λ_ _ _ _ _ _ _ q=>add_int q
theorem LW:j9 X (ZD .Sub) (Cv λi j=>.int (i - j)):=PB λ_ _ _ _ _ _ _ q=>sub_int q
theorem LX:j9 X (ZD .Mult) (rI Ii λi j=>.int (i*j)):=kz λ_ _ _ _ _ _ _ hc q=>mul_int q hc.ok
theorem SN:j9 X (ZD .FloorDiv) (rI Uv λi j=>.int (i / j)):=kz λi j _ _ _ _ _ hc q=>by have h1:(0:Int) < j:=hc.1;have h2:j < 1073741824:=hc.2;exact floordiv_int (by lia) (by rw[Int.fdiv_eq_ediv_of_nonneg i (by lia)];exact q) (.inl (PyProof.noPylong_small (by lia)))
theorem LY:j9 X (ZD .Mod) (rI (λ_ j=>0 < j) λi j=>.int (i % j)):=kz λi j _ _ _ _ _ hc q=>by have h1:(0:Int) < j:=hc;exact mod_int' (by lia) (by rw[Int.fmod_eq_emod_of_nonneg i (by lia)];exact q)
end
section
variable{X:Cx}{a b c:Expr}{ta tb tc:TE}{pos:Pos}
theorem PC:j9 X (YF .Lt) (Cv λi j=>.bl (decide (i < j))):=Ih λ_ _ _ _ _ _ _ q=>lt_int q
theorem PD:j9 X (YF .LtE) (Cv λi j=>.bl (decide (i<=j))):=Ih λ_ _ _ _ _ _ _ q=>le_int q
theorem PF:j9 X (YF .Gt) (Cv λi j=>.bl (decide (j < i))):=Ih λ_ _ _ _ _ _ _ q=>gt_int q
theorem PH:j9 X (YF .GtE) (Cv λi j=>.bl (decide (j<=i))):=Ih λ_ _ _ _ _ _ _ q=>ge_int q
theorem j9.or(h:j9 X f r)(h':j9 X f r'):j9 X f (λx y H Q=>r x y H Q\/r' x y H Q):=by
 intro η s σ H x y v u Q I rx ry q;rcases q with q|q;·exact h η s σ H x y v u Q I rx ry q
 ·exact h' η s σ H x y v u Q I rx ry q
theorem Ij(ho:j9 X (YF op) r)(ha:PE X a ta)(hb:PE X b tb)(hm:acz op b=Ξ):PE X (.Compare a [op] [b] pos) (Py r ta tb):=by intro η s σ H Q I h;exact wpAny_Compare1 (LU ha hb I h λv u s2 x y H2 I2 rx ry q=>ho η s2 σ H2 x y v u Q I2 rx ry q) hm
def KH(t:TE):TT:=λσ H Q=>t σ H λx H'=>∃k,x=.bl k/\Q k H'
theorem Ik(ho:j9 X (YF op) r)(ha:PE X a ta)(hb:PE X b tb)(hm:acz op b=Ξ):PT X (.Compare a [op] [b] pos) (KH (Py r ta tb)):=by intro η s σ H Q I h;refine wpAny_isTrue_Compare1 (bS (ha η s σ H _ I h) λv s1 ⟨x,H1,I1,r1,q1⟩=>bS (hb η s1 σ H1 _ I1 q1) λu s2 ⟨y,H2,I2,r2,q2⟩=>bS (ho η s2 σ H2 x y v u _ I2 r1 r2 q2) λc s3 ⟨z,H3,I3,r3,k,e,q3⟩=>?_) hm;subst e;cases r3;exact Y4 ⟨H3,I3,q3⟩
noncomputable def Bg(r r':R2)(ta tb tc:TE):TE:=λσ H Q=>ta σ H λx H1=>tb σ H1 λy H2=>r x y H2 λz H3=>∃k,z=.bl k/\
 (if k=Λ then tc σ H3 λw' H4=>r' y w' H4 Q else Q (.bl Ξ) H3)
theorem Fi(ho:j9 X (YF op) r)(oS:j9 X (YF PJ) r')(ha:PE X a ta)(hb:PE X b tb)(hc:PE X c tc)(hm:lastMarks [op,PJ] [b,c]=Ξ:=by with_unfolding_all rfl):PE X (.Compare a [op,PJ] [b,c] pos) (Bg r r' ta tb tc):=by intro η s σ H Q I h;refine Compare_chain (bS (ha η s σ H _ I h) λv s1 ⟨x,H1,I1,r1,q1⟩=>chain_link (bS (hb η s1 σ H1 _ I1 q1) λu s2 ⟨y,H2,I2,r2,q2⟩=>bS (ho η s2 σ H2 x y v u _ I2 r1 r2 q2) λd s3 ⟨z,H3,I3,r3,k,e,q3⟩=>?_)) hm;subst e;cases r3;refine Y4 ?_;cases k with|false=>exact ite_ff ⟨.bl Ξ,H3,I3,rfl,q3⟩|true=>exact ite_tt (chain_last (bS (hc η s3 σ H3 _ I3 q3) λw' s4 ⟨z',H4,I4,r4,q4⟩=>oS η s4 σ H4 y z' u w' Q I4 r2 r4 q4))
theorem Fj(ho:j9 X (YF op) r)(oS:j9 X (YF PJ) r')(ha:PE X a ta)(hb:PE X b tb)(hc:PE X c tc)(hm:lastMarks [op,PJ] [b,c]=Ξ:=by with_unfolding_all rfl):PT X (.Compare a [op,PJ] [b,c] pos) (KH (Bg r r' ta tb tc)):=by intro η s σ H Q I h;refine isTrue_chain (bS (ha η s σ H _ I h) λv s1 ⟨x,H1,I1,r1,q1⟩=>test_link (bS (hb η s1 σ H1 _ I1 q1) λu s2 ⟨y,H2,I2,r2,q2⟩=>bS (ho η s2 σ H2 x y v u _ I2 r1 r2 q2) λd s3 ⟨z,H3,I3,r3,k,e,q3⟩=>?_)) hm;subst e;cases r3;refine Y4 ?_;cases k with|false=>obtain⟨k',e',q'⟩:=q3;cases e';exact ite_ff ⟨H3,I3,q'⟩|true=>refine ite_tt (test_last (bS (hc η s3 σ H3 _ I3 q3) λw' s4 ⟨z',H4,I4,r4,q4⟩=>bS (oS η s4 σ H4 y z' u w' _ I4 r2 r4 q4) λd' s5 ⟨z2,H5,I5,r5,k2,e2,q5⟩=>?_));subst e2;cases r5;exact Y4 ⟨H5,I5,q5⟩
def DE(K:Xm)(x:V)(H:Hp)(k:Bool):Prop:=
 match x with|.bz=>k=Ξ|.bl b=>k=b|.int i=>k=(i !=0)|.str y=>y.length<=XE/\k=((y.length:Int)!=0)|.OL y=>y.size<=XE/\k=((y.size:Int)!=0)|.ref p=>(∃xs,lT K H p xs/\k=!xs.isEmpty)\/(∃xs,fH K H p xs/\k=!xs.isEmpty)\/∃kvs,H p=Δ (.dK kvs)/\k=!kvs.isEmpty|_=>False
theorem Bh(r:KV kvs vs):(!vs.isEmpty)=!kvs.isEmpty:=by cases r<;>rfl
theorem sG(r:aS xs its):(!its.toArray.isEmpty)=!xs.isEmpty:=by cases r<;>simp
theorem oV:(XE:Nat) < 2 ^ 63:=by rw[YH];decide
theorem Fm:Uu X (λx H Q=>∃k,DE X.K x H k/\Q k H):=by
 intro η s σ H x v Q I rx h;obtain⟨k,e,q⟩:=h;have hl:=oV;have hs:XE=16777216:=YH;cases x with
 |bz=>cases rx;have e':k=Ξ:=e;subst e';exact truthy_none ⟨H,I,q⟩|bl b=>cases rx;have e':k=b:=e;subst e';exact Y4 ⟨H,I,q⟩|int i=>obtain⟨t,rfl⟩:=rx;have e':k=(i !=0):=e;subst e';exact PySem.P.truthy_int ⟨H,I,q⟩|str y=>obtain⟨t,rfl⟩:=rx;obtain⟨hy,e'⟩:y.length<=XE/\k=((y.length:Int)!=0):=e;subst e';exact PySem.P.truthy_str (by lia) ⟨H,I.tok _,q⟩|OL y=>obtain⟨t,rfl⟩:=rx;obtain⟨hy,e'⟩:y.size<=XE/\k=((y.size:Int)!=0):=e;subst e';exact PySem.W.truthy_bytes (by lia) ⟨H,I.tok _,q⟩|ref p=>
  cases rx;have e':(∃xs,lT X.K H p xs/\k=!xs.isEmpty)\/(∃xs,fH X.K H p xs/\k=!xs.isEmpty)\/∃kvs,H p=Δ (.dK kvs)/\k=!kvs.isEmpty:=e;rcases e' with ⟨xs,hx,e'⟩|⟨xs,hx,e'⟩|⟨kvs,hx,e'⟩
  ·subst e';obtain⟨its,r,pl,hz⟩:=I.list hx;have hlen:=r.length;exact wpAny_truthy_list pl.isList (by simp only[Xp];lia) ⟨H,I.tok _,by rw[sG r];exact q⟩
  ·subst e';obtain⟨its,r,pl,hz⟩:=I.tuple hx;have hlen:=r.length;exact truthy_tuple pl (by simp only[Xp];lia) ⟨H,I.tok _,by rw[sG r];exact q⟩
  ·subst e';obtain⟨hz,hS,vs,r,m⟩:kvs.length<=XE/\(p==Y5)=Ξ/\∃vs,KV kvs vs/\s.heap.DictOf (be X.prog X.w) p vs:=I.aJ p _ hx;have hlen:kvs.length=vs.length:=abQ r;exact wpAny_truthy_dict hS m (by lia) ⟨H,I.tok _,by rw[Bh r];exact q⟩
 |_=>exact(show False from e).elim
theorem Fo(ha:PE X a ta)(he:∀whole,acQ a X.env whole=(do let v<-whole;ab7 a.pos;acr [v] (truthy v))):
  PT X a (λσ H Q=>ta σ H λx H'=>∃k,DE X.K x H' k/\Q k H'):=by
 intro η s σ H Q I h;exact isTrue_plain (bS (ha η s σ H _ I h) λv s1 ⟨x,H1,I1,r1,q1⟩=>Fm η s1 σ H1 x v Q I1 r1 q1) (he _)
theorem Bi:j9 X (ZD .Add) (λx y H Q=>∃i j,x=.str i/\y=.str j/\i.length+j.length<=XE/\Q (.str (i++j)) H):=by intro η s σ H x y v u Q I rx ry h;obtain⟨i,j,rfl,rfl,hz,q⟩:=h;obtain⟨t,rfl⟩:=rx;obtain⟨t',rfl⟩:=ry;exact add_str (λt' tk=>⟨.str (i++j),H,I.tok _,⟨_,rfl⟩,q⟩) hz
theorem vals1(r:aS [x] us):∃u,us=[u]/\RelV x u:=by cases r with|cons r1 r2=>cases r2;exact⟨_,rfl,r1⟩
theorem vals2(r:aS [x,y] us):∃u w',us=[u,w']/\RelV x u/\RelV y w':=by cases r with|cons r1 r2=>cases r2 with|cons r3 r4=>cases r4;exact⟨_,_,rfl,r1,r3⟩
end
structure Bj(h:Heap)(x dx C:Addr)(mA:Str->Option Value):Prop where
 obj:h.get? x=Δ (Zo C dx)
 ns:h.Ns1 dx mA
 ne:dx≠x
theorem DF{h:Heap}(n:h.Ns1 dx mA):∃od,h.get? dx=Δ od/\∀name,abz name od=Δ (mA name):=by
 obtain⟨o,es,ep,ho,hd,hk,_,hm⟩:=n;refine⟨o,ho,λname=>?_⟩;have e:=hm name;unfold nsFind findBy at e;rw[<-Array.find?_toList] at e;unfold abz;rw[hd];dsimp only;split;·rename_i y q;rw[q] at e;exact congrArg Δ e
 ·rename_i q;rw[q] at e;have a:es.toList.any (·.refKey)=Ξ:=by rw[abI];intro y hy;obtain⟨z,t,Uw⟩:=hk y (Array.mem_toList_iff.mp hy);simp[DictEntry.refKey,Uw]
  have a':¬es.toList.any (·.refKey)=Λ:=by rw[a];exact Yc
  rw[if_neg a'];exact congrArg Δ e
theorem Bj.look(I:Bj h x dx C mA):∃od,PySem.W.InstAt h x (Zo C dx) C (Δ od)/\∀name,abz name od=Δ (mA name):=
 let ⟨od,ho,hl⟩:=DF I.ns
 ⟨od,⟨I.obj,rfl,rfl,ho⟩,hl⟩
section
variable{prog:Yi}{w:World}{A:YO}{E:Value->Xv->Prop}{s:Xv}{K:Xm}{x dx C f:Addr}{mA:Str->Option Value}{name:Str}{v:Value}
theorem get_map(X:K.In s.heap)(I:Bj s.heap x dx C mA)(hg:aax K C name=Λ)(hh:aaT K C=Λ)(ha:X2 K (.ref C) name=Δ Θ)(hv:mA name=Δ v)(SO:PySem.W.handedIn v=Λ)(h:Q v {s with toks:=s.toks+1}):
  wpAny (model prog w) A (getAttr (.ref x) name expr) Q E s:=by
 obtain⟨od,J,hl⟩:=I.look;exact PySem.W.get_value X J (abr hg).1 (PySem.W.findObj_own hh ha rfl (by rw[hl,hv])) SO h
theorem Fp(X:K.In s.heap)(I:Bj s.heap x dx C mA)(hg:aax K C name=Λ)(hf:X2 K (.ref C) name=Δ (Δ (.ref f)))(ht:aad K (.ref f)=Λ)(hv:mA name=Θ)(h:Q (.ref f,[.ref x]) s):
  wpAny (model prog w) A (abW (.ref x) name pl) Q E s:=by
 obtain⟨od,J,hl⟩:=I.look;exact PySem.W.method_fn X J (abr hg).1 (abr hg).2 hf (beq_iff_eq.mp ht) (by show(abz name od).map (·.isSome)=Δ Ξ;rw[hl,hv];rfl) h
theorem Il(X:K.In s.heap)(I:Bj s.heap x dx C mA)(hs:X2 K (.ref C) "__setattr__"=Δ (Δ (.builtin "object.__setattr__")))(hp:abE K C=Λ)(ht:acg K C name=Δ Θ)(hh:aaT K C=Λ)(hw:acH mA ns)(hsz:ns.length<=XE)(h:∀h',Bj h' x dx C (λy=>if y=name then Δ v else mA y)->ZW dx s.heap h'->Q () {s with heap:=h',toks:=s.toks+2}):
  wpAny (model prog w) A (setAttr (.ref x) name v) Q E s:=by
 obtain⟨od,J,hl⟩:=I.look;refine PySem.W.set_plain X J hs (PySem.W.osa_open (s:={s with toks:=s.toks+1}) (r:=Θ) X J hp ht λb=>?_);obtain⟨cd,hc,Cr⟩:=PySem.W.any_some hh;have hx:s.heap.get? x=Δ ⟨.ref C,Δ dx,.plain,#[]⟩:=I.obj;refine W7 (Xn (W7 (W7 (wpAny_loadPart hx (W7 (PySem.W.Looks.here (s:={s with toks:=s.toks+1}) (PySem.W.looks_clsIn X hc) ?_))))));rw[Cr];refine Xn (a:=Δ dx) (W7 (Xn (W7 ?_)));refine wpAny_nsSet1 (s:={s with toks:=s.toks+1}) I.ns λh' SQ sD=>?_;obtain⟨oD,esD,epD,hoD,hdD,hcD⟩:=SQ.count (acH.cons name v hw);refine W7 (wpAny_lookBehind hoD (by rw[hdD];exact pastItsLine_dict (X5 hcD (by rw[Xt];lia))) ?_);exact Xn (h _ ⟨(sD.2 _ (Yj I.ne)).trans I.obj,SQ,I.ne⟩ sD)
theorem Fq(X:K.In s.heap)(hm:ach K C=Λ)(hi:X2 K (.ref C) "__init__"=Δ (Δ (.ref f)))(hf:PySem.W.typeIn K (.ref f)=Δ (.type "function"))(h:abh (model prog w) (A.under (.builtin "type.__call__" ⟨.ref C::vs,kw⟩)) (.call (.ref f) ⟨.ref (s.heap.objs.size+1)::vs,kw⟩) (PySem.W.InitBack (s.heap.objs.size+1) R)
   {s with heap:=(s.heap.push YT).push (Zo C s.heap.objs.size)}):
  abh (model prog w) A (.call (.ref C) ⟨vs,kw⟩) R s:=by
 obtain⟨hh,g,d,t,os⟩:=s;exact PySem.W.make_core (PySem.W.makes_of X hm) (PySem.W.looks_findIn X hi) (λself=>PySem.W.bind_fn X self hf) (.inl rfl) h
end
def jJ(f:Str)(v:V):List (Str×V)->List (Str×V)
 |[]=>[(f,v)]|(g,x)::r=>if g=f then(g,v)::r else(g,x)::jJ f v r
theorem qk f g v:∀fs:List (Str×V),(jJ f v fs).lookup g=if g=f then Δ v else fs.lookup g
 |[]=>by
  show Za g [(f,v)]=_;by_cases h:g=f;·have hb:(g==f)=Λ:=beq_iff_eq.mpr h;simp only[Za,hb,if_pos h]
  ·have hb:(g==f)=Ξ:=beq_eq_false_iff_ne.mpr h;simp only[Za,hb,if_neg h]
 |(k,x)::r=>by
  have ih:=qk f g v r;rw[show jJ f v ((k,x)::r)=(if k=f then(k,v)::r else(k,x)::jJ f v r) from rfl];by_cases hk:k=f
  ·rw[if_pos hk];by_cases h:g=k;·have hb:(g==k)=Λ:=beq_iff_eq.mpr h;simp only[Za,hb,if_pos (h.trans hk)]
   ·have hb:(g==k)=Ξ:=beq_eq_false_iff_ne.mpr h;simp only[Za,hb,if_neg (λe:g=f=>h (e.trans hk.symm))]
  ·rw[if_neg hk];by_cases h:g=k;·have hb:(g==k)=Λ:=beq_iff_eq.mpr h;simp only[Za,hb,if_neg (λe:g=f=>hk (h.symm.trans e))]
   ·have hb:(g==k)=Ξ:=beq_eq_false_iff_ne.mpr h;simp only[Za,hb];exact ih
theorem oW f v:∀fs:List (Str×V),f∈(jJ f v fs).map (·.1)/\∀g,g∈fs.map (·.1)->g∈(jJ f v fs).map (·.1)
 |[]=>⟨by simp[jJ],λg h=>by simp at h⟩|(k,x)::r=>by
  obtain⟨i1,i2⟩:=oW f v r;rw[show jJ f v ((k,x)::r)=(if k=f then(k,v)::r else(k,x)::jJ f v r) from rfl];by_cases hk:k=f;·rw[if_pos hk];subst hk;exact⟨by simp,λg h=>by simpa using h⟩
  ·rw[if_neg hk];refine⟨?_,λg h=>?_⟩;·rw[Xo];exact Xb _ i1
   ·rw[Xo] at h ⊢;rcases aai.mp h with e|e;·exact aai.mpr (.inl e)
    ·exact Xb _ (i2 g e)
theorem qm f v:∀fs:List (Str×V),(jJ f v fs).length<=fs.length+1
 |[]=>by simp[jJ]|(k,x)::r=>by
  have ih:=qm f v r;rw[show jJ f v ((k,x)::r)=(if k=f then(k,v)::r else(k,x)::jJ f v r) from rfl];by_cases hk:k=f;·rw[if_pos hk,Xt,Xt];lia
  ·rw[if_neg hk,Xt,Xt];lia
theorem kr.some_of(r:kr (Δ v) o):∃u,o=Δ u/\RelV v u:=by cases o with|none=>exact(show False from r).elim|some u=>exact⟨u,rfl,r⟩
theorem kr.none_of(r:kr Θ o):o=Θ:=by cases o with|none=>rfl|some u=>exact(show False from r).elim
theorem DG(r:RelV v u):PySem.W.handedIn u=Λ:=by cases v with|bz=>cases (show u=Zg from r);rfl|bl b=>cases (show u=aaH b from r);rfl|int i=>obtain⟨t,e⟩:=(show ∃t,u=abc i t from r);cases e;rfl|str x=>obtain⟨t,e⟩:=(show ∃t,u=abb x t from r);cases e;rfl|OL b=>obtain⟨t,e⟩:=(show ∃t,u=Value.bytes b t from r);cases e;rfl|LF b=>obtain⟨t,e⟩:=(show ∃t,u=acT b t from r);cases e;rfl|ref a=>cases (show u=XM a from r);rfl|ty n=>cases (show u=aac n from r);rfl
section
variable{P:Yi}{w:World}{H H':Hp}{h h':Heap}{a C dx:Addr}{fs fs':List (Str×V)}
theorem rP(aJ:ku P w H h)(e:H a=Δ (.ins C dx fs)):∃mA,Bj h a dx C mA/\(∀f,kr (fs.lookup f) (mA f))/\acH mA (fs.map (·.1))/\fs.length<=1000/\H dx=Δ (.own a):=by obtain⟨d,z,ne,ob,mA,n,r,q⟩:=(show bG P w H h a (.ins C dx fs) from aJ a _ e);exact⟨mA,⟨ob,n,ne⟩,r,q,z,d⟩
end
structure A5(K:Xm)(C:Addr):Prop where
 pg:aax K C Str.empty=Λ
 hd:aaT K C=Λ
 po:abE K C=Λ
 sa:X2 K (.ref C) "__setattr__"=Δ (Δ (.builtin "object.__setattr__"))
theorem A5.get{K:Xm}(c:A5 K C)f:aax K C f=Λ:=c.pg
noncomputable def jK(K:Xm)(C:Addr)(f:Str):Prop:=X2 K (.ref C) f=Δ Θ
theorem jK.PK{K:Xm}(n:jK K C f):acg K C f=Δ Θ:=by unfold acg;rw[show X2 K (.ref C) f=Δ Θ from n];rfl
structure Bk(K:Xm)(C:Addr)(m:Str)(f:Addr):Prop where
 at_:X2 K (.ref C) m=Δ (Δ (.ref f))
 fn:aad K (.ref f)=Λ
 kp:ZE K (.ref f)=Λ
section
variable{X:Cx}{η:List (Addr×Obj)}{σ:St}{H:Hp}{s:Xv}{a C dx:Addr}{fs:List (Str×V)}{f:Str}{v:V}{A:YO}{E:Value->Xv->Prop}
theorem Bl(I:Inv X η σ H s)(e:H a=Δ (.ins C dx fs))(c:A5 X.K C)(n:jK X.K C f)(l:fs.lookup f=Δ v)(h:∀u s',Inv X η σ H s'->RelV v u->Q u s'):wpAny (model X.prog X.w) A (getAttr (.ref a) f b) Q E s:=by obtain⟨mA,O,r,_,_,_⟩:=rP I.aJ e;obtain⟨u,hu,ru⟩:=kr.some_of (v:=v) (o:=mA f) (by rw[<-l];exact r f);exact get_map I.nj O (c.get f) c.hd n hu (DG ru) (h u _ (I.tok _) ru)
theorem mB(I:Inv X η σ H s)(e:H a=Δ (.ins C dx fs))(c:A5 X.K C)(k:Bk X.K C m g)(l:fs.lookup m=Θ)(h:Q (.ref g,[.ref a]) s):wpAny (model X.prog X.w) A (abW (.ref a) m pl) Q E s:=by obtain⟨mA,O,r,_,_,_⟩:=rP I.aJ e;have hn:mA m=Θ:=kr.none_of (by rw[<-l];exact r m);exact Fp I.nj O (c.get m) k.at_ k.fn hn h
theorem Bm(I:Inv X η σ H s)(e:H a=Δ (.ins C dx fs))(c:A5 X.K C)(n:jK X.K C f)(hl:fs.length < 1000)(ry:RelV y u)(h:∀s',Inv X η σ (upd H a (.ins C dx (jJ f y fs))) s'->Q () s'):wpAny (model X.prog X.w) A (setAttr (.ref a) f u) Q E s:=by
 obtain⟨mA,O,r,wi,_,ho⟩:=rP I.aJ e;have hz:(fs.map (·.1)).length<=XE:=by rw[Xf,YH];lia
 refine Il I.nj O c.sa c.po n.PK c.hd wi hz λh' O' sb=>h _ ?_;have hd:∃o,h'.get? dx=Δ o:=let ⟨o,_,_,e',_⟩:=O'.ns;⟨o,e'⟩
 refine I.write (x:=a) (e:=dx) (by rw[e];exact YR) (.inr ho) (λb q hb z=>(sb.2 b hb).trans z) hd ?_;refine⟨by rw[ax O.ne];exact ho,?_,O.ne,O'.obj,_,O'.ns,λg=>?_,λg hg=>?_⟩;·have:=qm f y fs;lia
 ·show kr ((jJ f y fs).lookup g) (if g=f then Δ u else mA g);rw[qk];by_cases q:g=f;·rw[if_pos q,if_pos q];exact ry
  ·rw[if_neg q,if_neg q];exact r g
 ·by_cases q:g=f;·rw[q];exact(oW f y fs).1
  ·refine(oW f y fs).2 g (wi g λz=>hg ?_);show(if g=f then Δ u else mA g)=Θ;rw[if_neg q];exact z
theorem Inv.made(I:Inv X η σ H s):Inv X η σ (upd (upd H s.heap.objs.size (.own (s.heap.objs.size+1))) (s.heap.objs.size+1) (.ins C s.heap.objs.size []))
  {s with heap:=(s.heap.push YT).push (Zo C s.heap.objs.size)}:=by
 have e1:(s.heap.push YT).get? s.heap.objs.size=Δ YT:=Xq s.heap rfl;have e2:((s.heap.push YT).push (Zo C s.heap.objs.size)).get? (s.heap.objs.size+1)=Δ (Zo C s.heap.objs.size):=by have:=Xq (s.heap.push YT) (o:=Zo C s.heap.objs.size) rfl;rwa [YI] at this
 have e3:(s.heap.push YT).Ns s.heap.objs.size (λ_=>Θ):=⟨YT,#[],_,e1,rfl,(λe he=>absurd he (by simp)),λ_=>rfl⟩;have I1:=I.laid (a:=s.heap.objs.size) (o:=.own (s.heap.objs.size+1)) (h':=s.heap.push YT) (t':=s.toks) (λb u q=>Xa _ q) (Xj _) ⟨_,e1⟩;refine I1.laid (a:=s.heap.objs.size+1) (o:=.ins C s.heap.objs.size []) (t':=s.toks) (λb u q=>Xa _ q) (abw (YI _ _)) ?_;have ne:s.heap.objs.size≠s.heap.objs.size+1:=XR (YZ _);refine⟨by rw[ax ne,aC],Yq _,ne,e2,λ_=>Θ,(Heap.Ns1.of_empty e3).at λo q=>Xa _ q,λ_=>YR,λy hy=>absurd rfl hy⟩
theorem Im(hb:ZY e f env (eval e env)=eval e env)(h:wpAny (model prog w) A (eval e env) (λo bA=>wpAny (model prog w) A (getAttr o f Λ) Q E bA) E s):wpAny (model prog w) A (eval (.Attribute e f pos) env) Q E s:=
 Attribute_any_ h (by rw[arm_eval_Attribute,hb])
end
def Ux(K:Xm)(ta:TE)(f:Str):TE:=λσ H Q=>ta σ H λx H1=>∃a C dx fs v,x=.ref a/\H1 a=Δ (.ins C dx fs)/\A5 K C/\jK K C f/\fs.lookup f=Δ v/\Q v H1
def Uy(K:Xm)(ta tv:TE)(f:Str):TS:=λD σ H=>tv σ H λy H1=>ta σ H1 λx H2=>∃a C dx fs,x=.ref a/\H2 a=Δ (.ins C dx fs)/\A5 K C/\jK K C f/\fs.length < 1000/\
 D.nx σ (upd H2 a (.ins C dx (jJ f y fs)))
section
variable{X:Cx}{o e value:Expr}{f:Str}{pos pos' Uz:Pos}{ta tv:TE}
theorem LZ(he:PE X e ta)(hb:ZY e f X.env (eval e X.env)=eval e X.env):PE X (.Attribute e f pos) (Ux X.K ta f):=by intro η s σ H Q I h;refine Im hb (bS (he η s σ H _ I h) λu s1 ⟨x,H1,I1,rx,a,C,dx,fs,v,ex,ea,c,n,l,q⟩=>?_);subst ex;obtain rfl:u=XM a:=rx;exact Bl I1 ea c n l λu' s2 I2 ru=>⟨v,H1,I2,ru,q⟩
theorem L0(ha:PE X o ta)(hv:PE X value tv)(hs:aav value (Δ (.Attribute o f pos')) pos.line X.env=pure Ξ):PS X (.Assign [.Attribute o f pos'] value pos) (Uy X.K ta tv f):=by intro η s σ H D I h;refine plainObj_wpAny_Assign_Attribute (bS (hv η s σ H _ I h) λu s1 ⟨y,H1,I1,ry,q⟩=>bS (ha η s1 σ H1 _ I1 q) λov s2 ⟨x,H2,I2,rx,a,C,dx,fs,ex,ea,c,n,l,q2⟩=>?_) hs;subst ex;obtain rfl:ov=XM a:=rx;exact Bm I2 ea c n l ry λs3 I3=>⟨σ,_,I3,q2⟩
theorem KJ(he:PE X e te)(I:Inv X η σ H s)(h:te σ H λx H1=>∃a C dx fs g,x=.ref a/\H1 a=Δ (.ins C dx fs)/\A5 X.K C/\Bk X.K C m g/\fs.lookup m=Θ/\
   ∀s1,Inv X η σ H1 s1->wpAny (model X.prog X.w) X.A (acG pos (.ref g) [.ref a] (Zm pos (XO args X.env)) (abk pos (aab [] X.env))) Q X.xe s1)(ht:eval (.Call (.Attribute e m apos) args [] pos) X.env=(do
   let ov<-eval e X.env
   ab7 apos.atName
   let (f,first)<-acr [ov] (abW ov m pl)
   acG pos f first (Zm pos (XO args X.env)) (abk pos (aab [] X.env)))):
  wpAny (model X.prog X.w) X.A (eval (.Call (.Attribute e m apos) args [] pos) X.env) Q X.xe s:=by
 refine aa4 (pl:=pl) (bS (he η s σ H _ I h) λu s1 ⟨x,H1,I1,rx,a,C,dx,fs,g,ex,ea,c,k,l,q⟩=>?_) ht;subst ex;obtain rfl:u=XM a:=rx;exact mB I1 ea c k l (q s1 I1)
end
section
variable{X:Cx}{η:List (Addr×Obj)}{σ:St}{H:Hp}{s:Xv}{A:YO}{E:Value->Xv->Prop}{Q:Value->Xv->Prop}{c:Value}{b:Bool}
inductive mC (K:Xm) (H:Hp):V->Value->Prop where
 |bz:mC K H .bz (.type "NoneType")
 |bl (x:Bool):mC K H (.bl x) (.type "bool")
 |int (i:Int):mC K H (.int i) (.type "int")
 |str (x:Str):mC K H (.str x) (.type "str")
 |LF (x:UInt64):mC K H (.LF x) (.type "float")
 |lst {a:Addr} {xs:List V} (e:H a=Δ (.lst xs)):mC K H (.ref a) (.type "list")
 |dA {a:Addr} {o:Obj} {xs:List V} (e:H a=Δ (.dA o (.lst xs))):mC K H (.ref a) (.type "list")
 |tup {a:Addr} {xs:List V} (e:H a=Δ (.tup xs)):mC K H (.ref a) (.type "tuple")
 |dK {a:Addr} {kvs:List (Key×V)} (e:H a=Δ (.dK kvs)):mC K H (.ref a) (.type "dict")
 |dT {a:Addr} {kvs:List (List Key×V)} (e:H a=Δ (.dT kvs)):mC K H (.ref a) (.type "dict")
 |ins {a C dx:Addr} {fs:List (Str×V)} (e:H a=Δ (.ins C dx fs)) (cl:A5 K C) (ha:X2 K (.ref C) "__class__"=Δ (Δ (.builtin "object.__class__")))
   (hn:PySem.W.specialIn K (.builtin "object.__class__") "__get__"=Δ (Δ (.builtin "getset_descriptor.__get__"))) (htk:PySem.W.takesIn K (.builtin "object.__class__")=Δ Λ)
   (hm:PySem.W.mroIn K C (.type "object")=Δ Λ):mC K H (.ref a) (.ref C)
theorem oX(I:Inv X η σ H s)(rx:RelV x u)(ty:mC X.K H x t)(e:acp X.K t c=Δ b)(h:∀tk,Q (.bool b) {s with toks:=tk}):
  wpAny (model X.prog X.w) A (call (.builtin "isinstance") [u,c]) Q E s:=by
 cases ty with
 |bz=>cases (show u=Zg from rx);exact YA PySem.W.kitx_none I.nj YR e (λz=>nomatch z) h|bl y=>cases (show u=aaH y from rx);exact YA PySem.W.kitx_bool I.nj YR e (λz=>nomatch z) h|int i=>obtain⟨t,q⟩:=(show ∃t,u=abc i t from rx);cases q;exact YA PySem.W.kitx_int I.nj YR e (λz=>nomatch z) h|str y=>obtain⟨t,q⟩:=(show ∃t,u=abb y t from rx);cases q;exact YA PySem.W.kitx_str I.nj YR e (λz=>nomatch z) h|LF y=>obtain⟨t,q⟩:=(show ∃t,u=acT y t from rx);cases q;exact YA PySem.W.kitx_float I.nj YR e (λz=>nomatch z) h|@lst a xs ea=>cases (show u=XM a from rx);obtain⟨_,_,n,_,h1⟩:=(show bG X.prog X.w H s.heap a (.lst xs) from I.aJ a _ ea);exact YA PySem.W.kitx_list I.nj ⟨_,h1,rfl⟩ e (λz=>nomatch z) h
 |@dA a ob xs ea=>cases (show u=XM a from rx);obtain⟨_,_,_,n,_,h1⟩:=(show bG X.prog X.w H s.heap a (.dA ob (.lst xs)) from I.aJ a _ ea);exact YA PySem.W.kitx_list I.nj ⟨_,h1,rfl⟩ e (λz=>nomatch z) h|@tup a xs ea=>cases (show u=XM a from rx);obtain⟨_,_,_,p⟩:=(show bG X.prog X.w H s.heap a (.tup xs) from I.aJ a _ ea);obtain⟨o,h1,h2,_⟩:=p;exact YA PySem.W.kitx_tuple I.nj ⟨o,h1,h2⟩ e (λz=>nomatch z) h|@dK a kvs ea=>cases (show u=XM a from rx);obtain⟨_,_,vs,_,p⟩:=(show bG X.prog X.w H s.heap a (.dK kvs) from I.aJ a _ ea);obtain⟨o,es,ep,h1,h2,_⟩:=p;exact YA PySem.W.kitx_dict I.nj ⟨o,h1,h2.1⟩ e (λz=>nomatch z) h|@dT a kvs ea=>cases (show u=XM a from rx);obtain⟨_,_,xs,_,o,es,ep,h1,h2,_⟩:=(show bG X.prog X.w H s.heap a (.dT kvs) from I.aJ a _ ea);exact YA PySem.W.kitx_dict I.nj ⟨o,h1,h2.1⟩ e (λz=>nomatch z) h|@ins a C dx fs ea cl ha hn htk hm=>cases (show u=XM a from rx);obtain⟨mA,O,_⟩:=rP I.aJ ea;obtain⟨od,J,_⟩:=O.look;exact YA (PySem.W.kitx_own (cl.get _) cl.hd ha hn htk hm) I.nj J e (λz=>nomatch z) h
end
structure cZ(k:Nat)(A:YO):Prop where
 hd:A.handled=Θ
 dp:A.depth+3*k+5 < recursionLimit
 un:A.units+16*k+200 < cLine
theorem cZ.mono(r:cZ k A)(h:j<=k):cZ j A:=⟨r.hd,by have:=r.dp;lia,by have:=r.un;lia⟩
theorem cZ.deeper(r:cZ (k+1) A)env:cZ k (A.deeper env):=
 ⟨r.hd,by have:=r.dp;show A.depth+1+3*k+5 < _;lia,by have:=r.un;show A.units+3+16*k+200 < _;lia⟩
theorem Bn{A:YO}:(A.under (.builtin "type.__call__" ⟨.ref C::us,kw⟩)).depth=A.depth+1:=by first|rfl|simp[acO,Code.weight,Code.isCreation,Code.isGuard,Code.isCaller,Code.frames,acN,guardIds]
theorem Bo{A:YO}:(A.under (.builtin "type.__call__" ⟨.ref C::us,kw⟩)).units=A.units+1:=by first|rfl|simp[acO,Code.cUnits,Code.frames,acN]
theorem cZ.make(r:cZ (k+1) A)C us kw:cZ k (A.under (.builtin "type.__call__" ⟨.ref C::us,kw⟩)):=
 ⟨r.hd,by have:=r.dp;rw[Bn];lia,by have:=r.un;rw[Bo];lia⟩
theorem cZ.depth(r:cZ k A):A.depth < recursionLimit:=by have:=r.dp;lia
def L6:TA:=λ_ H Q=>Q [] H
def PL(ta:TE)(tr:TA):TA:=λσ H Q=>ta σ H λx H1=>tr σ H1 λxs H2=>Q (x::xs) H2
section
variable{X:Cx}{e:Expr}{es:List Expr}{te:TE}{t:TA}{pos:Pos}
theorem Bp:PA X [] L6:=λ_ _ _ _ H Q I h=>aa2 ⟨[],H,I,.nil,h⟩
theorem rQ(ha:PE X e te)(hr:PA X es t)(hs:XO (e::es) X.env=(Ξ,eval e X.env)::XO es X.env:=by rfl):PA X (e::es) (PL te t):=by intro pos η s σ H Q I h;rw[hs];show wpAny _ _ (spliced ((Ξ,eval e X.env)::Zm pos (XO es X.env))) _ _ s;refine aaf (bS (ha η s σ H _ I h) λu s1 ⟨x,H1,I1,r1,q1⟩=>?_);exact bS (hr pos η s1 σ H1 _ I1 q1) λus s2 ⟨xs,H2,I2,r2,q2⟩=>⟨x::xs,H2,I2,.cons r1 r2,q2⟩
def UA(t:TA):TE:=λσ H Q=>t σ H λxs H1=>xs.length<=XE/\∀p,H1 p=Θ->Q (.ref p) (upd H1 p (.tup xs))
def UB(t:TA):TE:=λσ H Q=>t σ H λxs H1=>xs.length<=XE/\∀p,H1 p=Θ->Q (.ref p) (upd H1 p (.lst xs))
theorem L7{x1}(h:PA X es t):PE X (.Tuple es x1 pos) (UA t):=by intro η s σ H Q I hq;refine wpAny_Tuple_spliced (bS (h pos η s σ H _ I hq) λus s1 ⟨xs,H1,I1,r,z,q⟩=>⟨by rw[<-r.length];exact z,?_⟩);have hf:H1 s1.heap.objs.size=Θ:=I1.aJ.fresh (Xj _);refine⟨.ref s1.heap.objs.size,upd H1 s1.heap.objs.size (.tup xs),I1.laid (t':=s1.toks) (λb u e=>Xa _ e) (Xj _) ?_,rfl,q _ hf⟩;exact⟨z,us,r,⟨_,Xq _ rfl,rfl,_,rfl⟩⟩
theorem L8(h:PA X es t):PE X (.List es pos) (UB t):=by intro η s σ H Q I hq;refine wpAny_List_spliced (bS (h pos η s σ H _ I hq) λus s1 ⟨xs,H1,I1,r,z,q⟩=>⟨by rw[<-r.length];exact z,?_⟩);have hf:H1 s1.heap.objs.size=Θ:=I1.aJ.fresh (Xj _);refine⟨.ref s1.heap.objs.size,upd H1 s1.heap.objs.size (.lst xs),I1.laid (t':=s1.toks) (λb u e=>Xa _ e) (Xj _) ?_,rfl,q _ hf⟩;exact⟨z,us,0,r,Xq _ rfl⟩
end
abbrev Sp:=List V->Hp->VK->XK->Prop
abbrev HH:=List Env->Hp->Xv->XK->Value->Xv->Prop
structure xm(P:Yi)(w:World)(K:Xm)(mg:Str->Option Value)(base:Heap)(A:YO)(outer:List Env)(s:Xv)(H:Hp):Prop where
 frames:A.frames=Δ outer
 mod:Mod K mg base
 bs:∀b o,base.get? b=Δ o->s.heap.get? b=Δ o/\H b=Θ
 ET:base.objs.size<=s.heap.objs.size
 mx:s.heap.FunFrames base outer
 HZ:∀b∈jG outer,H b=Θ
 aJ:ku P w H s.heap
 bare:abK s.gens
def CE(outer:List Env)(P:Yi)(w:World)(H:Hp)(s:Xv)(Q:VK)(u:Value)(s':Xv):Prop:=
 ∃v H',s'.os=s.os/\abK s'.gens/\Un (jG outer) [] H H' s.heap s'.heap/\ku P w H' s'.heap/\RelV v u/\Q v H'
def CR(CX:HH)(outer:List Env)(P:Yi)(w:World)(H:Hp)(s:Xv)(Q:VK)(E:XK)(r:Result)(s':Xv):Prop:=
 match r with|.ok (.ret u)=>CE outer P w H s Q u s'|.ok _=>False|.error e=>CX outer H s E e s'
structure gE(P:Yi)(w:World)(K:Xm)(mg:Str->Option Value)(base:Heap)(CX:HH)(k:Nat)(f:Addr)(fd:Ze)(ps:List Str)(sp:Sp):Prop where
 len:∀vs H Q E,sp vs H Q E->vs.length=ps.length
 run:∀(A:YO) (outer:List Env) (s:Xv) (H:Hp) (args:Args) (us:List Value) (vs:List V) (Q:VK) (E:XK),cZ k A->xm P w K mg base A outer s H->acd s fd args (ps.zip us)->aS vs us->sp vs H Q E->
  abh (model P w) A (.call (.ref f) args) (CR CX outer P w H s Q E) s
theorem xm.make{K:Xm}(e:xm P w K mg base A outer s H)C us kw:
  xm P w K mg base (A.under (.builtin "type.__call__" ⟨.ref C::us,kw⟩)) outer s H:=⟨by first|exact e.frames|(simpa[acO,Code.envs,acN,pushEnvs] using e.frames),e.mod,e.bs,e.ET,e.mx,e.HZ,e.aJ,e.bare⟩
section
variable{X:Cx}{η:List (Addr×Obj)}{σ:St}{H:Hp}{s s':Xv}
theorem Inv.PM(I:Inv X η σ H s):xm X.prog X.w X.K X.mg X.base X.A X.stack s H:=
 ⟨I.ok.frames,I.ok.mod,I.bs,X5 I.ok.ET I.sz,I.stack,I.nk,I.aJ,I.bare⟩
theorem Inv.after(I:Inv X η σ H s)(h:CE X.stack X.prog X.w H s Q u s'):EP X η σ Q u s':=by obtain⟨v,H',os,bare,un,aJ,r,q⟩:=h;obtain⟨hh,g,d,t,os'⟩:=s';obtain rfl:os'=s.os:=os;exact⟨v,H',I.call (h':=hh) (g':=g) (d':=d) (t':=t) (ch:=[]) un aJ bare (λb z=>absurd z (by simp)),r,q⟩
end
def Ft(sp:Sp)(dvs:List V)(E:XK)(t:TA):TE:=λσ H Q=>t σ H λvs H1=>sp (vs++dvs) H1 Q E
noncomputable def Cw(C:Addr)(m:Str)(sp:Sp)(dvs:List V)(E:XK)(ta:TE)(t:TA):TE:=λσ H Q=>ta σ H λx H1=>∃a dx fs,x=.ref a/\H1 a=Δ (.ins C dx fs)/\fs.lookup m=Θ/\
 t σ H1 λvs H2=>sp (x::(vs++dvs)) H2 Q E
def PN(C:Addr)(sp:Sp)(dvs:List V)(E:XK)(t:TA):TE:=λσ H Q=>t σ H λvs H1=>∀x dx,H1 x=Θ->H1 dx=Θ->dx≠x->
 sp (.ref x::(vs++dvs)) (upd (upd H1 dx (.own x)) x (.ins C dx [])) (λv H2=>v=.bz/\Q (.ref x) H2) E
noncomputable def Binds(K:Xm)(fd:Ze)(ps:List Str)(ds:List Value):Prop:=
 ∀(s:Xv) (us:List Value),K.In s.heap->(us++ds).length=ps.length->acd s fd ⟨us,[]⟩ (ps.zip (us++ds))
theorem Binds.all{K:Xm}(h:∀us:List Value,us.length=ps.length->ac0 fd ⟨us,[]⟩=pure (ps.zip us)):Binds K fd ps []:=λs us _ hl=>by rw[Yf] at hl ⊢;exact .of_eq (h us hl)
def kA(CX:HH)(X:Cx)(E:XK):Prop:=∀(η:List (Addr×Obj)) (σ:St) (H:Hp) (s:Xv) (e:Value) (s':Xv),Inv X η σ H s->CX X.stack H s E e s'->X.xe e s'
section
variable{X:Cx}{CX:HH}{k:Nat}{f C:Addr}{fd:Ze}{ps:List Str}{sp:Sp}{dvs:List V}{ds:List Value}{E:XK}{x m:Str}{p pos apos:Pos}{e o:Expr}{es:List Expr}{ta:TE}{t:TA}
theorem sH(F:gE X.prog X.w X.K X.mg X.base CX k f fd ps sp)(hr:cZ k X.A)(hb:Binds X.K fd ps ds)(hd:aS dvs ds)(hx:kA CX X E)(I:Inv X η σ H s)(r:aS vs us)(h:sp (vs++dvs) H Q E):wpAny (model X.prog X.w) X.A (call (.ref f) us) (EP X η σ Q) X.xe s:=by
 have r2:aS (vs++dvs) (us++ds):=r.append hd;have hl:(us++ds).length=ps.length:=by rw[<-r2.length];exact F.len _ _ _ _ h
 refine acX (abu (F.run X.A X.stack s H ⟨us,[]⟩ (us++ds) (vs++dvs) Q E hr I.PM (hb s us I.nj hl) r2 h) λr s' hq=>?_);cases r with|error e=>exact hx η σ H s e s' I hq|ok fl=>cases fl with|ret u=>exact I.after hq|next=>exact Yz hq|brk=>exact Yz hq|cont=>exact Yz hq
theorem Io(F:gE X.prog X.w X.K X.mg X.base CX k f fd ps sp)(hr:cZ k X.A)(hg:Gl X x)(hm:X.mg x=Δ (.ref f))(hk:ZE X.K (.ref f)=Λ)(hb:Binds X.K fd ps ds)(hd:aS dvs ds)(hx:kA CX X E)
  (ha:PA X (e::es) t) (Ip:(x==("__debug__":Str))=Ξ:=by decide) (he:XO (e::es) X.env=(Ξ,eval e X.env)::XO es X.env:=by rfl) (yG:(Zm pos (XO es X.env)).any (·.1)=Ξ:=by rfl):
  PE X (.Call (.Name x p) (e::es) [] pos) (Ft sp dvs E t):=by
 intro η s σ H Q I h;refine YG (nu I hg hm ?_ Ip);refine aaI (h₀:=X.base) I.ok.mod.LI hk (bS (ha pos η s σ H _ I h) λus s1 ⟨vs,H1,I1,r,q⟩=>⟨I1.nj,?_⟩) he yG;exact sH F hr hb hd hx I1 r q
theorem Fu(F:gE X.prog X.w X.K X.mg X.base CX k f fd ps sp)(hr:cZ k X.A)(hg:Gl X x)(hm:X.mg x=Δ (.ref f))(hk:ZE X.K (.ref f)=Λ)(hb:Binds X.K fd ps ds)(hd:aS dvs ds)(hx:kA CX X E)
  (Ip:(x==("__debug__":Str))=Ξ:=by decide):PE X (.Call (.Name x p) [] [] pos) (Ft sp dvs E L6):=by
 intro η s σ H Q I h;refine YG (nu I hg hm ?_ Ip);exact PySem.W.callWith_K0 I.nj hk (sH (us:=[]) F hr hb hd hx I .nil h)
theorem Iq(he:PE X o ta)(c:A5 X.K C)(hm:Bk X.K C m f)(F:gE X.prog X.w X.K X.mg X.base CX k f fd ps sp)(hr:cZ k X.A)(hb:Binds X.K fd ps ds)(hd:aS dvs ds)(hx:kA CX X E)(ha:PA X (e::es) t)(qj:XO (e::es) X.env=(Ξ,eval e X.env)::XO es X.env:=by rfl)(yG:(Zm pos (XO es X.env)).any (·.1)=Ξ:=by rfl)(ht:eval (.Call (.Attribute o m apos) (e::es) [] pos) X.env=(do
   let ov<-eval o X.env
   ab7 apos.atName
   let (f,first)<-acr [ov] (abW ov m pl)
   acG pos f first (Zm pos (XO (e::es) X.env)) (abk pos (aab [] X.env))):=by rfl):
  PE X (.Call (.Attribute o m apos) (e::es) [] pos) (Cw C m sp dvs E ta t):=by
 intro η s σ H Q I h;refine aa4 (pl:=pl) (bS (he η s σ H _ I h) λu s1 ⟨x,H1,I1,rx,a,dx,fs,ex,ea,l,q⟩=>?_) ht;subst ex;obtain rfl:u=XM a:=rx;refine mB I1 ea c hm l ?_;refine aaI (first:=[.ref a]) (h₀:=X.base) I.ok.mod.LI hm.kp (bS (ha pos η s1 σ H1 _ I1 q) λus s2 ⟨vs,H2,I2,r,q2⟩=>⟨I2.nj,?_⟩) qj yG;exact sH (us:=.ref a::us) (vs:=.ref a::vs) F hr hb hd hx I2 (.cons rfl r) q2
theorem Fv(he:PE X o ta)(c:A5 X.K C)(hm:Bk X.K C m f)(F:gE X.prog X.w X.K X.mg X.base CX k f fd ps sp)(hr:cZ k X.A)(hb:Binds X.K fd ps ds)(hd:aS dvs ds)(hx:kA CX X E)(ht:eval (.Call (.Attribute o m apos) [] [] pos) X.env=(do
   let ov<-eval o X.env
   ab7 apos.atName
   let (f,first)<-acr [ov] (abW ov m pl)
   acG pos f first (Zm pos (XO [] X.env)) (abk pos (aab [] X.env))):=by rfl):
  PE X (.Call (.Attribute o m apos) [] [] pos) (Cw C m sp dvs E ta L6):=by
 intro η s σ H Q I h;refine aa4 (pl:=pl) (bS (he η s σ H _ I h) λu s1 ⟨x,H1,I1,rx,a,dx,fs,ex,ea,l,q⟩=>?_) ht;subst ex;obtain rfl:u=XM a:=rx;refine mB I1 ea c hm l ?_;exact PySem.W.callWith_K0 (first:=[.ref a]) I1.nj hm.kp (sH (us:=[.ref a]) (vs:=[.ref a]) F hr hb hd hx I1 (.cons rfl .nil) q)
structure Mk(K:Xm)(C f:Addr):Prop where
 makes:ach K C=Λ
 init:X2 K (.ref C) "__init__"=Δ (Δ (.ref f))
 fn:aad K (.ref f)=Λ
 kp:ZE K (.ref C)=Λ
theorem Fw(M:Mk X.K C f)(F:gE X.prog X.w X.K X.mg X.base CX k f fd ps sp)(hr:cZ (k+1) X.A)(hb:Binds X.K fd ps ds)(hd:aS dvs ds)(hx:kA CX X E)(I:Inv X η σ H s)(r:aS vs us)(h:∀x dx,H x=Θ->H dx=Θ->dx≠x->sp (.ref x::(vs++dvs)) (upd (upd H dx (.own x)) x (.ins C dx [])) (λv H2=>v=.bz/\Q (.ref x) H2) E):
  wpAny (model X.prog X.w) X.A (call (.ref C) us) (EP X η σ Q) X.xe s:=by
 have hq:=h (s.heap.objs.size+1) s.heap.objs.size (I.aJ.fresh (Y9 _)) (I.aJ.fresh (Xj _)) (XR (YZ _));have I2:=Inv.made (C:=C) I;have r2:aS (V.ref (s.heap.objs.size+1)::(vs++dvs)) (XM (s.heap.objs.size+1)::(us++ds)):=.cons rfl (r.append hd);have hl:(XM (s.heap.objs.size+1)::us++ds).length=ps.length:=by have e:=r2.length;rw[F.len _ _ _ _ hq] at e;exact e.symm
 refine acX (Fq (f:=f) I.nj M.makes M.init (beq_iff_eq.mp M.fn) (abu (F.run _ X.stack _ _ ⟨XM (s.heap.objs.size+1)::us,[]⟩ (XM (s.heap.objs.size+1)::(us++ds)) _ _ E (hr.make C us [])
  (I2.PM.make C us []) (hb _ (XM (s.heap.objs.size+1)::us) I2.nj hl) r2 hq) λr s' xn=>?_))
 cases r with|error e=>exact hx η σ _ _ e s' I2 xn|ok fl=>cases fl with|ret u=>obtain⟨v,H',I3,rv,ev,q3⟩:=I2.after xn;subst ev;exact⟨rv,⟨V.ref (s.heap.objs.size+1),H',I3,rfl,q3⟩⟩|next=>exact Yz xn|brk=>exact Yz xn|cont=>exact Yz xn
theorem Ir(M:Mk X.K C f)(F:gE X.prog X.w X.K X.mg X.base CX k f fd ps sp)(hr:cZ (k+1) X.A)(hg:Gl X x)(hm:X.mg x=Δ (.ref C))(hb:Binds X.K fd ps ds)(hd:aS dvs ds)(hx:kA CX X E)
  (ha:PA X (e::es) t) (Ip:(x==("__debug__":Str))=Ξ:=by decide) (he:XO (e::es) X.env=(Ξ,eval e X.env)::XO es X.env:=by rfl) (yG:(Zm pos (XO es X.env)).any (·.1)=Ξ:=by rfl):
  PE X (.Call (.Name x p) (e::es) [] pos) (PN C sp dvs E t):=by
 intro η s σ H Q I h;refine YG (nu I hg hm ?_ Ip);refine aaI (h₀:=X.base) I.ok.mod.LI M.kp (bS (ha pos η s σ H _ I h) λus s1 ⟨vs,H1,I1,r,q⟩=>⟨I1.nj,?_⟩) he yG;exact Fw M F hr hb hd hx I1 r q
end
section
variable{X:Cx}{CX:HH}{k:Nat}{f C:Addr}{fd:Ze}{ps ks:List Str}{sp:Sp}{E:XK}{x m:Str}{p pos apos kpos:Pos}{e o:Expr}{es:List Expr}{iG:List abJ}{te ta:TE}{t tk:TA}{nm:Option Str}
variable{g:List Value->List Value->List Value}{gV:List V->List V->List V}
end
structure nv(N P:List Str)(sc:Scope):Prop where
 kind:sc.kind=.function
 co:sc.isCoroutine=Ξ
 gen:sc.isGenerator=Ξ
 nd:N.Nodup
 pre:N.take P.length=P
 par:∀x∈P,sc.names.lookup x=Δ .local\/sc.names.lookup x=Δ .cell
 L9:∀y∈sc.names,y.2≠.free
theorem vW{aba:Str->Option ZT}:∀{binds} {m},(∀v,(x,v)∉binds)->bindL aba binds m x=m x
 |[],_,_=>rfl|(n,v)::r,m,h=>by
  unfold bindL;rw[vW λw hw=>h w (Xb _ hw)];split
  ·have:x≠n:=by rintro rfl;exact h v Xh
   simp[this]
  ·rfl
theorem vX{aba:Str->Option ZT}:∀{binds} {m},(∀v,(x,v)∉binds)->bindC aba binds m x=m x
 |[],_,_=>rfl|(n,v)::r,m,h=>by
  unfold bindC;rw[vX λw hw=>h w (Xb _ hw)];split;·rfl
  ·have:x≠n:=by rintro rfl;exact h v Xh
   simp[this]
theorem vY{aba:Str->Option ZT}:∀{P:List Str} {vs} {i:Nat} {m},P.Nodup->P[i]?=Δ x->vs[i]?=Δ v->aba x=Δ .local->
  bindL aba (P.zip vs) m x=Δ v
 |[],_,_,_,_,h,_,_=>by simp at h|_::_,[],_,_,_,_,h,_=>by simp at h|p::P,w::vs,0,m,nd,h1,h2,hk=>by simp at h1 h2;subst h1;subst h2;show bindL aba ((p,w)::P.zip vs) m p=_;unfold bindL;rw[vW λv hv=>(YK.mp nd).1 (aag hv).1,if_pos hk];simp
 |p::P,w::vs,i+1,m,nd,h1,h2,hk=>by show bindL aba ((p,w)::P.zip vs) m x=_;unfold bindL;exact vY (i:=i) (YK.mp nd).2 (by simpa using h1) (by simpa using h2) hk
theorem vZ{aba:Str->Option ZT}:∀{P:List Str} {vs} {i:Nat} {m},P.Nodup->P[i]?=Δ x->vs[i]?=Δ v->aba x≠Δ .local->
  bindC aba (P.zip vs) m x=Δ v
 |[],_,_,_,_,h,_,_=>by simp at h|_::_,[],_,_,_,_,h,_=>by simp at h|p::P,w::vs,0,m,nd,h1,h2,hk=>by simp at h1 h2;subst h1;subst h2;show bindC aba ((p,w)::P.zip vs) m p=_;unfold bindC;rw[vX λv hv=>(YK.mp nd).1 (aag hv).1,if_neg hk];simp
 |p::P,w::vs,i+1,m,nd,h1,h2,hk=>by show bindC aba ((p,w)::P.zip vs) m x=_;unfold bindC;exact vZ (i:=i) (YK.mp nd).2 (by simpa using h1) (by simpa using h2) hk
def start(N:List Str)(vs:List V):St:=vs.map Δ++X6 (N.length - vs.length) Θ
noncomputable def xo(CX:HH)(P:Yi)(w:World)(K:Xm)(mg:Str->Option Value)(base:Heap)(N:List Str)(qual:Str)(scope:Scope)(f:Addr)(cd:Value)(A:YO)(outer:List Env)(s:Xv)(H:Hp)(E:XK):Cx where
 prog:=P
 w:=w
 K:=K
 mg:=mg
 base:=base
 A:=A.deeper (ab8 qual scope s.heap.objs.size f cd)
 N:=N
 gU:=s
 yR:=H
 env:=ab8 qual scope s.heap.objs.size f cd
 outer:=outer
 stack:=ab8 qual scope s.heap.objs.size f cd::outer
 ex:=[]
 calm:=Λ
 fn:=λ_=>Λ
 pn:=[]
 xe:=λe s'=>wpAny (model P w) (A.deeper (ab8 qual scope s.heap.objs.size f cd)) (leaving (ab8 qual scope s.heap.objs.size f cd) e) (λ_ Ma=>CX outer H s E e Ma) (λe' Ma=>CX outer H s E e' Ma) s'
theorem sI{sc:Scope}(h:sc.names.lookup x=Δ .cell):∃c,(cellsFrom n sc.names []).lookup x=Δ c:=by have q:=PySem.W.cellsFrom_some sc.names n [] (.inl h);exact Option.isSome_iff_exists.mp q
theorem DH{K:Xm}(S:nv N ps scope)(hd:A.handled=Θ)(e0:xm P w K mg base A outer s H)(hl:vs.length=ps.length)(r:aS vs us)(x:InCallC s s.heap.objs.size (bindL (ab8 qual scope s.heap.objs.size f cd).kindOf (ps.zip us) λ_=>Θ) (cellsFrom (s.heap.objs.size+1) scope.names []) (bindC (ab8 qual scope s.heap.objs.size f cd).kindOf (ps.zip us) λ_=>Θ) s1):
  Inv (xo CX P w K mg base N qual scope f cd A outer s H E) [] (start N vs) H s1:=by
 have yG:ps.length<=N.length:=by have:=congrArg abG S.pre;rw[Yu] at this;lia
 obtain⟨h1,tk,rfl,hk⟩:=x.done;have HI:∀b:Addr,b∉(xo CX P w K mg base N qual scope f cd A outer s H E).ex:=λb z=>absurd (show b∈([]:List Addr) from z) (by simp);refine⟨⟨e0.mod,S.kind,rfl,rfl,Xj _,λy z c h1 h2=>?_,λy hy=>?_,λy c _ h=>?_,λ_=>hd,YO.frames_deeper e0.frames,.inr ⟨rfl,rfl⟩,λb z=>absurd z (HI b),e0.bs,e0.ET,λb _ _=>HI b,λb z=>absurd z (HI b),e0.mx,e0.HZ⟩,
  rfl,e0.bare,Un.kept hk,⟨_,x.toInCall.ns,λi y v h1 h2 h3=>?_⟩,λy c h=>⟨_,x.cell y c h⟩,e0.aJ.fresh (Xj _),λy c h=>?_,λp hp=>absurd (show p∈([]:List (Addr×Obj)) from hp) (by simp),e0.aJ.kept hk,?_⟩
 ·exact name_of_addr x.apart (X8 h1) (X8 h2)
 ·have hy:scope.names.lookup y=Δ .cell\/scope.names.lookup y=Δ .free:=hy;rcases hy with hy|hy;·exact sI hy
  ·exact absurd rfl (S.L9 _ (X8 hy))
 ·exact aay (x.above y c (X8 h))
 ·have hi:i < vs.length:=by
   unfold start at h2;by_cases hi:i < vs.length;·exact hi
   ·rw[Xy (by simpa using hi)] at h2;rw[Z9] at h2;split at h2<;>cases h2
  have ha:vs[i]?=Δ v:=by unfold start at h2;rw[Xg (by simpa using hi),Xi] at h2;cases e:vs[i]? with|none=>rw[e] at h2;cases h2|some a=>rw[e] at h2;cases h2;rfl
  obtain⟨u,hu,rv⟩:=r.get ha;have hp:ps[i]?=Δ y:=by rw[<-S.pre,List.getElem?_take_of_lt (by lia)];exact h1
  have SR:ps.Nodup:=by rw[<-S.pre];exact S.nd.sublist (List.take_sublist _ _)
  refine⟨u,rv,?_⟩;rcases S.par y (Xw hp) with k|k;·exact .inl ⟨k,vY SR hp hu k⟩
  ·obtain⟨c,e⟩:=sI (n:=s.heap.objs.size+1) k;refine .inr ⟨.inl k,c,e,?_⟩;have q:=x.cell y c e;rw[vZ SR hp hu (by show scope.names.lookup y≠_;rw[k];decide)] at q;exact q
 ·exact e0.aJ.fresh (aay (x.above y c (X8 h)))
 ·unfold start;show _=N.length;rw[Xz,Xf,aan]
  lia
theorem PQ{K:Xm}{dV kV doc pm kq ct oc:Value}(lk:K.lookup f=Δ ⟨oc,od,.func (aaU name qual params body scope dV kV doc pm an kq ct),Iu⟩)(qi:acq K kq qual=Λ)(S:nv N ps scope)(len:∀vs H Q E,sp vs H Q E->vs.length=ps.length)(sJ:∀(A:YO) (outer:List Env) (s:Xv) (H:Hp) (vs:List V) (Q:VK) (E:XK),cZ k (A.deeper (ab8 qual scope s.heap.objs.size f kq))->sp vs H Q E->
   ∃t,my (xo CX P w K mg base N qual scope f kq A outer s H E) body t/\t {nx:=λ_ H'=>Q .bz H',rt:=Q} (start N vs) H):
  gE P w K mg base CX (k+1) f (aaU name qual params body scope dV kV doc pm an kq ct) ps sp:=by
 refine⟨len,λA outer s H args us vs Q E hr e0 hb r xp=>?_⟩;have hl:=len _ _ _ _ xp;have KX:K.In s.heap:=e0.mod.LI.keeps λb o e=>(e0.bs b o e).1;have lim:s.heap.NoLimit:=e0.mod.nolimit.keeps λb o e=>(e0.bs b o e).1;have Fx:∀y∈ps.zip us,scope.names.lookup y.1=Δ .local\/(scope.names.lookup y.1=Δ .cell/\((cellsFrom (s.heap.objs.size+1) scope.names []).lookup y.1).isSome=Λ):=λ⟨n,v⟩ hy=>by
  rcases S.par n (aag hy).1 with q|q;·exact .inl q
  ·exact .inr ⟨q,PySem.W.cellsFrom_some _ _ _ (.inl q)⟩
 refine codeAny_call_function hr.depth (KX _ _ lk) rfl S.co S.gen rfl (PySem.W.codeRec_of KX qi) (hb _ _ _ _ ?_);refine wpAny_newFunctionEnv_cells S.kind Fx λenv he s1 x=>?_;subst he;refine⟨lim.keeps x.toInCall.keep,codeAny_func ?_⟩;obtain⟨t,ht,hq⟩:=sJ A outer s H vs Q E (hr.deeper _) xp;have I:Inv (xo CX P w K mg base N qual scope f kq A outer s H E) [] (start N vs) H s1:=DH S hr.hd e0 hl r x;refine YY (ht [] s1 (start N vs) H _ I hq) (λfl s' hs=>?_) λe s' hs=>hs;have fin:∀{cQ:St} {H':Hp} {v:V} {u:Value},Inv (xo CX P w K mg base N qual scope f kq A outer s H E) [] cQ H' s'->RelV v u->Q v H'->CE outer P w H s Q u s':=
  λ{cQ H' v u} J rv q=>⟨v,H',J.os,J.bare,J.base,J.aJ,rv,q⟩
 cases fl with|ret u=>obtain⟨v,cQ,H',J,rv,q⟩:=hs;exact fin J rv q|next=>obtain⟨cQ,H',J,q⟩:=hs;exact fin (v:=V.bz) (u:=Zg) J rfl q|brk=>obtain⟨_,_,_,q⟩:=hs;exact Yz q|cont=>obtain⟨_,_,_,q⟩:=hs;exact Yz q
section
variable{X:Cx}{x:Str}{p pos:Pos}{e:Expr}{es:List Expr}{t:TA}{id T:String}{r:List V->Hp->VK->Prop}
def UC(r:List V->Hp->VK->Prop)(t:TA):TE:=λσ H Q=>t σ H λvs H1=>r vs H1 Q
theorem sM(hc:hW X (.builtin id) r)(hg:Gl X x)(hm:X.mg x=Θ)(hv:aaw x=Δ (.builtin id))(ha:PA X (e::es) t)(hn:x≠"__name__":=by decide)(Ip:(x==("__debug__":Str))=Ξ:=by decide)
  (he:XO (e::es) X.env=(Ξ,eval e X.env)::XO es X.env:=by rfl) (yG:(Zm pos (XO es X.env)).any (·.1)=Ξ:=by rfl):PE X (.Call (.Name x p) (e::es) [] pos) (UC r t):=by
 intro η s σ H Q I h;refine YG (jH I hg hm hv ?_ hn Ip);exact PyProof.Rows.callWith_builtin1 (bS (ha pos η s σ H _ I h) λus s1 ⟨vs,H1,I1,r1,q1⟩=>hc η s1 σ H1 vs us Q I1 r1 q1) he yG
theorem lC(hc:hW X (.type T) r)(hg:Gl X x)(hm:X.mg x=Θ)(hv:aaw x=Δ (.type T))(ha:PA X (e::es) t)(hn:x≠"__name__":=by decide)(Ip:(x==("__debug__":Str))=Ξ:=by decide)
  (he:XO (e::es) X.env=(Ξ,eval e X.env)::XO es X.env:=by rfl) (yG:(Zm pos (XO es X.env)).any (·.1)=Ξ:=by rfl):PE X (.Call (.Name x p) (e::es) [] pos) (UC r t):=by
 intro η s σ H Q I h;refine YG (jH I hg hm hv ?_ hn Ip);exact Yo (bS (ha pos η s σ H _ I h) λus s1 ⟨vs,H1,I1,r1,q1⟩=>hc η s1 σ H1 vs us Q I1 r1 q1) he yG
end
end L2
namespace HT
open PySem PyProof.Rows
section
open PySem.SeqAt
open PySem.AutoSeq1 (wpAny_loadPart')
open PySem.MeetsSeq PySem.MeetsSeq2 PySem.MeetsSeq3
end
section
variable{prog:Yi}{w:World}{A:YO}{E:Value->Xv->Prop}{s:Xv}
theorem Iv(ht:IsTup s.heap t vs.toArray)(hb:IsTup s.heap b ws.toArray)(hv:vs≠[])(h1:ws=[]->Q (.ref t) s)(h2:ws≠[]->Q (.ref s.heap.objs.size) {s with heap:=s.heap.push {cls:=.type "tuple",data:=.seq (vs++ws).toArray}})(hsz:vs.length+ws.length<=XE):wpAny (model prog w) A (ZD .Add (.ref t) (.ref b)) Q E s:=by
 obtain⟨⟨cls,dd,data,sl⟩,ho,hc,n,hd⟩:=id ht;obtain⟨⟨UD,SS,data2,SU⟩,HJ,Mb,n2,hd2⟩:=id hb;simp only at hc hd Mb hd2;subst hc hd Mb hd2;have e:vs.toArray++ws.toArray=(vs++ws).toArray:=by simp
 by_cases hw:ws=[]
 ·exact acF ⟨_,ho,rfl⟩ ⟨_,HJ,rfl⟩ abV acy aaW aaP (aaD _ _)
   (tuple_addW1 t b vs.toArray ws.toArray n n2 dd SS sl SU (by simpa using hv) (by simp[hw])) ⟨ho,HJ,h1 hw⟩
 ·refine acF ⟨_,ho,rfl⟩ ⟨_,HJ,rfl⟩ abV acy aaW aaP (aaD _ _)
   (tuple_addW2 t b vs.toArray ws.toArray n n2 dd SS sl SU (by simpa using hv) (by simpa using hw) (by rw[Xp,Xp];exact hsz)) ⟨ho,HJ,?_⟩
  rw[e];exact h2 hw
noncomputable def cR(n d:Nat):Option Int->Nat
 |none=>d|some v=>if v < 0 then(v+(n:Int)).toNat else min v.toNat n
theorem Mc n d(hd:d<=n)o:cR n d o<=n:=by
 cases o with
 |none=>exact hd|some v=>
  show(if v < 0 then(v+(n:Int)).toNat else min v.toNat n)<=n;by_cases hv:v < 0;·rw[if_pos hv];lia
  ·rw[if_neg hv];exact Z7 _ _
theorem Cy v(n d:Nat):(if v < 0 then max (v+(n:Int)) 0 else min v (n:Int))=((cR n d (Δ v):Nat):Int):=by
 show(if v < 0 then max (v+(n:Int)) 0 else min v (n:Int))=(((if v < 0 then(v+(n:Int)).toNat else min v.toNat n):Nat):Int);by_cases hv:v < 0;·simp only[if_pos hv];lia
 ·simp only[if_neg hv];lia
theorem Bq lo hi(n:Nat):aaA lo hi 1 (n:Int)=(((cR n 0 lo:Nat):Int),((cR n n hi:Nat):Int)):=by
 have h1:¬((1:Int) < 0):=by lia
 unfold aaA;simp only[h1,if_false];refine ac3 ?_ ?_;·cases lo with|none=>rfl|some v=>exact Cy v n 0
 ·cases hi with|none=>rfl|some v=>exact Cy v n n
theorem Br(i j:Nat):ZK (i:Int) (j) 1=j - i:=by
 unfold ZK;have h1:(1:Int) > 0:=by lia
 simp only[h1,if_true,Int.ediv_one];split<;>lia
theorem sN(p:acb v o)(h:Q o s):wpAny (model prog w) A (abi.Slice.slicePartIndex v) Q E s:=by cases p with|none=>exact slicePart_none h|int i t=>exact slicePart_int h
theorem ji{vl vu:Value}{lo hi:Option Int}{n:Nat}{Q:Int×Int×Nat->Xv->Prop}(hs:s.heap.IsSliceOf sl vl vu .none)(pl:acb vl lo)(pu:acb vu hi)(h:Q (((cR n 0 lo:Nat):Int),1,cR n n hi - cR n 0 lo) s):wpAny (model prog w) A (abi.Slice.sliceApplied (.ref sl) (pure (n:Int))) Q E s:=by obtain⟨os,Md,SV,PR⟩:=id hs;unfold abi.Slice.sliceApplied abi.Slice.sliceFields;refine W7 (W7 (YC Md PR (x:=vl) rfl (W7 (YC Md PR (x:=vu) rfl (W7 (YC Md PR (x:=.none) rfl (Xn ?_)))))));refine W7 (slicePart_none ?_);show wpAny _ _ (if((1:Int)==0)=Λ then _ else _) _ _ s;rw[if_neg (by decide)];refine W7 (sN pl (W7 (sN pu (W7 (Xn ?_)))));show wpAny _ _ (match aaA lo hi 1 (n:Int) with|(lo,hi)=>pure (lo,(1:Int),ZK lo hi 1)) _ _ s;rw[Bq lo hi n];show wpAny _ _ (pure (((cR n 0 lo:Nat):Int),(1:Int),ZK ((cR n 0 lo:Nat):Int) ((cR n n hi:Nat):Int) 1)) _ _ s;rw[Br];exact Xn h
theorem Fy(xs:Array Value)(i k:Nat):((W8 k).filterMap λ(m:Nat)=>xs[((i:Int)+(m:Int)*1).toNat]?).toArray=((xs.toList.drop i).take k).toArray:=by
 have e:(λ(m:Nat)=>xs[((i:Int)+(m:Int)*1).toNat]?)=λm=>xs[i+m]?:=by
  funext m;have:((i:Int)+(m:Int)*1).toNat=i+m:=by lia
  rw[this]
 rw[e];have:=pick_run xs i k;rw[List.filterMap_map] at this;have e2:((λx=>xs[x]?)∘λx=>i+x)=λm=>xs[i+m]?:=rfl;rw[e2] at this;rw[this]
theorem ny{lo hi:Option Int}(ht:IsTup s.heap t items)(hs:s.heap.IsSliceOf sl vl vu .none)(pl:acb vl lo)(pu:acb vu hi)(hw:¬(cR items.size 0 lo=0/\cR items.size items.size hi=items.size))(h:Q (.ref s.heap.objs.size) {s with heap:=s.heap.push {cls:=.type "tuple",data:=.seq ((items.toList.drop (cR items.size 0 lo)).take (cR items.size items.size hi - cR items.size 0 lo)).toArray}})(hsz:items.size<=XE):wpAny (model prog w) A (abg (.ref t) (.ref sl)) Q E s:=by
 have Cz:sizeOk (.seq ((items.toList.drop (cR items.size 0 lo)).take (cR items.size items.size hi - cR items.size 0 lo)).toArray):=by
  show((items.toList.drop (cR items.size 0 lo)).take (cR items.size items.size hi - cR items.size 0 lo)).toArray.size<=XE;rw[Xp,Yu,ab0,Zs]
  lia
 have hj:cR items.size items.size hi<=items.size:=Mc _ _ (Xj _) hi;obtain⟨os,Md,SV,PR⟩:=id hs;have UE:s.TypeIs (.ref sl) "slice":=⟨os,Md,SV⟩;unfold abg;try with_reducible refine ZX ?_
 first|refine W7 (Xn ?_)|skip
 refine W7 (wpAny_sequenceKey ht.typeIs (by decide) ?_);refine W7 (Yk (name:=Yh "__getitem__") ht.typeIs Zb
  (YN Zb ht.typeIs entry_tuple_getitem ?_ (args_tuple_getitem _ _)))
 show wpAny _ _ (abi.Tuple.tupleItemsOf (.ref t) >>=_) _ _ s;refine W7 (tupleItemsOf_ ht ?_);refine W7 (ab5 UE ?_);rw[if_pos (by decide)];refine W7 (ji hs pl pu ?_);have hno:¬((((cR items.size 0 lo:Nat):Int)==0&&(1:Int)==1&&(cR items.size items.size hi - cR items.size 0 lo)==items.size)=Λ):=by intro q;rw[W9,W9] at q;have q1:((cR items.size 0 lo:Nat):Int)=0:=eq_of_beq q.1.1;have q2:cR items.size items.size hi - cR items.size 0 lo=items.size:=eq_of_beq q.2;exact hw ⟨by lia,by lia⟩
 show wpAny _ _ (if(((cR items.size 0 lo:Nat):Int)==0&&(1:Int)==1&&(cR items.size items.size hi - cR items.size 0 lo)==items.size)=Λ then _ else _) _ _ s;rw[if_neg hno,Fy];first
  |exact W7 (m:=Yn _) (YE (Xn ⟨_,rfl,Xn h⟩) Cz)
  |exact W7 (m:=Yn _) (YE (W7 (Xn (Xn ⟨_,rfl,Xn h⟩))) Cz)
  |exact W7 (W7 (m:=Yn _) (YE (Xn (Xn ⟨_,rfl,Xn h⟩)) Cz))
  |exact W7 (W7 (m:=Yn _) (YE (Xn ⟨_,rfl,Xn h⟩) Cz))
end
end HT
namespace L2
open PySem PySem.Spec PyProof.Rows
abbrev TO:=St->Hp->(Option Int->Hp->Prop)->Prop
noncomputable def PO(X:Cx)(e:Option Expr)(t:TO):Prop:=
 ∀(η:List (Addr×Obj)) (s:Xv) (σ:St) (H:Hp) (Q:Option Int->Hp->Prop),Inv X η σ H s->t σ H Q->
  wpAny (model X.prog X.w) X.A (evalPart e X.env) (λu s'=>∃o H',Inv X η σ H' s'/\acb u o/\Q o H') X.xe s
def Iw:TO:=λ_ H Q=>Q Θ H
def PU(t:TE):TO:=λσ H Q=>t σ H λx H1=>∃i,x=.int i/\Q (Δ i) H1
section
variable{X:Cx}{e:Expr}{te:TE}{lo hi:Option Expr}{tl th:TO}{pos p2:Pos}
theorem Iy:PO X Θ Iw:=by intro η s σ H Q I h;rw[evalPart_none];exact Xn ⟨Θ,H,I,.none,h⟩
theorem Iz(h:PE X e te):PO X (Δ e) (PU te):=by intro η s σ H Q I hw;rw[evalPart_some];refine bS (h η s σ H _ I hw) λu s1 ⟨x,H1,I1,r1,q1⟩=>?_;obtain⟨i,rfl,q⟩:=q1;obtain⟨t,rfl⟩:=r1;exact⟨Δ i,H1,I1,.int i t,q⟩
def KL(X:Cx)(r:V->Option Int->Option Int->Hp->VK->Prop):Prop:=
 ∀(η:List (Addr×Obj)) (s:Xv) (σ:St) (H:Hp) (x:V) (v vl vu:Value) (lo hi:Option Int) (sl:Addr) (Q:VK),Inv X η σ H s->RelV x v->s.heap.IsSliceOf sl vl vu .none->acb vl lo->acb vu hi->r x lo hi H Q->
  ∃T id,acZ (.type T) "__getitem__"=pure (Δ (.builtin id))/\s.TypeIs v T/\wpAny (model X.prog X.w) X.A (abg v (.ref sl)) (EP X η σ Q) X.xe s
theorem KL.or(h:KL X r)(h':KL X r'):KL X (λx lo hi H Q=>r x lo hi H Q\/r' x lo hi H Q):=by
 intro η s σ H x v vl vu lo hi sl Q I rx hs pl pu q;rcases q with q|q;·exact h η s σ H x v vl vu lo hi sl Q I rx hs pl pu q
 ·exact h' η s σ H x v vl vu lo hi sl Q I rx hs pl pu q
def tSl(r:V->Option Int->Option Int->Hp->VK->Prop)(te:TE)(tl th:TO):TE:=λσ H Q=>te σ H λx H1=>tl σ H1 λl H2=>th σ H2 λu H3=>r x l u H3 Q
theorem Fz(hr:KL X r)(he:PE X e te)(hl:PO X lo tl)(hu:PO X hi th):PE X (.Subscript e (.Slice lo hi Θ p2) pos) (tSl r te tl th):=by intro η s σ H Q I h;refine Subscript_ (bS (he η s σ H _ I h) λv s1 ⟨x,H1,I1,r1,q1⟩=>?_);refine wpAny_Slice (bS (hl η s1 σ H1 _ I1 q1) λvl s2 ⟨l,H2,I2,pl,q2⟩=>bS (hu η s2 σ H2 _ I2 q2) λvu s3 ⟨u,H3,I3,pu,q3⟩=>?_);rw[evalPart_none];refine Xn ?_;have I4:Inv X η σ H3 {s3 with heap:=s3.heap.push {cls:=.type "slice",data:=.fields #[vl,vu,.none]}}:=I3.kept (t':=s3.toks) λb ob q=>Xa _ q;obtain⟨T,id,hT,ht,hg⟩:=hr η {s3 with heap:=s3.heap.push {cls:=.type "slice",data:=.fields #[vl,vu,.none]}} σ H3 x v vl vu l u s3.heap.objs.size Q I4 r1 (Heap.IsSliceOf.new ..) pl pu q3;show wpAny (model X.prog X.w) X.A (abN e (.Slice lo hi Θ p2) v (.ref s3.heap.objs.size)) (EP X η σ Q) X.xe {s3 with heap:=s3.heap.push {cls:=.type "slice",data:=.fields #[vl,vu,.none]}};exact tail_any (ops:=[.ref s3.heap.objs.size,v]) ht hT hg (by with_unfolding_all rfl)
def oY(xs:List V)(lo hi:Option Int):List V:=(xs.drop (HT.cR xs.length 0 lo)).take (HT.cR xs.length xs.length hi - HT.cR xs.length 0 lo)
theorem qo xs lo hi:(oY xs lo hi).length<=xs.length:=by
 unfold oY;rw[Yu,ab0]
 lia
def UG(K:Xm):V->Option Int->Option Int->Hp->VK->Prop:=λx lo hi H Q=>∃a xs,x=.ref a/\fH K H a xs/\
 ¬(HT.cR xs.length 0 lo=0/\HT.cR xs.length xs.length hi=xs.length)/\∀p,H p=Θ->Q (.ref p) (upd H p (.tup (oY xs lo hi)))
theorem Me:KL X (UG X.K):=by
 intro η s σ H x v vl vu lo hi sl Q I rx hs pl pu h;obtain⟨a,xs,rfl,hx,hw,q⟩:=h;cases rx;obtain⟨its,r,ht,hz⟩:=I.tuple hx;have hlen:its.toArray.size=xs.length:=by rw[Xp];exact r.length.symm
 refine⟨"tuple",_,Zb.lookup,ht.typeIs,?_⟩;refine HT.ny ht hs pl pu (by rw[hlen];exact hw) ?_ (by rw[hlen];exact hz);rw[hlen];refine⟨.ref s.heap.objs.size,_,I.laid (t':=s.toks) (o:=.tup (oY xs lo hi)) (λb ob q=>Xa _ q) (Xj _) ?_,rfl,q _ (I.aJ.fresh (Xj _))⟩;exact⟨X5 (qo xs lo hi) hz,_,(r.drop (HT.cR xs.length 0 lo)).take (HT.cR xs.length xs.length hi - HT.cR xs.length 0 lo),acw _ _⟩
def PV(K:Xm):R2:=λx y H Q=>∃a b xs ys,x=.ref a/\y=.ref b/\fH K H a xs/\fH K H b ys/\xs≠[]/\xs.length+ys.length<=XE/\
 (ys=[]->Q (.ref a) H)/\(ys≠[]->∀p,H p=Θ->Q (.ref p) (upd H p (.tup (xs++ys))))
theorem aS.nz(r:aS xs us):us=[]↔xs=[]:=by cases r with|nil=>simp|cons _ _=>simp
theorem IA:j9 X (ZD .Add) (PV X.K):=by intro η s σ H x y v u Q I rx ry h;obtain⟨a,b,xs,ys,rfl,rfl,ha,hb,hx,hz,q1,q2⟩:=h;cases rx;cases ry;obtain⟨its,r1,p1,_⟩:=I.tuple ha;obtain⟨FA,r2,p2,_⟩:=I.tuple hb;refine HT.Iv p1 p2 (λz=>hx (r1.nz.mp z)) (λz=>⟨.ref a,H,I,rfl,q1 (r2.nz.mp z)⟩) (λz=>?_) (by rw[<-r1.length,<-r2.length];exact hz);refine⟨.ref s.heap.objs.size,_,I.laid (t':=s.toks) (o:=.tup (xs++ys)) (λb ob q=>Xa _ q) (Xj _) ?_,rfl,q2 (λw=>z (r2.nz.mpr w)) _ (I.aJ.fresh (Xj _))⟩;exact⟨by rw[Xz];exact hz,_,r1.append r2,acw _ _⟩
end
def Bs(n:Nat)(i:Int):Option Nat:=if 0<=i then(if i < n then Δ i.toNat else Θ) else if -(n:Int)<=i then Δ (i+n).toNat else Θ
def nA{α:Type}(xs:List α)(i:Int):Option α:=(Bs xs.length i).bind λj=>xs[j]?
theorem CA(h:Bs n i=Δ j):seqIndex? i n=Δ j/\j < n/\ -(n:Int)<=i/\i < n:=by
 unfold Bs at h;by_cases h0:0<=i
 ·rw[if_pos h0] at h;by_cases h1:i < n;·rw[if_pos h1] at h;have e:i.toNat=j:=XU h;exact⟨by rw[acS h0 h1,e],by lia,by lia,h1⟩
  ·rw[if_neg h1] at h;cases h
 ·rw[if_neg h0] at h;by_cases h1: -(n:Int)<=i;·rw[if_pos h1] at h;have e:(i+n).toNat=j:=XU h;exact⟨by rw[acE (by lia) h1,e],by lia,h1,by lia⟩
  ·rw[if_neg h1] at h;cases h
theorem CB(h:nA xs i=Δ v):∃j,seqIndex? i xs.length=Δ j/\xs[j]?=Δ v/\j < xs.length/\ -(xs.length:Int)<=i/\i < xs.length:=by unfold nA at h;cases e:Bs xs.length i with|none=>rw[e] at h;cases h|some j=>rw[e] at h;obtain⟨h1,h2,h3,h4⟩:=CA e;exact⟨j,h1,h,h2,h3,h4⟩
def CC(b:Expr):Prop:=∀o i,acm b Ξ o i=operate [o,i] (abg o i)
def KN(X:Cx)(r:R2):Prop:=
 ∀(value slice:Expr) (η:List (Addr×Obj)) (s:Xv) (σ:St) (H:Hp) (x y:V) (v u:Value) (Q:VK),Inv X η σ H s->RelV x v->RelV y u->r x y H Q->
  acm slice Ξ v u=operate [v,u] (abg v u)->wpAny (model X.prog X.w) X.A (abN value slice v u) (EP X η σ Q) X.xe s
def MtR(X:Cx)(id:String)(r:V->List V->Hp->VK->Prop):Prop:=
 ∀(η:List (Addr×Obj)) (s:Xv) (σ:St) (H:Hp) (x:V) (xs:List V) (v:Value) (us:List Value) (Q:VK),Inv X η σ H s->RelV x v->aS xs us->r x xs H Q->
  wpAny (model X.prog X.w) X.A (call (.builtin id) (v::us)) (EP X η σ Q) X.xe s
section
variable{X:Cx}{a b:Expr}{ta tb:TE}{pos:Pos}
theorem KN.or(h:KN X r)(h':KN X r'):KN X (λx y H Q=>r x y H Q\/r' x y H Q):=by
 intro value slice η s σ H x y v u Q I rx ry q hs;rcases q with q|q;·exact h value slice η s σ H x y v u Q I rx ry q hs
 ·exact h' value slice η s σ H x y v u Q I rx ry q hs
theorem PX(hr:KN X r)(ha:PE X a ta)(hb:PE X b tb)(hs:CC b):PE X (.Subscript a b pos) (Py r ta tb):=by intro η s σ H Q I h;exact Subscript_ (LU ha hb I h λv u s2 x y H2 I2 rx ry q=>hr a b η s2 σ H2 x y v u Q I2 rx ry q (hs _ _))
def UH(K:Xm):R2:=λx y H Q=>∃p xs i v,x=.ref p/\y=.int i/\lT K H p xs/\nA xs i=Δ v/\Q v H
def UI(K:Xm):R2:=λx y H Q=>∃p xs i v,x=.ref p/\y=.int i/\fH K H p xs/\nA xs i=Δ v/\Q v H
theorem IC:KN X (UH X.K):=by
 intro value slice η s σ H x y v u Q I rx ry h hs;obtain⟨p,xs,i,z,rfl,rfl,hq,he,q⟩:=h;cases rx;obtain⟨t,rfl⟩:=ry;obtain⟨its,r,pl,hz⟩:=I.list hq;obtain⟨j,h1,h2,h3,h4,h5⟩:=CB he;obtain⟨w,ew,mE⟩:=r.get h2;have hl:=r.length;have hn:=oV;have fin:EP X η σ Q w s:=⟨z,H,I,mE,q⟩;by_cases h0:0<=i
 ·have hj:i.toNat=j:=by rw[acS h0 h5] at h1;exact XU h1
  exact item_listR pl.isList h0 (by lia) (by rw[hj];simpa using ew) fin hs
 ·have hj:(i+(its.toArray.size:Int)).toNat=j:=by rw[acE (by lia) h4] at h1;rw[Xp,<-hl];exact XU h1
  exact subscriptTail_builtinR (x:=w) pl.isList.typeIs slot_list_getitem.lookup
   (wpAny_getItem_list_neg (Q:=λr s'=>r=w/\EP X η σ Q r s') pl.isList (by lia) (by rw[Xp]<;>lia) (by lia) (by rw[hj];simpa using ew) ⟨rfl,fin⟩) hs
theorem Mf:KN X (UI X.K):=by
 intro value slice η s σ H x y v u Q I rx ry h hs;obtain⟨p,xs,i,z,rfl,rfl,hq,he,q⟩:=h;cases rx;obtain⟨t,rfl⟩:=ry;obtain⟨its,r,pl,hz⟩:=I.tuple hq;obtain⟨j,h1,h2,h3,h4,h5⟩:=CB he;obtain⟨w,ew,mE⟩:=r.get h2;have hl:=r.length;have hn:=oV;have fin:EP X η σ Q w s:=⟨z,H,I,mE,q⟩;exact subscriptTail_builtinR (x:=w) pl.typeIs slot_tuple_getitem.lookup
  (getItem_tuple (j:=j) (Q:=λr s'=>r=w/\EP X η σ Q r s') pl (by lia) (by lia) (by rw[Xp,<-hl];exact h1) (by simpa using ew) ⟨rfl,fin⟩) hs
theorem Bt(its:List Value)n j u:ZZ (·.setIfInBounds j u) {cls:=.type "list",data:=.seq its.toArray n}={cls:=.type "list",data:=.seq (its.set j u).toArray n}:=by simp[ZZ]
theorem Inv.lst(I:Inv X η σ H s)(h:H p=Δ (.lst xs)):
  ∃(its:List Value) (n:Nat),aS xs its/\s.heap.get? p=Δ {cls:=.type "list",data:=.seq its.toArray n}/\xs.length<=XE:=by
 obtain⟨z,its,n,r,e⟩:=I.aJ p _ h;exact⟨its,n,r,e,z⟩
theorem Inv.Mg{its its':List Value}(I:Inv X η σ H s)(h:H p=Δ (.lst xs))(ho:s.heap.get? p=Δ {cls:=.type "list",data:=.seq its.toArray n})(hf:f {cls:=.type "list",data:=.seq its.toArray n}={cls:=.type "list",data:=.seq its'.toArray n'})(r:aS ys its')(hz:ys.length<=XE)t:
  Inv X η σ (upd H p (.lst ys)) {s with heap:=s.heap.update p f,toks:=t}:=by
 have e:(s.heap.update p f).get? p=Δ {cls:=.type "list",data:=.seq its'.toArray n'}:=by rw[Zd f ho (by rw[hf]<;>rfl),hf]
 refine I.write (x:=p) (e:=p) (by rw[h];trivial) (.inl rfl) (λb u hb q=>(Yy _ _ (Yj hb)).trans q) ⟨_,e⟩ ?_;exact⟨hz,its',n',r,e⟩
def PY:V->V->V->Hp->(Hp->Prop)->Prop:=λo i v H Q=>∃p xs k j,o=.ref p/\i=.int k/\H p=Δ (.lst xs)/\Bs xs.length k=Δ j/\Q (upd H p (.lst (xs.set j v)))
theorem set_list:Dz X PY:=by
 intro η s σ H o i v ov iv u Q I ro ri rv h;obtain⟨p,xs,k,j,rfl,rfl,hp,hj,q⟩:=h;cases ro;obtain⟨t,rfl⟩:=ri;obtain⟨its,n,r,ho,hz⟩:=I.lst hp;obtain⟨h1,h2,h3,h4⟩:=CA hj;have hl:=r.length;have hn:=oV;have I':Inv X η σ (upd H p (.lst (xs.set j v))) {s with heap:=s.heap.update p (ZZ (·.setIfInBounds j u))}:=
  I.Mg hp ho (Bt its n j u) (r.set rv j) (by rw[YL];exact hz) s.toks
 by_cases h0:0<=k
 ·have hk:k.toNat=j:=by rw[acS h0 h4] at h1;exact XU h1
  exact PySem.W.ki_setAt ho h0 (by lia) (by rw[Xp,<-hl];exact h4) (by rw[hk];exact⟨_,I',q⟩)
 ·have hk:(k+(its.toArray.size:Int)).toNat=j:=by rw[acE (by lia) h3] at h1;rw[Xp,<-hl];exact XU h1
  exact PySem.W.ki_setBack ho (by lia) (by rw[Xp,<-hl];exact h3) (by lia) (by rw[hk];exact⟨_,I',q⟩)
theorem xq lo hi n:(aaL lo hi Θ n).1=((HT.cR n 0 lo:Nat):Int)/\(aaL lo hi Θ n).2.1=((HT.cR n n hi:Nat):Int)/\(aaL lo hi Θ n).2.2=1:=by
 refine⟨?_,?_,rfl⟩
 ·cases lo with
  |none=>simp[aaL,HT.cR]|some i=>
   simp only[aaL,HT.cR,abY,show(1:Int) > 0 by decide,if_true];by_cases h:i < 0;·simp only[h,if_true]<;>lia
   ·simp only[h,if_false]<;>lia
 ·cases hi with
  |none=>simp[aaL,HT.cR]|some i=>
   simp only[aaL,HT.cR,abY,show(1:Int) > 0 by decide,if_true];by_cases h:i < 0;·simp only[h,if_true]<;>lia
   ·simp only[h,if_false]<;>lia
theorem vh(its:List Value)lo hi:slicePick its.toArray lo hi Θ=((its.drop (HT.cR its.length 0 lo)).take (HT.cR its.length its.length hi - HT.cR its.length 0 lo)).toArray:=by obtain⟨h1,h2,h3⟩:=xq lo hi its.toArray.size;unfold slicePick;rw[h1,h2,h3];simp only[sliceRange_one,pick_run,Xp]<;>rfl
def PZ(K:Xm):V->Option Int->Option Int->Hp->VK->Prop:=λx lo hi H Q=>∃a xs,x=.ref a/\lT K H a xs/\∀p,H p=Θ->Q (.ref p) (upd H p (.lst (oY xs lo hi)))
theorem ID:KL X (PZ X.K):=by intro η s σ H x v vl vu lo hi sl Q I rx hs pl pu h;obtain⟨a,xs,rfl,hx,q⟩:=h;cases rx;obtain⟨its,r,ht,hz⟩:=I.list hx;have hlen:=r.length;refine⟨"list",_,slot_list_getitem.lookup,ht.isList.typeIs,?_⟩;refine wpAny_getItem_list_slice ht.isList hs pl pu .none (by simp) ?_ (by rw[Xp]<;>lia);rw[vh,<-hlen];refine⟨.ref s.heap.objs.size,_,I.laid (t':=s.toks) (o:=.lst (oY xs lo hi)) (λb ob q=>Xa _ q) (Xj _) ?_,rfl,q _ (I.aJ.fresh (Xj _))⟩;exact⟨X5 (qo xs lo hi) hz,_,0,(r.drop (HT.cR xs.length 0 lo)).take (HT.cR xs.length xs.length hi - HT.cR xs.length 0 lo),Xq _ rfl⟩
def l7:V->Bool
 |.bz=>Λ|.bl _=>Λ|.int _=>Λ|.str _=>Λ|_=>Ξ
noncomputable def IE:V->V->Bool
 |.bz,.bz=>Λ|.bl a,.bl b=>a==b|.bl a,.int b=>(if a then 1 else 0)==b|.int a,.bl b=>a==(if b then 1 else 0)|.int a,.int b=>a==b|.str a,.str b=>a==b|_,_=>Ξ
theorem Mh(ry:RelV y u)(rx:RelV x v)(fy:l7 y=Λ)(fx:l7 x=Λ):SeqAt.EqAt A s u v (IE y x):=by
 cases y with
 |bz=>cases ry;cases x with|bz=>cases rx;exact SeqAt.EqAt.same _|bl b=>cases rx;exact SeqAt.EqAt.none_bool b|int b=>obtain⟨t,rfl⟩:=rx;exact SeqAt.EqAt.none_int b t|str b=>obtain⟨t,rfl⟩:=rx;exact SeqAt.EqAt.none_str b t|_=>exact absurd (show Ξ=Λ from fx) Yc
 |bl a=>cases ry;cases x with|bz=>cases rx;exact SeqAt.EqAt.bool_none a|bl b=>cases rx;exact SeqAt.EqAt.bool_bool a b|int b=>obtain⟨t,rfl⟩:=rx;exact SeqAt.EqAt.bool_int a b t|str b=>obtain⟨t,rfl⟩:=rx;exact SeqAt.EqAt.bool_str a b t|_=>exact absurd (show Ξ=Λ from fx) Yc
 |int a=>obtain⟨t',rfl⟩:=ry;cases x with|bz=>cases rx;exact SeqAt.EqAt.int_none a t'|bl b=>cases rx;exact SeqAt.EqAt.int_bool a t' b|int b=>obtain⟨t,rfl⟩:=rx;exact SeqAt.EqAt.int_int a t' b t|str b=>obtain⟨t,rfl⟩:=rx;exact SeqAt.EqAt.int_str a t' b t|_=>exact absurd (show Ξ=Λ from fx) Yc
 |str a=>obtain⟨t',rfl⟩:=ry;cases x with|bz=>cases rx;exact SeqAt.EqAt.str_none a t'|bl b=>cases rx;exact SeqAt.EqAt.str_bool a t' b|int b=>obtain⟨t,rfl⟩:=rx;exact SeqAt.EqAt.str_int a t' b t|str b=>obtain⟨t,rfl⟩:=rx;exact SeqAt.EqAt.str_str a t' b t|_=>exact absurd (show Ξ=Λ from fx) Yc
 |_=>exact absurd (show Ξ=Λ from fy) Yc
def Bu(x:V)(u:Value):Bool:=match u with|.none=>IE .bz x|.bool b=>IE (.bl b) x|.int i _=>IE (.int i) x|.str z _=>IE (.str z) x|_=>Ξ
theorem FC(r:RelV y u)(f:l7 y=Λ):Bu x u=IE y x:=by cases y with|bz=>cases r;rfl|bl b=>cases r;rfl|int i=>obtain⟨t,rfl⟩:=r;rfl|str z=>obtain⟨t,rfl⟩:=r;rfl|_=>exact absurd (show Ξ=Λ from f) Yc
theorem nB:∀{xs} {us},aS xs us->xs.all l7=Λ->us.any (Bu x)=xs.any λy=>IE y x
 |_,_,.nil,_=>rfl|y::xs,u::us,.cons r t,f=>by rw[Zz,W9] at f;rw[Zy,Zy,FC r f.1,nB t f.2]
theorem kB(rx:RelV x v)(fx:l7 x=Λ):∀{xs} {us},aS xs us->xs.all l7=Λ->∀u∈us,SeqAt.EqAt A s u v (Bu x u)
 |_,_,.nil,_=>λu hu=>by cases hu|y::xs,u::us,.cons r t,f=>λu' hu=>by
  rw[Zz,W9] at f;rcases aai.mp hu with rfl|hu;·rw[FC r f.1];exact Mh r rx f.1 fx
  ·exact kB rx fx t f.2 u' hu
def SX(x:V)(xs:List V):Bool:=xs.any λy=>IE y x
def P0(K:Xm)(neg:Bool):R2:=λx y H Q=>∃p xs,y=.ref p/\(lT K H p xs\/fH K H p xs)/\l7 x=Λ/\xs.all l7=Λ/\Q (.bl (if neg then !SX x xs else SX x xs)) H
theorem DI:j9 X (YF .In) (P0 X.K Ξ):=by
 intro η s σ H x y v u Q I rx ry h;obtain⟨p,xs,rfl,hq,fx,fs,q⟩:=h;cases ry;rcases hq with hq|hq;·obtain⟨its,r,pl,hz⟩:=I.list hq;refine SeqAt.in_listAt (Bu x) pl.isList (λw hw=>kB rx fx r fs w (by simpa using hw)) ⟨.bl _,H,I,rfl,?_⟩;rw[show its.toArray.any (Bu x)=its.any (Bu x) by simp,nB r fs];exact q
 ·obtain⟨its,r,pl,hz⟩:=I.tuple hq;refine SeqAt.in_tupleAt (Bu x) pl (λw hw=>kB rx fx r fs w (by simpa using hw)) ⟨.bl _,H,I,rfl,?_⟩;rw[show its.toArray.any (Bu x)=its.any (Bu x) by simp,nB r fs];exact q
theorem xt:j9 X (YF .NotIn) (P0 X.K Λ):=by
 intro η s σ H x y v u Q I rx ry h;obtain⟨p,xs,rfl,hq,fx,fs,q⟩:=h;cases ry;rcases hq with hq|hq;·obtain⟨its,r,pl,hz⟩:=I.list hq;refine SeqAt.notIn_listAt (Bu x) pl.isList (λw hw=>kB rx fx r fs w (by simpa using hw)) ⟨.bl _,H,I,rfl,?_⟩;rw[show its.toArray.any (Bu x)=its.any (Bu x) by simp,nB r fs];exact q
 ·obtain⟨its,r,pl,hz⟩:=I.tuple hq;refine SeqAt.notIn_tupleAt (Bu x) pl (λw hw=>kB rx fx r fs w (by simpa using hw)) ⟨.bl _,H,I,rfl,?_⟩;rw[show its.toArray.any (Bu x)=its.any (Bu x) by simp,nB r fs];exact q
theorem xu:hW X (.builtin "len") (λxs H Q=>∃p ys,xs=[.ref p]/\(lT X.K H p ys\/fH X.K H p ys)/\Q (.int ys.length) H):=by
 intro η s σ H xs us Q I r h;obtain⟨p,ys,rfl,hq,q⟩:=h;obtain⟨u,rfl,rx⟩:=vals1 r;cases rx;have hn:=oV;rcases hq with hq|hq;·obtain⟨its,r',pl,hz⟩:=I.list hq;have hlen:=r'.length;exact Calls.call_len_list pl.isList (by simp only[Xp]<;>lia) ⟨.int ys.length,H,I.tok _,⟨s.toks+1,by rw[Xp,hlen]⟩,q⟩
 ·obtain⟨its,r',pl,hz⟩:=I.tuple hq;have hlen:=r'.length;exact len_tuple pl (by simp only[Xp]<;>lia) ⟨.int ys.length,H,I.tok _,⟨s.toks+1,by rw[Xp,hlen]⟩,q⟩
theorem xw:hW X (.builtin "len") (λxs H Q=>∃z,xs=[.str z]/\z.length<=XE/\Q (.int z.length) H):=by intro η s σ H xs us Q I r h;obtain⟨z,rfl,hz,q⟩:=h;obtain⟨u,rfl,t,rfl⟩:=vals1 r;have hn:=oV;exact len_str (by lia) ⟨.int z.length,H,I.tok _,⟨_,rfl⟩,q⟩
theorem vi:hW X (.type "tuple") (λxs H Q=>∃p ys,xs=[.ref p]/\((lT X.K H p ys/\∀l,H l=Θ->Q (.ref l) (upd H l (.tup ys)))\/(fH X.K H p ys/\Q (.ref p) H))):=by
 intro η s σ H xs us Q I r h;obtain⟨p,ys,rfl,h⟩:=h;obtain⟨u,rfl,rx⟩:=vals1 r;cases rx;rcases h with ⟨hq,q⟩|⟨hq,q⟩
 ·obtain⟨its,r',pl,hz⟩:=I.list hq;have hlen:=r'.length;refine call_tuple_list pl.isList (λh' kp=>?_) (by simp only[Xp]<;>lia);have I1:Inv X η σ H {s with heap:=h'}:=I.kept (t':=s.toks) kp;have I2:Inv X η σ (upd H h'.objs.size (.tup ys)) {s with heap:=h'.push {cls:=.type "tuple",data:=.seq its.toArray}}:=
   I1.laid (t':=s.toks) (λb o e=>Xa _ e) (Xj _) (show bG X.prog X.w _ _ _ (.tup ys) from⟨hz,its,r',acw _ _⟩)
  exact⟨.ref h'.objs.size,_,I2,rfl,q _ (I1.aJ.fresh (Xj _))⟩
 ·obtain⟨its,r',pl,hz⟩:=I.tuple hq;exact call_tuple_same pl ⟨.ref p,H,I,rfl,q⟩
def UJ(K:Xm)(T:String)(x:V)(H:Hp):Prop:=match x with
 |.str _=>T="str"|.int _=>T="int"
 |.ref p=>(T="list"/\∃xs,lT K H p xs)\/(T="tuple"/\∃o,K.lookup p=Δ o/\o.cls=.type "tuple"/\o.dict=Θ)\/
   (T="dict"/\((∃kvs,H p=Δ (.dK kvs))\/∃kvs,H p=Δ (.dT kvs)))\/(T="set"/\∃S n,H p=Δ (.set S n))
 |_=>False
theorem FD(I:Inv X η σ H s)(r:RelV x v)(ty:UJ X.K T x H):
  s.TypeIs v T/\∀a,v=.ref a->∃ob,s.heap.get? a=Δ ob/\ob.dict=Θ:=by
 cases x with
 |str z=>obtain⟨t,rfl⟩:=r;cases (show T="str" from ty);exact⟨typeIs_str s z t,λ_ e=>nomatch e⟩|int i=>obtain⟨t,rfl⟩:=r;cases (show T="int" from ty);exact⟨aa8 s i t,λ_ e=>nomatch e⟩|ref p=>
  cases r;rcases ty with ⟨rfl,xs,hq⟩|⟨rfl,o,hk,hc,hd⟩|⟨rfl,hk⟩|⟨rfl,S,n,hk⟩
  ·obtain⟨its,_,pl,_⟩:=I.list hq;refine⟨pl.isList.typeIs,λa e=>?_⟩;cases e;obtain⟨o,n,e,c,hd,_⟩:=pl;exact⟨o,e,hd⟩
  ·refine⟨⟨o,I.nj p o hk,hc⟩,λa e=>?_⟩;cases e;exact⟨o,I.nj _ o hk,hd⟩
  ·have z:∃o,s.heap.get? p=Δ o/\o.ExactDict:=by
    rcases hk with ⟨kvs,hk⟩|⟨kvs,hk⟩
    ·obtain⟨_,_,_,_,o,_,_,e,ex,_⟩:=I.aJ p _ hk;exact⟨o,e,ex⟩
    ·obtain⟨_,_,_,_,o,_,_,e,ex,_⟩:=I.aJ p _ hk;exact⟨o,e,ex⟩
   obtain⟨o,e,ex⟩:=z;refine⟨⟨o,e,ex.1⟩,λa e2=>?_⟩;cases e2;exact⟨o,e,ex.2.1⟩
  ·obtain⟨o,_,_,_,e,ex,_⟩:=I.aJ p _ hk;refine⟨⟨o,e,ex.1⟩,λa e2=>?_⟩;cases e2;exact⟨o,e,ex.2.1⟩
 |_=>exact Yz ty
def UK(K:Xm)(T:String)(r:V->List V->Hp->VK->Prop)(to:TE):TE:=λσ H Q=>to σ H λx H1=>UJ K T x H1/\r x [] H1 Q
def tBM(K:Xm)(T:String)(r:V->List V->Hp->VK->Prop)(to:TE)(t:TA):TE:=λσ H Q=>to σ H λx H1=>UJ K T x H1/\t σ H1 λxs H2=>r x xs H2 Q
variable{o e:Expr}{es:List Expr}{to:TE}{t:TA}{name:Str}{apos fO:Pos}{T id:String}{r:V->List V->Hp->VK->Prop}
theorem Mi(pa:PlainAttrs T)(slot:Slot T name id)(UL:typeOf (.builtin id)=pure (.type "method_descriptor"))(hm:MtR X id r)(ho:PE X o to)
  (yV:ZY o name X.env (eval o X.env)=eval o X.env:=by rfl) (l8:(apos.endLine==fO.line)=Λ:=by rfl):PE X (.Call (.Attribute o name apos) [] [] fO) (UK X.K T r to):=by
 intro η s σ H Q I h;refine wpAny_Call_method0_late yV l8 (bS (ho η s σ H _ I h) λv s1 ⟨x,H1,I1,r1,ty,q1⟩=>?_);obtain⟨h1,h2⟩:=FD I1 r1 ty;exact⟨T,id,pa,slot,UL,h1,h2,Zv rfl (PySem.evalArgs_none (hm η s1 σ H1 x [] v [] Q I1 r1 .nil q1))⟩
theorem KO(pa:PlainAttrs T)(slot:Slot T name id)(UL:typeOf (.builtin id)=pure (.type "method_descriptor"))(hm:MtR X id r)(ho:PE X o to)(ha:PA X (e::es) t)
  (yV:ZY o name X.env (eval o X.env)=eval o X.env:=by rfl)
  (UM:((Zm fO (XO (e::es) X.env)).all (λx=>!x.1)&&(abk fO (aab [] X.env)).all (λx=>x.1.isSome)
   &&decide ((e::es).length+([]:List abJ).length+(if([]:List abJ).isEmpty then 0 else 1) < 30))=Λ:=by rfl)
  (l8:(apos.endLine==fO.line)=Λ:=by rfl) (hs:XO (e::es) X.env=(Ξ,eval e X.env)::XO es X.env:=by rfl) (Mj:(Zm fO (XO es X.env)).any (·.1)=Ξ:=by rfl):
  PE X (.Call (.Attribute o name apos) (e::es) [] fO) (tBM X.K T r to t):=by
 intro η s σ H Q I h;refine wpAny_Call_method_late yV UM l8 rfl (bS (ho η s σ H _ I h) λv s1 ⟨x,H1,I1,r1,ty,q1⟩=>?_);obtain⟨h1,h2⟩:=FD I1 r1 ty;refine⟨T,id,pa,slot,UL,h1,h2,?_⟩;have hA:=ha fO η s1 σ H1 _ I1 q1;rw[hs] at hA ⊢;refine Zv (by show(Ξ||(Zm fO (XO es X.env)).any (·.1))=Ξ;rw[Mj]<;>rfl) (abn ?_);exact bS hA λus s2 ⟨vs,H2,I2,r2,q2⟩=>hm η s2 σ H2 x vs v us Q I2 r1 r2 q2
end
def UN(X:Cx)(id:String)(r:V->List V->Hp->VK->Prop):Prop:=
 ∀(η:List (Addr×Obj)) (s:Xv) (σ:St) (H:Hp) (x:V) (xs:List V) (v:Value) (us:List Value) (Q:VK),Inv X η σ H s->RelV x v->aS xs us->r x xs H Q->
  wpAny (model X.prog X.w) X.A (call (.builtin id) (v::us)) (EP X η σ Q) X.xe s
theorem aS.one:∀{x} {us},aS [x] us->∃u,us=[u]/\RelV x u:=by intro x us h;cases h with|cons r t=>cases t with|nil=>exact⟨_,rfl,r⟩
theorem aS.zero:∀{us},aS [] us->us=[]
 |_,.nil=>rfl
theorem aS.dropLast(h:aS xs us):aS xs.dropLast us.dropLast:=by induction h with|nil=>exact .nil|cons r t ih=>cases t with|nil=>exact .nil|cons q t'=>exact .cons r ih
theorem Bv{α:Type}(l:List α):l.eraseIdx (l.length - 1)=l.dropLast:=by
 induction l with
 |nil=>rfl|cons a r ih=>
  cases r with
  |nil=>rfl|cons b r=>
   have e:(a::b::r).length - 1=((b::r).length - 1)+1:=by
    have h1:(a::b::r).length=r.length+2:=rfl;have h2:(b::r).length=r.length+1:=rfl
    lia
   rw[e,List.eraseIdx_cons_succ,ih];all_goals rfl
section
variable{X:Cx}{η:List (Addr×Obj)}{σ:St}{H:Hp}{s:Xv}{l b:Addr}{xs ys zs:List V}
theorem Inv.P4{its its':List Value}(I:Inv X η σ H s)(hH:H l=Δ (.lst xs))(e:s.heap.get? l=Δ {cls:=.type "list",data:=.seq its.toArray n})(hf:f its.toArray=its'.toArray)(hv:aS ys its')(hz:ys.length<=XE):
  Inv X η σ (upd H l (.lst ys)) {s with heap:=s.heap.update l (ZZ f),toks:=t'}:=by
 have q:=PySem.IsL.update e f;rw[hf] at q;refine I.write (x:=l) (e:=l) (by rw[hH];exact trivial) (.inl rfl) (λb' u hb hu=>(Yy s.heap (ZZ f) (Yj hb)).trans hu) ⟨_,q⟩ ?_;exact⟨hz,its',_,hv,q⟩
theorem Inv.UO(I:Inv X η σ H s)(hv:aS ys its)(hz:ys.length<=XE):
  Inv X η σ (upd H s.heap.objs.size (.lst ys)) {s with heap:=s.heap.push {cls:=.type "list",data:=.seq its.toArray},toks:=t'}:=
 I.laid (λ_ _ q=>Xa _ q) (Xj _) ⟨hz,its,0,hv,Xq _ rfl⟩
theorem Inv.fresh(I:Inv X η σ H s):H s.heap.objs.size=Θ:=I.aJ.fresh (Xj _)
theorem Inv.P5(I:Inv X η σ H s)(hH:H l=Δ (.lst xs)):xs.length<=XE/\∃(its:List Value) (n:Nat),aS xs its/\xs.length=its.length/\s.heap.get? l=Δ {cls:=.type "list",data:=.seq its.toArray n}:=by obtain⟨z,its,n,r,e⟩:=I.aJ l _ hH;exact⟨z,its,n,r,r.length,e⟩
end
section
variable{X:Cx}
def IF:V->List V->Hp->VK->Prop:=λx vs H Q=>∃l xs y,x=.ref l/\vs=[y]/\H l=Δ (.lst xs)/\xs.length < XE/\Q .bz (upd H l (.lst (xs++[y])))
theorem oZ:UN X "list.append" IF:=by
 intro η s σ H x vs v us Q I rx rv h;obtain⟨l,xs,y,rfl,rfl,hH,hz,q⟩:=h;cases rx;obtain⟨u,rfl,ru⟩:=rv.one;obtain⟨z,its,n,r,hl,e⟩:=I.P5 hH;refine aas F.slot_list_append ⟨_,e,rfl⟩ F.entry_list_append (F.args_list_append_2 _ _) (PySem.list_append l its.toArray n u (by rw[Xp];lia)) ⟨e,?_⟩;refine⟨.bz,_,I.P4 (its':=its++[u]) hH e (by simp) (r.append (.cons ru .nil)) ?_,rfl,q⟩;rw[Xz,List.length_singleton]
 lia
def UP:V->List V->Hp->VK->Prop:=λx vs H Q=>∃l xs y,x=.ref l/\vs=[]/\H l=Δ (.lst xs)/\xs[xs.length - 1]?=Δ y/\Q y (upd H l (.lst xs.dropLast))
theorem Ml:UN X "list.pop" UP:=by
 intro η s σ H x vs v us Q I rx rv h;obtain⟨l,xs,y,rfl,rfl,hH,hy,q⟩:=h;cases rx;have hus:=rv.zero;subst hus;obtain⟨z,its,n,r,hl,e⟩:=I.P5 hH;obtain⟨u,hu,ru⟩:=r.get hy;have hy':its.toArray[its.toArray.size - 1]?=Δ u:=by show its.toArray[its.length - 1]?=Δ u;rw[<-aa6,<-hl];exact hu
 refine aas F.slot_list_pop ⟨_,e,rfl⟩ F.entry_list_pop (F.args_list_pop_1 _) (MeetsSeq.list_pop_last l its.toArray n u hy' (by rw[Xp];lia)) ⟨e,?_⟩;refine⟨y,_,I.P4 (its':=its.dropLast) hH e ?_ r.dropLast ?_,ru,q⟩;·show its.toArray.eraseIdxIfInBounds (its.toArray.size - 1)=its.dropLast.toArray;rw[Xp,List.eraseIdxIfInBounds_toArray,Bv]
 ·rw[List.length_dropLast]
  lia
end
section
variable{prog:Yi}{w:World}{A:YO}{E:Value->Xv->Prop}{s:Xv}
end
section
variable{X:Cx}
end
section
variable{κ:Type}[DecidableEq κ]
def fI(kvs:List (κ×V))(k:κ):Option V:=(kvs.find? λkv=>decide (kv.1=k)).map (·.2)
noncomputable def putK(kvs:List (κ×V))(k:κ)(v:V):List (κ×V):=
 if(kvs.any λkv=>decide (kv.1=k))=Λ then kvs.map (λkv=>if kv.1=k then(kv.1,v) else kv) else kvs++[(k,v)]
def nC(kvs:List (κ×V))(k:κ):List (κ×V):=kvs.filter λkv=>decide (kv.1≠k)
theorem nE{r:List (κ×V)}{k:κ}(e:p.1=k):fI (p::r) k=Δ p.2:=by simp[fI,YB,e]
theorem nF{r:List (κ×V)}{k:κ}(e:¬p.1=k):fI (p::r) k=fI r k:=by simp[fI,YB,e]
theorem sO(k:κ):∀kvs:List (κ×V),(kvs.any λkv=>decide (kv.1=k))=(fI kvs k).isSome
 |[]=>rfl|p::r=>by
  rw[Zy];by_cases e:p.1=k;·simp only[nE e,decide_eq_true e,Bool.true_or,Option.isSome_some]
  ·rw[nF e,decide_eq_false e,Bool.false_or];exact sO k r
theorem iN kvs(k:κ)v:(putK kvs k v).length<=kvs.length+1:=by
 unfold putK;split;·rw[Xf];lia
 ·rw[Xz,Xt,YM];lia
theorem kr.hU(r:kr o u):o.isSome=u.isSome:=by
 cases o with
 |none=>cases u with|none=>rfl|some _=>exact(show False from r).elim
 |some _=>cases u with|none=>exact(show False from r).elim|some _=>rfl
theorem KV.val(r:KV kvs vs)(k:κ):kr (fI kvs k) (ab6 vs k):=by
 unfold KV at r;induction r with
 |nil=>exact YR|@cons p q ps qs h t ih=>
  obtain⟨h1,h2⟩:=h;by_cases e:p.1=k
  ·have e':q.1=k:=h1.symm.trans e;have b:ab6 (q::qs) k=Δ q.2:=by simp[ab6,YB,e']
   rw[nE e,b];exact h2
  ·have e':¬q.1=k:=λz=>e (h1.trans z);have b:ab6 (q::qs) k=ab6 qs k:=by simp[ab6,YB,e']
   rw[nF e,b];exact ih
theorem KV.any(r:KV kvs vs)(k:κ):(kvs.any λkv=>decide (kv.1=k))=vs.any λkv=>decide (kv.1=k):=by unfold KV at r;induction r with|nil=>rfl|cons h t ih=>rw[Zy,Zy,ih,h.1]
theorem KV.DJ(r:KV kvs vs)(k:κ)(ry:RelV y u):
  KV (kvs.map λkv=>if kv.1=k then(kv.1,y) else kv) (vs.map λkv=>if kv.1=k then(kv.1,u) else kv):=by
 unfold KV at r ⊢;induction r with
 |nil=>exact .nil|@cons p q ps qs h t ih=>
  rw[Xo,Xo];refine .cons ?_ ih;obtain⟨h1,h2⟩:=h;by_cases e:p.1=k;·rw[if_pos e,if_pos (h1.symm.trans e)];exact⟨h1,ry⟩
  ·rw[if_neg e,if_neg (λz=>e (h1.trans z))];exact⟨h1,h2⟩
theorem KV.put(r:KV kvs vs)(k:κ)(ry:RelV y u):KV (putK kvs k y) (stored vs k u):=by
 unfold putK stored;rw[r.any k];by_cases e:(vs.any λkv=>decide (kv.1=k))=Λ;·rw[if_pos e,if_pos e];exact r.DJ k ry
 ·rw[if_neg e,if_neg e];exact acD.snoc r ⟨rfl,ry⟩
theorem KV.drop(r:KV kvs vs)(k:κ):KV (nC kvs k) (without vs k):=by
 unfold KV at r ⊢;unfold nC without;induction r with
 |nil=>exact .nil|@cons p q ps qs h t ih=>
  obtain⟨h1,h2⟩:=h;rw[List.filter_cons,List.filter_cons];by_cases e:p.1=k
  ·have a:¬decide (p.1≠k)=Λ:=by simp[e]
   have b:¬decide (q.1≠k)=Λ:=by simp[h1.symm.trans e]
   rw[if_neg a,if_neg b];exact ih
  ·have e':¬q.1=k:=λz=>e (h1.trans z);have a:decide (p.1≠k)=Λ:=by simp[e]
   have b:decide (q.1≠k)=Λ:=by simp[e']
   rw[if_pos a,if_pos b];exact .cons ⟨h1,h2⟩ ih
theorem KV.length{vs:List (κ×Value)}(r:KV kvs vs):kvs.length=vs.length:=abQ r
theorem yW kvs(k:κ):(nC kvs k).length<=kvs.length:=ZH _ _
end
theorem nG(r:RelV (kV k) u):(be P w).is k u=Λ:=by cases k with|inl i=>obtain⟨t,e⟩:=(show ∃t,u=abc i t from r);subst e;exact yO P w i t|inr x=>obtain⟨t,e⟩:=(show ∃t,u=abb x t from r);subst e;exact yP P w x t
theorem v5:∀{ks} {us},aS (ks.map kV) us->ItemsAre (be P w) ks us
 |[],_,r=>by rw[Zi] at r;cases r;exact .nil|k::ks,_,r=>by rw[Xo] at r;cases r with|cons h t=>exact .cons (nG h) (v5 t)
abbrev KT(H:Hp):List (List Key×V)->List (List Key×Addr×Value)->Prop:=acD λp q=>p.1=q.1/\H q.2.1=Δ (.tup (p.1.map kV))/\RelV p.2 q.2.2
theorem KT.val(r:KT H kvs xs)k:kr (fI kvs k) ((atKey xs k).map (·.2)):=by
 induction r with
 |nil=>exact YR|@cons p q ps qs h t ih=>
  obtain⟨h1,_,h2⟩:=h;by_cases e:p.1=k
  ·have e':q.1=k:=h1.symm.trans e;have b:atKey (q::qs) k=Δ q.2:=by simp[atKey,YB,e']
   rw[nE e,b];exact h2
  ·have e':¬q.1=k:=λz=>e (h1.trans z);have b:atKey (q::qs) k=atKey qs k:=by simp[atKey,YB,e']
   rw[nF e,b];exact ih
theorem KT.DJ(r:KT H kvs xs)k(ry:RelV y u):
  KT H (kvs.map λkv=>if kv.1=k then(kv.1,y) else kv) (xs.map (putAt k u)):=by
 induction r with
 |nil=>exact .nil|@cons p q ps qs h t ih=>
  rw[Xo,Xo];refine .cons ?_ ih;obtain⟨h1,h2,h3⟩:=h;unfold putAt;by_cases e:p.1=k;·rw[if_pos e,if_pos (h1.symm.trans e)];exact⟨h1,h2,ry⟩
  ·rw[if_neg e,if_neg (λz=>e (h1.trans z))];exact⟨h1,h2,h3⟩
theorem KT.put(r:KT H kvs xs)k(hb:H b=Δ (.tup (k.map kV)))(ry:RelV y u):
  KT H (putK kvs k y) (storedH xs k b u):=by
 have e:(kvs.any λkv=>decide (kv.1=k))=(atKey xs k).isSome:=by rw[sO,(r.val k).hU,aap]
 unfold putK storedH;rw[e];by_cases q:(atKey xs k).isSome=Λ;·rw[if_pos q,if_pos q];exact r.DJ k ry
 ·rw[if_neg q,if_neg q];exact acD.snoc r ⟨rfl,hb,ry⟩
theorem KT.keeps(r:KT H kvs xs)(ht:∀b ys,H b=Δ (.tup ys)->H' b=Δ (.tup ys)):KT H' kvs xs:=
 acD.LG r λ_ _ z=>⟨z.1,ht _ _ z.2.1,z.2.2⟩
section
variable{P:Yi}{w:World}{H:Hp}{h:Heap}{a:Addr}
theorem KP(ok:ku P w H h)(e:Rd H a u):bG P w H h a u:=e.ok ok
theorem qp(ok:ku P w H h)(e:Rd H a (.dK kvs)):kvs.length<=XE/\(a==Y5)=Ξ/\∃vs,KV kvs vs/\h.DictOf (be P w) a vs:=
 show bG P w H h a (.dK kvs) from KP ok e
theorem v7(ok:ku P w H h)(e:H a=Δ (.dK kvs)):kvs.length<=XE/\(a==Y5)=Ξ/\∃vs,KV kvs vs/\h.DictOf (be P w) a vs:=qp ok (.inl e)
theorem o4(ok:ku P w H h)(e:H a=Δ (.tup (ks.map kV))):(abU (be P w)).is h ks a:=by obtain⟨_,its,r,o,h1,h2,n,h3⟩:=(show bG P w H h a (.tup (ks.map kV)) from ok a _ e);exact⟨o,its.toArray,n,h1,h2,h3,by simpa using v5 r⟩
theorem qr(ok:ku P w H h)(e:Rd H a (.dT kvs)):kvs.length<=XE/\(a==Y5)=Ξ/\
  ∃xs,KT H kvs xs/\h.DictOfH (abU (be P w)) a xs:=by
 obtain⟨z,y,xs,r,o,es,ep,h1,h2,h3,h4,h5⟩:=(show bG P w H h a (.dT kvs) from KP ok e);refine⟨z,y,xs,r,o,es,ep,h1,h2,h3,h4,λx hx=>?_,h5⟩;have all:∀{l:List (List Key×V)} {m:List (List Key×Addr×Value)},KT H l m->∀x∈m,(abU (be P w)).is h x.1 x.2.1:=by
  intro l m q;induction q with
  |nil=>intro x hx;exact nomatch hx|@cons p q ps qs hq t ih=>
   intro x hx;rcases aai.mp hx with e|hx;·subst e;exact o4 ok (by rw[<-hq.1];exact hq.2.1)
   ·exact ih x hx
 exact all r x hx
theorem KQ(ok:ku P w H h)(e:H a=Δ (.dT kvs)):kvs.length<=XE/\(a==Y5)=Ξ/\
  ∃xs,KT H kvs xs/\h.DictOfH (abU (be P w)) a xs:=qr ok (.inl e)
end
def nH(H:Hp)(a:Addr)(y:V)(r:Option V):Prop:=
 (∃kvs k,Rd H a (.dK kvs)/\y=kV k/\r=fI kvs k)\/∃kvs k b,Rd H a (.dT kvs)/\y=.ref b/\H b=Δ (.tup (k.map kV))/\r=fI kvs k
def yX(H:Hp)(a:Addr)(y v:V)(H':Hp):Prop:=
 (∃kvs k,H a=Δ (.dK kvs)/\y=kV k/\kvs.length < XE/\H'=upd H a (.dK (putK kvs k v)))\/
 ∃kvs k b,H a=Δ (.dT kvs)/\y=.ref b/\H b=Δ (.tup (k.map kV))/\kvs.length < XE/\H'=upd H a (.dT (putK kvs k v))
theorem nH.k{k:Key}(e:H a=Δ (.dK kvs)):nH H a (kV k) (fI kvs k):=.inl ⟨kvs,k,.inl e,rfl,rfl⟩
theorem nH.t{k:List Key}(e:H a=Δ (.dT kvs))(eb:H b=Δ (.tup (k.map kV))):nH H a (.ref b) (fI kvs k):=.inr ⟨kvs,k,b,.inl e,rfl,eb,rfl⟩
theorem yX.k{k:Key}(e:H a=Δ (.dK kvs))(hl:kvs.length < XE):yX H a (kV k) v (upd H a (.dK (putK kvs k v))):=.inl ⟨kvs,k,e,rfl,hl,rfl⟩
theorem yX.t{k:List Key}(e:H a=Δ (.dT kvs))(eb:H b=Δ (.tup (k.map kV)))(hl:kvs.length < XE):
  yX H a (.ref b) v (upd H a (.dT (putK kvs k v))):=.inr ⟨kvs,k,b,e,rfl,eb,hl,rfl⟩
section
variable{X:Cx}{η:List (Addr×Obj)}{σ:St}{H:Hp}{s:Xv}{a:Addr}{y v:V}{u r:Value}{o:Option V}{A:YO}{E:Value->Xv->Prop}
theorem Inv.SY(I:Inv X η σ H s):Y5 < s.heap.objs.size:=by have h:Xu < s.heap.objs.size:=(I.mod.glob.keeps I.bk).lt;exact aaZ (by decide) h
theorem DK(hu:A.units+1 < cLine)(I:Inv X η σ H s)(g:nH H a y (Δ v))(ry:RelV y u)(h:∀w' s',Inv X η σ H s'->RelV v w'->Q w' s'):
  wpAny (model X.prog X.w) A (abg (.ref a) u) Q E s:=by
 rcases g with ⟨kvs,k,e,ey,l⟩|⟨kvs,k,b,e,ey,eb,l⟩
 ·subst ey;obtain⟨z,hd,vs,rel,dd⟩:=qp I.aJ e;obtain⟨w',hw,mE⟩:=kr.some_of (v:=v) (o:=ab6 vs k) (by rw[l];exact rel.val k);exact wpAny_getItem_of (nG ry) dd.mapOf hw (h w' _ (I.tok _) mE)
 ·subst ey;cases (show u=XM b from ry);obtain⟨z,hd,xs,rel,dd⟩:=qr I.aJ e;obtain⟨w',hw,mE⟩:=kr.some_of (v:=v) (o:=(atKey xs k).map (·.2)) (by rw[l];exact rel.val k);obtain⟨p,hp,hp2⟩:=Option.map_eq_some_iff.mp hw;refine wpAny_getItem_heap (aaG hu) (o4 I.aJ eb) dd hp ?_;rw[hp2];exact h w' _ (I.tok _) mE
theorem UQ(hu:A.units+1 < cLine)(I:Inv X η σ H s)(g:nH H a y o)(ry:RelV y u)(h:∀s',Inv X η σ H s'->Q (.bool o.isSome) s'):
  wpAny (model X.prog X.w) A (YF .In u (.ref a)) Q E s:=by
 rcases g with ⟨kvs,k,e,ey,l⟩|⟨kvs,k,b,e,ey,eb,l⟩
 ·subst ey;obtain⟨z,hd,vs,rel,dd⟩:=qp I.aJ e;refine wpAny_in_of (nG ry) hd dd.mapOf ?_;rw[<-(rel.val k).hU,<-l];exact h _ (I.tok _)
 ·subst ey;cases (show u=XM b from ry);obtain⟨z,hd,xs,rel,dd⟩:=qr I.aJ e;refine wpAny_in_heap (aaG hu) (o4 I.aJ eb) hd dd ?_;have q:=(rel.val k).hU;rw[aap] at q;rw[<-q,<-l];exact h _ (I.tok _)
theorem IG(hu:A.units+1 < cLine)(I:Inv X η σ H s)(g:nH H a y o)(ry:RelV y u)(h:∀s',Inv X η σ H s'->Q (.bool (!o.isSome)) s'):
  wpAny (model X.prog X.w) A (YF .NotIn u (.ref a)) Q E s:=by
 rcases g with ⟨kvs,k,e,ey,l⟩|⟨kvs,k,b,e,ey,eb,l⟩
 ·subst ey;obtain⟨z,hd,vs,rel,dd⟩:=qp I.aJ e;refine wpAny_notIn_of (nG ry) hd dd.mapOf ?_;rw[<-(rel.val k).hU,<-l];exact h _ (I.tok _)
 ·subst ey;cases (show u=XM b from ry);obtain⟨z,hd,xs,rel,dd⟩:=qr I.aJ e;refine wpAny_notIn_heap (aaG hu) (o4 I.aJ eb) hd dd ?_;have q:=(rel.val k).hU;rw[aap] at q;rw[<-q,<-l];exact h _ (I.tok _)
theorem jL(I:Inv X η σ H s)(mu:Pc (H a))(hs:ZW a s.heap h')(he:∃q,h'.get? a=Δ q)(new:bG X.prog X.w (upd H a ob) h' a ob):
  Inv X η σ (upd H a ob) {s with heap:=h',toks:=t'}:=
 I.write (x:=a) (e:=a) mu (.inl rfl) (λb q hb z=>(hs.2 b hb).trans z) he new
theorem sP(z:kvs.length<=XE)(hd:(a==Y5)=Ξ)(rel:KV kvs vs)(dd:h'.DictOf (be P w) a vs):
  bG P w H' h' a (.dK kvs):=⟨z,hd,vs,rel,dd⟩
theorem DL(hu:A.units+1 < cLine)(I:Inv X η σ H s)(g:yX H a y v H')(ry:RelV y u)(rv:RelV v r)(h:∀s',Inv X η σ H' s'->Q () s'):
  wpAny (model X.prog X.w) A (setItem (.ref a) u r) Q E s:=by
 rcases g with ⟨kvs,k,e,ey,l,eH⟩|⟨kvs,k,b,e,ey,eb,l,eH⟩
 ·subst ey eH;obtain⟨z,hd,vs,rel,dd⟩:=v7 I.aJ e;have hz:vs.length<=XE:=by rw[<-rel.length];exact z
  have hl:(putK kvs k v).length<=XE:=by have:=iN kvs k v;lia
  refine wpAny_setItem_pairs (hsz:=hz) (nG ry) dd λh' yH hs=>h _ ?_;have he:∃q,h'.get? a=Δ q:=let ⟨q,_,_,hq,_⟩:=yH;⟨q,hq⟩
  exact jL I (by rw[e];exact YR) hs he (sP hl hd (rel.put k rv) yH)
 ·subst ey eH;cases (show u=XM b from ry);obtain⟨z,hd,xs,rel,dd⟩:=KQ I.aJ e;have hz:xs.length<=XE:=by rw[<-abQ rel];exact z
  have hl:(putK kvs k v).length<=XE:=by have:=iN kvs k v;lia
  refine wpAny_setItem_heap (hsz:=hz) (aaG hu) (o4 I.aJ eb) dd λh' yH hs=>h _ ?_;obtain⟨q,es,ep,hq,h2,h3,h4,_,h5⟩:=yH;refine jL I (by rw[e];exact YR) hs ⟨q,hq⟩ ⟨hl,hd,_,(rel.put k eb rv).keeps λc ys ec=>?_,q,es,ep,hq,h2,h3,h4,h5⟩;rw[ax (KC ec e (λz=>nomatch z))];exact ec
end
section
variable{X:Cx}{η:List (Addr×Obj)}{σ:St}{H:Hp}{s:Xv}{a:Addr}{kvs:List (Key×V)}{k:Key}{u:Value}{A:YO}{E:Value->Xv->Prop}
theorem OP(I:Inv X η σ H s)(e:H a=Δ (.dK kvs))(ry:RelV (kV k) u)(l:(fI kvs k).isSome=Λ)(h:∀s',Inv X η σ (upd H a (.dK (nC kvs k))) s'->Q () s'):
  wpAny (model X.prog X.w) A (delItem (.ref a) u) Q E s:=by
 obtain⟨z,hd,vs,rel,dd⟩:=v7 I.aJ e;refine wpAny_delItem_slot dd.typeIs (by decide) PySem.F.slot_dict_delitem
  (abv PySem.F.slot_dict_delitem dd.typeIs PySem.F.entry_dict_delitem (PySem.F.args_dict_delitem_2 _ _) (meets_dict_delitem_pairs (be X.prog X.w) a (nG ry)) ⟨vs,dd,by rw[<-rel.length];exact z,by rw[<-(rel.val k).hU];exact l,λh' yH hs=>h _ ?_⟩)
 have he:∃q,h'.get? a=Δ q:=let ⟨q,_,_,hq,_⟩:=yH;⟨q,hq⟩
 exact jL I (by rw[e];exact YR) hs he (sP (X5 (yW kvs k) z) hd (rel.drop k) yH)
theorem P6(I:Inv X η σ H s)(e:H a=Δ (.dK kvs))(ry:RelV (kV k) u)(l:fI kvs k=Δ v)(hm:more=[]\/∃x,more=[x])(h:∀w' s',Inv X η σ (upd H a (.dK (nC kvs k))) s'->RelV v w'->Q w' s'):wpAny (model X.prog X.w) A (call (.builtin "dict.pop") (.ref a::u::more)) Q E s:=by
 obtain⟨z,hd,vs,rel,dd⟩:=v7 I.aJ e;obtain⟨w',hw,mE⟩:=kr.some_of (v:=v) (o:=ab6 vs k) (by rw[<-l];exact rel.val k);have hp:(keyPart u).isSome=Λ:=by cases k with|inl i=>obtain⟨t,q⟩:=(show ∃t,u=abc i t from ry);subst q;rfl|inr x=>obtain⟨t,q⟩:=(show ∃t,u=abb x t from ry);subst q;rfl
 have ha:argsOk "dict.pop" ⟨.ref a::u::more,[]⟩:=by
  rcases hm with q|⟨x,q⟩;·subst q;exact PySem.F.args_dict_pop_2 _ _
  ·subst q;exact PySem.F.args_dict_pop_3 _ _ _
 refine abv PySem.F.slot_dict_pop dd.typeIs PySem.F.entry_dict_pop ha (meets_dict_pop_there (be X.prog X.w) a (nG ry) more hm hp)
  ⟨vs,w',dd,by rw[<-rel.length];exact z,hw,λh' yH hs=>h w' _ ?_ mE⟩
 have he:∃q,h'.get? a=Δ q:=let ⟨q,_,_,hq,_⟩:=yH;⟨q,hq⟩
 exact jL I (by rw[e];exact YR) hs he (sP (X5 (yW kvs k) z) hd (rel.drop k) yH)
theorem P7(I:Inv X η σ H s)(e:Rd H a (.dK kvs))(h:∀t s',Inv X η σ H s'->Q (.int kvs.length t) s'):wpAny (model X.prog X.w) A (call (.builtin "len") [.ref a]) Q E s:=by obtain⟨z,hd,vs,rel,dd⟩:=qp I.aJ e;refine call_len_dict hd dd (by rw[<-rel.length];rw[YH] at z;lia) ?_;rw[<-rel.length];exact h _ _ (I.tok _)
end
theorem yY(I:Inv X η σ H s)(g:nH H a y o):s.TypeIs (.ref a) "dict":=by
 rcases g with ⟨kvs,k,e,_,_⟩|⟨kvs,k,b,e,_,_,_⟩
 ·obtain⟨_,_,vs,_,dd⟩:=qp I.aJ e;exact dd.typeIs
 ·obtain⟨_,_,xs,_,dd⟩:=qr I.aJ e;exact dd.typeIs
theorem yZ(I:Inv X η σ H s)(g:nH H a y o):
  ∀b,XM a=.ref b->∃ob,s.heap.get? b=Δ ob/\ob.dict=Θ:=λb q=>by
 cases q;rcases g with ⟨kvs,k,e,_,_⟩|⟨kvs,k,b,e,_,_,_⟩
 ·obtain⟨_,_,vs,_,ob,_,_,h1,h2,_⟩:=qp I.aJ e;exact⟨ob,h1,h2.2.1⟩
 ·obtain⟨_,_,xs,_,ob,_,_,h1,h2,_⟩:=qr I.aJ e;exact⟨ob,h1,h2.2.1⟩
section
variable{X:Cx}{o i e value:Expr}{pos pos' Uz:Pos}{td ty tv:TE}
end
theorem zc(h:Heap)(hb:Y5 < h.objs.size):bG P w H (h.push {cls:=.type "dict",data:=.dict #[]}) h.objs.size (.dK []):=
 ⟨Yq _,beq_eq_false_iff_ne.mpr (Yj (XR hb)),[],.nil,Heap.DictOf.new h⟩
theorem zd(h:Heap)(hb:Y5 < h.objs.size):bG P w H (h.push {cls:=.type "dict",data:=.dict #[]}) h.objs.size (.dT []):=
 ⟨Yq _,beq_eq_false_iff_ne.mpr (Yj (XR hb)),[],.nil,_,#[],0,Xq _ rfl,⟨rfl,rfl,rfl⟩,rfl,rfl,List.nodup_nil⟩
def Mm:TE:=λ_ H Q=>∀p,H p=Θ->Q (.ref p) (upd H p (.dK []))
def Mn:TE:=λ_ H Q=>∀p,H p=Θ->Q (.ref p) (upd H p (.dT []))
section
variable{X:Cx}{pos:Pos}
theorem FE:PE X (.Dict [] [] pos) Mm:=λη s σ H Q I h=>wpAny_Dict_empty ⟨.ref s.heap.objs.size,_,I.laid (a:=s.heap.objs.size) (o:=.dK []) (t':=s.toks) (λ_ _ q=>Xa _ q) (Xj _) (zc s.heap I.SY),rfl,h _ (I.aJ.fresh (Xj _))⟩
theorem FF:PE X (.Dict [] [] pos) Mn:=λη s σ H Q I h=>wpAny_Dict_empty ⟨.ref s.heap.objs.size,_,I.laid (a:=s.heap.objs.size) (o:=.dT []) (t':=s.toks) (λ_ _ q=>Xa _ q) (Xj _) (zd s.heap I.SY),rfl,h _ (I.aJ.fresh (Xj _))⟩
end
noncomputable def Bw:List (TE×TE)->St->Hp->(List (V×V)->Hp->Prop)->Prop
 |[],_,H,Q=>Q [] H|(tk,tv)::r,σ,H,Q=>tk σ H λx H1=>tv σ H1 λy H2=>Bw r σ H2 λps H3=>Q ((x,y)::ps) H3
abbrev VV:List (V×V)->List (Value×Value)->Prop:=acD λp q=>RelV p.1 q.1/\RelV p.2 q.2
def S0(X:Cx)(pos:Pos)(keys:List (Option Expr))(values:List Expr)(Mo:List (TE×TE)):Prop:=
 ∀(η:List (Addr×Obj)) (s:Xv) (σ:St) (H:Hp) (Q:List (V×V)->Hp->Prop),Inv X η σ H s->Bw Mo σ H Q->
  wpAny (model X.prog X.w) X.A (evalPairs (pairTrees keys values X.env pos)) (λvs s'=>∃ps H',Inv X η σ H' s'/\VV ps vs/\Q ps H') X.xe s
theorem CD:S0 X pos [] [] []:=λη s σ H Q I h=>pairTrees_nil_walk ⟨[],H,I,.nil,h⟩
theorem ze(hk:PE X k tk)(hv:PE X v tv)(hr:S0 X pos ks vs Mo):
  S0 X pos (Δ k::ks) (v::vs) ((tk,tv)::Mo):=λη s σ H Q I h=>
 pairTrees_cons_walk (bS (hk η s σ H _ I h) λu s1 ⟨x,H1,I1,rx,q1⟩=>bS (hv η s1 σ H1 _ I1 q1) λw2 s2 ⟨y,H2,I2,ry,q2⟩=>bS (hr η s2 σ H2 _ I2 q2) λws s3 ⟨ps,H3,I3,rel,q3⟩=>⟨(x,y)::ps,H3,I3,.cons ⟨rx,ry⟩ rel,q3⟩)
def o5(kvs more:List (Key×V)):List (Key×V):=more.foldl (λacc kv=>putK acc kv.1 kv.2) kvs
theorem KV.merge:∀{more} {rs} {kvs} {vs},KV more rs->KV kvs vs->KV (o5 kvs more) (merged vs rs):=by
 intro more rs kvs vs r;unfold KV at r;induction r generalizing kvs vs with
 |nil=>intro q;exact q|@cons p q ps qs h t ih=>
  intro r0;have e:KV (putK kvs p.1 p.2) (stored vs q.1 q.2):=by have:=r0.put p.1 h.2;rw[<-h.1];exact this
  exact ih e
theorem l9:∀(more kvs),(o5 kvs more).length<=kvs.length+more.length
 |[],kvs=>by show kvs.length<=kvs.length+0;lia|p::r,kvs=>by have h1:=l9 r (putK kvs p.1 p.2);have h2:=iN kvs p.1 p.2;show(o5 (putK kvs p.1 p.2) r).length<=_;rw[Xt];lia
theorem sQ:∀{kvs} {ws},VV (kvs.map λkv=>(kV kv.1,kv.2)) ws->∃rs,Carries (be P w) ws rs/\KV kvs rs
 |[],_,r=>by rw[Zi] at r;cases r;exact⟨[],YR,.nil⟩|p::kvs,_,r=>by rw[Xo] at r;cases r with|@cons a b as bs h t=>obtain⟨rs,c,q⟩:=sQ (P:=P) (w:=w) t;obtain⟨b1,b2⟩:=b;exact⟨(p.1,b2)::rs,⟨nG h.1,rfl,c⟩,.cons ⟨rfl,h.2⟩ q⟩
def P8(Mo:List (TE×TE)):TE:=λσ H Q=>∀p,H p=Θ->Bw Mo σ (upd H p (.dK [])) λps H2=>H2 p=Δ (.dK [])/\∃kvs:List (Key×V),ps=kvs.map (λkv=>(kV kv.1,kv.2))/\kvs.length<=15/\Q (.ref p) (upd H2 p (.dK (o5 [] kvs)))
theorem IH(h:S0 X pos keys values Mo)(Bx:keys.all (·.isSome)=Λ)(hl:keys.length=values.length)(h0:keys≠[])(h15:keys.length<=15):PE X (.Dict keys values pos) (P8 Mo):=by
 intro η s σ H Q I q;have hn:=I.aJ.fresh (Xj s.heap.objs.size);have I1:=I.laid (a:=s.heap.objs.size) (o:=.dK []) (h':=s.heap.push {cls:=.type "dict",data:=.dict #[]}) (t':=s.toks) (λ_ _ q=>Xa _ q) (Xj _) (zc s.heap I.SY);refine wpAny_Dict_walk (knd:=be X.prog X.w) Bx hl h0 h15 (bS (h η _ σ _ _ I1 (q _ hn)) λws s2 ⟨ps,H2,I2,rel,e,kvs,ep,lk,q2⟩=>?_);subst ep;obtain⟨rs,c,rk⟩:=sQ (P:=X.prog) (w:=X.w) rel;obtain⟨z,hd,vs0,r0,dd⟩:=v7 I2.aJ e;cases r0;refine⟨rs,c,dd,λh' yH hs=>⟨.ref s.heap.objs.size,_,?_,rfl,q2⟩⟩;have hz:(o5 [] kvs).length<=XE:=by have h1:=l9 kvs [];rw[YM] at h1;rw[YH];lia
 have he:∃q,h'.get? s.heap.objs.size=Δ q:=let ⟨q,_,_,hq,_⟩:=yH;⟨q,hq⟩
 exact jL I2 (by rw[e];exact YR) hs he (sP hz hd (rk.merge .nil) yH)
structure M1(X:Cx)(o:Expr)(m:Str)(apos:Pos)(e:Expr)(fO:Pos):Prop where
 base:ZY o m X.env (eval o X.env)=eval o X.env
 UR:((Zm fO (XO [e] X.env)).all (λx=>!x.1)&&(abk fO (aab [] X.env)).all (λx=>x.1.isSome)
  &&decide (([e]:List Expr).length+([]:List abJ).length+(if([]:List abJ).isEmpty then 0 else 1) < 30))=Λ
 line:(apos.endLine==fO.line)=Λ
 trees:Zm fO (XO [e] X.env)=[(Ξ,eval e X.env)]
structure M2(X:Cx)(o:Expr)(m:Str)(apos:Pos)(e f:Expr)(fO:Pos):Prop where
 base:ZY o m X.env (eval o X.env)=eval o X.env
 UR:((Zm fO (XO [e,f] X.env)).all (λx=>!x.1)&&(abk fO (aab [] X.env)).all (λx=>x.1.isSome)
  &&decide (([e,f]:List Expr).length+([]:List abJ).length+(if([]:List abJ).isEmpty then 0 else 1) < 30))=Λ
 line:(apos.endLine==fO.line)=Λ
 trees:Zm fO (XO [e,f] X.env)=[(Ξ,eval e X.env),(Ξ,eval f X.env)]
def S2(H:Hp)(a:Addr):Prop:=(∃kvs,Rd H a (.dK kvs))\/∃kvs,Rd H a (.dT kvs)
theorem By(I:Inv X η σ H s)(d:S2 H a):
  s.TypeIs (.ref a) "dict"/\(∀b,XM a=.ref b->∃ob,s.heap.get? b=Δ ob/\ob.dict=Θ)/\(a==Y5)=Ξ:=by
 rcases d with ⟨kvs,e⟩|⟨kvs,e⟩
 ·obtain⟨_,hd,vs,_,dd⟩:=qp I.aJ e;refine⟨dd.typeIs,λb q=>?_,hd⟩;cases q;obtain⟨ob,_,_,h1,h2,_⟩:=dd;exact⟨ob,h1,h2.2.1⟩
 ·obtain⟨_,hd,xs,_,dd⟩:=qr I.aJ e;refine⟨dd.typeIs,λb q=>?_,hd⟩;cases q;obtain⟨ob,_,_,h1,h2,_⟩:=dd;exact⟨ob,h1,h2.2.1⟩
section
variable{X:Cx}{η:List (Addr×Obj)}{σ:St}{H:Hp}{s:Xv}{a:Addr}{y d:V}{u r:Value}{o:Option V}{A:YO}{E:Value->Xv->Prop}
end
def Mp(td ty:TE):TE:=λσ H Q=>td σ H λx H1=>∃a,x=.ref a/\S2 H1 a/\ty σ H1 λy H2=>∃kvs k v,H2 a=Δ (.dK kvs)/\y=kV k/\fI kvs k=Δ v/\Q v (upd H2 a (.dK (nC kvs k)))
section
variable{X:Cx}{o e f:Expr}{apos fO:Pos}{td ty tx:TE}
theorem FG(ho:PE X o td)(he:PE X e ty)(m:M1 X o "pop" apos e fO):PE X (.Call (.Attribute o "pop" apos) [e] [] fO) (Mp td ty):=by intro η s σ H Q I h;refine wpAny_Call_method m.base m.UR m.line aaN PySem.F.slot_dict_pop PySem.F.type_dict_pop (bS (ho η s σ H _ I h) λu s1 ⟨x,H1,I1,rx,a,ex,d,q1⟩=>?_);subst ex;obtain rfl:u=XM a:=rx;obtain⟨t1,t2,_⟩:=By I1 d;refine⟨t1,t2,?_⟩;rw[m.trees];refine Zv rfl (abn (aaf (bS (he η s1 σ H1 _ I1 q1) λiv s2 ⟨y,H2,I2,ry,kvs,k,v,ea,ey,l,q2⟩=>aa2 ?_)));subst ey;exact P6 I2 ea ry l (.inl rfl) λw' s3 I3 mE=>⟨v,_,I3,mE,q2⟩
end
section
variable{X:Cx}{η:List (Addr×Obj)}{σ:St}{H:Hp}{s:Xv}{a:Addr}{kvs:List (Key×V)}{A:YO}{E:Value->Xv->Prop}
end
section
variable{X:Cx}{η:List (Addr×Obj)}{σ:St}{H:Hp}{s:Xv}{a:Addr}{y:V}{u:Value}{A:YO}{E:Value->Xv->Prop}
end
end L2
namespace Att
open PySem PySem.W PySem.Calls PyProof.Rows
theorem qT:∀(ns) (vs),WellAll P h vs (ns.map WData.int)->acL vs ns:=by intro ns;induction ns with|nil=>intro vs w;rw[Zi] at w;cases w;exact .nil|cons n ns ih=>intro vs w;rw[Xo] at w;cases w with|cons a b=>cases a;exact .cons _ _ (ih _ b)
theorem DM{l:OpenLaw}(hn:l.most=Δ n)(II:l.row.toRowW.claim.pre args=Λ)(S3:WellAll P h vals args):
  ∃a vs ns,vals=[XM a]/\args=[WData.list (ns.map WData.int)]/\h.get? a=Δ {cls:=.type "list",data:=.seq vs.toArray}/\acL vs ns/\ns.length<=n:=by
 have CF:WShape.hasAll [] args [.list .int]=Λ:=(pre_splitW II).1;have hc:l.pre.holds [] {args:=args}=Λ:=(pre_splitW II).2;obtain⟨d,r,rfl,h1,h2⟩:=hasAllW_cons CF;obtain rfl:=hasAllW_nil h2;obtain⟨xs,rfl,h3⟩:=hasW_list h1;obtain⟨ns,rfl⟩:=items_int h3;have hlen:ns.length<=n:=by
  unfold OpenLaw.pre at hc;have h4:(WTm.not (.lt (.lit (.int (n:Int))) (.len (.arg 0)))).holds [] {args:=[.list (ns.map .int)]}=Λ:=by have h4:=(holds_andW hc).1;rw[hn] at h4;exact h4
  have h5:=condW_of h4 (w_not (w_lt w_lit (w_len_list (w_arg rfl))));rw[Xf] at h5;refine Nat.le_of_not_lt λq=>?_;have q':(n:Int) < ((ns.length:Nat):Int):=by lia
  first
   |(rw[decide_eq_true q'] at h5;exact absurd h5 (by decide))
   |(simp at h5;lia)
 cases S3 with|cons w1 w2=>cases w2;cases w1 with|list ho Bx=>exact⟨_,_,ns,rfl,rfl,ho,qT ns _ Bx,hlen⟩
theorem DN(l:OpenLaw)args:l.row.toRowW.claim.post args (.bool Λ) args=Λ:=
 postW_of (r:=l.row.toRowW) (X:=(Λ==Λ))
  (show WShape.has [] (.bool Λ) .bool=Λ by first|rfl|decide|simp[WShape.has,WShape.arms,WShape.armsAll])
  (show(WTm.eq .res (.lit (.bool Λ))).value [] {args:=args,res:=Δ (.bool Λ),after:=args}=Δ (.bool (Λ==Λ)) from w_eq_bool (w_res rfl) w_lit) rfl
theorem zf{l:OpenLaw}(hn:l.most=Δ n)(P9:d.params.defaults=[])(call:∀(w:World) (gU bA:Xv) (mg mb:Str->Option Value) (fa:Addr) (o:Obj) (pm cd doc:Value) (a:Addr) (vs:List Value) (ns:List Int),
   Ground q loose [] XP w gU mg mb bA.heap->YP w bA.heap->
   bA.heap.get? fa=Δ o->o.data=.func (docDef d.name d.params d.body d.scope pm cd doc)->bA.heap.CodeRec cd d.name->mg d.name=Δ (.ref fa)->
   bA.heap.get? a=Δ {cls:=.type "list",data:=.seq vs.toArray}->acL vs ns->ns.length<=n->bA.gens=#[]->
   abh (model l.prog w) acs (.call (.ref fa) ⟨[.ref a],[]⟩) (λr s'=>r=.ok (.ret (.bool Λ))/\OldK bA.heap s'.heap/\s'.os=bA.os/\abK s'.gens) bA):
  WalkO q loose XP YP l.row.toRowW d [] (λf vs=>ac2 f vs):=by
 intro w gU bA mg mb G Y fa o pm cd doc dV kV ho hd qi hD Qa hg args vals as II hlay hrd S3 hlo;obtain rfl:dV=.none:=Dflts.none hD P9;obtain rfl:kV=.none:=Dflts.noKw hD;obtain⟨a,vs,ns,rfl,rfl,DO,hints,hlen⟩:=DM hn II S3;refine enter_call (abu (call w gU bA mg mb fa o pm cd doc a vs ns G Y ho (fd_plain hd) qi Qa DO hints hlen hg) λr s' hq=>?_);obtain⟨rfl,h2,h3,h4⟩:=hq;exact⟨.inl ⟨.bool Λ,.bool Λ,[],rfl,λ_=>rfl,.bool Λ,DN l _,λ_=>⟨List.Pairwise.nil,λ_ hm=>(nomatch hm)⟩⟩,h2,h3,h4⟩
section
variable{prog:Yi}{w:World}{A:YO}{E:Value->Xv->Prop}{s:Xv}{K:Frag}
end
end Att
namespace L2
open PySem PySem.Spec PyProof.Rows
theorem v8:∀{vs} {ns},acL vs ns->aS (ns.map V.int) vs
 |_,_,.nil=>.nil|_,_,.cons n t h=>.cons ⟨t,rfl⟩ (v8 h)
noncomputable def rR(s:Stmt):ZR:=match s with|.FunctionDef _ a _ _ _ _ _ _ _ _=>a|_=>{posonlyargs:=[],args:=[],vararg:=Θ,kwonlyargs:=[],kw_defaults:=[],kwarg:=Θ,defaults:=[]}
def lD(s:Stmt):List Stmt:=match s with|.FunctionDef _ _ b _ _ _ _ _ _ _=>b|_=>[]
def aE(s:Stmt):Scope:=match s with|.FunctionDef _ _ _ _ _ _ sc _ _ _=>sc|_=>{kind:=.function,names:=[],isGenerator:=Ξ,isCoroutine:=Ξ}
abbrev u7:HH:=λ_ _ _ _ _ _=>False
abbrev E0:XK:=λ_ _ _=>False
theorem zg:kA u7 X E0:=λ_ _ _ _ _ _ _ h=>h.elim
structure o6(K:Xm)(x qual:Str)(st:Stmt)(f:Addr)(fd:Ze):Prop where
 ex:∃(oc:Value) (od:Option Addr) (kV doc pm:Value) (an:Option Addr) (kq ct:Value) (Iu:Array (Option Value)),
  fd=aaU x qual (rR st) (lD st) (aE st) .none kV doc pm an kq ct/\K.lookup f=Δ ⟨oc,od,.func fd,Iu⟩/\acq K kq qual=Λ
 kp:ZE K (.ref f)=Λ
section
variable{P:Yi}{w:World}{K:Xm}{mg:Str->Option Value}{base:Heap}
theorem o6.binds{st:Stmt}(F:o6 K x qual st f fd)(h:∀(kV doc pm:Value) (an:Option Addr) (kq ct:Value) (us:List Value),us.length=ps.length->ac0 (aaU x qual (rR st) (lD st) (aE st) .none kV doc pm an kq ct) ⟨us,[]⟩=pure (ps.zip us)):Binds K fd ps []:=by obtain⟨oc,od,kV,doc,pm,an,kq,ct,Iu,rfl,lk,qi⟩:=F.ex;exact .all (h kV doc pm an kq ct)
theorem Mq{st:Stmt}{kV doc pm kq ct:Value}(l:K.lookup f=Δ ⟨oc,od,.func (aaU x qual (rR st) (lD st) (aE st) .none kV doc pm an kq ct),Iu⟩)(c:acq K kq qual=Λ)(k:ZE K (.ref f)=Λ):o6 K x qual st f (aaU x qual (rR st) (lD st) (aE st) .none kV doc pm an kq ct):=⟨⟨oc,od,kV,doc,pm,an,kq,ct,Iu,rfl,l,c⟩,k⟩
end
section
variable{X:Cx}
end
def jj(H H':Hp):Prop:=∀b o,H b=Δ o->H' b=Δ o
theorem jj.refl H:jj H H:=λ_ _ h=>h
section
variable{κ:Type}[DecidableEq κ]
end
noncomputable def dM(env:Env):List (Str×ZT)->List (Str×Addr)->List (Str×Addr)
 |[],cs=>cs|(n,k)::r,cs=>dM env r (if(k==XA)=Λ then(n,(env.cells.lookup n).getD 0)::cs else cs)
theorem sR(h:∀x∈sc.names,x.2=.free->∃c,env.cells.lookup x.1=Δ c):aby sc env=pure (dM env sc.names []):=by
 have go:∀(l:List (Str×ZT)) (cs:List (Str×Addr)),(∀x∈l,x.2=.free->∃c,env.cells.lookup x.1=Δ c)->
   (forIn l cs (λ(x:Str×ZT) (r:List (Str×Addr))=>if(x.2==XA)=Λ then do let a<-acR env x.1;pure (YX ((x.1,a)::r)) else pure (YX r)):Sem (List (Str×Addr)))=pure (dM env l cs):=by
  intro l;induction l with
  |nil=>intro cs _;rfl|cons x r ih=>
   intro cs hx;obtain⟨n,k⟩:=x;have hr:∀y∈r,y.2=.free->∃c,env.cells.lookup y.1=Δ c:=λy hy=>hx y (Xb _ hy);rw[ZN];by_cases hk:(k==XA)=Λ
   ·obtain⟨c,hc⟩:=hx (n,k) Xh (by simpa using hk);have e:acR env n=pure c:=by unfold acR;simp only at hc;rw[hc]
    simp only[hk,if_true,e];show _=pure (dM env r (if(k==XA)=Λ then(n,(env.cells.lookup n).getD 0)::cs else cs));rw[if_pos hk];simp only at hc;rw[hc];exact ih _ hr
   ·simp only[hk];show _=pure (dM env r (if(k==XA)=Λ then(n,(env.cells.lookup n).getD 0)::cs else cs));rw[if_neg hk];exact ih _ hr
 have q:=go sc.names [] h;unfold aby;show((forIn sc.names [] (λ(x:Str×ZT) (r:List (Str×Addr))=>if(x.2==XA)=Λ then do let a<-acR env x.1;pure (YX ((x.1,a)::r)) else pure (YX r)):Sem (List (Str×Addr))) >>=λcs=>pure cs)=_;rw[q];rfl
theorem kC:∀{l} {cs},((x,XA)∈l\/∃c,cs.lookup x=Δ c)->∃c,(dM env l cs).lookup x=Δ c
 |[],cs,h=>by
  rcases h with h|h;·exact nomatch h
  ·exact h
 |(n,k)::r,cs,h=>by
  show ∃c,(dM env r (if(k==XA)=Λ then(n,(env.cells.lookup n).getD 0)::cs else cs)).lookup x=Δ c;refine kC ?_;rcases h with h|⟨c,h⟩
  ·rcases aai.mp h with e|e;·injection e with e1 e2;subst e1 e2;right;rw[if_pos (by rfl)];exact⟨_,by rw[XH];simp;rfl⟩
   ·exact .inl e
  ·right;by_cases hk:(k==XA)=Λ
   ·rw[if_pos hk,XH];split;·exact⟨_,rfl⟩
    ·exact⟨c,h⟩
   ·rw[if_neg hk];exact⟨c,h⟩
theorem qt:∀{l} {cs},(∀y∈l,y.2=.free->∃d,env.cells.lookup y.1=Δ d)->
  (dM env l cs).lookup x=Δ c->cs.lookup x=Δ c\/((x,XA)∈l/\env.cells.lookup x=Δ c)
 |[],cs,_,h=>.inl h|(n,k)::r,cs,hx,h=>by
  have h':(dM env r (if(k==XA)=Λ then(n,(env.cells.lookup n).getD 0)::cs else cs)).lookup x=Δ c:=h;rcases qt (λy hy=>hx y (Xb _ hy)) h' with q|⟨q1,q2⟩
  ·by_cases hk:(k==XA)=Λ
   ·rw[if_pos hk,XH] at q;split at q
    ·rename_i e;have e':x=n:=by simpa using e
     subst e';have Qb:k=.free:=by simpa using hk
     subst Qb;obtain⟨d,hd⟩:=hx (x,.free) Xh rfl;simp only at hd;rw[hd] at q;simp only[abX] at q;exact .inr ⟨Xh,by rw[hd];exact q⟩
    ·exact .inl q
   ·rw[if_neg hk] at q;exact .inl q
  ·exact .inr ⟨Xb _ q1,q2⟩
section
variable{prog:Yi}{w:World}{A:YO}{R:Result->Xv->Prop}{s:Xv}
theorem v9(I:Nat->Xv->Prop)(turn:∀n s,I n s->wpAny (model prog w) A (abO it) (λr bA=>match r with
   |none=>R (.ok .next) bA
   |some v=>wpAny (model prog w) A (abp target it v) (λ_ KR=>wpAny (model prog w) A (ac1 target env v) (λ_ vg=>
     wpAny (model prog w) A (forIn ifs Λ λc r=>if r=Λ then do let ok<-acQ c env (eval c env);pure (YX ok) else pure (YX r)) (λok DP=>
      if ok=Λ then wpAny (model prog w) A (eval elt env) (λx Qc=>wpAny (model prog w) A (call (.builtin "list.append") [acc,x]) (λ_ Qd=>∃m,m < n/\I m Qd) (λ_ _=>False) Qc) (λ_ _=>False) DP
      else ∃m,m < n/\I m DP) (λ_ _=>False) vg) (λ_ _=>False) KR) (λ_ _=>False) bA) (λ_ _=>False) s)n(h:I n s):
  abh (model prog w) A (.compLoop (.ListComp elt [⟨target,iter,ifs,0⟩] scope pos) 0 it acc env) R s:=by
 refine codeAny_loop rfl I (λn s hI=>?_) n h;show wpAny _ A ((compTurn (.ListComp elt [⟨target,iter,ifs,0⟩] scope pos) 0 it acc env).onRaise (λx=>do noteFrame x env;theTreesLotGoes x)) _ _ s;refine wpAny_noted ?_;rw[compTurn_list];refine W7 (acx (W7 (YY (turn n s hI) (λr bA dB=>?_) λ_ _ h'=>h'.elim)));cases r with|none=>exact Xn dB|some v=>refine W7 (YY dB (λ_ KR Qe=>?_) λ_ _ h'=>h'.elim);refine W7 (YY Qe (λ_ vg kD=>W7 (YY kD (λok DP ja=>?_) λ_ _ h'=>h'.elim)) λ_ _ h'=>h'.elim);cases ok with|false=>exact Xn ⟨rfl,ja⟩|true=>exact W7 (W7 (YY ja (λx Qc DQ=>W7 (YY DQ (λ_ Qd lU=>Xn (Xn ⟨rfl,lU⟩)) λ_ _ h'=>h'.elim)) λ_ _ h'=>h'.elim))
end
theorem jM{env:Env}:∀{names:List (Str×ZT)} {x},names.lookup x=Δ .free->
  (names.map λ(n,k)=>if(k==XA&&env.scope.kind==.function&&env.kindOf n==Δ .cell) then(n,YU) else(n,k)).lookup x=Δ .cell\/
  (names.map λ(n,k)=>if(k==XA&&env.scope.kind==.function&&env.kindOf n==Δ .cell) then(n,YU) else(n,k)).lookup x=Δ .free
 |[],_,h=>by simp at h|(n,k)::r,x,h=>by
  have ih:=@jM env r x;show Za x ((if(k==XA&&env.scope.kind==.function&&env.kindOf n==Δ .cell)=Λ then(n,YU) else(n,k))::_)=_\/Za x ((if(k==XA&&env.scope.kind==.function&&env.kindOf n==Δ .cell)=Λ then(n,YU) else(n,k))::_)=_;cases hx:x==n with
  |true=>
   simp only[XH,hx] at h;cases h;by_cases hc:(XA==XA&&env.scope.kind==.function&&env.kindOf n==Δ .cell)=Λ;·rw[if_pos hc];simp[XH,hx]
   ·rw[if_neg hc];simp[XH,hx]
  |false=>
   simp only[XH,hx] at h;by_cases hc:(k==XA&&env.scope.kind==.function&&env.kindOf n==Δ .cell)=Λ;·rw[if_pos hc];simp only[XH,hx];exact ih h
   ·rw[if_neg hc];simp only[XH,hx];exact ih h
theorem qu{env:Env}:∀{names:List (Str×ZT)} {x} {q},q=.cell\/q=.free->
  (names.map λ(n,k)=>if(k==XA&&env.scope.kind==.function&&env.kindOf n==Δ .cell) then(n,YU) else(n,k)).lookup x=Δ q->∃k,(x,k)∈names/\(k=.free\/k=.cell)
 |[],_,_,_,h=>by simp at h|(n,k)::r,x,q,hq,h=>by
  have h':Za x ((if(k==XA&&env.scope.kind==.function&&env.kindOf n==Δ .cell)=Λ then(n,YU) else(n,k))::(r.map λ(n,k)=>if(k==XA&&env.scope.kind==.function&&env.kindOf n==Δ .cell) then(n,YU) else(n,k)))=Δ q:=h;cases hx:x==n with
  |true=>
   have e:x=n:=by simpa using hx
   by_cases hc:(k==XA&&env.scope.kind==.function&&env.kindOf n==Δ .cell)=Λ
   ·have hk:k=.free:=by simp only[W9] at hc;simpa using hc.1.1
    exact⟨k,by rw[e];exact Xh,.inl hk⟩
   ·rw[if_neg hc] at h';simp only[XH,hx] at h';cases h';exact⟨k,by rw[e];exact Xh,hq.symm⟩
  |false=>
   have h2:Za x (r.map λ(n,k)=>if(k==XA&&env.scope.kind==.function&&env.kindOf n==Δ .cell) then(n,YU) else(n,k))=Δ q:=by
    by_cases hc:(k==XA&&env.scope.kind==.function&&env.kindOf n==Δ .cell)=Λ;·rw[if_pos hc] at h';simpa only[XH,hx] using h'
    ·rw[if_neg hc] at h';simpa only[XH,hx] using h'
   obtain⟨k',m,z⟩:=qu hq h2;exact⟨k',Xb _ m,z⟩
def mF(X:Cx)(η:List (Addr×Obj))(N:List Str)(sc:Scope)(fp:List Addr)(C:Addr)(s:Xv)(H:Hp):Cx where
 prog:=X.prog
 w:=X.w
 K:=X.K
 mg:=X.mg
 base:=X.base
 A:=X.A
 N:=N
 gU:=s
 yR:=H
 env:=compEnvC sc (dM X.env sc.names []) C X.env
 outer:=X.stack
 stack:=X.stack
 ex:=fp
 calm:=X.calm
 fn:=λ_=>Ξ
 pn:=X.pn++η
 xe:=λ_ _=>False
structure jN(X:Cx)(N:List Str)(ts:Nat)(js:List Nat)(sc:Scope):Prop where
 kind:sc.kind=.function
 len:N.length=ts+js.length
 fP:∀x∈sc.names,x.2≠.cell
 names:∀x∈sc.names,x.2=.local->sc.names.lookup x.1=Δ .local
 frees:∀x∈sc.names,x.2=.free->X.env.kindOf x.1=Δ .cell\/X.env.kindOf x.1=Δ .free
 slots:∀(i:Nat) (y:Str) (j:Nat),N[ts+i]?=Δ y->js[i]?=Δ j->X.N[j]?=Δ y/\sc.names.lookup y=Δ .free
def iO(ts:Nat)(js:List Nat)(σ:St):St:=X6 ts Θ++js.map λj=>(σ[j]?).join
section
variable{X:Cx}{η:List (Addr×Obj)}{σ:St}{H:Hp}{s:Xv}{N:List Str}{ts:Nat}{js:List Nat}{sc:Scope}{fp:List Addr}
theorem jN.cl(B:jN X N ts js sc)(ok:X.Ok):∀x∈sc.names,x.2=.free->∃c,X.env.cells.lookup x.1=Δ c:=λx hx hk=>ok.has x.1 (B.frees x hx hk)
theorem jN.get(B:jN X N ts js sc)(ok:X.Ok)(h:(dM X.env sc.names []).lookup x=Δ c):X.env.cells.lookup x=Δ c:=by
 rcases qt (B.cl ok) h with q|⟨_,q⟩;·cases q
 ·exact q
theorem Inv.US(I:Inv X η σ H s)(f:mz X η H b):b∉jG X.stack:=λz=>by
 rcases aai.mp (I.oT b z) with e|e;·exact f.2.1 e
 ·exact f.2.2.1 e
theorem Inv.okB(I:Inv X η σ H s)(B:jN X N ts js sc)(hf:∀b∈fp,mz X η H b)(ho:∀b∈fp,b < s.heap.objs.size):(mF X η N sc fp s.heap.objs.size s H).Ok where
 mod:=I.ok.mod
 kind:=B.kind
 glob:=I.ok.glob
 blt:=I.ok.blt
 above:=Xj _
 inj:=λx y c h1 h2=>I.ok.inj x y c (B.get I.ok h1) (B.get I.ok h2)
 has:=λx hx=>by
  have yI:∃q,(q=YU\/q=.free)/\(sc.names.map λ(n,k)=>if(k==XA&&X.env.scope.kind==.function&&X.env.kindOf n==Δ .cell) then(n,YU) else(n,k)).lookup x=Δ q:=by
   rcases hx with h|h;·exact⟨_,.inl rfl,h⟩
   ·exact⟨_,.inr rfl,h⟩
  obtain⟨q,hq,hl⟩:=yI;obtain⟨k,hm,hk⟩:=qu hq hl;have Qb:k=.free:=hk.resolve_right (B.fP _ hm);subst Qb;exact kC (.inl hm)
 LJ:=λx c h=>absurd (show Ξ=Λ from h) Yc
 hd:=I.ok.hd
 frames:=I.ok.frames
 Pf:=.inl rfl
 T9:=λb hb=>⟨XR (ho b hb),λx c h=>(hf b hb).2.2.2.2.1 x c (B.get I.ok h)⟩
 bs:=I.bs
 ET:=X5 I.ok.ET I.sz
 Dx:=λb o e hb=>by
  rcases(hf b hb).2.2.2.1 with z|z;·exact I.ok.Dx b o e z
  ·exact absurd (XD (Xs e) (X5 I.ok.ET z)) (Y3 _)
 E3:=λb hb=>I.US (hf b hb)
 mx:=I.stack
 HZ:=I.nk
theorem Inv.block(I:Inv X η σ H s)(B:jN X N ts js sc)(hf:∀b∈fp,mz X η H b)(ho:∀b∈fp,b < s.heap.objs.size)(hn:h'.Ns s.heap.objs.size m)(k:∀b o,s.heap.get? b=Δ o->h'.get? b=Δ o):Inv (mF X η N sc fp s.heap.objs.size s H) [] (iO ts js σ) H {s with heap:=h',toks:=tk}:=by
 refine⟨I.okB B hf ho,rfl,I.bare,Un.kept k,⟨m,hn,λi y v h1 h2 h3=>?_⟩,λx c h=>?_,I.aJ.fresh (Xj _),λx c h=>I.j8 x c (B.get I.ok h),λp hp=>?_,I.aJ.kept k,?_⟩
 ·have hi:ts<=i:=by
   by_cases hi:ts<=i;·exact hi
   ·unfold iO at h2;rw[Xg (by simpa using hi),Z9] at h2;split at h2<;>cases h2
  obtain⟨d,rfl⟩:∃d,i=ts+d:=⟨i - ts,by lia⟩;have rS:(js.map λj=>(σ[j]?).join)[d]?=Δ (Δ v):=by unfold iO at h2;rw[Xy (by simp)] at h2;simpa using h2
  rw[Xi] at rS;cases ej:js[d]? with
  |none=>rw[ej] at rS;cases rS|some j=>
   rw[ej] at rS;have h4:(σ[j]?).join=Δ v:=by simpa using rS
   have h5:σ[j]?=Δ (Δ v):=by cases e:σ[j]? with|none=>rw[e] at h4;cases h4|some o=>rw[e] at h4;simp at h4;rw[h4]
   obtain⟨g1,g2⟩:=B.slots d y j h1 ej;have hm:(y,XA)∈sc.names:=X8 g2;have hk:=B.frees _ hm rfl;obtain⟨m0,hn0,hl0⟩:=I.loc;have hv:Pe X.env.scope y:=by
    rcases hk with z|z;·exact .inr (.inl z)
    ·exact .inr (.inr z)
   obtain⟨u,ru,lk⟩:=hl0 j y v g1 h5 hv;refine⟨u,ru,.inr ⟨jM g2,?_⟩⟩;rcases lk with ⟨z,_⟩|⟨_,c,hc,nr⟩
   ·rcases hk with z'|z'<;>(rw[z] at z';cases z')
   ·obtain⟨c',Ct⟩:=kC (env:=X.env) (l:=sc.names) (cs:=[]) (.inl hm);have e:=B.get I.ok Ct;rw[hc] at e;cases e;obtain⟨o,oS,Cr⟩:=nr;exact⟨c,Ct,o,k _ _ oS,Cr⟩
 ·obtain⟨v,o,oS,Cr⟩:=I.cell x c (B.get I.ok h);exact⟨v,o,k _ _ oS,Cr⟩
 ·have DR:p∈X.pn++η:=by simpa[mF] using hp
  obtain⟨e,n,ne,nf,d⟩:=I.pin p DR;refine⟨k _ _ e,n,XR (Xs e),λz=>?_,d⟩;rcases aai.mp (I.oT p.1 z) with q|q;·exact ne q
  ·exact nf q
 ·show(iO ts js σ).length=N.length;unfold iO;rw[Xz,aan,Xf,B.len]
end
noncomputable def FH(X:Cx)(ifs:List Expr)(t:TT):Prop:=
 ∀(η:List (Addr×Obj)) (s:Xv) (σ:St) (H:Hp) (Q:Bool->Hp->Prop),Inv X η σ H s->t σ H Q->
  wpAny (model X.prog X.w) X.A (forIn ifs Λ λc r=>if r=Λ then do let ok<-acQ c X.env (eval c X.env);pure (YX ok) else pure (YX r)) (TP X η σ Q) X.xe s
def UT:TT:=λ_ H Q=>Q Λ H
theorem IJ:FH X [] UT:=λ_ _ _ H _ I h=>wpAny_tests_nil ⟨H,I,h⟩
theorem IK(h:PT X c t):FH X [c] t:=λη s σ H Q I q=>wpAny_tests_one (h η s σ H Q I q)
def zh(wi:TI)(g:TG)(tc:TT)(te:TE)(ts:Nat)(js:List Nat):TE:=λσ H Q=>wi σ H λJ H1=>∀acc,H1 acc=Θ->
 ∃W:Nat->Nat->St->Hp->Prop,(∃m,W 0 m (iO ts js σ) (upd H1 acc (.lst [])))/\∀i m τ H,W i m τ H->
  (J.stop i H/\Q (.ref acc) H)\/(J.go i H/\∀x H',J.Pu i H x H'->g x τ H' λS4 H2=>tc S4 H2 λb H3=>
   if b=Λ then te S4 H3 λy H4=>∃ys,H4 acc=Δ (.lst ys)/\ys.length < XE/\∃m',m' < m/\W (i+1) m' S4 (upd H4 acc (.lst (ys++[y])))
   else ∃m',m' < m/\W (i+1) m' S4 H3)
section
variable{X:Cx}{elt iter tg:Expr}{ifs:List Expr}{sc:Scope}{pos:Pos}{N:List Str}{ts:Nat}{js:List Nat}{wi:TI}{g:TG}{tc:TT}{te:TE}
theorem Inv.zi(I:Inv X η σ H s)(hf:∀b∈fp,mz X η H b)(J:Inv (mF X η N sc fp s.heap.objs.size s H) [] τ H' s')(sb:ZW s.heap.objs.size s'.heap h''):Inv X η σ H' {s' with heap:=h''}:=by
 have hC:H' s.heap.objs.size=Θ:=J.free;have k:∀b o,b≠s.heap.objs.size->s'.heap.get? b=Δ o->h''.get? b=Δ o:=λb o hb e=>sb.extBut b o hb e;have ne:∀b o,s.heap.get? b=Δ o->b≠s.heap.objs.size:=λb o e=>XR (Xs e);have u:Un (jG X.stack) fp H H' s.heap h'':=
  ⟨λb o e n hb hx=>k b o (ne b o e) (J.base.keep b o e n hb hx),
   λb o e n hb hx=>by
   obtain⟨sl,q⟩:=J.base.slot b o e n hb hx;exact⟨sl,k b _ (ne b o e) q⟩,
   J.base.free,
   λb o e hx=>by
   obtain⟨o',q⟩:=J.base.there b o e hx;exact⟨o',k b _ (ne b o e) q⟩,
   J.base.sx,J.base.oR,J.base.qQ⟩
 have aJ:ku X.prog X.w H' h'':=λb ob e=>by
  refine(J.aJ b ob e).ni (λc v hc q=>k c v ?_ q) (λ_ q=>q) λ_ _ q=>q;rintro rfl;rcases hc with z|z;·rw[z] at hC;rw[hC] at e;cases e
  ·rw[hC] at z;cases z
 exact I.E6 (s':={s' with heap:=h''}) (ch:=fp) J.os u aJ J.bare λb hb=>⟨(hf b hb).2.2.2.1,(hf b hb).2.1,(hf b hb).2.2.2.2.1,(hf b hb).2.2.2.2.2⟩
theorem CG(hc:X.calm=Λ)(B:jN X N ts js sc)(hi:PI X tg iter wi)
  (hg:∀η fp C s H,PG (mF X η N sc fp C s H) tg g) (ht:∀η fp C s H,FH (mF X η N sc fp C s H) ifs tc) (he:∀η fp C s H,PE (mF X η N sc fp C s H) elt te)
  (hs:∀x,abD iter X.env x=pure x:=by intro _;rfl):PE X (.ListComp elt [⟨tg,iter,ifs,0⟩] sc pos) (zh wi g tc te ts js):=by
 intro η s σ H Q I h;rw[eval_ListComp];refine wpAny_comprehension_free (use:=Θ) rfl hs (sR (B.cl I.ok)) B.kind B.names (bS (hi η s σ H _ I h) λv s1 h1=>bS h1 λSK s2 h2=>?_);obtain⟨it,fp,tn,J,H2,e,I2,T,st2,f2,rS⟩:=h2;subst e;have DS:H2 s2.heap.objs.size=Θ:=I2.aJ.fresh (Xj _);obtain⟨W,⟨m0,w0⟩,turn⟩:=rS s2.heap.objs.size DS;refine YE (aar B.fP (by intro y hy;simp at hy) (λdB Bz BA=>?_) B.kind);obtain⟨s3,IL⟩:∃s3:Xv,({s2 with heap:=s2.heap.push {cls:=.type "list",dict:=Θ,data:=.seq ([]:List Value).toArray}}:Xv)=s3:=⟨_,rfl⟩;have e3:s3.heap=s2.heap.push {cls:=.type "list",dict:=Θ,data:=.seq ([]:List Value).toArray}:=by rw[<-IL]
 have BB:dB.Ns s3.heap.objs.size λx=>([]:List (Str×Value)).reverse.lookup x:=by rw[e3];exact Bz
 have BC:ZW s3.heap.objs.size (s3.heap.push {cls:=.type (if(Δ X.env).isSome then "dict" else "frame"),data:=.dict #[]}) dB:=by rw[e3];exact BA
 have I3:Inv X η σ (upd H2 s2.heap.objs.size (.lst [])) s3:=by rw[<-IL];exact I2.laid (t':=s2.toks) (λb u e=>Xa _ e) (Xj _) ⟨Yq _,[],0,.nil,Xq _ rfl⟩
 have Qf:∀b∈fp,b < s2.heap.objs.size:=λb hb=>by obtain⟨o,e,_⟩:=T.obj _ _ st2 b hb;exact Xs e
 have f3:∀b∈fp,mz X η (upd H2 s2.heap.objs.size (.lst [])) b:=λb hb=>⟨by rw[ax (XR (Qf b hb))];exact(f2 b hb).1,(f2 b hb).2⟩;have UU:s2.heap.objs.size < s3.heap.objs.size:=by rw[e3,YI];exact YZ _
 have Qg:∀b∈fp,b < s3.heap.objs.size:=λb hb=>aaZ (Qf b hb) UU;have k1:∀b o,s3.heap.get? b=Δ o->dB.get? b=Δ o:=λb o e=>BC.extBut b o (XR (Xs e)) (Xa _ e);have IB:=I3.block (tk:=s3.toks+([]:List (Str×Value)).length) (N:=N) B f3 Qg BB k1;have ma:tn 0 dB:=T.keep _ _ _ st2 λb hb o e=>k1 b o (by rw[e3];exact Xa _ e);have sE:∀{H':Hp},(∀b∈fp,H' b=Θ)->∀b∈fp,mz (mF X η N sc fp s3.heap.objs.size s3 (upd H2 s2.heap.objs.size (.lst []))) [] H' b:=λhn b hb=>⟨hn b hb,XR (Qg b hb),I3.US (f3 b hb),.inl hb,λx c h=>(f3 b hb).2.2.2.2.1 x c (B.get I3.ok h),λp hp=>(f3 b hb).2.2.2.2.2 p (by simpa[mF] using hp)⟩;have loop:abh (model X.prog X.w) X.A (.compLoop (.ListComp elt [⟨tg,iter,ifs,0⟩] sc pos) 0 (.ref it) (.ref s2.heap.objs.size) (compEnvC sc (dM X.env sc.names []) s3.heap.objs.size X.env))
   (compPost (model X.prog X.w) X.A X.xe Θ (EP X η σ Q) (.ref s2.heap.objs.size) s3.heap.objs.size) {s3 with heap:=dB,toks:=s3.toks+([]:List (Str×Value)).length}:=by
  refine v9 (λn s'=>∃i τ H',Inv (mF X η N sc fp s3.heap.objs.size s3 (upd H2 s2.heap.objs.size (.lst []))) [] τ H' s'/\tn i s'.heap/\(∀b∈fp,H' b=Θ)/\W i n τ H') ?_ m0
   ⟨0,iO ts js σ,_,IB,ma,λb hb=>(f3 b hb).1,w0⟩
  rintro n s5 ⟨i,τ,H5,I5,Be,LS,w5⟩;rcases turn i n τ H5 w5 with ⟨stop,qn⟩|⟨go,step⟩
  ·refine bS (T.done (mF X η N sc fp s3.heap.objs.size s3 (upd H2 s2.heap.objs.size (.lst []))) rfl rfl rfl hc i [] s5 τ H5 (λ_ _=>False) I5 (sE LS) Be stop) λr s6 ⟨hr,I6⟩=>?_;subst hr;obtain⟨m,hn,_⟩:=I6.loc;exact⟨m,hn,λh' sT=>⟨.ref s2.heap.objs.size,H5,I3.zi f3 I6 sT,rfl,qn⟩⟩
  ·refine bS (T.item (mF X η N sc fp s3.heap.objs.size s3 (upd H2 s2.heap.objs.size (.lst []))) rfl rfl rfl hc i [] s5 τ H5 (λ_ _=>False) I5 (sE LS) Be go) λr s6 ⟨u,hr,h6⟩=>?_;subst hr;refine bS h6 λ_ s7 ⟨x,H7,I7,r7,y7,Mr,UW⟩=>?_;have UX:=I7.pinned (sE UW) (T.obj _ _ Mr);refine bS (hg _ _ _ _ _ _ s7 τ H7 x u _ UX r7 (step x H7 y7)) λ_ s8 ⟨IM,H8,I8,q8⟩=>?_;refine bS (ht _ _ _ _ _ _ s8 IM H8 _ I8 q8) λok s9 ⟨H9,I9,q9⟩=>?_;have again:∀{s':Xv} {IP:St} {H':Hp},Inv (mF X η N sc fp s3.heap.objs.size s3 (upd H2 s2.heap.objs.size (.lst []))) ([]++oU fp s7.heap) IP H' s'->(∃m',m' < n/\W (i+1) m' IP H')->
     ∃m,m < n/\∃i τ H',Inv (mF X η N sc fp s3.heap.objs.size s3 (upd H2 s2.heap.objs.size (.lst []))) [] τ H' s'/\tn i s'.heap/\(∀b∈fp,H' b=Θ)/\W i m τ H':=λ{s' IP H'} I' ⟨m',hm,w'⟩=>by
    refine⟨m',hm,i+1,IP,H',I'.jh,T.keep _ _ _ Mr λb hb o e=>(I'.pin (b,o) (XQ _ (XQ _ (eV hb e)))).1,λb hb=>?_,w'⟩;obtain⟨o,e,d⟩:=T.obj _ _ Mr b hb;exact(I'.pin (b,o) (XQ _ (XQ _ (eV hb e)))).2.1
   cases ok with|false=>exact again I9 q9|true=>refine bS (he _ _ _ _ _ _ s9 IM H9 _ I9 q9) λxv Qh ⟨y,UY,UZ,U0,ys,ha,hz,U1⟩=>?_;refine bS (oZ _ Qh IM UY (.ref s2.heap.objs.size) [y] (.ref s2.heap.objs.size) [xv] (λ_ H'=>∃m',m' < n/\W (i+1) m' IM H') UZ rfl (.cons U0 .nil) ⟨_,ys,y,rfl,rfl,ha,hz,U1⟩) λ_ s11 ⟨_,H11,U2,_,U3⟩=>?_;exact again U2 U3
 subst IL;exact codeAny_compStart_list loop (T.self _ 0 _ _ _ ma loop)
end
end L2
namespace L2
open PySem
end L2
namespace L2
open PySem PySem.Spec PyProof.Rows PySem.SeqAt
open PySem.AutoSeq1 (wpAny_loadPart')
def fh(t T:String):Bool:=t==T||(t=="bool"&&T=="int")
noncomputable def Qi(H:Hp):V->Option String
 |.bz=>Δ "NoneType"|.bl _=>Δ "bool"|.int _=>Δ "int"|.str _=>Δ "str"|.ref a=>match H a with|some (.lst _)=>Δ "list"|some (.tup _)=>Δ "tuple"|_=>Θ
 |_=>Θ
theorem Ms(h:Qi H v=Δ t):t="NoneType"\/t="bool"\/t="int"\/t="str"\/t="list"\/t="tuple":=by
 cases v with
 |ref a=>
  unfold Qi at h;simp only at h;split at h<;>first
   |(cases h;simp)
   |cases h
 |_=>first
  |(cases h;simp)
  |cases h
theorem IQ{K:Xm}(h:Qi H v=Δ t):mC K H v (.type t):=by
 cases v with
 |bz=>cases h;exact .bz|bl b=>cases h;exact .bl b|int i=>cases h;exact .int i|str x=>cases h;exact .str x|ref a=>
  unfold Qi at h;simp only at h;split at h;·rename_i xs e;cases h;exact .lst e
  ·rename_i xs e;cases h;exact .tup e
  ·cases h
 |_=>cases h
theorem rT K(ht:t="NoneType"\/t="bool"\/t="int"\/t="str"\/t="list"\/t="tuple")(hT:T="int"\/T="bool"\/T="tuple"\/T="str"\/T="list"):
  acp K (.type t) (.type T)=Δ (fh t T):=by
 rcases ht with rfl|rfl|rfl|rfl|rfl|rfl<;>rcases hT with rfl|rfl|rfl|rfl|rfl<;>first
  |rfl
  |kernel_rfl
section
variable{X:Cx}
theorem ba(h:H p=Θ)o:jj H (upd H p o):=λb u q=>by rw[ax (aM q h)];exact q
def KS:R2:=λx y H Q=>∃a b xs ys,x=.ref a/\y=.ref b/\H a=Δ (.tup xs)/\H b=Δ (.tup ys)/\xs.length+ys.length<=XE/\∀r H',jj H H'->H' r=Δ (.tup (xs++ys))->Q (.ref r) H'
theorem IS:j9 X (ZD .Add) KS:=by
 intro η s σ H x y v u Q I rx ry h;obtain⟨a,b,xs,ys,rfl,rfl,ha,hb,hz,q⟩:=h;cases rx;cases ry;obtain⟨its,r1,p1,_⟩:=I.tuple (fH.of ha);obtain⟨FA,r2,p2,_⟩:=I.tuple (fH.of hb);by_cases hx:xs=[]
 ·subst hx;cases r1;obtain⟨⟨cls,dd,data,sl⟩,ho,hc,n,hd⟩:=id p1;obtain⟨⟨UD,SS,data2,SU⟩,HJ,Mb,n2,hd2⟩:=id p2;simp only at hc hd Mb hd2;subst hc hd Mb hd2;exact acF ⟨_,ho,rfl⟩ ⟨_,HJ,rfl⟩ abV acy aaW aaP (aaD _ _)
   (tuple_addW0 a b ([]:List Value).toArray FA.toArray n n2 dd SS sl SU (by simp)) ⟨ho,HJ,⟨.ref b,H,I,rfl,q b H (jj.refl H) hb⟩⟩
 ·refine IA η s σ H (.ref a) (.ref b) _ _ Q I rfl rfl ⟨a,b,xs,ys,rfl,rfl,fH.of ha,fH.of hb,hx,hz,λe=>?_,λe p hp=>?_⟩;·subst e;exact q a H (jj.refl H) (by rw[Yf];exact ha)
  ·exact q p _ (ba hp _) aC
theorem lV{lo hi:Option Int}(ht:IsTup s.heap t items)(hs:s.heap.IsSliceOf sl vl vu .none)(pl:acb vl lo)(pu:acb vu hi)(hw:HT.cR items.size 0 lo=0/\HT.cR items.size items.size hi=items.size)(h:Q (.ref t) s):wpAny (model prog w) A (abg (.ref t) (.ref sl)) Q E s:=by
 obtain⟨os,Md,SV,PR⟩:=id hs;have UE:s.TypeIs (.ref sl) "slice":=⟨os,Md,SV⟩;unfold abg;try with_reducible refine ZX ?_
 first|refine W7 (Xn ?_)|skip
 refine W7 (wpAny_sequenceKey ht.typeIs (by decide) ?_);refine W7 (Yk (name:=Yh "__getitem__") ht.typeIs Zb
  (YN Zb ht.typeIs entry_tuple_getitem ?_ (args_tuple_getitem _ _)))
 show wpAny _ _ (abi.Tuple.tupleItemsOf (.ref t) >>=_) _ _ s;refine W7 (tupleItemsOf_ ht ?_);refine W7 (ab5 UE ?_);rw[if_pos (by decide)];refine W7 (HT.ji hs pl pu ?_);have U4:(((HT.cR items.size 0 lo:Nat):Int)==0&&(1:Int)==1&&(HT.cR items.size items.size hi - HT.cR items.size 0 lo)==items.size)=Λ:=by rw[hw.1,hw.2];simp
 show wpAny _ _ (if(((HT.cR items.size 0 lo:Nat):Int)==0&&(1:Int)==1&&(HT.cR items.size items.size hi - HT.cR items.size 0 lo)==items.size)=Λ then _ else _) _ _ s;rw[if_pos U4];refine W7 ?_;unfold abi.Tuple.tupleIsExact;refine W7 (ab5 ht.typeIs (Xn ?_));rw[if_pos (by decide)];first
  |exact W7 (aa7 (W7 (Xn (Xn ⟨_,rfl,Xn h⟩))))
  |exact W7 (aa7 (Xn ⟨_,rfl,Xn h⟩))
  |exact W7 (aa7 (Xn (Xn ⟨_,rfl,Xn h⟩)))
def Qj:V->Option Int->Option Int->Hp->VK->Prop:=λx lo hi H Q=>∃a xs,x=.ref a/\H a=Δ (.tup xs)/\∀r H',jj H H'->H' r=Δ (.tup (oY xs lo hi))->Q (.ref r) H'
theorem IT:KL X Qj:=by
 intro η s σ H x v vl vu lo hi sl Q I rx hs pl pu h;obtain⟨a,xs,rfl,ha,q⟩:=h;cases rx;by_cases hw:HT.cR xs.length 0 lo=0/\HT.cR xs.length xs.length hi=xs.length
 ·obtain⟨its,r,ht,hz⟩:=I.tuple (fH.of ha);have hlen:its.toArray.size=xs.length:=by rw[Xp];exact r.length.symm
  refine⟨"tuple",_,Zb.lookup,ht.typeIs,?_⟩;refine lV ht hs pl pu (by rw[hlen];exact hw) ⟨.ref a,H,I,rfl,q a H (jj.refl H) ?_⟩;have e:oY xs lo hi=xs:=by unfold oY;rw[hw.1,hw.2];simp
  rw[e];exact ha
 ·exact Me η s σ H (.ref a) _ vl vu lo hi sl Q I rfl hs pl pu ⟨a,xs,rfl,fH.of ha,hw,λp hp=>q p _ (ba hp _) aC⟩
theorem fQ:fillsNumberSlot (.type "tuple") "mul"=pure Ξ:=
 PySem.fillsNumberSlot_seq (id:="tuple.__mul__") (r:=Δ (.builtin "tuple.__rmul__")) aaV.lookup (by decide+kernel) PySem.F.slot_tuple_rmul.lookup (by decide+kernel)
theorem jO:seqRepeat? (.type "tuple")=pure (Δ (.builtin "tuple.__mul__")):=by unfold seqRepeat?;rw[PySem.seqSlot_of (T:="tuple") (name:="__mul__") (id:="tuple.__mul__") aaV.lookup (by decide+kernel),PySem.seqSlot_of (T:="tuple") (name:="__rmul__") (id:="tuple.__rmul__") PySem.F.slot_tuple_rmul.lookup (by decide+kernel)];rfl
theorem hZ a t l items n d sl:
  Meets (abi.«int.__rmul__» ⟨[.int a t,.ref l],[]⟩) (λ_ R s=>s.heap.get? l=Δ {cls:=.type "tuple",dict:=d,data:=.seq items n,slots:=sl}/\R (.ok (.ret Value.notImplemented)) s):=
 .of_wp λprog w A R s h=>by obtain⟨hp,g,d,tk,os⟩:=s;obtain⟨hl,h⟩:=h;wp_walk;exact⟨_,rfl,h⟩
theorem BD l items n d sl u(fi:¬items.isEmpty=Λ)(hz:items.size*2<=1000000):
  Meets (abi.«tuple.__mul__» ⟨[.ref l,.int 2 u],[]⟩) (λ_ R s=>s.heap.get? l=Δ {cls:=.type "tuple",dict:=d,data:=.seq items n,slots:=sl}/\
   R (.ok (.ret (XM s.heap.objs.size))) {s with heap:=s.heap.push {cls:=aac "tuple",data:=Data.seq (#[]++items++items)},toks:=s.toks}):=
 .of_wp λprog w A R s h=>by
  obtain⟨hp,g,dr,tk,os⟩:=s;obtain⟨hl,h⟩:=h;have f1:=ab4;have h1:¬((items.size:Int)*2 > (2 ^ 63 - 1) / 8):=by lia
  have h2:¬YJ ((items.size:Int)*2)=Λ:=by
   unfold YJ;simp[XE]
   lia
  have h3:(items.isEmpty||(2:Int)==1)=Ξ:=by simpa using fi
  have h4:((2:Int)<=0||items.isEmpty)=Ξ:=by simpa using fi
  wp_walk using YW hl
  rw[if_neg h1];show wpAny _ _ (if YJ ((items.size:Int)*2)=Λ then _ else _) _ _ _;rw[if_neg h2];have hsz:sizeOk (.seq (abA (λx1 x2=>x1++x2) #[] (X6 (ab3 2) items))):=by
   show(abA (λx1 x2=>x1++x2) #[] (X6 (ab3 2) items)).size<=XE;show(#[]++items++items).size<=XE;simp[XE]
   lia
  show wpAny _ _ (Yn (abA (λx1 x2=>x1++x2) #[] (X6 (ab3 2) items)) >>=λv=>ret v) _ _ _;exact W7 (m:=Yn _) (YE (Xn ⟨_,rfl,h⟩) hsz)
def KU:R2:=λx y H Q=>∃a xs,x=.ref a/\y=.int 2/\H a=Δ (.tup xs)/\xs≠[]/\xs.length<=100000/\∀p,H p=Θ->Q (.ref p) (upd H p (.tup (xs++xs)))
theorem FI:j9 X (ZD .Mult) KU:=by
 intro η s σ H x y v u Q I rx ry h;obtain⟨a,xs,rfl,rfl,ha,fi,hz,q⟩:=h;cases rx;obtain⟨t,rfl⟩:=ry;obtain⟨its,r,ht,Qk⟩:=I.tuple (fH.of ha);have hl:=r.length;obtain⟨⟨cls,dd,data,sl⟩,ho,hc,n,hd⟩:=id ht;simp only at hc hd;subst hc hd;have xx:¬its.toArray.isEmpty=Λ:=by
  intro z;have:its=[]:=by simpa using z
  exact fi (r.nz.mp this)
 refine aaz (T:="tuple") (U:="int") (by decide) ⟨_,ho,rfl⟩ (λs'=>aa8 s' 2 t) fQ aa5 Zc jO PySem.F.slot_int_index.lookup
  (aas Zc (aa8 s 2 t) aaX (aaQ _ _) (hZ 2 t a its.toArray n dd sl)
   ⟨ho,rfl,⟨_,ho,rfl⟩,aas aaV ⟨_,ho,rfl⟩ aaO (aaC _ _)
    (BD a its.toArray n dd sl t xx (by rw[Xp];lia)) ⟨ho,?_⟩⟩)
 refine⟨.ref s.heap.objs.size,_,I.laid (t':=s.toks) (o:=.tup (xs++xs)) (λb ob q=>Xa _ q) (Xj _) ?_,rfl,q _ (I.aJ.fresh (Xj _))⟩;refine⟨by rw[Xz,YH];lia,its++its,r.append r,?_⟩;have e:(#[]++its.toArray++its.toArray:Array Value)=(its++its).toArray:=by simp
 rw[e];exact acw _ _
noncomputable def KW:List DictEntry->Option (List (Str×Int))
 |[]=>Δ []|⟨_,.str x _,.int i _⟩::r=>(KW r).map λD=>(x,i)::D|_=>Θ
def U5(o:Obj):Option (List (Str×Int)):=match o with|⟨.type t,Θ,.dict es _,sl⟩=>if t="dict"/\sl=#[] then KW es.toList else Θ|_=>Θ
open PyProof.Rows.KTD in
structure Ql(K:Xm)(a:Addr)(D:List (Str×Int)):Prop where
 low:(a==Y5)=Ξ
 at_:∃o,K.lookup a=Δ o/\U5 o=Δ D
end
end L2
namespace L2
open PySem PySem.Spec PyProof.Rows PySem.SeqAt
open PySem.AutoSeq1 (wpAny_loadPart')
section
variable{X:Cx}
theorem any_range(bs:List Bool):(W8 bs.length).any (λi=>bs.getD i Λ)=bs.any id:=by
 rw[ZQ];simp only[Y1,Yl,id];constructor;·rintro⟨i,hi,h⟩;rw[Xd,Xc hi] at h;exact⟨bs[i],Ya hi,by simpa using h⟩
 ·rintro⟨b,hb,h⟩;obtain⟨i,hi,e⟩:=List.mem_iff_getElem.mp hb;refine⟨i,hi,?_⟩;rw[Xd,Xc hi];simpa[e] using h
theorem DT(hc:X.calm=Λ):hW X (.builtin "any") (λxs H Q=>∃(p:Addr) (bs:List Bool),xs=[.ref p]/\lT X.K H p (bs.map V.bl)/\Q (.bl (bs.any id)) H):=by
 intro η s σ H xs us Q I r h;obtain⟨p,bs,rfl,hq,q⟩:=h;obtain⟨u,rfl,rx⟩:=vals1 r;cases rx;obtain⟨its,rv,pl,hz⟩:=I.list hq;have hl:=rv.length;rw[Xf] at hl;have eZ:p < s.heap.objs.size:=by obtain⟨o,n,e,_⟩:=pl;exact Xs e
 refine call_any_walk (wpAny_pyIter_list pl.isList ?_);refine⟨s.heap.objs.size,_,_,its.toArray.size,_,_,λi=>bs.getD i Λ,rfl,Walks.list (A:=X.A.in1) (show X.A.in1.handled=Θ from I.ok.hd hc) s.heap.objs.size p (XR eZ) its.toArray,⟨⟨_,Xq _ rfl,rfl,rfl⟩,?_⟩,?_,?_⟩;·obtain⟨o,e,c⟩:=pl.isList;exact⟨o,Xa _ e,c⟩
 ·intro i v s' Q' E' hP hQ;have hP':its[i]?=Δ v:=by simpa using hP
  have hi:i < its.length:=(qqz hP').1;have hb:(bs.map V.bl)[i]?=Δ (V.bl (bs.getD i Λ)):=by rw[Xi,Xc (by lia),Xd,Xc (by lia)];rfl
  obtain⟨u,hu,ru⟩:=rv.get hb;rw[hP'] at hu;cases hu;cases ru;exact Y4 hQ
 ·intro h' tk hk;refine⟨.bl (bs.any id),H,I.kept (t':=tk) (λb o e=>hk b o (by simpa using XR (Xs e)) (Xa _ e)),?_,q⟩;show aaH _=aaH _;rw[Xp,<-hl,any_range]
theorem qU(hd:(d==Y5)=Ξ)(ho:∀s:Xv,s.heap.get? d=Δ o->True):
  MeetsIn prog w (abi.«dict.__len__» ⟨[.ref d],[]⟩) (λ_ R s=>(s.heap.get? d=Δ o/\o.ExactDict/\o.data=.dict es ep)/\R (.ok (.ret (.int es.size s.toks))) {s with toks:=s.toks+1}):=
 .of_wp λA R s ⟨⟨ho,hc,Mt⟩,h⟩=>by show wpAny _ _ (dictSize d >>=_) _ _ s;unfold dictSize;refine W7 (W7 (wpAny_dictEntries ho Mt (Xn ?_)));show wpAny _ _ (abi.Dict.pendingCount d >>=_) _ _ s;refine W7 (wpAny_pendingCount_other hd ?_);refine wpAny_ret_mkInt ?_;rw[Nat.add_zero];exact h
theorem xy(hd:(d==Y5)=Ξ)(ho:s.heap.get? d=Δ o)(hc:o.ExactDict)(Mt:o.data=.dict es ep)(hfit:(es.size:Int) < 2 ^ 63)(h:Q (.int es.size (s.toks+1)) {s with toks:=s.toks+1+1}):wpAny (model prog w) A (call (.builtin "len") [.ref d]) Q E s:=by
 have hT:s.TypeIs (.ref d) "dict":=⟨o,ho,hc.1⟩;refine Calls.call_function_entry kind_len plain_len entry_len (args_len1 _) ?_;unfold abi.«len»;refine W7 (m:=oneArg "len" _) (Xn ?_);refine W7 (m:=callSpecial? (.ref d) (Yh "__len__")) (Yk (name:=Yh "__len__") hT F.slot_dict_len
  (abv F.slot_dict_len hT F.entry_dict_len (F.args_dict_len_1 _) (qU (o:=o) (es:=es) (ep:=ep) hd λ_ _=>trivial) ⟨⟨ho,hc,Mt⟩,?_⟩))
 show wpAny _ _ _ _ _ {s with toks:=s.toks+1};refine W7 (ZX (Xn ?_));refine W7 (abC ?_);show wpAny _ _ (if((es.size:Nat):Int) < 0 then _ else _) _ _ _;rw[if_neg (by lia)];show wpAny _ _ (if((es.size:Nat):Int)>=2 ^ 63 then _ else _) _ _ _;rw[if_neg (by lia)];exact W7 (wpAny_mkInt (Xn ⟨_,rfl,h⟩))
def Qm(H:Hp)(a:Addr)(n:Nat):Prop:=(∃kvs,Rd H a (.dK kvs)/\kvs.length=n)\/∃kvs,Rd H a (.dT kvs)/\kvs.length=n
theorem xA:hW X (.builtin "len") (λxs H Q=>∃p n,xs=[.ref p]/\Qm H p n/\Q (.int n) H):=by
 intro η s σ H xs us Q I r h;obtain⟨p,n,rfl,hd,q⟩:=h;obtain⟨u,rfl,rx⟩:=vals1 r;cases rx;rcases hd with ⟨kvs,e,rfl⟩|⟨kvs,e,rfl⟩
 ·exact P7 I e λt s' I'=>⟨.int kvs.length,H,I',⟨t,rfl⟩,q⟩
 ·obtain⟨z,hd,xs,rel,o,es,ep,h1,h2,h3,h4,_⟩:=qr I.aJ e;have hl:es.size=kvs.length:=by
   have:es.toList.length=xs.length:=by rw[h4,Xf]
   rw[<-Zs,this,<-rel.length]
  refine xy hd h1 h2 h3 (by rw[YH] at z;lia) ?_;rw[hl];exact⟨.int kvs.length,H,I.tok _,⟨_,rfl⟩,q⟩
theorem nI(hT:vg.TypeIs o "dict")(kD:wpAny (model prog w) A (abg o i) Q E vg)(hs:acm slice Ξ o i=operate [o,i] (abg o i)):wpAny (model prog w) A (abN value slice o i) Q E vg:=by
 unfold abN;refine W7 ?_;rw[getitemInPython_of_ne hT.not_modules];refine W7 (ace hT PySem.F.slot_dict_getitem.lookup ?_);have fin:wpAny (model prog w) A (acm slice Ξ o i) (λr DP=>wpAny (model prog w) A (letTemporaryGo value o r >>=λ_=>pure r) Q E DP) E vg:=by rw[hs];exact wpAny_operating (YY kD (λr DP ja=>W7 (wpAny_letTemporaryGo (Xn ja))) λ_ _ x=>x)
 first
  |exact Xn (W7 fin)
  |exact W7 (Xn (W7 fin))
  |exact W7 fin
theorem zj:hW X (.type "range") (λxs H Q=>∃lo hi,(xs=[.int lo,.int hi]\/(lo=0/\xs=[.int hi]))/\∀p,H p=Θ->Q (.ref p) (upd H p (.fZ lo hi))):=by
 intro η s σ H xs us Q I r h;obtain⟨lo,hi,hx,q⟩:=h;rcases hx with rfl|⟨rfl,rfl⟩;·obtain⟨u,w',rfl,rx,ry⟩:=vals2 r;obtain⟨t,rfl⟩:=rx;obtain⟨t',rfl⟩:=ry;refine call_range_2 ⟨.ref s.heap.objs.size,_,I.laid (a:=s.heap.objs.size) (o:=.fZ lo hi) (λb o e=>Xa _ e) (Xj _) ⟨_,_,_,Xq _ rfl⟩,rfl,q _ (I.aJ.fresh (Xj _))⟩
 ·obtain⟨u,rfl,rx⟩:=vals1 r;obtain⟨t,rfl⟩:=rx;refine call_range_1 ⟨.ref s.heap.objs.size,_,I.laid (a:=s.heap.objs.size) (o:=.fZ 0 hi) (λb o e=>Xa _ e) (Xj _) ⟨_,_,_,Xq _ rfl⟩,rfl,q _ (I.aJ.fresh (Xj _))⟩
def BE(lo:Int)(n:Nat):List V:=(W8 n).map λk=>.int (lo+(k:Nat))
theorem FJ{lo:Int}:∀{acc} {n},acc.length=n->(∀(j:Nat) v,acc[j]?=Δ v->∃t,v=.int (lo+j*1) t)->aS (BE lo n) acc:=by
 intro acc n hl h
 suffices ∀(k:Nat) (gW:List Value),gW.length+k=n->(∀(j:Nat) v,gW[j]?=Δ v->∃t,v=.int (lo+((k+j:Nat):Int)) t)->aS ((List.range' k gW.length).map λi=>V.int (lo+(i:Nat))) gW by
  have q:=this 0 acc (by lia) λj v hj=>by obtain⟨t,e⟩:=h j v hj;exact⟨t,by rw[e];congr 1<;>simp⟩
  unfold BE;rw[List.range_eq_range',<-hl];exact q
 intro k gW;induction gW generalizing k with
 |nil=>intro _ _;exact .nil|cons x xs ih=>
  intro hn hx;rw[Xt,List.range'_succ,Xo];refine .cons ?_ ?_;·obtain⟨t,e⟩:=hx 0 x rfl;exact⟨t,by rw[e];simp⟩
  ·refine ih (k+1) (by rw[Xt] at hn;lia) λj v hj=>?_;obtain⟨t,e⟩:=hx (j+1) v (by simpa using hj);exact⟨t,by rw[e];congr 1;lia⟩
theorem vm(hc:X.calm=Λ):hW X (.type "list") (λxs H Q=>∃p lo hi,xs=[.ref p]/\H p=Δ (.fZ lo hi)/\(-(2 ^ 62)<=lo/\lo < 2 ^ 62/\ -(2 ^ 62)<=hi/\hi < 2 ^ 62)/\(hi - lo).toNat<=XE/\
  ∀l,H l=Θ->Q (.ref l) (upd H l (.lst (BE lo (hi - lo).toNat)))):=by
 intro η s σ H xs us Q I r h;obtain⟨p,lo,hi,rfl,hp,⟨h1,h2,h3,h4⟩,hz,q⟩:=h;obtain⟨u,rfl,rx⟩:=vals1 r;cases rx;obtain⟨t,u,v,e⟩:=(show bG X.prog X.w H s.heap p (.fZ lo hi) from I.aJ p _ hp);refine call_list_range (n:=(hi - lo).toNat) (I.ok.hd hc) (show IsRange s.heap p lo hi 1 t u v from e) (small_one h1 h2 h3 h4) (by rw[rangeSize_one];split<;>lia) (by rw[YH] at hz;lia) λh' tk gW c' hk hS wa=>?_;obtain⟨i1,i2⟩:=wa;have hv:aS (BE lo (hi - lo).toNat) gW.toList:=FJ (by rw[Zs];exact i1) λj v hj=>i2 j v (by simpa using hj);have hlen:=hv.length;refine⟨.ref s.heap.objs.size,_,I.laid (a:=s.heap.objs.size) (o:=.lst (BE lo (hi - lo).toNat)) (t':=tk) hk (Xj _) ⟨by unfold BE;rw[Xf,XS];exact hz,gW.toList,c',hv,by simpa using hS⟩,rfl,q _ (I.aJ.fresh (Xj _))⟩
theorem BF l items n d sl u(fi:¬items.isEmpty=Λ)(hz:items.size*3<=1000000):
  Meets (abi.«tuple.__mul__» ⟨[.ref l,.int 3 u],[]⟩) (λ_ R s=>s.heap.get? l=Δ {cls:=.type "tuple",dict:=d,data:=.seq items n,slots:=sl}/\
   R (.ok (.ret (XM s.heap.objs.size))) {s with heap:=s.heap.push {cls:=aac "tuple",data:=Data.seq (#[]++items++items++items)},toks:=s.toks}):=
 .of_wp λprog w A R s h=>by
  obtain⟨hp,g,dr,tk,os⟩:=s;obtain⟨hl,h⟩:=h;have f1:=ab4;have h1:¬((items.size:Int)*3 > (2 ^ 63 - 1) / 8):=by lia
  have h2:¬YJ ((items.size:Int)*3)=Λ:=by
   unfold YJ;simp[XE]
   lia
  have h3:(items.isEmpty||(3:Int)==1)=Ξ:=by simpa using fi
  have h4:((3:Int)<=0||items.isEmpty)=Ξ:=by simpa using fi
  wp_walk using YW hl
  rw[if_neg h1];show wpAny _ _ (if YJ ((items.size:Int)*3)=Λ then _ else _) _ _ _;rw[if_neg h2];have hsz:sizeOk (.seq (abA (λx1 x2=>x1++x2) #[] (X6 (ab3 3) items))):=by
   show(abA (λx1 x2=>x1++x2) #[] (X6 (ab3 3) items)).size<=XE;show(#[]++items++items++items).size<=XE;simp[XE]
   lia
  show wpAny _ _ (Yn (abA (λx1 x2=>x1++x2) #[] (X6 (ab3 3) items)) >>=λv=>ret v) _ _ _;exact W7 (m:=Yn _) (YE (Xn ⟨_,rfl,h⟩) hsz)
def KY:R2:=λx y H Q=>∃a xs,x=.ref a/\y=.int 3/\H a=Δ (.tup xs)/\xs≠[]/\xs.length<=100000/\∀p,H p=Θ->Q (.ref p) (upd H p (.tup (xs++xs++xs)))
theorem FK:j9 X (ZD .Mult) KY:=by
 intro η s σ H x y v u Q I rx ry h;obtain⟨a,xs,rfl,rfl,ha,fi,hz,q⟩:=h;cases rx;obtain⟨t,rfl⟩:=ry;obtain⟨its,r,ht,Qk⟩:=I.tuple (fH.of ha);have hl:=r.length;obtain⟨⟨cls,dd,data,sl⟩,ho,hc,n,hd⟩:=id ht;simp only at hc hd;subst hc hd;have xx:¬its.toArray.isEmpty=Λ:=by
  intro z;have:its=[]:=by simpa using z
  exact fi (r.nz.mp this)
 refine aaz (T:="tuple") (U:="int") (by decide) ⟨_,ho,rfl⟩ (λs'=>aa8 s' 3 t) fQ aa5 Zc jO PySem.F.slot_int_index.lookup
  (aas Zc (aa8 s 3 t) aaX (aaQ _ _) (hZ 3 t a its.toArray n dd sl)
   ⟨ho,rfl,⟨_,ho,rfl⟩,aas aaV ⟨_,ho,rfl⟩ aaO (aaC _ _)
    (BF a its.toArray n dd sl t xx (by rw[Xp];lia)) ⟨ho,?_⟩⟩)
 refine⟨.ref s.heap.objs.size,_,I.laid (t':=s.toks) (o:=.tup (xs++xs++xs)) (λb ob q=>Xa _ q) (Xj _) ?_,rfl,q _ (I.aJ.fresh (Xj _))⟩;refine⟨by rw[Xz,Xz,YH];lia,its++its++its,(r.append r).append r,?_⟩;have e:(#[]++its.toArray++its.toArray++its.toArray:Array Value)=(its++its++its).toArray:=by simp
 rw[e];exact acw _ _
theorem BG l items n d sl u:
  Meets (abi.«tuple.__mul__» ⟨[.ref l,.int 1 u],[]⟩) (λ_ R s=>s.heap.get? l=Δ {cls:=.type "tuple",dict:=d,data:=.seq items n,slots:=sl}/\R (.ok (.ret (XM l))) s):=
 .of_wp λprog w A R s h=>by
  obtain⟨hp,g,dr,tk,os⟩:=s;obtain⟨hl,h⟩:=h;have f1:=ab4;have h3:(items.isEmpty||(1:Int)==1)=Λ:=by simp
  wp_walk using YW hl
  all_goals exact⟨_,rfl,h⟩
def KZ:R2:=λx y H Q=>∃a xs,x=.ref a/\y=.int 1/\H a=Δ (.tup xs)/\Q (.ref a) H
theorem FO:j9 X (ZD .Mult) KZ:=by
 intro η s σ H x y v u Q I rx ry h;obtain⟨a,xs,rfl,rfl,ha,q⟩:=h;cases rx;obtain⟨t,rfl⟩:=ry;obtain⟨its,r,ht,Qk⟩:=I.tuple (fH.of ha);obtain⟨⟨cls,dd,data,sl⟩,ho,hc,n,hd⟩:=id ht;simp only at hc hd;subst hc hd;refine aaz (T:="tuple") (U:="int") (by decide) ⟨_,ho,rfl⟩ (λs'=>aa8 s' 1 t) fQ aa5 Zc jO PySem.F.slot_int_index.lookup
  (aas Zc (aa8 s 1 t) aaX (aaQ _ _) (hZ 1 t a its.toArray n dd sl)
   ⟨ho,rfl,⟨_,ho,rfl⟩,aas aaV ⟨_,ho,rfl⟩ aaO (aaC _ _)
    (BG a its.toArray n dd sl t) ⟨ho,?_⟩⟩)
 exact⟨.ref a,H,I,rfl,q⟩
def Mu(K:Xm):V->List V->Hp->VK->Prop:=λx vs H Q=>∃(l:Addr) (ns:List Int) (k:Int),x=.ref l/\vs=[.int k]/\lT K H l (ns.map V.int)/\k∈ns/\Q (.int (ns.idxOf k:Nat)) H
theorem zk:∀{ns} {us},aS (ns.map V.int) us->acL us ns
 |[],us,h=>by rw[Zi] at h;cases h;exact .nil|n::ns,us,h=>by rw[Xo] at h;cases h with|cons h t=>obtain⟨tk,rfl⟩:=h;exact .cons n tk (zk t)
theorem FP:UN X "list.index" (Mu X.K):=by
 intro η s σ H x vs v us Q I rx rv h;obtain⟨l,ns,k,rfl,rfl,hH,hk,q⟩:=h;cases rx;obtain⟨u,rfl,ru⟩:=rv.one;obtain⟨t,rfl⟩:=ru;obtain⟨its,r,pl,hz⟩:=I.list hH;have hi:=zk r;obtain⟨⟨cls,dd,data,sl⟩,ho,hc,n,hd⟩:=id pl.isList;simp only at hc hd;subst hc hd;have hlen:=hi.length;have hj:ns.idxOf k < ns.length:=List.idxOf_lt_length_iff.mpr hk;rw[Xf,YH] at hz;refine aas PySem.F.slot_list_index ⟨_,ho,rfl⟩ PySem.F.entry_list_index (PySem.F.args_list_index_2 _ _)
  (list_indexAt l its.toArray n dd sl (.int k t) (isInt k) (ns.idxOf k) (by simpa[hlen] using hj) (by lia) ?_ ?_) ⟨ho,λy hy=>(eq_isInt k t hi y (by simpa using hy)).at _ _,⟨.int (ns.idxOf k:Nat),H,I.tok _,⟨_,rfl⟩,q⟩⟩
 ·show isInt k its[ns.idxOf k]=Λ;rw[isInt_at k hi _ (by lia) hj];simpa using aaK hj
 ·intro j U6 eZ;show isInt k its[j]=Ξ;rw[isInt_at k hi j (by simpa using U6) (by lia)];exact ne_of_lt_idxOf eZ _
end
end L2
namespace L2
open PySem PySem.Spec PyProof.Rows
section
variable{X:Cx}{elt iter tg:Expr}{ifs:List Expr}{sc:Scope}{pos:Pos}{N:List Str}{ts:Nat}{js:List Nat}{wi:TI}{g:TG}{tc:TT}{te:TE}
theorem sU(hc:X.calm=Λ)(B:jN X N ts js sc)(hi:PI X tg iter wi)(hg:∀η fp C s H,PG (mF X η N sc fp C s H) tg g)(ht:∀η fp C s H,FH (mF X η N sc fp C s H) ifs tc)(he:∀η fp C s H,PE (mF X η N sc fp C s H) elt te)(hs:∀x,abD iter X.env x=pure x)(hsw:X.Ok->aav (.ListComp elt [⟨tg,iter,ifs,0⟩] sc pos) (Δ (.Name y py)) U7.line X.env=pure Λ)(hgt:PG X (.Name y py) gt):
  PS X (.Assign [.Name y py] (.ListComp elt [⟨tg,iter,ifs,0⟩] sc pos) U7) (λD σ H=>zh wi g tc te ts js σ H λv H1=>gt v σ H1 D.nx):=by
 intro η s σ H D I h;rw[exec_Assign_Name_used _ _ _ _ (hsw I.ok)];refine W7 (acx (W7 ?_));show wpAny _ X.A (do let _<-comprehension (.ListComp elt [⟨tg,iter,ifs,0⟩] sc pos) sc X.env _ (newList []) Ξ (eval iter X.env) (Δ (ac1 (.Name y py) X.env))) _ _ s;refine W7 (YY (wpAny_comprehension_free (use:=Δ (ac1 (.Name y py) X.env)) (Q:=λ_ s'=>SP X η D .next s') rfl hs (sR (B.cl I.ok)) B.kind B.names
  (bS (hi η s σ H _ I h) λv s1 h1=>bS h1 λSK s2 h2=>?_)) (λ_ s' hq=>Xn (Xn hq)) λ_ _ e=>e)
 obtain⟨it,fp,tn,J,H2,e,I2,T,st2,f2,rS⟩:=h2;subst e;have DS:H2 s2.heap.objs.size=Θ:=I2.aJ.fresh (Xj _);obtain⟨W,⟨m0,w0⟩,turn⟩:=rS s2.heap.objs.size DS;refine YE (aar B.fP (by intro y hy;simp at hy) (λdB Bz BA=>?_) B.kind);obtain⟨s3,IL⟩:∃s3:Xv,({s2 with heap:=s2.heap.push {cls:=.type "list",dict:=Θ,data:=.seq ([]:List Value).toArray}}:Xv)=s3:=⟨_,rfl⟩;have e3:s3.heap=s2.heap.push {cls:=.type "list",dict:=Θ,data:=.seq ([]:List Value).toArray}:=by rw[<-IL]
 have BB:dB.Ns s3.heap.objs.size λx=>([]:List (Str×Value)).reverse.lookup x:=by rw[e3];exact Bz
 have BC:ZW s3.heap.objs.size (s3.heap.push {cls:=.type (if(Δ X.env).isSome then "dict" else "frame"),data:=.dict #[]}) dB:=by rw[e3];exact BA
 have I3:Inv X η σ (upd H2 s2.heap.objs.size (.lst [])) s3:=by rw[<-IL];exact I2.laid (t':=s2.toks) (λb u e=>Xa _ e) (Xj _) ⟨Yq _,[],0,.nil,Xq _ rfl⟩
 have Qf:∀b∈fp,b < s2.heap.objs.size:=λb hb=>by obtain⟨o,e,_⟩:=T.obj _ _ st2 b hb;exact Xs e
 have f3:∀b∈fp,mz X η (upd H2 s2.heap.objs.size (.lst [])) b:=λb hb=>⟨by rw[ax (XR (Qf b hb))];exact(f2 b hb).1,(f2 b hb).2⟩;have UU:s2.heap.objs.size < s3.heap.objs.size:=by rw[e3,YI];exact YZ _
 have Qg:∀b∈fp,b < s3.heap.objs.size:=λb hb=>aaZ (Qf b hb) UU;have k1:∀b o,s3.heap.get? b=Δ o->dB.get? b=Δ o:=λb o e=>BC.extBut b o (XR (Xs e)) (Xa _ e);have IB:=I3.block (tk:=s3.toks+([]:List (Str×Value)).length) (N:=N) B f3 Qg BB k1;have ma:tn 0 dB:=T.keep _ _ _ st2 λb hb o e=>k1 b o (by rw[e3];exact Xa _ e);have sE:∀{H':Hp},(∀b∈fp,H' b=Θ)->∀b∈fp,mz (mF X η N sc fp s3.heap.objs.size s3 (upd H2 s2.heap.objs.size (.lst []))) [] H' b:=λhn b hb=>⟨hn b hb,XR (Qg b hb),I3.US (f3 b hb),.inl hb,λx c h=>(f3 b hb).2.2.2.2.1 x c (B.get I3.ok h),λp hp=>(f3 b hb).2.2.2.2.2 p (by simpa[mF] using hp)⟩;have loop:abh (model X.prog X.w) X.A (.compLoop (.ListComp elt [⟨tg,iter,ifs,0⟩] sc pos) 0 (.ref it) (.ref s2.heap.objs.size) (compEnvC sc (dM X.env sc.names []) s3.heap.objs.size X.env))
   (compPost (model X.prog X.w) X.A X.xe (Δ (ac1 (.Name y py) X.env)) (λ_ s'=>SP X η D .next s') (.ref s2.heap.objs.size) s3.heap.objs.size) {s3 with heap:=dB,toks:=s3.toks+([]:List (Str×Value)).length}:=by
  refine v9 (λn s'=>∃i τ H',Inv (mF X η N sc fp s3.heap.objs.size s3 (upd H2 s2.heap.objs.size (.lst []))) [] τ H' s'/\tn i s'.heap/\(∀b∈fp,H' b=Θ)/\W i n τ H') ?_ m0
   ⟨0,iO ts js σ,_,IB,ma,λb hb=>(f3 b hb).1,w0⟩
  rintro n s5 ⟨i,τ,H5,I5,Be,LS,w5⟩;rcases turn i n τ H5 w5 with ⟨stop,qn⟩|⟨go,step⟩
  ·refine bS (T.done (mF X η N sc fp s3.heap.objs.size s3 (upd H2 s2.heap.objs.size (.lst []))) rfl rfl rfl hc i [] s5 τ H5 (λ_ _=>False) I5 (sE LS) Be stop) λr s6 ⟨hr,I6⟩=>?_;subst hr;obtain⟨m,hn,_⟩:=I6.loc;have IO:Inv X η σ H5 s6:=I3.zi (h'':=s6.heap) f3 I6 ⟨rfl,λ_ _=>rfl⟩;have fC:mz X η H5 s3.heap.objs.size:=I3.xi (Xj _) I6.free;obtain⟨oC,esC,epC,eC,dC,rC⟩:=id hn;have IOp:=IO.pinned (fp:=[s3.heap.objs.size]) (λb hb=>by rw[Yg.mp hb];exact fC) λb hb=>by rw[Yg.mp hb];exact⟨oC,eC,λv z=>by rw[dC] at z;cases z⟩
   refine bS (hgt _ s6 σ H5 (.ref s2.heap.objs.size) (.ref s2.heap.objs.size) D.nx IOp rfl qn) λ_ s8 ⟨σ8,H8,I8,q8⟩=>?_;obtain⟨pC,fC8,_⟩:=I8.pin (s3.heap.objs.size,oC) (XQ _ (XQ _ (eV (by simp) eC)));refine⟨m,hn.at' λo e=>?_,λh' sT=>⟨σ8,H8,?_,q8⟩⟩;·rw[eC] at e;cases e;exact pC
   ·exact(I8.jh).turned (it:=s3.heap.objs.size) (t':=s8.toks) (λb o hb e=>sT.extBut b o hb e) fC8 fC.2.1 fC.2.2.2.1 fC.2.2.2.2.1 fC.2.2.2.2.2
  ·refine bS (T.item (mF X η N sc fp s3.heap.objs.size s3 (upd H2 s2.heap.objs.size (.lst []))) rfl rfl rfl hc i [] s5 τ H5 (λ_ _=>False) I5 (sE LS) Be go) λr s6 ⟨u,hr,h6⟩=>?_;subst hr;refine bS h6 λ_ s7 ⟨x,H7,I7,r7,y7,Mr,UW⟩=>?_;have UX:=I7.pinned (sE UW) (T.obj _ _ Mr);refine bS (hg _ _ _ _ _ _ s7 τ H7 x u _ UX r7 (step x H7 y7)) λ_ s8 ⟨IM,H8,I8,q8⟩=>?_;refine bS (ht _ _ _ _ _ _ s8 IM H8 _ I8 q8) λok s9 ⟨H9,I9,q9⟩=>?_;have again:∀{s':Xv} {IP:St} {H':Hp},Inv (mF X η N sc fp s3.heap.objs.size s3 (upd H2 s2.heap.objs.size (.lst []))) ([]++oU fp s7.heap) IP H' s'->(∃m',m' < n/\W (i+1) m' IP H')->
     ∃m,m < n/\∃i τ H',Inv (mF X η N sc fp s3.heap.objs.size s3 (upd H2 s2.heap.objs.size (.lst []))) [] τ H' s'/\tn i s'.heap/\(∀b∈fp,H' b=Θ)/\W i m τ H':=λ{s' IP H'} I' ⟨m',hm,w'⟩=>by
    refine⟨m',hm,i+1,IP,H',I'.jh,T.keep _ _ _ Mr λb hb o e=>(I'.pin (b,o) (XQ _ (XQ _ (eV hb e)))).1,λb hb=>?_,w'⟩;obtain⟨o,e,d⟩:=T.obj _ _ Mr b hb;exact(I'.pin (b,o) (XQ _ (XQ _ (eV hb e)))).2.1
   cases ok with|false=>exact again I9 q9|true=>refine bS (he _ _ _ _ _ _ s9 IM H9 _ I9 q9) λxv Qh ⟨y,UY,UZ,U0,ys,ha,hz,U1⟩=>?_;refine bS (oZ _ Qh IM UY (.ref s2.heap.objs.size) [y] (.ref s2.heap.objs.size) [xv] (λ_ H'=>∃m',m' < n/\W (i+1) m' IM H') UZ rfl (.cons U0 .nil) ⟨_,ys,y,rfl,rfl,ha,hz,U1⟩) λ_ s11 ⟨_,H11,U2,_,U3⟩=>?_;exact again U2 U3
 subst IL;exact codeAny_compStart_list loop (T.self _ 0 _ _ _ ma loop)
end
section
variable{prog:Yi}{w:World}{A:YO}{E:Value->Xv->Prop}{s:Xv}
theorem nJ{items}(hit:s.heap.IsTupleIter it t i)(ht:s.heap.IsTuple t items)(hx:items[i]?=Δ x)(hQ:∀h',h'.IsTupleIter it t (i+1)->ZW it s.heap h'->Q x {s with heap:=h'}):
  wpAny (model prog w) A (XX (.ref it)) Q E s:=by
 obtain⟨o,ho,hc,hd⟩:=id hit;obtain⟨ol,U8,_,nl,Qn⟩:=ht;unfold XX;refine W7 (Yk (name:=Yh "__next__") hit.typeIs Y6
  (YN Y6 hit.typeIs PySem.F.entry_tuple_iterator_next ?_ (PySem.F.args_tuple_iterator_next_1 _)))
 show wpAny _ _ (field (.ref it) 0 >>=_) _ _ s;refine W7 (YC ho hd (x:=.ref t) rfl ?_);show wpAny _ _ (if(XM t==Zg)=Λ then _ else _) _ _ s;rw[if_neg (show ¬((XM t==Zg)=Λ) from Yc)];show wpAny _ _ (field (.ref it) 1 >>=_) _ _ s;refine W7 (YC ho hd (x:=.int i 0) rfl ?_);show wpAny _ _ (seqItems? (.ref t) >>=_) _ _ s;refine W7 (Zk U8 Qn ?_);simp only[aa1,hx];refine W7 (wpAny_setField ho hd (by simp) (Xn ⟨x,rfl,Xn (hQ _ ?_ (ZW.update ..))⟩));exact⟨_,Zd _ ho (Obj.isFreed_of_fields (Obj.data_mapFields hd _)),(Obj.cls_mapFields ..).trans hc,by rw[Obj.data_mapFields hd];simp[Zl]⟩
theorem jk{items}(hh:A.handled=Θ)(hit:s.heap.IsTupleIter it t i)(ht:s.heap.IsTuple t items)(hx:items[i]?=Θ)(hE:∀h' e,Heap.ExtBut it s.heap h'->(∃o,h'.get? e=Δ o/\o.cls=.type "StopIteration")->E (.ref e) {s with heap:=h'}):
  wpAny (model prog w) A (XX (.ref it)) Q E s:=by
 obtain⟨o,ho,hc,hd⟩:=id hit;obtain⟨ol,U8,_,nl,Qn⟩:=ht;unfold XX;refine W7 (Yk (name:=Yh "__next__") hit.typeIs Y6
  (YN Y6 hit.typeIs PySem.F.entry_tuple_iterator_next ?_ (PySem.F.args_tuple_iterator_next_1 _)))
 show wpAny _ _ (field (.ref it) 0 >>=_) _ _ s;refine W7 (YC ho hd (x:=.ref t) rfl ?_);show wpAny _ _ (if(XM t==Zg)=Λ then _ else _) _ _ s;rw[if_neg (show ¬((XM t==Zg)=Λ) from Yc)];show wpAny _ _ (field (.ref it) 1 >>=_) _ _ s;refine W7 (YC ho hd (x:=.int i 0) rfl ?_);show wpAny _ _ (seqItems? (.ref t) >>=_) _ _ s;refine W7 (Zk U8 Qn ?_);simp only[aa1,hx];refine W7 (aa7 (W7 (wpAny_setField ho hd (by simp) ?_)));show wpAny _ _ (newExc (.type "StopIteration") [] >>=_) _ _ _;refine W7 ?_;simp only[newExc,newTuple];refine W7 (YE ?_ (by size_fits));refine W7 (m:=firstArgMember _ _) (wpAny_of_eq (a:=Zg) (by first|rfl|(simp only[firstArgMember];rfl)) ?_);refine YE ?_ (by size_fits);simp only[raiseNew];refine W7 (wpAny_handled ?_);first|rw[show A.in1.handled=Θ from hh]|rw[hh]
 refine W7 (Xn (wpAny_throw ?_));exact hE _ _ (((ZW.update ..).extBut.push _).push _) ⟨_,Xq _ rfl,rfl⟩
end
theorem kE{prog:Yi}{w:World}{A:YO}(hh:A.handled=Θ)(it l:Addr)(fi:l≠it)(items:Array Value):
  Draws prog w A it [it,l] items.size (λi v=>items[i]?=Δ v) (λi h=>h.IsTupleIter it l i/\h.IsTuple l items) where
 live:=λ_ _ st=>let ⟨o,ho,_⟩:=st.1;⟨o,ho⟩
 frame:=λ_ _ _ st hk=>⟨st.1.at λo e=>hk it (by simp) o e,let ⟨o,ho,r⟩:=st.2;⟨o,hk l (by simp) o ho,r⟩⟩
 item:=λi s Q E hi st hQ=>by refine nJ st.1 st.2 (x:=items[i]) (by simp[hi]) λh' U9 sT=>?_;exact hQ _ h' s.toks (by simp[hi]) ⟨U9,st.2.extBut sT.extBut fi⟩ sT
 done:=λs Q E st hE=>jk hh st.1 st.2 (by simp) hE
abbrev yJ(h:Heap)(z TI TO:Addr)(f0 f1:Value):Prop:=
 h.get? z=Δ {cls:=.type "zip",dict:=Θ,data:=.fields #[f0,f1,.bool Ξ,.ref TI,.ref TO],slots:=#[]}
noncomputable def ZF(f0 f1:Value):Prop:=(f0=.none\/∃(T:Int) (t:Tok),f0=.int T t)/\∃b,f1=.bool b
structure IU(z TI TO i1 i2:Addr)(o7 o8:List Addr):Prop where
 TIz:TI≠z
 TOz:TO≠z
 i1z:i1≠z
 i2z:i2≠z
 TITO:TI≠TO
 TIi1:TI≠i1
 TIi2:TI≠i2
 TOi1:TO≠i1
 TOi2:TO≠i2
 i12:i1≠i2
 z1:z∉o7
 z2:z∉o8
 T1:TO∉o7
 T2:TO∉o8
 x1:i2∉o7
 x2:i1∉o8
section
variable{prog:Yi}{w:World}{A:YO}{E:Value->Xv->Prop}{s:Xv}{z TI TO i1 i2:Addr}{o7 o8:List Addr}{n1 n2:Nat}{P1 P2:Nat->Value->Prop}{vn vo:Nat->Heap->Prop}
theorem zl(h:Q (s.heap.get? a) s):wpAny M A (loadIfAlive a) Q E s:=λΓ p _=>by unfold loadIfAlive;rw[Sem.wp_loadIfAlive];exact Xn (M:=M) (A:=A) (E:=E) (Q:=Q) h Γ p (by assumption)
theorem K0(hf:ZF f0 f1)(hz:yJ s.heap z TI TO f0 f1)(h1:Q Λ s)(h2:∀h',yJ h' z TI TO f0 (.bool Λ)->ZW z s.heap h'->Q Ξ {s with heap:=h'}):
  wpAny (model prog w) A (YV (.ref z)) Q E s:=by
 unfold YV;refine W7 (YC hz rfl (x:=f0) rfl ?_);obtain⟨hf0,b,rfl⟩:=hf;rcases hf0 with rfl|⟨T,t,rfl⟩;·exact Xn h1
 ·dsimp only;refine W7 (zl ?_);cases s.heap.get? T.toNat with|none=>exact Xn h1|some o=>show wpAny _ _ (field (.ref z) 1 >>=_) _ _ _;refine W7 (YC hz rfl (x:=.bool b) rfl ?_);cases b with|true=>exact Xn (h2 s.heap hz ⟨rfl,λ_ _=>rfl⟩)|false=>show wpAny _ _ (setField (.ref z) 1 (.bool Λ) >>=_) _ _ _;exact W7 (Zf hz (by simp) λdB jm dS=>Xn (h2 dB jm dS))
theorem FQ(D1:Draws prog w A i1 o7 n1 P1 vn)(D2:Draws prog w A i2 o8 n2 P2 vo)(ap:IU z TI TO i1 i2 o7 o8){Q:Value->Xv->Prop}(hf:ZF f0 f1)(hz:yJ s.heap z TI TO f0 f1)(Mv:ZG s.heap TI (.ref i1) (.ref i2))(K3:ZG s.heap TO a b)(vp:k < n1)(wb:k < n2)(h1:vn k s.heap)(h2:vo k s.heap)(hQ:∀h' tk T x y f0 f1 a b,ZF f0 f1->yJ h' z TI TO f0 f1->ZG h' TO a b->vn (k+1) h'->vo (k+1) h'->P1 k x->P2 k y->s.heap.objs.size<=T->ZG h' T x y->
   (∀c o,c≠z->c≠TO->c≠i1->c≠i2->s.heap.get? c=Δ o->h'.get? c=Δ o)->Q (.ref T) {s with heap:=h',toks:=tk}):
  wpAny (model prog w) A (abi.«zip.__next__» ⟨[.ref z],[]⟩) (λfin s'=>∃v,fin=.done (.ret v)/\Q v s') E s:=by
 show wpAny _ _ (field (.ref z) 2 >>=_) _ _ _;refine W7 (YC hz rfl (x:=.bool Ξ) rfl ?_);show wpAny _ _ (field (.ref z) 3 >>=_) _ _ _;refine W7 (YC hz rfl (x:=.ref TI) rfl ?_);refine W7 (Zk Mv rfl ?_);show wpAny _ _ (YV (.ref z) >>=_) _ _ _;refine W7 (K0 hf hz ?_ ?_)
 ·simp only[if_true];refine W7 (aa7 ?_);refine W7 (YC hz rfl (x:=.ref TO) rfl ?_);refine W7 (Zf hz (by simp) λdB jm dS=>?_);replace jm:yJ dB z TI TO .ellipsis f1:=jm;refine W7 ?_;simp only[abZ,List.zipIdx_nil,ZN,aau];refine W7 (W7 (abL ?_));show wpAny _ _ (XX (.ref i1) >>=_) _ _ _;refine W7 (D1.item k _ _ _ vp (D1.frame k _ dB h1 λc hc o e=>dS.extBut _ _ (λx=>ap.z1 (x▸hc)) e) λx kD Qo px zo dU=>Xn ?_);have sW:ZG kD TO a b:=dU.extBut _ _ ap.TOi1 (dS.extBut _ _ ap.TOz K3);refine W7 (Zk sW rfl ?_);refine W7 (abj sW λja xB fJ=>?_);replace xB:ZG ja TO x b:=xB;refine W7 (abC (Xn ?_));refine W7 (W7 (abL ?_));show wpAny _ _ (XX (.ref i2) >>=_) _ _ _;have k3:∀c o,c≠z->c≠TO->c≠i1->s.heap.get? c=Δ o->ja.get? c=Δ o:=λc o c1 c2 c3 e=>fJ.extBut _ _ c2 (dU.extBut _ _ c3 (dS.extBut _ _ c1 e));refine W7 (D2.item k _ _ _ wb (D2.frame k _ ja h2 λc hc o e=>k3 c o (λx=>ap.z2 (x▸hc)) (λx=>ap.T2 (x▸hc)) (λx=>ap.x2 (x▸hc)) e) λy DQ tk4 py Qp qv=>Xn ?_);have FR:ZG DQ TO x b:=qv.extBut _ _ ap.TOi2 xB;refine W7 (Zk FR rfl ?_);refine W7 (abj FR λlU xC qw=>?_);replace xC:ZG lU TO x y:=xC;refine W7 (abC (Xn (Xn ?_)));refine W7 (Zk xC rfl ?_);refine W7 (wpAny_newTuple ?_);have hsz:lU.objs.size=s.heap.objs.size:=by rw[qw.1,qv.1,fJ.1,dU.1,dS.1]
  have K4:yJ lU z TI TO .ellipsis f1:=qw.extBut _ _ ap.TOz.symm (qv.extBut _ _ ap.i2z.symm (fJ.extBut _ _ ap.TOz.symm (dU.extBut _ _ ap.i1z.symm jm)));have Qq:∀c o,c≠z->c≠TO->c≠i1->c≠i2->s.heap.get? c=Δ o->lU.get? c=Δ o:=λc o c1 c2 c3 c4 e=>qw.extBut _ _ c2 (qv.extBut _ _ c4 (k3 c o c1 c2 c3 e));have Qr:z < lU.objs.size:=Xs K4;show wpAny _ _ (abi.SmallTypes.ownedTupleHandOut (.ref z) (.ref lU.objs.size) >>=_) _ _ _;refine W7 ?_;unfold abi.SmallTypes.ownedTupleHandOut;have Qs:yJ (lU.push {cls:=.type "tuple",data:=.seq #[x,y]}) z TI TO .ellipsis f1:=Xa _ K4;refine W7 (Zf Qs (by simp) λVa FT K5=>?_);replace FT:yJ Va z TI TO (Zl lU.objs.size) f1:=FT;refine Zf FT (by simp) λDU FU K6=>?_;replace FU:yJ DU z TI TO (Zl lU.objs.size) (.bool Ξ):=FU;have up:∀c o,c≠z->lU.get? c=Δ o->DU.get? c=Δ o:=λc o c1 e=>K6.extBut _ _ c1 (K5.extBut _ _ c1 (Xa _ e));have Qt:ZG DU lU.objs.size x y:=K6.extBut _ _ (Yr Qr) (K5.extBut _ _ (Yr Qr) (Xq _ rfl));refine Xn ⟨_,rfl,?_⟩;refine hQ DU _ lU.objs.size x y _ _ x y ⟨.inr ⟨_,_,rfl⟩,Ξ,rfl⟩ FU (up _ _ ap.TOz xC) (D1.frame _ kD DU zo λc hc o e=>?_) (D2.frame _ DQ DU Qp λc hc o e=>?_) px py (by rw[hsz];exact Xj _) Qt λc o c1 c2 c3 c4 e=>up c o c1 (Qq c o c1 c2 c3 c4 e);·exact up c o (λx=>ap.z1 (x▸hc)) (qw.extBut _ _ (λx=>ap.T1 (x▸hc)) (qv.extBut _ _ (λx=>ap.x1 (x▸hc)) (fJ.extBut _ _ (λx=>ap.T1 (x▸hc)) e)))
  ·exact up c o (λx=>ap.z2 (x▸hc)) (qw.extBut _ _ (λx=>ap.T2 (x▸hc)) e)
 ·intro dB jm dS;simp only[XZ,if_false,List.forIn_toArray,ZN,aau];refine W7 ?_;refine W7 ?_;refine W7 ?_;refine ZX ?_;show wpAny _ _ (XX (.ref i1) >>=_) _ _ _;refine W7 (D1.item k _ _ _ vp (D1.frame k _ dB h1 λc hc o e=>dS.extBut _ _ (λx=>ap.z1 (x▸hc)) e) λx kD Qo px zo dU=>Xn ?_);refine Xn ?_;refine W7 ?_;refine W7 ?_;refine ZX ?_;show wpAny _ _ (XX (.ref i2) >>=_) _ _ _;refine W7 (D2.item k _ _ _ wb (D2.frame k _ kD h2 λc hc o e=>dU.extBut _ _ (λx=>ap.x2 (x▸hc)) (dS.extBut _ _ (λx=>ap.z2 (x▸hc)) e)) λy ja tk3 py Qu fJ=>Xn ?_);refine Xn ?_;refine Xn ?_;show wpAny _ _ (newTuple [x,y] >>=_) _ _ _;refine W7 (wpAny_newTuple (items:=[x,y]) ?_);have hsz:ja.objs.size=s.heap.objs.size:=by rw[fJ.1,dU.1,dS.1]
  have up:∀c o,ja.get? c=Δ o->(ja.push {cls:=.type "tuple",data:=.seq #[x,y]}).get? c=Δ o:=λc o e=>Xa _ e;refine Xn ⟨_,rfl,?_⟩;refine hQ _ _ ja.objs.size x y f0 (.bool Λ) a b ⟨hf.1,Λ,rfl⟩ (up _ _ (fJ.extBut _ _ ap.i2z.symm (dU.extBut _ _ ap.i1z.symm jm))) (up _ _ (fJ.extBut _ _ ap.TOi2 (dU.extBut _ _ ap.TOi1 (dS.extBut _ _ ap.TOz K3))))
   (D1.frame _ kD _ zo λc hc o e=>up _ _ (fJ.extBut _ _ (λx=>ap.x1 (x▸hc)) e)) (D2.frame _ ja _ Qu λc hc o e=>up _ _ e) px py (by rw[hsz];exact Xj _) (Xq _ rfl) λc o c1 c2 c3 c4 e=>up _ _ (fJ.extBut _ _ c4 (dU.extBut _ _ c3 (dS.extBut _ _ c1 e)))
theorem FV(D1:Draws prog w A i1 o7 n1 P1 vn)(D2:Draws prog w A i2 o8 n2 P2 vo)(ap:IU z TI TO i1 i2 o7 o8)(hf:ZF f0 f1)(hz:yJ s.heap z TI TO f0 f1)(Mv:ZG s.heap TI (.ref i1) (.ref i2))(K3:ZG s.heap TO a b)(hk:k=n1\/(k < n1/\k=n2))(h1:vn k s.heap)(h2:vo k s.heap)(hE:∀h' tk e,(∀c o,c≠z->c≠TO->c≠i1->c≠i2->s.heap.get? c=Δ o->h'.get? c=Δ o)->(∃o,h'.get? e=Δ o/\o.cls=.type "StopIteration")->E (.ref e) {s with heap:=h',toks:=tk}):
  wpAny (model prog w) A (abi.«zip.__next__» ⟨[.ref z],[]⟩) Q E s:=by
 show wpAny _ _ (field (.ref z) 2 >>=_) _ _ _;refine W7 (YC hz rfl (x:=.bool Ξ) rfl ?_);show wpAny _ _ (field (.ref z) 3 >>=_) _ _ _;refine W7 (YC hz rfl (x:=.ref TI) rfl ?_);refine W7 (Zk Mv rfl ?_);show wpAny _ _ (YV (.ref z) >>=_) _ _ _;refine W7 (K0 hf hz ?_ ?_)
 ·simp only[if_true];refine W7 (aa7 ?_);refine W7 (YC hz rfl (x:=.ref TO) rfl ?_);refine W7 (Zf hz (by simp) λdB jm dS=>?_);replace jm:yJ dB z TI TO .ellipsis f1:=jm;refine W7 ?_;simp only[abZ,List.zipIdx_nil,ZN,aau];refine W7 (W7 (abL ?_));show wpAny _ _ (XX (.ref i1) >>=_) _ _ _;have zp:=D1.frame k _ dB h1 λc hc o e=>dS.extBut _ _ (λx=>ap.z1 (x▸hc)) e;rcases hk with rfl|⟨hk,rfl⟩
  ·refine W7 (D1.done _ _ _ zp λkD e dU he=>?_);obtain⟨oe,Mw,Qv⟩:=he;have K7:yJ kD z TI TO .ellipsis f1:=dU _ _ ap.i1z.symm jm;have Vb:e≠z:=λx=>by subst x;rw[K7] at Mw;cases Mw;simp at Qv
   exact Zf K7 (by simp) λja _ fJ=>hE ja s.toks e (λc o c1 _ c3 _ x=>fJ.extBut _ _ c1 (dU _ _ c3 (dS.extBut _ _ c1 x))) ⟨oe,fJ.extBut _ _ Vb Mw,Qv⟩
  ·refine W7 (D1.item k _ _ _ hk zp λx kD Qo px zo dU=>Xn ?_);have sW:ZG kD TO a b:=dU.extBut _ _ ap.TOi1 (dS.extBut _ _ ap.TOz K3);refine W7 (Zk sW rfl ?_);refine W7 (abj sW λja xB fJ=>?_);refine W7 (abC (Xn ?_));refine W7 (W7 (abL ?_));show wpAny _ _ (XX (.ref i2) >>=_) _ _ _;have k3:∀c o,c≠z->c≠TO->c≠i1->s.heap.get? c=Δ o->ja.get? c=Δ o:=λc o c1 c2 c3 e=>fJ.extBut _ _ c2 (dU.extBut _ _ c3 (dS.extBut _ _ c1 e));refine W7 (D2.done _ _ _ (D2.frame k _ ja h2 λc hc o e=>k3 c o (λx=>ap.z2 (x▸hc)) (λx=>ap.T2 (x▸hc)) (λx=>ap.x2 (x▸hc)) e) λDQ e qv he=>?_);obtain⟨oe,Mw,Qv⟩:=he;have K8:yJ DQ z TI TO .ellipsis f1:=qv _ _ ap.i2z.symm (fJ.extBut _ _ ap.TOz.symm (dU.extBut _ _ ap.i1z.symm jm));have Vb:e≠z:=λx=>by subst x;rw[K8] at Mw;cases Mw;simp at Qv
   exact Zf K8 (by simp) λlU _ qw=>hE lU Qo e (λc o c1 c2 c3 c4 x=>qw.extBut _ _ c1 (qv _ _ c4 (k3 c o c1 c2 c3 x))) ⟨oe,qw.extBut _ _ Vb Mw,Qv⟩
 ·intro dB jm dS;simp only[XZ,if_false,List.forIn_toArray,ZN,aau];refine W7 ?_;refine W7 ?_;refine W7 ?_;refine ZX ?_;show wpAny _ _ (XX (.ref i1) >>=_) _ _ _;have zp:=D1.frame k _ dB h1 λc hc o e=>dS.extBut _ _ (λx=>ap.z1 (x▸hc)) e;rcases hk with rfl|⟨hk,rfl⟩;·exact W7 (D1.done _ _ _ zp λkD e dU he=>hE kD s.toks e (λc o c1 _ c3 _ x=>dU _ _ c3 (dS.extBut _ _ c1 x)) he)
  ·refine W7 (D1.item k _ _ _ hk zp λx kD Qo px zo dU=>Xn ?_);refine Xn ?_;refine W7 ?_;refine W7 ?_;refine ZX ?_;show wpAny _ _ (XX (.ref i2) >>=_) _ _ _;exact W7 (D2.done _ _ _ (D2.frame k _ kD h2 λc hc o e=>dU.extBut _ _ (λx=>ap.x2 (x▸hc)) (dS.extBut _ _ (λx=>ap.z2 (x▸hc)) e)) λja e fJ he=>hE ja Qo e (λc o c1 _ c3 c4 x=>fJ _ _ c4 (dU.extBut _ _ c3 (dS.extBut _ _ c1 x))) he)
theorem qV(D1:Draws prog w A.in1 i1 o7 n1 P1 vn)(D2:Draws prog w A.in1 i2 o8 n2 P2 vo)(ap:IU z TI TO i1 i2 o7 o8)(hf:ZF f0 f1)(hz:yJ s.heap z TI TO f0 f1)(Mv:ZG s.heap TI (.ref i1) (.ref i2))(K3:ZG s.heap TO a b)(vp:k < n1)(wb:k < n2)(h1:vn k s.heap)(h2:vo k s.heap)(hQ:∀h' tk T x y f0 f1 a b,ZF f0 f1->yJ h' z TI TO f0 f1->ZG h' TO a b->vn (k+1) h'->vo (k+1) h'->P1 k x->P2 k y->s.heap.objs.size<=T->ZG h' T x y->
   (∀c o,c≠z->c≠TO->c≠i1->c≠i2->s.heap.get? c=Δ o->h'.get? c=Δ o)->Q (Δ (.ref T)) {s with heap:=h',toks:=tk}):wpAny (model prog w) A (abO (.ref z)) Q E s:=by
 have hT:s.TypeIs (.ref z) "zip":=⟨_,hz,rfl⟩;unfold abO;exact W7 (abM (Yk (name:=Yh "__next__") hT aaj
  (YN aaj hT PySem.F.entry_zip_next
   (FQ D1 D2 ap hf hz Mv K3 vp wb h1 h2 λh' tk T x y f0 f1 a b c1 c2 c3 c4 c5 c6 c7 c8 c9 c10=>Xn (hQ h' tk T x y f0 f1 a b c1 c2 c3 c4 c5 c6 c7 c8 c9 c10)) (PySem.F.args_zip_next_1 _))))
theorem qW(D1:Draws prog w A.in1 i1 o7 n1 P1 vn)(D2:Draws prog w A.in1 i2 o8 n2 P2 vo)(ap:IU z TI TO i1 i2 o7 o8)(hf:ZF f0 f1)(hz:yJ s.heap z TI TO f0 f1)(Mv:ZG s.heap TI (.ref i1) (.ref i2))(K3:ZG s.heap TO a b)(hk:k=n1\/(k < n1/\k=n2))(h1:vn k s.heap)(h2:vo k s.heap)(hQ:∀h' tk,(∀c o,c≠z->c≠TO->c≠i1->c≠i2->s.heap.get? c=Δ o->h'.get? c=Δ o)->Q Θ {s with heap:=h',toks:=tk}):wpAny (model prog w) A (abO (.ref z)) Q E s:=by
 have hT:s.TypeIs (.ref z) "zip":=⟨_,hz,rfl⟩;unfold abO;refine W7 (abM (Yk (name:=Yh "__next__") hT aaj
  (YN aaj hT PySem.F.entry_zip_next (FV D1 D2 ap hf hz Mv K3 hk h1 h2 λh' tk e DV he=>?_) (PySem.F.args_zip_next_1 _))))
 obtain⟨o,ho,hc⟩:=he;refine W7 (abT (T:="StopIteration") (b:=Λ) ⟨o,ho,hc⟩ acn ?_);exact Xn (hQ _ _ DV)
def ZI(z TI TO i1 i2:Addr)(vn vo:Nat->Heap->Prop)(k:Nat)(h:Heap):Prop:=∃f0 f1 a b,ZF f0 f1/\yJ h z TI TO f0 f1/\ZG h TI (.ref i1) (.ref i2)/\ZG h TO a b/\vn k h/\vo k h
theorem ZI.frame(ap:IU z TI TO i1 i2 o7 o8)(D1:Draws prog w A i1 o7 n1 P1 vn)(D2:Draws prog w A i2 o8 n2 P2 vo)(x:ZI z TI TO i1 i2 vn vo k h)(hk:∀b,(b=z\/b=TI\/b=TO\/b∈o7\/b∈o8)->∀o,h.get? b=Δ o->h'.get? b=Δ o):ZI z TI TO i1 i2 vn vo k h':=by obtain⟨f0,f1,a,b,c1,c2,c3,c4,c5,c6⟩:=x;exact⟨f0,f1,a,b,c1,hk _ (.inl rfl) _ c2,hk _ (.inr (.inl rfl)) _ c3,hk _ (.inr (.inr (.inl rfl))) _ c4,D1.frame _ _ _ c5 λb hb=>hk b (.inr (.inr (.inr (.inl hb)))),D2.frame _ _ _ c6 λb hb=>hk b (.inr (.inr (.inr (.inr hb))))⟩
noncomputable def ZP(B:Nat)(bad:List Addr)(P1 P2:Nat->Value->Prop)(acc:Array Value)(k:Nat)(h:Heap):Prop:=acc.size=k/\(∀j v,acc[j]?=Δ v->∃T x y,v=.ref T/\B<=T/\T∉bad/\ZG h T x y/\P1 j x/\P2 j y)/\∀(i j:Nat) (v:Value),acc[i]?=Δ v->acc[j]?=Δ v->i=j
theorem ZP.frame(x:ZP B bad P1 P2 acc k h)(hk:∀b o,b∉bad->h.get? b=Δ o->h'.get? b=Δ o):ZP B bad P1 P2 acc k h':=by refine⟨x.1,λj v hj=>?_,x.2.2⟩;obtain⟨T,a,b,e,c1,c2,c3,c4,c5⟩:=x.2.1 j v hj;exact⟨T,a,b,e,c1,c2,hk _ _ c2 c3,c4,c5⟩
theorem ZP.push(x:ZP B bad P1 P2 acc k h)(c1:B<=T)(c2:T∉bad)(c3:ZG h T a b)(c4:P1 k a)(c5:P2 k b)(c6:∀j:Nat,acc[j]?≠Δ (XM T)):ZP B bad P1 P2 (acc.push (.ref T)) (k+1) h:=by
 refine⟨by rw[Array.size_push,x.1],λj v hj=>?_,λi j v hi hj=>?_⟩
 ·rw[Array.getElem?_push] at hj;split at hj;·rename_i e;rw[x.1] at e;cases hj;exact⟨T,a,b,rfl,c1,c2,c3,by rw[e];exact c4,by rw[e];exact c5⟩
  ·exact x.2.1 j v hj
 ·rw[Array.getElem?_push] at hi hj;split at hi
  ·split at hj
   ·lia
   ·cases hi;exact absurd hj (c6 j)
  ·split at hj;·cases hj;exact absurd hi (c6 i)
   ·exact x.2.2 i j v hi hj
theorem BH(ap:IU z TI TO i1 i2 o7 o8)(D1:Draws prog w A.in1.in1 i1 o7 n1 P1 vn)(D2:Draws prog w A.in1.in1 i2 o8 n2 P2 vo)(hn:n1<=XE)(xD:S≠z/\S≠TI/\S≠TO/\S∉o7/\S∉o8)(Qw:i1∈o7)(DW:i2∈o8):
  ∀(m k) (s) (acc) (c),min n1 n2 - k=m->k<=n1->k<=n2->B<=s.heap.objs.size->ZI z TI TO i1 i2 vn vo k s.heap->s.heap.get? S=Δ {cls:=.type "list",dict:=Θ,data:=.seq acc c,slots:=#[]}->
  ZP B [z,TO,i1,i2,S] P1 P2 acc k s.heap->
  (∀h' tk gW c',(∀b o,b∉[z,TO,i1,i2,S]->s.heap.get? b=Δ o->h'.get? b=Δ o)->h'.get? S=Δ {cls:=.type "list",dict:=Θ,data:=.seq gW c',slots:=#[]}->ZP B [z,TO,i1,i2,S] P1 P2 gW (min n1 n2) h'->
   R (.ok (.ret res)) {s with heap:=h',toks:=tk})->
  abh (model prog w) A (.builtin "list.extend.loop" ⟨[.ref S,.ref z,res],[]⟩) R s:=by
 have Qx:S≠i1:=λe=>xD.2.2.2.1 (e▸Qw);have Qy:S≠i2:=λe=>xD.2.2.2.2 (e▸DW);intro m;induction m with
 |zero=>
  intro k s acc c hm vp wb hB K9 hS fe hR;refine codeAny_builtin PySem.F.entry_extend_loop ?_;rw[YO.under_plainId ZJ _];show wpAny _ A.in1 (abO (.ref z) >>=_) _ _ s;obtain⟨f0,f1,a,b,c1,c2,c3,c4,c5,c6⟩:=K9;have Vc:min n1 n2=k:=by lia
  refine W7 (qW D1 D2 ap c1 c2 c3 c4 (k:=k) (by lia) c5 c6 λh' tk hk=>Xn ?_);refine hR h' tk acc c (λb o hb e=>hk b o (λx=>hb (by simp[x])) (λx=>hb (by simp[x])) (λx=>hb (by simp[x])) (λx=>hb (by simp[x])) e) (hk _ _ xD.1 xD.2.2.1 Qx Qy hS) ?_;rw[Vc];exact fe.frame λb o hb e=>hk b o (λx=>hb (by simp[x])) (λx=>hb (by simp[x])) (λx=>hb (by simp[x])) (λx=>hb (by simp[x])) e
 |succ m ih=>
  intro k s acc c hm vp wb hB K9 hS fe hR;refine codeAny_builtin PySem.F.entry_extend_loop ?_;rw[YO.under_plainId ZJ _];show wpAny _ A.in1 (abO (.ref z) >>=_) _ _ s;obtain⟨f0,f1,a,b,c1,c2,c3,c4,c5,c6⟩:=K9;refine W7 (qV D1 D2 ap c1 c2 c3 c4 (k:=k) (XD (aak hm) (aaF ..)) (XD (aak hm) (Z7 ..)) c5 c6 λh' tk T x y g0 g1 a' b' d1 d2 d3 d4 d5 px py hT hp hk=>?_);have kk:∀b o,b∉[z,TO,i1,i2,S]->s.heap.get? b=Δ o->h'.get? b=Δ o:=λb o hb e=>hk b o (λx=>hb (by simp[x])) (λx=>hb (by simp[x])) (λx=>hb (by simp[x])) (λx=>hb (by simp[x])) e;have OQ:=hk _ _ xD.1 xD.2.2.1 Qx Qy hS;have Vd:=hk _ _ ap.TIz ap.TITO ap.TIi1 ap.TIi2 c3;have lt:∀{b o},s.heap.get? b=Δ o->T≠b:=λe=>Yr (XD (Xs e) hT);have Qz:T∉[z,TO,i1,i2,S]:=by obtain⟨o1,e1⟩:=D1.live _ _ c5;obtain⟨o2,e2⟩:=D2.live _ _ c6;simp only[aai,Z8,or_false,not_or];exact⟨lt c2,lt c4,lt e1,lt e2,lt hS⟩
  show wpAny _ A.in1 (acP S (·.push (.ref T)) >>=_) _ _ _;refine W7 ?_;refine abo OQ rfl (Xn ⟨plainId_quiet ZJ _,ih (k+1) _ (acc.push (.ref T)) _ (by rw[Nat.sub_succ,hm];rfl) (XD (aak hm) (aaF ..)) (XD (aak hm) (Z7 ..)) ?_ ?_ (Zd _ OQ rfl) ?_ λh'' tk' gW c' Ve Vf QA=>?_⟩)
   (by rw[fe.1];lia) (by show(acc.push (XM T)).size<=XE+1;rw[Array.size_push,fe.1];lia)
  ·show B<=(h'.update S _).objs.size;rw[abf];exact X5 hB (X5 hT (aay (Xs hp)))
  ·refine ZI.frame ap D1 D2 ⟨g0,g1,a',b',d1,d2,Vd,d3,d4,d5⟩ λb hb o e=>(Yy _ _ (λh:S=b=>?_)).trans e;subst h;rcases hb with h|h|h|h|h;·exact xD.1 h
   ·exact xD.2.1 h
   ·exact xD.2.2.1 h
   ·exact xD.2.2.2.1 h
   ·exact xD.2.2.2.2 h
  ·refine ZP.frame ((fe.frame kk).push (X5 hB hT) Qz hp px py λj hj=>by obtain⟨T',_,_,e,_,_,c3',_⟩:=fe.2.1 j _ hj;cases e;exact lt c3' rfl) λb o hb e=>(Yy _ _ (λh:S=b=>hb (by simp[h]))).trans e
  ·refine hR h'' tk' gW c' (λb o hb e=>Ve b o hb ((Yy _ _ (λh:S=b=>hb (by simp[h]))).trans (kk b o hb e))) Vf QA
theorem BI:acZ (.type "zip") "__len__"=pure Θ:=by rw[typeLookup_type,builtinLookup_eq_fast];kernel_rfl
theorem zq:acZ (.type "zip") "__length_hint__"=pure Θ:=by rw[typeLookup_type,builtinLookup_eq_fast];kernel_rfl
theorem sX(ap:IU z TI TO i1 i2 o7 o8)(D1:Draws prog w A.in1.in1 i1 o7 n1 P1 vn)(D2:Draws prog w A.in1.in1 i2 o8 n2 P2 vo)(hn:n1<=XE)(xD:S≠z/\S≠TI/\S≠TO/\S∉o7/\S∉o8)(Qw:i1∈o7)(DW:i2∈o8)(hB:B<=s.heap.objs.size)(K9:ZI z TI TO i1 i2 vn vo 0 s.heap)(hS:s.heap.get? S=Δ {cls:=.type "list",data:=.seq #[] c₀})(hR:∀h' tk gW c',(∀b o,b∉[z,TO,i1,i2,S]->s.heap.get? b=Δ o->h'.get? b=Δ o)->h'.get? S=Δ {cls:=.type "list",dict:=Θ,data:=.seq gW c',slots:=#[]}->ZP B [z,TO,i1,i2,S] P1 P2 gW (min n1 n2) h'->
   R (.ok (.ret res)) {s with heap:=h',toks:=tk}):
  wpAny (model prog w) A.in1 (Zw (.ref S) (.ref z) res)
   (λfin s'=>match fin with|.done f=>R (.ok f) s'|.again c'=>c'.quiet=Λ/\abh (model prog w) A c' R s') (λe s'=>R (.error e) s') s:=by
 obtain⟨f0,f1,a,b,c1,c2,c3,c4,c5,c6⟩:=id K9;have hT:s.TypeIs (.ref z) "zip":=⟨_,c2,rfl⟩;unfold Zw;refine W7 (ab5 hT ?_);have h1:abi.List.listSameRef (.ref S) (.ref z)=Ξ:=by simp[abi.List.listSameRef,xD.1]
 have h2:(aac "zip"==aac "list")=Ξ:=by decide
 have h3:(aac "zip"==aac "tuple")=Ξ:=by decide
 simp only[h1,h2,h3,Bool.or_false,XZ,if_false];refine W7 (wpAny_pyIter_slot hT PySem.F.slot_zip_iter (YN PySem.F.slot_zip_iter hT PySem.F.entry_zip_iter ?_ (PySem.F.args_zip_iter_1 _)));show wpAny _ _ (ret (.ref z)) _ _ s;refine Xn ⟨_,rfl,"zip",_,hT,aaj.lookup,?_⟩;refine W7 (ZX ?_);unfold abi.List.listLengthHint;refine W7 (ace hT BI ?_);show wpAny _ A.in1 (specialOf (XM z) (Yh "__length_hint__") >>=_) _ _ _;refine W7 (ace hT zq ?_);refine Xn ?_;show wpAny _ A.in1 (rule "list.extend.makes-room" >>=λ_=>abi.List.listTouch (.ref S) >>=λ_=>again (.builtin "list.extend.loop" ⟨[.ref S,.ref z,res],[]⟩)) _ _ _;refine W7 (aa7 ?_);refine W7 ?_;show wpAny _ A.in1 (acP S (·.push .none) >>=λ_=>acP S (·.pop)) _ _ _;refine W7 (abo hS rfl ?_);have CH:=Zd (ZZ (·.push Zg)) hS rfl;refine abo (hz:=by seq_fits) CH rfl ?_;have QB:=Zd (ZZ (·.pop)) CH rfl;have IV:∀b o,b≠S->s.heap.get? b=Δ o->((s.heap.update S (ZZ (·.push Zg))).update S (ZZ (·.pop))).get? b=Δ o:=
  λb o hb e=>(Yy _ _ (Yj hb)).trans ((Yy _ _ (Yj hb)).trans e)
 refine Xn ⟨plainId_quiet ZJ _,BH ap D1 D2 (B:=B) hn xD Qw DW _ 0 _ _ _ rfl (Yq _) (Yq _) ?_ (ZI.frame ap D1 D2 K9 λb hb o e=>IV b o (λh=>?_) e) QB ⟨rfl,(λj v hj=>by simp at hj),(λi j v hi _=>by simp at hi)⟩ λh' tk gW c' hk OQ fe=>?_⟩;·show B<=((s.heap.update S _).update S _).objs.size;rw[abf,abf];exact hB
 ·subst h;rcases hb with h|h|h|h|h;·exact xD.1 h
  ·exact xD.2.1 h
  ·exact xD.2.2.1 h
  ·exact xD.2.2.2.1 h
  ·exact xD.2.2.2.2 h
 ·exact hR h' tk gW c' (λb o hb e=>hk b o hb (IV b o (λh=>hb (by simp[h])) e)) OQ fe
theorem vq(ap:IU z TI TO i1 i2 o7 o8)(D1:Draws prog w A.in1.in1.in1 i1 o7 n1 P1 vn)(D2:Draws prog w A.in1.in1.in1 i2 o8 n2 P2 vo)(hn:n1<=XE)(eZ:z < s.heap.objs.size/\TI < s.heap.objs.size/\TO < s.heap.objs.size/\(∀b∈o7,b < s.heap.objs.size)/\∀b∈o8,b < s.heap.objs.size)(Qw:i1∈o7)(DW:i2∈o8)(hB:B<=s.heap.objs.size)(K9:ZI z TI TO i1 i2 vn vo 0 s.heap)(hQ:∀h' tk gW c',(∀b o,b∉[z,TO,i1,i2]->s.heap.get? b=Δ o->h'.get? b=Δ o)->h'.get? s.heap.objs.size=Δ {cls:=.type "list",dict:=Θ,data:=.seq gW c',slots:=#[]}->ZP B [z,TO,i1,i2,s.heap.objs.size] P1 P2 gW (min n1 n2) h'->
   Q (.ref s.heap.objs.size) {s with heap:=h',toks:=tk}):
  wpAny (model prog w) A (call (.type "list") [.ref z]) Q E s:=by
 refine callType_codes (Q₁:=λobj bA=>obj=.ref s.heap.objs.size/\bA={s with heap:=s.heap.push {cls:=.type "list",data:=.seq #[]}}) PySem.F.called_list (PySem.F.typeCall_list_1 _) PySem.F.entry_list_init
  (code_list_new _ ⟨rfl,rfl⟩) λobj bA dB=>?_
 obtain⟨rfl,rfl⟩:=dB;have hS:(s.heap.push {cls:=.type "list",data:=.seq #[]}).get? s.heap.objs.size=Δ {cls:=.type "list",data:=.seq #[]}:=Xq _ rfl;refine⟨⟨_,hS,rfl⟩,PySem.F.args_list_init_2 _ _,?_⟩;show wpAny _ A.in1.in1 (do let old<-abi.List.listItems (.ref s.heap.objs.size);abi.List.listUpdate (.ref s.heap.objs.size) (λ_=>#[]);letGo old.toList.reverse;Zw (.ref s.heap.objs.size) (.ref z) .none) _ _ _;refine W7 ?_;unfold abi.List.listItems;refine W7 (Zk hS rfl (Xn ?_));show wpAny _ _ (acP s.heap.objs.size (λ_=>#[]) >>=λ_=>letGo (#[]:Array Value).toList.reverse >>=λ_=>Zw (.ref s.heap.objs.size) (.ref z) .none) _ _ _;refine W7 (abo hS rfl ?_);have CH:=Zd (ZZ (λ_=>(#[]:Array Value))) hS rfl;have IV:∀b o,s.heap.get? b=Δ o->((s.heap.push {cls:=.type "list",data:=.seq #[]}).update s.heap.objs.size (ZZ (λ_=>(#[]:Array Value)))).get? b=Δ o:=
  λb o e=>(Yy _ _ (Yr (Xs e))).trans (Xa _ e)
 refine W7 (abC ?_);refine sX ap D1 D2 (B:=B) hn ⟨Yr eZ.1,Yr eZ.2.1,Yr eZ.2.2.1,λh=>Y3 _ (eZ.2.2.2.1 _ h),λh=>Y3 _ (eZ.2.2.2.2 _ h)⟩ Qw DW ?_ (ZI.frame ap D1 D2 K9 λb _ o e=>IV b o e) CH λh' tk gW c' hk OQ fe=>?_
 ·show B<=((s.heap.push _).update _ _).objs.size;rw[abf,YI]
  lia
 ·refine⟨rfl,hQ h' tk gW c' (λb o hb e=>hk b o ?_ (IV b o e)) OQ fe⟩;intro hm;simp only[aai,Z8,or_false] at hm hb;rcases hm with h|h|h|h|h;·exact hb (.inl h)
  ·exact hb (.inr (.inl h))
  ·exact hb (.inr (.inr (.inl h)))
  ·exact hb (.inr (.inr (.inr h)))
  ·exact absurd (Xs e) (by rw[h];exact Y3 _)
abbrev S5(h:Heap)(l1:Addr):Heap:=h.push {cls:=.type "tuple_iterator",data:=.fields #[.ref l1,.int 0 0]}
abbrev S6(h:Heap)(l1 l2:Addr):Heap:=(S5 h l1).push {cls:=.type "tuple_iterator",data:=.fields #[.ref l2,.int 0 0]}
abbrev S7(h:Heap)(l1 l2:Addr):Heap:=(S6 h l1 l2).push {cls:=.type "tuple",data:=.seq #[.ref h.objs.size,.ref (S5 h l1).objs.size]}
abbrev S8(h:Heap)(l1 l2:Addr):Heap:=(S7 h l1 l2).push {cls:=.type "tuple",data:=.seq #[.none,.none]}
abbrev Mx(h:Heap)(l1 l2:Addr):Heap:=(S8 h l1 l2).push {cls:=.type "zip",data:=.fields #[.none,.bool Ξ,.bool Ξ,.ref (S6 h l1 l2).objs.size,.ref (S7 h l1 l2).objs.size]}
theorem sY l1 l2 xs ys:
  Meets (abi.«zip.__new__» ⟨[.type "zip",.ref l1,.ref l2],[]⟩) (λ_ R s=>s.heap.IsTuple l1 xs/\s.heap.IsTuple l2 ys/\
   R (.ok (.ret (.ref (S8 s.heap l1 l2).objs.size))) {s with heap:=Mx s.heap l1 l2}):=
 .of_wp λprog w A R s h=>by
  obtain⟨hp,g,d,tk,os⟩:=s;obtain⟨Vg,wc,h⟩:=h;have My:=sub_zip;have hL1:acM (acU ⟨hp,g,d,tk,os⟩) l1 xs:=Vg;have hL2:acM (acU ⟨hp.push {cls:=.type "tuple_iterator",data:=.fields #[.ref l1,.int 0 0]},g,d,tk,os⟩) l2 ys:=acM.push wc _
  wp_walk using ZC hL1,ZC hL2
  exact⟨_,rfl,h⟩
theorem BJ(Vg:s.heap.IsTuple l1 xs)(wc:s.heap.IsTuple l2 ys)(h:∀h',yJ h' (s.heap.objs.size+4) (s.heap.objs.size+2) (s.heap.objs.size+3) .none (.bool Ξ)->ZG h' (s.heap.objs.size+2) (.ref s.heap.objs.size) (.ref (s.heap.objs.size+1))->
   ZG h' (s.heap.objs.size+3) .none .none->h'.IsTupleIter s.heap.objs.size l1 0->h'.IsTupleIter (s.heap.objs.size+1) l2 0->h'.objs.size=s.heap.objs.size+5->
   (∀c o,s.heap.get? c=Δ o->h'.get? c=Δ o)->Q (.ref (s.heap.objs.size+4)) {s with heap:=h'}):
  wpAny (model prog w) A (call (.type "zip") [.ref l1,.ref l2]) Q E s:=by
 refine callType_new PySem.F.called_zip (by decide) (PySem.F.typeCall_zip_2 _ _) (PySem.F.newCall_zip_2 _ _) (λobj=>PySem.F.args_object_init_3 obj _ _) PySem.F.entry_zip_new
  (sY l1 l2 xs ys) ⟨Vg,wc,?_⟩
 have z1:(S5 s.heap l1).objs.size=s.heap.objs.size+1:=YI ..;have z2:(S6 s.heap l1 l2).objs.size=s.heap.objs.size+2:=by rw[YI,z1]
 have z3:(S7 s.heap l1 l2).objs.size=s.heap.objs.size+3:=by rw[YI,z2]
 have z4:(S8 s.heap l1 l2).objs.size=s.heap.objs.size+4:=by rw[YI,z3]
 have z5:(Mx s.heap l1 l2).objs.size=s.heap.objs.size+5:=by rw[YI,z4]
 have g5:(Mx s.heap l1 l2).get? (S8 s.heap l1 l2).objs.size=Δ _:=Xq _ rfl;have g4:(Mx s.heap l1 l2).get? (S7 s.heap l1 l2).objs.size=Δ _:=Xa _ (Xq _ rfl);have g3:(Mx s.heap l1 l2).get? (S6 s.heap l1 l2).objs.size=Δ _:=Xa _ (Xa _ (Xq _ rfl));have g2:(Mx s.heap l1 l2).get? (S5 s.heap l1).objs.size=Δ _:=Xa _ (Xa _ (Xa _ (Xq _ rfl)));have g1:(Mx s.heap l1 l2).get? s.heap.objs.size=Δ _:=Xa _ (Xa _ (Xa _ (Xa _ (Xq _ rfl))));show _/\_;rw[z2,z3,z4] at g5;rw[z1,z2] at g3;rw[z3] at g4;rw[z1] at g2;rw[z4];exact⟨⟨_,g5,rfl⟩,h _ g5 g3 g4 ⟨_,g1,rfl,rfl⟩ ⟨_,g2,rfl,rfl⟩ z5 λc o x=>Xa _ (Xa _ (Xa _ (Xa _ (Xa _ x))))⟩
theorem Inv.Vh(I:Inv X η σ H s)(k:∀b u,s.heap.get? b=Δ u->h'.get? b=Δ u)(hs:jj H H')(DS:∀b o,H' b=Δ o->H b=Δ o\/(s.heap.objs.size<=b/\bG X.prog X.w H' h' b o)):Inv X η σ H' {s with heap:=h',toks:=t'}:=by
 refine I.un ⟨λb u q _ _ _=>k b u q,λb u q _ _ _=>⟨u.slots,k b u q⟩,λb u q n _=>?_,λb u q _=>⟨u,k b u q⟩,λb xs q=>hs _ _ q,λb u xs q=>hs _ _ q,λb ps q=>⟨#[],by rw[hs _ _ q];simp⟩⟩ λb o e=>?_
 ·cases e:H' b with
  |none=>rfl|some o=>
   rcases DS b o e with z|⟨z,_⟩;·rw[n] at z;cases z
   ·exact absurd (Xs q) (Nat.not_lt.mpr z)
 ·rcases DS b o e with z|⟨_,z⟩;·exact(I.aJ b o z).ni (λc v _ q=>k c v q) (λc q=>hs _ _ q) λc xs q=>hs _ _ q
  ·exact z
noncomputable def Mz(H:Hp)(us ws ts:List V):Prop:=ts.length=min us.length ws.length/\∀(j:Nat) t,ts[j]?=Δ t->∃T u w,t=.ref T/\H T=Δ (.tup [u,w])/\us[j]?=Δ u/\ws[j]?=Δ w
def FW:Value->V
 |.ref a=>.ref a|_=>.bz
theorem wd:∀{l},(∀v∈l,∃T,v=XM T)->aS (l.map FW) l
 |[],_=>.nil|v::l,h=>by obtain⟨T,rfl⟩:=h v Xh;exact .cons rfl (wd λv hv=>h v (Xb _ hv))
theorem Vi(h:a=c)(k:b=d):(Δ (HO.tup [a,b]):Option HO)=Δ (HO.tup [c,d]):=by rw[h,k]
theorem IW(N a b:Nat)(la:a < N)(lb:b < N):IU (N+4) (N+2) (N+3) N (N+1) [N,a] [N+1,b]:=by
 have e2:∀{x y z:Nat},x≠y->x≠z->x∉[y,z]:=λh1 h2 h=>by
  rcases aai.mp h with h|h;·exact h1 h
  ·exact h2 (by simpa using h)
 have ne:∀{x y:Nat},x < y\/y < x->x≠y:=λh=>by lia
 exact⟨ne (by lia),ne (by lia),ne (by lia),ne (by lia),ne (by lia),ne (by lia),ne (by lia),ne (by lia),ne (by lia),ne (by lia),e2 (by lia) (by lia),e2 (by lia) (by lia),e2 (by lia) (by lia),e2 (by lia) (by lia),e2 (by lia) (by lia),e2 (by lia) (by lia)⟩
theorem FX(la:a < N)(hc:c∈[N+k,a])(hk:k < 5):c < N+5:=by simp at hc;rcases hc with rfl|rfl<;>lia
open Classical in
theorem zr(hc:X.calm=Λ)(hgL:Gl X "list")(hmL:X.mg "list"=Θ)(hgZ:Gl X "zip")(hmZ:X.mg "zip"=Θ)(ha:PA X [x1,x2] t)(he:XO [x1,x2] X.env=(Ξ,eval x1 X.env)::XO [x2] X.env)(yG:(Zm pos (XO [x2] X.env)).any (·.1)=Ξ):
  PE X (.Call (.Name "list" p2) [.Call (.Name "zip" p) [x1,x2] [] pos] [] IX) (λσ H Q=>t σ H λvs H1=>∃a b us ws,vs=[.ref a,.ref b]/\fH X.K H1 a us/\fH X.K H1 b ws/\
   ∀l H' ts,jj H1 H'->H1 l=Θ->H' l=Δ (.lst ts)->Mz H' us ws ts->Q (.ref l) H'):=by
 intro η s σ H Q I h;refine YG (jH I hgL hmL boot_list ?_ (by decide+kernel) (by decide+kernel));refine Yo ?_ rfl rfl;show wpAny _ _ (spliced [(Ξ,eval (.Call (.Name "zip" p) [x1,x2] [] pos) X.env)]) _ _ s;refine aaf ?_;refine YG (jH I hgZ hmZ PyProof.Rows.boot_zip ?_ (by decide+kernel) (by decide+kernel));refine Yo (bS (ha pos η s σ H _ I h) λus s1 ⟨vs,H1,I1,r1,q1⟩=>?_) he yG;obtain⟨a,b,ua,ub,rfl,ta,tb,q⟩:=q1;obtain⟨va,vb,rfl,ra,rb⟩:=vals2 r1;cases ra;cases rb;obtain⟨ia,Vj,pa,za⟩:=I1.tuple ta;obtain⟨ib,rvb,pb,zb⟩:=I1.tuple tb;have Vk:s1.heap.IsTuple a ia.toArray:=pa;have Vl:s1.heap.IsTuple b ib.toArray:=pb;obtain⟨N,hN⟩:∃N:Nat,N=s1.heap.objs.size:=⟨_,rfl⟩;have la:(a:Nat) < s1.heap.objs.size:=by obtain⟨o,e,_⟩:=Vk;exact Xs e
 have lb:(b:Nat) < s1.heap.objs.size:=by obtain⟨o,e,_⟩:=Vl;exact Xs e
 refine BJ Vk Vl λh2 g1 g2 g3 g4 g5 hsz hk=>?_;refine aa2 ?_;have hh:X.A.in1.in1.in1.handled=Θ:=I1.ok.hd hc;have IY:({s1 with heap:=h2}:Xv).heap.objs.size=s1.heap.objs.size+5:=hsz;have up:∀{c:Addr} {items:Array Value},s1.heap.IsTuple c items->h2.IsTuple c items:=λ{c items} x=>let ⟨o,e,r⟩:=x;⟨o,hk _ _ e,r⟩
 have ap:=IW s1.heap.objs.size a b la lb;have S9:∀k:Nat,k < 5->s1.heap.objs.size+k < ({s1 with heap:=h2}:Xv).heap.objs.size:=λk hk=>by rw[IY];exact Nat.add_lt_add_left hk _
 refine vq (s:={s1 with heap:=h2}) ap (kE hh s1.heap.objs.size a (XR la) ia.toArray) (kE hh (s1.heap.objs.size+1) b (XR (Nat.lt_succ_of_lt lb)) ib.toArray) (B:=s1.heap.objs.size) (by rw[Xp,<-Vj.length];exact za)
  ⟨S9 4 (by decide),S9 2 (by decide),S9 3 (by decide),λc hc=>?_,λc hc=>?_⟩ (by simp) (by simp) (aay (S9 0 (by decide))) ⟨.none,.bool Ξ,.none,.none,⟨.inl rfl,Ξ,rfl⟩,g1,g2,g3,⟨g4,up Vk⟩,⟨g5,up Vl⟩⟩ λh' tk acc c' Qb hS fe=>?_
 ·rw[IY];exact FX (k:=0) la hc (by decide)
 ·rw[IY];exact FX (k:=1) lb hc (by decide)
 rw[IY] at hS fe ⊢;obtain⟨a1,a2,a3⟩:=fe;have n5:∀b o,s1.heap.get? b=Δ o->h'.get? b=Δ o:=λb o e=>by
  have hb:(b:Nat) < s1.heap.objs.size:=Xs e;refine Qb b o (λhm=>?_) (hk b o e);simp only[aai,Z8,or_false] at hm;have:(b:Nat)>=s1.heap.objs.size:=by
   rcases hm with h|h|h|h;·exact h▸ZA _ _
   ·exact h▸ZA _ _
   ·exact h▸Xj _
   ·exact h▸ZA _ _
  exact absurd hb (Nat.not_lt.mpr this)
 have hrefs:∀v∈acc.toList,∃T,v=XM T:=λv hv=>by obtain⟨j,hj,e⟩:=List.mem_iff_getElem.mp hv;obtain⟨T,_,_,e',_⟩:=a2 j v (by rw[<-aa6,Xc hj,e]);exact⟨T,e'⟩
 have hV:=wd hrefs
 let H2:Hp:=λc=>if c=s1.heap.objs.size+5 then Δ (.lst (acc.toList.map FW)) else
  if hj:∃(j:Nat) (u w':V),acc[j]?=Δ (XM c)/\ua[j]?=Δ u/\ub[j]?=Δ w' then Δ (.tup [hj.choose_spec.choose,hj.choose_spec.choose_spec.choose]) else H1 c
 have fr:∀c,s1.heap.objs.size<=c->H1 c=Θ:=λc hc=>I1.aJ.fresh hc;have Vm:∀(j:Nat) T,acc[j]?=Δ (XM T)->T≠s1.heap.objs.size+5:=λj T e z=>by obtain⟨T',_,_,e',_,hb,_⟩:=a2 j _ e;cases e';exact hb (by rw[z];simp)
 have Vn:∀(j:Nat) T,acc[j]?=Δ (XM T)->s1.heap.objs.size<=T:=λj T e=>by obtain⟨T',_,_,e',h1,_⟩:=a2 j _ e;cases e';exact h1
 have atT:∀(j:Nat) T u w',acc[j]?=Δ (XM T)->ua[j]?=Δ u->ub[j]?=Δ w'->H2 T=Δ (.tup [u,w']):=λj T u w' e1 e2 e3=>by have hj:∃(j:Nat) (u w':V),acc[j]?=Δ (XM T)/\ua[j]?=Δ u/\ub[j]?=Δ w':=⟨j,u,w',e1,e2,e3⟩;show(if T=s1.heap.objs.size+5 then _ else if hj:_ then _ else _)=_;rw[if_neg (Vm j T e1),dif_pos hj];obtain⟨c1,c2,c3⟩:=hj.choose_spec.choose_spec.choose_spec;have ej:=a3 _ _ _ c1 e1;have q1:=XU (c2.symm.trans (show ua[hj.choose]?=Δ u by rw[ej];exact e2));have q2:=XU (c3.symm.trans (show ub[hj.choose]?=Δ w' by rw[ej];exact e3));exact Vi q1 q2
 have hS2:H2 (s1.heap.objs.size+5)=Δ (.lst (acc.toList.map FW)):=if_pos rfl;have sm:jj H1 H2:=λc o e=>by
  show(if c=s1.heap.objs.size+5 then _ else if hj:_ then _ else _)=_;rw[if_neg,dif_neg];·exact e
  ·rintro⟨j,u,w',e1,_⟩;rw[fr c (Vn j c e1)] at e;cases e
  ·rintro rfl;rw[fr _ (ZA _ _)] at e;cases e
 have hlen:acc.toList.length=min ua.length ub.length:=by rw[Zs,a1,Xp,Xp,<-Vj.length,<-rvb.length]
 have I2:Inv X η σ H2 {s1 with heap:=h',toks:=tk}:=by
  refine I1.Vh n5 sm λc o e=>?_;have e':(if c=s1.heap.objs.size+5 then Δ (HO.lst (acc.toList.map FW)) else
   if hj:∃(j:Nat) (u w':V),acc[j]?=Δ (XM c)/\ua[j]?=Δ u/\ub[j]?=Δ w' then Δ (.tup [hj.choose_spec.choose,hj.choose_spec.choose_spec.choose]) else H1 c)=Δ o:=e
  split at e';·rename_i hc;cases e';refine .inr ⟨by rw[hc];exact ZA _ _,?_⟩;rw[hc];refine⟨?_,acc.toList,c',hV,by simpa using hS⟩;rw[Xf,hlen];exact X5 (aaF _ _) za
  ·split at e'
   ·rename_i hj;cases e';obtain⟨c1,c2,c3⟩:=hj.choose_spec.choose_spec.choose_spec;obtain⟨T,x,y,eT,b1,b2,b3,b4,b5⟩:=a2 _ _ c1;cases eT;refine .inr ⟨b1,?_,[x,y],?_,⟨_,b3,rfl,_,rfl⟩⟩;·rw[YH];simp
    ·obtain⟨x',ex,rx⟩:=Vj.get c2;obtain⟨y',ey,ry⟩:=rvb.get c3;have e1:ia[hj.choose]?=Δ x:=by simpa using b4
     have e2:ib[hj.choose]?=Δ y:=by simpa using b5
     rw[ex] at e1;rw[ey] at e2;cases e1;cases e2;exact .cons rx (.cons ry .nil)
   ·exact .inl e'
 refine⟨.ref (s1.heap.objs.size+5),H2,I2,rfl,q _ H2 _ sm (fr _ (ZA _ _)) hS2 ⟨by rw[Xf,hlen],λj t ht=>?_⟩⟩;rw[Xi] at ht;obtain⟨v,hv,rfl⟩:∃v,acc.toList[j]?=Δ v/\FW v=t:=by cases hq:acc.toList[j]? with|none=>rw[hq] at ht;cases ht|some v=>rw[hq] at ht;exact⟨v,rfl,by simpa using ht⟩
 have QC:j < min ua.length ub.length:=by rw[<-hlen];exact(qqz hv).1
 have SO:acc[j]?=Δ v:=by rw[<-aa6];exact hv
 obtain⟨T,x,y,rfl,_⟩:=a2 j v SO;have l1:j < ua.length:=XD QC (aaF _ _);have l2:j < ub.length:=XD QC (Z7 _ _);exact⟨T,ua[j],ub[j],rfl,atT j T _ _ SO (Xc l1) (Xc l2),Xc l1,Xc l2⟩
end
theorem kF l items o(ht:o.cls=.type "tuple")n(hd:o.data=.seq items n):
  Meets (abi.«enumerate.__new__» ⟨[.type "enumerate",.ref l],[]⟩) (λ_ R s=>s.heap.get? l=Δ o/\
   R (.ok (.ret (.ref (s.heap.push {cls:=.type "tuple_iterator",data:=.fields #[.ref l,.int 0 0]}).objs.size)))
    {s with heap:=(s.heap.push {cls:=.type "tuple_iterator",data:=.fields #[.ref l,.int 0 0]}).push {cls:=.type "enumerate",data:=.fields #[.none,.bool Ξ,.ref s.heap.objs.size,Zl 0,.none,.none]}}):=
 .of_wp λprog w A R s h=>by
  obtain⟨hp,g,d,tk,os⟩:=s;obtain⟨hl,h⟩:=h;have My:=sub_enumerate;have hL:acM (acU ⟨hp,g,d,tk,os⟩) l items:=⟨_,hl,ht,n,hd⟩
  wp_walk using YW hl
  refine wpAny_stack_any λst=>Xn ?_;split
  ·rename_i c _ _ _ _ _;cases (c==aac "enumerate")
   ·wp_walk using YW hl,ZC hL
    exact⟨_,rfl,h⟩
   ·wp_walk using YW hl,ZC hL
    exact⟨_,rfl,h⟩
  ·wp_walk using YW hl,ZC hL
   exact⟨_,rfl,h⟩
section
variable{prog:Yi}{w:World}{A:YO}{E:Value->Xv->Prop}{s:Xv}
theorem o9(hl:s.heap.IsTuple l items)(h:∀h',IsEnum h' (s.heap.objs.size+1) s.heap.objs.size 0 .none->h'.IsTupleIter s.heap.objs.size l 0->h'.objs.size=s.heap.objs.size+2->
   (∀b o,s.heap.get? b=Δ o->h'.get? b=Δ o)->Q (.ref (s.heap.objs.size+1)) {s with heap:=h'}):
  wpAny (model prog w) A (call (.type "enumerate") [.ref l]) Q E s:=by
 obtain⟨o,ho,hc,n,hd⟩:=hl;refine callType_new PySem.F.called_enumerate (by decide) (PySem.F.typeCall_enumerate_1 _) (PySem.F.newCall_enumerate_1 _) (λobj=>PySem.F.args_object_init_2 obj _) PySem.F.entry_enumerate_new
  (kF l items o hc n hd) ⟨ho,?_⟩
 have hz:(s.heap.push {cls:=.type "tuple_iterator",data:=.fields #[.ref l,.int 0 0]}).objs.size=s.heap.objs.size+1:=YI ..;show _/\_;rw[hz];have he:IsEnum ((s.heap.push {cls:=.type "tuple_iterator",data:=.fields #[.ref l,.int 0 0]}).push
   {cls:=.type "enumerate",data:=.fields #[.none,.bool Ξ,.ref s.heap.objs.size,Zl 0,.none,.none]}) (s.heap.objs.size+1) s.heap.objs.size 0 .none:=by
  have:=Xq (s.heap.push {cls:=.type "tuple_iterator",data:=.fields #[.ref l,.int 0 0]})
   (o:={cls:=.type "enumerate",data:=.fields #[.none,.bool Ξ,.ref s.heap.objs.size,Zl 0,.none,.none]}) rfl
  rw[hz] at this;exact this
 refine⟨⟨_,he,rfl⟩,h _ he ⟨_,Xa _ (Xq _ rfl),rfl,rfl⟩ (by rw[YI,hz]) λb o x=>Xa _ (Xa _ x)⟩
end
def Vo(K:Xm)(a:Addr):It:=
 ⟨λi H=>∃xs x,fH K H a xs/\xs[i]?=Δ x,λi H x H'=>∃T v,H T=Θ/\H'=upd H T (.tup [.int i,v])/\x=.ref T/\∀xs,fH K H a xs->xs[i]?=Δ v,λi H=>∃xs,fH K H a xs/\xs.length<=i⟩
theorem BK{P:Yi}{w:World}{K:Xm}{elts:List Expr}{kk:Nat}{pos:Pos}(a it e:Addr)(OR:e≠it):Turn P w K (.Tuple elts kk pos) (Vo K a) [e,it] e (λi h=>(∃old,IsEnum h e it i old)/\h.IsTupleIter it a i) where
 mem:=by simp
 obj:=λi h st b hb=>by
  obtain⟨⟨old,he⟩,o,eo,c,d⟩:=st;have iP:b=e\/b=it:=by simpa using hb
  rcases iP with z|z;·rw[z];exact⟨_,he,λv z=>nomatch z⟩
  ·rw[z];exact⟨o,eo,λv z=>by rw[d] at z;cases z⟩
 keep:=λi h h' st k=>⟨let ⟨old,he⟩:=st.1;⟨old,k e (by simp) _ he⟩,st.2.at λo x=>k it (by simp) o x⟩
 item:=by
  intro X hP hw hK hc i η s σ H E I hf st hg;subst hP hw hK;obtain⟨xs,x,hq,hx⟩:=hg;obtain⟨its,rv,p,hz⟩:=I.tuple hq;have p':s.heap.IsTuple a its.toArray:=p;obtain⟨u,hu,ru⟩:=rv.get hx;obtain⟨f0,f1,f2,f3,f4,f5⟩:=hf it (by simp);obtain⟨g0,g1,g2,g3,g4,g5⟩:=hf e (by simp);obtain⟨⟨old,he⟩,hit⟩:=st;have hai:a≠it:=λz=>by obtain⟨o1,e1,c1,_⟩:=p';obtain⟨o2,e2,c2,_⟩:=id hit;rw[z,e2] at e1;cases e1;rw[c1] at c2;simp at c2
  have hae:a≠e:=λz=>by obtain⟨o1,e1,c1,_⟩:=p';rw[z,he] at e1;cases e1;simp at c1
  have eZ:i < its.toArray.size:=by have:=(qqz hu).1;simpa using this
  refine wpAny_pyNext_enum_itemD (kE (A:=X.A.in1) (I.ok.hd hc) it a hai its.toArray) he ⟨hit,p'⟩ eZ OR (by simp[OR,Yj hae]) λx1 h' tk px ho sT hT hsz hk=>?_;have ex1:x1=u:=by
   have:its[i]?=Δ x1:=by simpa using px
   rw[hu] at this;cases this;rfl
  subst ex1;refine⟨_,rfl,?_⟩;refine wpAny_letOwnedTupleGo_enum ho λh2 La HK=>?_;have QD:s.heap.objs.size≠e:=Yr (Xs he);have OS:s.heap.objs.size≠it:=by obtain⟨o,eo,_⟩:=hit;exact Yr (Xs eo)
  have zu:∀b o,b≠e->b≠it->s.heap.get? b=Δ o->h2.get? b=Δ o:=λb o h1 h3 q=>HK.extBut b o h1 (hk b o h1 h3 q);have hn:H s.heap.objs.size=Θ:=I.aJ.fresh (Xj _);have E4:∀b v,H b=Δ v->b≠e/\b≠it:=λb v q=>⟨(λz=>by rw[z,g0] at q;cases q),(λz=>by rw[z,f0] at q;cases q)⟩;have QE:h2.get? s.heap.objs.size=Δ {cls:=.type "tuple",data:=.seq #[.int i tk,x1]}:=HK.extBut _ _ QD hT;have I1:Inv X η σ (upd H s.heap.objs.size (.tup [.int i,x])) {s with heap:=h2,toks:=tk+1}:=by
   refine I.step (g':=s.gens) (d':=s.drawn) (ch:=[e,it]) (λb hb=>?_) (λb o _ _ hc q _=>zu b o (λz=>hc (by simp[z])) (λz=>hc (by simp[z])) q) (λb o _ _ hc q _=>⟨o.slots,zu b o (λz=>hc (by simp[z])) (λz=>hc (by simp[z])) q⟩)
    (λb o _ q n=>by rw[ax (XR (Xs q))];exact n) (λb o hc q=>⟨o,zu b o (λz=>hc (by simp[z])) (λz=>hc (by simp[z])) q⟩) (λb xs q=>by rw[ax (aM q hn)];exact q) (λb o v q=>by rw[ax (aM q hn)];exact q)
    (λb ps q=>⟨#[],by rw[ax (aM q hn),q];simp⟩) (λm hm=>?_) (λb v q=>?_) I.bare
   ·have iP:b=e\/b=it:=by simpa using hb
    rcases iP with z|z;·rw[z];exact⟨g3,g1,g4,g5⟩
    ·rw[z];exact⟨f3,f1,f4,f5⟩
   ·obtain⟨o,es,ep,oS,r⟩:=hm;exact⟨o,es,ep,zu _ o (Yj g1) (Yj f1) oS,r⟩
   ·by_cases hb:b=s.heap.objs.size;·rw[hb,aC] at q;cases q;rw[hb];exact⟨by rw[YH];simp,[.int i tk,x1],.cons ⟨tk,rfl⟩ (.cons ru .nil),⟨_,QE,rfl,_,rfl⟩⟩
    ·rw[ax hb] at q;refine(I.aJ b v q).ni (λc y hc qq=>?_) (λc qq=>by rw[ax (aM qq hn)];exact qq) λc xs qq=>by rw[ax (aM qq hn)];exact qq
     have:c≠e/\c≠it:=by
      rcases hc with z|z;·rw[z];exact E4 b v q
      ·exact E4 c _ z
     exact zu c y this.1 this.2 qq
  refine⟨.ref s.heap.objs.size,_,I1,rfl,⟨s.heap.objs.size,x,hn,rfl,rfl,λys hy=>by rw[I.vV hy hq];exact hx⟩,⟨⟨x1,by simpa using La⟩,sT.1.at λo q=>HK.extBut _ _ (Yj OR) q⟩,λb hb=>?_⟩;have iP:b=e\/b=it:=by simpa using hb
  rcases iP with z|z;·rw[z,ax (Yj QD)];exact g0
  ·rw[z,ax (Yj OS)];exact f0
 done:=by
  intro X hP hw hK hc i η s σ H E I hf st hg;subst hP hw hK;obtain⟨xs,hq,hx⟩:=hg;obtain⟨its,rv,p,hz⟩:=I.tuple hq;obtain⟨f0,f1,f2,f3,f4,f5⟩:=hf it (by simp);obtain⟨⟨old,he⟩,hit⟩:=st;have hl:=rv.length;have hT:s.TypeIs (.ref e) "enumerate":=⟨_,he,rfl⟩;unfold abO;refine W7 (abM (Yk (name:=Yh "__next__") hT Zt
   (YN Zt hT PySem.F.entry_enumerate_next ?_ (PySem.F.args_enumerate_next_1 _))))
  show wpAny _ _ (field (.ref e) 2 >>=_) _ _ _;refine W7 (YC he rfl (x:=.ref it) rfl ?_);refine W7 (jk (I.ok.hd hc) hit (show s.heap.IsTuple a its.toArray from p) (by simp;lia) λh' y Vp yI=>?_);obtain⟨o,ho,u9⟩:=yI;refine W7 (abT (T:="StopIteration") (b:=Λ) ⟨o,ho,u9⟩ acn ?_);exact Xn ⟨rfl,I.turned (t':=s.toks) (λb o hb q=>Vp b o hb q) f0 f1 f3 f4 f5⟩
 self:=λ_ _ _ _ _ st h=>let ⟨old,he⟩:=st.1;aaR he h
section
variable{X:Cx}
def QF(K:Xm)(ta:TA):TI:=λσ H R=>ta σ H λvs H1=>∃a,vs=[.ref a]/\(∃xs,fH K H1 a xs)/\R (Vo K a) H1
theorem FY(hg:Gl X "enumerate")(hm:X.mg "enumerate"=Θ)(ha:PA X [x] ta)(hs:XO [x] X.env=[(Ξ,eval x X.env)]):
  PI X (.Tuple elts kk p3) (.Call (.Name "enumerate" p) [x] [] pos) (QF X.K ta):=by
 intro η s σ H R I h;refine Call_ (jH I hg hm boot_enumerate (Yo (bS (ha pos η s σ H _ I h) λus s1 ⟨vs,H1,I1,r1,q1⟩=>?_) hs rfl) (by decide+kernel) (by decide+kernel));obtain⟨a,rfl,⟨xs,hq⟩,q⟩:=q1;obtain⟨u,rfl,ru⟩:=vals1 r1;cases ru;obtain⟨its,rv,pl,hz⟩:=I1.tuple hq;refine o9 (show s1.heap.IsTuple a its.toArray from pl) λh' he hit hsz hk=>?_;refine aaR he ?_;have I2:Inv X η σ H1 {s1 with heap:=h'}:=I1.kept (t':=s1.toks) hk;refine⟨s1.heap.objs.size+1,[s1.heap.objs.size+1,s1.heap.objs.size],_,_,H1,rfl,I2,BK a _ _ (Nat.succ_ne_self _),⟨⟨_,he⟩,hit⟩,λb hb=>?_,q⟩;have iP:b=s1.heap.objs.size+1\/b=s1.heap.objs.size:=by simpa using hb
 rcases iP with z|z;·rw[z];exact I1.xi (Y9 _) (I1.aJ.fresh (Y9 _))
 ·rw[z];exact I1.xi (Xj _) (I1.aJ.fresh (Xj _))
end
section
variable{prog:Yi}{w:World}{A:YO}{E:Value->Xv->Prop}{s:Xv}
end
section
variable{X:Cx}
end
def dE(c:Addr)(q:Str):Heap->Prop:=λh=>h.CodeRec (.ref c) q
structure kH(N P F:List Str)(sc:Scope):Prop where
 kind:sc.kind=.function
 co:sc.isCoroutine=Ξ
 gen:sc.isGenerator=Ξ
 nd:N.Nodup
 pre:N.take (P.length+F.length)=P++F
 par:∀x∈P,sc.names.lookup x=Δ .local
 fre:∀x∈F,sc.names.lookup x=Δ .free
 fP:∀y∈sc.names,y.2≠.cell
 QG:∀y∈sc.names,y.2=.free->y.1∈F
structure HL(B:Heap)(cl:List (Str×Addr))(F:List Str)(bW:List V):Prop where
 inj:∀x y c,cl.lookup x=Δ c->cl.lookup y=Δ c->x=y
 only:∀x c,cl.lookup x=Δ c->x∈F
 at_:∀(i:Nat) (x:Str) (v:V),F[i]?=Δ x->bW[i]?=Δ v->∃c u,cl.lookup x=Δ c/\B.IsCell c (Δ u)/\RelV v u
 len:bW.length=F.length
theorem HL.get(C:HL B cl F bW)(h:x∈F):∃(i:Nat) (v:V) (c:Addr) (u:Value),F[i]?=Δ x/\bW[i]?=Δ v/\cl.lookup x=Δ c/\B.IsCell c (Δ u)/\RelV v u:=by
 obtain⟨i,hi,e⟩:=List.mem_iff_getElem.mp h;have h1:F[i]?=Δ x:=by rw[Xc hi,e]
 have h2:bW[i]?=Δ (bW[i]'(by rw[C.len];exact hi)):=Xc _;obtain⟨c,u,a,b,d⟩:=C.at_ i x _ h1 h2;exact⟨i,_,c,u,h1,h2,a,b,d⟩
abbrev zv(qual:Str)(scope:Scope)(L f:Addr)(cd:Value)(cl:List (Str×Addr)):Env:=PySem.W.envX qual scope L f cd cl
noncomputable def Lb(CX:HH)(P:Yi)(w:World)(K:Xm)(mg:Str->Option Value)(base:Heap)(N:List Str)(qual:Str)(scope:Scope)(f:Addr)(cd:Value)(cl:List (Str×Addr))(A:YO)(outer:List Env)(s:Xv)(H:Hp)(E:XK):Cx where
 prog:=P
 w:=w
 K:=K
 mg:=mg
 base:=base
 A:=A.deeper (zv qual scope s.heap.objs.size f cd cl)
 N:=N
 gU:=s
 yR:=H
 env:=zv qual scope s.heap.objs.size f cd cl
 outer:=outer
 stack:=zv qual scope s.heap.objs.size f cd cl::outer
 ex:=[]
 calm:=Λ
 fn:=λ_=>Ξ
 pn:=[]
 xe:=λe s'=>wpAny (model P w) (A.deeper (zv qual scope s.heap.objs.size f cd cl)) (leaving (zv qual scope s.heap.objs.size f cd cl) e) (λ_ Ma=>CX outer H s E e Ma) (λe' Ma=>CX outer H s E e' Ma) s'
theorem FZ:∀{ps:List Str} {us} {i:Nat} {y:Str} {u:Value},ps.Nodup->ps[i]?=Δ y->us[i]?=Δ u->(ps.zip us).reverse.lookup y=Δ u:=by
 intro ps us i y u nd h1 h2;have hm:(y,u)∈(ps.zip us).reverse:=by rw[List.mem_reverse];refine List.mem_iff_getElem?.mpr ⟨i,?_⟩;rw[List.getElem?_zip_eq_some];exact⟨h1,h2⟩
 have un:∀u',(y,u')∈(ps.zip us).reverse->u'=u:=λu' h'=>by
  rw[List.mem_reverse] at h';obtain⟨j,hj⟩:=List.mem_iff_getElem?.mp h';rw[List.getElem?_zip_eq_some] at hj;obtain⟨a,b⟩:=hj;have hi:i < ps.length:=(qqz h1).1;have Ta:j < ps.length:=(qqz a).1;have e:i=j:=by
   have e1:ps[i]'hi=y:=(qqz h1).2;have e2:ps[j]'Ta=y:=(qqz a).2;rcases Nat.lt_trichotomy i j with z|z|z;·exact absurd (e1.trans e2.symm) (List.pairwise_iff_getElem.mp (List.nodup_iff_pairwise_ne.mp nd) i j hi Ta z)
   ·exact z
   ·exact absurd (e2.trans e1.symm) (List.pairwise_iff_getElem.mp (List.nodup_iff_pairwise_ne.mp nd) j i Ta hi z)
  subst e;rw[h2] at b;exact(XU b).symm
 cases q:(ps.zip us).reverse.lookup y with
 |none=>
  exfalso;have key:∀(l:List (Str×Value)),(y,u)∈l->l.lookup y≠Θ:=λl=>by
   induction l with
   |nil=>intro h;cases h|cons p l ih=>
    intro h;obtain⟨p1,p2⟩:=p;rw[XH];rcases aai.mp h with e|e;·injection e with e1 _;rw[<-e1];simp
    ·cases hb:y==p1 with|true=>exact λz=>nomatch z|false=>exact ih e
  exact key _ hm q
 |some u'=>rw[un u' (X8 q)]
theorem CJ{K:Xm}(S:kH N ps F scope)(C:HL base cl F bW)(hd:A.handled=Θ)(e0:xm P w K mg base A outer s H)(hl:vs.length=ps.length)(r:aS vs us)(Lc:dB.Ns s.heap.objs.size (λx=>(ps.zip us).reverse.lookup x))(hk:∀b o,s.heap.get? b=Δ o->dB.get? b=Δ o):
  Inv (Lb CX P w K mg base N qual scope f cd cl A outer s H E) [] (start N (vs++bW)) H {s with heap:=dB,toks:=tk}:=by
 have yG:ps.length+F.length<=N.length:=by have:=congrArg abG S.pre;rw[Yu,Xz] at this;lia
 have HI:∀b:Addr,b∉(Lb CX P w K mg base N qual scope f cd cl A outer s H E).ex:=λb z=>absurd (show b∈([]:List Addr) from z) (by simp);have old:∀b o,base.get? b=Δ o->dB.get? b=Δ o:=λb o e=>hk b o (e0.bs b o e).1;have HM:∀x c,cl.lookup x=Δ c->∃u,base.IsCell c (Δ u):=λx c h=>by obtain⟨i,v,c',u,_,_,h3,h4,_⟩:=C.get (C.only x c h);rw[h] at h3;cases h3;exact⟨u,h4⟩
 refine⟨⟨e0.mod,S.kind,rfl,rfl,Xj _,λy z c h1 h2=>C.inj y z c h1 h2,λy hy=>?_,(λy c h _=>absurd (show Ξ=Λ from h) (by decide)),λ_=>hd,YO.frames_deeper e0.frames,.inr ⟨rfl,rfl⟩,λb z=>absurd z (HI b),e0.bs,e0.ET,λb _ _=>HI b,λb z=>absurd z (HI b),e0.mx,e0.HZ⟩,
  rfl,e0.bare,Un.kept hk,⟨_,Lc,λi y v h1 h2 h3=>?_⟩,λy c h=>?_,e0.aJ.fresh (Xj _),λy c h=>?_,λp hp=>absurd (show p∈([]:List (Addr×Obj)) from hp) (by simp),e0.aJ.kept hk,?_⟩
 ·have hy:scope.names.lookup y=Δ .cell\/scope.names.lookup y=Δ .free:=hy;rcases hy with hy|hy;·exact absurd rfl (S.fP _ (X8 hy))
  ·obtain⟨_,_,c,_,_,_,h,_⟩:=C.get (S.QG _ (X8 hy) rfl);exact⟨c,h⟩
 ·have hlen:(vs++bW).length=ps.length+F.length:=by rw[Xz,hl,C.len]
  have hi:i < (vs++bW).length:=by
   unfold start at h2;by_cases hi:i < (vs++bW).length;·exact hi
   ·rw[Xy (by simpa using hi)] at h2;rw[Z9] at h2;split at h2<;>cases h2
  have ha:(vs++bW)[i]?=Δ v:=by unfold start at h2;rw[Xg (by simpa using hi),Xi] at h2;cases e:(vs++bW)[i]? with|none=>rw[e] at h2;cases h2|some a=>rw[e] at h2;cases h2;rfl
  have hp:(ps++F)[i]?=Δ y:=by rw[<-S.pre,List.getElem?_take_of_lt (by lia)];exact h1
  have SR:ps.Nodup:=by
   have:(ps++F).Nodup:=by rw[<-S.pre];exact S.nd.sublist (List.take_sublist _ _)
   exact(X9.mp this).1
  by_cases DW:i < vs.length;·rw[Xg DW] at ha;rw[Xg (by lia)] at hp;obtain⟨u,hu,rv⟩:=r.get ha;exact⟨u,rv,.inl ⟨S.par y (Xw hp),FZ SR hp hu⟩⟩
  ·rw[Xy (by lia)] at ha;rw[Xy (by lia),<-hl] at hp;obtain⟨c,u,hc,nr,rv⟩:=C.at_ _ y v hp ha;exact⟨u,rv,.inr ⟨.inr (S.fre y (Xw hp)),c,hc,nr.keeps old⟩⟩
 ·obtain⟨u,hc⟩:=HM y c h;exact⟨_,hc.keeps old⟩
 ·obtain⟨u,o,ho,_⟩:=HM y c h;exact(e0.bs c o ho).2
 ·unfold start;show _=N.length;rw[Xz,Xf,aan,Xz,hl,C.len]
  lia
section
variable{CX:HH}{P:Yi}{w:World}{K:Xm}{mg:Str->Option Value}{base:Heap}{k:Nat}{f:Addr}{name qual:Str}{params:ZR}{scope:Scope}{cl:List (Str×Addr)}{dV kV doc pm kq ct oc:Value}{an od:Option Addr}
  {Iu:Array (Option Value)} {N ps F:List Str} {bW:List V} {sp:Sp}
theorem MA(lk:base.get? f=Δ ⟨oc,od,.func (acV name qual params body scope cl dV kV doc pm an kq ct),Iu⟩)(qi:∀vs H Q E,sp vs H Q E->∃c,kq=.ref c/\H c=Δ (.ext (dE c qual)))(S:kH N ps F scope)(C:HL base cl F bW)(len:∀vs H Q E,sp vs H Q E->vs.length=ps.length)(sJ:∀(A:YO) (outer:List Env) (s:Xv) (H:Hp) (vs:List V) (Q:VK) (E:XK),cZ k (A.deeper (zv qual scope s.heap.objs.size f kq cl))->sp vs H Q E->
   ∃t,my (Lb CX P w K mg base N qual scope f kq cl A outer s H E) body t/\t {nx:=λ_ H'=>Q .bz H',rt:=Q} (start N (vs++bW)) H):
  gE P w K mg base CX (k+1) f (acV name qual params body scope cl dV kV doc pm an kq ct) ps sp:=by
 refine⟨len,λA outer s H args us vs Q E hr e0 hb r xp=>?_⟩;have hl:=len _ _ _ _ xp;have old:∀b o,base.get? b=Δ o->s.heap.get? b=Δ o:=λb o e=>(e0.bs b o e).1;have lim:s.heap.NoLimit:=e0.mod.nolimit.keeps old;have MB:s.heap.CodeRec kq qual:=by obtain⟨c,rfl,hc⟩:=qi _ _ _ _ xp;exact(e0.aJ c _ hc).1
 have Ga:∀y∈ps.zip us,scope.names.lookup y.1=Δ .local:=λ⟨n,v⟩ hy=>S.par n (aag hy).1;refine codeAny_call_function hr.depth (old _ _ lk) rfl S.co S.gen rfl MB (hb _ _ _ _ ?_);refine aar S.fP Ga (λdB Lc QH=>⟨lim.fresh _ QH,codeAny_func ?_⟩) S.kind;have hk:∀b o,s.heap.get? b=Δ o->dB.get? b=Δ o:=λb o e=>QH.extBut b o (XR (Xs e)) (Xa _ e);obtain⟨t,ht,hq⟩:=sJ A outer s H vs Q E (hr.deeper _) xp;have I:=CJ (CX:=CX) (qual:=qual) (f:=f) (cd:=kq) (tk:=s.toks+(ps.zip us).length) (E:=E) S C hr.hd e0 hl r Lc hk;refine YY (ht [] _ (start N (vs++bW)) H _ I hq) (λfl s' hs=>?_) λe s' hs=>hs;have fin:∀{cQ:St} {H':Hp} {v:V} {u:Value},Inv (Lb CX P w K mg base N qual scope f kq cl A outer s H E) [] cQ H' s'->RelV v u->Q v H'->CE outer P w H s Q u s':=
  λ{cQ H' v u} J rv q=>⟨v,H',J.os,J.bare,J.base,J.aJ,rv,q⟩
 cases fl with|ret u=>obtain⟨v,cQ,H',J,rv,q⟩:=hs;exact fin J rv q|next=>obtain⟨cQ,H',J,q⟩:=hs;exact fin (v:=V.bz) (u:=Zg) J rfl q|brk=>obtain⟨_,_,_,q⟩:=hs;exact Yz q|cont=>obtain⟨_,_,_,q⟩:=hs;exact Yz q
theorem MC(lk:base.get? f=Δ ⟨oc,od,.func (aco name qual params body scope cl pm kq ct),Iu⟩)(qi:∀vs H Q E,sp vs H Q E->∃c,kq=.ref c/\H c=Δ (.ext (dE c qual)))(S:kH N ps F scope)(C:HL base cl F bW)(len:∀vs H Q E,sp vs H Q E->vs.length=ps.length)(sJ:∀(A:YO) (outer:List Env) (s:Xv) (H:Hp) (vs:List V) (Q:VK) (E:XK),cZ k (A.deeper (zv qual scope s.heap.objs.size f kq cl))->sp vs H Q E->
   ∃t,PE (Lb CX P w K mg base N qual scope f kq cl A outer s H E) body t/\t (start N (vs++bW)) H Q):
  gE P w K mg base CX (k+1) f (aco name qual params body scope cl pm kq ct) ps sp:=by
 refine⟨len,λA outer s H args us vs Q E hr e0 hb r xp=>?_⟩;have hl:=len _ _ _ _ xp;have old:∀b o,base.get? b=Δ o->s.heap.get? b=Δ o:=λb o e=>(e0.bs b o e).1;have lim:s.heap.NoLimit:=e0.mod.nolimit.keeps old;have MB:s.heap.CodeRec kq qual:=by obtain⟨c,rfl,hc⟩:=qi _ _ _ _ xp;exact(e0.aJ c _ hc).1
 have Ga:∀y∈ps.zip us,scope.names.lookup y.1=Δ .local:=λ⟨n,v⟩ hy=>S.par n (aag hy).1;refine PySem.W.kla_callFunE hr.depth (old _ _ lk) rfl S.co S.gen rfl MB (hb _ _ _ _ ?_);refine aar S.fP Ga (λdB Lc QH=>⟨lim.fresh _ QH,PySem.W.kla_codeExpr ?_⟩) S.kind;have hk:∀b o,s.heap.get? b=Δ o->dB.get? b=Δ o:=λb o e=>QH.extBut b o (XR (Xs e)) (Xa _ e);obtain⟨t,ht,hq⟩:=sJ A outer s H vs Q E (hr.deeper _) xp;have I:=CJ (CX:=CX) (qual:=qual) (f:=f) (cd:=kq) (tk:=s.toks+(ps.zip us).length) (E:=E) S C hr.hd e0 hl r Lc hk;refine YY (ht [] _ (start N (vs++bW)) H _ I hq) (λu s' hs=>?_) λe s' hs=>hs;obtain⟨v,H',J,rv,q⟩:=hs;exact⟨v,H',J.os,J.bare,J.base,J.aJ,rv,q⟩
end
open Classical in
noncomputable def gy(H:Hp):Hp:=λb=>match H b with|some (.ext φ)=>if ∃q,φ=dE b q then Δ (.ext φ) else Θ|o=>o
open Classical in
noncomputable def zw(H H2:Hp):Hp:=λb=>match H b with|some (.ext φ)=>if ∃q,φ=dE b q then H2 b else Δ (.ext φ)|_=>H2 b
def BL(b:Addr)(φ:Heap->Prop):Prop:=∀q,φ≠dE b q
theorem jP(h:H b=Θ):gy H b=Θ:=by unfold gy;rw[h]
theorem xE(h:H b=Δ (.ext φ))(hf:BL b φ):gy H b=Θ:=by unfold gy;rw[h];exact if_neg λ⟨q,e⟩=>hf q e
theorem gf(h:H b=Δ (.ext (dE b q))):gy H b=Δ (.ext (dE b q)):=by unfold gy;rw[h];exact if_pos ⟨q,rfl⟩
theorem kI(h:gy H b=Δ o):H b=Δ o/\∀φ,o=.ext φ->¬BL b φ:=by
 unfold gy at h;split at h
 ·rename_i φ e;split at h;·rename_i hq;cases h;obtain⟨q,hq⟩:=hq;exact⟨e,λψ z hf=>by cases z;exact hf q hq⟩
  ·cases h
 ·rename_i fi;exact⟨h,λφ z=>absurd (h.trans (by rw[z])) (fi φ)⟩
theorem br(h:H b=Δ o)(fi:∀φ,o≠.ext φ):gy H b=Δ o:=by unfold gy;rw[h];cases o with|ext φ=>exact absurd rfl (fi φ)|_=>rfl
theorem CL(h:H b=Δ (.ext φ))(hf:BL b φ):zw H H2 b=Δ (.ext φ):=by unfold zw;rw[h];exact if_neg λ⟨q,e⟩=>hf q e
theorem sZ(h:∀φ,H b=Δ (.ext φ)->¬BL b φ):zw H H2 b=H2 b:=by
 unfold zw;split;·rename_i φ q;have:∃q,φ=dE b q:=XG λz=>h φ q λq' e=>z ⟨q',e⟩;exact if_pos this
 ·rfl
noncomputable def qX(h:Heap)(H:Hp)(fs:List Addr):Heap:=PySem.W.hideAll (qS h (gy H)) fs
theorem Gb h H fs:(qX h H fs).objs.size=h.objs.size:=(PySem.W.hideAll_size _ _).trans (vU _ _)
theorem xF(e:h.get? b=Δ o)(n:gy H b=Θ)(hb:b∉fs):(qX h H fs).get? b=Δ o:=PySem.W.hideAll_get _ (yQ e n) hb
theorem MD(e:(qX h H fs).get? b=Δ o):h.get? b=Δ o/\gy H b=Θ:=Cq (PySem.W.of_hideAll _ e)
theorem Gc(hb:b∈fs):(qX h H fs).get? b=Θ:=PySem.W.hideAll_none _ hb
theorem ku.gy{P:Yi}{w:World}{H:Hp}{h:Heap}(x:ku P w H h):ku P w (gy H) h:=λa o e=>by obtain⟨e1,_⟩:=kI e;exact(x a o e1).ni (λ_ _ _ z=>z) (λb z=>br z (λ_ q=>nomatch q)) λb xs z=>br z (λ_ q=>nomatch q)
theorem funFrames_base{h base zx:Heap}:∀{l},(∀b∈jG l,zx.get? b=Θ)->h.FunFrames base l->h.FunFrames zx l
 |[],_,_=>trivial|env::r,hb,⟨hk,⟨L,o,hf,hn,ho,hd⟩,hr⟩=>by
  have e:jG (env::r)=L::jG r:=by unfold jG;rw[Z4,hf]
  rw[e] at hb;exact⟨hk,⟨L,o,hf,hb L Xh,ho,hd⟩,funFrames_base (λb z=>hb b (Xb _ z)) hr⟩
section
variable{X:Cx}{η:List (Addr×Obj)}{σ:St}{H:Hp}{s s':Xv}
theorem Inv.Gd(I:Inv X η σ H s)(e:X.base.get? b=Δ o):(qX s.heap H (jG X.stack)).get? b=Δ o:=by
 obtain⟨h1,h2⟩:=I.bs b o e;refine xF h1 (jP h2) λz=>?_;rcases aai.mp (I.oT b z) with q|q;·have l1:=Xs e;have l2:=I.ok.ET;have l3:=I.ok.above;exact Y3 _ (XD l1 (X5 l2 (by rw[q];exact l3)))
 ·exact I.ok.Ia e q
theorem Inv.Vq(I:Inv X η σ H s):Mod X.K X.mg (qX s.heap H (jG X.stack)):=by have k:∀b o,X.base.get? b=Δ o->(qX s.heap H (jG X.stack)).get? b=Δ o:=λb o e=>I.Gd e;obtain⟨mb,h1,h2⟩:=I.mod.blt;exact⟨I.mod.LI.keeps k,I.mod.glob.keeps k,⟨mb,h1.keeps k,h2⟩,I.mod.nolimit.keeps k⟩
theorem Inv.QI(I:Inv X η σ H s):xm X.prog X.w X.K X.mg (qX s.heap H (jG X.stack)) X.A X.stack s (gy H):=
 ⟨I.ok.frames,I.Vq,λb o e=>MD e,abw (Gb _ _ _),funFrames_base (λb hb=>Gc hb) I.stack,λb hb=>jP (I.nk b hb),I.aJ.gy,I.bare⟩
theorem Inv.ME(I:Inv X η σ H s)(h:CE X.stack X.prog X.w (gy H) s Q u s'):EP X η σ (λv H3=>∃H2,H3=zw H H2/\(∀b φ,H b=Δ (.ext φ)->BL b φ->H2 b=Θ)/\Q v H2) u s':=by
 obtain⟨v,H2,os,bare,un,aJ,r,q⟩:=h;have Ia:∀b φ,H b=Δ (.ext φ)->b∉jG X.stack:=λb φ e z=>by rw[I.nk b z] at e;cases e
 have kept:∀b φ,H b=Δ (.ext φ)->BL b φ->H2 b=Θ/\φ s'.heap/\∃o,s'.heap.get? b=Δ o:=λb φ e hf=>by obtain⟨p1,⟨o,p2⟩,p3⟩:=I.aJ b _ e;have k1:=un.keep b o p2 (xE e hf) (Ia b φ e) (by simp);exact⟨un.free b o p2 (xE e hf) (by simp),p3 _ _ p1 (λo' oS=>by rw[p2] at oS;cases oS;exact k1),o,k1⟩
 have mono:∀b o,H2 b=Δ o->zw H H2 b=Δ o:=λb o e=>by rw[sZ λφ z hf=>by rw[(kept b φ z hf).1] at e;cases e];exact e
 refine I.after ⟨v,zw H H2,os,bare,⟨λb o e n hb hx=>un.keep b o e (jP n) hb hx,λb o e n hb hx=>un.slot b o e (jP n) hb hx,λb o e n hx=>?_,λb o e hx=>un.there b o e hx,λb xs e=>?_,λb o x e=>?_,λb ps e=>?_⟩,λb o e=>?_,r,H2,rfl,λb φ e hf=>(kept b φ e hf).1,q⟩;·rw[sZ λφ z _=>by rw[n] at z;cases z];exact un.free b o e (jP n) hx
 ·exact mono _ _ (un.sx b xs (br e (λ_ z=>nomatch z)))
 ·exact mono _ _ (un.oR b o x (br e (λ_ z=>nomatch z)))
 ·obtain⟨more,e2⟩:=un.qQ b ps (br e (λ_ z=>nomatch z));exact⟨more,mono _ _ e2⟩
 ·by_cases c:∃φ,H b=Δ (.ext φ)/\BL b φ;·obtain⟨φ,c,hf⟩:=c;rw[CL c hf] at e;cases e;obtain⟨_,_,p3⟩:=I.aJ b _ c;obtain⟨_,k2,k3⟩:=kept b φ c hf;exact⟨k2,k3,p3⟩
  ·rw[sZ λφ z hf=>c ⟨φ,z,hf⟩] at e;exact(aJ b o e).ni (λ_ _ _ z=>z) (λb' z=>mono _ _ z) λb' xs z=>mono _ _ z
theorem IZ(I:Inv X η σ H s)(F:gE X.prog X.w X.K X.mg (qX s.heap H (jG X.stack)) u7 k f fd ps sp)(hr:cZ k X.A)(hb:acd s fd ⟨us,[]⟩ (ps.zip us))(r:aS vs us)(h:sp vs (gy H) Q E0):wpAny (model X.prog X.w) X.A (call (.ref f) us) (EP X η σ (λv H3=>∃H2,H3=zw H H2/\(∀b φ,H b=Δ (.ext φ)->BL b φ->H2 b=Θ)/\Q v H2)) X.xe s:=by refine acX (abu (F.run X.A X.stack s (gy H) ⟨us,[]⟩ us vs Q E0 hr I.QI hb r h) λr s' hq=>?_);cases r with|error e=>exact Yz hq|ok fl=>cases fl with|ret u=>exact I.ME hq|next=>exact Yz hq|brk=>exact Yz hq|cont=>exact Yz hq
def MF(X:Cx)(i:Nat)(t:TA):TE:=λσ H Q=>∃a,σ[i]?=Δ (Δ (.ref a))/\(∃oc od fd sl,X.base.get? a=Δ ⟨oc,od,.func fd,sl⟩)/\t σ H λvs H1=>∃k fd ps sp,gE X.prog X.w X.K X.mg X.base u7 k a fd ps sp/\cZ k X.A/\Binds X.K fd ps []/\sp vs H1 Q E0
theorem Ge(hN:X.N[i]?=Δ x)(hv:Pe X.env.scope x)(ha:PA X (e::es) t)(hd:(x==("__debug__":Str))=Ξ:=by decide)(qi:(x==("__classdict__":Str))=Ξ:=by decide)(he:XO (e::es) X.env=(Ξ,eval e X.env)::XO es X.env:=by rfl)(yG:(Zm pos (XO es X.env)).any (·.1)=Ξ:=by rfl):
  PE X (.Call (.Name x p) (e::es) [] pos) (MF X i t):=by
 intro η s σ H Q I h;obtain⟨a,ea,⟨oc,od,fd0,sl,eo⟩,h⟩:=h;refine YG (YY (Ba (pos:=p) hN hv hd qi η s σ H (λv H'=>v=.ref a/\H'=H) I ⟨_,ea,rfl,rfl⟩) (λu s0 ⟨v,H0,I0,rv,ev,eH⟩=>?_) λ_ _ z=>z);subst ev;subst eH;obtain rfl:u=XM a:=rv;have QJ:∀{η:List (Addr×Obj)} {σ:St} {H:Hp} {s:Xv},Inv X η σ H s->PySem.W.FnAt a s.heap:=λJ=>⟨oc,od,fd0,sl,J.bk _ _ eo⟩;refine PySem.W.callWith_F (QJ I0) (bS (ha pos η s0 σ H0 _ I0 h) λus s1 ⟨vs,H1,I1,r,k,fd,ps,sp,F,hr,hb,q⟩=>⟨QJ I1,?_⟩) he yG;exact sH F hr hb (dvs:=[]) (ds:=[]) (E:=E0) .nil (λ_ _ _ _ _ _ _ z=>z.elim) I1 r (by rw[Yf];exact q)
end
def fK(H:Hp)(bU:List (Pos×Str))(ps:Array Value):Prop:=abx ps.toList/\∀p∈bU,∀cv,Z5 p.1 ps.toList=Δ cv->∃c,cv=.ref c/\H c=Δ (.ext (dE c p.2))
noncomputable def BMain(mg:Str->Option Value)(B:Heap):Prop:=∃bm ob,mg "__builtins__"=Δ (.ref bm)/\bm≠ab9/\B.get? bm=Δ ob/\ob.cls=.type "module"/\ob.dict=Δ ab9/\ob.data=.plain
structure Made(H H':Hp)(P f c:Addr)(bU:List (Pos×Str))(q:Str)(φ:Heap->Prop):Prop where
 fresh:H f=Θ
 fn:H' f=Δ (.ext φ)
 code:H' c=Δ (.ext (dE c q))
 tab:∃ps,H' P=Δ (.fG ps)/\fK H' bU ps
 keep:∀b u,H b=Δ u->b≠P->H' b=Δ u
 grow:∀ps,H P=Δ (.fG ps)->∃more,H' P=Δ (.fG (ps++more))
 new:∀b,H b=Θ->H' b=Θ\/∃ψ,H' b=Δ (.ext ψ)
theorem nK:∀(l),abx l->abx (l++[.int i ti,.int j tj,c])
 |[],_=>trivial|.int _ _::.int _ _::_::rest,h=>nK rest h
theorem me{pos p:Pos}(fi:¬(p.line=pos.line/\p.col=pos.col)):∀(l),abx l->Z5 pos (l++[Zl p.line,Zl p.col,c])=Z5 pos l
 |[],_=>by show(if((p.line:Int)==(pos.line:Int)&&(p.col:Int)==(pos.col:Int))=Λ then Δ c else Θ)=Θ;rw[if_neg];rw[W9,beq_iff_eq,beq_iff_eq];rintro⟨a,b⟩;exact fi ⟨by lia,by lia⟩
 |.int a ta::.int b tb::d::rest,h=>by have ih:=me (c:=c) fi rest h;simp only[Y0,Z5];rw[ih]
theorem qY l(h:abx l)(hn:Z5 p l=Θ):Z5 p (l++[Zl p.line,Zl p.col,c])=Δ c:=codeAmong_snoc l h hn
theorem zy{p:Pos}(h:abx l):abx (l++[Zl p.line,Zl p.col,c]):=nK l h
def Apart(bU:List (Pos×Str)):Prop:=∀p∈bU,∀q∈bU,p.1.line=q.1.line/\p.1.col=q.1.col->p=q
section
variable{X:Cx}{η:List (Addr×Obj)}{σ:St}{H:Hp}{s:Xv}
theorem Inv.zA(Vr:fo.isFreed=Ξ)(I:Inv X η σ H s)(hP:H P=Δ (.fG ps))(tb:fK H bU ps)(hs:(pos,q)∈bU)(ap:Apart bU)(hnf:Z5 pos ps.toList=Θ)(hx:Heap.ExtBut P s.heap h')(MG:s.heap.objs.size<=c')(eZ:c' < h'.objs.size)(xG:h'.CodeRec (.ref c') q)(OT:h'.get? P=Δ (Z6 (ps++#[Zl pos.line,Zl pos.col,.ref c'])))(hf:f=h'.objs.size)φ(h1:φ (h'.push fo))(h2:∀g1 g2:Heap,φ g1->(∀o,g1.get? f=Δ o->g2.get? f=Δ o)->φ g2):
  ∃H',Inv X η σ H' {s with heap:=h'.push fo,toks:=tk}/\Made H H' P f c' bU q φ:=by
 have MH:s.heap.get? P=Δ (Z6 ps):=I.aJ P _ hP;have lP:P < s.heap.objs.size:=Xs MH;have fr:∀b,s.heap.objs.size<=b->H b=Θ:=λb hb=>I.aJ.fresh hb;have lcf:c' < f:=by rw[hf];exact eZ
 have MI:s.heap.objs.size < f:=Nat.lt_of_le_of_lt MG lcf;have nPc:c'≠P:=Yr (XD lP MG);have nPf:f≠P:=Yr (aaZ lP MI);have ncf:f≠c':=Yr lcf;have Tb:∀b,b < s.heap.objs.size->b≠c'/\b≠f:=λb hb=>⟨XR (XD hb MG),XR (aaZ hb MI)⟩;obtain⟨cc,oc,vs,tt,ecc,LK,hd,hv⟩:=xG;cases ecc
 let H':Hp:=upd (upd (upd H P (.fG (ps++#[Zl pos.line,Zl pos.col,.ref c']))) c' (.ext (dE c' q))) f (.ext φ)
 have eP:H' P=Δ (.fG (ps++#[Zl pos.line,Zl pos.col,.ref c'])):=by show upd _ _ _ P=_;rw[ax (Yj nPf),ax (Yj nPc),aC]
 have ec:H' c'=Δ (.ext (dE c' q)):=by show upd _ _ _ c'=_;rw[ax (Yj ncf),aC]
 have ef:H' f=Δ (.ext φ):=aC;have eo:∀b,b≠P->b≠c'->b≠f->H' b=H b:=λb n1 n2 n3=>by show upd _ _ _ b=_;rw[ax n3,ax n2,ax n1]
 have hsf:s.heap.objs.size<=f:=aay MI;have hold:∀b u,H b=Δ u->b≠P->H' b=Δ u:=λb u e n=>by
  have hb:b < s.heap.objs.size:=by
   rcases Nat.lt_or_ge b s.heap.objs.size with z|z;·exact z
   ·rw[fr b z] at e;cases e
  rw[eo b n (Tb b hb).1 (Tb b hb).2];exact e
 have kp:∀b o,b≠P->s.heap.get? b=Δ o->(h'.push fo).get? b=Δ o:=λb o n e=>Xa _ (hx b o n e);refine⟨H',I.E6 (ch:=[]) rfl ⟨λb o e n _ _=>?_,λb o e n _ _=>⟨o.slots,?_⟩,λb o e n _=>?_,λb o e _=>?_,λb xs e=>?_,λb o x e=>?_,λb qs e=>?_⟩ (λb o e=>?_) I.bare (λb z=>absurd z (by simp)),⟨fr f hsf,ef,ec,⟨_,eP,?_,?_⟩,hold,λqs e=>⟨#[Zl pos.line,Zl pos.col,.ref c'],?_⟩,λb n=>?_⟩⟩;·exact kp b o (λz=>by rw[z,hP] at n;cases n) e
 ·exact kp b o (λz=>by rw[z,hP] at n;cases n) e
 ·have lb:=Xs e;rw[eo b (λz=>by rw[z,hP] at n;cases n) (Tb b lb).1 (Tb b lb).2];exact n
 ·by_cases z:b=P;·subst z;exact⟨_,Xa _ OT⟩
  ·exact⟨o,kp b o z e⟩
 ·exact hold b _ e λz=>by rw[z,hP] at e;cases e
 ·exact hold b _ e λz=>by rw[z,hP] at e;cases e
 ·by_cases z:b=P;·subst z;rw[hP] at e;cases e;exact⟨_,eP⟩
  ·exact⟨#[],by rw[hold b _ e z];simp⟩
 ·by_cases z1:b=f;·subst z1;rw[ef] at e;cases e;exact⟨h1,⟨fo,by rw[hf];exact Xq _ Vr⟩,h2⟩
  ·by_cases z2:b=c';·subst z2;rw[ec] at e;cases e;refine⟨⟨b,oc,vs,tt,rfl,Xa _ LK,hd,hv⟩,⟨oc,Xa _ LK⟩,λg1 g2 ⟨c2,o2,v2,t2,e2,a2,r2⟩ k=>?_⟩;cases e2;exact⟨b,o2,v2,t2,rfl,k _ a2,r2⟩
   ·by_cases z3:b=P;·subst z3;rw[eP] at e;cases e;exact Xa _ OT
    ·rw[eo b z3 z2 z1] at e;refine(I.aJ b o e).ni (λb' u iP eu=>?_) (λb' z=>hold b' _ z λy=>by rw[y,hP] at z;cases z) λb' xs z=>hold b' _ z λy=>by rw[y,hP] at z;cases z
     refine kp b' u (λy=>?_) eu;rcases iP with w1|w1;·exact z3 (w1▸y)
     ·rw[y,hP] at w1;cases w1
 ·rw[Array.toList_append];exact zy tb.1
 ·intro p hp cv A6;rw[Array.toList_append] at A6;by_cases z:pos.line=p.1.line/\pos.col=p.1.col;·have e:=ap (pos,q) hs p hp z;subst e;have:Z5 pos (ps.toList++[Zl pos.line,Zl pos.col,.ref c'])=Δ (.ref c'):=qY _ tb.1 hnf;have QK:Z5 pos (ps.toList++[Zl pos.line,Zl pos.col,.ref c'])=Δ cv:=A6;rw[this] at QK;cases QK;exact⟨c',rfl,ec⟩
  ·have:Z5 p.1 (ps.toList++[Zl pos.line,Zl pos.col,.ref c'])=Δ cv:=A6;rw[me z _ tb.1] at this;obtain⟨c,e1,e2⟩:=tb.2 p hp cv this;exact⟨c,e1,hold c _ e2 λy=>by rw[y,hP] at e2;cases e2⟩
 ·rw[hP] at e;cases e;exact eP
 ·by_cases z1:b=f;·subst z1;exact .inr ⟨_,ef⟩
  ·by_cases z2:b=c';·subst z2;exact .inr ⟨_,ec⟩
   ·have z3:b≠P:=λy=>by rw[y,hP] at n;cases n
    rw[eo b z3 z2 z1];exact .inl n
theorem Inv.zB{h':Heap}(Vr:fo.isFreed=Ξ)(I:Inv X η σ H s)(hP:H P=Δ (.fG ps))(tb:fK H bU ps)(qi:H c'=Δ (.ext (dE c' q)))(hk:∀b o,s.heap.get? b=Δ o->h'.get? b=Δ o)(hsz:s.heap.objs.size<=h'.objs.size)(hf:f=h'.objs.size)φ(h1:φ (h'.push fo))(h2:∀g1 g2:Heap,φ g1->(∀o,g1.get? f=Δ o->g2.get? f=Δ o)->φ g2):
  ∃H',Inv X η σ H' {s with heap:=h'.push fo,toks:=tk}/\Made H H' P f c' bU q φ:=by
 have MI:s.heap.objs.size<=f:=by rw[hf];exact hsz
 have hn:H f=Θ:=I.aJ.fresh MI;have kp:∀b o,s.heap.get? b=Δ o->(h'.push fo).get? b=Δ o:=λb o e=>Xa _ (hk b o e);have hold:∀b u,H b=Δ u->upd H f (.ext φ) b=Δ u:=λb u e=>by rw[ax (aM e hn)];exact e
 refine⟨upd H f (.ext φ),I.E6 (ch:=[]) rfl (Un.laid kp MI hn) (I.aJ.laid kp MI ⟨h1,⟨fo,by rw[hf];exact Xq _ Vr⟩,h2⟩) I.bare (λb z=>absurd z (by simp)),⟨hn,aC,hold _ _ qi,⟨ps,hold _ _ hP,tb.1,λp hp cv A6=>?_⟩,λb u e _=>hold b u e,λqs e=>⟨#[],by rw[hold _ _ e];simp⟩,λb n=>?_⟩⟩;·obtain⟨c,e1,e2⟩:=tb.2 p hp cv A6;exact⟨c,e1,hold _ _ e2⟩
 ·by_cases z:b=f;·subst z;exact .inr ⟨_,aC⟩
  ·rw[ax z];exact .inl n
structure Maker(X:Cx)(c P:Addr)(bU:List (Pos×Str)):Prop where
 code:X.env.code=.ref c
 hd:Zn X.base c P
 bm:BMain X.mg X.base
 ap:Apart bU
theorem Maker.bt(M:Maker X c P bU)(I:Inv X η σ H s)(hP:H P=Δ (.fG ps)):Xu≠P/\s.heap.BuiltinsAt X.mg P:=by
 obtain⟨bm,ob,b1,b2,b3,b4,b5,b6⟩:=M.bm;obtain⟨og,es,ep,g1,g2,_⟩:=I.mod.glob;have n1:Xu≠P:=λz=>by have:=(I.bs _ _ g1).2;rw[z,hP] at this;cases this
 have n2:bm≠P:=λz=>by have:=(I.bs _ _ b3).2;rw[z,hP] at this;cases this
 have n3:bm≠Xu:=λz=>by rw[z,g1] at b3;cases b3;rw[g2] at b6;cases b6
 exact⟨n1,bm,ob,b1,b2,n3,n2,I.bk _ _ b3,b4,b5,b6⟩
noncomputable def Vs(f:Addr)(qual:Str)(params:ZR)(body:Expr)(scope:Scope)(BM:List (Str×Addr))(pm:Value)(c:Addr)(ct:Value):Heap->Prop:=λh=>h.get? f=Δ (PySem.W.kla_obj "<lambda>" qual params body scope BM pm c ct)
def Vt(X:Cx)(P:Addr)(bU:List (Pos×Str))(qual:Str)(φ:Addr->Addr->Value->Heap->Prop):TE:=λσ H Q=>∃ps,H P=Δ (.fG ps)/\fK H bU ps/\
 ∀f c ct H',Made H H' P f c bU qual (φ f c ct)->Q (.ref f) H'
theorem MJ(M:Maker X c P bU)(hs:(pos,X.env.qual++"<lambda>")∈bU)(Vu:defaultsOf params X.env=([],[]))(u9:aby scope X.env=pure BM)(h1:∀f c ct h,Vs f (X.env.qual++"<lambda>") params body scope BM ((X.mg "__name__").getD .none) c ct h->φ f c ct h)(h2:∀f c ct (g1 g2:Heap),φ f c ct g1->(∀o,g1.get? f=Δ o->g2.get? f=Δ o)->φ f c ct g2):
  PE X (.Lambda params body scope pos) (Vt X P bU (X.env.qual++"<lambda>") φ):=by
 intro η s σ H Q I h;obtain⟨ps,hP,tb,h⟩:=h;have MH:s.heap.get? P=Δ (Z6 ps):=I.aJ P _ hP;obtain⟨Vv,hb⟩:=M.bt I hP;have hg:s.heap.Ns Xu X.mg:=I.mod.glob.keeps I.bk;refine PySem.W.kla_eval Vu ?_;cases hf:Z5 pos ps.toList with|none=>refine PySem.W.kla_makeFunction u9 I.ok.glob hg M.code (M.hd.keeps I.bk) MH tb.1 hf Vv hb λc' MK h' tk hx MG eZ xG OT=>?_;obtain⟨H',I',md⟩:=Inv.zA rfl I (f:=h'.objs.size) (tk:=tk) hP tb hs M.ap hf hx MG eZ xG OT rfl (φ h'.objs.size c' MK) (h1 _ _ _ _ (Xq _ rfl)) (h2 _ _ _);exact⟨.ref h'.objs.size,H',I',rfl,h _ _ _ _ md⟩|some cv=>obtain⟨c',rfl,qi⟩:=tb.2 _ hs cv hf;refine PySem.W.kla_makeFunctionHit u9 I.ok.glob hg M.code (M.hd.keeps I.bk) MH tb.1 hf hb λMK h' tk hk hsz=>?_;obtain⟨H',I',md⟩:=Inv.zB rfl I (f:=h'.objs.size) (tk:=tk) hP tb qi hk hsz rfl (φ h'.objs.size c' MK) (h1 _ _ _ _ (Xq _ rfl)) (h2 _ _ _);exact⟨.ref h'.objs.size,H',I',rfl,h _ _ _ _ md⟩
noncomputable def Vw(f:Addr)(name qual:Str)(params:ZR)(body:List Stmt)(scope:Scope)(BM:List (Str×Addr))(doc pm:Value)(c:Addr)(ct:Value):Heap->Prop:=λh=>h.get? f=Δ (PySem.W.fnMade name qual params body scope BM doc pm c ct)
def Vx(X:Cx)(i:Nat)(P:Addr)(bU:List (Pos×Str))(qual:Str)(φ:Addr->Addr->Value->Heap->Prop):TS:=λD σ H=>∃ps,H P=Δ (.fG ps)/\fK H bU ps/\
 ∀f c ct H',Made H H' P f c bU qual (φ f c ct)->D.nx (σ.set i (Δ (.ref f))) H'
theorem ML(M:Maker X c P bU)(hs:(pos,aa9 X.env name name)∈bU)(hd0:params.defaults=[])(QL:params.kw_defaults=[])(ha:annTrees params Θ X.env=[])(u9:aby scope X.env=pure BM)(hN:X.N.Nodup)(hi:X.N[i]?=Δ name)(hx:Loc X.env.scope name)(EU:X.fn name=Λ\/X.env.scope.names.lookup name=Δ .local)(h1:∀f c ct doc h,Vw f name (aa9 X.env name name) params body scope BM doc ((X.mg "__name__").getD .none) c ct h->φ f c ct h)(h2:∀f c ct (g1 g2:Heap),φ f c ct g1->(∀o,g1.get? f=Δ o->g2.get? f=Δ o)->φ f c ct g2):
  PS X (.FunctionDef name params body [] Θ [] scope Θ name pos) (Vx X i P bU (aa9 X.env name name) φ):=by
 intro η s σ H D I h;obtain⟨ps,hP,tb,h⟩:=h;have MH:s.heap.get? P=Δ (Z6 ps):=I.aJ P _ hP;obtain⟨Vv,hb⟩:=M.bt I hP;have hg:s.heap.Ns Xu X.mg:=I.mod.glob.keeps I.bk;refine PySem.W.nestDef_K hd0 QL ha ?_;cases hf:Z5 pos ps.toList with|none=>refine PySem.W.makeFunction_K u9 I.ok.glob hg M.code (M.hd.keeps I.bk) MH tb.1 hf Vv hb λc' MK doc h' tk yI MG eZ xG OT=>?_;obtain⟨H',I',md⟩:=Inv.zA rfl I (f:=h'.objs.size) (tk:=tk) hP tb hs M.ap hf yI MG eZ xG OT rfl (φ h'.objs.size c' MK) (h1 _ _ _ doc _ (Xq _ rfl)) (h2 _ _ _);exact nq I' hN hi hx (v:=.ref h'.objs.size) rfl (λs' I2=>⟨_,H',I2,h _ _ _ _ md⟩) EU|some cv=>obtain⟨c',rfl,qi⟩:=tb.2 _ hs cv hf;refine PySem.W.makeFunction_hit u9 I.ok.glob hg M.code (M.hd.keeps I.bk) MH tb.1 hf hb λMK doc h' tk hk hsz=>?_;obtain⟨H',I',md⟩:=Inv.zB rfl I (f:=h'.objs.size) (tk:=tk) hP tb qi hk hsz rfl (φ h'.objs.size c' MK) (h1 _ _ _ doc _ (Xq _ rfl)) (h2 _ _ _);exact nq I' hN hi hx (v:=.ref h'.objs.size) rfl (λs' I2=>⟨_,H',I2,h _ _ _ _ md⟩) EU
end
def CM(tabs:List (Addr×Addr))(H:Hp):Prop:=(∀b,H b=Θ\/(∃o xs,H b=Δ (.dA o (.lst xs)))\/(H b=Δ (.fG #[])/\b∈tabs.map (·.2)))/\∀q∈tabs,H q.2=Δ (.fG #[])
theorem DX{K:Xm}{sp:Heap->Sp}(KX:K.In bA.heap)(Lc:bA.heap.Ns Xu mg)(hb:bA.heap.Ns ab9 mb)(hbb:∀x:Str,x≠"__name__"->mb x=aaw x)(Vy:bA.heap.NoLimit)(hg:bA.gens=#[])(hT:PySem.W.TabsAt tabs bA.heap)(Vz:tabs≠[]->aaS K=Λ)(hbm:BMain mg bA.heap)(ha:bA.heap.get? a=Δ {cls:=.type "list",data:=.seq vs.toArray})(hi:acL vs ns)(hl:ns.length<=XE)(hr:cZ k acs)(F:∀base:Heap,K.In base->base.Ns Xu mg->(∀q∈tabs,Zn base q.1 q.2)->BMain mg base->gE P w K mg base CX k fa fd [x] (sp base))(Gf:∀(s:Xv) (u:Value),acd s fd ⟨[u],[]⟩ [(x,u)])(xp:∀(base:Heap) (H:Hp),(∀q∈tabs,Zn base q.1 q.2)->BMain mg base->CM tabs H->lT K H a (ns.map V.int)->sp base [.ref a] H (λv _=>v=.bl Λ) λ_ _ _=>False)(VA:∀H e s',CX [] H bA (λ_ _ _=>False) e s'->False):
  abh (model P w) acs (.call (.ref fa) ⟨[.ref a],[]⟩) (λr s'=>r=.ok (.ret (.bool Λ))/\OldK bA.heap s'.heap/\s'.os=bA.os/\abK s'.gens) bA:=by
 have rv:=v8 hi;have VB:=hi.length;have DY:∀b,b∈tabs.map (·.2)->bA.heap.get? b=Δ (Z6 #[]):=λb hb=>by obtain⟨q,hq,rfl⟩:=Y7.mp hb;exact(hT q hq).2
 have aT:a∉tabs.map (·.2):=λz=>by have:=DY a z;rw[ha] at this;cases this
 have core:∀H:Hp,CM tabs H->lT K H a (ns.map V.int)->ku P w H bA.heap->(∀b,H b≠Θ->b=a\/b∈tabs.map (·.2))->(H a≠Θ->K.lookup a=Θ)->
   abh (model P w) acs (.call (.ref fa) ⟨[.ref a],[]⟩) (λr s'=>r=.ok (.ret (.bool Λ))/\OldK bA.heap s'.heap/\s'.os=bA.os/\abK s'.gens) bA:=by
  intro H hO hS aJ hA hK;have rU:∀{b:Addr} {o:Obj},bA.heap.get? b=Δ o->H b=Θ->(qS bA.heap H).get? b=Δ o:=λe n=>yQ e n;have HI:∀{b:Addr} {o:Obj},bA.heap.get? b=Δ o->o.cls≠.none->(∀its n,o.data≠.seq its n)->H b=Θ:=λ{b o} e d1 d2=>by
   cases q:H b with
   |none=>rfl|some u=>
    rcases hA b (by rw[q];simp) with e'|e';·subst e';rw[ha] at e;cases e;exact absurd rfl (d2 _ _)
    ·rw[DY b e'] at e;cases e;exact absurd rfl d1
  have noD:∀{b:Addr} {o:Obj} {es:Array DictEntry} {ep:Nat},bA.heap.get? b=Δ o->o.data=.dict es ep->H b=Θ:=λ{b o es ep} e d=>by
   cases q:H b with
   |none=>rfl|some u=>
    rcases hA b (by rw[q];simp) with e'|e';·subst e';rw[ha] at e;cases e;cases d
    ·rw[DY b e'] at e;cases e;cases d
  have Tc:∀{b:Addr} {m:Str->Option Value},bA.heap.Ns b m->(qS bA.heap H).Ns b m:=λ{b m} ⟨o,es,ep,e,d,r⟩=>⟨o,es,ep,rU e (noD e d),d,r⟩;have hKb:K.In (qS bA.heap H):=λb o e=>rU (KX b o e) (by
   cases q:H b with
   |none=>rfl|some u=>
    rcases hA b (by rw[q];simp) with e'|e';·subst e';rw[hK (by rw[q];simp)] at e;cases e
    ·have e2:=KX b o e;rw[DY b e'] at e2;cases e2;have h2:=Y2.mp (Vz λz=>by rw[z] at e';cases e') _ (PySem.W.mem_of_lookupK e);exact absurd (show Ξ=Λ from h2) Yc)
  have hM:Mod K mg (qS bA.heap H):=⟨hKb,Tc Lc,⟨mb,Tc hb,hbb⟩,let ⟨mc,h1,h2⟩:=Vy;⟨mc,Tc h1,h2⟩⟩;have e0:xm P w K mg (qS bA.heap H) acs [] bA H:=⟨rfl,hM,λb o e=>Cq e,abw (vU _ _),trivial,λb hb=>absurd (show b∈([]:List Addr) from hb) (by simp),aJ,.of_eq hg⟩;have qi:∀q∈tabs,Zn (qS bA.heap H) q.1 q.2:=λq hq=>by obtain⟨o,us,file,tf,flags,tg,inF,text,tt,e1,r1,r2,r⟩:=(hT q hq).1;exact⟨o,us,file,tf,flags,tg,inF,text,tt,rU e1 (HI e1 (by rw[r1];nofun) (by rw[r2];nofun)),r1,r2,r⟩
  have QM:BMain mg (qS bA.heap H):=by obtain⟨bm,ob,b1,b2,b3,b4,b5,b6⟩:=hbm;exact⟨bm,ob,b1,b2,rU b3 (HI b3 (by rw[b4];nofun) (by rw[b6];nofun)),b4,b5,b6⟩
  refine abu ((F _ hKb (Tc Lc) qi QM).run acs [] bA H ⟨[.ref a],[]⟩ [.ref a] [.ref a] _ _ hr e0 (Gf bA (.ref a)) (.cons rfl .nil) (xp _ H qi QM hO hS)) λr s' h=>?_;cases r with
  |error e=>exact(VA H e s' h).elim|ok fl=>
   cases fl with
   |next=>exact Yz h|brk=>exact Yz h|cont=>exact Yz h|ret u=>
    obtain⟨v,H',os,bare,un,QN,r',q⟩:=h;have q':v=.bl Λ:=q;subst q';obtain rfl:u=aaH Λ:=r';have way:∀b o,bA.heap.get? b=Δ o->s'.heap.get? b=Δ o\/(isCodeTable bA.heap b/\o=Z6 #[]/\∃ps,s'.heap.get? b=Δ (Z6 ps)):=λb o e=>by
     rcases hO.1 b with z|⟨ob,xs,z⟩|⟨z,zt⟩;·exact .inl (un.keep b o e z (by intro z;exact absurd (show b∈([]:List Addr) from z) (by simp)) (by simp))
     ·have z2:=un.oR b ob _ z;obtain⟨e1,_⟩:=aJ b _ z;obtain⟨e2,_⟩:=QN b _ z2;rw[e] at e1;cases e1;exact .inl e2
     ·obtain⟨more,z2⟩:=un.qQ b _ z;have e2:=QN b _ z2;have e3:=DY b zt;rw[e] at e3;obtain⟨q,hq,rfl⟩:=Y7.mp zt;exact .inr ⟨((hT q hq).1.tab (hT q hq).2).isCodeTable,XU e3,_,e2⟩
    refine⟨rfl,⟨λb o e=>?_,λb o e=>?_⟩,os,bare⟩
    ·rcases way b o e with z|⟨z1,rfl,ps,z2⟩;·exact .inl z
     ·exact .inr (.inl ⟨z1,rfl,#[],ps,rfl,by rw[Array.empty_append];exact z2⟩)
    ·rcases way b o e with z|⟨_,_,ps,z2⟩;·exact⟨o,z⟩
     ·exact⟨_,z2⟩
 have tb:∀(b:Addr) (u:HO),u=.fG #[]->b∈tabs.map (·.2)->∀H:Hp,bG P w H bA.heap b u:=λb u e hb H=>by rw[e];exact DY b hb
 let H0:Hp:=λb=>if b∈tabs.map (·.2) then Δ (.fG #[]) else Θ
 cases hk:K.lookup a with
 |some o=>
  have e:=KX a o hk;rw[ha] at e;cases e;refine core H0 ⟨λb=>?_,λq hq=>if_pos (aaB hq)⟩ (.inr ⟨_,vs.toArray,_,hk,rfl,rfl,rfl,by rw[Xp,VB];exact hl,by simpa using rv⟩) (λb u z=>?_) (λb z=>.inr ?_) λz=>absurd (if_neg aT) z
  ·by_cases hb:b∈tabs.map (·.2);·exact .inr (.inr ⟨if_pos hb,hb⟩)
   ·exact .inl (if_neg hb)
  ·by_cases hb:b∈tabs.map (·.2);·have z':=(if_pos hb).symm.trans z;exact tb b u (XU z').symm hb _
   ·have z':=(if_neg hb).symm.trans z;cases z'
  ·by_cases hb:b∈tabs.map (·.2);·exact hb
   ·exact absurd (if_neg hb) z
 |none=>
  let H1:Hp:=λb=>if b=a then Δ (.dA {cls:=.type "list",data:=.seq vs.toArray} (.lst (ns.map V.int))) else H0 b
  have Td:∀b,b≠a->H1 b=H0 b:=λb hb=>if_neg hb;refine core H1 ⟨λb=>?_,λq hq=>?_⟩ (.inl (.inr ⟨{cls:=.type "list",data:=.seq vs.toArray},if_pos rfl⟩)) (λb u z=>?_) (λb z=>?_) λ_=>hk
  ·by_cases hb:b=a;·exact .inr (.inl ⟨_,_,if_pos hb⟩)
   ·rw[Td b hb];by_cases we:b∈tabs.map (·.2);·exact .inr (.inr ⟨if_pos we,we⟩)
    ·exact .inl (if_neg we)
  ·rw[Td q.2 λz=>aT (z▸aaB hq)];exact if_pos (aaB hq)
  ·by_cases hb:b=a;·have z':=(if_pos hb).symm.trans z;cases z';subst hb;exact⟨ha,by rw[Xf];exact hl,vs,_,rv,ha⟩
   ·rw[Td b hb] at z;by_cases we:b∈tabs.map (·.2);·have z':=(if_pos we).symm.trans z;exact tb b u (XU z').symm we _
    ·have z':=(if_neg we).symm.trans z;cases z'
  ·by_cases hb:b=a;·exact .inl hb
   ·rw[Td b hb] at z;by_cases we:b∈tabs.map (·.2);·exact .inr we
    ·exact absurd (if_neg we) z
theorem Gg{l:aci}{K:Params->Xm}{CX:World->HH}{sp:World->(Str->Option Value)->List (Addr×Addr)->Heap->Sp}xs(hn:l.most=Δ n)(SQ:n<=XE)(P9:d.params.defaults=[])(hr:cZ k acs)(hY:∀(w:World) (h:Heap),YP w h->(K w.params).In h)(xG:∀y∈xs,∃dr,(recsOf q).find? (λe=>e.name==y)=Δ dr)(F:∀(w:World) (mg:Str->Option Value) (fa:Addr) (h:Heap),(K w.params).In h->h.Ns Xu mg->mg d.name=Δ (.ref fa)->
   (xs≠[]->aaS (K w.params)=Λ)/\∃(tabs:List (Addr×Addr)) (fd:Ze),xs.map (Zx (K w.params))=tabs.map Δ/\(∀(s:Xv) (u:Value),acd s fd ⟨[u],[]⟩ [(x,u)])/\
    (∀base:Heap,(K w.params).In base->base.Ns Xu mg->(∀q∈tabs,Zn base q.1 q.2)->BMain mg base->gE l.prog w (K w.params) mg base (CX w) k fa fd [x] (sp w mg tabs base))/\
    ∀(base:Heap) (H:Hp) (a:Addr) (ns:List Int),ns.length<=n->(∀q∈tabs,Zn base q.1 q.2)->BMain mg base->CM tabs H->lT (K w.params) H a (ns.map V.int)->sp w mg tabs base [.ref a] H (λv _=>v=.bl Λ) λ_ _ _=>False)(VA:∀(w:World) (H:Hp) (s:Xv) (e:Value) (s':Xv),CX w [] H s (λ_ _ _=>False) e s'->False):
  PySem.W.WalkO q loose XP YP l.row.toRowW d [] (λf vs=>ac2 f vs):=by
 refine Att.zf hn P9 λw gU bA mg mb fa o pm cd doc a vs ns G Y ho hd qi Qa DO hints hlen hg=>?_;have KX:=hY w _ Y;obtain⟨Vz,tabs,fd,MM,hb,hF,xp⟩:=F w mg fa _ KX G.T.g Qa;have hT:PySem.W.TabsAt tabs bA.heap:=λt ht=>by
  have hm:Δ t∈xs.map (Zx (K w.params)):=by rw[MM];exact aaB ht
  obtain⟨y,hy,e⟩:=Y7.mp hm;obtain⟨dr,hdr⟩:=xG y hy;exact PySem.W.tab_of G.T KX hdr e
 exact DX KX G.T.g G.T.b G.T.builtins G.T.nolimit hg hT (λz=>Vz λy=>z (by rw[y] at MM;exact List.map_eq_nil_iff.mp MM.symm)) G.T.bmain DO hints (X5 hlen SQ) hr hF hb (λbase H h1 h2 h3 h4=>xp base H a ns hlen h1 h2 h3 h4) λH e s'=>VA w H bA e s'
noncomputable def e7(a:ZR)(ps:List Str):Bool:=a.posonlyargs.isEmpty&&a.vararg.isNone&&a.kwonlyargs.isEmpty&&a.kw_defaults.isEmpty&&a.kwarg.isNone&&a.defaults.isEmpty&&decide (a.args.map (·.arg)=ps)&&decide ps.Nodup&&a.args.all λx=>x.annotation.isNone
theorem tm:∀{ps:List Str} {us:List Value},us.length=ps.length->∀n∈ps,((ps.zip us).lookup n).isSome=Λ
 |[],_,_,n,h=>by cases h|p::ps,[],hl,_,_=>by simp at hl|p::ps,u::us,hl,n,h=>by
  rw[aaJ,XH];cases hb:n==p with
  |true=>rfl|false=>
   rcases aai.mp h with e|e;·rw[e] at hb;simp at hb
   ·exact tm (by simpa using hl) n e
theorem mf:∀{ps:List Str} {us} {l:List (Str×Value)},us.length=ps.length->ps.Nodup->(∀n∈ps,l.lookup n=(ps.zip us).lookup n)->ps.filterMap (λn=>(l.lookup n).map λv=>(n,v))=ps.zip us
 |[],us,l,_,_,_=>by simp|p::ps,[],l,hl,_,_=>by simp at hl|p::ps,u::us,l,hl,nd,h=>by
  rw[YK] at nd;have h0:=h p Xh;rw[aaJ,XH,beq_self_eq_true] at h0;have h0':l.lookup p=Δ u:=h0;rw[Z4,h0',aaJ];show(p,u)::_=_;congr 1;refine mf (by simpa using hl) nd.2 λn hn=>?_;have:=h n (Xb _ hn);rw[aaJ,XH] at this;have hb:(n==p)=Ξ:=by rw[beq_eq_false_iff_ne];exact λz=>nd.1 (z▸hn)
  rw[hb] at this;exact this
theorem iQ(ha:e7 fd.params ps=Λ)(hd:fd.defaults=.none)(hl:us.length=ps.length):ac0 fd ⟨us,[]⟩=pure (ps.zip us):=by
 obtain⟨fname,fq,VC,fbody,fsc,fgl,fcl,nL,fkw,fdoc,fpm,fan,fcd,fct,fbi⟩:=fd;obtain⟨po,as,va,ko,kd,ka,df⟩:=VC;dsimp only at ha hd;unfold e7 at ha;simp only[W9,Xr,YQ,qqq] at ha;obtain⟨⟨⟨⟨⟨⟨⟨⟨rfl,rfl⟩,rfl⟩,rfl⟩,rfl⟩,rfl⟩,e⟩,nd⟩,_⟩:=ha;have q:seqItems? Zg=pure Θ:=rfl;have m0:((as.map (·.arg)).take (as.map (·.arg)).length).filter (λn=>(((as.map (·.arg)).zip us).lookup n).isNone)=[]:=by rw[Zu];intro n hn hc;have E5:n∈as.map (·.arg):=List.mem_of_mem_take hn;have:=tm (us:=us) (by rw[e];exact hl) n E5;cases hx:((as.map (·.arg)).zip us).lookup n with|none=>rw[hx] at this;cases this|some v=>rw[hx] at hc;cases hc
 have g0:¬(us.length > (as.map (·.arg)).length):=by rw[e];lia
 have z0:(as.map (·.arg)).filterMap (λn=>(((as.map (·.arg)).zip us).lookup n).map λv=>(n,v))=(as.map (·.arg)).zip us:=mf (by rw[e];exact hl) (by rw[e];exact nd) λ_ _=>rfl;unfold ac0;simp only[hd,q,Zi,Zp,aau,pure_bind,abY,YM,Nat.sub_zero,List.drop_nil,Nat.zero_sub,m0,List.isEmpty_nil,Bool.not_true,XZ,if_false,List.zip_nil_right,Yf,z0];have g1:(decide (us.length > (as.map (·.arg)).length)&&(Θ:Option Arg).isNone)=Ξ:=by rw[decide_eq_false g0];rfl
 simp[g0,m0,z0,e];intro h
 lia
noncomputable def iR(cells:List (Str×Addr)):List (Str×ZT)->List (Str×Addr)->List (Str×Addr)
 |[],acc=>acc|(x,k)::r,acc=>if k=.free then iR cells r ((x,(cells.lookup x).getD 0)::acc) else iR cells r acc
theorem mG:∀{names} {acc},(∀x,(x,XA)∈names->∃c,env.cells.lookup x=Δ c)->
  (forIn names acc λ(p:Str×ZT) (cs:List (Str×Addr))=>(match p with|(name,kind)=>if(kind==XA)=Λ then do {let c<-acR env name;pure (YX ((name,c)::cs))} else pure (YX cs):Sem (ForInStep (List (Str×Addr)))))=pure (iR env.cells names acc)
 |[],acc,_=>rfl|(x,k)::r,acc,h=>by
  rw[ZN];by_cases hk:k=.free
  ·subst hk;obtain⟨c,hc⟩:=h x Xh;have e:acR env x=pure c:=by unfold acR;rw[hc]
   simp only[beq_self_eq_true,if_true,e,pure_bind];rw[mG λy hy=>h y (Xb _ hy)];simp only[iR,if_true,hc,abX]
  ·have hb:(k==XA)=Ξ:=by rw[beq_eq_false_iff_ne];exact hk
   simp only[hb,XZ,if_false,pure_bind];rw[mG λy hy=>h y (Xb _ hy)];simp only[iR,if_neg hk]
theorem mh(h:∀x,(x,XA)∈scope.names->∃c,env.cells.lookup x=Δ c):aby scope env=pure (iR env.cells scope.names []):=by unfold aby;have:=mG (acc:=[]) h;simp only[bind_pure];exact this
theorem jQ:∀{names} {acc},(∀y,(y,XA)∈names->∃c,cells.lookup y=Δ c)->
  ((x,XA)∈names->(iR cells names acc).lookup x=cells.lookup x)/\((x,XA)∉names->(iR cells names acc).lookup x=acc.lookup x)
 |[],acc,_=>⟨(λh=>nomatch h),λ_=>rfl⟩|(y,k)::r,acc,h=>by
  have hr:∀z,(z,XA)∈r->∃c,cells.lookup z=Δ c:=λz hz=>h z (Xb _ hz);by_cases hk:k=.free
  ·subst hk;simp only[iR,if_true];obtain⟨i1,i2⟩:=jQ (x:=x) (acc:=(y,(cells.lookup y).getD 0)::acc) hr;by_cases hx:(x,XA)∈r;·exact⟨λ_=>i1 hx,λz=>absurd (Xb _ hx) z⟩
   ·by_cases VD:x=y;·subst VD;obtain⟨c,hc⟩:=h x Xh;refine⟨λ_=>?_,λz=>absurd Xh z⟩;rw[i2 hx,XH,beq_self_eq_true,hc];rfl
    ·have hb:(x==y)=Ξ:=by rw[beq_eq_false_iff_ne];exact VD
     refine⟨λz=>?_,λ_=>?_⟩
     ·rcases aai.mp z with z|z;·injection z with z1 _;exact absurd z1 VD
      ·exact absurd z hx
     ·rw[i2 hx,XH,hb]
  ·simp only[iR,if_neg hk];obtain⟨i1,i2⟩:=jQ (x:=x) (acc:=acc) hr;refine⟨λz=>?_,λz=>i2 λy=>z (Xb _ y)⟩;rcases aai.mp z with z|z;·injection z with _ z2;exact absurd z2.symm hk
   ·exact i1 z
theorem kJ(h:e7 a ps=Λ)env:defaultsOf a env=([],[])/\a.defaults=[]/\a.kw_defaults=[]:=by obtain⟨po,as,va,ko,kd,ka,df⟩:=a;unfold e7 at h;simp only[W9,Xr,YQ,qqq] at h;obtain⟨⟨⟨⟨⟨⟨⟨⟨rfl,rfl⟩,rfl⟩,rfl⟩,rfl⟩,rfl⟩,e⟩,nd⟩,_⟩:=h;exact⟨rfl,rfl,rfl⟩
theorem zC:∀{as},(as.all λx=>x.annotation.isNone)=Λ->abP as env=[]
 |[],_=>by unfold abP;rfl|⟨x,an,p⟩::r,h=>by
  rw[Zz,W9] at h;have e:an=Θ:=YQ.mp h.1;subst e;have ih:=zC (env:=env) h.2;first
   |(unfold abP;exact ih)
   |(simp only[abP,ih])
theorem DZ(h:e7 a ps=Λ)env:annTrees a Θ env=[]:=by obtain⟨po,as,va,ko,kd,ka,df⟩:=a;unfold e7 at h;simp only[W9,Xr,YQ,qqq] at h;obtain⟨⟨⟨⟨⟨⟨⟨⟨rfl,rfl⟩,rfl⟩,rfl⟩,rfl⟩,rfl⟩,e⟩,nd⟩,an⟩:=h;unfold annTrees;simp only[Yf,Option.toList_none];rw[zC an];rfl
section
variable{X:Cx}{η:List (Addr×Obj)}{σ:St}{H:Hp}{s:Xv}{a:Addr}{kvs:List (Key×V)}{k:Key}{u r:Value}{z:V}{A:YO}{E:Value->Xv->Prop}
theorem Gh(I:Inv X η σ H s)(e:H a=Δ (.dK kvs))(ry:RelV (kV k) u)(rz:RelV z r)(hl:kvs.length < XE)(h1:∀v w' s',fI kvs k=Δ v->Inv X η σ H s'->RelV v w'->Q w' s')(h2:fI kvs k=Θ->∀s',Inv X η σ (upd H a (.dK (putK kvs k z))) s'->Q r s'):
  wpAny (model X.prog X.w) A (call (.builtin "dict.setdefault") [.ref a,u,r]) Q E s:=by
 obtain⟨zz,hd,vs,rel,dd⟩:=v7 I.aJ e;refine abv PySem.F.slot_dict_setdefault dd.typeIs PySem.F.entry_dict_setdefault (PySem.F.args_dict_setdefault_3 _ _ _) (kt_meets_setdefault (be X.prog X.w) a (nG ry) hd r)
  ⟨vs,dd,by rw[<-rel.length];exact zz,λw' hw=>?_,λhn h' yH hs=>?_⟩
 ·have rr:=rel.val k;rw[hw] at rr;cases hv:fI kvs k with|none=>rw[hv] at rr;exact(show False from rr).elim|some v=>rw[hv] at rr;exact h1 v w' _ hv (I.tok _) rr
 ·have rr:=rel.val k;rw[hn] at rr;cases hv:fI kvs k with
  |some v=>rw[hv] at rr;exact(show False from rr).elim|none=>
   have he:∃q,h'.get? a=Δ q:=let ⟨q,_,_,hq,_⟩:=yH;⟨q,hq⟩
   have nM:(putK kvs k z).length<=XE:=by have:=iN kvs k z;lia
   exact h2 hv _ (jL I (by rw[e];exact YR) hs he (sP nM hd (rel.put k rz) yH))
end
def MN(td ty tx:TE):TE:=λσ H Q=>td σ H λx H1=>∃a,x=.ref a/\S2 H1 a/\ty σ H1 λy H2=>tx σ H2 λz H3=>∃kvs k,H3 a=Δ (.dK kvs)/\y=kV k/\kvs.length < XE/\
 (∀v,fI kvs k=Δ v->Q v H3)/\(fI kvs k=Θ->Q z (upd H3 a (.dK (putK kvs k z))))
section
variable{X:Cx}{o e f:Expr}{apos fO:Pos}{td ty tx:TE}
theorem Gi(ho:PE X o td)(he:PE X e ty)(hf:PE X f tx)(m:M2 X o "setdefault" apos e f fO):PE X (.Call (.Attribute o "setdefault" apos) [e,f] [] fO) (MN td ty tx):=by intro η s σ H Q I h;refine wpAny_Call_method m.base m.UR m.line aaN PySem.F.slot_dict_setdefault PySem.F.type_dict_setdefault (bS (ho η s σ H _ I h) λu s1 ⟨x,H1,I1,rx,a,ex,d,q1⟩=>?_);subst ex;obtain rfl:u=XM a:=rx;obtain⟨t1,t2,_⟩:=By I1 d;refine⟨t1,t2,?_⟩;rw[m.trees];refine Zv rfl (abn (aaf (bS (he η s1 σ H1 _ I1 q1) λiv s2 ⟨y,H2,I2,ry,q2⟩=>aaf (bS (hf η s2 σ H2 _ I2 q2) λfv s3 ⟨z,H3,I3,rz,kvs,k,ea,ey,hl,q3,q4⟩=>aa2 ?_))));subst ey;exact Gh I3 ea ry rz hl (λv w' s4 hv I4 mE=>⟨v,H3,I4,mE,q3 v hv⟩) λhn s4 I4=>⟨z,_,I4,rz,q4 hn⟩
end
def QO(K:Xm)(a:Addr):It:=
 ⟨λi H=>∃xs x,lT K H a xs/\xs[i]?=Δ x,λi H x H'=>∃T v,H T=Θ/\H'=upd H T (.tup [.int i,v])/\x=.ref T/\∀xs,lT K H a xs->xs[i]?=Δ v,λi H=>∃xs,lT K H a xs/\xs.length<=i⟩
theorem BN{P:Yi}{w:World}{K:Xm}{elts:List Expr}{kk:Nat}{pos:Pos}(a it e:Addr)(OR:e≠it):Turn P w K (.Tuple elts kk pos) (QO K a) [e,it] e (λi h=>(∃old,IsEnum h e it i old)/\h.IsListIter it a i) where
 mem:=by simp
 obj:=λi h st b hb=>by
  obtain⟨⟨old,he⟩,o,eo,c,d⟩:=st;have iP:b=e\/b=it:=by simpa using hb
  rcases iP with z|z;·rw[z];exact⟨_,he,λv z=>nomatch z⟩
  ·rw[z];exact⟨o,eo,λv z=>by rw[d] at z;cases z⟩
 keep:=λi h h' st k=>⟨let ⟨old,he⟩:=st.1;⟨old,k e (by simp) _ he⟩,st.2.at λo x=>k it (by simp) o x⟩
 item:=by
  intro X hP hw hK hc i η s σ H E I hf st hg;subst hP hw hK;obtain⟨xs,x,hq,hx⟩:=hg;obtain⟨its,rv,p,hz⟩:=I.list hq;have p':s.heap.IsList a its.toArray:=p.isList;obtain⟨u,hu,ru⟩:=rv.get hx;obtain⟨f0,f1,f2,f3,f4,f5⟩:=hf it (by simp);obtain⟨g0,g1,g2,g3,g4,g5⟩:=hf e (by simp);obtain⟨⟨old,he⟩,hit⟩:=st;refine wpAny_pyNext_enum_item he hit p' (x:=u) (by simpa using hu) OR λh' ho sT hT hsz hk=>?_;refine⟨_,rfl,?_⟩;refine wpAny_letOwnedTupleGo_enum ho λh2 La HK=>?_;have QD:s.heap.objs.size≠e:=Yr (Xs he);have OS:s.heap.objs.size≠it:=by obtain⟨o,eo,_⟩:=hit;exact Yr (Xs eo)
  have zu:∀b o,b≠e->b≠it->s.heap.get? b=Δ o->h2.get? b=Δ o:=λb o h1 h3 q=>HK.extBut b o h1 (hk b o h1 h3 q);have hn:H s.heap.objs.size=Θ:=I.aJ.fresh (Xj _);have E4:∀b v,H b=Δ v->b≠e/\b≠it:=λb v q=>⟨(λz=>by rw[z,g0] at q;cases q),(λz=>by rw[z,f0] at q;cases q)⟩;have QE:h2.get? s.heap.objs.size=Δ {cls:=.type "tuple",data:=.seq #[.int i s.toks,u]}:=HK.extBut _ _ QD hT;have I1:Inv X η σ (upd H s.heap.objs.size (.tup [.int i,x])) {s with heap:=h2,toks:=s.toks+1}:=by
   refine I.step (g':=s.gens) (d':=s.drawn) (ch:=[e,it]) (λb hb=>?_) (λb o _ _ hc q _=>zu b o (λz=>hc (by simp[z])) (λz=>hc (by simp[z])) q) (λb o _ _ hc q _=>⟨o.slots,zu b o (λz=>hc (by simp[z])) (λz=>hc (by simp[z])) q⟩)
    (λb o _ q n=>by rw[ax (XR (Xs q))];exact n) (λb o hc q=>⟨o,zu b o (λz=>hc (by simp[z])) (λz=>hc (by simp[z])) q⟩) (λb xs q=>by rw[ax (aM q hn)];exact q) (λb o v q=>by rw[ax (aM q hn)];exact q)
    (λb ps q=>⟨#[],by rw[ax (aM q hn),q];simp⟩) (λm hm=>?_) (λb v q=>?_) I.bare
   ·have iP:b=e\/b=it:=by simpa using hb
    rcases iP with z|z;·rw[z];exact⟨g3,g1,g4,g5⟩
    ·rw[z];exact⟨f3,f1,f4,f5⟩
   ·obtain⟨o,es,ep,oS,r⟩:=hm;exact⟨o,es,ep,zu _ o (Yj g1) (Yj f1) oS,r⟩
   ·by_cases hb:b=s.heap.objs.size;·rw[hb,aC] at q;cases q;rw[hb];exact⟨by rw[YH];simp,[.int i s.toks,u],.cons ⟨_,rfl⟩ (.cons ru .nil),⟨_,QE,rfl,_,rfl⟩⟩
    ·rw[ax hb] at q;refine(I.aJ b v q).ni (λc y hc qq=>?_) (λc qq=>by rw[ax (aM qq hn)];exact qq) λc xs qq=>by rw[ax (aM qq hn)];exact qq
     have:c≠e/\c≠it:=by
      rcases hc with z|z;·rw[z];exact E4 b v q
      ·exact E4 c _ z
     exact zu c y this.1 this.2 qq
  refine⟨.ref s.heap.objs.size,_,I1,rfl,⟨s.heap.objs.size,x,hn,rfl,rfl,λys hy=>by rw[I.yT hy hq];exact hx⟩,⟨⟨u,by simpa using La⟩,sT.at λo q=>HK.extBut _ _ (Yj OR) q⟩,λb hb=>?_⟩;have iP:b=e\/b=it:=by simpa using hb
  rcases iP with z|z;·rw[z,ax (Yj QD)];exact g0
  ·rw[z,ax (Yj OS)];exact f0
 done:=by
  intro X hP hw hK hc i η s σ H E I hf st hg;subst hP hw hK;obtain⟨xs,hq,hx⟩:=hg;obtain⟨its,rv,p,hz⟩:=I.list hq;obtain⟨f0,f1,f2,f3,f4,f5⟩:=hf it (by simp);obtain⟨⟨old,he⟩,hit⟩:=st;have hl:=rv.length;have hT:s.TypeIs (.ref e) "enumerate":=⟨_,he,rfl⟩;unfold abO;refine W7 (abM (Yk (name:=Yh "__next__") hT Zt
   (YN Zt hT PySem.F.entry_enumerate_next ?_ (PySem.F.args_enumerate_next_1 _))))
  show wpAny _ _ (field (.ref e) 2 >>=_) _ _ _;refine W7 (YC he rfl (x:=.ref it) rfl ?_);refine W7 (wpAny_nextOf_list_end (I.ok.hd hc) hit p.isList (by simp;lia) λh' y Vp yI=>?_);obtain⟨o,ho,u9⟩:=yI;refine W7 (abT (T:="StopIteration") (b:=Λ) ⟨o,ho,u9⟩ acn ?_);exact Xn ⟨rfl,I.turned (t':=s.toks) (λb o hb q=>Vp b o hb q) f0 f1 f3 f4 f5⟩
 self:=λ_ _ _ _ _ st h=>let ⟨old,he⟩:=st.1;aaR he h
section
variable{X:Cx}
def MO(K:Xm)(ta:TA):TI:=λσ H R=>ta σ H λvs H1=>∃a,vs=[.ref a]/\(∃xs,lT K H1 a xs)/\R (QO K a) H1
theorem Gj(hg:Gl X "enumerate")(hm:X.mg "enumerate"=Θ)(ha:PA X [x] ta)(hs:XO [x] X.env=[(Ξ,eval x X.env)]):
  PI X (.Tuple elts kk p3) (.Call (.Name "enumerate" p) [x] [] pos) (MO X.K ta):=by
 intro η s σ H R I h;refine Call_ (jH I hg hm boot_enumerate (Yo (bS (ha pos η s σ H _ I h) λus s1 ⟨vs,H1,I1,r1,q1⟩=>?_) hs rfl) (by decide+kernel) (by decide+kernel));obtain⟨a,rfl,⟨xs,hq⟩,q⟩:=q1;obtain⟨u,rfl,ru⟩:=vals1 r1;cases ru;obtain⟨its,rv,pl,hz⟩:=I1.list hq;refine call_enumerate_list pl.isList λh' he hit hsz hk=>?_;refine aaR he ?_;have I2:Inv X η σ H1 {s1 with heap:=h'}:=I1.kept (t':=s1.toks) hk;refine⟨s1.heap.objs.size+1,[s1.heap.objs.size+1,s1.heap.objs.size],_,_,H1,rfl,I2,BN a _ _ (Nat.succ_ne_self _),⟨⟨_,he⟩,hit⟩,λb hb=>?_,q⟩;have iP:b=s1.heap.objs.size+1\/b=s1.heap.objs.size:=by simpa using hb
 rcases iP with z|z;·rw[z];exact I1.xi (Y9 _) (I1.aJ.fresh (Y9 _))
 ·rw[z];exact I1.xi (Xj _) (I1.aJ.fresh (Xj _))
end
theorem acD.get'{α β:Type}{F:α->β->Prop}{E1:List α}{E2:List β}(r:acD F E1 E2):∀{i:Nat} {x},E1[i]?=Δ x->∃u,E2[i]?=Δ u/\F x u:=by induction r with|nil=>intro i x e;simp at e|@cons a b as bs h t ih=>intro i x e;cases i with|zero=>simp at e;subst e;exact⟨b,rfl,h⟩|succ i=>simpa using ih (by simpa using e)
def Iti(d:Addr)(o:Obj)(kvs:List (Key×V)):It:=
 ⟨λi H=>H d=Δ (.dA o (.dK kvs))/\i < kvs.length,λi H x H'=>∃T k v,kvs[i]?=Δ (k,v)/\H T=Θ/\H'=upd H T (.tup [kV k,v])/\x=.ref T,λi H=>H d=Δ (.dA o (.dK kvs))/\kvs.length<=i⟩
theorem Gk(ok:ku P w H h)(e:H d=Δ (.dA o (.dK kvs)))(ho:o.data=.dict es ep):
  ∃vs,KV kvs vs/\Heap.DictAt (be P w) h d vs ep:=by
 obtain⟨h1,z,hs,vs,r,o',SG,SH,h2,h3,h4,h5⟩:=(show bG P w H h d (.dA o (.dK kvs)) from ok d _ e);rw[h1] at h2;cases h2;rw[ho] at h4;cases h4;exact⟨vs,r,o,es,h1,h3,ho,h5⟩
theorem Gm(h:(be P w).is k u=Λ):RelV (kV k) u:=by
 rcases b7 h with ⟨i,t,rfl,rfl⟩|⟨x,t,rfl,rfl⟩
 ·exact⟨t,rfl⟩
 ·exact⟨t,rfl⟩
theorem lW:entryFor table "dict_itemiterator.__iter__"=Δ abi.«dict_keyiterator.__iter__»:=
 entryFor_alias (id':="dict_keyiterator.__iter__") (by kernel_rfl) rfl (by decide+kernel) (by kernel_rfl)
theorem vt(hit:IsItemIter s.heap it d i n ep ok ov)(h:Q (.ref it) s):wpAny (model prog w) A (pyIter (.ref it)) Q E s:=by have ht:s.TypeIs (.ref it) "dict_itemiterator":=⟨_,hit,rfl⟩;refine wpAny_pyIter_slot ht F.slot_dict_itemiterator_iter (YN F.slot_dict_itemiterator_iter ht lW ?_ (F.args_dict_itemiterator_iter_1 _));show wpAny _ _ (ret (.ref it)) _ _ s;exact Xn ⟨_,rfl,"dict_itemiterator",_,ht,F.slot_dict_itemiterator_next.lookup,h⟩
theorem BO{P:Yi}{w:World}{K:Xm}{elts:List Expr}{kk:Nat}{pos:Pos}(d it:Addr)(o:Obj)(kvs:List (Key×V))(es:Array DictEntry)(ep:Nat)(ho:o.data=.dict es ep):
  Turn P w K (.Tuple elts kk pos) (Iti d o kvs) [it] it (λi h=>∃ok ov,IsItemIter h it d i kvs.length ep ok ov) where
 mem:=by simp
 obj:=λi h st b hb=>by
  obtain⟨ok,ov,he⟩:=st;have iP:b=it:=by simpa using hb
  rw[iP];exact⟨_,he,λv z=>nomatch z⟩
 keep:=λi h h' st k=>let ⟨ok,ov,he⟩:=st;⟨ok,ov,k it (by simp) _ he⟩
 item:=by
  intro X hP hw hK hc i η s σ H E I hf st hg;subst hP hw hK;obtain⟨hd,hi⟩:=hg;obtain⟨ok,ov,hit⟩:=st;obtain⟨vs,rel,da⟩:=Gk I.aJ hd ho;have hlen:kvs.length=vs.length:=rel.length;obtain⟨f0,f1,f2,f3,f4,f5⟩:=hf it (by simp);obtain⟨⟨k,v⟩,qx⟩:∃p,kvs[i]?=Δ p:=⟨kvs[i],Xc hi⟩;obtain⟨⟨k',u⟩,hu,ek,ru⟩:=acD.get' rel qx;cases (show k=k' from ek);rw[hlen] at hit;refine wpAny_pyNext_items_item hit da hu λkey h' hk out hT hsz DV=>?_;refine⟨_,rfl,?_⟩;refine wpAny_letOwnedTupleGo_items out λh2 La HK=>?_;have OS:s.heap.objs.size≠it:=Yr (Xs hit);have zu:∀b o,b≠it->s.heap.get? b=Δ o->h2.get? b=Δ o:=λb o h1 q=>HK.extBut b o h1 (DV b o h1 q);have hn:H s.heap.objs.size=Θ:=I.aJ.fresh (Xj _);have E4:∀b v,H b=Δ v->b≠it:=λb v q z=>by rw[z,f0] at q;cases q
  have QE:h2.get? s.heap.objs.size=Δ {cls:=.type "tuple",data:=.seq #[key,u]}:=HK.extBut _ _ OS hT;have I1:Inv X η σ (upd H s.heap.objs.size (.tup [kV k,v])) {s with heap:=h2}:=by
   refine I.step (g':=s.gens) (d':=s.drawn) (t':=s.toks) (ch:=[it]) (λb hb=>?_) (λb o _ _ hc q _=>zu b o (λz=>hc (by simp[z])) q) (λb o _ _ hc q _=>⟨o.slots,zu b o (λz=>hc (by simp[z])) q⟩)
    (λb o _ q n=>by rw[ax (XR (Xs q))];exact n) (λb o hc q=>⟨o,zu b o (λz=>hc (by simp[z])) q⟩) (λb xs q=>by rw[ax (aM q hn)];exact q) (λb o v q=>by rw[ax (aM q hn)];exact q)
    (λb ps q=>⟨#[],by rw[ax (aM q hn),q];simp⟩) (λm hm=>?_) (λb v' q=>?_) I.bare
   ·have iP:b=it:=by simpa using hb
    rw[iP];exact⟨f3,f1,f4,f5⟩
   ·obtain⟨o,es,ep,oS,r⟩:=hm;exact⟨o,es,ep,zu _ o (Yj f1) oS,r⟩
   ·by_cases hb:b=s.heap.objs.size;·rw[hb,aC] at q;cases q;rw[hb];exact⟨by rw[YH];simp,[key,u],.cons (Gm hk) (.cons ru .nil),⟨_,QE,rfl,_,rfl⟩⟩
    ·rw[ax hb] at q;refine(I.aJ b v' q).ni (λc y hc qq=>?_) (λc qq=>by rw[ax (aM qq hn)];exact qq) λc xs qq=>by rw[ax (aM qq hn)];exact qq
     have:c≠it:=by
      rcases hc with z|z;·rw[z];exact E4 b v' q
      ·exact E4 c _ z
     exact zu c y this qq
  refine⟨.ref s.heap.objs.size,_,I1,rfl,⟨s.heap.objs.size,k,v,qx,hn,rfl,rfl⟩,⟨key,u,by rw[hlen];exact La⟩,λb hb=>?_⟩;have iP:b=it:=by simpa using hb
  rw[iP,ax (Yj OS)];exact f0
 done:=by intro X hP hw hK hc i η s σ H E I hf st hg;subst hP hw hK;obtain⟨hd,hi⟩:=hg;obtain⟨ok,ov,hit⟩:=st;obtain⟨vs,rel,da⟩:=Gk I.aJ hd ho;have hlen:kvs.length=vs.length:=rel.length;obtain⟨f0,f1,f2,f3,f4,f5⟩:=hf it (by simp);rw[hlen] at hit;exact wpAny_pyNext_items_end (I.ok.hd hc) hit da (XI (by lia)) λh' eb=>⟨rfl,I.turned (t':=s.toks) (λb o hb q=>eb b o hb q) f0 f1 f3 f4 f5⟩
 self:=λA i s Q E st h=>by obtain⟨ok,ov,he⟩:=st;exact vt he h
section
variable{X:Cx}{η:List (Addr×Obj)}{σ:St}{H:Hp}{s:Xv}
theorem Inv.re(I:Inv X η σ H s)(e:H d=Δ u)(h1:∀xs,u≠.tup xs)(h2:∀ps,u≠.fG ps)(h3:∀b,u≠.own b)(hf:∀o v,X.yR d=Δ (.dA o v)->u'=.dA o v)(new:bG X.prog X.w H s.heap d u'):Inv X η σ (upd H d u') s:=by
 have st:∀{b:Addr} {v:HO},bG X.prog X.w H s.heap b v->bG X.prog X.w (upd H d u') s.heap b v:=λx=>x.ni (λ_ _ _ q=>q) (λc q=>by
  rw[ax (λz=>by rw[z,e] at q;exact h3 _ (XU q))];exact q) λc xs q=>by
  rw[ax (λz=>by rw[z,e] at q;exact h1 _ (XU q))];exact q
 have nn:∀{b:Addr},H b=Θ->upd H d u' b=Θ:=λ{b} q=>by rw[ax (λz=>by rw[z,e] at q;cases q)];exact q
 refine⟨I.ok,I.os,I.bare,⟨I.base.keep,I.base.slot,λb o q n hx=>nn (I.base.free b o q n hx),I.base.there,λb xs q=>?_,λb o v q=>?_,λb ps q=>?_⟩,I.loc,I.cell,nn I.free,λx c q=>nn (I.j8 x c q),λp hp=>?_,λb v q=>?_,I.len⟩;·have:=I.base.sx b xs q;rw[ax (λz=>by rw[z,e] at this;exact h1 _ (XU this))];exact this
 ·by_cases z:b=d;·rw[z] at q ⊢;rw[aC,hf o v q]
  ·rw[ax z];exact I.base.oR b o v q
 ·obtain⟨more,this⟩:=I.base.qQ b ps q;exact⟨more,by rw[ax (λz=>by rw[z,e] at this;exact h2 _ (XU this))];exact this⟩
 ·obtain⟨q1,q2,q3⟩:=I.pin p hp;exact⟨q1,nn q2,q3⟩
 ·by_cases z:b=d;·rw[z,aC] at q;cases q;rw[z];exact st new
  ·rw[ax z] at q;exact st (I.aJ b v q)
def NF(X:Cx)(d:Addr):Prop:=∀o v,X.yR d≠Δ (.dA o v)
theorem Inv.hold(I:Inv X η σ H s)(e:H d=Δ (.dK kvs)):∃o es ep,s.heap.get? d=Δ o/\o.data=.dict es ep/\NF X d/\Inv X η σ (upd H d (.dA o (.dK kvs))) s:=by
 have ok:bG X.prog X.w H s.heap d (.dK kvs):=I.aJ d _ e;obtain⟨z,hs,vs,r,o,es,ep,h2,h3,h4,h5⟩:=id ok;have nf:NF X d:=λo' v q=>by have:=I.base.oR d o' v q;rw[e] at this;cases this
 exact⟨o,es,ep,h2,h4,nf,I.re e (λ_ z=>nomatch z) (λ_ z=>nomatch z) (λ_ z=>nomatch z) (λo' v q=>absurd q (nf o' v)) ⟨h2,ok⟩⟩
theorem Inv.D3(I:Inv X η σ H s)(e:H d=Δ (.dA o u))(nf:NF X d):Inv X η σ (upd H d u) s:=by obtain⟨h1,h2⟩:=(show bG X.prog X.w H s.heap d (.dA o u) from I.aJ d _ e);exact I.re e (λ_ z=>nomatch z) (λ_ z=>nomatch z) (λ_ z=>nomatch z) (λo' v q=>absurd q (nf o' v)) h2
def wj(X:Cx)(D:Ends):Ends where
 nx:=λσ H=>∃d o u,H d=Δ (.dA o u)/\NF X d/\D.nx σ (upd H d u)
 rt:=λv H=>∃d o u,H d=Δ (.dA o u)/\NF X d/\D.rt v (upd H d u)
 bk:=λσ H=>∃d o u,H d=Δ (.dA o u)/\NF X d/\D.bk σ (upd H d u)
 ct:=λσ H=>∃d o u,H d=Δ (.dA o u)/\NF X d/\D.ct σ (upd H d u)
theorem Ja{st:Stmt}(h:PS X st t):PS X st (λD σ H=>t (wj X D) σ H):=by intro η s σ H D I q;refine bS (h η s σ H _ I q) λf s1 q1=>?_;cases f with|next=>obtain⟨cQ,H',I',d,o,u,e,nf,q'⟩:=q1;exact⟨cQ,_,I'.D3 e nf,q'⟩|brk=>obtain⟨cQ,H',I',d,o,u,e,nf,q'⟩:=q1;exact⟨cQ,_,I'.D3 e nf,q'⟩|cont=>obtain⟨cQ,H',I',d,o,u,e,nf,q'⟩:=q1;exact⟨cQ,_,I'.D3 e nf,q'⟩|ret w'=>obtain⟨v,cQ,H',I',r,d,o,u,e,nf,q'⟩:=q1;exact⟨v,cQ,_,I'.D3 e nf,r,q'⟩
end
section
variable{X:Cx}
def MP(X:Cx)(td:TE):TI:=λσ H R=>td σ H λx H1=>∃d kvs,x=.ref d/\H1 d=Δ (.dK kvs)/\∀o,NF X d->R (Iti d o kvs) (upd H1 d (.dA o (.dK kvs)))
theorem Gn(ho:PE X x td)(yV:ZY x "items" X.env (eval x X.env)=eval x X.env)(l8:(apos.endLine==fO.line)=Λ):
  PI X (.Tuple elts kk p3) (.Call (.Attribute x "items" apos) [] [] fO) (MP X td):=by
 intro η s σ H R I h;refine wpAny_Call_method0_late yV l8 (bS (ho η s σ H _ I h) λv s1 ⟨y,H1,I1,r1,d,kvs,ey,ed,q1⟩=>?_);subst ey;cases r1;obtain⟨t1,t2,VE⟩:=By I1 (.inl ⟨kvs,.inl ed⟩);refine⟨"dict","dict.items",aaN,PySem.F.slot_dict_items,PySem.F.type_dict_items,t1,t2,Zv rfl (PySem.evalArgs_none ?_)⟩;obtain⟨o,es,ep,oS,Cr,nf,I2⟩:=I1.hold ed;obtain⟨vs,rel,da⟩:=Gk I2.aJ aC Cr;have dd:Heap.DictOf (be X.prog X.w) s1.heap d vs:=da.dictOf;refine abv PySem.F.slot_dict_items dd.typeIs PySem.F.entry_dict_items (PySem.F.args_dict_items_1 _) (meets_dict_items (be X.prog X.w) d VE) ⟨⟨vs,dd⟩,?_⟩;have hv:Heap.IsItemsView (s1.heap.push {cls:=.type "dict_items",data:=.fields #[.ref d]}) s1.heap.objs.size d:=⟨_,Xq _ rfl,rfl,rfl⟩;refine wpAny_pyIter_items (knd:=be X.prog X.w) (ep:=ep) (kvs:=vs) hv (da.at' λo' q=>Xa _ q) ?_;have hlen:kvs.length=vs.length:=rel.length;have I3:Inv X η σ (upd H1 d (.dA o (.dK kvs))) {s1 with heap:=s1.heap.push {cls:=.type "dict_items",data:=.fields #[.ref d]}}:=I2.kept (t':=s1.toks) λb o' q=>Xa _ q;refine⟨_,[_],_,_,_,rfl,I3.kept (t':=s1.toks) λb o' q=>Xa _ q,BO d _ o kvs es ep Cr,⟨.none,.none,?_⟩,λb hb=>?_,q1 o nf⟩;·rw[hlen];exact Xq _ rfl
 ·have iP:b=(s1.heap.push {cls:=.type "dict_items",data:=.fields #[.ref d]}).objs.size:=by simpa using hb
  rw[iP];exact I3.xi (Xj _) (I3.aJ.fresh (Xj _))
theorem D4(rel:KV kvs vs):∀{us},us.length=vs.length->(∀(j:Nat) (v),us[j]?=Δ v->∃k x,vs[j]?=Δ (k,x)/\(be P w).is k v=Λ)->aS (kvs.map λkv=>kV kv.1) us:=by
 unfold KV at rel;induction rel with
 |nil=>intro us hl h;cases us with|nil=>exact .nil|cons _ _=>simp at hl
 |@cons p q ps qs e t ih=>
  intro us hl h;cases us with
  |nil=>simp at hl|cons v us=>
   refine .cons ?_ (ih (by simpa using hl) λj v' hv=>h (j+1) v' (by simpa using hv));obtain⟨k,x,hk,hi⟩:=h 0 v rfl;simp at hk;have e1:p.1=k:=by rw[e.1,hk]
   show RelV (kV p.1) v;rw[e1];exact Gm hi
theorem vz(hc:X.calm=Λ):hW X (.type "list") (λxs H Q=>∃p kvs,xs=[.ref p]/\H p=Δ (.dK kvs)/\∀l,H l=Θ->Q (.ref l) (upd H l (.lst (kvs.map λkv=>kV kv.1)))):=by intro η s σ H xs us Q I r h;obtain⟨p,kvs,rfl,hq,q⟩:=h;obtain⟨u,rfl,rx⟩:=vals1 r;cases rx;obtain⟨z,VE,vs,rel,dd⟩:=v7 I.aJ hq;have hlen:kvs.length=vs.length:=rel.length;obtain⟨ep,da⟩:=dd.dictAt;refine PySem.W.kdl_call (PySem.W.kdl_dict (knd:=be X.prog X.w) (kvs:=vs) (ep:=ep) VE) (I.ok.hd hc) da (by lia) λh' tk acc c' kp e io=>?_;obtain⟨hsz,hit⟩:=io;have rv:aS (kvs.map λkv=>kV kv.1) acc.toList:=D4 rel (by simpa using hsz) λj v hv=>hit j v (by simpa using hv);refine⟨.ref s.heap.objs.size,_,I.laid (t':=tk) kp (Xj _) (show bG X.prog X.w _ h' _ (.lst (kvs.map λkv=>kV kv.1)) from⟨by simpa using z,acc.toList,c',rv,by simpa using e⟩),rfl,q _ (I.aJ.fresh (Xj _))⟩
end
def MQ(tk tv:TE):TE:=λσ H Q=>∀p,H p=Θ->tk σ (upd H p (.dT [])) λx H1=>tv σ H1 λy H2=>H2 p=Δ (.dT [])/\∃ks b,x=.ref b/\H2 b=Δ (.tup (ks.map kV))/\Q (.ref p) (upd H2 p (.dT [(ks,y)]))
theorem Gp(hu:X.A.units+1 < cLine)(hk:PE X k tk)(hv:PE X v tv):PE X (.Dict [Δ k] [v] pos) (MQ tk tv):=by
 intro η s σ H Q I q;have hn:=I.aJ.fresh (Xj s.heap.objs.size);have I1:=I.laid (a:=s.heap.objs.size) (o:=.dT []) (h':=s.heap.push {cls:=.type "dict",data:=.dict #[]}) (t':=s.toks) (λ_ _ q=>Xa _ q) (Xj _) (zd s.heap I.SY);rw[arm_eval_Dict];have e0:(evalEachOpt [Δ k] X.env).zip (aah (λv=>do let x<-v;ab7 pos;pure x) (evalEach [v] X.env))=aah (λp=>(Δ p.1,p.2)) (pairTrees [Δ k] [v] X.env pos):=by rfl
 rw[e0,dictDisplay_pairs (pairTrees [Δ k] [v] X.env pos) (List.cons_ne_nil _ _) (Nat.le_of_ble_eq_true rfl)];refine W7 (acx (W7 (wpAny_subDict_any (Nat.le_of_ble_eq_true rfl) (bS ((ze hk hv CD) η _ σ _ (λps H2=>match ps with
  |[(x,y)]=>H2 s.heap.objs.size=Δ (.dT [])/\∃ks b,x=.ref b/\H2 b=Δ (.tup (ks.map kV))/\Q (.ref s.heap.objs.size) (upd H2 s.heap.objs.size (.dT [(ks,y)]))
  |_=>False) I1 (q _ hn)) λws s2 ⟨ps,H2,I2,rel,h⟩=>?_))))
 cases rel with
 |nil=>exact h.elim|@cons p1 q1 ps1 qs1 r rs=>
  cases rs with
  |cons _ _=>exact h.elim|nil=>
  obtain⟨x,y⟩:=p1;obtain⟨w1,w2⟩:=q1;obtain⟨e,ks,b,ex,eb,q2⟩:=h;subst ex;cases (show w1=XM b from r.1);obtain⟨z,hd,xs,rl,dd⟩:=KQ I2.aJ e;cases rl;unfold storeAll;rw[ZN];have room:(abU (be X.prog X.w)).room X.A:=by
   show X.A.units < cLine
   lia
  refine W7 (W7 (wpAny_dictSet_heap room (o4 I2.aJ eb) dd (λh' yH hs=>Xn ?_) (by simp)));dsimp only;rw[aau];refine Xn (Xn ?_);obtain⟨qq,es,ep,hq,h2,h3,h4,_,h5⟩:=yH;refine⟨.ref s.heap.objs.size,_,jL (ob:=.dT [(ks,y)]) I2 (by rw[e];exact YR) hs ⟨qq,hq⟩ ⟨by simp[YH],hd,_,(KT.put (H:=H2) .nil ks eb r.2).keeps λc ys ec=>?_,qq,es,ep,hq,h2,h3,h4,h5⟩,rfl,q2⟩;rw[ax (KC ec e (λz=>nomatch z))];exact ec
end L2
namespace Y
open PySem
inductive D where
 |bz|bl (b:Bool)|int (i:Int)|str (x:Str)|tup (xs:List D)|pl (xs:List D)
inductive P where
 |d (x:D)|obj (n:Nat)|fR (ns:List Int)
 |fn (k:Nat) (bu:List P)|lf (k:Nat)
inductive O where
 |lst (xs:List P)|dK (kvs:List (Sum Int Str×P))|dT (kvs:List (List (Sum Int Str)×P))|ins (c:Str) (fs:List (Str×P))
 |vA
abbrev aI:=List O
abbrev bX:=List (Option P)
inductive R (α:Type) where
 |ok (a:α) (st:aI)|ex (x:Str) (st:aI)|no
noncomputable def R.bind{α β:Type}(r:R α)(k:α->aI->R β):R β:=match r with|.ok a st=>k a st|.ex x st=>.ex x st|.no=>.no
def R.of{α:Type}(o:Option α)(st:aI):R α:=match o with|some a=>.ok a st|none=>.no
@[simp] theorem ae{α β:Type}(a:α)st(k:α->aI->R β):(R.ok a st).bind k=k a st:=rfl
@[simp] theorem Te{α β:Type}x st(k:α->aI->R β):(R.ex x st:R α).bind k=.ex x st:=rfl
@[simp] theorem nN{α β:Type}(k:α->aI->R β):(R.no:R α).bind k=.no:=rfl
@[simp] theorem av{α:Type}(a:α)st:R.of (Δ a) st=.ok a st:=rfl
@[simp] theorem of_none{α:Type}st:R.of (Θ:Option α) st=.no:=rfl
inductive QP where|add|sub|mul|mod
inductive Ld where|lt|le|gt|ge|eq|ne|isin|nO
inductive Bf where|len|any|tuple
mutual
inductive E where
 |var (i:Nat)
 |cst (x:D)
 |op (o:QP) (a b:E)
 |not (a:E)
 |cmp (o:Ld) (a b:E)
 |chain (o o':Ld) (a b c:E)
 |and (es:List E)
 |or (es:List E)
 |tup (es:List E)
 |lst (m:Bool) (l:L)
 |call (f:Nat) (es:List E)
 |Gq (a:E) (T:String)
 |bf (f:Bf) (es:List E)
 |ix (a b:E)
 |slice (a:E) (lo hi:Option E)
 |pd (t:Bool)
 |index (a b:E)
 |nP (i:Nat) (es:List E)
 |iT (f:Nat) (es:List E) (ls:List (Nat×List Nat))
 |jb (i:Nat) (es:List E) (ls:List (Nat×List Nat))
 |lam (k:Nat)
 |attr (c f:Str) (i:Nat)
 |pf (k:Nat) (c m:Str) (i:Nat) (es:List E)
 |make (k:Nat) (c:Str) (es:List E)
 |D5 (a b:E)
 |D6 (a:E)
 |tp (a b c:E)
 |D7 (k:E) (x:D)
inductive L where
 |dZ (es:List E)
 |comp (it:W) (ts:Nat) (js:List Nat) (c:Option E) (e:E)
 |fZ (es:List E)
 |zip (a b:E)
 |cj (e:E) (js:List Nat) (c:Option E) (ee:E)
 |keys (e:E)
inductive W where
 |ex (e:E)
 |fZ (es:List E)
 |enum (e:E)
end
inductive Tg where
 |nm (i:Nat)
 |tup (is:List Nat)
 |two (i j:Nat)
inductive S where
 |ret (e:E)
 |D8
 |set (i:Nat) (e:E)
 |ifs (c:E) (a b:List S)
 |ff (t:Tg) (w:W) (b:List S)
 |kK (c:E) (b:List S)
 |iH (t:Tg) (e:E) (b:List S)
 |BP (i j:Nat) (e:E) (b:List S)
 |jc (i j:Nat) (e:E) (b:List S)
 |expr (e:E)
 |nL (i k:Nat)
 |lX (c f:Str) (i:Nat) (e:E)
 |app (a e:E)
 |put (a i e:E)
inductive Fl where
 |nx (r:bX)|bk (r:bX)|ct (r:bX)|rt (v:P)
def au:Nat:=16777216
noncomputable def mH:Int:=18446744073709551616
def jn:Int:=4611686018427387904
def kz(o:QP)(i j:Int):Option Int:=match o with|.add=>Δ (i+j)|.sub=>Δ (i - j)|.mul=>if(-mH < i/\i < mH)\/(-mH < j/\j < mH) then Δ (i*j) else Θ|.mod=>if 0 < j then Δ (i % j) else Θ
def Gr:P->Option D
 |.d x=>Δ x|_=>Θ
def aY:List P->Option (List D)
 |[]=>Δ []|p::r=>(Gr p).bind λx=>(aY r).map λxs=>x::xs
def bj(st:aI):P->Option (List P)
 |.d (.pl xs)=>Δ (xs.map .d)|.obj n=>match st[n]? with|some (.lst xs)=>Δ xs|_=>Θ
 |_=>Θ
def BQ(o:QP)(a b:P)(st:aI):Option P:=match o,a,b with|o,.d (.int i),.d (.int j)=>(kz o i j).map λk=>.d (.int k)|.add,.d (.str x),.d (.str y)=>if x.length+y.length<=au then Δ (.d (.str (x++y))) else Θ|.add,.d (.tup xs),.d (.tup ys)=>if xs.length+ys.length<=au then Δ (.d (.tup (xs++ys))) else Θ|.mul,.d (.tup xs),.d (.int k)=>if k=1 then Δ (.d (.tup xs)) else if k=2/\0 < xs.length/\xs.length<=100000 then Δ (.d (.tup (xs++xs))) else if k=3/\0 < xs.length/\xs.length<=100000 then Δ (.d (.tup (xs++xs++xs))) else Θ|.add,a,b=>(bj st a).bind λxs=>(bj st b).bind λys=>(aY (xs++ys)).bind λzs=>if zs.length<=au then Δ (.d (.pl zs)) else Θ|_,_,_=>Θ
mutual
def vB:D->D->Bool
 |.bz,.bz=>Λ|.bl a,.bl b=>a==b|.bl a,.int j=>(if a then 1 else 0)==j|.int i,.bl b=>i==(if b then 1 else 0)|.int i,.int j=>i==j|.str x,.str y=>x==y|.tup xs,.tup ys=>gX xs ys|.pl xs,.pl ys=>gX xs ys|_,_=>Ξ
def gX:List D->List D->Bool
 |[],[]=>Λ|x::xs,y::ys=>vB x y&&gX xs ys|_,_=>Ξ
end
mutual
def lY:D->Nat
 |.tup xs=>ke xs+1|.pl xs=>ke xs+1|_=>0
def ke:List D->Nat
 |[]=>0|x::xs=>max (lY x) (ke xs)
end
theorem Gs:vB (.int i) (.int j)=(i==j):=rfl
theorem CN:gX (x::xs) (y::ys)=(vB x y&&gX xs ys):=rfl
theorem MR:lY (.tup xs)=ke xs+1:=rfl
theorem xH:ke (x::xs)=max (lY x) (ke xs):=rfl
def rV(x y:D):Option Bool:=if min (lY x) (lY y)<=100 then Δ (vB x y) else Θ
def qy:D->Bool
 |.tup _=>Ξ|.pl _=>Ξ|_=>Λ
noncomputable def QQ(o:Ld)(i j:Int):Option Bool:=match o with|.lt=>Δ (decide (i < j))|.le=>Δ (decide (i<=j))|.gt=>Δ (decide (j < i))|.ge=>Δ (decide (j<=i))|_=>Θ
def cU(st:aI):P->Option (List P)
 |.d (.tup xs)=>Δ (xs.map .d)|.fR ns=>Δ (ns.map λi=>.d (.int i))|p=>bj st p
def jR(st:aI):P->Option D
 |.d x=>Δ x|.obj n=>match st[n]? with|some (.lst xs)=>(aY xs).map .pl|_=>Θ
 |_=>Θ
mutual
noncomputable def cq:P->Bool
 |.d _=>Λ|.fn _ bu=>cz bu|_=>Ξ
noncomputable def cz:List P->Bool
 |[]=>Λ|p::r=>cq p&&cz r
end
def xI(st:aI):P->Option P
 |.fR ns=>Δ (.fR ns)|.fn k bu=>if cz bu then Δ (.fn k bu) else Θ|p=>(jR st p).map .d
def gN(st:aI):List P->Option (List P)
 |[]=>Δ []|p::r=>(xI st p).bind λx=>(gN st r).map λxs=>x::xs
noncomputable def keyOf:P->Option (Sum Int Str)
 |.d (.int i)=>Δ (.inl i)|.d (.str x)=>Δ (.inr x)|_=>Θ
def keysOf:List D->Option (List (Sum Int Str))
 |[]=>Δ []|x::r=>(keyOf (.d x)).bind λk=>(keysOf r).map λks=>k::ks
def mI:P->Option (List (Sum Int Str))
 |.d (.tup xs)=>keysOf xs|_=>Θ
def fj{κ:Type}[DecidableEq κ](kvs:List (κ×P))(k:κ):Option P:=(kvs.find? λkv=>decide (kv.1=k)).map (·.2)
noncomputable def lZ{κ:Type}[DecidableEq κ](kvs:List (κ×P))(k:κ)(v:P):List (κ×P):=
 if(kvs.any λkv=>decide (kv.1=k))=Λ then kvs.map (λkv=>if kv.1=k then(kv.1,v) else kv) else kvs++[(k,v)]
def nQ(o:O)(k:P):Option (Option P):=match o with|.lst _=>Θ|.ins _ _=>Θ|.vA=>Θ|.dK kvs=>(keyOf k).map λk=>fj kvs k|.dT kvs=>(mI k).map λk=>fj kvs k
def jo:O->Bool
 |.lst _=>Ξ|.ins _ _=>Ξ|.vA=>Ξ|_=>Λ
def D9(st:aI):P->Option O
 |.obj n=>st[n]?|_=>Θ
def bC(st:aI)(p:P):Option O:=(D9 st p).bind λo=>if jo o then Δ o else Θ
def Gu:O->Nat
 |.lst xs=>xs.length|.ins _ _=>0|.vA=>0|.dK kvs=>kvs.length|.dT kvs=>kvs.length
def CO(o:O)(k v:P):Option O:=match o with|.lst _=>Θ|.ins _ _=>Θ|.vA=>Θ|.dK kvs=>if kvs.length < au then(keyOf k).map λk=>.dK (lZ kvs k v) else Θ|.dT kvs=>if kvs.length < au then(mI k).map λk=>.dT (lZ kvs k v) else Θ
def MS(o:Ld)(a b:P):Option Bool:=match a,b with|.d (.int i),.d (.int j)=>QQ o i j|_,_=>Θ
def Gv(a b:P)(st:aI):Option Bool:=match bC st b with|some o=>(nQ o a).map λr=>r.isSome|none=>(Gr a).bind λx=>(cU st b).bind λps=>(aY ps).bind λys=>if qy x&&ys.all qy then Δ (ys.any λy=>vB y x) else Θ
def jq(o:Ld)(a b:P)(st:aI):Option Bool:=match o with|.eq=>(jR st a).bind λx=>(jR st b).bind λy=>rV x y|.ne=>(jR st a).bind λx=>(jR st b).bind λy=>(rV x y).map not|.isin=>Gv a b st|.nO=>(Gv a b st).map not|_=>MS o a b
def xJ(st:aI):P->Option Bool
 |.d .bz=>Δ Ξ|.d (.bl b)=>Δ b|.d (.int i)=>Δ (i !=0)|.d (.str x)=>if x.length<=au then Δ ((x.length:Int)!=0) else Θ|.d (.tup xs)=>Δ (!xs.isEmpty)|p=>(bj st p).map λxs=>!xs.isEmpty
noncomputable def Jb:P->aI->Option String
 |.d .bz,_=>Δ "NoneType"|.d (.bl _),_=>Δ "bool"|.d (.int _),_=>Δ "int"|.d (.str _),_=>Δ "str"|.d (.tup _),_=>Δ "tuple"|.d (.pl _),_=>Δ "list"|.obj n,st=>match st[n]? with|some (.lst _)=>Δ "list"|_=>Θ
 |_,_=>Θ
def fh(t T:String):Bool:=t==T||(t=="bool"&&T=="int")
def Bs(n:Nat)(i:Int):Option Nat:=if 0<=i then(if i < n then Δ i.toNat else Θ) else if -(n:Int)<=i then Δ (i+n).toNat else Θ
def nA{α:Type}(xs:List α)(i:Int):Option α:=(Bs xs.length i).bind λj=>xs[j]?
def cR(n d:Nat):Option Int->Nat
 |none=>d|some i=>if i < 0 then(i+n).toNat else min i.toNat n
def tq{α:Type}(xs:List α)(lo hi:Option Int):List α:=(xs.drop (cR xs.length 0 lo)).take (cR xs.length xs.length hi - cR xs.length 0 lo)
def zD:Option P->Option (Option Int)
 |none=>Δ Θ|some (.d (.int i))=>Δ (Δ i)|_=>Θ
def mJ(a:P)(lo hi:Option P)(st:aI):Option P:=
 (zD lo).bind λl=>(zD hi).bind λh=>match a with|.d (.tup xs)=>Δ (.d (.tup (tq xs l h)))|p=>(bj st p).bind λxs=>(aY (tq xs l h)).map λys=>.d (.pl ys)
def VF(a b:P)(st:aI):Option P:=match b with|.d (.int i)=>(cU st a).bind λxs=>nA xs i|_=>Θ
def A7(a b:P)(st:aI):Option P:=match bC st a with|some o=>(nQ o b).bind id|none=>VF a b st
def xK(a v:P)(st:aI):Option aI:=match a with
 |.obj n=>match st[n]? with|some (.lst xs)=>if xs.length < au then Δ (st.set n (.lst (xs++[v]))) else Θ|_=>Θ
 |_=>Θ
def zE(o:O)(k v:P):Option O:=match o with
 |.lst xs=>match k with|.d (.int i)=>(Bs xs.length i).map λj=>.lst (xs.set j v)|_=>Θ
 |o=>CO o k v
def nR(a k v:P)(st:aI):Option aI:=match a with|.obj n=>(st[n]?).bind λo=>(zE o k v).map λo'=>st.set n o'|_=>Θ
def boolsOf:List P->Option (List Bool)
 |[]=>Δ []|.d (.bl b)::r=>(boolsOf r).map λbs=>b::bs|_=>Θ
def intsOf:List P->Option (List Int)
 |[]=>Δ []|.d (.int b)::r=>(intsOf r).map λbs=>b::bs|_=>Θ
def wm{κ:Type}[DecidableEq κ](kvs:List (κ×P))(k:κ):List (κ×P):=kvs.filter λkv=>decide (kv.1≠k)
def Gw(x y:P)(st:aI):Option (P×aI):=match x with
 |.obj n=>match st[n]? with|some (.dK kvs)=>(keyOf y).bind λk=>(fj kvs k).map λv=>(v,st.set n (.dK (wm kvs k)))|_=>Θ
 |_=>Θ
def Gx(x:P)(st:aI):Option (P×aI):=match x with
 |.obj n=>match st[n]? with|some (.lst xs)=>(xs[xs.length - 1]?).map λv=>(v,st.set n (.lst xs.dropLast))|_=>Θ
 |_=>Θ
def qz(x y z:P)(st:aI):Option (P×aI):=match x with
 |.obj n=>match st[n]? with
  |some (.dK kvs)=>if kvs.length < au then(keyOf y).map λk=>match fj kvs k with|some v=>(v,st)|none=>(z,st.set n (.dK (lZ kvs k z)))
   else Θ
  |_=>Θ
 |_=>Θ
def xM:Sum Int Str->P
 |.inl i=>.d (.int i)|.inr x=>.d (.str x)
def Jc(x y:P):Option O:=match keyOf x with|some k=>Δ (.dK [(k,y)])|none=>(mI x).map λk=>.dT [(k,y)]
def tu(st:aI):P->Option (Nat×List (Sum Int Str×P))
 |.obj n=>match st[n]? with|some (.dK kvs)=>Δ (n,kvs)|_=>Θ
 |_=>Θ
def ph(c:Str)(st:aI):P->Option (Nat×List (Str×P))
 |.obj n=>match st[n]? with|some (.ins c' fs)=>if c'=c then Δ (n,fs) else Θ|_=>Θ
 |_=>Θ
def vC(f:Str)(v:P):List (Str×P)->List (Str×P)
 |[]=>[(f,v)]|(g,x)::r=>if g=f then(g,v)::r else(g,x)::vC f v r
def conv(ls:List (Nat×List Nat))(r:bX):Nat->P->Option P
 |0,_=>Θ|n+1,p=>match p with|.d x=>Δ (.d x)|.fR ns=>Δ (.fR ns)|.fn k bu=>if cz bu then Δ (.fn k bu) else Θ|.lf k=>(ls.lookup k).bind λjs=>(js.mapM λj=>((r[j]?).join).bind (conv ls r n)).map λbu=>.fn k bu|.obj _=>Θ
section
variable(C:Nat->List P->aI->R P)
def kl(r:bX)(i:Nat):Option P:=(r[i]?).join
def oQ(f:Bf)(ps:List P)(st:aI):Option P:=match f,ps with
 |.len,[p]=>match p with|.d (.str x)=>if x.length<=au then Δ (.d (.int x.length)) else Θ|p=>match bC st p with|some o=>Δ (.d (.int (Gu o)))|none=>(cU st p).map λxs=>.d (.int xs.length)
 |.any,[p]=>(bj st p).bind λxs=>(boolsOf xs).map λbs=>.d (.bl (bs.any id))|.tuple,[p]=>(cU st p).bind λxs=>(aY xs).map λys=>.d (.tup ys)|_,_=>Θ
def pw:P->Option (List P)
 |.d (.tup xs)=>Δ (xs.map .d)|.d (.pl xs)=>Δ (xs.map .d)|_=>Θ
noncomputable def Ea(lo hi:Int):List P:=(W8 (hi - lo).toNat).map λk=>.d (.int (lo+(k:Nat)))
def nS:List P->Option (List P)
 |[.d (.int j)]=>if -jn<=j/\j < jn then Δ (Ea 0 j) else Θ|[.d (.int i),.d (.int j)]=>if -jn<=i/\i < jn/\ -jn<=j/\j < jn then Δ (Ea i j) else Θ|_=>Θ
def c0:Nat->List D->List P
 |_,[]=>[]|k,x::xs=>.d (.tup [.int k,x])::c0 (k+1) xs
def pz(a b:P)(st:aI):Option P:=match b with|.d (.int i)=>(bj st a).bind λxs=>(intsOf xs).bind λns=>if i∈ns then Δ (.d (.int (ns.idxOf i:Nat))) else Θ|_=>Θ
def Eb:P->P->Option (List D)
 |.d (.tup xs),.d (.tup ys)=>Δ ((xs.zip ys).map λp=>.tup [p.1,p.2])|_,_=>Θ
def cT(g:P->bX)(c:bX->aI->R Bool)(e:bX->aI->R P):List P->aI->R (List P)
 |[],st=>.ok [] st|p::r,st=>(c (g p) st).bind λb st1=>if b then(e (g p) st1).bind λy st2=>(cT g c e r st2).bind λys st3=>.ok (y::ys) st3 else cT g c e r st1
def wo(n:Nat)(st:aI)(i:Nat):Option (Option P):=match st[n]? with|some (.lst xs)=>Δ xs[i]?|_=>Θ
def cj(n:Nat)(g:P->bX)(c:bX->aI->R Bool)(e:bX->aI->R P):Nat->Nat->aI->R (List P)
 |0,_,_=>.no|k+1,i,st=>match wo n st i with|none=>.no|some Θ=>.ok [] st|some (Δ p)=>(c (g p) st).bind λb st1=>if b then(e (g p) st1).bind λy st2=>(cj n g c e k (i+1) st2).bind λys st3=>.ok (y::ys) st3 else cj n g c e k (i+1) st1
def mi(c:List P->aI->R P)(o:Option (List P))(st:aI):R P:=match o,st with
 |some qs,[]=>(c qs []).bind λp st2=>match p,st2 with|.d x,[]=>.ok (.d x) []|_,_=>.no
 |_,_=>.no
def bY(js:List Nat)(r:bX):bX:=js.map λj=>(r[j]?).join
def isPr:P->Bool
 |.d (.tup [_,_])=>Λ|_=>Ξ
mutual
def aa:E->bX->aI->R P
 |.var i,r,st=>R.of (kl r i) st|.cst x,_,st=>.ok (.d x) st|.op o a b,r,st=>(aa a r st).bind λx st1=>(aa b r st1).bind λy st2=>R.of (BQ o x y st2) st2|.not a,r,st=>(aa a r st).bind λx st1=>(R.of (xJ st1 x) st1).bind λb st2=>.ok (.d (.bl (!b))) st2|.cmp o a b,r,st=>(aa a r st).bind λx st1=>(aa b r st1).bind λy st2=>(R.of (jq o x y st2) st2).bind λb st3=>.ok (.d (.bl b)) st3|.chain o o' a b c,r,st=>(aa a r st).bind λx st1=>(aa b r st1).bind λy st2=>(R.of (jq o x y st2) st2).bind λk st3=>if k then(aa c r st3).bind λz ma=>(R.of (jq o' y z ma) ma).bind λb Be=>.ok (.d (.bl b)) Be else .ok (.d (.bl Ξ)) st3
 |.and es,r,st=>gg es r st|.or es,r,st=>gh es r st|.tup es,r,st=>(aD es r st).bind λps st1=>if ps.length<=au then(R.of (aY ps) st1).bind λxs st2=>.ok (.d (.tup xs)) st2 else .no|.lst m l,r,st=>(bc l r st).bind λps st1=>if m then .ok (.obj st1.length) (st1++[.lst ps]) else(R.of (aY ps) st1).bind λxs st2=>.ok (.d (.pl xs)) st2|.call f es,r,st=>(aD es r st).bind λps st1=>C f ps st1|.Gq a T,r,st=>(aa a r st).bind λx st1=>(R.of (Jb x st1) st1).bind λt st2=>.ok (.d (.bl (fh t T))) st2|.bf f es,r,st=>(aD es r st).bind λps st1=>R.of (oQ f ps st1) st1|.ix a b,r,st=>(aa a r st).bind λx st1=>(aa b r st1).bind λy st2=>R.of (A7 x y st2) st2|.slice a lo hi,r,st=>(aa a r st).bind λx st1=>(ic lo r st1).bind λl st2=>(ic hi r st2).bind λh st3=>R.of (mJ x l h st3) st3|.pd t,r,st=>.ok (.obj st.length) (st++[if t then .dT [] else .dK []])|.index a b,r,st=>(aa a r st).bind λx st1=>(R.of (bj st1 x) st1).bind λ_ st1=>(aa b r st1).bind λy st2=>R.of (pz x y st2) st2|.nP i es,r,st=>(R.of (kl r i) st).bind λp bF=>(aD es r bF).bind λps st1=>match p with|.fn k bu=>C k (ps++bu) st1|_=>.no
 |.iT f es ls,r,st=>(aD es r st).bind λps st1=>mi (C f) (ps.mapM (conv ls r 3)) st1|.jb i es ls,r,st=>(R.of (kl r i) st).bind λp bF=>(aD es r bF).bind λps st1=>match conv ls r 3 p with|some (.fn k bu)=>mi (C k) ((ps.mapM (conv ls r 3)).map λqs=>qs++bu) st1|_=>.no
 |.lam k,_,st=>.ok (.lf k) st|.attr c f i,r,st=>(R.of (kl r i) st).bind λx st1=>R.of ((ph c st1 x).bind λq=>q.2.lookup f) st1|.pf k c m i es,r,st=>(R.of (kl r i) st).bind λx bF=>(R.of ((ph c bF x).bind λq=>if(q.2.lookup m).isNone then Δ () else Θ) bF).bind λ_ bF=>(aD es r bF).bind λps st1=>C k (x::ps) st1|.D5 a b,r,st=>(aa a r st).bind λx st1=>(R.of (bC st1 x) st1).bind λ_ st1=>(aa b r st1).bind λy st2=>(R.of (Gw x y st2) st2).bind λq _=>.ok q.1 q.2|.tp a b c,r,st=>(aa a r st).bind λx st1=>(R.of (bC st1 x) st1).bind λ_ st1=>(aa b r st1).bind λy st2=>(aa c r st2).bind λz st3=>(R.of (qz x y z st3) st3).bind λq _=>.ok q.1 q.2|.D7 k x,r,st=>(aa k r st).bind λy st1=>(R.of (Jc y (.d x)) st1).bind λo st2=>.ok (.obj st2.length) (st2++[o])|.D6 a,r,st=>(aa a r st).bind λx st1=>(R.of (Gx x st1) st1).bind λq _=>.ok q.1 q.2|.make k c es,r,st=>(aD es r st).bind λps st1=>(C k (.obj st1.length::ps) (st1++[.ins c []])).bind λv st2=>match v with|.d .bz=>.ok (.obj st1.length) st2|_=>.no
def ic:Option E->bX->aI->R (Option P)
 |none,_,st=>.ok Θ st|some e,r,st=>(aa e r st).bind λx st1=>.ok (Δ x) st1
def aD:List E->bX->aI->R (List P)
 |[],_,st=>.ok [] st|e::es,r,st=>(aa e r st).bind λx st1=>(aD es r st1).bind λxs st2=>.ok (x::xs) st2
def gg:List E->bX->aI->R P
 |[],_,_=>.no|[e],r,st=>aa e r st|e::e'::es,r,st=>(aa e r st).bind λx st1=>match x with|.d (.bl b)=>if b then gg (e'::es) r st1 else .ok (.d (.bl Ξ)) st1|_=>.no
def gh:List E->bX->aI->R P
 |[],_,_=>.no|[e],r,st=>aa e r st|e::e'::es,r,st=>(aa e r st).bind λx st1=>match x with|.d (.bl b)=>if b then .ok (.d (.bl Λ)) st1 else gh (e'::es) r st1|_=>.no
def bc:L->bX->aI->R (List P)
 |.dZ es,r,st=>(aD es r st).bind λps st1=>if ps.length<=au then .ok ps st1 else .no|.comp w ts js c e,r,st=>(cn w r st).bind λps st1=>if ts=1/\ps.length<=au then cT (λp=>Δ p::bY js r) (bB c) (λr' aK=>aa e r' aK) ps st1 else .no|.fZ es,r,st=>(aD es r st).bind λps st1=>(R.of (nS ps) st1).bind λqs st2=>if qs.length<=au then .ok qs st2 else .no|.zip a b,r,st=>(aa a r st).bind λx st1=>(aa b r st1).bind λy st2=>(R.of (Eb x y) st2).bind λzs st3=>.ok (zs.map .d) st3|.cj e js c ee,r,st=>(aa e r st).bind λx st1=>match x with|.obj n=>cj n (λp=>Δ p::bY js r) (bB c) (λr' aK=>aa ee r' aK) au 0 st1|_=>.no
 |.keys e,r,st=>(aa e r st).bind λx st1=>(R.of (tu st1 x) st1).bind λq st2=>.ok (q.2.map λkv=>xM kv.1) st2
def bB:Option E->bX->aI->R Bool
 |none,_,st=>.ok Λ st|some c,r,st=>(aa c r st).bind λx st2=>R.of (xJ st2 x) st2
def cn:W->bX->aI->R (List P)
 |.ex e,r,st=>(aa e r st).bind λx st1=>R.of (pw x) st1|.fZ es,r,st=>(aD es r st).bind λps st1=>R.of (nS ps) st1|.enum e,r,st=>(aa e r st).bind λx st1=>match x with|.d (.tup xs)=>.ok (c0 0 xs) st1|_=>.no
end
noncomputable def gz:Tg->P->bX->Option bX
 |.nm i,p,r=>Δ (r.set i (Δ p))|.tup _,_,_=>Θ|.two i j,p,r=>match p with|.d (.tup [x,y])=>Δ ((r.set i (Δ (.d x))).set j (Δ (.d y)))|_=>Θ
def forL(g:P->bX->Option bX)(b:bX->aI->R Fl):List P->bX->aI->R Fl
 |[],r,st=>.ok (.nx r) st|p::ps,r,st=>(R.of (g p r) st).bind λr1 bF=>(b r1 bF).bind λf st1=>match f with|.nx r2=>forL g b ps r2 st1|.ct r2=>forL g b ps r2 st1|.bk r2=>.ok (.nx r2) st1|.rt v=>.ok (.rt v) st1
def iH(n:Nat)(g:P->bX->Option bX)(b:bX->aI->R Fl):Nat->Nat->bX->aI->R Fl
 |0,_,_,_=>.no|k+1,i,r,st=>match wo n st i with|none=>.no|some Θ=>.ok (.nx r) st|some (Δ p)=>(R.of (g p r) st).bind λr1 bF=>(b r1 bF).bind λf st1=>match f with|.nx r2=>iH n g b k (i+1) r2 st1|.ct r2=>iH n g b k (i+1) r2 st1|.bk r2=>.ok (.nx r2) st1|.rt v=>.ok (.rt v) st1
def mK(i j:Nat)(b:bX->aI->R Fl):List (Sum Int Str×P)->bX->aI->R Fl
 |[],r,st=>.ok (.nx r) st|kv::ps,r,st=>(b ((r.set i (Δ (xM kv.1))).set j (Δ kv.2)) st).bind λf st1=>match f with|.nx r2=>mK i j b ps r2 st1|.ct r2=>mK i j b ps r2 st1|.bk r2=>.ok (.nx r2) st1|.rt v=>.ok (.rt v) st1
def jc(n i j:Nat)(b:bX->aI->R Fl):Nat->Nat->bX->aI->R Fl
 |0,_,_,_=>.no|k+1,q,r,st=>match wo n st q with|none=>.no|some Θ=>.ok (.nx r) st|some (Δ p)=>(b ((r.set i (Δ (.d (.int q)))).set j (Δ p)) st).bind λf st1=>match f with|.nx r2=>jc n i j b k (q+1) r2 st1|.ct r2=>jc n i j b k (q+1) r2 st1|.bk r2=>.ok (.nx r2) st1|.rt v=>.ok (.rt v) st1
def gF(c:bX->aI->R Bool)(b:bX->aI->R Fl):Nat->bX->aI->R Fl
 |0,_,_=>.no|n+1,r,st=>(c r st).bind λk st1=>if k then(b r st1).bind λf st2=>match f with|.nx r2=>gF c b n r2 st2|.ct r2=>gF c b n r2 st2|.bk r2=>.ok (.nx r2) st2|.rt v=>.ok (.rt v) st2 else .ok (.nx r) st1
def b8(d:bX->aI->R P)(r:bX)(st:aI):R Bool:=(d r st).bind λx st1=>R.of (xJ st1 x) st1
def dW:Nat:=1000000
mutual
def aP:S->bX->aI->R Fl
 |.ret e,r,st=>(aa C e r st).bind λv st1=>.ok (.rt v) st1|.D8,r,st=>.ok (.rt (.d .bz)) st|.set i e,r,st=>(aa C e r st).bind λv st1=>.ok (.nx (r.set i (Δ v))) st1|.ifs c a b,r,st=>(b8 (aa C c) r st).bind λk st1=>if k then ah a r st1 else ah b r st1|.ff t w b,r,st=>(cn C w r st).bind λps st1=>forL (gz t) (ah b) ps r st1|.kK c b,r,st=>gF (b8 (aa C c)) (ah b) dW r st|.iH t e b,r,st=>(aa C e r st).bind λx st1=>match x with|.obj n=>iH n (gz t) (ah b) dW 0 r st1|_=>.no
 |.BP i j e b,r,st=>(aa C e r st).bind λx st1=>(R.of (tu st1 x) st1).bind λq st1=>(mK i j (ah b) q.2 r (st1.set q.1 .vA)).bind λf st2=>.ok f (st2.set q.1 (.dK q.2))|.jc i j e b,r,st=>(aa C e r st).bind λx st1=>match x with|.obj n=>jc n i j (ah b) dW 0 r st1|_=>.no
 |.expr e,r,st=>(aa C e r st).bind λ_ st1=>.ok (.nx r) st1|.nL i k,r,st=>.ok (.nx (r.set i (Δ (.lf k)))) st|.lX c f i e,r,st=>(aa C e r st).bind λv st1=>(R.of (kl r i) st1).bind λx st2=>(R.of ((ph c st2 x).bind λq=>if q.2.length < 1000 then Δ (st2.set q.1 (.ins c (vC f v q.2))) else Θ) st2).bind λst3 _=>.ok (.nx r) st3|.app a e,r,st=>(aa C a r st).bind λx st1=>(R.of (bj st1 x) st1).bind λ_ st1=>(aa C e r st1).bind λv st2=>(R.of (xK x v st2) st2).bind λst3 _=>.ok (.nx r) st3|.put a i e,r,st=>(aa C e r st).bind λv st1=>(aa C a r st1).bind λx st2=>(aa C i r st2).bind λk st3=>(R.of (nR x k v st3) st3).bind λma _=>.ok (.nx r) ma
def ah:List S->bX->aI->R Fl
 |[],r,st=>.ok (.nx r) st|s::rest,r,st=>(aP s r st).bind λf st1=>match f with|.nx r1=>ah rest r1 st1|.bk r1=>.ok (.bk r1) st1|.ct r1=>.ok (.ct r1) st1|.rt v=>.ok (.rt v) st1
end
variable{C}
theorem lE{i}:aa C (.var i) r st=R.of (kl r i) st:=rfl
@[simp]theorem cx{x}:aa C (.cst x) r st=.ok (.d x) st:=rfl
theorem dc{o a b}:aa C (.op o a b) r st=(aa C a r st).bind λx st1=>(aa C b r st1).bind λy st2=>R.of (BQ o x y st2) st2:=rfl
theorem wq{a}:aa C (.not a) r st=(aa C a r st).bind λx st1=>(R.of (xJ st1 x) st1).bind λb st2=>.ok (.d (.bl (!b))) st2:=rfl
theorem bM{o a b}:aa C (.cmp o a b) r st=(aa C a r st).bind λx st1=>(aa C b r st1).bind λy st2=>(R.of (jq o x y st2) st2).bind λb st3=>.ok (.d (.bl b)) st3:=rfl
theorem qA{o o' a b c}:aa C (.chain o o' a b c) r st=(aa C a r st).bind λx st1=>(aa C b r st1).bind λy st2=>(R.of (jq o x y st2) st2).bind λk st3=>if k then(aa C c r st3).bind λz ma=>(R.of (jq o' y z ma) ma).bind λb Be=>.ok (.d (.bl b)) Be else .ok (.d (.bl Ξ)) st3:=rfl
@[simp]theorem pA{es}:aa C (.and es) r st=gg C es r st:=rfl
@[simp]theorem tz{es}:aa C (.or es) r st=gh C es r st:=rfl
theorem jr{es}:aa C (.tup es) r st=(aD C es r st).bind λps st1=>if ps.length<=au then(R.of (aY ps) st1).bind λxs st2=>.ok (.d (.tup xs)) st2 else .no:=rfl
theorem Ec{m l}:aa C (.lst m l) r st=(bc C l r st).bind λps st1=>if m then .ok (.obj st1.length) (st1++[.lst ps]) else(R.of (aY ps) st1).bind λxs st2=>.ok (.d (.pl xs)) st2:=rfl
theorem eX{f es}:aa C (.call f es) r st=(aD C es r st).bind λps st1=>C f ps st1:=rfl
theorem Ed{a T}:aa C (.Gq a T) r st=(aa C a r st).bind λx st1=>(R.of (Jb x st1) st1).bind λt st2=>.ok (.d (.bl (fh t T))) st2:=rfl
theorem bH{f es}:aa C (.bf f es) r st=(aD C es r st).bind λps st1=>R.of (oQ f ps st1) st1:=rfl
theorem bI{a b}:aa C (.ix a b) r st=(aa C a r st).bind λx st1=>(aa C b r st1).bind λy st2=>R.of (A7 x y st2) st2:=rfl
theorem qB{a lo hi}:aa C (.slice a lo hi) r st=(aa C a r st).bind λx st1=>(ic C lo r st1).bind λl st2=>(ic C hi r st2).bind λh st3=>R.of (mJ x l h st3) st3:=rfl
@[simp]theorem ie{t}:aa C (.pd t) r st=.ok (.obj st.length) (st++[if t then .dT [] else .dK []]):=rfl
theorem qC{a b}:aa C (.index a b) r st=(aa C a r st).bind λx st1=>(R.of (bj st1 x) st1).bind λ_ st1=>(aa C b r st1).bind λy st2=>R.of (pz x y st2) st2:=rfl
theorem zG{i es}:aa C (.nP i es) r st=(R.of (kl r i) st).bind λp bF=>(aD C es r bF).bind λps st1=>match p with|.fn k bu=>C k (ps++bu) st1|_=>.no:=rfl
theorem kL{f es ls}:aa C (.iT f es ls) r st=(aD C es r st).bind λps st1=>mi (C f) (ps.mapM (conv ls r 3)) st1:=rfl
@[simp]theorem pB{k}:aa C (.lam k) r st=.ok (.lf k) st:=rfl
theorem BR{c f i}:aa C (.attr c f i) r st=(R.of (kl r i) st).bind λx st1=>R.of ((ph c st1 x).bind λq=>q.2.lookup f) st1:=rfl
theorem BS{k c m i es}:aa C (.pf k c m i es) r st=(R.of (kl r i) st).bind λx bF=>(R.of ((ph c bF x).bind λq=>if(q.2.lookup m).isNone then Δ () else Θ) bF).bind λ_ bF=>(aD C es r bF).bind λps st1=>C k (x::ps) st1:=rfl
theorem tB{a b}:aa C (.D5 a b) r st=(aa C a r st).bind λx st1=>(R.of (bC st1 x) st1).bind λ_ st1=>(aa C b r st1).bind λy st2=>(R.of (Gw x y st2) st2).bind λq _=>.ok q.1 q.2:=rfl
theorem kM{a b c}:aa C (.tp a b c) r st=(aa C a r st).bind λx st1=>(R.of (bC st1 x) st1).bind λ_ st1=>(aa C b r st1).bind λy st2=>(aa C c r st2).bind λz st3=>(R.of (qz x y z st3) st3).bind λq _=>.ok q.1 q.2:=rfl
theorem tD{k x}:aa C (.D7 k x) r st=(aa C k r st).bind λy st1=>(R.of (Jc y (.d x)) st1).bind λo st2=>.ok (.obj st2.length) (st2++[o]):=rfl
theorem tF{a}:aa C (.D6 a) r st=(aa C a r st).bind λx st1=>(R.of (Gx x st1) st1).bind λq _=>.ok q.1 q.2:=rfl
theorem tG{k c es}:aa C (.make k c es) r st=(aD C es r st).bind λps st1=>(C k (.obj st1.length::ps) (st1++[.ins c []])).bind λv st2=>match v with|.d .bz=>.ok (.obj st1.length) st2|_=>.no:=rfl
@[simp]theorem mL:ic C Θ r st=.ok Θ st:=rfl
theorem tH{e}:ic C (Δ e) r st=(aa C e r st).bind λx st1=>.ok (Δ x) st1:=rfl
@[simp]theorem ay:aD C [] r st=.ok [] st:=rfl
theorem aj{e es}:aD C (e::es) r st=(aa C e r st).bind λx st1=>(aD C es r st1).bind λxs st2=>.ok (x::xs) st2:=rfl
@[simp]theorem pD{e}:gg C [e] r st=aa C e r st:=rfl
theorem lF{e e' es}:gg C (e::e'::es) r st=(aa C e r st).bind λx st1=>match x with|.d (.bl b)=>if b then gg C (e'::es) r st1 else .ok (.d (.bl Ξ)) st1|_=>.no:=rfl
@[simp]theorem Ee{e}:gh C [e] r st=aa C e r st:=rfl
theorem lG{e e' es}:gh C (e::e'::es) r st=(aa C e r st).bind λx st1=>match x with|.d (.bl b)=>if b then .ok (.d (.bl Λ)) st1 else gh C (e'::es) r st1|_=>.no:=rfl
theorem fS{es}:bc C (.dZ es) r st=(aD C es r st).bind λps st1=>if ps.length<=au then .ok ps st1 else .no:=rfl
theorem jS{w ts js c e}:bc C (.comp w ts js c e) r st=(cn C w r st).bind λps st1=>if ts=1/\ps.length<=au then cT (λp=>Δ p::bY js r) (bB C c) (λr' aK=>aa C e r' aK) ps st1 else .no:=rfl
theorem wu{es}:bc C (.fZ es) r st=(aD C es r st).bind λps st1=>(R.of (nS ps) st1).bind λqs st2=>if qs.length<=au then .ok qs st2 else .no:=rfl
theorem wy{a b}:bc C (.zip a b) r st=(aa C a r st).bind λx st1=>(aa C b r st1).bind λy st2=>(R.of (Eb x y) st2).bind λzs st3=>.ok (zs.map .d) st3:=rfl
theorem qD{e js c ee}:bc C (.cj e js c ee) r st=(aa C e r st).bind λx st1=>match x with|.obj n=>cj n (λp=>Δ p::bY js r) (bB C c) (λr' aK=>aa C ee r' aK) au 0 st1|_=>.no:=rfl
theorem tI{e}:bc C (.keys e) r st=(aa C e r st).bind λx st1=>(R.of (tu st1 x) st1).bind λq st2=>.ok (q.2.map λkv=>xM kv.1) st2:=rfl
@[simp]theorem mM:bB C Θ r st=.ok Λ st:=rfl
theorem tJ{c}:bB C (Δ c) r st=(aa C c r st).bind λx st2=>R.of (xJ st2 x) st2:=rfl
theorem zH{e}:cn C (.ex e) r st=(aa C e r st).bind λx st1=>R.of (pw x) st1:=rfl
theorem pE{es}:cn C (.fZ es) r st=(aD C es r st).bind λps st1=>R.of (nS ps) st1:=rfl
theorem tK{e}:cn C (.enum e) r st=(aa C e r st).bind λx st1=>match x with|.d (.tup xs)=>.ok (c0 0 xs) st1|_=>.no:=rfl
theorem pF{e}:aP C (.ret e) r st=(aa C e r st).bind λv st1=>.ok (.rt v) st1:=rfl
theorem tM:aP C .D8 r st=.ok (.rt (.d .bz)) st:=rfl
theorem pH{i e}:aP C (.set i e) r st=(aa C e r st).bind λv st1=>.ok (.nx (r.set i (Δ v))) st1:=rfl
theorem pI{c a b}:aP C (.ifs c a b) r st=(b8 (aa C c) r st).bind λk st1=>if k then ah C a r st1 else ah C b r st1:=rfl
theorem tN{t w b}:aP C (.ff t w b) r st=(cn C w r st).bind λps st1=>forL (gz t) (ah C b) ps r st1:=rfl
theorem nT{c b}:aP C (.kK c b) r st=gF (b8 (aa C c)) (ah C b) dW r st:=rfl
theorem tP{t e b}:aP C (.iH t e b) r st=(aa C e r st).bind λx st1=>match x with|.obj n=>iH n (gz t) (ah C b) dW 0 r st1|_=>.no:=rfl
theorem tQ{i j e b}:aP C (.BP i j e b) r st=(aa C e r st).bind λx st1=>(R.of (tu st1 x) st1).bind λq st1=>(mK i j (ah C b) q.2 r (st1.set q.1 .vA)).bind λf st2=>.ok f (st2.set q.1 (.dK q.2)):=rfl
theorem tR{i j e b}:aP C (.jc i j e b) r st=(aa C e r st).bind λx st1=>match x with|.obj n=>jc n i j (ah C b) dW 0 r st1|_=>.no:=rfl
theorem tU{e}:aP C (.expr e) r st=(aa C e r st).bind λ_ st1=>.ok (.nx r) st1:=rfl
theorem tV{i k}:aP C (.nL i k) r st=.ok (.nx (r.set i (Δ (.lf k)))) st:=rfl
theorem tX{c f i e}:aP C (.lX c f i e) r st=(aa C e r st).bind λv st1=>(R.of (kl r i) st1).bind λx st2=>(R.of ((ph c st2 x).bind λq=>if q.2.length < 1000 then Δ (st2.set q.1 (.ins c (vC f v q.2))) else Θ) st2).bind λst3 _=>.ok (.nx r) st3:=rfl
theorem wz{a e}:aP C (.app a e) r st=(aa C a r st).bind λx st1=>(R.of (bj st1 x) st1).bind λ_ st1=>(aa C e r st1).bind λv st2=>(R.of (xK x v st2) st2).bind λst3 _=>.ok (.nx r) st3:=rfl
theorem wA{a i e}:aP C (.put a i e) r st=(aa C e r st).bind λv st1=>(aa C a r st1).bind λx st2=>(aa C i r st2).bind λk st3=>(R.of (nR x k v st3) st3).bind λma _=>.ok (.nx r) ma:=rfl
theorem jT:ah C [] r st=.ok (.nx r) st:=rfl
theorem e8{s rest}:ah C (s::rest) r st=(aP C s r st).bind λf st1=>match f with|.nx r1=>ah C rest r1 st1|.bk r1=>.ok (.bk r1) st1|.ct r1=>.ok (.ct r1) st1|.rt v=>.ok (.rt v) st1:=rfl
end
theorem Gy:forL g b [] r st=.ok (.nx r) st:=rfl
theorem pJ:forL g b (p::ps) r st=(R.of (g p r) st).bind λr1 bF=>(b r1 bF).bind λf st1=>match f with|.nx r2=>forL g b ps r2 st1|.ct r2=>forL g b ps r2 st1|.bk r2=>.ok (.nx r2) st1|.rt v=>.ok (.rt v) st1:=rfl
theorem pK:iH n g b (k+1) i r st=match wo n st i with|none=>.no|some Θ=>.ok (.nx r) st|some (Δ p)=>(R.of (g p r) st).bind λr1 bF=>(b r1 bF).bind λf st1=>match f with|.nx r2=>iH n g b k (i+1) r2 st1|.ct r2=>iH n g b k (i+1) r2 st1|.bk r2=>.ok (.nx r2) st1|.rt v=>.ok (.rt v) st1:=rfl
theorem pL:jc n i j b (k+1) q r st=match wo n st q with|none=>.no|some Θ=>.ok (.nx r) st|some (Δ p)=>(b ((r.set i (Δ (.d (.int q)))).set j (Δ p)) st).bind λf st1=>match f with|.nx r2=>jc n i j b k (q+1) r2 st1|.ct r2=>jc n i j b k (q+1) r2 st1|.bk r2=>.ok (.nx r2) st1|.rt v=>.ok (.rt v) st1:=rfl
theorem Gz:mK i j b [] r st=.ok (.nx r) st:=rfl
theorem wB:mK i j b (kv::ps) r st=(b ((r.set i (Δ (xM kv.1))).set j (Δ kv.2)) st).bind λf st1=>match f with|.nx r2=>mK i j b ps r2 st1|.ct r2=>mK i j b ps r2 st1|.bk r2=>.ok (.nx r2) st1|.rt v=>.ok (.rt v) st1:=rfl
theorem kN:gF c b (n+1) r st=(c r st).bind λk st1=>if k then(b r st1).bind λf st2=>match f with|.nx r2=>gF c b n r2 st2|.ct r2=>gF c b n r2 st2|.bk r2=>.ok (.nx r2) st2|.rt v=>.ok (.rt v) st2 else .ok (.nx r) st1:=rfl
theorem wC:cT g c e [] st=.ok [] st:=rfl
theorem ig:cT g c e (p::r) st=(c (g p) st).bind λb st1=>if b then(e (g p) st1).bind λy st2=>(cT g c e r st2).bind λys st3=>.ok (y::ys) st3 else cT g c e r st1:=rfl
theorem mN:cj n g c e (k+1) i st=match wo n st i with|none=>.no|some Θ=>.ok [] st|some (Δ p)=>(c (g p) st).bind λb st1=>if b then(e (g p) st1).bind λy st2=>(cj n g c e k (i+1) st2).bind λys st3=>.ok (y::ys) st3 else cj n g c e k (i+1) st1:=rfl
structure Fn where
 np:Nat
 nn:Nat
 body:List S
 sh:Bool:=Ξ
mutual
def nU:D->Bool
 |.pl _=>Ξ|.tup xs=>CP xs|_=>Λ
def CP:List D->Bool
 |[]=>Λ|x::xs=>nU x&&CP xs
end
def isObj:P->Bool
 |.obj _=>Λ|_=>Ξ
def outF(r:R Fl):Option D:=match r with|.ok (.rt p) st=>jR st p|.ok (.nx _) _=>Δ .bz|_=>Θ
def az(nn:Nat)(ps:List P):bX:=ps.map Δ++X6 (nn - ps.length) Θ
def vD(C:Nat->List P->aI->R P)(F:Fn)(ps:List P):Option D:=if ps.length=F.np then outF (ah C F.body (az F.nn ps) []) else Θ
def tY(ps:List P)(d:D)(st:aI):R P:=if ps.any isObj&&!nU d then .no else .ok (.d d) st
def Jd(r:R Fl):R P:=match r with|.ok (.rt p) st=>.ok p st|.ok (.nx _) st=>.ok (.d .bz) st|_=>.no
def wF(Fs:List Fn):Nat->Nat->List P->aI->R P
 |0,_,_,_=>.no|n+1,f,ps,st=>match Fs[f]? with|none=>.no|some F=>if F.sh then(if ps.length=F.np then Jd (ah (wF Fs n) F.body (az F.nn ps) st) else .no) else match gN st ps with|none=>.no|some qs=>match vD (wF Fs n) F qs with|none=>.no|some d=>tY ps d st
theorem GA:∃f:List Fn->Nat->Nat->List P->aI->R P,f=wF:=⟨wF,rfl⟩
noncomputable def callC:List Fn->Nat->Nat->List P->aI->R P:=Classical.choose GA
theorem zI:callC=wF:=Classical.choose_spec GA
theorem tZ Fs f ps st:callC Fs 0 f ps st=.no:=by rw[zI];rfl
theorem ij(Fs:List Fn)(n f:Nat)(ps:List P)(st:aI):callC Fs (n+1) f ps st=match Fs[f]? with|none=>.no|some F=>if F.sh then(if ps.length=F.np then Jd (ah (callC Fs n) F.body (az F.nn ps) st) else .no) else match gN st ps with|none=>.no|some qs=>match vD (callC Fs n) F qs with|none=>.no|some d=>tY ps d st:=by rw[zI,wF]
end Y
namespace Y
open PySem L2
structure KB where
 K:Xm
 B:Heap
 tabs:List (Addr×List (Pos×Str))
 qE:Nat->Addr->Addr->List V->Prop
 HN:Nat->Addr->Addr->Value->Heap->Prop
 zJ:Nat->Str
structure KT where
 tabs:List (Addr×List (Pos×Str)):=[]
 qE:Nat->Addr->Addr->List V->Prop:=λ_ _ _ _=>False
 HN:Nat->Addr->Addr->Value->Heap->Prop:=λ_ _ _ _ _=>False
 zJ:Nat->Str:=λ_=>""
abbrev af(X:Cx)(t:KT):KB:=⟨X.K,X.base,t.tabs,t.qE,t.HN,t.zJ⟩
mutual
def aF(K:KB)(H:Hp)(m Z:List Addr):D->V->Prop
 |.bz,v=>v=.bz|.bl b,v=>v=.bl b|.int i,v=>v=.int i|.str x,v=>v=.str x|.tup xs,v=>∃a us,v=.ref a/\H a=Δ (.tup us)/\aw K H m Z xs us|.pl xs,v=>∃a us,v=.ref a/\Rd H a (.lst us)/\a∉m/\a∉Z/\aw K H m Z xs us
def aw(K:KB)(H:Hp)(m Z:List Addr):List D->List V->Prop
 |[],us=>us=[]|x::xs,us=>∃v vs,us=v::vs/\aF K H m Z x v/\aw K H m Z xs vs
end
noncomputable def MT(K:Xm)(H:Hp)(a:Addr)(us:List V):Prop:=(∃o,H a=Δ (.dA o (.lst us)))\/
 ∃(o:Obj) (its:Array Value) (n:Nat),K.lookup a=Δ o/\o.cls=.type "list"/\o.dict=Θ/\o.data=.seq its n/\its.size<=XE/\aS us its.toList
theorem MT.sq(h:MT K H a us):lT K H a us:=by
 rcases h with h|h;·exact .inl (.inr h)
 ·exact .inr h
mutual
def ak(K:KB)(H:Hp)(m Z:List Addr):P->V->Prop
 |.d x,v=>aF K H m Z x v|.obj n,v=>∃a,m[n]?=Δ a/\v=.ref a|.fR ns,v=>∃a,v=.ref a/\MT K.K H a (ns.map V.int)|.fn k bu,v=>∃a c bW,v=.ref a/\K.qE k a c bW/\H c=Δ (.ext (dE c (K.zJ k)))/\ai K H m Z bu bW|.lf k,v=>∃a c ct,v=.ref a/\H a=Δ (.ext (K.HN k a c ct))/\H c=Δ (.ext (dE c (K.zJ k)))
def ai(K:KB)(H:Hp)(m Z:List Addr):List P->List V->Prop
 |[],us=>us=[]|x::xs,us=>∃v vs,us=v::vs/\ak K H m Z x v/\ai K H m Z xs vs
end
def aO{κ:Type}(K:KB)(H:Hp)(m Z:List Addr):List (κ×P)->List (κ×V)->Prop
 |[],us=>us=[]|x::xs,us=>∃v vs,us=(x.1,v)::vs/\ak K H m Z x.2 v/\aO K H m Z xs vs
def qZ(K:KB)(H:Hp)(m Z:List Addr)(a:Addr):O->Prop
 |.lst ps=>∃us,H a=Δ (.lst us)/\ai K H m Z ps us|.dK kvs=>∃us,H a=Δ (.dK us)/\aO K H m Z kvs us|.dT kvs=>∃us,H a=Δ (.dT us)/\aO K H m Z kvs us|.ins c fs=>∃C dx us,XB K.K Xu c=Δ (Δ (.ref C))/\H a=Δ (.ins C dx us)/\H dx=Δ (.own a)/\aO K H m Z fs us|.vA=>∃o us,H a=Δ (.dA o (.dK us))
theorem ai.mono(f:∀p v,ak K H m Z p v->ak K H' m' Z' p v):∀{xs} {us},ai K H m Z xs us->ai K H' m' Z' xs us
 |[],_,h=>h|x::xs,us,h=>by rw[ai] at h ⊢;obtain⟨v,vs,e,r,rs⟩:=h;exact⟨v,vs,e,f _ _ r,ai.mono f rs⟩
theorem aO.mono{κ:Type}{H H':Hp}{m m' Z Z':List Addr}(f:∀p v,ak K H m Z p v->ak K H' m' Z' p v):∀{xs:List (κ×P)} {us:List (κ×V)},aO K H m Z xs us->aO K H' m' Z' xs us
 |[],_,h=>h|x::xs,us,h=>by obtain⟨v,vs,e,r,rs⟩:=(show ∃v vs,us=(x.1,v)::vs/\ak K H m Z x.2 v/\aO K H m Z xs vs from h);exact⟨v,vs,e,f _ _ r,aO.mono f rs⟩
theorem qZ.mono(he:∀b u,(b=a\/H b=Δ (.own a))->H b=Δ u->H' b=Δ u)(f:∀p v,ak K H m Z p v->ak K H' m' Z' p v)(h:qZ K H m Z a o):qZ K H' m' Z' a o:=by cases o with|lst ps=>obtain⟨us,e,r⟩:=h;exact⟨us,he _ _ (.inl rfl) e,r.mono f⟩|dK ps=>obtain⟨us,e,r⟩:=h;exact⟨us,he _ _ (.inl rfl) e,r.mono f⟩|dT ps=>obtain⟨us,e,r⟩:=h;exact⟨us,he _ _ (.inl rfl) e,r.mono f⟩|ins c fs=>obtain⟨C,dx,us,n,e,e2,r⟩:=h;exact⟨C,dx,us,n,he _ _ (.inl rfl) e,he _ _ (.inr e2) e2,r.mono f⟩|vA=>obtain⟨o,us,e⟩:=h;exact⟨o,us,he _ _ (.inl rfl) e⟩
theorem qZ.qR(h:qZ K H m Z a o):H a≠Θ/\(∀us,H a≠Δ (.tup us))/\(o≠.vA->∀o' u,H a≠Δ (.dA o' u))/\(∀φ,H a≠Δ (.ext φ))/\(∀ps,H a≠Δ (.fG ps))/\∀b,H a≠Δ (.own b):=by cases o with|lst ps=>obtain⟨us,e,r⟩:=h;rw[e];exact⟨(λz=>nomatch z),(λ_ z=>nomatch z),(λ_ _ _ z=>nomatch z),(λ_ z=>nomatch z),(λ_ z=>nomatch z),(λ_ z=>nomatch z)⟩|dK ps=>obtain⟨us,e,r⟩:=h;rw[e];exact⟨(λz=>nomatch z),(λ_ z=>nomatch z),(λ_ _ _ z=>nomatch z),(λ_ z=>nomatch z),(λ_ z=>nomatch z),(λ_ z=>nomatch z)⟩|dT ps=>obtain⟨us,e,r⟩:=h;rw[e];exact⟨(λz=>nomatch z),(λ_ z=>nomatch z),(λ_ _ _ z=>nomatch z),(λ_ z=>nomatch z),(λ_ z=>nomatch z),(λ_ z=>nomatch z)⟩|ins c fs=>obtain⟨C,dx,us,n,e,e2,r⟩:=h;rw[e];exact⟨(λz=>nomatch z),(λ_ z=>nomatch z),(λ_ _ _ z=>nomatch z),(λ_ z=>nomatch z),(λ_ z=>nomatch z),(λ_ z=>nomatch z)⟩|vA=>obtain⟨o,us,e⟩:=h;rw[e];exact⟨(λz=>nomatch z),(λ_ z=>nomatch z),(λz=>absurd rfl z),(λ_ z=>nomatch z),(λ_ z=>nomatch z),(λ_ z=>nomatch z)⟩
structure aA(K:KB)(H:Hp)(m Z:List Addr)(st:aI):Prop where
 len:m.length=st.length
 nd:m.Nodup
 at_:∀(n:Nat) (o:O),st[n]?=Δ o->∃a,m[n]?=Δ a/\qZ K H m Z a o
 zt:∀a∈Z,gy H a≠Θ
 zm:∀a∈Z,a∉m
 tab:∀t∈K.tabs,∃ps,H t.1=Δ (.fG ps)/\fK H t.2 ps
structure cu(K:KB)(H:Hp)(m Z:List Addr)(r:bX)(σ:St):Prop where
 len:r.length=σ.length
 at_:∀(i:Nat) (p:P),r[i]?=Δ (Δ p)->∃v,σ[i]?=Δ (Δ v)/\ak K H m Z p v
structure Le(K:KB)(m:List Addr)(H:Hp)(m':List Addr)(H':Hp):Prop where
 pre:∃t,m'=m++t
 tup:∀a xs,H a=Δ (.tup xs)->H' a=Δ (.tup xs)
 keep:∀a u,H a=Δ u->a∉m->(∀ps,u≠.fG ps)->H' a=Δ u
 new:∀a∈m',a∈m\/H a=Θ
 qR:∀a,H a≠Θ->H' a≠Θ
 CQ:∀a,gy H a≠Θ->gy H' a≠Θ
 dA:∀a o u,H a=Δ (.dA o u)->H' a=Δ (.dA o u)
 ext:∀a φ,H a=Δ (.ext φ)->H' a=Δ (.ext φ)
 fG:∀a ps,H a=Δ (.fG ps)->∃more,H' a=Δ (.fG (ps++more))
section
variable{K:KB}{H H' H1 H2:Hp}{m m' m1 m2 Z:List Addr}{α β:Type}
theorem GB(h:Rd H a u):H a≠Θ:=by rcases h with h|⟨o,h⟩<;>(rw[h];exact λz=>nomatch z)
theorem Le.refl:Le K m H m H:=⟨⟨[],by simp⟩,λ_ _ h=>h,λ_ _ h _ _=>h,λ_ h=>.inl h,λ_ h=>h,λ_ h=>h,λ_ _ _ h=>h,λ_ _ h=>h,λ_ ps h=>⟨#[],by rw[h];simp⟩⟩
theorem Le.trans(a:Le K m H m1 H1)(b:Le K m1 H1 m2 H2):Le K m H m2 H2 where
 pre:=by obtain⟨t,e⟩:=a.pre;obtain⟨u,e'⟩:=b.pre;exact⟨t++u,by rw[e',e,X7]⟩
 tup:=λc xs h=>b.tup c xs (a.tup c xs h)
 keep:=λc u h hc hu=>b.keep c u (a.keep c u h hc hu) (λz=>by
  rcases a.new c z with q|q;·exact hc q
  ·rw[h] at q;cases q) hu
 new:=λc hc=>by
  rcases b.new c hc with q|q;·exact a.new c q
  ·cases e:H c with|none=>exact .inr rfl|some o=>exact absurd q (a.qR c (by rw[e];exact λz=>nomatch z))
 qR:=λc h=>b.qR c (a.qR c h)
 CQ:=λc h=>b.CQ c (a.CQ c h)
 dA:=λc o u h=>b.dA c o u (a.dA c o u h)
 ext:=λc φ h=>b.ext c φ (a.ext c φ h)
 fG:=λc ps h=>by obtain⟨m1,e1⟩:=a.fG c ps h;obtain⟨m2,e2⟩:=b.fG c _ e1;exact⟨m1++m2,by rw[e2,Array.append_assoc]⟩
theorem Je(e:jj H H')(h:H a≠Θ):H' a≠Θ:=by cases q:H a with|none=>exact absurd q h|some o=>rw[e _ _ q];exact λz=>nomatch z
theorem t7(e:jj H H')(h:gy H a≠Θ):gy H' a≠Θ:=by cases q:gy H a with|none=>exact absurd q h|some o=>obtain⟨h1,h2⟩:=kI q;have h3:=e _ _ h1;cases o with|ext φ=>have:∃q,φ=dE a q:=XG λz=>h2 φ rfl λq' e'=>z ⟨q',e'⟩;obtain⟨q',rfl⟩:=this;rw[gf h3];exact λz=>nomatch z|_=>rw[br h3 (λ_ z=>nomatch z)];exact λz=>nomatch z
theorem Le.same(e:jj H H'):Le K m H m H':=⟨⟨[],by simp⟩,λ_ _ h=>e _ _ h,λ_ _ h _ _=>e _ _ h,λ_ h=>.inl h,λ_ h=>Je e h,λ_ h=>t7 e h,λ_ _ _ h=>e _ _ h,λ_ _ h=>e _ _ h,λ_ ps h=>⟨#[],by rw[e _ _ h];simp⟩⟩
theorem Le.rd(le:Le K m H m' H')(h:Rd H a (.lst us))(hm:a∉m):Rd H' a (.lst us):=by
 rcases h with h|⟨o,h⟩;·exact .inl (le.keep _ _ h hm (λ_ z=>nomatch z))
 ·exact .inr ⟨o,le.keep _ _ h hm (λ_ z=>nomatch z)⟩
mutual
theorem aF.le(le:Le K m H m' H'):∀{x:D} {v:V},aF K H m Z x v->aF K H' m' Z x v
 |.bz,_,h=>h|.bl _,_,h=>h|.int _,_,h=>h|.str _,_,h=>h|.tup xs,v,h=>by obtain⟨a,us,e,q,r⟩:=(show ∃a us,v=.ref a/\H a=Δ (.tup us)/\aw K H m Z xs us from h);exact⟨a,us,e,le.tup _ _ q,aw.le le r⟩
 |.pl xs,v,h=>by
  obtain⟨a,us,e,q,hm,hz,r⟩:=(show ∃a us,v=.ref a/\Rd H a (.lst us)/\a∉m/\a∉Z/\aw K H m Z xs us from h);refine⟨a,us,e,le.rd q hm,λz=>?_,hz,aw.le le r⟩;rcases le.new a z with y|y;·exact hm y
  ·exact GB q y
theorem aw.le(le:Le K m H m' H'):∀{xs:List D} {us:List V},aw K H m Z xs us->aw K H' m' Z xs us
 |[],_,h=>h|x::xs,us,h=>by obtain⟨v,vs,e,r,rs⟩:=(show ∃v vs,us=v::vs/\aF K H m Z x v/\aw K H m Z xs vs from h);exact⟨v,vs,e,aF.le le r,aw.le le rs⟩
end
mutual
theorem ak.le(le:Le K m H m' H'):∀{x:P} {v:V},ak K H m Z x v->ak K H' m' Z x v
 |.d _,_,h=>by rw[ak] at h ⊢;exact aF.le le h|.obj n,v,h=>by rw[ak] at h ⊢;obtain⟨a,e,r⟩:=h;obtain⟨t,q⟩:=le.pre;refine⟨a,?_,r⟩;rw[q,Xg (qqz e).1];exact e
 |.fR ns,v,h=>by
  rw[ak] at h ⊢;obtain⟨a,e,r⟩:=h;refine⟨a,e,?_⟩;rcases r with ⟨o,r⟩|r
  ·exact .inl ⟨o,le.dA _ _ _ r⟩
  ·exact .inr r
 |.fn k bu,v,h=>by rw[ak] at h ⊢;obtain⟨a,c,bW,e,q,hc,r⟩:=h;exact⟨a,c,bW,e,q,le.ext _ _ hc,ai.le le r⟩|.lf k,v,h=>by rw[ak] at h ⊢;obtain⟨a,c,ct,e,q,r⟩:=h;exact⟨a,c,ct,e,le.ext _ _ q,le.ext _ _ r⟩
theorem ai.le(le:Le K m H m' H'):∀{xs:List P} {us:List V},ai K H m Z xs us->ai K H' m' Z xs us
 |[],_,h=>h|x::xs,us,h=>by obtain⟨v,vs,e,r,rs⟩:=(show ∃v vs,us=v::vs/\ak K H m Z x v/\ai K H m Z xs vs by rw[ai] at h;exact h);rw[ai];exact⟨v,vs,e,ak.le le r,ai.le le rs⟩
end
theorem cu.le(A:cu K H m Z r σ)(le:Le K m H m' H'):cu K H' m' Z r σ:=⟨A.len,λi p h=>by obtain⟨v,e,q⟩:=A.at_ i p h;exact⟨v,e,q.le le⟩⟩
theorem fK.same(e:∀a φ,H a=Δ (.ext φ)->H' a=Δ (.ext φ))(h:fK H bU ps):fK H' bU ps:=
 ⟨h.1,λp hp cv A6=>by obtain⟨c,e1,e2⟩:=h.2 p hp cv A6;exact⟨c,e1,e _ _ e2⟩⟩
theorem aA.same(A:aA K H m Z st)(e:jj H H'):aA K H' m Z st:=by
 refine⟨A.len,A.nd,λn o h=>?_,λa h=>t7 e (A.zt a h),A.zm,λt ht=>?_⟩;·obtain⟨a,q,r⟩:=A.at_ n o h;exact⟨a,q,r.mono (λb u _ hu=>e _ _ hu) λp v z=>z.le (Le.same e)⟩
 ·obtain⟨ps,h1,h2⟩:=A.tab t ht;exact⟨ps,e _ _ h1,fK.same (λa φ z=>e _ _ z) h2⟩
noncomputable def Ok(K:KB)(Z:List Addr)(r:R α)(m:List Addr)(H:Hp)(Q:α->aI->List Addr->Hp->Prop):Prop:=match r with|.ok a aK=>∀m' H',Le K m H m' H'->aA K H' m' Z aK->Q a aK m' H'|_=>False
theorem Ok.le(h:Ok K Z r m H Q)(le:Le K m H m' H'):Ok K Z r m' H' Q:=by cases r with|ok a aK=>exact λm2 H2 l2 a2=>h m2 H2 (le.trans l2) a2|ex x aK=>exact h|no=>exact h
theorem Ok.bind(h:Ok K Z (r.bind k) m H Q):Ok K Z r m H (λa aK m' H'=>Ok K Z (k a aK) m' H' Q):=by cases r with|ok a aK=>exact λm' H' le _=>Ok.le (r:=k a aK) h le|ex x aK=>exact h|no=>exact h
theorem Ok.nN{r:R α}{Q:β->aI->List Addr->Hp->Prop}(hk:∀a st,k a st=.no)(h:Ok K Z (r.bind k) m H Q):False:=by cases r with|ok a aK=>rw[ae,hk] at h;exact h|ex x aK=>exact h|no=>exact h
theorem Ok.mono(h:Ok K Z r m H Q)(f:∀a aK m' H',Le K m H m' H'->aA K H' m' Z aK->Q a aK m' H'->Q' a aK m' H'):Ok K Z r m H Q':=by cases r with|ok a aK=>exact λm' H' le as=>f a aK m' H' le as (h m' H' le as)|ex x aK=>exact h|no=>exact h
theorem Ok.wG(h:Ok K Z r m H Q)(f:∀a aK m' H',r=.ok a aK->Le K m H m' H'->aA K H' m' Z aK->Q a aK m' H'->Q' a aK m' H'):Ok K Z r m H Q':=by cases r with|ok a aK=>exact λm' H' le as=>f a aK m' H' rfl le as (h m' H' le as)|ex x aK=>exact h|no=>exact h
theorem Ok.of(h:Ok K Z (R.of o st) m H Q)(as:aA K H m Z st):∃a,o=Δ a/\Q a st m H/\∀m' H',Le K m H m' H'->aA K H' m' Z st->Q a st m' H':=by cases o with|none=>exact(show False from h).elim|some a=>exact⟨a,rfl,h m H Le.refl as,h⟩
theorem Ok.here(h:Ok K Z (R.ok a st) m H Q)(as:aA K H m Z st):Q a st m H:=h m H Le.refl as
inductive tE (K:KB) (Z:List Addr) (d:bX->aI->R P) (σ:St) (H:Hp) (Q:VK):Prop
 |mk (m:List Addr) (r:bX) (st:aI) (a:cu K H m Z r σ) (b:aA K H m Z st) (c:Ok K Z (d r st) m H (λp _ m' H'=>∀v,ak K H' m' Z p v->Q v H')):tE K Z d σ H Q
inductive tT (K:KB) (Z:List Addr) (d:bX->aI->R Bool) (σ:St) (H:Hp) (Q:Bool->Hp->Prop):Prop
 |mk (m:List Addr) (r:bX) (st:aI) (a:cu K H m Z r σ) (b:aA K H m Z st) (c:Ok K Z (d r st) m H (λb _ _ H'=>Q b H')):tT K Z d σ H Q
inductive tA (K:KB) (Z:List Addr) (d:bX->aI->R (List P)) (σ:St) (H:Hp) (Q:List V->Hp->Prop):Prop
 |mk (m:List Addr) (r:bX) (st:aI) (a:cu K H m Z r σ) (b:aA K H m Z st) (c:Ok K Z (d r st) m H (λps _ m' H'=>∀vs,ai K H' m' Z ps vs->Q vs H')):tA K Z d σ H Q
def LQ(K:KB)(Z:List Addr)(r:R (List P))(m:List Addr)(H:Hp)(Q:VK):Prop:=match r with|.ok ps aK=>∀m' H' a vs,Le K m H m' H'->H a=Θ->a∉m'->H' a=Δ (.lst vs)->aA K H' m' (a::Z) aK->ai K H' m' (a::Z) ps vs->Q (.ref a) H'|_=>False
inductive tL (K:KB) (Z:List Addr) (d:bX->aI->R (List P)) (σ:St) (H:Hp) (Q:VK):Prop
 |mk (m:List Addr) (r:bX) (st:aI) (a:cu K H m Z r σ) (b:aA K H m Z st) (c:LQ K Z (d r st) m H Q):tL K Z d σ H Q
def qF(K:KB)(Z:List Addr)(D:Ends):Fl->aI->List Addr->Hp->Prop:=λf _ m' H'=>match f with|.nx r=>∀σ,cu K H' m' Z r σ->D.nx σ H'|.bk r=>∀σ,cu K H' m' Z r σ->D.bk σ H'|.ct r=>∀σ,cu K H' m' Z r σ->D.ct σ H'|.rt p=>∀v,ak K H' m' Z p v->D.rt v H'
mutual
theorem aF.sub{Z':List Addr}(sm:∀a∈m',a∈m)(s:∀a∈Z,a∈Z'):∀{x:D} {v:V},aF K H m Z' x v->aF K H m' Z x v
 |.bz,_,h=>h|.bl _,_,h=>h|.int _,_,h=>h|.str _,_,h=>h|.tup xs,v,h=>by obtain⟨a,us,e,q,r⟩:=(show ∃a us,v=.ref a/\H a=Δ (.tup us)/\aw K H m Z' xs us from h);exact⟨a,us,e,q,aw.sub sm s r⟩
 |.pl xs,v,h=>by obtain⟨a,us,e,q,hm,hz,r⟩:=(show ∃a us,v=.ref a/\Rd H a (.lst us)/\a∉m/\a∉Z'/\aw K H m Z' xs us from h);exact⟨a,us,e,q,λz=>hm (sm a z),λz=>hz (s a z),aw.sub sm s r⟩
theorem aw.sub{Z':List Addr}(sm:∀a∈m',a∈m)(s:∀a∈Z,a∈Z'):∀{xs:List D} {us:List V},aw K H m Z' xs us->aw K H m' Z xs us
 |[],_,h=>h|x::xs,us,h=>by obtain⟨v,vs,e,r,rs⟩:=(show ∃v vs,us=v::vs/\aF K H m Z' x v/\aw K H m Z' xs vs from h);exact⟨v,vs,e,aF.sub sm s r,aw.sub sm s rs⟩
end
theorem aF.vE(s:∀a∈Z,a∈Z')(h:aF K H m Z' x v):aF K H m Z x v:=aF.sub (λ_ h=>h) s h
theorem aF.bare(h:aF K H m Z x v):aF K H [] [] x v:=aF.sub (λ_ h=>by cases h) (λ_ h=>by cases h) h
theorem aw.bare(h:aw K H m Z x v):aw K H [] [] x v:=aw.sub (λ_ h=>by cases h) (λ_ h=>by cases h) h
mutual
theorem ak.vE{Z':List Addr}(s:∀a∈Z,a∈Z'):∀{x:P} {v:V},ak K H m Z' x v->ak K H m Z x v
 |.d _,_,h=>by rw[ak] at h ⊢;exact aF.vE s h|.obj _,_,h=>by rw[ak] at h ⊢;exact h|.fR _,_,h=>by rw[ak] at h ⊢;exact h|.fn k bu,v,h=>by rw[ak] at h ⊢;obtain⟨a,c,bW,e,q,hc,r⟩:=h;exact⟨a,c,bW,e,q,hc,ai.vE s r⟩
 |.lf k,v,h=>by rw[ak] at h ⊢;exact h
theorem ai.vE{Z':List Addr}(s:∀a∈Z,a∈Z'):∀{xs:List P} {us:List V},ai K H m Z' xs us->ai K H m Z xs us
 |[],_,h=>h|x::xs,us,h=>by rw[ai] at h ⊢;obtain⟨v,vs,e,r,rs⟩:=h;exact⟨v,vs,e,ak.vE s r,ai.vE s rs⟩
end
mutual
theorem aF.kO{b:Addr}(hb:H b=Θ):∀{x:D} {v:V},aF K H m Z x v->aF K H m (b::Z) x v
 |.bz,_,h=>h|.bl _,_,h=>h|.int _,_,h=>h|.str _,_,h=>h|.tup xs,v,h=>by obtain⟨a,us,e,q,r⟩:=(show ∃a us,v=.ref a/\H a=Δ (.tup us)/\aw K H m Z xs us from h);exact⟨a,us,e,q,aw.kO hb r⟩
 |.pl xs,v,h=>by
  obtain⟨a,us,e,q,hm,hz,r⟩:=(show ∃a us,v=.ref a/\Rd H a (.lst us)/\a∉m/\a∉Z/\aw K H m Z xs us from h);refine⟨a,us,e,q,hm,λz=>?_,aw.kO hb r⟩;rcases aai.mp z with z|z;·rw[z] at q;exact GB q hb
  ·exact hz z
theorem aw.kO{b:Addr}(hb:H b=Θ):∀{xs:List D} {us:List V},aw K H m Z xs us->aw K H m (b::Z) xs us
 |[],_,h=>h|x::xs,us,h=>by obtain⟨v,vs,e,r,rs⟩:=(show ∃v vs,us=v::vs/\aF K H m Z x v/\aw K H m Z xs vs from h);exact⟨v,vs,e,aF.kO hb r,aw.kO hb rs⟩
end
mutual
theorem ak.kO{b:Addr}(hb:H b=Θ):∀{x:P} {v:V},ak K H m Z x v->ak K H m (b::Z) x v
 |.d _,_,h=>by rw[ak] at h ⊢;exact aF.kO hb h|.obj _,_,h=>by rw[ak] at h ⊢;exact h|.fR _,_,h=>by rw[ak] at h ⊢;exact h|.fn k bu,v,h=>by rw[ak] at h ⊢;obtain⟨a,c,bW,e,q,hc,r⟩:=h;exact⟨a,c,bW,e,q,hc,ai.kO hb r⟩
 |.lf k,v,h=>by rw[ak] at h ⊢;exact h
theorem ai.kO{b:Addr}(hb:H b=Θ):∀{xs:List P} {us:List V},ai K H m Z xs us->ai K H m (b::Z) xs us
 |[],_,h=>h|x::xs,us,h=>by rw[ai] at h ⊢;obtain⟨v,vs,e,r,rs⟩:=h;exact⟨v,vs,e,ak.kO hb r,ai.kO hb rs⟩
end
theorem aA.QR(A:aA K H m Z st)(h:a∈m):H a≠Θ:=by
 obtain⟨n,hn,e⟩:=List.mem_iff_getElem.mp h;have E5:n < st.length:=by rw[<-A.len];exact hn
 obtain⟨a',e',r⟩:=A.at_ n st[n] (Xc E5);rw[Xc hn,e] at e';cases e';exact r.qR.1
theorem aA.fresh(A:aA K H m Z st)(h:H a=Θ):a∉m/\a∉Z:=⟨λz=>A.QR z h,λz=>A.zt a z (jP h)⟩
theorem lH(hx:∀φ,o≠.ext φ)(h:gy H b≠Θ):gy (upd H a o) b≠Θ:=by
 by_cases hb:b=a;·rw[hb,br aC hx];exact λz=>nomatch z
 ·unfold gy at h ⊢;rw[ax hb];exact h
theorem aA.laid(A:aA K H m Z st)(h:H a=Θ)o(hx:∀φ,o≠.ext φ:=by exact λ_ z=>nomatch z):aA K (upd H a o) m (a::Z) st:=by
 have e:jj H (upd H a o):=ba h o;have A':=A.same e;refine⟨A.len,A.nd,λn ob hn=>?_,λb hb=>?_,λb hb=>?_,A'.tab⟩;·obtain⟨c,q,r⟩:=A.at_ n ob hn;exact⟨c,q,r.mono (λb u _ hu=>e _ _ hu) λp v z=>(z.kO h).le (Le.same e)⟩
 ·rcases aai.mp hb with z|z;·rw[z,br aC hx];exact λz=>nomatch z
  ·exact A'.zt b z
 ·rcases aai.mp hb with z|z;·rw[z];exact(A.fresh h).1
  ·exact A.zm b z
theorem aA.QS(A:aA K H m Z st)(h:H a=Θ)(e:jj H H')(h':gy H' a≠Θ):aA K H' m (a::Z) st:=by
 refine⟨A.len,A.nd,λn ob hn=>?_,λb hb=>?_,λb hb=>?_,(A.same e).tab⟩;·obtain⟨c,q,r⟩:=A.at_ n ob hn;exact⟨c,q,r.mono (λb u _ hu=>e _ _ hu) λp v z=>(z.kO h).le (Le.same e)⟩
 ·rcases aai.mp hb with z|z;·rw[z];exact h'
  ·exact t7 e (A.zt b z)
 ·rcases aai.mp hb with z|z;·rw[z];exact(A.fresh h).1
  ·exact A.zm b z
theorem aA.vE(A:aA K H m Z' st)(s:∀a∈Z,a∈Z'):aA K H m Z st:=
 ⟨A.len,A.nd,λn o h=>by obtain⟨a,q,r⟩:=A.at_ n o h;exact⟨a,q,r.mono (λb u _ hu=>hu) λp v z=>z.vE s⟩,λa h=>A.zt a (s a h),λa h=>A.zm a (s a h),A.tab⟩
mutual
theorem aF.adopt{b:Addr}:∀{x:D} {v:V},aF K H m (b::Z) x v->aF K H (m++[b]) Z x v
 |.bz,_,h=>h|.bl _,_,h=>h|.int _,_,h=>h|.str _,_,h=>h|.tup xs,v,h=>by obtain⟨a,us,e,q,r⟩:=(show ∃a us,v=.ref a/\H a=Δ (.tup us)/\aw K H m (b::Z) xs us from h);exact⟨a,us,e,q,aw.adopt r⟩
 |.pl xs,v,h=>by
  obtain⟨a,us,e,q,hm,hz,r⟩:=(show ∃a us,v=.ref a/\Rd H a (.lst us)/\a∉m/\a∉b::Z/\aw K H m (b::Z) xs us from h);refine⟨a,us,e,q,λz=>?_,λz=>hz (Xb _ z),aw.adopt r⟩;rcases Zq.mp z with z|z;·exact hm z
  ·exact hz (by simp at z;rw[z];exact Xh)
theorem aw.adopt{b:Addr}:∀{xs:List D} {us:List V},aw K H m (b::Z) xs us->aw K H (m++[b]) Z xs us
 |[],_,h=>h|x::xs,us,h=>by obtain⟨v,vs,e,r,rs⟩:=(show ∃v vs,us=v::vs/\aF K H m (b::Z) x v/\aw K H m (b::Z) xs vs from h);exact⟨v,vs,e,aF.adopt r,aw.adopt rs⟩
end
mutual
theorem ak.adopt{b:Addr}:∀{x:P} {v:V},ak K H m (b::Z) x v->ak K H (m++[b]) Z x v
 |.d _,_,h=>by rw[ak] at h ⊢;exact aF.adopt h|.obj n,v,h=>by rw[ak] at h ⊢;obtain⟨a,e,r⟩:=h;exact⟨a,by rw[Xg (qqz e).1];exact e,r⟩
 |.fR _,_,h=>by rw[ak] at h ⊢;exact h|.fn k bu,v,h=>by rw[ak] at h ⊢;obtain⟨a,c,bW,e,q,hc,r⟩:=h;exact⟨a,c,bW,e,q,hc,ai.adopt r⟩
 |.lf k,v,h=>by rw[ak] at h ⊢;exact h
theorem ai.adopt{b:Addr}:∀{xs:List P} {us:List V},ai K H m (b::Z) xs us->ai K H (m++[b]) Z xs us
 |[],_,h=>h|x::xs,us,h=>by rw[ai] at h ⊢;obtain⟨v,vs,e,r,rs⟩:=h;exact⟨v,vs,e,ak.adopt r,ai.adopt rs⟩
end
theorem ky{l:List Addr}(nd:l.Nodup)(hi:i < l.length)(hj:j < l.length)(h:l[i]=l[j]):i=j:=by
 rcases Nat.lt_trichotomy i j with z|z|z;·exact absurd h (List.pairwise_iff_getElem.mp nd i j hi hj z)
 ·exact z
 ·exact absurd h.symm (List.pairwise_iff_getElem.mp nd j i hj hi z)
theorem aA.t8(A:aA K H m (a::Z) st)(hz:a∉Z)(r:qZ K H m (a::Z) a ob):aA K H (m++[a]) Z (st++[ob]):=by
 refine⟨by rw[Xz,Xz,A.len];rfl,?_,λn o h=>?_,λb h=>A.zt b (Xb _ h),λb h z=>?_,A.tab⟩
 ·refine X9.mpr ⟨A.nd,by simp,λx hx y hy=>?_⟩;have e:y=a:=by simpa using hy
  rw[e];rintro rfl;exact A.zm x Xh hx
 ·by_cases hn:n < st.length;·rw[Xg hn] at h;obtain⟨b,q,rr⟩:=A.at_ n o h;exact⟨b,by rw[Xg (by rw[A.len];exact hn)];exact q,rr.mono (λb u _ hu=>hu) λp v z=>z.adopt⟩
  ·rw[Xy (by lia)] at h;have Tf:n - st.length=0:=by
    have:=(qqz h).1;simp at this
    lia
   rw[Tf] at h;cases h;refine⟨a,?_,r.mono (λb u _ hu=>hu) λp v z=>z.adopt⟩;rw[Xy (by rw[A.len];lia),A.len,Tf];rfl
 ·rcases Zq.mp z with z|z;·exact A.zm b (Xb _ h) z
  ·have e:b=a:=by simpa using z
   rw[e] at h;exact hz h
theorem aA.adopt(A:aA K H m (a::Z) st)(hz:a∉Z)(ha:H a=Δ (.lst vs))(r:ai K H m (a::Z) ps vs):aA K H (m++[a]) Z (st++[.lst ps]):=A.t8 hz ⟨vs,ha,r⟩
theorem aA.write(A:aA K H m Z st)(hn:st[n]?=Δ o)(ha:m[n]?=Δ a)(oS:∀H',H' a=Δ ho->(∀b u,b≠a->H b=Δ u->H' b=Δ u)->(∀p v,ak K H m Z p v->ak K H' m Z p v)->qZ K H' m Z a o')(hx:∀φ,ho≠.ext φ:=by exact λ_ z=>nomatch z)(hl:o≠.vA:=by exact λz=>nomatch z):
  Le K m H m (upd H a ho)/\aA K (upd H a ho) m Z (st.set n o'):=by
 obtain⟨a',e,r⟩:=A.at_ n o hn;rw[ha] at e;cases e;obtain⟨t1,t2,t3,t4,t5,t6⟩:=r.qR;replace t3:=t3 hl;have le:Le K m H m (upd H a ho):=by
  refine⟨⟨[],by simp⟩,λb xs h=>?_,λb u h hb _=>?_,λb h=>.inl h,λb h=>?_,λb h=>lH hx h,λb o u h=>?_,λb φ h=>?_,λb ps h=>⟨#[],?_⟩⟩;·rw[ax (λz=>t2 xs (by rw[<-z];exact h))];exact h
  ·rw[ax (λz=>hb (by rw[z];exact Xw ha))];exact h
  ·by_cases MU:b=a;·rw[MU,aC];exact λz=>nomatch z
   ·rw[ax MU];exact h
  ·rw[ax (λz=>t3 o u (by rw[<-z];exact h))];exact h
  ·rw[ax (λz=>t4 φ (by rw[<-z];exact h))];exact h
  ·rw[ax (λz=>t5 ps (by rw[<-z];exact h)),h];simp
 refine⟨le,⟨by rw[YL];exact A.len,A.nd,λk ob hk=>?_,λb hb=>le.CQ b (A.zt b hb),A.zm,λt ht=>?_⟩⟩
 rotate_left
 ·obtain⟨ps,h1,h2⟩:=A.tab t ht;exact⟨ps,by rw[ax (λz=>t5 ps (by rw[<-z];exact h1))];exact h1,fK.same le.ext h2⟩
 by_cases MV:n=k;·subst MV;have eZ:=(qqz hn).1;rw[XC eZ] at hk;cases hk;exact⟨a,ha,oS _ aC (λb u hb hu=>by rw[ax hb];exact hu) λp v z=>z.le le⟩
 ·rw[Xe MV] at hk;obtain⟨b,q,rr⟩:=A.at_ k ob hk;have MU:b≠a:=by rintro rfl;have h1:=(qqz ha);have h2:=(qqz q);obtain⟨l1,e1⟩:=h1;obtain⟨l2,e2⟩:=h2;exact MV (ky A.nd l1 l2 (e1.trans e2.symm))
  exact⟨b,q,rr.mono (λb' u iP hu=>by
   rw[ax (λz=>by
    rcases iP with w1|w1;·exact MU (w1▸z)
    ·exact t6 b (by rw[<-z];exact w1))]
   exact hu) λp v z=>z.le le⟩
end
mutual
def RH(h:Heap):D->Value->Prop
 |.bz,u=>u=.none|.bl b,u=>u=.bool b|.int i,u=>∃t,u=.int i t|.str x,u=>∃t,u=.str x t|.tup xs,u=>∃a its,u=.ref a/\h.IsTuple a its.toArray/\vc h xs its|.pl xs,u=>∃a its,u=.ref a/\h.IsList a its.toArray/\vc h xs its
def vc(h:Heap):List D->List Value->Prop
 |[],us=>us=[]|x::xs,us=>∃u r,us=u::r/\RH h x u/\vc h xs r
end
section
variable{h:Heap}
theorem vc.length:∀{xs} {us},vc h xs us->us.length=xs.length
 |[],us,r=>by cases (show us=[] from r);rfl|x::xs,us,r=>by obtain⟨u,q,rfl,_,rs⟩:=(show ∃u r,us=u::r/\RH h x u/\vc h xs r from r);rw[Xt,Xt,vc.length rs]
theorem qG(p:h.IsTuple a x)(q:h.IsTuple a y):x=y:=by obtain⟨o,e,_,n,d⟩:=p;obtain⟨o',e',_,n',d'⟩:=q;rw[e] at e';cases e';rw[d] at d';cases d';rfl
theorem t9(p:h.IsList a x)(q:h.IsList a y):x=y:=by obtain⟨o,e,_,n,d⟩:=p;obtain⟨o',e',_,n',d'⟩:=q;rw[e] at e';cases e';rw[d] at d';cases d';rfl
theorem zK(p:h.IsTuple a x)(q:h.IsList a y):False:=by obtain⟨o,e,c,_⟩:=p;obtain⟨o',e',c',_⟩:=q;rw[e] at e';cases e';rw[c] at c';exact absurd c' (by decide+kernel)
mutual
theorem RH.self:∀{x y:D} {u:Value},RH h x u->RH h y u->vB x y=Λ
 |.bz,y,u,p,q=>by cases (show u=.none from p);cases y with|bz=>rfl|bl b=>exact nomatch (show Zg=.bool b from q)|int i=>obtain⟨t,e⟩:=q;exact nomatch e|str i=>obtain⟨t,e⟩:=q;exact nomatch e|tup i=>obtain⟨t,_,e,_⟩:=q;exact nomatch e|pl i=>obtain⟨t,_,e,_⟩:=q;exact nomatch e
 |.bl b,y,u,p,q=>by cases (show u=.bool b from p);cases y with|bz=>exact nomatch (show aaH b=.none from q)|bl c=>cases (show aaH b=.bool c from q);simp[vB]|int i=>obtain⟨t,e⟩:=q;exact nomatch e|str i=>obtain⟨t,e⟩:=q;exact nomatch e|tup i=>obtain⟨t,_,e,_⟩:=q;exact nomatch e|pl i=>obtain⟨t,_,e,_⟩:=q;exact nomatch e
 |.int b,y,u,p,q=>by obtain⟨t0,rfl⟩:=p;cases y with|bz=>exact nomatch (show abc b t0=.none from q)|bl c=>exact nomatch (show abc b t0=.bool c from q)|int i=>obtain⟨t,e⟩:=q;cases e;simp[vB]|str i=>obtain⟨t,e⟩:=q;exact nomatch e|tup i=>obtain⟨t,_,e,_⟩:=q;exact nomatch e|pl i=>obtain⟨t,_,e,_⟩:=q;exact nomatch e
 |.str b,y,u,p,q=>by obtain⟨t0,rfl⟩:=p;cases y with|bz=>exact nomatch (show abb b t0=.none from q)|bl c=>exact nomatch (show abb b t0=.bool c from q)|int i=>obtain⟨t,e⟩:=q;exact nomatch e|str i=>obtain⟨t,e⟩:=q;cases e;simp[vB]|tup i=>obtain⟨t,_,e,_⟩:=q;exact nomatch e|pl i=>obtain⟨t,_,e,_⟩:=q;exact nomatch e
 |.tup xs,y,u,p,q=>by
  obtain⟨a,its,rfl,ht,rs⟩:=p;cases y with
  |bz=>exact nomatch (show XM a=.none from q)|bl c=>exact nomatch (show XM a=.bool c from q)|int i=>obtain⟨t,e⟩:=q;exact nomatch e|str i=>obtain⟨t,e⟩:=q;exact nomatch e|tup ys=>
   obtain⟨b,its',e,wH,vF⟩:=q;cases e;have e2:its=its':=by simpa using qG ht wH
   subst e2;show gX xs ys=Λ;exact vc.self rs vF
  |pl ys=>obtain⟨b,its',e,wH,vF⟩:=q;cases e;exact(zK ht wH).elim
 |.pl xs,y,u,p,q=>by
  obtain⟨a,its,rfl,ht,rs⟩:=p;cases y with
  |bz=>exact nomatch (show XM a=.none from q)|bl c=>exact nomatch (show XM a=.bool c from q)|int i=>obtain⟨t,e⟩:=q;exact nomatch e|str i=>obtain⟨t,e⟩:=q;exact nomatch e|tup ys=>obtain⟨b,its',e,wH,vF⟩:=q;cases e;exact(zK wH ht).elim
  |pl ys=>
   obtain⟨b,its',e,wH,vF⟩:=q;cases e;have e2:its=its':=by simpa using t9 ht wH
   subst e2;show gX xs ys=Λ;exact vc.self rs vF
theorem vc.self:∀{xs ys:List D} {us:List Value},vc h xs us->vc h ys us->gX xs ys=Λ
 |[],ys,us,p,q=>by cases (show us=[] from p);cases ys with|nil=>rfl|cons y ys=>obtain⟨u,r,e,_⟩:=q;exact nomatch e
 |x::xs,ys,us,p,q=>by obtain⟨u,r,rfl,p1,p2⟩:=(show ∃u r,us=u::r/\RH h x u/\vc h xs r from p);cases ys with|nil=>exact nomatch (show u::r=[] from q)|cons y ys=>obtain⟨u',r',e,q1,q2⟩:=(show ∃u' r',u::r=u'::r'/\RH h y u'/\vc h ys r' from q);cases e;show(vB x y&&gX xs ys)=Λ;rw[RH.self p1 q1,vc.self p2 q2];rfl
end
def pairD(xs ys:List D)(j:Nat):Bool:=vB (xs.getD j .bz) (ys.getD j .bz)
theorem nW:∀xs ys,((W8 (min xs.length ys.length)).all (pairD xs ys)&&xs.length==ys.length)=gX xs ys
 |[],[]=>rfl|[],_::_=>by simp[gX]|_::_,[]=>by simp[gX]|x::xs,y::ys=>by
  have ih:=nW xs ys;have e1:min (x::xs).length (y::ys).length=min xs.length ys.length+1:=by simp only[Xt];lia
  have e2:((x::xs).length==(y::ys).length)=(xs.length==ys.length):=by simp
  have e3:(W8 (min xs.length ys.length+1)).all (pairD (x::xs) (y::ys))=(vB x y&&(W8 (min xs.length ys.length)).all (pairD xs ys)):=by rw[List.range_succ_eq_map,Zz,List.all_map];first|rfl|simp[pairD,Ym]
  rw[e1,e2,e3,gX,<-ih,Bool.and_assoc]
theorem zL(h:xs.length=ys.length):(W8 xs.length).all (pairD xs ys)=gX xs ys:=by have:=nW xs ys;rw[<-h,Nat.min_self] at this;simpa using this
theorem uc(h:xs.length≠ys.length):gX xs ys=Ξ:=by rw[<-nW xs ys];simp[h]
open SeqAt
mutual
theorem QT:∀(x y:D) (A:YO) (s:Xv) (u v:Value),RH s.heap x u->RH s.heap y v->A.units+min (lY x) (lY y) < cLine->RcAt A s u v (vB x y)/\RcNeAt A s u v (!vB x y)
 |.bz,y,A,s,u,v,p,q,hu=>by cases (show u=.none from p);cases y with|bz=>cases (show v=.none from q);exact⟨RcAt.none_none,RcNeAt.none_none⟩|bl b=>cases (show v=.bool b from q);exact⟨RcAt.none_bool b,RcNeAt.none_bool b⟩|int b=>obtain⟨t,rfl⟩:=q;exact⟨RcAt.none_int b t,RcNeAt.none_int b t⟩|str b=>obtain⟨t,rfl⟩:=q;exact⟨RcAt.none_str b t,RcNeAt.none_str b t⟩|tup ys=>obtain⟨a,its,rfl,hl,_⟩:=q;exact⟨RcAt.none_tuple hl (room_here hu),RcNeAt.none_tuple hl (room_here hu)⟩|pl ys=>obtain⟨a,its,rfl,hl,_⟩:=q;exact⟨RcAt.none_list hl (room_here hu),RcNeAt.none_list hl (room_here hu)⟩
 |.bl x,y,A,s,u,v,p,q,hu=>by cases (show u=.bool x from p);cases y with|bz=>cases (show v=.none from q);exact⟨RcAt.bool_none x,RcNeAt.bool_none x⟩|bl b=>cases (show v=.bool b from q);exact⟨RcAt.bool_bool x b,RcNeAt.bool_bool x b⟩|int b=>obtain⟨t,rfl⟩:=q;exact⟨RcAt.bool_int x b t,RcNeAt.bool_int x b t⟩|str b=>obtain⟨t,rfl⟩:=q;exact⟨RcAt.bool_str x b t,RcNeAt.bool_str x b t⟩|tup ys=>obtain⟨a,its,rfl,hl,_⟩:=q;exact⟨RcAt.bool_tuple x hl (room_here hu),RcNeAt.bool_tuple x hl (room_here hu)⟩|pl ys=>obtain⟨a,its,rfl,hl,_⟩:=q;exact⟨RcAt.bool_list x hl (room_here hu),RcNeAt.bool_list x hl (room_here hu)⟩
 |.int x,y,A,s,u,v,p,q,hu=>by obtain⟨t0,rfl⟩:=p;cases y with|bz=>cases (show v=.none from q);exact⟨RcAt.int_none x t0,RcNeAt.int_none x t0⟩|bl b=>cases (show v=.bool b from q);exact⟨RcAt.int_bool x t0 b,RcNeAt.int_bool x t0 b⟩|int b=>obtain⟨t,rfl⟩:=q;exact⟨RcAt.int_int x t0 b t,RcNeAt.int_int x t0 b t⟩|str b=>obtain⟨t,rfl⟩:=q;exact⟨RcAt.int_str x t0 b t,RcNeAt.int_str x t0 b t⟩|tup ys=>obtain⟨a,its,rfl,hl,_⟩:=q;exact⟨RcAt.int_tuple x t0 hl (room_here hu),RcNeAt.int_tuple x t0 hl (room_here hu)⟩|pl ys=>obtain⟨a,its,rfl,hl,_⟩:=q;exact⟨RcAt.int_list x t0 hl (room_here hu),RcNeAt.int_list x t0 hl (room_here hu)⟩
 |.str x,y,A,s,u,v,p,q,hu=>by obtain⟨t0,rfl⟩:=p;cases y with|bz=>cases (show v=.none from q);exact⟨RcAt.str_none x t0,RcNeAt.str_none x t0⟩|bl b=>cases (show v=.bool b from q);exact⟨RcAt.str_bool x t0 b,RcNeAt.str_bool x t0 b⟩|int b=>obtain⟨t,rfl⟩:=q;exact⟨RcAt.str_int x t0 b t,RcNeAt.str_int x t0 b t⟩|str b=>obtain⟨t,rfl⟩:=q;exact⟨RcAt.str_str x t0 b t,RcNeAt.str_str x t0 b t⟩|tup ys=>obtain⟨a,its,rfl,hl,_⟩:=q;exact⟨RcAt.str_tuple x t0 hl (room_here hu),RcNeAt.str_tuple x t0 hl (room_here hu)⟩|pl ys=>obtain⟨a,its,rfl,hl,_⟩:=q;exact⟨RcAt.str_list x t0 hl (room_here hu),RcNeAt.str_list x t0 hl (room_here hu)⟩
 |.tup xs,y,A,s,u,v,p,q,hu=>by
  obtain⟨a,its,rfl,hl,rs⟩:=p;cases y with
  |bz=>cases (show v=.none from q);exact⟨RcAt.tuple_none hl (room_here hu),RcNeAt.tuple_none hl (room_here hu)⟩|bl b=>cases (show v=.bool b from q);exact⟨RcAt.tuple_bool b hl (room_here hu),RcNeAt.tuple_bool b hl (room_here hu)⟩|int b=>obtain⟨t,rfl⟩:=q;exact⟨RcAt.tuple_int b t hl (room_here hu),RcNeAt.tuple_int b t hl (room_here hu)⟩|str b=>obtain⟨t,rfl⟩:=q;exact⟨RcAt.tuple_str b t hl (room_here hu),RcNeAt.tuple_str b t hl (room_here hu)⟩|pl ys=>obtain⟨b,its',rfl,nM,_⟩:=q;exact⟨RcAt.tuple_list hl nM (room_here hu),RcNeAt.tuple_list hl nM (room_here hu)⟩|tup ys=>
   obtain⟨b,its',rfl,nM,vF⟩:=q;have n1:its.toArray.size=xs.length:=by rw[Xp];exact rs.length
   have n2:its'.toArray.size=ys.length:=by rw[Xp];exact vF.length
   have he:∀j (j1:j < its.toArray.size) (j2:j < its'.toArray.size),EqAt A.in1 s its.toArray[j] its'.toArray[j] (pairD xs ys j):=λj j1 j2=>by have:=zM xs ys A.in1 s its its' rs vF (room_in hu) j (by simpa using j1) (by simpa using j2);simpa using this
   show RcAt A s (.ref a) (.ref b) (gX xs ys)/\RcNeAt A s (.ref a) (.ref b) (!gX xs ys);rw[<-nW xs ys,<-n1,<-n2];exact⟨RcAt.tuples hl nM (room_here hu) he,RcNeAt.tuples hl nM (room_here hu) he⟩
 |.pl xs,y,A,s,u,v,p,q,hu=>by
  obtain⟨a,its,rfl,hl,rs⟩:=p;cases y with
  |bz=>cases (show v=.none from q);exact⟨RcAt.list_none hl (room_here hu),RcNeAt.list_none hl (room_here hu)⟩|bl b=>cases (show v=.bool b from q);exact⟨RcAt.list_bool b hl (room_here hu),RcNeAt.list_bool b hl (room_here hu)⟩|int b=>obtain⟨t,rfl⟩:=q;exact⟨RcAt.list_int b t hl (room_here hu),RcNeAt.list_int b t hl (room_here hu)⟩|str b=>obtain⟨t,rfl⟩:=q;exact⟨RcAt.list_str b t hl (room_here hu),RcNeAt.list_str b t hl (room_here hu)⟩|tup ys=>obtain⟨b,its',rfl,nM,_⟩:=q;exact⟨RcAt.list_tuple hl nM (room_here hu),RcNeAt.list_tuple hl nM (room_here hu)⟩|pl ys=>
   obtain⟨b,its',rfl,nM,vF⟩:=q;have n1:its.toArray.size=xs.length:=by rw[Xp];exact rs.length
   have n2:its'.toArray.size=ys.length:=by rw[Xp];exact vF.length
   have he:∀j (j1:j < its.toArray.size) (j2:j < its'.toArray.size),EqAt A.in1 s its.toArray[j] its'.toArray[j] (pairD xs ys j):=λj j1 j2=>by have:=zM xs ys A.in1 s its its' rs vF (room_in hu) j (by simpa using j1) (by simpa using j2);simpa using this
   show RcAt A s (.ref a) (.ref b) (gX xs ys)/\RcNeAt A s (.ref a) (.ref b) (!gX xs ys);by_cases hsz:its.toArray.size=its'.toArray.size;·rw[<-zL (by lia:xs.length=ys.length),<-n1];exact⟨RcAt.lists hl nM hsz (room_here hu) he,RcNeAt.lists hl nM hsz (room_here hu) he⟩
   ·rw[uc (by lia:xs.length≠ys.length)];exact⟨RcAt.lists_lengths hl nM (by simpa using hsz) (room_here hu),RcNeAt.lists_lengths hl nM (by simpa using hsz) (room_here hu)⟩
theorem VG:∀(x y:D) (A:YO) (s:Xv) (u v:Value),RH s.heap x u->RH s.heap y v->A.units+min (lY x) (lY y) < cLine->EqAt A s u v (vB x y)
 |.bz,y,A,s,u,v,p,q,hu=>by cases (show u=.none from p);cases y with|bz=>cases (show v=.none from q);exact EqAt.same _|bl b=>cases (show v=.bool b from q);exact EqAt.none_bool b|int b=>obtain⟨t,rfl⟩:=q;exact EqAt.none_int b t|str b=>obtain⟨t,rfl⟩:=q;exact EqAt.none_str b t|tup ys=>obtain⟨a,its,rfl,hl,_⟩:=q;exact EqAt.none_tuple hl (room_here hu)|pl ys=>obtain⟨a,its,rfl,hl,_⟩:=q;exact EqAt.none_list hl (room_here hu)
 |.bl x,y,A,s,u,v,p,q,hu=>by cases (show u=.bool x from p);cases y with|bz=>cases (show v=.none from q);exact EqAt.bool_none x|bl b=>cases (show v=.bool b from q);exact EqAt.bool_bool x b|int b=>obtain⟨t,rfl⟩:=q;exact EqAt.bool_int x b t|str b=>obtain⟨t,rfl⟩:=q;exact EqAt.bool_str x b t|tup ys=>obtain⟨a,its,rfl,hl,_⟩:=q;exact EqAt.bool_tuple x hl (room_here hu)|pl ys=>obtain⟨a,its,rfl,hl,_⟩:=q;exact EqAt.bool_list x hl (room_here hu)
 |.int x,y,A,s,u,v,p,q,hu=>by obtain⟨t0,rfl⟩:=p;cases y with|bz=>cases (show v=.none from q);exact EqAt.int_none x t0|bl b=>cases (show v=.bool b from q);exact EqAt.int_bool x t0 b|int b=>obtain⟨t,rfl⟩:=q;exact EqAt.int_int x t0 b t|str b=>obtain⟨t,rfl⟩:=q;exact EqAt.int_str x t0 b t|tup ys=>obtain⟨a,its,rfl,hl,_⟩:=q;exact EqAt.int_tuple x t0 hl (room_here hu)|pl ys=>obtain⟨a,its,rfl,hl,_⟩:=q;exact EqAt.int_list x t0 hl (room_here hu)
 |.str x,y,A,s,u,v,p,q,hu=>by obtain⟨t0,rfl⟩:=p;cases y with|bz=>cases (show v=.none from q);exact EqAt.str_none x t0|bl b=>cases (show v=.bool b from q);exact EqAt.str_bool x t0 b|int b=>obtain⟨t,rfl⟩:=q;exact EqAt.str_int x t0 b t|str b=>obtain⟨t,rfl⟩:=q;exact EqAt.str_str x t0 b t|tup ys=>obtain⟨a,its,rfl,hl,_⟩:=q;exact EqAt.str_tuple x t0 hl (room_here hu)|pl ys=>obtain⟨a,its,rfl,hl,_⟩:=q;exact EqAt.str_list x t0 hl (room_here hu)
 |.tup xs,y,A,s,u,v,p,q,hu=>by
  obtain⟨a,its,rfl,hl,rs⟩:=p;cases y with
  |bz=>cases (show v=.none from q);exact EqAt.tuple_none hl (room_here hu)|bl b=>cases (show v=.bool b from q);exact EqAt.tuple_bool b hl (room_here hu)|int b=>obtain⟨t,rfl⟩:=q;exact EqAt.tuple_int b t hl (room_here hu)|str b=>obtain⟨t,rfl⟩:=q;exact EqAt.tuple_str b t hl (room_here hu)|pl ys=>obtain⟨b,its',rfl,nM,_⟩:=q;exact EqAt.tuple_list hl nM (room_here hu)|tup ys=>
   obtain⟨b,its',rfl,nM,vF⟩:=q;have n1:its.toArray.size=xs.length:=by rw[Xp];exact rs.length
   have n2:its'.toArray.size=ys.length:=by rw[Xp];exact vF.length
   have he:∀j (j1:j < its.toArray.size) (j2:j < its'.toArray.size),EqAt A.in1 s its.toArray[j] its'.toArray[j] (pairD xs ys j):=λj j1 j2=>by have:=zM xs ys A.in1 s its its' rs vF (room_in hu) j (by simpa using j1) (by simpa using j2);simpa using this
   show EqAt A s (.ref a) (.ref b) (gX xs ys);by_cases MW:a=b
   ·subst MW;have e2:its=its':=by simpa using qG hl nM
    subst e2;rw[vc.self rs vF];exact EqAt.same _
   ·rw[<-nW xs ys,<-n1,<-n2];exact EqAt.of_refs MW (RcAt.tuples hl nM (room_here hu) he)
 |.pl xs,y,A,s,u,v,p,q,hu=>by
  obtain⟨a,its,rfl,hl,rs⟩:=p;cases y with
  |bz=>cases (show v=.none from q);exact EqAt.list_none hl (room_here hu)|bl b=>cases (show v=.bool b from q);exact EqAt.list_bool b hl (room_here hu)|int b=>obtain⟨t,rfl⟩:=q;exact EqAt.list_int b t hl (room_here hu)|str b=>obtain⟨t,rfl⟩:=q;exact EqAt.list_str b t hl (room_here hu)|tup ys=>obtain⟨b,its',rfl,nM,_⟩:=q;exact EqAt.list_tuple hl nM (room_here hu)|pl ys=>
   obtain⟨b,its',rfl,nM,vF⟩:=q;have n1:its.toArray.size=xs.length:=by rw[Xp];exact rs.length
   have n2:its'.toArray.size=ys.length:=by rw[Xp];exact vF.length
   have he:∀j (j1:j < its.toArray.size) (j2:j < its'.toArray.size),EqAt A.in1 s its.toArray[j] its'.toArray[j] (pairD xs ys j):=λj j1 j2=>by have:=zM xs ys A.in1 s its its' rs vF (room_in hu) j (by simpa using j1) (by simpa using j2);simpa using this
   show EqAt A s (.ref a) (.ref b) (gX xs ys);by_cases MW:a=b
   ·subst MW;have e2:its=its':=by simpa using t9 hl nM
    subst e2;rw[vc.self rs vF];exact EqAt.same _
   ·by_cases hsz:its.toArray.size=its'.toArray.size;·rw[<-zL (by lia:xs.length=ys.length),<-n1];exact EqAt.of_refs MW (RcAt.lists hl nM hsz (room_here hu) he)
    ·rw[uc (by lia:xs.length≠ys.length)];exact EqAt.of_refs MW (RcAt.lists_lengths hl nM (by simpa using hsz) (room_here hu))
theorem zM:∀(xs ys:List D) (A:YO) (s:Xv) (us vs:List Value),vc s.heap xs us->vc s.heap ys vs->A.units+min (ke xs) (ke ys) < cLine->
  ∀j (h1:j < us.length) (h2:j < vs.length),EqAt A s us[j] vs[j] (pairD xs ys j)
 |[],_,_,_,us,_,ra,_,_,j,h1,_=>by cases (show us=[] from ra);exact absurd h1 (ZM _)|_::_,[],_,_,_,vs,_,rb,_,j,_,h2=>by cases (show vs=[] from rb);exact absurd h2 (ZM _)|x::xs,y::ys,A,s,us,vs,ra,rb,hu,j,h1,h2=>by obtain⟨u,r,rfl,p1,p2⟩:=(show ∃u r,us=u::r/\RH s.heap x u/\vc s.heap xs r from ra);obtain⟨v,r',rfl,q1,q2⟩:=(show ∃u r,vs=u::r/\RH s.heap y u/\vc s.heap ys r from rb);cases j with|zero=>exact VG x y A s u v p1 q1 (room_head hu)|succ j=>exact zM xs ys A s r r' p2 q2 (room_tail hu) j (Nat.lt_of_succ_lt_succ h1) (Nat.lt_of_succ_lt_succ h2)
end
end
section
variable{X:Cx}{η:List (Addr×Obj)}{σ:St}{H:Hp}{s:Xv}{m Z:List Addr}
mutual
theorem aF.rh(I:Inv X η σ H s):∀{x:D} {v:V} {u:Value},aF (af X kt) H m Z x v->RelV v u->RH s.heap x u
 |.bz,v,u,p,r=>by cases (show v=.bz from p);exact r|.bl b,v,u,p,r=>by cases (show v=.bl b from p);exact r|.int b,v,u,p,r=>by cases (show v=.int b from p);exact r|.str b,v,u,p,r=>by cases (show v=.str b from p);exact r|.tup xs,v,u,p,r=>by obtain⟨a,us,rfl,q,rs⟩:=(show ∃a us,v=.ref a/\H a=Δ (.tup us)/\aw (af X kt) H m Z xs us from p);cases (show u=.ref a from r);obtain⟨its,rv,ht,_⟩:=I.tuple (fH.of q);exact⟨a,its,rfl,ht,aw.rh I rs rv⟩
 |.pl xs,v,u,p,r=>by obtain⟨a,us,rfl,q,_,_,rs⟩:=(show ∃a us,v=.ref a/\Rd H a (.lst us)/\a∉m/\a∉Z/\aw (af X kt) H m Z xs us from p);cases (show u=.ref a from r);obtain⟨its,rv,ht,_⟩:=I.list (.inl q);exact⟨a,its,rfl,ht.isList,aw.rh I rs rv⟩
theorem aw.rh(I:Inv X η σ H s):∀{xs:List D} {vs:List V} {us:List Value},aw (af X kt) H m Z xs vs->aS vs us->vc s.heap xs us
 |[],vs,us,p,r=>by cases (show vs=[] from p);cases r;rfl|x::xs,vs,us,p,r=>by obtain⟨v,w',rfl,p1,p2⟩:=(show ∃v w',vs=v::w'/\aF (af X kt) H m Z x v/\aw (af X kt) H m Z xs w' from p);cases r with|cons r1 r2=>exact⟨_,_,rfl,aF.rh I p1 r1,aw.rh I p2 r2⟩
end
theorem MX(hu:X.A.units+100 < cLine):j9 X (YF .Eq) (λv u H Q=>∃m Z x y k,aF (af X kt) H m Z x v/\aF (af X kt) H m Z y u/\rV x y=Δ k/\Q (.bl k) H):=by
 intro η s σ H v u a b Q I rx ry h;obtain⟨m,Z,x,y,k,p,q,e,hq⟩:=h;unfold rV at e;split at e;·rename_i hd;cases e;exact(QT x y X.A s a b (p.rh I rx) (q.rh I ry) (by lia)).1 X.prog X.w X.xe _ ⟨.bl (vB x y),H,I,rfl,hq⟩
 ·cases e
theorem MY(hu:X.A.units+100 < cLine):j9 X (YF .NotEq) (λv u H Q=>∃m Z x y k,aF (af X kt) H m Z x v/\aF (af X kt) H m Z y u/\rV x y=Δ k/\Q (.bl (!k)) H):=by
 intro η s σ H v u a b Q I rx ry h;obtain⟨m,Z,x,y,k,p,q,e,hq⟩:=h;unfold rV at e;split at e;·rename_i hd;cases e;exact(QT x y X.A s a b (p.rh I rx) (q.rh I ry) (by lia)).2 X.prog X.w X.xe _ ⟨.bl (!vB x y),H,I,rfl,hq⟩
 ·cases e
end
end Y
namespace Y
open PySem L2 PySem.Spec PyProof.Rows
structure G where
 N:List Str
 names:List (Str×ZT)
 fns:List (Str×Nat)
 ik:List (Str×Int)
 tabs:List (Str×List (Str×Int))
 QU:Nat->ZR->Expr->Scope->Pos->Bool:=λ_ _ _ _ _=>Ξ
 QV:Nat->Nat->Str->ZR->List Stmt->Scope->Pos->Bool:=λ_ _ _ _ _ _ _=>Ξ
 Lf:Nat->Str->Nat->List (Nat×List Nat)->Bool:=λ_ _ _ _=>Ξ
 QW:Nat->Str->List (Nat×List Nat)->Bool:=λ_ _ _=>Ξ
 yK:Str->Str->Bool:=λ_ _=>Ξ
 A8:Nat->Str->Str->Nat->Bool:=λ_ _ _ _=>Ξ
 A9:Nat->Str->Nat->Bool:=λ_ _ _=>Ξ
 cv:Bool:=Λ
def notStar(e:Expr):Bool:=e.ctorIdx !=22
def G.xN(g:G)(x:Str):Bool:=match g.names.lookup x with|some .local=>Λ|some .cell=>Λ|some .free=>Λ|_=>Ξ
def G.gl(g:G)(x:Str):Bool:=decide (g.names.lookup x=Δ .globalImplicit)
noncomputable def aU(x:Str):Bool:=!(x==("__debug__":Str))&&!(x==("__classdict__":Str))&&!(x==("__name__":Str))
def CS:QP->Operator
 |.add=>.Add|.sub=>.Sub|.mul=>.Mult|.mod=>.Mod
def kf:Ld->CmpOp
 |.lt=>.Lt|.le=>.LtE|.gt=>.Gt|.ge=>.GtE|.eq=>.Eq|.ne=>.NotEq|.isin=>.In|.nO=>.NotIn
def xO:Bf->Str
 |.len=>"len"|.any=>"any"|.tuple=>"tuple"
def lI:List String:=["int","bool","tuple","str","list"]
def xP(e:Expr):Bool:=e.ctorIdx==26
def mO(e:Expr):Bool:=e.ctorIdx==8||e.ctorIdx==9||e.ctorIdx==10
def cC(e:Expr):Bool:=e.ctorIdx==7
def Jf(g:G)(ts:Nat)(N:List Str)(js:List Nat)(sc:Scope):Bool:=
 decide (sc.kind=.function)&&decide (N.length=ts+js.length)&&
 sc.names.all (λx=>decide (x.2≠.cell)&&(decide (x.2≠.local)||decide (sc.names.lookup x.1=Δ .local))&&(decide (x.2≠.free)||(decide (g.names.lookup x.1=Δ .cell)||decide (g.names.lookup x.1=Δ .free))))&&
 (W8 js.length).all (λi=>match N[ts+i]?,js[i]? with
  |some y,Δ j=>decide (g.N[j]?=Δ y)&&decide (sc.names.lookup y=Δ .free)
  |_,_=>Λ)
def gO(g:G)(x:Str)(js:List Nat):List Str:=x::js.map λj=>(g.N[j]?).getD "?"
def G.inner(g:G)(N:List Str)(sc:Scope):G:={N:=N,names:=sc.names,fns:=g.fns,ik:=g.ik,tabs:=g.tabs,cv:=g.cv,yK:=g.yK,A8:=g.A8,A9:=g.A9}
theorem iI{c:Prop}[Decidable c]{a:c->Bool}{g:Prop}(hi:¬c)(h:(if q:c then a q else Ξ)=Λ):g:=by rw[dif_neg hi] at h;exact ft h
def bb{α:Type}(l:List α)(k:α->List α->Bool):Bool:=match l with|x::r=>k x r|[]=>Ξ
@[elab_as_elim] theorem aG{α:Type}{P:List α->Prop}{l:List α}{k:α->List α->Bool}(h:bb l k=Λ)(c:∀x r,k x r=Λ->P (x::r)):P l:=by cases l<;>first|exact c _ _ h|exact ft h
def xQ{α:Type}(l:Option α)(k:α->Bool):Bool:=match l with|some x=>k x|none=>Ξ
@[elab_as_elim] theorem ud{α:Type}{P:Option α->Prop}{l:Option α}{k:α->Bool}(h:xQ l k=Λ)(c:∀x,k x=Λ->P (Δ x)):P l:=by cases l<;>first|exact c _ h|exact ft h
def GC(l:abS)(k:Expr->Expr->List Expr->Int->Bool):Bool:=k l.target l.iter l.ifs l.is_async
@[elab_as_elim] theorem rW{P:abS->Prop}{l:abS}{k:Expr->Expr->List Expr->Int->Bool}(h:GC l k=Λ)(c:∀a b d e,k a b d e=Λ->P ⟨a,b,d,e⟩):P l:=by cases l;exact c _ _ _ _ h
def jt(e:Stmt)(k:(List Expr)->Expr->Pos->Bool):Bool:=if h:e.ctorIdx=5 then @Stmt.Assign.elim (λ_=>Bool) e h k else Ξ
def bT(e:Expr)(k:Expr->Str->Pos->Bool):Bool:=if h:e.ctorIdx=20 then @Expr.Attribute.elim (λ_=>Bool) e h k else Ξ
def xR(e:Expr)(k:Expr->Operator->Expr->Pos->Bool):Bool:=if h:e.ctorIdx=2 then @Expr.BinOp.elim (λ_=>Bool) e h k else Ξ
def nX(e:Expr)(k:BoolOp->(List Expr)->Pos->Bool):Bool:=if h:e.ctorIdx=0 then @Expr.BoolOp.elim (λ_=>Bool) e h k else Ξ
def bV(e:Expr)(k:Expr->(List Expr)->(List abJ)->Pos->Bool):Bool:=if h:e.ctorIdx=16 then @Expr.Call.elim (λ_=>Bool) e h k else Ξ
def lJ(e:Expr)(k:Expr->(List CmpOp)->(List Expr)->Pos->Bool):Bool:=if h:e.ctorIdx=15 then @Expr.Compare.elim (λ_=>Bool) e h k else Ξ
def mP(e:Expr)(k:Const->Nat->Pos->Bool):Bool:=if h:e.ctorIdx=19 then @Expr.Constant.elim (λ_=>Bool) e h k else Ξ
def xS(e:Expr)(k:(List (Option Expr))->(List Expr)->Pos->Bool):Bool:=if h:e.ctorIdx=6 then @Expr.Dict.elim (λ_=>Bool) e h k else Ξ
def rX(e:Stmt)(k:Expr->Pos->Bool):Bool:=if h:e.ctorIdx=24 then @Stmt.Expr.elim (λ_=>Bool) e h k else Ξ
def pM(e:Stmt)(k:Expr->Expr->(List Stmt)->(List Stmt)->Pos->Bool):Bool:=if h:e.ctorIdx=9 then @Stmt.For.elim (λ_=>Bool) e h k else Ξ
noncomputable def iq(e:Stmt)(k:Str->ZR->(List Stmt)->(List Expr)->(Option Expr)->(List TypeParam)->Scope->(Option Scope)->Str->Pos->Bool):Bool:=if h:e.ctorIdx=0 then @Stmt.FunctionDef.elim (λ_=>Bool) e h k else Ξ
def GD(e:Stmt)(k:Expr->(List Stmt)->(List Stmt)->Pos->Bool):Bool:=if h:e.ctorIdx=12 then @Stmt.If.elim (λ_=>Bool) e h k else Ξ
def ue(e:Expr)(k:ZR->Expr->Scope->Pos->Bool):Bool:=if h:e.ctorIdx=4 then @Expr.Lambda.elim (λ_=>Bool) e h k else Ξ
def BU(e:Expr)(k:(List Expr)->Pos->Bool):Bool:=if h:e.ctorIdx=24 then @Expr.List.elim (λ_=>Bool) e h k else Ξ
def jU(e:Expr)(k:Expr->(List abS)->Scope->Pos->Bool):Bool:=if h:e.ctorIdx=8 then @Expr.ListComp.elim (λ_=>Bool) e h k else Ξ
def bw(e:Expr)(k:Str->Pos->Bool):Bool:=if h:e.ctorIdx=23 then @Expr.Name.elim (λ_=>Bool) e h k else Ξ
def lK(e:Stmt)(k:(Option Expr)->Pos->Bool):Bool:=if h:e.ctorIdx=3 then @Stmt.Return.elim (λ_=>Bool) e h k else Ξ
def xT(e:Expr)(k:(Option Expr)->(Option Expr)->(Option Expr)->Pos->Bool):Bool:=if h:e.ctorIdx=26 then @Expr.Slice.elim (λ_=>Bool) e h k else Ξ
def gi(e:Expr)(k:Expr->Expr->Pos->Bool):Bool:=if h:e.ctorIdx=21 then @Expr.Subscript.elim (λ_=>Bool) e h k else Ξ
def rY(e:Expr)(k:(List Expr)->Nat->Pos->Bool):Bool:=if h:e.ctorIdx=25 then @Expr.Tuple.elim (λ_=>Bool) e h k else Ξ
def pN(e:Expr)(k:UnaryOp->Expr->Pos->Bool):Bool:=if h:e.ctorIdx=3 then @Expr.UnaryOp.elim (λ_=>Bool) e h k else Ξ
def uf(e:Stmt)(k:Expr->(List Stmt)->(List Stmt)->Pos->Bool):Bool:=if h:e.ctorIdx=11 then @Stmt.While.elim (λ_=>Bool) e h k else Ξ
section
variable{P:Expr->Prop}{e:Expr}
@[elab_as_elim] theorem bR{k}(h:bT e k=Λ)(c:∀x1 x2 x3,k x1 x2 x3=Λ->P (.Attribute x1 x2 x3)):P e:=if i:e.ctorIdx=20 then @Expr.Attribute.elim (λe=>bT e k=Λ->P e) e i c h else iI i h
@[elab_as_elim] theorem Ef{k}(h:xR e k=Λ)(c:∀x1 x2 x3 x4,k x1 x2 x3 x4=Λ->P (.BinOp x1 x2 x3 x4)):P e:=if i:e.ctorIdx=2 then @Expr.BinOp.elim (λe=>xR e k=Λ->P e) e i c h else iI i h
@[elab_as_elim] theorem ug{k}(h:nX e k=Λ)(c:∀x1 x2 x3,k x1 x2 x3=Λ->P (.BoolOp x1 x2 x3)):P e:=if i:e.ctorIdx=0 then @Expr.BoolOp.elim (λe=>nX e k=Λ->P e) e i c h else iI i h
@[elab_as_elim] theorem aX{k}(h:bV e k=Λ)(c:∀x1 x2 x3 x4,k x1 x2 x3 x4=Λ->P (.Call x1 x2 x3 x4)):P e:=if i:e.ctorIdx=16 then @Expr.Call.elim (λe=>bV e k=Λ->P e) e i c h else iI i h
@[elab_as_elim] theorem qH{k}(h:lJ e k=Λ)(c:∀x1 x2 x3 x4,k x1 x2 x3 x4=Λ->P (.Compare x1 x2 x3 x4)):P e:=if i:e.ctorIdx=15 then @Expr.Compare.elim (λe=>lJ e k=Λ->P e) e i c h else iI i h
@[elab_as_elim] theorem nY{k}(h:mP e k=Λ)(c:∀x1 x2 x3,k x1 x2 x3=Λ->P (.Constant x1 x2 x3)):P e:=if i:e.ctorIdx=19 then @Expr.Constant.elim (λe=>mP e k=Λ->P e) e i c h else iI i h
@[elab_as_elim] theorem zN{k}(h:xS e k=Λ)(c:∀x1 x2 x3,k x1 x2 x3=Λ->P (.Dict x1 x2 x3)):P e:=if i:e.ctorIdx=6 then @Expr.Dict.elim (λe=>xS e k=Λ->P e) e i c h else iI i h
@[elab_as_elim] theorem BV{k}(h:ue e k=Λ)(c:∀x1 x2 x3 x4,k x1 x2 x3 x4=Λ->P (.Lambda x1 x2 x3 x4)):P e:=if i:e.ctorIdx=4 then @Expr.Lambda.elim (λe=>ue e k=Λ->P e) e i c h else iI i h
@[elab_as_elim] theorem zO{k}(h:BU e k=Λ)(c:∀x1 x2,k x1 x2=Λ->P (.List x1 x2)):P e:=if i:e.ctorIdx=24 then @Expr.List.elim (λe=>BU e k=Λ->P e) e i c h else iI i h
@[elab_as_elim] theorem gY{k}(h:jU e k=Λ)(c:∀x1 x2 x3 x4,k x1 x2 x3 x4=Λ->P (.ListComp x1 x2 x3 x4)):P e:=if i:e.ctorIdx=8 then @Expr.ListComp.elim (λe=>jU e k=Λ->P e) e i c h else iI i h
@[elab_as_elim] theorem aL{k}(h:bw e k=Λ)(c:∀x1 x2,k x1 x2=Λ->P (.Name x1 x2)):P e:=if i:e.ctorIdx=23 then @Expr.Name.elim (λe=>bw e k=Λ->P e) e i c h else iI i h
@[elab_as_elim] theorem Eg{k}(h:xT e k=Λ)(c:∀x1 x2 x3 x4,k x1 x2 x3 x4=Λ->P (.Slice x1 x2 x3 x4)):P e:=if i:e.ctorIdx=26 then @Expr.Slice.elim (λe=>xT e k=Λ->P e) e i c h else iI i h
@[elab_as_elim] theorem jd{k}(h:gi e k=Λ)(c:∀x1 x2 x3,k x1 x2 x3=Λ->P (.Subscript x1 x2 x3)):P e:=if i:e.ctorIdx=21 then @Expr.Subscript.elim (λe=>gi e k=Λ->P e) e i c h else iI i h
@[elab_as_elim] theorem pO{k}(h:rY e k=Λ)(c:∀x1 x2 x3,k x1 x2 x3=Λ->P (.Tuple x1 x2 x3)):P e:=if i:e.ctorIdx=25 then @Expr.Tuple.elim (λe=>rY e k=Λ->P e) e i c h else iI i h
@[elab_as_elim] theorem zP{k}(h:pN e k=Λ)(c:∀x1 x2 x3,k x1 x2 x3=Λ->P (.UnaryOp x1 x2 x3)):P e:=if i:e.ctorIdx=3 then @Expr.UnaryOp.elim (λe=>pN e k=Λ->P e) e i c h else iI i h
end
section
variable{P:Stmt->Prop}{e:Stmt}
@[elab_as_elim] theorem kP{k}(h:jt e k=Λ)(c:∀x1 x2 x3,k x1 x2 x3=Λ->P (.Assign x1 x2 x3)):P e:=if i:e.ctorIdx=5 then @Stmt.Assign.elim (λe=>jt e k=Λ->P e) e i c h else iI i h
@[elab_as_elim] theorem wI{k}(h:rX e k=Λ)(c:∀x1 x2,k x1 x2=Λ->P (.Expr x1 x2)):P e:=if i:e.ctorIdx=24 then @Stmt.Expr.elim (λe=>rX e k=Λ->P e) e i c h else iI i h
@[elab_as_elim] theorem nZ{k}(h:pM e k=Λ)(c:∀x1 x2 x3 x4 x5,k x1 x2 x3 x4 x5=Λ->P (.For x1 x2 x3 x4 x5)):P e:=if i:e.ctorIdx=9 then @Stmt.For.elim (λe=>pM e k=Λ->P e) e i c h else iI i h
@[elab_as_elim] theorem pP{k}(h:iq e k=Λ)(c:∀x1 x2 x3 x4 x5 x6 x7 x8 x9 x10,k x1 x2 x3 x4 x5 x6 x7 x8 x9 x10=Λ->P (.FunctionDef x1 x2 x3 x4 x5 x6 x7 x8 x9 x10)):P e:=if i:e.ctorIdx=0 then @Stmt.FunctionDef.elim (λe=>iq e k=Λ->P e) e i c h else iI i h
@[elab_as_elim] theorem Jg{k}(h:GD e k=Λ)(c:∀x1 x2 x3 x4,k x1 x2 x3 x4=Λ->P (.If x1 x2 x3 x4)):P e:=if i:e.ctorIdx=12 then @Stmt.If.elim (λe=>GD e k=Λ->P e) e i c h else iI i h
@[elab_as_elim] theorem qI{k}(h:lK e k=Λ)(c:∀x1 x2,k x1 x2=Λ->P (.Return x1 x2)):P e:=if i:e.ctorIdx=3 then @Stmt.Return.elim (λe=>lK e k=Λ->P e) e i c h else iI i h
@[elab_as_elim] theorem BW{k}(h:uf e k=Λ)(c:∀x1 x2 x3 x4,k x1 x2 x3 x4=Λ->P (.While x1 x2 x3 x4)):P e:=if i:e.ctorIdx=11 then @Stmt.While.elim (λe=>uf e k=Λ->P e) e i c h else iI i h
end
def isCall(e:Expr):Bool:=bV e λf xs ks _=>bw f λ_ _=>xs.isEmpty&&ks.isEmpty
def BX:W->Bool
 |.enum _=>Λ|_=>Ξ
noncomputable def VH:D->Const->Bool
 |.int i,c=>decide (c=.int i)|.bl i,c=>decide (c=.bool i)|.bz,c=>decide (c=.none)|.str i,c=>decide (c=.str i)|_,_=>Ξ
def zQ(d:D)(e:Expr):Bool:=mP e λc _ _=>VH d c
def glB(g:G):D->Str->Bool
 |.int i,x=>g.gl x&&decide (g.ik.lookup x=Δ i)&&aU x|_,_=>Ξ
def CT(g:G)(k:E)(e:Expr):Bool:=match k with|.var i=>bw e λx _=>decide (g.N[i]?=Δ x)&&g.xN x&&aU x|.cst d=>zQ d e|_=>Ξ
mutual
def gP(g:G):E->Expr->Bool
 |.var i=>λe=>bw e λx _=>decide (g.N[i]?=Δ x)&&g.xN x&&aU x|.cst d=>λe=>zQ d e||bw e λx _=>glB g d x
 |.op o a b=>λe=>xR e λx p y _=>decide (p=CS o)&&gP g a x&&gP g b y|.not a=>λe=>pN e λop x _=>decide (op=.Not)&&gP g a x|.cmp o a b=>λe=>lJ e λx ops ys _=>bb ops λp r=>bb ys λy s=>r.isEmpty&&s.isEmpty&&decide (p=kf o)&&gP g a x&&gP g b y&&!cC y|.chain o o' a b c=>λe=>lJ e λx ops ys _=>bb ops λp r=>bb r λq r'=>bb ys λy s=>bb s λz s'=>r'.isEmpty&&s'.isEmpty&&decide (p=kf o)&&decide (q=kf o')&&gP g a x&&gP g b y&&gP g c z&&!cC y&&!cC z|.and es=>λe=>nX e λop xs _=>decide (op=.And)&&gZ g es xs|.or es=>λe=>nX e λop xs _=>decide (op=.Or)&&gZ g es xs|.tup es=>λe=>rY e λxs _ _=>gZ g es xs|.lst _ l=>λe=>Lf g l e|.call f es=>λe=>bV e λf0 xs iG _=>bw f0 λx _=>iG.isEmpty&&decide (g.fns[f]?=Δ (x,es.length))&&g.gl x&&aU x&&gZ g es xs|.Gq a T=>λe=>bV e λf0 xs iG _=>bw f0 λn _=>bb xs λx r=>bb r λt0 r'=>bw t0 λt _=>iG.isEmpty&&r'.isEmpty&&decide (n="isinstance")&&g.gl "isinstance"&&decide (t=Yh T)&&g.gl (Yh T)&&decide (T∈lI)&&gP g a x&&notStar x|.bf f es=>λe=>bV e λf0 xs iG _=>bw f0 λn _=>iG.isEmpty&&decide (n=xO f)&&g.gl (xO f)&&gZ g es xs&&!xs.isEmpty|.ix a b=>λe=>gi e λx y _=>gP g a x&&gP g b y&&!xP y|.slice a lo hi=>λe=>gi e λx sl _=>xT sl λl h s _=>s.isNone&&gP g a x&&VI g lo l&&VI g hi h|.pd _=>λe=>xS e λks vs _=>ks.isEmpty&&vs.isEmpty|.nP i es=>λe=>bV e λf0 xs iG _=>bw f0 λx _=>iG.isEmpty&&decide (g.N[i]?=Δ x)&&g.xN x&&aU x&&gZ g es xs&&!xs.isEmpty&&g.cv|.iT f es ls=>λe=>bV e λf0 xs iG _=>bw f0 λx _=>iG.isEmpty&&g.Lf f x es.length ls&&g.gl x&&aU x&&gZ g es xs&&!xs.isEmpty|.jb i es ls=>λe=>bV e λf0 xs iG _=>bw f0 λx _=>iG.isEmpty&&decide (g.N[i]?=Δ x)&&g.xN x&&aU x&&g.QW i x ls&&gZ g es xs&&!xs.isEmpty|.lam k=>λe=>ue e λparams body scope pos=>g.QU k params body scope pos|.D5 a b=>λe=>bV e λf0 xs iG cp=>bT f0 λo n ap=>bb xs λx r=>r.isEmpty&&iG.isEmpty&&(ap.endLine==cp.line)&&decide (n="pop")&&!isCall o&&gP g a o&&gP g b x&&notStar x|.tp a b c=>λe=>bV e λf0 xs iG cp=>bT f0 λo n ap=>bb xs λx r=>bb r λy r'=>r'.isEmpty&&iG.isEmpty&&(ap.endLine==cp.line)&&decide (n="setdefault")&&!isCall o&&gP g a o&&gP g b x&&notStar x&&gP g c y&&notStar y|.D7 k d=>λe=>xS e λks vs _=>bb ks λk0 r=>xQ k0 λkx=>bb vs λv0 r'=>r.isEmpty&&r'.isEmpty&&CT g k kx&&zQ d v0|.D6 a=>λe=>bV e λf0 xs iG cp=>bT f0 λo n ap=>xs.isEmpty&&iG.isEmpty&&(ap.endLine==cp.line)&&decide (n="pop")&&!isCall o&&gP g a o|.attr c f i=>λe=>bT e λo m _=>bw o λx _=>decide (m=f)&&g.yK c f&&decide (g.N[i]?=Δ x)&&g.xN x&&aU x|.pf k c m i es=>λe=>bV e λf0 xs iG cp=>bT f0 λo mm ap=>bw o λx _=>iG.isEmpty&&decide (mm=m)&&g.A8 k c m es.length&&decide (g.N[i]?=Δ x)&&g.xN x&&aU x&&gZ g es xs&&(ap.endLine==cp.line)&&decide (xs.length < 30)|.make k c es=>λe=>bV e λf0 xs iG _=>bw f0 λx _=>iG.isEmpty&&decide (x=c)&&g.A9 k c es.length&&g.gl x&&aU x&&gZ g es xs&&!xs.isEmpty|.index a b=>λe=>bV e λf0 xs iG cp=>bT f0 λo n ap=>bb xs λx r=>r.isEmpty&&iG.isEmpty&&(ap.endLine==cp.line)&&decide (n="index")&&!isCall o&&gP g a o&&gP g b x&&notStar x
def VI(g:G):Option E->Option Expr->Bool
 |none=>λo=>o.isNone|some e=>λo=>xQ o λx=>gP g e x
def gZ(g:G):List E->List Expr->Bool
 |[]=>λl=>l.isEmpty|e::es=>λl=>bb l λx xs=>gP g e x&&notStar x&&gZ g es xs
def VJ(g:G):Option E->List Expr->Bool
 |none=>λl=>l.isEmpty|some c=>λl=>bb l λi r=>r.isEmpty&&gP g c i
def Lf(g:G):L->Expr->Bool
 |.dZ es=>λe=>BU e λxs _=>gZ g es xs|.comp w ts js c e=>λe0=>jU e0 λelt gens sc _=>bb gens λge r=>GC ge λtg iter ifs a=>bw tg λx _=>r.isEmpty&&decide (ts=1)&&decide (a=0)&&VL g w iter&&!BX w&&Jf g 1 (gO g x js) js sc&&decide (sc.names.lookup x=Δ .local)&&decide (gO g x js).Nodup&&VJ (g.inner (gO g x js) sc) c ifs&&gP (g.inner (gO g x js) sc) e elt&&!cC iter|.keys e=>λe0=>bV e0 λf0 xs iG _=>bw f0 λn _=>bb xs λx r=>r.isEmpty&&iG.isEmpty&&decide (n="list")&&g.gl "list"&&gP g e x&&notStar x|.fZ es=>λe0=>bV e0 λf0 ys iG _=>bw f0 λn _=>bb ys λy r=>bV y λf1 xs MZ _=>bw f1 λn1 _=>r.isEmpty&&iG.isEmpty&&MZ.isEmpty&&decide (n="list")&&g.gl "list"&&decide (n1="range")&&g.gl "range"&&gZ g es xs|.zip a b=>λe0=>bV e0 λf0 ys iG _=>bw f0 λn _=>bb ys λy r=>bV y λf1 xs MZ _=>bw f1 λn1 _=>bb xs λx1 r1=>bb r1 λx2 r2=>r.isEmpty&&r2.isEmpty&&iG.isEmpty&&MZ.isEmpty&&decide (n="list")&&g.gl "list"&&decide (n1="zip")&&g.gl "zip"&&gP g a x1&&notStar x1&&gP g b x2&&notStar x2|.cj e js c ee=>λe0=>jU e0 λelt gens sc _=>bb gens λge r=>GC ge λtg iter ifs a=>bw tg λx _=>r.isEmpty&&decide (a=0)&&gP g e iter&&Jf g 1 (gO g x js) js sc&&decide (sc.names.lookup x=Δ .local)&&decide (gO g x js).Nodup&&VJ (g.inner (gO g x js) sc) c ifs&&gP (g.inner (gO g x js) sc) ee elt&&!cC iter
def VL(g:G):W->Expr->Bool
 |.ex e=>λx=>gP g e x&&!cC x|.fZ es=>λx=>bV x λf0 xs iG _=>bw f0 λn _=>iG.isEmpty&&decide (n="range")&&g.gl "range"&&gZ g es xs|.enum e=>λx=>bV x λf0 xs iG _=>bw f0 λn _=>bb xs λy r=>r.isEmpty&&iG.isEmpty&&decide (n="enumerate")&&g.gl "enumerate"&&gP g e y&&notStar y
end
def BY(K:KB)(c:List P->aI->R P)(n:Nat):Sp:=λvs H Q _=>∃m Z qs st,vs.length=n/\ai K H m Z qs vs/\aA K H m Z st/\Ok K Z (c qs st) m H (λp _ m' H'=>∀v,ak K H' m' Z p v->Q v H')
structure uh(X:Cx)(kt:KT)(c:List P->aI->R P)(x:Str)(n:Nat):Prop where
 ex:∃(k:Nat) (f:Addr) (fd:Ze) (ps:List Str),gE X.prog X.w X.K X.mg X.base u7 k f fd ps (BY (af X kt) c n)/\
  cZ k X.A/\X.mg x=Δ (.ref f)/\ZE X.K (.ref f)=Λ/\Binds X.K fd ps []
def ui:List Str:=["len","min","max","all","any","sum","str","tuple","list","int","bool","isinstance","range","zip","enumerate","sorted"]
def QX(K:KB)(c:List P->aI->R P)(cd:Addr)(q:Str)(bW:List V):Sp:=λvs H Q _=>H cd=Δ (.ext (dE cd q))/\∃m Z qs bu st,ai K H m Z qs vs/\ai K H m Z bu bW/\aA K H m Z st/\Ok K Z (c (qs++bu) st) m H (λp _ m' H'=>∀v,ak K H' m' Z p v->Q v H')
structure CU(X:Cx)(kt:KT)(C:Nat->List P->aI->R P)(k:Nat)(a c:Addr)(bW:List V):Prop where
 ob:∃oc od fd sl,X.base.get? a=Δ ⟨oc,od,.func fd,sl⟩
 ex:∃(n:Nat) (fd:Ze) (ps:List Str),gE X.prog X.w X.K X.mg X.base u7 n a fd ps (QX (af X kt) (C k) c (kt.zJ k) bW)/\cZ n X.A/\Binds X.K fd ps []
structure Good(X:Cx)(kt:KT)(g:G)(C:Nat->List P->aI->R P):Prop where
 N:X.N=g.N
 loc:∀x,g.names.lookup x=Δ .local->X.env.scope.names.lookup x=Δ .local
 HM:∀x,(g.names.lookup x=Δ .cell\/g.names.lookup x=Δ .free)->(X.env.scope.names.lookup x=Δ .cell\/X.env.scope.names.lookup x=Δ .free)
 gl:∀x,g.names.lookup x=Δ .globalImplicit->X.env.scope.names.lookup x=Δ .globalImplicit
 calm:X.calm=Λ
 hu:X.A.units+100 < cLine
 bl:∀x∈ui,X.mg x=Θ
 fn:∀(k:Nat) (x:Str) (n:Nat),g.fns[k]?=Δ (x,n)->uh X kt (C k) x n
 cs:∀x i,g.ik.lookup x=Δ i->∃t,X.mg x=Δ (.int i t)
 tb:∀x t,g.tabs.lookup x=Δ t->∃a,X.mg x=Δ (.ref a)/\Ql X.K a t
 fld:∀c f,g.yK c f=Λ->∃A,XB X.K Xu c=Δ (Δ (.ref A))/\A5 X.K A/\jK X.K A f
 OU:∀k c m n,g.A8 k c m n=Λ->∃A l fa fd ps,XB X.K Xu c=Δ (Δ (.ref A))/\A5 X.K A/\Bk X.K A m fa/\gE X.prog X.w X.K X.mg X.base u7 l fa fd ps (BY (af X kt) (C k) (n+1))/\cZ l X.A/\Binds X.K fd ps []
 OV:∀k c n,g.A9 k c n=Λ->∃A l fa fd ps,X.mg c=Δ (.ref A)/\XB X.K Xu c=Δ (Δ (.ref A))/\Mk X.K A fa/\gE X.prog X.w X.K X.mg X.base u7 l fa fd ps (BY (af X kt) (C k) (n+1))/\cZ (l+1) X.A/\Binds X.K fd ps []
 qE:g.cv=Λ->∀k a c bW,kt.qE k a c bW->CU X kt C k a c bW
 lam:∀k params body scope pos,g.QU k params body scope pos=Λ->∀Z,PE X (.Lambda params body scope pos) (tE (af X kt) Z (aa C (.lam k)))
 iT:∀f x n ls,g.Lf f x n ls=Λ->∀(Z:List Addr) (e:Expr) (es:List Expr) (b9:List E) (p pos:Pos),b9.length=n->g.gl x=Λ->aU x=Λ->(∀y∈e::es,notStar y=Λ)->PA X (e::es) (tA (af X kt) Z (aD C b9))->
  PE X (.Call (.Name x p) (e::es) [] pos) (tE (af X kt) Z (aa C (.iT f b9 ls)))
 jb:∀i x ls,g.QW i x ls=Λ->∀(Z:List Addr) (e:Expr) (es:List Expr) (b9:List E) (p pos:Pos),g.N[i]?=Δ x->g.xN x=Λ->aU x=Λ->(∀y∈e::es,notStar y=Λ)->PA X (e::es) (tA (af X kt) Z (aD C b9))->
  PE X (.Call (.Name x p) (e::es) [] pos) (tE (af X kt) Z (aa C (.jb i b9 ls)))
section
variable{X:Cx}{g:G}{C:Nat->List P->aI->R P}{Z:List Addr}{e:Expr}{es:List Expr}
theorem Good.xN(T:Good X kt g C)(h:g.xN x=Λ):Pe X.env.scope x:=by
 unfold G.xN at h;split at h;·exact .inl (T.loc _ ‹_›)
 ·rcases T.HM x (.inl ‹_›) with q|q;·exact .inr (.inl q)
  ·exact .inr (.inr q)
 ·rcases T.HM x (.inr ‹_›) with q|q;·exact .inr (.inl q)
  ·exact .inr (.inr q)
 ·cases h
theorem Good.glob(T:Good X kt g C)(h:g.gl x=Λ):Gl X x:=T.gl x (of_decide_eq_true h)
theorem PE.imp(h:PE X e t)(i:∀σ H Q,t' σ H Q->t σ H Q):PE X e t':=λη s σ H Q I q=>h η s σ H Q I (i σ H Q q)
theorem PT.imp(h:PT X e t)(i:∀σ H Q,t' σ H Q->t σ H Q):PT X e t':=λη s σ H Q I q=>h η s σ H Q I (i σ H Q q)
theorem PW.imp(h:PW X e t)(i:∀σ H Q,t' σ H Q->t σ H Q):PW X e t':=λwh η s σ H Q I q=>h wh η s σ H Q I (i σ H Q q)
theorem PA.imp(h:PA X es t)(i:∀σ H Q,t' σ H Q->t σ H Q):PA X es t':=λpos η s σ H Q I q=>h pos η s σ H Q I (i σ H Q q)
theorem pn(h:aU x=Λ):(x==("__debug__":Str))=Ξ/\(x==("__classdict__":Str))=Ξ/\x≠"__name__":=by unfold aU at h;simp only[W9,XJ] at h;exact⟨h.1.1,h.1.2,λz=>by rw[z] at h;exact absurd h.2 (by simp)⟩
theorem bD(h:notStar e=Λ):XO (e::es) env=(Ξ,eval e env)::XO es env:=by
 cases e<;>first
  |rfl
  |exact absurd (show Ξ=Λ from h) Yc
theorem zR(T:Good X kt g C)(h1:g.N[i]?=Δ x)(h2:g.xN x=Λ)(h3:aU x=Λ):PE X (.Name x pos) (tE (af X kt) Z (aa C (.var i))):=by
 refine PE.imp (Ba (i:=i) (by rw[T.N];exact h1) (T.xN h2) (pn h3).1 (pn h3).2.1) ?_;rintro σ H Q ⟨m,r,st,ar,as,h⟩;obtain⟨p,e,q,_⟩:=Ok.of (show Ok (af X kt) Z (R.of (kl r i) st) m H _ from h) as;have e':r[i]?=Δ (Δ p):=by unfold kl at e;cases q:r[i]? with|none=>rw[q] at e;cases e|some o=>rw[q] at e;simp at e;rw[e]
 obtain⟨v,ev,rv⟩:=ar.at_ i p e';exact⟨v,ev,q v rv⟩
theorem zS(h:PE X e (tC v))(hr:∀H m,aF (af X kt) H m Z x v):PE X e (tE (af X kt) Z (aa C (.cst x))):=by refine PE.imp h ?_;rintro σ H Q ⟨m,r,st,ar,as,q⟩;exact Ok.here (show Ok (af X kt) Z (R.ok (P.d x) st) m H _ from q) as v (hr H m)
theorem GF(h:zQ d e=Λ):∃v,PE X e (tC v)/\∀K H m Z,aF K H m Z d v:=by refine nY h λc _ _ h=>?_;cases d with|int i=>obtain rfl:=of_decide_eq_true h;exact⟨_,E7,λ_ _ _ _=>rfl⟩|bl i=>obtain rfl:=of_decide_eq_true h;exact⟨_,KE,λ_ _ _ _=>rfl⟩|bz=>obtain rfl:=of_decide_eq_true h;exact⟨_,E8,λ_ _ _ _=>rfl⟩|str i=>obtain rfl:=of_decide_eq_true h;exact⟨_,E9,λ_ _ _ _=>rfl⟩|tup _=>exact ft h|pl _=>exact ft h
theorem Jh(T:Good X kt g C)(h:CT g k e=Λ):∃tk,PE X e tk/\∀{σ} {H} {m} {ρ} {st},cu (af X kt) H m Z ρ σ->aa C k ρ st=.no\/∃y v,aa C k ρ st=.ok y st/\ak (af X kt) H m Z y v/\∀(Q) (H'),Q v H'->tk σ H' Q:=by
 unfold CT at h;split at h
 ·rename_i i;refine aL h λ_ _ h=>?_
  ·simp only[W9,qqq] at h;refine⟨_,Ba (i:=i) (by rw[T.N];exact h.1.1) (T.xN h.1.2) (pn h.2).1 (pn h.2).2.1,λ{σ H m ρ st} ar=>?_⟩;rw[lE];cases e:kl ρ i with
   |none=>exact .inl rfl|some p=>
    have e':ρ[i]?=Δ (Δ p):=by unfold kl at e;cases q:ρ[i]? with|none=>rw[q] at e;cases e|some o=>rw[q] at e;simp at e;rw[e]
    obtain⟨v,ev,rv⟩:=ar.at_ i p e';exact .inr ⟨p,v,rfl,rv,λQ H' q=>⟨v,ev,q⟩⟩
 ·rename_i d;obtain⟨v,hv,hr⟩:=GF (X:=X) h;exact⟨_,hv,λ{σ H m ρ st} ar=>.inr ⟨.d d,v,rfl,(show aF (af X kt) H m Z d v from hr _ _ _ _),λQ H' q=>q⟩⟩
 ·cases h
theorem CV{f:Value->Value->Sem Value}{r:R2}{da db:bX->aI->R P}{k:P->P->aI->R P}{σ:L2.St}{H:Hp}{Q:VK}
  (hr:∀(x y:P) (v u:V) (m:List Addr) (H:Hp) (st:aI) (Q:VK),aA (af X kt) H m Z st->ak (af X kt) H m Z x v->ak (af X kt) H m Z y u->Ok (af X kt) Z (k x y st) m H (λp _ m' H'=>∀v,ak (af X kt) H' m' Z p v->Q v H')->r v u H Q)
  (h:tE (af X kt) Z (λρ st=>(da ρ st).bind λx st1=>(db ρ st1).bind λy st2=>k x y st2) σ H Q):Py r (tE (af X kt) Z da) (tE (af X kt) Z db) σ H Q:=by
 obtain⟨m,ρ,st,ar,as,h⟩:=h;refine⟨m,ρ,st,ar,as,(Ok.bind h).mono λx st1 m1 H1 bQ aZ h1 v rv=>?_⟩;refine⟨m1,ρ,st1,ar.le bQ,aZ,(Ok.bind h1).mono λy st2 m2 H2 dY dX h2 u ru=>?_⟩;exact hr x y v u m2 H2 st2 Q dX (rv.le dY) ru h2
theorem aw.map{K:KB}:∀{xs} {us},aw K H m Z xs us->ai K H m Z (xs.map .d) us
 |[],_,h=>h|x::xs,us,h=>by obtain⟨v,vs,e,r,rs⟩:=(show ∃v vs,us=v::vs/\aF K H m Z x v/\aw K H m Z xs vs from h);exact⟨v,vs,e,r,aw.map rs⟩
theorem ai.aY{K:KB}:∀{ps} {xs} {us},ai K H m Z ps us->Y.aY ps=Δ xs->aw K H m Z xs us
 |[],xs,us,h,e=>by cases e;exact h|p::ps,xs,us,h,e=>by obtain⟨v,vs,e1,r,rs⟩:=(show ∃v vs,us=v::vs/\ak K H m Z p v/\ai K H m Z ps vs from h);cases p with|obj n=>cases e|fR n=>cases e|fn k c=>cases e|lf k=>cases e|d x=>have e':(Y.aY ps).map (λxs=>x::xs)=Δ xs:=e;cases q:Y.aY ps with|none=>rw[q] at e';cases e'|some zs=>rw[q] at e';cases e';exact⟨v,vs,e1,r,ai.aY rs q⟩
theorem ai.append{K:KB}:∀{ps qs} {us vs},ai K H m Z ps us->ai K H m Z qs vs->ai K H m Z (ps++qs) (us++vs)
 |[],_,us,_,h,h'=>by cases (show us=[] from h);exact h'|p::ps,qs,us,vs,h,h'=>by obtain⟨v,w',rfl,r,rs⟩:=(show ∃v vs,us=v::vs/\ak K H m Z p v/\ai K H m Z ps vs from h);exact⟨v,w'++vs,rfl,r,ai.append rs h'⟩
theorem aw.append{K:KB}:∀{ps qs} {us vs},aw K H m Z ps us->aw K H m Z qs vs->aw K H m Z (ps++qs) (us++vs)
 |[],_,us,_,h,h'=>by cases (show us=[] from h);exact h'|p::ps,qs,us,vs,h,h'=>by obtain⟨v,w',rfl,r,rs⟩:=(show ∃v vs,us=v::vs/\aF K H m Z p v/\aw K H m Z ps vs from h);exact⟨v,w'++vs,rfl,r,aw.append rs h'⟩
theorem aw.length{K:KB}:∀{ps} {us},aw K H m Z ps us->us.length=ps.length
 |[],us,h=>by cases (show us=[] from h);rfl|p::ps,us,h=>by obtain⟨v,w',rfl,r,rs⟩:=(show ∃v vs,us=v::vs/\aF K H m Z p v/\aw K H m Z ps vs from h);rw[Xt,Xt,aw.length rs]
theorem ai.length{K:KB}:∀{ps} {us},ai K H m Z ps us->us.length=ps.length
 |[],us,h=>by cases (show us=[] from h);rfl|p::ps,us,h=>by obtain⟨v,w',rfl,r,rs⟩:=(show ∃v vs,us=v::vs/\ak K H m Z p v/\ai K H m Z ps vs from h);rw[Xt,Xt,ai.length rs]
theorem ai.get{K:KB}:∀{ps} {us} {i:Nat} {p},ai K H m Z ps us->ps[i]?=Δ p->∃v,us[i]?=Δ v/\ak K H m Z p v
 |[],us,i,p,h,e=>by simp at e|q::ps,us,i,p,h,e=>by obtain⟨v,w',rfl,r,rs⟩:=(show ∃v vs,us=v::vs/\ak K H m Z q v/\ai K H m Z ps vs from h);cases i with|zero=>simp at e;subst e;exact⟨v,by simp,r⟩|succ i=>simpa using ai.get rs (by simpa using e)
theorem ai.drop{K:KB}:∀(n) {ps} {us},ai K H m Z ps us->ai K H m Z (ps.drop n) (us.drop n)
 |0,_,_,h=>h|n+1,[],us,h=>by cases (show us=[] from h);rfl|n+1,p::ps,us,h=>by obtain⟨v,w',rfl,r,rs⟩:=(show ∃v vs,us=v::vs/\ak K H m Z p v/\ai K H m Z ps vs from h);exact ai.drop n rs
theorem ai.take{K:KB}:∀(n) {ps} {us},ai K H m Z ps us->ai K H m Z (ps.take n) (us.take n)
 |0,_,_,_=>by simp[ai]|n+1,[],us,h=>by cases (show us=[] from h);rfl|n+1,p::ps,us,h=>by obtain⟨v,w',rfl,r,rs⟩:=(show ∃v vs,us=v::vs/\ak K H m Z p v/\ai K H m Z ps vs from h);exact⟨v,w'.take n,rfl,r,ai.take n rs⟩
theorem cI{K:KB}{st:aI}(as:aA K H m Z st)(h:bj st p=Δ ps)(r:ak K H m Z p v):∃a us,v=.ref a/\Rd H a (.lst us)/\ai K H m Z ps us:=by
 cases p with
 |d x=>cases x with|pl xs=>have e:Δ (xs.map P.d)=Δ ps:=h;cases e;obtain⟨a,us,e,q,_,_,rs⟩:=r;exact⟨a,us,e,q,rs.map⟩|_=>cases h
 |obj n=>
  obtain⟨a,e,rfl⟩:=r;have h':(match st[n]? with|some (.lst xs)=>Δ xs|_=>Θ)=Δ ps:=h;split at h';·rename_i xs hs;cases h';obtain⟨a',e',o⟩:=as.at_ n _ hs;rw[e] at e';cases e';obtain⟨us,hu,rs⟩:=o;exact⟨a,us,rfl,.inl hu,rs⟩
  ·cases h'
 |fR n=>cases h|fn k c=>cases h|lf k=>cases h
theorem zT{K:KB}:∀ns:List Int,ai K H m Z (ns.map λi=>P.d (.int i)) (ns.map V.int)
 |[]=>rfl|n::ns=>⟨_,_,rfl,rfl,zT ns⟩
theorem lL{K:KB}{st:aI}(as:aA K H m Z st)(h:cU st p=Δ ps)(r:ak K H m Z p v):∃a us,v=.ref a/\(lT K.K H a us\/H a=Δ (.tup us))/\ai K H m Z ps us:=by
 cases p with
 |d x=>cases x with|tup xs=>have e:Δ (xs.map P.d)=Δ ps:=h;cases e;obtain⟨a,us,e,q,rs⟩:=r;exact⟨a,us,e,.inr q,rs.map⟩|pl xs=>obtain⟨a,us,e,q,rs⟩:=cI as (show bj st (.d (.pl xs))=Δ ps from h) r;exact⟨a,us,e,.inl (.inl q),rs⟩|bz=>cases h|bl b=>cases h|int b=>cases h|str b=>cases h
 |obj n=>obtain⟨a,us,e,q,rs⟩:=cI as (show bj st (.obj n)=Δ ps from h) r;exact⟨a,us,e,.inl (.inl q),rs⟩|fR n=>have e:Δ (n.map λi=>P.d (.int i))=Δ ps:=h;cases e;obtain⟨a,e,q⟩:=r;exact⟨a,_,e,.inl q.sq,zT n⟩|fn k c=>cases h|lf k=>cases h
theorem Lg{K:Xm}(h:lT K H a us\/H a=Δ (.tup us)):lT K H a us\/fH K H a us:=h.imp_right fH.of
theorem rZ{K:KB}{H:Hp}{m Z:List Addr}{st:aI}{xs:List D}{us:List V}{α:Type}{Q:V->Hp->Prop}(as:aA K H m Z st)(r:aw K H m Z xs us){a:Addr}(ha:H a=Θ)
  (h:Ok K Z (R.ok (P.d (.tup xs)) st) m H (λp _ m' H'=>∀v,ak K H' m' Z p v->Q v H')):Q (.ref a) (upd H a (.tup us)):=by
 have le:Le K m H m (upd H a (.tup us)):=Le.same (ba ha _);exact h m (upd H a (.tup us)) le (as.same (ba ha _)) (.ref a) ⟨a,us,rfl,aC,r.le le⟩
theorem GG{K:KB}{st:aI}{Q:V->Hp->Prop}(as:aA K H m Z st)(r:aw K H m Z xs us)(ha:H a=Θ)(h:Ok K Z (R.ok (P.d (.pl xs)) st) m H (λp _ m' H'=>∀v,ak K H' m' Z p v->Q v H')):Q (.ref a) (upd H a (.lst us)):=by have le:Le K m H m (upd H a (.lst us)):=Le.same (ba ha _);exact h m (upd H a (.lst us)) le (as.same (ba ha _)) (.ref a) ⟨a,us,rfl,.inl aC,(as.fresh ha).1,(as.fresh ha).2,r.le le⟩
end
section
variable{X:Cx}{g:G}{C:Nat->List P->aI->R P}{Z:List Addr}{e:Expr}{es:List Expr}
theorem dv:au=XE:=by rw[YH];rfl
theorem CW(h:Rd H a (.lst xs))(I:Inv X η σ H s):
  xs.length<=XE/\∃(its:List Value) (n:Nat),aS xs its/\s.heap.get? a=Δ {cls:=.type "list",data:=.seq its.toArray n}:=h.ok I.aJ
def Lh:R2:=λx y H Q=>∃l b xs zs,x=.ref l/\y=.ref b/\Rd H l (.lst xs)/\Rd H b (.lst zs)/\xs.length+zs.length<=XE/\∀p,H p=Θ->Q (.ref p) (upd H p (.lst (xs++zs)))
theorem Ji:j9 X (ZD .Add) Lh:=by
 intro η s σ H x y v u Q I rx ry h;obtain⟨l,b,xs,zs,rfl,rfl,hH,hB,hz,q⟩:=h;cases rx;cases ry;obtain⟨z,its,n,r,e⟩:=CW hH I;obtain⟨z2,FA,n2,r2,e2⟩:=CW hB I;have hl:=r.length;have wc:=r2.length;refine PySem.P.add_list e e2 ?_ (by rw[Xp,Xp];lia);have ea:its.toArray++FA.toArray=(its++FA).toArray:=by simp
 rw[ea];exact⟨.ref _,_,I.UO (t':=s.toks) (r.append r2) (by rw[Xz];lia),rfl,q _ I.fresh⟩
def VM:R2:=λx y H Q=>∃i j,x=.str i/\y=.str j/\i.length+j.length<=XE/\Q (.str (i++j)) H
def QY(K:Xm):QP->R2
 |.add=>λv u H Q=>Cv (λi j=>.int (i+j)) v u H Q\/VM v u H Q\/KS v u H Q\/Lh v u H Q|.sub=>Cv λi j=>.int (i - j)|.mul=>λv u H Q=>rI Ii (λi j=>.int (i*j)) v u H Q\/KU v u H Q\/KY v u H Q\/KZ v u H Q|.mod=>rI (λ_ j=>0 < j) λi j=>.int (i % j)
theorem M0:∀o,j9 X (ZD (CS o)) (QY X.K o)
 |.add=>LV.or (Bi.or (IS.or Ji))|.sub=>LW|.mul=>LX.or (FI.or (FK.or FO))|.mod=>LY
theorem M3{K:KB}{st:aI}(as:aA K H m Z st)(rx:ak K H m Z x v)(ry:ak K H m Z y u)(h:Ok K Z (R.of (BQ o x y st) st) m H (λp _ m' H'=>∀v,ak K H' m' Z p v->Q v H')):QY K.K o v u H Q:=by
 obtain⟨p,e,q,qq⟩:=Ok.of h as;unfold BQ at e;split at e
 ·rename_i i j;cases (show v=.int i from rx);cases (show u=.int j from ry);cases o with
  |add=>cases e;exact .inl ⟨i,j,rfl,rfl,q _ rfl⟩|sub=>cases e;exact⟨i,j,rfl,rfl,q _ rfl⟩|mul=>
   unfold kz at e;simp only at e;split at e;·rename_i hc;cases e;exact .inl ⟨i,j,rfl,rfl,hc,q _ rfl⟩
   ·cases e
  |mod=>
   unfold kz at e;simp only at e;split at e;·rename_i hc;cases e;exact⟨i,j,rfl,rfl,hc,q _ rfl⟩
   ·cases e
 ·rename_i x y;cases (show v=.str x from rx);cases (show u=.str y from ry);split at e;·rename_i hc;cases e;exact .inr (.inl ⟨x,y,rfl,rfl,by rw[<-dv];exact hc,q _ rfl⟩)
  ·cases e
 ·rename_i xs ys;obtain⟨a,us,rfl,ha,ra⟩:=rx;obtain⟨b,vs,rfl,hb,rb⟩:=ry;split at e;·rename_i hc;cases e;refine .inr (.inr (.inl ⟨a,b,us,vs,rfl,rfl,ha,hb,by rw[ra.length,rb.length,<-dv];exact hc,λr H' sm hr=>?_⟩));have le:Le K m H m H':=Le.same sm;exact qq m H' le (as.same sm) (.ref r) ⟨r,us++vs,rfl,hr,(ra.append rb).le le⟩
  ·cases e
 ·rename_i xs k;obtain⟨a,us,rfl,ha,ra⟩:=rx;cases (show u=.int k from ry);split at e;·rename_i hc;cases e;subst hc;exact .inr (.inr (.inr ⟨a,us,rfl,rfl,ha,q (.ref a) ⟨a,us,rfl,ha,ra⟩⟩))
  split at e
  ·rename_i hc;cases e;obtain⟨rfl,h1,h2⟩:=hc;refine .inr (.inl ⟨a,us,rfl,rfl,ha,λz=>?_,by rw[ra.length];exact h2,λp hp=>?_⟩)
   ·have:=ra.length;rw[z] at this;simp at this
    lia
   ·exact rZ (α:=Unit) as (ra.append ra) hp qq
  split at e
  ·rename_i hc;cases e;obtain⟨rfl,h1,h2⟩:=hc;refine .inr (.inr (.inl ⟨a,us,rfl,rfl,ha,λz=>?_,by rw[ra.length];exact h2,λp hp=>?_⟩))
   ·have:=ra.length;rw[z] at this;simp at this
    lia
   ·exact rZ (α:=Unit) as ((ra.append ra).append ra) hp qq
  ·cases e
 ·rename_i h1 h2 h3;cases ha:bj st x with
  |none=>rw[ha] at e;cases e|some ps=>
   cases hb:bj st y with
   |none=>rw[ha,hb] at e;cases e|some qs=>
    rw[ha,hb] at e;simp only[X3] at e;cases hz:aY (ps++qs) with
    |none=>rw[hz] at e;cases e|some zs=>
     rw[hz] at e;simp only[X3] at e;split at e;·rename_i hc;cases e;obtain⟨c,us,rfl,hc1,rc⟩:=cI as ha rx;obtain⟨d,vs,rfl,hd1,rd⟩:=cI as hb ry;have rr:=(rc.append rd).aY hz;have hlen:=rr.length;rw[Xz] at hlen;refine .inr (.inr (.inr ⟨c,d,us,vs,rfl,rfl,hc1,hd1,by rw[<-dv];lia,λp hp=>?_⟩));exact GG as rr hp qq
     ·cases e
 ·cases e
theorem VN(ha:PE X a (tE (af X kt) Z (aa C ea)))(hb:PE X b (tE (af X kt) Z (aa C eb))):PE X (.BinOp a (CS o) b pos) (tE (af X kt) Z (aa C (.op o ea eb))):=
 PE.imp (Pz (M0 o) ha hb) λσ H Q h=>CV (f:=ZD (CS o)) (λx y v u m H st Q as rx ry h=>M3 as rx ry h) h
theorem cb{α β:Type}{o:Option α}{f:α->Option β}{b:β}(h:o.bind f=Δ b):∃a,o=Δ a/\f a=Δ b:=by cases o with|none=>cases h|some a=>exact⟨a,rfl,h⟩
theorem gj{α β:Type}{o:Option α}{f:α->β}{b:β}(h:o.map f=Δ b):∃a,o=Δ a/\f a=b:=by cases o with|none=>cases h|some a=>exact⟨a,rfl,by simpa using h⟩
theorem kQ{K:KB}{st:aI}(as:aA K H m Z st)(h:jR st p=Δ x)(r:ak K H m Z p v):aF K H [] [] x v:=by
 cases p with
 |d y=>cases h;exact aF.bare r|obj n=>
  obtain⟨a,e,rfl⟩:=r;have h':(match st[n]? with|some (.lst xs)=>(aY xs).map D.pl|_=>Θ)=Δ x:=h;split at h';·rename_i xs hs;obtain⟨a',e',o⟩:=as.at_ n _ hs;rw[e] at e';cases e';obtain⟨us,hu,rs⟩:=o;cases hd:aY xs with|none=>rw[hd] at h';cases h'|some ys=>rw[hd] at h';cases h';exact⟨a,us,rfl,.inl hu,by simp,by simp,(rs.aY hd).bare⟩
  ·cases h'
 |fR n=>cases h|fn k c=>cases h|lf k=>cases h
theorem ak.key{K:KB}(r:ak K H m Z p v)(e:keyOf p=Δ k):v=kV k:=by
 unfold keyOf at e;split at e;·cases e;exact r
 ·cases e;exact r
 ·cases e
theorem aw.keys{K:KB}:∀{xs} {ks} {us},aw K H m Z xs us->keysOf xs=Δ ks->us=ks.map kV
 |[],ks,us,h,e=>by cases e;exact h|x::xs,ks,us,h,e=>by obtain⟨v,vs,rfl,r,rs⟩:=(show ∃v vs,us=v::vs/\aF K H m Z x v/\aw K H m Z xs vs from h);unfold keysOf at e;cases e1:keyOf (.d x) with|none=>rw[e1] at e;cases e|some k=>rw[e1] at e;cases e2:keysOf xs with|none=>rw[e2] at e;cases e|some k2=>rw[e2] at e;cases e;rw[aw.keys rs e2,ak.key (show ak K H m Z (.d x) v from r) e1];rfl
theorem ak.mI{K:KB}(r:ak K H m Z p v)(e:Y.mI p=Δ k):∃b,v=.ref b/\H b=Δ (.tup (k.map kV)):=by
 unfold Y.mI at e;split at e;·obtain⟨b,us,rfl,h1,rs⟩:=r;exact⟨b,rfl,by rw[<-aw.keys rs e];exact h1⟩
 ·cases e
theorem aO.val{κ:Type}[DecidableEq κ]{K:KB}{k:κ}:∀{kvs} {us},aO K H m Z kvs us->(fI us k).isSome=(fj kvs k).isSome/\∀p,fj kvs k=Δ p->∃v,fI us k=Δ v/\ak K H m Z p v
 |[],us,h=>by cases (show us=[] from h);exact⟨rfl,λp e=>by cases e⟩|x::xs,us,h=>by
  obtain⟨v,vs,rfl,r,rs⟩:=(show ∃v vs,us=(x.1,v)::vs/\ak K H m Z x.2 v/\aO K H m Z xs vs from h);obtain⟨i1,i2⟩:=aO.val (k:=k) rs;by_cases hk:x.1=k
  ·have e1:fI ((x.1,v)::vs) k=Δ v:=nE hk;have e2:fj (x::xs) k=Δ x.2:=by simp[fj,YB,hk]
   rw[e1,e2];exact⟨rfl,λp e=>by cases e;exact⟨v,rfl,r⟩⟩
  ·have e1:fI ((x.1,v)::vs) k=fI vs k:=nF hk;have e2:fj (x::xs) k=fj xs k:=by simp[fj,YB,hk]
   rw[e1,e2];exact⟨i1,i2⟩
theorem aO.length{κ:Type}{K:KB}{m:List Addr}:∀{kvs:List (κ×P)} {us:List (κ×V)},aO K H m Z kvs us->us.length=kvs.length
 |[],us,h=>by cases (show us=[] from h);rfl|x::xs,us,h=>by obtain⟨v,vs,rfl,r,rs⟩:=(show ∃v vs,us=(x.1,v)::vs/\ak K H m Z x.2 v/\aO K H m Z xs vs from h);rw[Xt,Xt,aO.length rs]
theorem aO.app{κ:Type}{K:KB}{k:κ}(rp:ak K H m Z p v):∀{kvs} {us},aO K H m Z kvs us->aO K H m Z (kvs++[(k,p)]) (us++[(k,v)])
 |[],us,h=>by cases (show us=[] from h);exact⟨v,[],rfl,rp,rfl⟩|x::xs,us,h=>by obtain⟨v',vs,rfl,r,rs⟩:=(show ∃v vs,us=(x.1,v)::vs/\ak K H m Z x.2 v/\aO K H m Z xs vs from h);exact⟨v',vs++[(k,v)],rfl,r,aO.app rp rs⟩
theorem aO.DJ{κ:Type}[DecidableEq κ]{K:KB}{k:κ}(rp:ak K H m Z p v):∀{kvs} {us},aO K H m Z kvs us->
  aO K H m Z (kvs.map λkv=>if kv.1=k then(kv.1,p) else kv) (us.map λkv=>if kv.1=k then(kv.1,v) else kv)
 |[],us,h=>by cases (show us=[] from h);rfl|x::xs,us,h=>by
  obtain⟨v',vs,rfl,r,rs⟩:=(show ∃v vs,us=(x.1,v)::vs/\ak K H m Z x.2 v/\aO K H m Z xs vs from h);have ih:=aO.DJ (k:=k) rp rs;rw[Xo,Xo];by_cases hk:x.1=k;·rw[if_pos hk,if_pos hk];exact⟨v,_,rfl,rp,ih⟩
  ·rw[if_neg hk,if_neg hk];exact⟨v',_,rfl,r,ih⟩
theorem aO.put{κ:Type}[DecidableEq κ]{K:KB}{k:κ}{kvs:List (κ×P)}{us:List (κ×V)}(rs:aO K H m Z kvs us)(rp:ak K H m Z p v):aO K H m Z (lZ kvs k p) (putK us k v):=by
 have e:(us.any λkv=>decide (kv.1=k))=(kvs.any λkv=>decide (kv.1=k)):=by
  have e2:∀kvs:List (κ×P),(kvs.any λkv=>decide (kv.1=k))=(fj kvs k).isSome:=λkvs=>by
   unfold fj;rw[aap];induction kvs with
   |nil=>rfl|cons x xs ih=>
    rw[Zy,YB];cases hx:decide (x.1=k);·simpa using ih
    ·rfl
  rw[sO,(rs.val (k:=k)).1,e2]
 unfold lZ putK;rw[e];split;·exact rs.DJ rp
 ·exact rs.app rp
theorem uj{K:KB}{st:aI}(as:aA K H m Z st)(h:bC st p=Δ o)(r:ak K H m Z p v):∃n a,p=.obj n/\st[n]?=Δ o/\m[n]?=Δ a/\v=.ref a/\qZ K H m Z a o/\jo o=Λ:=by
 unfold bC at h;cases p with
 |d x=>cases h|fR x=>cases h|fn k c=>cases h|lf k=>cases h|obj n=>
  obtain⟨a,e,rfl⟩:=r;cases hs:st[n]? with
  |none=>rw[show D9 st (.obj n)=st[n]? from rfl,hs] at h;cases h|some o'=>
   rw[show D9 st (.obj n)=st[n]? from rfl,hs] at h;have h':(if jo o'=Λ then Δ o' else Θ)=Δ o:=h;split at h';·rename_i hd;cases h';obtain⟨a',e',q⟩:=as.at_ n _ hs;rw[e] at e';cases e';exact⟨n,a,rfl,hs,e,rfl,q,hd⟩
   ·cases h'
theorem CY{K:KB}(ao:qZ K H m Z a o)(rk:ak K H m Z k y)(h:nQ o k=Δ res):∃ov,nH H a y ov/\ov.isSome=res.isSome/\∀p,res=Δ p->∃v,ov=Δ v/\ak K H m Z p v:=by
 cases o with
 |lst xs=>cases h|ins c fs=>cases h|vA=>cases h|dK kvs=>obtain⟨us,hu,rs⟩:=ao;cases hk:keyOf k with|none=>rw[show nQ (.dK kvs) k=(keyOf k).map _ from rfl,hk] at h;cases h|some kk=>rw[show nQ (.dK kvs) k=(keyOf k).map _ from rfl,hk] at h;cases h;obtain⟨i1,i2⟩:=rs.val (k:=kk);refine⟨fI us kk,?_,i1,λp hp=>i2 p hp⟩;rw[rk.key hk];exact nH.k hu
 |dT kvs=>obtain⟨us,hu,rs⟩:=ao;cases hk:mI k with|none=>rw[show nQ (.dT kvs) k=(mI k).map _ from rfl,hk] at h;cases h|some kk=>rw[show nQ (.dT kvs) k=(mI k).map _ from rfl,hk] at h;cases h;obtain⟨i1,i2⟩:=rs.val (k:=kk);obtain⟨b,rfl,hb⟩:=rk.mI hk;exact⟨fI us kk,nH.t hu hb,i1,λp hp=>i2 p hp⟩
def GH(neg:Bool):R2:=λy x H Q=>∃a o,x=.ref a/\nH H a y o/\Q (.bl (if neg then !o.isSome else o.isSome)) H
theorem M4(hu:X.A.units+100 < cLine):j9 X (YF .In) (GH Ξ):=by intro η s σ H x y v u Q I rx ry h;obtain⟨a,o,rfl,g,q⟩:=h;cases ry;exact UQ (by lia) I g rx λs3 I3=>⟨.bl o.isSome,H,I3,rfl,q⟩
theorem Eh(hu:X.A.units+100 < cLine):j9 X (YF .NotIn) (GH Λ):=by intro η s σ H x y v u Q I rx ry h;obtain⟨a,o,rfl,g,q⟩:=h;cases ry;exact IG (by lia) I g rx λs3 I3=>⟨.bl (!o.isSome),H,I3,rfl,q⟩
def Jj(K:KB):Ld->R2
 |.lt=>Cv λi j=>.bl (decide (i < j))|.le=>Cv λi j=>.bl (decide (i<=j))|.gt=>Cv λi j=>.bl (decide (j < i))|.ge=>Cv λi j=>.bl (decide (j<=i))|.eq=>λv u H Q=>∃m Z x y k,aF K H m Z x v/\aF K H m Z y u/\rV x y=Δ k/\Q (.bl k) H|.ne=>λv u H Q=>∃m Z x y k,aF K H m Z x v/\aF K H m Z y u/\rV x y=Δ k/\Q (.bl (!k)) H|.isin=>λv u H Q=>P0 K.K Ξ v u H Q\/GH Ξ v u H Q|.nO=>λv u H Q=>P0 K.K Λ v u H Q\/GH Λ v u H Q
theorem pQ(hu:X.A.units+100 < cLine):∀o,j9 X (YF (kf o)) (Jj (af X kt) o)
 |.lt=>PC|.le=>PD|.gt=>PF|.ge=>PH|.eq=>MX hu|.ne=>MY hu|.isin=>DI.or (M4 hu)|.nO=>xt.or (Eh hu)
theorem GI{K:KB}(h:aF K H m Z x v)(f:qy x=Λ):l7 v=Λ:=by cases x with|bz=>cases (show v=.bz from h);rfl|bl b=>cases (show v=.bl b from h);rfl|int b=>cases (show v=.int b from h);rfl|str b=>cases (show v=.str b from h);rfl|tup xs=>cases f|pl xs=>cases f
theorem VO{K:KB}(h:aF K H m Z x v)(h':aF K H m Z y u)(f:qy x=Λ)(f':qy y=Λ):IE v u=vB x y:=by
 cases x with
 |tup xs=>cases f|pl xs=>cases f|bz=>cases (show v=.bz from h);cases y with|tup xs=>cases f'|pl xs=>cases f'|bz=>cases (show u=.bz from h');rfl|bl b=>cases (show u=.bl b from h');rfl|int b=>cases (show u=.int b from h');rfl|str b=>cases (show u=.str b from h');rfl
 |bl a=>cases (show v=.bl a from h);cases y with|tup xs=>cases f'|pl xs=>cases f'|bz=>cases (show u=.bz from h');rfl|bl b=>cases (show u=.bl b from h');rfl|int b=>cases (show u=.int b from h');rfl|str b=>cases (show u=.str b from h');rfl
 |int a=>cases (show v=.int a from h);cases y with|tup xs=>cases f'|pl xs=>cases f'|bz=>cases (show u=.bz from h');rfl|bl b=>cases (show u=.bl b from h');rfl|int b=>cases (show u=.int b from h');rfl|str b=>cases (show u=.str b from h');rfl
 |str a=>cases (show v=.str a from h);cases y with|tup xs=>cases f'|pl xs=>cases f'|bz=>cases (show u=.bz from h');rfl|bl b=>cases (show u=.bl b from h');rfl|int b=>cases (show u=.int b from h');rfl|str b=>cases (show u=.str b from h');rfl
theorem Li{K:KB}(h:aF K H m Z x v)(f:qy x=Λ):∀{ys} {us},aw K H m Z ys us->ys.all qy=Λ->us.all l7=Λ/\SX v us=ys.any λy=>vB y x
 |[],us,r,_=>by cases (show us=[] from r);exact⟨rfl,rfl⟩|y::ys,us,r,q=>by obtain⟨w',ws,rfl,r1,r2⟩:=(show ∃v vs,us=v::vs/\aF K H m Z y v/\aw K H m Z ys vs from r);rw[Zz,W9] at q;obtain⟨i1,i2⟩:=Li h f r2 q.2;refine⟨by rw[Zz,GI r1 q.1,i1];rfl,?_⟩;unfold SX at i2 ⊢;rw[Zy,Zy,VO r1 h q.1 f,i2]
theorem in_of{K:KB}{st:aI}(as:aA K H m Z st)(rx:ak K H m Z x v)(ry:ak K H m Z y u)(e:Gv x y st=Δ k)(q:Q (.bl (if neg then !k else k)) H):P0 K.K neg v u H Q\/GH neg v u H Q:=by
 unfold Gv at e;split at e;·rename_i o ho;obtain⟨res,e1,rfl⟩:=gj e;obtain⟨n,a,rfl,hs,hm,rfl,ao,_⟩:=uj as ho ry;obtain⟨ov,hg,h1,_⟩:=CY ao rx e1;refine .inr ⟨a,ov,rfl,hg,?_⟩;rw[h1];exact q
 ·left;obtain⟨xd,e1,e⟩:=cb e;obtain⟨ps,e2,e⟩:=cb e;obtain⟨ys,e3,e9⟩:=cb e;clear e;split at e9;·rename_i hf;rw[W9] at hf;cases x with|obj n=>cases e1|fR n=>cases e1|fn k c=>cases e1|lf k=>cases e1|d x=>cases e1;obtain⟨a,us,rfl,hs,rs⟩:=lL as e2 ry;obtain⟨f1,f2⟩:=Li rx hf.1 (rs.aY e3) hf.2;refine⟨a,us,rfl,Lg hs,GI rx hf.1,f1,?_⟩;rw[f2];cases e9;cases neg<;>exact q
  ·cases e9
theorem xU{K:KB}{st:aI}(as:aA K H m Z st)(rx:ak K H m Z x v)(ry:ak K H m Z y u)(e:jq o x y st=Δ k)(q:Q (.bl k) H):Jj K o v u H Q:=by
 have Jk:∀{o:Ld},MS o x y=Δ k->∃i j,v=.int i/\u=.int j/\QQ o i j=Δ k:=λ{o} z=>by
  unfold MS at z;split at z;·exact⟨_,_,rx,ry,z⟩
  ·cases z
 cases o with
 |lt=>obtain⟨i,j,rfl,rfl,z⟩:=Jk e;cases z;exact⟨i,j,rfl,rfl,q⟩|le=>obtain⟨i,j,rfl,rfl,z⟩:=Jk e;cases z;exact⟨i,j,rfl,rfl,q⟩|gt=>obtain⟨i,j,rfl,rfl,z⟩:=Jk e;cases z;exact⟨i,j,rfl,rfl,q⟩|ge=>obtain⟨i,j,rfl,rfl,z⟩:=Jk e;cases z;exact⟨i,j,rfl,rfl,q⟩|eq=>obtain⟨a,e1,e⟩:=cb (show((jR st x).bind λx=>(jR st y).bind λy=>rV x y)=Δ k from e);obtain⟨b,e2,e⟩:=cb e;exact⟨[],[],a,b,k,kQ as e1 rx,kQ as e2 ry,e,q⟩
 |ne=>obtain⟨a,e1,e⟩:=cb (show((jR st x).bind λx=>(jR st y).bind λy=>(rV x y).map not)=Δ k from e);obtain⟨b,e2,e⟩:=cb e;obtain⟨c,e3,rfl⟩:=gj e;exact⟨[],[],a,b,c,kQ as e1 rx,kQ as e2 ry,e3,q⟩|isin=>exact in_of (neg:=Ξ) as rx ry e q|nO=>obtain⟨k',e',rfl⟩:=gj (show(Gv x y st).map not=Δ k from e);exact in_of (neg:=Λ) as rx ry e' q
theorem Ok.truth{K:KB}{st:aI}{Q:VK}(as:aA K H m Z st)(h:Ok K Z ((R.of o st).bind λb st3=>R.ok (P.d (.bl b)) st3) m H (λp _ m' H'=>∀v,ak K H' m' Z p v->Q v H')):∃k,o=Δ k/\Q (.bl k) H:=by obtain⟨k,e,q,_⟩:=Ok.of (Ok.bind h) as;exact⟨k,e,Ok.here q as (.bl k) rfl⟩
theorem CZ(h:cC b=Ξ):acz op b=Ξ:=by
 cases b<;>first
  |rfl
  |exact absurd (show Λ=Ξ from h) Yc.symm
theorem QZ(T:Good X kt g C)(ha:PE X a (tE (af X kt) Z (aa C ea)))(hb:PE X b (tE (af X kt) Z (aa C eb)))(hn:cC b=Ξ):
  PE X (.Compare a [kf o] [b] pos) (tE (af X kt) Z (aa C (.cmp o ea eb))):=
 PE.imp (Ij (pQ T.hu o) ha hb (CZ hn)) λσ H Q h=>CV (f:=YF (kf o)) (λx y v u m H st Q as rx ry h=>by obtain⟨k,e,q⟩:=Ok.truth as h;exact xU as rx ry e q) h
theorem mj{α β:Type}{r:R α}{f:α->aI->R β}{b:β}{st:aI}(h:r.bind f=.ok b st):∃a st1,r=.ok a st1/\f a st1=.ok b st:=by cases r with|ok a st1=>exact⟨a,st1,rfl,h⟩|ex x st1=>cases h|no=>cases h
theorem GJ{K:KB}{st:aI}(as:aA K H m Z st)(r:ak K H m Z p v)(e:xJ st p=Δ k):DE K.K v H k:=by
 have lists:(bj st p).map (λxs=>!xs.isEmpty)=Δ k->DE K.K v H k:=λz=>by obtain⟨ps,e1,rfl⟩:=gj z;obtain⟨a,us,rfl,hr,rs⟩:=cI as e1 r;refine .inl ⟨us,.inl hr,?_⟩;have:=rs.length;cases ps<;>cases us<;>simp at this ⊢
 cases p with
 |obj n=>exact lists e|fR n=>exact lists e|fn k c=>exact lists e|lf k=>exact lists e|d x=>
  cases x with
  |bz=>cases (show v=.bz from r);cases e;rfl|bl b=>cases (show v=.bl b from r);cases e;rfl|int b=>cases (show v=.int b from r);cases e;rfl|str b=>
   cases (show v=.str b from r);have e':(if b.length<=au then Δ ((b.length:Int)!=0) else Θ)=Δ k:=e;split at e';·rename_i hc;cases e';exact⟨by rw[<-dv];exact hc,rfl⟩
   ·cases e'
  |tup xs=>obtain⟨a,us,rfl,hs,rs⟩:=r;cases e;refine .inr (.inl ⟨us,fH.of hs,?_⟩);have:=rs.length;cases xs<;>cases us<;>simp at this ⊢|pl xs=>exact lists e
theorem M5(h:tT (af X kt) Z (b8 d) σ H Q):tE (af X kt) Z d σ H λx H'=>∃k,DE X.K x H' k/\Q k H':=by obtain⟨m,r,st,ar,as,h⟩:=h;refine⟨m,r,st,ar,as,(Ok.bind h).mono λp st1 m1 H1 bQ aZ h1 v rv=>?_⟩;obtain⟨k,e,q,_⟩:=Ok.of h1 aZ;exact⟨k,GJ aZ rv e,q⟩
theorem Jl(ha:PE X e (tE (af X kt) Z d))(he:∀whole,acQ e X.env whole=(do let v<-whole;ab7 e.pos;acr [v] (truthy v))):PT X e (tT (af X kt) Z (b8 d)):=
 PT.imp (Fo ha he) λσ H Q h=>M5 h
theorem C0(hb:∀r st p st1,d r st=.ok p st1->∃b,p=.d (.bl b))(h:tT (af X kt) Z (b8 d) σ H Q):tE (af X kt) Z d σ H λx H'=>∃k,x=.bl k/\Q k H':=by obtain⟨m,r,st,ar,as,h⟩:=h;refine⟨m,r,st,ar,as,(Ok.bind h).wG λp st1 m1 H1 hr bQ aZ h1 v rv=>?_⟩;obtain⟨b,rfl⟩:=hb r st p st1 hr;obtain⟨k,e,q,_⟩:=Ok.of h1 aZ;cases e;cases (show v=.bl b from rv);exact⟨b,rfl,q⟩
theorem GK:∀r st p st1,aa C (.cmp o a b) r st=.ok p st1->∃b,p=.d (.bl b):=λr st p st1 h=>by rw[bM] at h;obtain⟨x,s1,_,h⟩:=mj h;obtain⟨y,s2,_,h⟩:=mj h;obtain⟨k,s3,_,h⟩:=mj h;cases h;exact⟨k,rfl⟩
theorem M6(T:Good X kt g C)(ha:PE X a (tE (af X kt) Z (aa C ea)))(hb:PE X b (tE (af X kt) Z (aa C eb)))(hn:cC b=Ξ):
  PT X (.Compare a [kf o] [b] pos) (tT (af X kt) Z (b8 (aa C (.cmp o ea eb)))):=
 PT.imp (Ik (pQ T.hu o) ha hb (CZ hn)) λσ H Q h=>CV (f:=YF (kf o)) (λx y v u m H st Q as rx ry h=>by obtain⟨k,e,q⟩:=Ok.truth as h;exact xU as rx ry e q) (C0 GK h)
theorem wJ(h:cC b=Ξ)(h':cC c=Ξ):lastMarks [p,q] [b,c]=Ξ:=by
 cases c<;>first
  |rfl
  |exact absurd (show Λ=Ξ from h') Yc.symm
theorem zU(h:tE (af X kt) Z (aa C (.chain o o' a b c)) σ H Q):
  Bg (Jj (af X kt) o) (Jj (af X kt) o') (tE (af X kt) Z (aa C a)) (tE (af X kt) Z (aa C b)) (tE (af X kt) Z (aa C c)) σ H Q:=by
 obtain⟨m,ρ,st,ar,as,h⟩:=h;rw[qA] at h;refine⟨m,ρ,st,ar,as,(Ok.bind h).mono λx st1 m1 H1 bQ aZ h1 v rv=>?_⟩;refine⟨m1,ρ,st1,ar.le bQ,aZ,(Ok.bind h1).mono λy st2 m2 H2 dY dX h2 u ru=>?_⟩;obtain⟨k,e,h3,_⟩:=Ok.of (Ok.bind h2) dX;refine xU dX (rv.le dY) ru e ⟨k,rfl,?_⟩;cases k with|false=>exact Ok.here h3 dX (.bl Ξ) rfl|true=>refine⟨m2,ρ,st2,(ar.le bQ).le dY,dX,(Ok.bind (show Ok (af X kt) Z ((aa C c ρ st2).bind _) m2 H2 _ from h3)).mono λz ma m4 H4 yL C1 h4 w' mE=>?_⟩;obtain⟨k',e',q⟩:=Ok.truth C1 h4;exact xU C1 (ru.le yL) mE e' q
theorem Jm(T:Good X kt g C)(ha:PE X a (tE (af X kt) Z (aa C ea)))(hb:PE X b (tE (af X kt) Z (aa C eb)))(hc:PE X c (tE (af X kt) Z (aa C ec)))(hn:cC b=Ξ)(E5:cC c=Ξ):
  PE X (.Compare a [kf o,kf o'] [b,c] pos) (tE (af X kt) Z (aa C (.chain o o' ea eb ec))):=
 PE.imp (Fi (pQ T.hu o) (pQ T.hu o') ha hb hc (wJ hn E5)) λσ H Q h=>zU h
theorem BZ:∀r st p st1,aa C (.chain o o' a b c) r st=.ok p st1->∃b,p=.d (.bl b):=λr st p st1 h=>by rw[qA] at h;obtain⟨x,s1,_,h⟩:=mj h;obtain⟨y,s2,_,h⟩:=mj h;obtain⟨k,s3,_,h⟩:=mj h;cases k with|false=>cases h;exact⟨Ξ,rfl⟩|true=>obtain⟨z,s4,_,h⟩:=mj (show((aa C c r s3).bind _)=_ from h);obtain⟨k',s5,_,h⟩:=mj h;cases h;exact⟨k',rfl⟩
theorem GL(T:Good X kt g C)(ha:PE X a (tE (af X kt) Z (aa C ea)))(hb:PE X b (tE (af X kt) Z (aa C eb)))(hc:PE X c (tE (af X kt) Z (aa C ec)))(hn:cC b=Ξ)(E5:cC c=Ξ):
  PT X (.Compare a [kf o,kf o'] [b,c] pos) (tT (af X kt) Z (b8 (aa C (.chain o o' ea eb ec)))):=
 PT.imp (Fj (pQ T.hu o) (pQ T.hu o') ha hb hc (wJ hn E5)) λσ H Q h=>zU (C0 BZ h)
theorem Jn(ha:PE X a ta):PE X (.UnaryOp .Not a pos) (λσ H Q=>ta σ H λx H1=>∃k,DE X.K x H1 k/\Q (.bl (!k)) H1):=by intro η s σ H Q I h;refine UnaryOp_ (bS (ha η s σ H _ I h) λv s1 ⟨x,H1,I1,r1,q1⟩=>not_of ?_);exact bS (Fm η s1 σ H1 x v (λk H'=>Q (.bl (!k)) H') I1 r1 q1) λc s2 ⟨H2,I2,q2⟩=>⟨.bl (!c),H2,I2,rfl,q2⟩
theorem Q0(ha:PE X a (tE (af X kt) Z (aa C ea))):PE X (.UnaryOp .Not a pos) (tE (af X kt) Z (aa C (.not ea))):=by refine PE.imp (Jn ha) ?_;rintro σ H Q ⟨m,ρ,st,ar,as,h⟩;rw[wq] at h;refine⟨m,ρ,st,ar,as,(Ok.bind h).mono λx st1 m1 H1 bQ aZ h1 v rv=>?_⟩;obtain⟨k,e,h2,_⟩:=Ok.of (Ok.bind h1) aZ;exact⟨k,GJ aZ rv e,Ok.here h2 aZ (.bl (!k)) rfl⟩
theorem M7(ha:PT X a (tT (af X kt) Z (b8 (aa C ea)))):PT X (.UnaryOp .Not a pos) (tT (af X kt) Z (b8 (aa C (.not ea)))):=by refine PT.imp (LL ha) ?_;rintro σ H Q ⟨m,ρ,st,ar,as,h⟩;unfold b8 at h;rw[wq] at h;refine⟨m,ρ,st,ar,as,?_⟩;unfold b8;cases hr:aa C ea ρ st with|ex x s=>rw[hr] at h;exact h|no=>rw[hr] at h;exact h|ok p s1=>rw[hr] at h;simp only[ae] at h ⊢;cases ht:xJ s1 p with|none=>rw[ht] at h;exact h|some k=>rw[ht] at h;exact h
theorem M8(ha:PE X a (tE (af X kt) Z (aa C ea))):PE X (.BoolOp .And [a] pos) (tE (af X kt) Z (gg C [ea])):=Fb ha
theorem Q1(ha:PE X a (tE (af X kt) Z (aa C ea))):PE X (.BoolOp .Or [a] pos) (tE (af X kt) Z (gh C [ea])):=Fb ha
theorem M9{rest:List Expr}(ha:PE X a (tE (af X kt) Z (aa C ea)))(hb:PE X (.BoolOp .And (b::rest) pos) (tE (af X kt) Z (gg C (eb::er)))):
  PE X (.BoolOp .And (a::b::rest) pos) (tE (af X kt) Z (gg C (ea::eb::er))):=by
 refine PE.imp (LM ha hb) ?_;rintro σ H Q ⟨m,ρ,st,ar,as,h⟩;rw[lF] at h;refine⟨m,ρ,st,ar,as,(Ok.bind h).mono λx st1 m1 H1 bQ aZ h1 v rv=>?_⟩;split at h1;·rename_i k;cases (show v=.bl k from rv);refine⟨k,rfl,?_⟩;cases k with|true=>exact⟨m1,ρ,st1,ar.le bQ,aZ,h1⟩|false=>exact Ok.here h1 aZ (.bl Ξ) rfl
 ·exact h1.elim
theorem Q2{rest:List Expr}(ha:PE X a (tE (af X kt) Z (aa C ea)))(hb:PE X (.BoolOp .Or (b::rest) pos) (tE (af X kt) Z (gh C (eb::er)))):
  PE X (.BoolOp .Or (a::b::rest) pos) (tE (af X kt) Z (gh C (ea::eb::er))):=by
 refine PE.imp (Pl ha hb) ?_;rintro σ H Q ⟨m,ρ,st,ar,as,h⟩;rw[lG] at h;refine⟨m,ρ,st,ar,as,(Ok.bind h).mono λx st1 m1 H1 bQ aZ h1 v rv=>?_⟩;split at h1;·rename_i k;cases (show v=.bl k from rv);refine⟨k,rfl,?_⟩;cases k with|false=>exact⟨m1,ρ,st1,ar.le bQ,aZ,h1⟩|true=>exact Ok.here h1 aZ (.bl Λ) rfl
 ·exact h1.elim
theorem Jo(ha:PT X a (tT (af X kt) Z (b8 (aa C ea)))):PW X (.BoolOp .And [a] pos) (tT (af X kt) Z (b8 (gg C [ea]))):=pw_and1 ha
theorem Na(ha:PT X a (tT (af X kt) Z (b8 (aa C ea)))):PW X (.BoolOp .Or [a] pos) (tT (af X kt) Z (b8 (gh C [ea]))):=pw_or1 ha
theorem Jp{rest:List Expr}(ha:PT X a (tT (af X kt) Z (b8 (aa C ea))))(hb:PW X (.BoolOp .And (b::rest) pos) (tT (af X kt) Z (b8 (gg C (eb::er))))):
  PW X (.BoolOp .And (a::b::rest) pos) (tT (af X kt) Z (b8 (gg C (ea::eb::er)))):=by
 refine PW.imp (pw_and ha hb) ?_;rintro σ H Q ⟨m,ρ,st,ar,as,h⟩;refine⟨m,ρ,st,ar,as,?_⟩;unfold b8 at h ⊢;rw[lF] at h;cases hr:aa C ea ρ st with
 |ex x s=>rw[hr] at h;exact h|no=>rw[hr] at h;exact h|ok p s1=>
  rw[hr] at h;simp only[ae] at h ⊢;split at h;·rename_i k;refine λm1 H1 bQ aZ=>?_;cases k with|true=>exact⟨m1,ρ,s1,ar.le bQ,aZ,Ok.le h bQ⟩|false=>exact h m1 H1 bQ aZ
  ·exact h.elim
theorem Nb{rest:List Expr}(ha:PT X a (tT (af X kt) Z (b8 (aa C ea))))(hb:PW X (.BoolOp .Or (b::rest) pos) (tT (af X kt) Z (b8 (gh C (eb::er))))):
  PW X (.BoolOp .Or (a::b::rest) pos) (tT (af X kt) Z (b8 (gh C (ea::eb::er)))):=by
 refine PW.imp (pw_or ha hb) ?_;rintro σ H Q ⟨m,ρ,st,ar,as,h⟩;refine⟨m,ρ,st,ar,as,?_⟩;unfold b8 at h ⊢;rw[lG] at h;cases hr:aa C ea ρ st with
 |ex x s=>rw[hr] at h;exact h|no=>rw[hr] at h;exact h|ok p s1=>
  rw[hr] at h;simp only[ae] at h ⊢;split at h;·rename_i k;refine λm1 H1 bQ aZ=>?_;cases k with|false=>exact⟨m1,ρ,s1,ar.le bQ,aZ,Ok.le h bQ⟩|true=>exact h m1 H1 bQ aZ
  ·exact h.elim
end
section
variable{X:Cx}{g:G}{C:Nat->List P->aI->R P}{Z:List Addr}{e:Expr}{es:List Expr}
theorem fT:∀{es} {r} {st st1} {ps},aD C es r st=.ok ps st1->ps.length=es.length
 |[],r,st,st1,ps,h=>by rw[ay] at h;cases h;rfl|e::es,r,st,st1,ps,h=>by rw[aj] at h;obtain⟨x,s1,_,h⟩:=mj h;obtain⟨xs,s2,h2,h⟩:=mj h;cases h;rw[Xt,Xt,fT h2]
theorem uk:PA X [] (tA (af X kt) Z (aD C [])):=by refine PA.imp Bp ?_;rintro σ H Q ⟨m,ρ,st,ar,as,h⟩;rw[ay] at h;exact Ok.here h as [] rfl
theorem kR(ha:PE X x (tE (af X kt) Z (aa C a)))(hr:PA X xs (tA (af X kt) Z (aD C b9)))(hs:notStar x=Λ):PA X (x::xs) (tA (af X kt) Z (aD C (a::b9))):=by refine PA.imp (rQ ha hr (bD hs)) ?_;rintro σ H Q ⟨m,ρ,st,ar,as,h⟩;rw[aj] at h;refine⟨m,ρ,st,ar,as,(Ok.bind h).mono λp st1 m1 H1 bQ aZ h1 v rv=>?_⟩;refine⟨m1,ρ,st1,ar.le bQ,aZ,(Ok.bind h1).mono λps st2 m2 H2 dY dX h2 vs iE=>?_⟩;exact Ok.here h2 dX (v::vs) ⟨v,vs,rfl,rv.le dY,iE⟩
theorem fU(h:gZ g (a::b9) xs=Λ):∃x ys,xs=x::ys/\gP g a x=Λ/\notStar x=Λ/\gZ g b9 ys=Λ:=by refine aG h λx ys h=>?_;simp only[W9] at h;exact⟨x,ys,rfl,h.1.1,h.1.2,h.2⟩
theorem kT(h:gZ g [] xs=Λ):xs=[]:=Xr.mp h
theorem cD:∀{b9} {xs},gZ g b9 xs=Λ->∀x∈xs,notStar x=Λ
 |[],xs,h=>by rw[kT h];intro x hx;cases hx|a::b9,xs,h=>by
  obtain⟨x,ys,rfl,_,h2,h3⟩:=fU h;intro y hy;rcases aai.mp hy with z|z;·rw[z];exact h2
  ·exact cD h3 y z
theorem gk:∀{b9} {xs},gZ g b9 xs=Λ->xs.length=b9.length
 |[],xs,h=>by rw[kT h];rfl|a::b9,xs,h=>by obtain⟨x,ys,rfl,_,_,h3⟩:=fU h;rw[Xt,Xt,gk h3]
theorem gb:∀{xs},(∀x∈xs,notStar x=Λ)->(Zm pos (XO xs env)).any (·.1)=Ξ
 |[],_=>rfl|x::xs,h=>by rw[bD (h x Xh)];show(Ξ||(Zm pos (XO xs env)).any (·.1))=Ξ;rw[gb λy hy=>h y (Xb _ hy)];rfl
theorem Q3(h:PA X xs (tA (af X kt) Z (aD C b9))):PE X (.Tuple xs k pos) (tE (af X kt) Z (aa C (.tup b9))):=by
 refine PE.imp (L7 h) ?_;rintro σ H Q ⟨m,ρ,st,ar,as,h⟩;rw[jr] at h;refine⟨m,ρ,st,ar,as,(Ok.bind h).mono λps st1 m1 H1 bQ aZ h1 vs iE=>?_⟩;split at h1;·rename_i hc;obtain⟨xs,e,h2,_⟩:=Ok.of (Ok.bind h1) aZ;exact⟨by rw[iE.length,<-dv];exact hc,λp hp=>rZ (α:=Unit) aZ (iE.aY e) hp h2⟩
 ·exact h1.elim
theorem Le.grow{K:KB}{m m':List Addr}{H H':Hp}{a:Addr}(le:Le K m H m' H')(ha:H a=Θ):Le K m H (m'++[a]) H' where
 pre:=by obtain⟨t,e⟩:=le.pre;exact⟨t++[a],by rw[e,X7]⟩
 tup:=le.tup
 keep:=le.keep
 new:=λb hb=>by
  rcases Zq.mp hb with z|z;·exact le.new b z
  ·have:b=a:=by simpa using z
   rw[this];exact .inr ha
 qR:=le.qR
 CQ:=le.CQ
 dA:=le.dA
 ext:=le.ext
 fG:=le.fG
theorem xV(h:tE (af X kt) Z (aa C (.lst mu l)) σ H Q):tL (af X kt) Z (bc C l) σ H Q:=by obtain⟨m,ρ,st,ar,as,h⟩:=h;rw[Ec] at h;refine⟨m,ρ,st,ar,as,?_⟩;cases hr:bc C l ρ st with|ex x s=>rw[hr] at h;exact h|no=>rw[hr] at h;exact h|ok ps st1=>rw[hr] at h;simp only[ae] at h;intro m' H' a vs le ha hm hH b9 rs;have hz:a∉Z:=(as.fresh ha).2;cases mu with|true=>refine h (m'++[a]) H' (le.grow ha) (b9.adopt hz hH rs) (.ref a) ⟨a,?_,rfl⟩;rw[Xy (by rw[b9.len];exact Xj _),b9.len];simp|false=>have dX:=b9.vE (Z:=Z) λb hb=>Xb _ hb;obtain⟨xs,e,h2,_⟩:=Ok.of (Ok.bind (Ok.le (show Ok (af X kt) Z ((R.of (aY ps) st1).bind λxs st2=>R.ok (P.d (.pl xs)) st2) m H _ from h) le)) dX;exact Ok.here h2 dX (.ref a) ⟨a,vs,rfl,.inl hH,hm,hz,(rs.vE λb hb=>Xb _ hb).aY e⟩
theorem Q4(h:PE X e (tL (af X kt) Z (bc C l))):PE X e (tE (af X kt) Z (aa C (.lst mu l))):=PE.imp h λσ H Q q=>xV q
theorem Le.C2{K:KB}(le:Le K m H m' H')(ha:H' a=Θ):H a=Θ:=by cases q:H a with|none=>rfl|some o=>exact absurd ha (le.qR a (by rw[q];exact λz=>nomatch z))
theorem um{K:KB}(bQ:Le K m H m1 H1)(aZ:aA K H1 m1 Z st1)(iE:ai K H1 m1 Z ps vs)(ha:H1 a=Θ)(h:LQ K Z (R.ok ps st1) m H Q):Q (.ref a) (upd H1 a (.lst vs)):=
 h m1 (upd H1 a (.lst vs)) a vs (bQ.trans (Le.same (ba ha _))) (bQ.C2 ha) (aZ.fresh ha).1 aC (aZ.laid ha _) ((iE.kO ha).le (Le.same (ba ha _)))
theorem Nc(h:PA X xs (tA (af X kt) Z (aD C b9))):PE X (.List xs pos) (tL (af X kt) Z (bc C (.dZ b9))):=by
 refine PE.imp (L8 h) ?_;rintro σ H Q ⟨m,ρ,st,ar,as,h⟩;refine⟨m,ρ,st,ar,as,?_⟩;rw[fS] at h;cases hr:aD C b9 ρ st with
 |ex x s=>rw[hr] at h;exact h|no=>rw[hr] at h;exact h|ok ps st1=>
  rw[hr] at h;simp only[ae] at h;split at h;·rename_i hc;intro m1 H1 bQ aZ vs iE;exact⟨by rw[iE.length,<-dv];exact hc,λa ha=>um bQ aZ iE ha h⟩
  ·exact h.elim
theorem aO.keys{K:KB}:∀{kvs} {us},aO K H m Z kvs us->ai K H m Z (kvs.map λkv=>xM kv.1) (us.map λkv=>kV kv.1)
 |[],us,h=>by cases (show us=[] from h);exact rfl|(k,p)::kvs,us,h=>by obtain⟨v,vs,rfl,r,rs⟩:=(show ∃v vs,us=(k,v)::vs/\ak K H m Z p v/\aO K H m Z kvs vs from h);refine⟨kV k,_,rfl,?_,aO.keys rs⟩;cases k<;>rfl
theorem C3{K:KB}{st:aI}(as:aA K H m Z st)(h:tu st p=Δ q)(r:ak K H m Z p v):∃a us,p=.obj q.1/\st[q.1]?=Δ (.dK q.2)/\m[q.1]?=Δ a/\v=.ref a/\H a=Δ (.dK us)/\aO K H m Z q.2 us:=by
 unfold tu at h;split at h
 ·rename_i n;split at h;·rename_i kvs hk;cases h;obtain⟨a,ha,rfl⟩:=(show ∃a,m[n]?=Δ a/\v=.ref a from r);obtain⟨a',Th,us,hu,rs⟩:=as.at_ n _ hk;rw[ha] at Th;cases Th;exact⟨a,us,rfl,hk,ha,rfl,hu,rs⟩
  ·cases h
 ·cases h
theorem Nd(T:Good X kt g C)(hg:g.gl "list"=Λ)(ha:PE X x (tE (af X kt) Z (aa C a)))(hs:notStar x=Λ):PE X (.Call (.Name "list" p) [x] [] pos) (tL (af X kt) Z (bc C (.keys a))):=by refine PE.imp (lC (vz T.calm) (T.glob hg) (T.bl _ (by decide+kernel)) boot_list (kR ha uk hs) (by decide+kernel) (by decide+kernel) (bD hs) rfl) ?_;rintro σ H Q ⟨m,ρ,st,ar,as,h⟩;refine⟨m,ρ,st,ar,as,?_⟩;rw[tI] at h;show Ok (af X kt) Z (aD C [a] ρ st) m H _;simp only[aj,ay];cases hr:aa C a ρ st with|ex x s=>rw[hr] at h;exact h|no=>rw[hr] at h;exact h|ok y st1=>rw[hr] at h;simp only[ae] at h ⊢;intro m1 H1 bQ aZ vs iE;obtain⟨v,uo,rfl,rv,e⟩:=(show ∃v uo,vs=v::uo/\ak (af X kt) H1 m1 Z y v/\uo=[] from iE);subst e;cases hi:tu st1 y with|none=>rw[hi] at h;exact(show False from h).elim|some q=>rw[hi] at h;obtain⟨b,us,rfl,hk,hm,rfl,hu,rs⟩:=C3 aZ hi rv;exact⟨b,us,rfl,hu,λl hl=>um bQ aZ rs.keys hl h⟩
theorem Jq(T:Good X kt g C)(A6:g.cv=Λ)(h1:g.N[i]?=Δ x)(h2:g.xN x=Λ)(hp:aU x=Λ)(hs:∀z∈y::ys,notStar z=Λ)(h:PA X (y::ys) (tA (af X kt) Z (aD C b9))):
  PE X (.Call (.Name x p) (y::ys) [] pos) (tE (af X kt) Z (aa C (.nP i b9))):=by
 refine PE.imp (Ge (i:=i) (by rw[T.N];exact h1) (T.xN h2) h (pn hp).1 (pn hp).2.1 (bD (hs y Xh)) (gb λz hz=>hs z (Xb _ hz))) ?_;rintro σ H Q ⟨m,ρ,st,ar,as,h⟩;rw[zG] at h;obtain⟨q,e,h',_⟩:=Ok.of (Ok.bind h) as;have e':ρ[i]?=Δ (Δ q):=by unfold kl at e;cases z:ρ[i]? with|none=>rw[z] at e;cases e|some o=>rw[z] at e;simp at e;rw[e]
 obtain⟨v,ev,rv⟩:=ar.at_ i q e';cases q with|fn k bu=>rw[ak] at rv;obtain⟨a,c,bW,rfl,hc,VP,rc⟩:=rv;obtain⟨n,fd,ps,F,hr,hb⟩:=(T.qE A6 k a c bW hc).ex;refine⟨a,ev,(T.qE A6 k a c bW hc).ob,m,ρ,st,ar,as,(Ok.bind h').wG λqs st1 m1 H1 hq bQ aZ h1 vs iE=>⟨n,fd,ps,_,F,hr,hb,?_⟩⟩;exact⟨bQ.ext _ _ VP,m1,Z,qs,bu,st1,iE,rc.le bQ,aZ,h1⟩|d x=>exact(Ok.nN (λ_ _=>rfl) h').elim|obj x=>exact(Ok.nN (λ_ _=>rfl) h').elim|fR x=>exact(Ok.nN (λ_ _=>rfl) h').elim|lf x=>exact(Ok.nN (λ_ _=>rfl) h').elim
theorem aO.look{K:KB}{m:List Addr}{f:Str}:∀{fs:List (Str×P)} {us:List (Str×V)},aO K H m Z fs us->(∀p,fs.lookup f=Δ p->∃v,us.lookup f=Δ v/\ak K H m Z p v)/\(fs.lookup f=Θ->us.lookup f=Θ)
 |[],us,h=>by cases (show us=[] from h);exact⟨(λp z=>nomatch z),λ_=>rfl⟩|(k,p)::fs,us,h=>by obtain⟨v,vs,rfl,r,rs⟩:=(show ∃v vs,us=(k,v)::vs/\ak K H m Z p v/\aO K H m Z fs vs from h);obtain⟨i1,i2⟩:=aO.look (f:=f) rs;rw[XH,XH];cases hb:f==k with|true=>exact⟨λq z=>by cases z;exact⟨v,rfl,r⟩,λz=>nomatch z⟩|false=>exact⟨i1,i2⟩
theorem B0{K:KB}{st:aI}(as:aA K H m Z st)(r:ak K H m Z p v)(h:ph c st p=Δ (n,fs)):
  ∃a A dx us,p=.obj n/\m[n]?=Δ a/\v=.ref a/\st[n]?=Δ (.ins c fs)/\XB K.K Xu c=Δ (Δ (.ref A))/\H a=Δ (.ins A dx us)/\H dx=Δ (.own a)/\aO K H m Z fs us:=by
 unfold ph at h;split at h
 ·rename_i n';split at h
  ·rename_i c' fs' hs;split at h;·rename_i hc;cases h;subst hc;rw[ak] at r;obtain⟨a,e,rfl⟩:=r;obtain⟨a',e',ao⟩:=as.at_ n _ hs;rw[e] at e';cases e';obtain⟨A,dx,us,g1,g2,g3,g4⟩:=ao;exact⟨a,A,dx,us,rfl,e,rfl,hs,g1,g2,g3,g4⟩
   ·cases h
  ·cases h
 ·cases h
theorem Nf(T:Good X kt g C)(hf:g.yK c f=Λ)(h1:g.N[i]?=Δ x)(h2:g.xN x=Λ)(h3:aU x=Λ):PE X (.Attribute (.Name x p) f pos) (tE (af X kt) Z (aa C (.attr c f i))):=by refine PE.imp (LZ (zR (Z:=Z) (kt:=kt) T h1 h2 h3) rfl) ?_;rintro σ H Q ⟨m,ρ,st,ar,as,h⟩;rw[BR] at h;refine⟨m,ρ,st,ar,as,?_⟩;rw[lE];refine(Ok.bind h).mono λq st1 m1 H1 bQ aZ h1 v rv=>?_;obtain⟨q2,e,h2,_⟩:=Ok.of h1 aZ;obtain⟨⟨n,fs⟩,e1,e2⟩:=cb e;obtain⟨a,A,dx,us,rfl,hm,rfl,hs,g1,g2,g3,g4⟩:=B0 aZ rv e1;obtain⟨A',k1,k2,k3⟩:=T.fld c f hf;rw[show XB X.K Xu c=Δ (Δ (.ref A)) from g1] at k1;cases k1;obtain⟨w,hw,mE⟩:=(aO.look (f:=f) g4).1 q2 e2;exact⟨a,A,dx,us,w,rfl,g2,k2,k3,hw,h2 w mE⟩
theorem s_call(T:Good X kt g C)(hf:g.fns[f]?=Δ (x,b9.length))(hg:g.gl x=Λ)(hp:aU x=Λ)(hs:∀x∈xs,notStar x=Λ)(hl:xs.length=b9.length)(h:PA X xs (tA (af X kt) Z (aD C b9))):
  PE X (.Call (.Name x p) xs [] pos) (tE (af X kt) Z (aa C (.call f b9))):=by
 obtain⟨k,fa,fd,ps,F,hr,hm,hk,hb⟩:=(T.fn f x b9.length hf).ex;have red:∀σ H Q,tE (af X kt) Z (aa C (.call f b9)) σ H Q->Ft (BY (af X kt) (C f) b9.length) [] E0 (tA (af X kt) Z (aD C b9)) σ H Q:=by rintro σ H Q ⟨m,ρ,st,ar,as,h⟩;rw[eX] at h;refine⟨m,ρ,st,ar,as,(Ok.bind h).wG λqs st1 m1 H1 hq bQ aZ h1 vs iE=>?_⟩;show BY (af X kt) (C f) b9.length (vs++[]) H1 Q E0;rw[Yf];exact⟨m1,Z,qs,st1,by rw[iE.length,fT hq],iE,aZ,h1⟩
 cases xs with
 |nil=>
  have e:b9=[]:=by cases b9 with|nil=>rfl|cons a b=>simp at hl
  subst e;refine PE.imp (Fu F hr (T.glob hg) hm hk hb .nil zg (pn hp).1) λσ H Q h=>?_;obtain⟨m,ρ,st,ar,as,h1⟩:=red σ H Q h;rw[ay] at h1;exact Ok.here h1 as [] rfl
 |cons y ys=>exact PE.imp (Io F hr (T.glob hg) hm hk hb .nil zg h (pn hp).1 (bD (hs y Xh)) (gb λz hz=>hs z (Xb _ hz))) red
theorem B1{E:Value->Xv->Prop}(I:Inv X η σ H s)(q:fH X.K H a xs)(e:acp X.K (.type "tuple") c=Δ b)(h:∀tk,Q (.bool b) {s with toks:=tk}):wpAny (model X.prog X.w) A (call (.builtin "isinstance") [.ref a,c]) Q E s:=by obtain⟨_,_,p,_⟩:=I.tuple q;obtain⟨o,h1,h2,_⟩:=p;exact YA PySem.W.kitx_tuple I.nj ⟨o,h1,h2⟩ e (λz=>nomatch z) h
theorem GN:hW X (.builtin "isinstance") (λxs H Q=>∃x T,xs=[x,.ty T]/\T∈lI/\((∃t,L2.Qi H x=Δ t/\Q (.bl (L2.fh t T)) H)\/(∃a ys,x=.ref a/\fH X.K H a ys/\Q (.bl (L2.fh "tuple" T)) H)\/(∃a ys,x=.ref a/\Rd H a (.lst ys)/\Q (.bl (L2.fh "list" T)) H))):=by
 intro η s σ H xs us Q I r h;obtain⟨x,T,rfl,hT,h⟩:=h;obtain⟨u,w',rfl,rx,ry⟩:=vals2 r;cases (show w'=aac T from ry);have Ti:T="int"\/T="bool"\/T="tuple"\/T="str"\/T="list":=by simpa[lI] using hT
 rcases h with ⟨t,ht,q⟩|⟨a,ys,rfl,hq,q⟩|⟨a,ys,rfl,hq,q⟩
 ·exact oX I rx (IQ ht) (rT X.K (Ms ht) Ti) λtk=>⟨.bl (L2.fh t T),H,I.tok _,rfl,q⟩
 ·cases rx;exact B1 I hq (rT X.K (by simp) Ti) λtk=>⟨.bl (L2.fh "tuple" T),H,I.tok _,rfl,q⟩
 ·rcases hq with hq|⟨o,hq⟩;·exact oX I rx (mC.lst hq) (rT X.K (by simp) Ti) λtk=>⟨.bl (L2.fh "list" T),H,I.tok _,rfl,q⟩
  ·exact oX I rx (mC.dA hq) (rT X.K (by simp) Ti) λtk=>⟨.bl (L2.fh "list" T),H,I.tok _,rfl,q⟩
theorem Jr(h:T∈lI):aaw (Yh T)=Δ (.type T)/\Yh T∈ui/\Yh T≠"__name__"/\(Yh T==("__debug__":Str))=Ξ:=by
 have h':T="int"\/T="bool"\/T="tuple"\/T="str"\/T="list":=by simpa[lI] using h
 rcases h' with rfl|rfl|rfl|rfl|rfl;·exact⟨boot_int,by decide+kernel,by decide+kernel,by decide+kernel⟩
 ·exact⟨boot_bool,by decide+kernel,by decide+kernel,by decide+kernel⟩
 ·exact⟨boot_tuple,by decide+kernel,by decide+kernel,by decide+kernel⟩
 ·exact⟨boot_str,by decide+kernel,by decide+kernel,by decide+kernel⟩
 ·exact⟨boot_list,by decide+kernel,by decide+kernel,by decide+kernel⟩
theorem Q5(T:Good X kt g C)(hg:g.gl "isinstance"=Λ)(ht:t∈lI)(Js:g.gl (Yh t)=Λ)(ha:PE X x (tE (af X kt) Z (aa C a)))(hs:notStar x=Λ):
  PE X (.Call (.Name "isinstance" p) [x,.Name (Yh t) q] [] pos) (tE (af X kt) Z (aa C (.Gq a t))):=by
 obtain⟨b1,b2,b3,b4⟩:=Jr ht;refine PE.imp (sM GN (T.glob hg) (T.bl _ (by decide+kernel)) boot_isinstance (rQ ha (rQ (Ic (v:=.ty t) (T.glob Js) (T.bl _ b2) b1 rfl b3 b4) Bp) (bD hs)) (by decide+kernel) (by decide+kernel) (bD hs) rfl) ?_;rintro σ H Q ⟨m,ρ,st,ar,as,h⟩;rw[Ed] at h;refine⟨m,ρ,st,ar,as,(Ok.bind h).mono λy st1 m1 H1 bQ aZ h1 v rv=>?_⟩;obtain⟨k,e,h2,_⟩:=Ok.of (Ok.bind h1) aZ;have q:=Ok.here h2 aZ (.bl (fh k t)) rfl;have eqt:Y.fh k t=L2.fh k t:=rfl;refine⟨v,t,rfl,ht,?_⟩;cases y with
 |d x=>cases x with|bz=>cases (show v=.bz from rv);cases e;exact .inl ⟨_,rfl,q⟩|bl b=>cases (show v=.bl b from rv);cases e;exact .inl ⟨_,rfl,q⟩|int b=>cases (show v=.int b from rv);cases e;exact .inl ⟨_,rfl,q⟩|str b=>cases (show v=.str b from rv);cases e;exact .inl ⟨_,rfl,q⟩|tup xs=>obtain⟨b,us,rfl,hq,_⟩:=rv;cases e;exact .inr (.inl ⟨b,us,rfl,fH.of hq,q⟩)|pl xs=>obtain⟨b,us,rfl,hq,_⟩:=rv;cases e;exact .inr (.inr ⟨b,us,rfl,hq,q⟩)
 |obj n=>
  have e':(match st1[n]? with|some (.lst _)=>Δ "list"|_=>Θ)=Δ k:=e;split at e';·rename_i xs hx;cases e';obtain⟨b,us,rfl,hq,_⟩:=cI aZ (show bj st1 (.obj n)=Δ xs by show(match st1[n]? with|some (.lst xs)=>Δ xs|_=>Θ)=Δ xs;rw[hx]) rv;exact .inr (.inr ⟨b,us,rfl,hq,q⟩)
  ·cases e'
 |fR n=>cases e|fn k c=>cases e|lf k=>cases e
end
section
variable{X:Cx}{g:G}{C:Nat->List P->aI->R P}{Z:List Addr}{e:Expr}{es:List Expr}
theorem GO(h:xP y=Ξ):CC y:=by
 intro o i;cases y<;>first
  |rfl
  |exact absurd (show Λ=Ξ from h) Yc.symm
def VQ:R2:=λx y H Q=>∃a v,x=.ref a/\nH H a y (Δ v)/\Q v H
theorem B2(hu:X.A.units+100 < cLine):KN X VQ:=by intro value slice η s σ H x y v u Q I rx ry h hs;obtain⟨a,w',rfl,g,q⟩:=h;cases rx;obtain⟨ob,h1,h2⟩:=yZ I g a rfl;refine nI (yY I g) ?_ hs;exact DK (by lia) I g ry λw2 s3 I3 mE=>⟨w',H,I3,mE,q⟩
theorem VR(hu:X.A.units+100 < cLine)(ha:PE X a (tE (af X kt) Z (aa C ea)))(hb:PE X b (tE (af X kt) Z (aa C eb)))(hs:xP b=Ξ):PE X (.Subscript a b pos) (tE (af X kt) Z (aa C (.ix ea eb))):=by
 refine PE.imp (PX ((IC.or Mf).or (B2 hu)) ha hb (GO hs)) λσ H Q h=>CV (f:=λa b=>abg a b) (λx y v u m H st Q as rx ry h=>?_) h;obtain⟨p,e,q,_⟩:=Ok.of h as;unfold A7 at e;split at e;·rename_i o ho;obtain⟨res,e1,e2⟩:=cb e;cases (show res=Δ p from e2);obtain⟨n,a,rfl,hs,hm,rfl,ao,_⟩:=uj as ho rx;obtain⟨ov,hg,h1,h2⟩:=CY ao ry e1;obtain⟨w',rfl,mE⟩:=h2 p rfl;exact .inr ⟨a,w',rfl,hg,q w' mE⟩
 left;unfold VF at e;split at e
 ·rename_i i;cases (show u=.int i from ry);obtain⟨ps,e1,e2⟩:=cb e;obtain⟨a,us,rfl,hq,rs⟩:=lL as e1 rx;obtain⟨j,e3,e4⟩:=cb (show(Y.Bs ps.length i).bind (λj=>ps[j]?)=Δ p from e2);obtain⟨w',e5,mE⟩:=rs.get e4;have e6:L2.nA us i=Δ w':=by show(L2.Bs us.length i).bind (λj=>us[j]?)=Δ w';rw[rs.length];have:L2.Bs ps.length i=Δ j:=e3;rw[this];exact e5
  rcases hq with hq|hq;·exact .inl ⟨a,us,i,w',rfl,rfl,hq,e6,q w' mE⟩
  ·exact .inr ⟨a,us,i,w',rfl,rfl,fH.of hq,e6,q w' mE⟩
 ·cases e
inductive tO (K:KB) (Z:List Addr) (d:bX->aI->R (Option P)) (σ:L2.St) (H:Hp) (Q:Option Int->Hp->Prop):Prop
 |mk (m:List Addr) (r:bX) (st:aI) (a:cu K H m Z r σ) (b:aA K H m Z st) (c:Ok K Z (d r st) m H (λo _ _ H'=>∃l,zD o=Δ l/\Q l H')):tO K Z d σ H Q
theorem PO.imp(h:PO X x t)(i:∀σ H Q,t' σ H Q->t σ H Q):PO X x t':=λη s σ H Q I q=>h η s σ H Q I (i σ H Q q)
theorem Jt:PO X Θ (tO (af X kt) Z (ic C Θ)):=by refine PO.imp Iy ?_;rintro σ H Q ⟨m,ρ,st,ar,as,h⟩;rw[mL] at h;obtain⟨l,e,q⟩:=Ok.here h as;cases e;exact q
theorem Ju(ha:PE X x (tE (af X kt) Z (aa C a))):PO X (Δ x) (tO (af X kt) Z (ic C (Δ a))):=by refine PO.imp (Iz ha) ?_;rintro σ H Q ⟨m,ρ,st,ar,as,h⟩;rw[tH] at h;refine⟨m,ρ,st,ar,as,(Ok.bind h).mono λp st1 m1 H1 bQ aZ h1 v rv=>?_⟩;obtain⟨l,e,q⟩:=Ok.here h1 aZ;cases p with|obj n=>cases e|fR n=>cases e|fn k c=>cases e|lf k=>cases e|d y=>cases y with|int i=>cases e;cases (show v=.int i from rv);exact⟨i,rfl,q⟩|_=>cases e
theorem aw.cut{K:KB}(h:aw K H m Z xs us)lo hi:aw K H m Z (tq xs lo hi) (oY us lo hi):=by
 have r:=h.map;have hl:=h.length;unfold tq oY;rw[hl];have e:∀(n d:Nat) (o:Option Int),Y.cR n d o=HT.cR n d o:=λn d o=>by cases o<;>rfl
 rw[e,e];have q:=(r.drop (HT.cR xs.length 0 lo)).take (HT.cR xs.length xs.length hi - HT.cR xs.length 0 lo);rw[<-acB,<-acA] at q;refine ai.aY q ?_;generalize ((xs.drop (HT.cR xs.length 0 lo)).take (HT.cR xs.length xs.length hi - HT.cR xs.length 0 lo))=ys;induction ys with|nil=>rfl|cons y ys ih=>show((aY (ys.map P.d)).map λxs=>y::xs)=_;rw[ih];rfl
theorem ai.cut{K:KB}(r:ai K H m Z xs us)lo hi:ai K H m Z (tq xs lo hi) (oY us lo hi):=by
 have hl:=r.length;unfold tq oY;rw[hl];have e:∀(n d:Nat) (o:Option Int),Y.cR n d o=HT.cR n d o:=λn d o=>by cases o<;>rfl
 rw[e,e];exact(r.drop (HT.cR xs.length 0 lo)).take (HT.cR xs.length xs.length hi - HT.cR xs.length 0 lo)
theorem Jv{lo hi:Option Expr}{p2 pos:Pos}(ha:PE X x (tE (af X kt) Z (aa C a)))(hl:PO X lo (tO (af X kt) Z (ic C l)))(hh:PO X hi (tO (af X kt) Z (ic C h))):
  PE X (.Subscript x (.Slice lo hi Θ p2) pos) (tE (af X kt) Z (aa C (.slice a l h))):=by
 refine PE.imp (Fz (IT.or ID) ha hl hh) ?_;rintro σ H Q ⟨m,ρ,st,ar,as,h0⟩;rw[qB] at h0;refine⟨m,ρ,st,ar,as,(Ok.bind h0).mono λy st1 m1 H1 bQ aZ h1 v rv=>?_⟩;refine⟨m1,ρ,st1,ar.le bQ,aZ,(Ok.bind h1).mono λol st2 m2 H2 dY dX h2=>?_⟩;cases hr:ic C h ρ st2 with
 |ex x s=>rw[hr] at h2;exact(show False from h2).elim|no=>rw[hr] at h2;exact(show False from h2).elim|ok oh st3=>
  rw[hr] at h2;simp only[ae] at h2;cases hs:mJ y ol oh st3 with
  |none=>rw[hs] at h2;exact(show False from h2).elim|some q=>
   have hs0:=hs;unfold mJ at hs;obtain⟨il,e1,hs⟩:=cb hs;obtain⟨ih,e2,hs⟩:=cb hs;refine⟨il,e1,m2,ρ,st2,(ar.le bQ).le dY,dX,?_⟩;rw[hr];intro m3 H3 pR qJ;refine⟨ih,e2,?_⟩;rw[hs0] at h2;have rv3:=(rv.le dY).le pR;have fin:∀xs,bj st3 y=Δ xs->(aY (tq xs il ih)).map (λys=>P.d (.pl ys))=Δ q->(Qj v il ih H3 Q\/PZ X.K v il ih H3 Q):=λxs hx hz=>by obtain⟨ys,hy,rfl⟩:=gj hz;obtain⟨b,us,rfl,hq,rs⟩:=cI qJ hx rv3;refine .inr ⟨b,us,rfl,.inl hq,λp hp=>?_⟩;exact GG qJ ((rs.cut il ih).aY hy) hp (Ok.le h2 pR)
   split at hs;·rename_i xs;cases hs;obtain⟨b,us,rfl,hq,rs⟩:=rv3;refine .inl ⟨b,us,rfl,hq,λr H' sm hr=>?_⟩;have le:Le (af X kt) m3 H3 m3 H':=Le.same sm;exact h2 m3 H' (pR.trans le) (qJ.same sm) (.ref r) ⟨r,_,rfl,hr,(rs.cut il ih).le le⟩
   ·obtain⟨xs,e3,hs⟩:=cb hs;exact fin xs e3 hs
theorem xW{K:KB}(h:ai K H m Z [p] vs):∃v,vs=[v]/\ak K H m Z p v:=by obtain⟨v,uo,rfl,rv,e⟩:=(show ∃v uo,vs=v::uo/\ak K H m Z p v/\uo=[] from h);subst e;exact⟨v,rfl,rv⟩
theorem Ng{K:KB}(h:ai K H m Z [p,q] vs):∃v u,vs=[v,u]/\ak K H m Z p v/\ak K H m Z q u:=by obtain⟨v,uo,rfl,rv,h'⟩:=(show ∃v uo,vs=v::uo/\ak K H m Z p v/\ai K H m Z [q] uo from h);obtain⟨u,rfl,ru⟩:=xW h';exact⟨v,u,rfl,rv,ru⟩
def VS(K:Xm):Bf->List V->Hp->VK->Prop
 |.any=>λxs H Q=>∃(p:Addr) (bs:List Bool),xs=[.ref p]/\lT K H p (bs.map V.bl)/\Q (.bl (bs.any id)) H|.len=>λxs H Q=>(∃p n,xs=[.ref p]/\Qm H p n/\Q (.int n) H)\/(∃p ys,xs=[.ref p]/\(lT K H p ys\/fH K H p ys)/\Q (.int ys.length) H)\/(∃z,xs=[.str z]/\z.length<=XE/\Q (.int z.length) H)|.tuple=>λxs H Q=>∃p ys,xs=[.ref p]/\((lT K H p ys/\∀l,H l=Θ->Q (.ref l) (upd H l (.tup ys)))\/(fH K H p ys/\Q (.ref p) H))
def Q6:Bf->Value
 |.len=>.builtin "len"|.any=>.builtin "any"|.tuple=>.type "tuple"
theorem zV(h:hW X f r)(h':hW X f r'):hW X f (λxs H Q=>r xs H Q\/r' xs H Q):=by
 intro η s σ H xs us Q I rv q;rcases q with q|q;·exact h η s σ H xs us Q I rv q
 ·exact h' η s σ H xs us Q I rv q
theorem Jw(hc:X.calm=Λ):∀f,hW X (Q6 f) (VS X.K f)
 |.len=>zV xA (zV xu xw)|.any=>DT hc|.tuple=>vi
theorem zW{K:KB}:∀{ps} {bs} {us},ai K H m Z ps us->boolsOf ps=Δ bs->us=bs.map V.bl
 |[],bs,us,h,e=>by cases e;exact h|p::ps,bs,us,h,e=>by
  obtain⟨v,vs,rfl,r,rs⟩:=(show ∃v vs,us=v::vs/\ak K H m Z p v/\ai K H m Z ps vs from h);unfold boolsOf at e;split at e;·rename_i e0;cases e0
  ·rename_i b r' e0;cases e0;obtain⟨cs,e1,rfl⟩:=gj e;cases (show v=.bl b from r);rw[zW rs e1];rfl
  ·cases e
theorem Q7{K:KB}{st:aI}(as:aA K H m Z st)(rx:ai K H m Z ps vs)(h:Ok K Z (R.of (oQ f ps st) st) m H (λp _ m' H'=>∀v,ak K H' m' Z p v->Q v H')):VS K.K f vs H Q:=by
 obtain⟨p,e,q,qq⟩:=Ok.of h as;unfold oQ at e;split at e
 ·rename_i p0;obtain⟨v,rfl,rv⟩:=xW rx;split at e
  ·rename_i x;cases (show v=.str x from rv);split at e;·rename_i hc;cases e;exact .inr (.inr ⟨x,rfl,by rw[<-dv];exact hc,q _ rfl⟩)
   ·cases e
  ·split at e
   ·rename_i o ho;cases e;obtain⟨n,a,rfl,hs,hm,rfl,ao,hd⟩:=uj as ho rv;refine .inl ⟨a,Gu o,rfl,?_,q _ rfl⟩;cases o with
    |lst xs=>cases hd|ins c fs=>cases hd|vA=>cases hd|dK kvs=>obtain⟨us,hu,rs⟩:=ao;exact .inl ⟨us,.inl hu,rs.length⟩
    |dT kvs=>obtain⟨us,hu,rs⟩:=ao;exact .inr ⟨us,.inl hu,rs.length⟩
   ·obtain⟨xs,e1,rfl⟩:=gj e;obtain⟨a,us,rfl,hq,rs⟩:=lL as e1 rv;refine .inr (.inl ⟨a,us,rfl,Lg hq,?_⟩);rw[rs.length];exact q _ rfl
 ·obtain⟨v,rfl,rv⟩:=xW rx;obtain⟨xs,e1,e⟩:=cb e;obtain⟨bs,e2,rfl⟩:=gj e;obtain⟨a,us,rfl,hq,rs⟩:=cI as e1 rv;have:=zW rs e2;subst this;exact⟨a,bs,rfl,.inl hq,q _ rfl⟩
 ·obtain⟨v,rfl,rv⟩:=xW rx;obtain⟨xs,e1,e⟩:=cb e;obtain⟨ys,e2,rfl⟩:=gj e;obtain⟨a,us,rfl,hq,rs⟩:=lL as e1 rv;have rr:=rs.aY e2;rcases hq with hq|hq;·exact⟨a,us,rfl,.inl ⟨hq,λl hl=>rZ (α:=Unit) as rr hl qq⟩⟩
  ·exact⟨a,us,rfl,.inr ⟨fH.of hq,q (.ref a) ⟨a,us,rfl,hq,rr⟩⟩⟩
 ·cases e
theorem VT(T:Good X kt g C)(hg:g.gl (xO f)=Λ)(hs:∀y∈x::xs,notStar y=Λ)(h:PA X (x::xs) (tA (af X kt) Z (aD C b9))):
  PE X (.Call (.Name (xO f) p) (x::xs) [] pos) (tE (af X kt) Z (aa C (.bf f b9))):=by
 have red:∀σ H Q,tE (af X kt) Z (aa C (.bf f b9)) σ H Q->UC (VS X.K f) (tA (af X kt) Z (aD C b9)) σ H Q:=by rintro σ H Q ⟨m,ρ,st,ar,as,h⟩;rw[bH] at h;exact⟨m,ρ,st,ar,as,(Ok.bind h).mono λqs st1 m1 H1 bQ aZ h1 vs iE=>Q7 aZ iE h1⟩
 have s1:=bD (env:=X.env) (es:=xs) (hs x Xh);have s2:(Zm pos (XO xs X.env)).any (·.1)=Ξ:=gb λz hz=>hs z (Xb _ hz);have hc:=Jw (X:=X) T.calm f;cases f with|len=>exact PE.imp (sM (id:="len") hc (T.glob hg) (T.bl _ (by decide+kernel)) PySem.boot_len h (by decide+kernel) (by decide+kernel) s1 s2) red|any=>exact PE.imp (sM (id:="any") hc (T.glob hg) (T.bl _ (by decide+kernel)) boot_any h (by decide+kernel) (by decide+kernel) s1 s2) red|tuple=>exact PE.imp (lC (T:="tuple") hc (T.glob hg) (T.bl _ (by decide+kernel)) boot_tuple h (by decide+kernel) (by decide+kernel) s1 s2) red
theorem Nh:PE X (.Dict [] [] pos) (tE (af X kt) Z (aa C (.pd t))):=by
 have red:∀(ho:HO) (ob:O),(∀H m Z a,H a=Δ ho->qZ (af X kt) H m Z a ob)->∀(σ:L2.St) (H:Hp) (Q:VK) m ρ st,cu (af X kt) H m Z ρ σ->aA (af X kt) H m Z st->
   Ok (af X kt) Z (R.ok (P.obj st.length) (st++[ob])) m H (λp _ m' H'=>∀v,ak (af X kt) H' m' Z p v->Q v H')->∀p,H p=Θ->Q (.ref p) (upd H p ho):=by
  intro ho ob Ni σ H Q m ρ st ar as h p hp;have hz:p∉Z:=(as.fresh hp).2;refine h (m++[p]) (upd H p ho) ((Le.same (ba hp _)).grow hp) ((as.laid hp ho (λφ z=>(Ni (upd H p ho) m Z p aC).qR.2.2.2.1 φ (by rw[aC,z]))).t8 hz (Ni _ _ _ _ aC)) (.ref p) ⟨p,?_,rfl⟩;rw[Xy (by rw[as.len];exact Xj _),as.len];simp
 cases t with
 |false=>refine PE.imp FE ?_;rintro σ H Q ⟨m,ρ,st,ar,as,h⟩;rw[ie] at h;exact red (.dK []) (.dK []) (λH m Z a e=>⟨[],e,rfl⟩) σ H Q m ρ st ar as h
 |true=>refine PE.imp FF ?_;rintro σ H Q ⟨m,ρ,st,ar,as,h⟩;rw[ie] at h;exact red (.dT []) (.dT []) (λH m Z a e=>⟨[],e,rfl⟩) σ H Q m ρ st ar as h
theorem PE.or(h1:PE X e t1)(h2:PE X e t2):PE X e (λσ H Q=>t1 σ H Q\/t2 σ H Q):=λη s σ H Q I h=>h.elim (h1 η s σ H Q I) (h2 η s σ H Q I)
theorem Nj(T:Good X kt g C)(hk:CT g k kx=Λ)(hv:zQ x vx=Λ):PE X (.Dict [Δ kx] [vx] pos) (tE (af X kt) Z (aa C (.D7 k x))):=by
 obtain⟨v,pv,rv⟩:=GF (X:=X) hv;obtain⟨tk,pk,rk⟩:=Jh (Z:=Z) T hk;refine PE.imp (PE.or (IH (ze pk pv CD) rfl rfl (by simp) (by simp)) (Gp (by have:=T.hu;lia) pk pv)) ?_;rintro σ H Q ⟨m,ρ,st,ar,as,h⟩;rw[tD] at h;rcases rk (st:=st) ar with e|⟨y,u,e,ru,q⟩;·rw[e] at h;exact h.elim
 rw[e,ae] at h;obtain⟨o,eo,h2,de⟩:=Ok.of (Ok.bind h) as;clear de;unfold Jc at eo;cases QL:keyOf y with
 |some kk=>rw[QL] at eo;cases eo;cases ru.key QL;refine .inl λp hp=>q _ _ ⟨aC,[(kk,v)],rfl,by simp,?_⟩;rw[Cp];have hz:p∉Z:=(as.fresh hp).2;have ho:upd H p (.dK (o5 [] [(kk,v)]))=upd H p (.dK [(kk,v)]):=rfl;rw[ho];refine h2 (m++[p]) (upd H p (.dK [(kk,v)])) ((Le.same (ba hp _)).grow hp) ((as.laid hp (HO.dK [(kk,v)]) (λφ z=>nomatch z)).t8 hz ⟨[(kk,v)],aC,v,[],rfl,rv _ _ _ _,rfl⟩) (.ref p) ⟨p,?_,rfl⟩;rw[Xy (by rw[as.len];exact Xj _),as.len];simp|none=>
  rw[QL] at eo;obtain⟨kk,DV,rfl⟩:=gj (show(mI y).map (λk=>O.dT [(k,P.d x)])=Δ o from eo);obtain⟨b,rfl,hb⟩:=ru.mI DV;refine .inr λp hp=>q _ _ ⟨aC,kk,b,rfl,?_,?_⟩;·rw[ax (λz=>by rw[z,hp] at hb;cases hb)];exact hb
  rw[Cp];have hz:p∉Z:=(as.fresh hp).2;refine h2 (m++[p]) (upd H p (.dT [(kk,v)])) ((Le.same (ba hp _)).grow hp) ((as.laid hp (HO.dT [(kk,v)]) (λφ z=>nomatch z)).t8 hz ⟨[(kk,v)],aC,v,[],rfl,rv _ _ _ _,rfl⟩) (.ref p) ⟨p,?_,rfl⟩;rw[Xy (by rw[as.len];exact Xj _),as.len];simp
theorem pT(h:isCall o=Ξ):ZY o n env w=w:=by
 cases o with
 |Call f xs ks p=>
  cases f with
  |Name x q=>
   cases xs with
   |nil=>cases ks with|nil=>exact absurd (show Λ=Ξ from h) Yc.symm|cons _ _=>rfl
   |cons _ _=>rfl
  |_=>rfl
 |_=>rfl
theorem GP{K:KB}(ao:qZ K H m Z a o)(hd:jo o=Λ):S2 H a:=by cases o with|lst xs=>cases hd|ins c fs=>cases hd|vA=>cases hd|dK kvs=>obtain⟨us,hu,_⟩:=ao;exact .inl ⟨us,.inl hu⟩|dT kvs=>obtain⟨us,hu,_⟩:=ao;exact .inr ⟨us,.inl hu⟩
noncomputable def WalksU(K:KB)(J:It)(us:List V)(m:List Addr)(H:Hp):Prop:=
 ∀m2 H2,Le K m H m2 H2->∀i:Nat,(i < us.length->J.go i H2/\∀x H3,J.Pu i H2 x H3->H3=H2/\us[i]?=Δ x)/\(us.length<=i->J.stop i H2)
def Walks(K:KB)(Z:List Addr)(J:It)(ps:List P)(m:List Addr)(H:Hp):Prop:=
 ∀m2 H2 Z2,Le K m H m2 H2->(∀a∈Z2,a∈Z\/H a=Θ)->∀i:Nat,(∀p,ps[i]?=Δ p->J.go i H2/\∀x H3,J.Pu i H2 x H3->jj H2 H3/\ak K H3 m2 Z2 p x)/\(i=ps.length->J.stop i H2)
inductive tW (K:KB) (Z:List Addr) (d:bX->aI->R (List P)) (σ:L2.St) (H:Hp) (S:It->Hp->Prop):Prop
 |mk (m:List Addr) (r:bX) (st:aI) (a:cu K H m Z r σ) (b:aA K H m Z st) (c:Ok K Z (d r st) m H (λps _ m' H'=>∀J,Walks K Z J ps m' H'->S J H')):tW K Z d σ H S
mutual
theorem aF.ju{K:KB}{H:Hp}{m Z Z2:List Addr}(hz:∀a∈Z2,a∈Z\/H a=Θ):∀{x:D} {v:V},aF K H m Z x v->aF K H m Z2 x v
 |.bz,_,h=>h|.bl _,_,h=>h|.int _,_,h=>h|.str _,_,h=>h|.tup xs,v,h=>by obtain⟨a,us,e,q,r⟩:=(show ∃a us,v=.ref a/\H a=Δ (.tup us)/\aw K H m Z xs us from h);exact⟨a,us,e,q,aw.ju hz r⟩
 |.pl xs,v,h=>by
  obtain⟨a,us,e,q,hm,hn,r⟩:=(show ∃a us,v=.ref a/\Rd H a (.lst us)/\a∉m/\a∉Z/\aw K H m Z xs us from h);refine⟨a,us,e,q,hm,λz=>?_,aw.ju hz r⟩;rcases hz a z with y|y;·exact hn y
  ·exact GB q y
theorem aw.ju{K:KB}{H:Hp}{m Z Z2:List Addr}(hz:∀a∈Z2,a∈Z\/H a=Θ):∀{xs:List D} {us:List V},aw K H m Z xs us->aw K H m Z2 xs us
 |[],_,h=>h|x::xs,us,h=>by obtain⟨v,vs,e,r,rs⟩:=(show ∃v vs,us=v::vs/\aF K H m Z x v/\aw K H m Z xs vs from h);exact⟨v,vs,e,aF.ju hz r,aw.ju hz rs⟩
end
mutual
theorem ak.ju{K:KB}{H:Hp}{m Z Z2:List Addr}(hz:∀a∈Z2,a∈Z\/H a=Θ):∀{x:P} {v:V},ak K H m Z x v->ak K H m Z2 x v
 |.d _,_,h=>by rw[ak] at h ⊢;exact aF.ju hz h|.obj _,_,h=>by rw[ak] at h ⊢;exact h|.fR _,_,h=>by rw[ak] at h ⊢;exact h|.fn k bu,v,h=>by rw[ak] at h ⊢;obtain⟨a,c,bW,e,q,hc,r⟩:=h;exact⟨a,c,bW,e,q,hc,ai.ju hz r⟩
 |.lf k,v,h=>by rw[ak] at h ⊢;exact h
theorem ai.ju{K:KB}{H:Hp}{m Z Z2:List Addr}(hz:∀a∈Z2,a∈Z\/H a=Θ):∀{xs:List P} {us:List V},ai K H m Z xs us->ai K H m Z2 xs us
 |[],_,h=>h|x::xs,us,h=>by rw[ai] at h ⊢;obtain⟨v,vs,e,r,rs⟩:=h;exact⟨v,vs,e,ak.ju hz r,ai.ju hz rs⟩
end
theorem WalksU.walks{K:KB}(w:WalksU K J us m H)(r:ai K H m Z ps us):Walks K Z J ps m H:=by intro m2 H2 Z2 le hz i;obtain⟨w1,w2⟩:=w m2 H2 le i;refine⟨λp hp=>?_,λh=>w2 (by rw[r.length];exact abw h.symm)⟩;obtain⟨v,hv,rv⟩:=r.get hp;obtain⟨go,yl⟩:=w1 (qqz hv).1;refine⟨go,λx H3 hy=>?_⟩;obtain⟨rfl,hx⟩:=yl x H3 hy;rw[hv] at hx;cases hx;exact⟨λ_ _ e=>e,(rv.ju hz).le le⟩
theorem PI.imp(h:PI X tg iter t)(i:∀σ H Q,t' σ H Q->t σ H Q):PI X tg iter t':=λη s σ H Q I q=>h η s σ H Q I (i σ H Q q)
theorem Jx{K:KB}(h:H a=Δ (.tup us)):WalksU K (Ur K.K a) us m H:=λm2 H2 le i=>by have h2:fH K.K H2 a us:=fH.of (le.tup _ _ h);refine⟨λhi=>⟨⟨us,us[i],h2,by simp[hi]⟩,λx H3 ⟨e,y⟩=>⟨e,y us h2⟩⟩,λhi=>⟨us,h2,hi⟩⟩
theorem Jy{K:KB}(h:Rd H a (.lst us))(hm:a∉m):WalksU K (Uq K.K a) us m H:=λm2 H2 le i=>by have h2:lT K.K H2 a us:=.inl (le.rd h hm);refine⟨λhi=>⟨⟨us,us[i],h2,by simp[hi]⟩,λx H3 ⟨e,y⟩=>⟨e,y us h2⟩⟩,λhi=>⟨us,h2,hi⟩⟩
theorem C4{K:KB}{lo hi:Int}:WalksU K (LP lo (hi - lo).toNat) ((W8 (hi - lo).toNat).map λk=>V.int (lo+(k:Nat))) m H:=λm2 H2 le i=>by
 refine⟨λh=>⟨by show i < (hi - lo).toNat;rw[Xf,XS] at h;exact h,λx H3 ⟨e,y⟩=>⟨e,?_⟩⟩,λh=>by show(hi - lo).toNat<=i;rw[Xf,XS] at h;exact h⟩;have h':i < (hi - lo).toNat:=by rw[Xf,XS] at h;exact h
 rw[Xi,YD h',y];rfl
theorem r6{K:KB}lo:∀l:List Nat,ai K H m Z (l.map λk=>P.d (.int (lo+(k:Nat)))) (l.map λk=>V.int (lo+(k:Nat)))
 |[]=>rfl|k::l=>⟨_,_,rfl,rfl,r6 lo l⟩
theorem Q8(ha:PE X x (tE (af X kt) Z (aa C a))):PI X tg x (tW (af X kt) Z (cn C (.ex a))):=by
 intro η s σ H S I h;obtain⟨m,ρ,st,ar,as,h0⟩:=h;rw[zH] at h0;cases hr:aa C a ρ st with
 |ex x s=>rw[hr] at h0;exact(show False from h0).elim|no=>rw[hr] at h0;exact(show False from h0).elim|ok y st1=>
  rw[hr] at h0;simp only[ae] at h0;unfold pw at h0;split at h0;·rename_i xs;refine LR ha η s σ H S I ⟨m,ρ,st,ar,as,?_⟩;rw[hr];intro m1 H1 bQ aZ v rv;obtain⟨b,us,rfl,hq,rs⟩:=rv;exact⟨b,rfl,⟨us,fH.of hq⟩,h0 m1 H1 bQ aZ _ ((Jx hq).walks rs.map)⟩
  ·rename_i xs;refine rO ha η s σ H S I ⟨m,ρ,st,ar,as,?_⟩;rw[hr];intro m1 H1 bQ aZ v rv;obtain⟨b,us,rfl,hq,hm,_,rs⟩:=rv;exact⟨b,rfl,⟨us,.inl hq⟩,h0 m1 H1 bQ aZ _ ((Jy hq hm).walks rs.map)⟩
  ·exact(show False from h0).elim
theorem Nk(T:Good X kt g C)(hg:g.gl "range"=Λ)(aJ:gZ g b9 xs=Λ)(h:PA X xs (tA (af X kt) Z (aD C b9))):PI X tg (.Call (.Name "range" p) xs [] pos) (tW (af X kt) Z (cn C (.fZ b9))):=by
 intro η s σ H S I h1;obtain⟨m,ρ,st,ar,as,h0⟩:=h1;rw[pE] at h0;cases hr:aD C b9 ρ st with
 |ex x s=>rw[hr] at h0;exact(show False from h0).elim|no=>rw[hr] at h0;exact(show False from h0).elim|ok ps st1=>
  rw[hr] at h0;simp only[ae] at h0;have hl:=gk aJ;have wc:=fT hr;have qj:=cD aJ;unfold nS at h0;split at h0
  ·rename_i j
   match xs,hl,qj,h with
   |[x],_,qj,h=>
    split at h0;·rename_i hc;refine DB (T.glob hg) (T.bl _ (by decide+kernel)) h (bD (qj x Xh)) η s σ H S I ⟨m,ρ,st,ar,as,?_⟩;rw[hr];intro m1 H1 bQ aZ vs iE;obtain⟨v,rfl,rv⟩:=xW iE;cases (show v=.int j from rv);have q:=h0 m1 H1 bQ aZ (LP 0 (j - 0).toNat) ((C4 (lo:=0) (hi:=j)).walks (r6 0 _));rw[Int.sub_zero] at q;exact⟨j,rfl,hc.1,hc.2,q⟩
    ·exact(show False from h0).elim
   |[],hl,_,_=>simp at hl;rw[<-hl] at wc;simp at wc|_::_::_,hl,_,_=>rw[<-wc] at hl;simp at hl
  ·rename_i i j
   match xs,hl,qj,h with
   |[x,y],_,qj,h=>
    split at h0;·rename_i hc;have sy:XO [y] X.env=[(Ξ,eval y X.env)]:=bD (qj y (by simp));refine DC (T.glob hg) (T.bl _ (by decide+kernel)) h (by rw[bD (qj x Xh),sy]) sy η s σ H S I ⟨m,ρ,st,ar,as,?_⟩;rw[hr];intro m1 H1 bQ aZ vs iE;obtain⟨v,u,rfl,rv,ru⟩:=Ng iE;cases (show v=.int i from rv);cases (show u=.int j from ru);exact⟨i,j,rfl,hc,h0 m1 H1 bQ aZ (LP i (j - i).toNat) ((C4 (lo:=i) (hi:=j)).walks (r6 i _))⟩
    ·exact(show False from h0).elim
   |[],hl,_,_=>rw[<-wc] at hl;simp at hl|[_],hl,_,_=>rw[<-wc] at hl;simp at hl|_::_::_::_,hl,_,_=>rw[<-wc] at hl;simp at hl
  ·exact(show False from h0).elim
theorem zX:∀{xs} {k i:Nat} {p:P},(c0 k xs)[i]?=Δ p->∃x,xs[i]?=Δ x/\p=.d (.tup [.int (k+i:Nat),x])
 |[],k,i,p,h=>by simp[c0] at h|x::xs,k,i,p,h=>by cases i with|zero=>simp[c0] at h;exact⟨x,rfl,by rw[<-h];simp⟩|succ i=>obtain⟨y,e1,e2⟩:=zX (xs:=xs) (k:=k+1) (i:=i) (by simpa[c0] using h);exact⟨y,by simpa using e1,by rw[e2];congr 4;lia⟩
theorem zY:∀{xs} {k},(c0 k xs).length=xs.length
 |[],_=>rfl|x::xs,k=>by simp[c0,zY (xs:=xs) (k:=k+1)]
theorem Jz{K:KB}(ha:H a=Δ (.tup us))(r:aw K H m Z xs us):Walks K Z (Vo K.K a) (c0 0 xs) m H:=by intro m2 H2 Z2 le hz i;have Nl:=le.tup _ _ ha;refine⟨λp hp=>?_,λh=>⟨us,fH.of Nl,by rw[zY] at h;rw[r.length];exact abw h.symm⟩⟩;obtain⟨x,hx,rfl⟩:=zX hp;obtain⟨v,hv,rv⟩:=r.map.get (i:=i) (p:=.d x) (by rw[Xi,hx];rfl);refine⟨⟨us,v,fH.of Nl,hv⟩,?_⟩;rintro y H3 ⟨T,v',hT,rfl,rfl,hy⟩;have e:=hy us (fH.of Nl);rw[hv] at e;cases e;have sm:jj H2 (upd H2 T (.tup [.int (i:Nat),v])):=ba hT _;refine⟨sm,T,[.int (i:Nat),v],rfl,aC,_,_,rfl,?_,v,[],rfl,((aF.ju hz rv).le le).le (Le.same sm),rfl⟩;show V.int (i:Nat)=V.int ((0+i:Nat):Int);rw[XN]
theorem JA(T:Good X kt g C)(hg:g.gl "enumerate"=Λ)(ha:PE X x (tE (af X kt) Z (aa C a)))(hs:notStar x=Λ):
  PI X (.Tuple elts kk p3) (.Call (.Name "enumerate" p) [x] [] pos) (tW (af X kt) Z (cn C (.enum a))):=by
 refine PI.imp (FY (T.glob hg) (T.bl _ (by decide+kernel)) (kR ha uk hs) (bD hs)) ?_;rintro σ H S ⟨m,ρ,st,ar,as,h0⟩;rw[tK] at h0;refine⟨m,ρ,st,ar,as,?_⟩;show Ok (af X kt) Z (aD C [a] ρ st) m H _;simp only[aj,ay];cases hr:aa C a ρ st with
 |ex x s=>rw[hr] at h0;exact(show False from h0).elim|no=>rw[hr] at h0;exact(show False from h0).elim|ok y st1=>
  rw[hr] at h0;simp only[ae] at h0 ⊢;intro m1 H1 bQ aZ vs iE;obtain⟨v,rfl,rv⟩:=xW iE;split at h0;·rename_i xs;obtain⟨b,us,rfl,hq,rs⟩:=rv;exact⟨b,rfl,⟨us,fH.of hq⟩,h0 m1 H1 bQ aZ _ (Jz hq rs)⟩
  ·exact(show False from h0).elim
theorem Nm(T:Good X kt g C){p pos p2 IX:Pos}(hg:g.gl "range"=Λ)(Js:g.gl "list"=Λ)(aJ:gZ g b9 xs=Λ)(h:PA X xs (tA (af X kt) Z (aD C b9))):
  PE X (.Call (.Name "list" p2) [.Call (.Name "range" p) xs [] pos] [] IX) (tL (af X kt) Z (bc C (.fZ b9))):=by
 have qj:=cD aJ;have hl:=gk aJ;cases xs with
 |nil=>rintro η s σ H Q I ⟨m,ρ,st,ar,as,h0⟩;cases b9 with|nil=>exact(show False from h0).elim|cons a b=>simp at hl
 |cons x xs=>
  have s1:=bD (env:=X.env) (es:=xs) (qj x Xh);have s2:(Zm pos (XO xs X.env)).any (·.1)=Ξ:=gb λz hz=>qj z (Xb _ hz);refine PE.imp (lC (vm T.calm) (T.glob Js) (T.bl _ (by decide+kernel)) boot_list (rQ (lC zj (T.glob hg) (T.bl _ (by decide+kernel)) boot_range h (by decide+kernel) (by decide+kernel) s1 s2) Bp) (by decide+kernel) (by decide+kernel) rfl rfl) ?_;rintro σ H Q ⟨m,ρ,st,ar,as,h0⟩;refine⟨m,ρ,st,ar,as,?_⟩;rw[wu] at h0;cases hr:aD C b9 ρ st with
  |ex x s=>rw[hr] at h0;exact(show False from h0).elim|no=>rw[hr] at h0;exact(show False from h0).elim|ok ps st1=>
   rw[hr] at h0;simp only[ae] at h0;intro m1 H1 bQ aZ vs iE;have fin:∀lo hi:Int,(-jn<=lo/\lo < jn/\ -jn<=hi/\hi < jn)->LQ (af X kt) Z (R.bind (R.of (Δ (Ea lo hi)) st1) λqs st2=>if qs.length<=au then R.ok qs st2 else R.no) m H Q->∀q,H1 q=Θ->
     ∃p OW wa,[V.ref q]=[.ref p]/\upd H1 q (.fZ lo hi) p=Δ (.fZ OW wa)/\(-(2 ^ 62)<=OW/\OW < 2 ^ 62/\ -(2 ^ 62)<=wa/\wa < 2 ^ 62)/\(wa - OW).toNat<=XE/\∀l,upd H1 q (.fZ lo hi) l=Θ->Q (.ref l) (upd (upd H1 q (.fZ lo hi)) l (.lst (BE OW (wa - OW).toNat))):=by
    intro lo hi hb hQ q hq;simp only[av,ae] at hQ;split at hQ
    ·rename_i hc;refine⟨q,lo,hi,rfl,aC,hb,?_,λl hl=>?_⟩;·unfold Ea at hc;rw[Xf,XS] at hc;rw[<-dv];exact hc
     ·have dY:Le (af X kt) m1 H1 m1 (upd H1 q (.fZ lo hi)):=Le.same (ba hq _);exact um (bQ.trans dY) (aZ.same (ba hq _)) (r6 lo _) hl hQ
    ·exact hQ.elim
   cases hp:nS ps with
   |none=>rw[hp] at h0;exact(show False from h0).elim|some qs=>
    rw[hp] at h0;unfold nS at hp;split at hp
    ·rename_i j;split at hp;·rename_i hc;cases hp;obtain⟨v,rfl,rv⟩:=xW iE;cases (show v=.int j from rv);exact⟨0,j,.inr ⟨rfl,rfl⟩,fin 0 j ⟨by unfold jn;lia,by unfold jn;lia,hc.1,hc.2⟩ h0⟩
     ·cases hp
    ·rename_i i j;split at hp;·rename_i hc;cases hp;obtain⟨v,u,rfl,rv,ru⟩:=Ng iE;cases (show v=.int i from rv);cases (show u=.int j from ru);exact⟨i,j,.inl rfl,fin i j hc h0⟩
     ·cases hp
    ·cases hp
theorem ai.of_get{K:KB}:∀{ps} {ts},ts.length=ps.length->(∀(j:Nat) p t,ps[j]?=Δ p->ts[j]?=Δ t->ak K H m Z p t)->ai K H m Z ps ts
 |[],ts,hl,_=>by cases ts with|nil=>rfl|cons t ts=>simp at hl
 |p::ps,ts,hl,h=>by cases ts with|nil=>simp at hl|cons t ts=>exact⟨t,ts,rfl,h 0 p t rfl rfl,ai.of_get (by simpa using hl) λj p' t' e e'=>h (j+1) p' t' (by simpa using e) (by simpa using e')⟩
theorem aw.get{K:KB}{j:Nat}(h:aw K H m Z xs us)(e:xs[j]?=Δ x)(e':us[j]?=Δ u):aF K H m Z x u:=by obtain⟨v,ev,rv⟩:=h.map.get (i:=j) (p:=.d x) (by rw[Xi,e];rfl);rw[e'] at ev;cases ev;exact rv
theorem Nn(T:Good X kt g C){p pos p2 IX:Pos}(hg:g.gl "zip"=Λ)(Js:g.gl "list"=Λ)(ha:PE X x1 (tE (af X kt) Z (aa C a)))(h1:notStar x1=Λ)(hb:PE X x2 (tE (af X kt) Z (aa C b)))(h2:notStar x2=Λ):
  PE X (.Call (.Name "list" p2) [.Call (.Name "zip" p) [x1,x2] [] pos] [] IX) (tL (af X kt) Z (bc C (.zip a b))):=by
 refine PE.imp (zr T.calm (T.glob Js) (T.bl _ (by decide+kernel)) (T.glob hg) (T.bl _ (by decide+kernel)) (kR ha (kR hb uk h2) h1) (bD h1) (gb λz hz=>?_)) ?_
 ·have:z=x2:=by simpa using hz
  rw[this];exact h2
 rintro σ H Q ⟨m,ρ,st,ar,as,h0⟩;refine⟨m,ρ,st,ar,as,?_⟩;rw[wy] at h0;simp only[aj,ay];cases hr:aa C a ρ st with
 |ex x s=>rw[hr] at h0;exact(show False from h0).elim|no=>rw[hr] at h0;exact(show False from h0).elim|ok x st1=>
  rw[hr] at h0;simp only[ae] at h0 ⊢;cases VU:aa C b ρ st1 with
  |ex x s=>rw[VU] at h0;exact(show False from h0).elim|no=>rw[VU] at h0;exact(show False from h0).elim|ok y st2=>
   rw[VU] at h0;simp only[ae] at h0 ⊢;intro m1 H1 bQ aZ vs iE;obtain⟨v,u,rfl,rv,ru⟩:=Ng iE;unfold Eb at h0;split at h0
   ·rename_i xs ys;obtain⟨va,us,rfl,hva,rx⟩:=rv;obtain⟨vb,ws,rfl,hvb,ry⟩:=ru;refine⟨va,vb,us,ws,rfl,fH.of hva,fH.of hvb,λl H' ts sm hl nM hp=>?_⟩;simp only[av,ae] at h0;have dY:Le (af X kt) m1 H1 m1 H':=Le.same sm;refine h0 m1 H' l ts (bQ.trans dY) (bQ.C2 hl) (aZ.fresh hl).1 nM (aZ.QS hl sm (by rw[br nM (λ_ z=>nomatch z)];exact λz=>nomatch z)) (ai.of_get ?_ λj p t e e'=>?_);·rw[hp.1,Xf,Xf,abq,rx.length,ry.length]
    ·obtain⟨Tt,u,w',rfl,e1,e2,e3⟩:=hp.2 j t e';rw[Xi,Xi] at e;cases hz:(xs.zip ys)[j]? with
     |none=>rw[hz] at e;cases e|some q=>
      rw[hz] at e;have e9:P.d (D.tup [q.1,q.2])=p:=by simpa using e
      subst e9;obtain⟨q1,q2⟩:=List.getElem?_zip_eq_some.mp hz;have r1:=(aF.kO hl (rx.get q1 e2)).le dY;have r2:=(aF.kO hl (ry.get q2 e3)).le dY;exact⟨Tt,[u,w'],rfl,e1,u,[w'],rfl,r1,w',[],rfl,r2,rfl⟩
   ·exact(show False from h0).elim
theorem ints_of{K:KB}:∀{ps} {bs} {us},ai K H m Z ps us->intsOf ps=Δ bs->us=bs.map V.int
 |[],bs,us,h,e=>by cases e;exact h|p::ps,bs,us,h,e=>by
  obtain⟨v,vs,rfl,r,rs⟩:=(show ∃v vs,us=v::vs/\ak K H m Z p v/\ai K H m Z ps vs from h);unfold intsOf at e;split at e;·rename_i e0;cases e0
  ·rename_i b r' e0;cases e0;obtain⟨cs,e1,rfl⟩:=gj e;cases (show v=.int b from r);rw[ints_of rs e1];rfl
  ·cases e
theorem JB(hl:(ap.endLine==cp.line)=Λ)(hc:isCall o=Ξ)(ho:PE X o (tE (af X kt) Z (aa C a)))(hx:PE X x (tE (af X kt) Z (aa C b)))(hs:notStar x=Λ):
  PE X (.Call (.Attribute o "index" ap) [x] [] cp) (tE (af X kt) Z (aa C (.index a b))):=by
 have s1:XO [x] X.env=[(Ξ,eval x X.env)]:=bD hs;refine PE.imp (KO aaM PySem.F.slot_list_index PySem.F.type_list_index FP ho (kR hx uk hs) (pT hc) (by rw[s1];rfl) hl s1 rfl) ?_;rintro σ H Q ⟨m,r,st,ar,as,h⟩;rw[qC] at h;refine⟨m,r,st,ar,as,(Ok.bind h).mono λy st1 m1 H1 bQ aZ h1 v rv=>?_⟩;obtain⟨its,e1,h2,de⟩:=Ok.of (Ok.bind h1) aZ;clear de;obtain⟨l,us,rfl,hq,rs⟩:=cI aZ e1 rv;refine⟨.inl ⟨rfl,us,.inl hq⟩,m1,r,st1,ar.le bQ,aZ,?_⟩;show Ok (af X kt) Z (aD C [b] r st1) m1 H1 _;simp only[aj,ay];cases hr:aa C b r st1 with
 |ex x s=>rw[hr] at h2;exact(show False from h2).elim|no=>rw[hr] at h2;exact(show False from h2).elim|ok w st2=>
  rw[hr] at h2;simp only[ae] at h2 ⊢;intro m2 H2 dY dX vs iE;obtain⟨u,rfl,ru⟩:=xW iE;obtain⟨p,e2,h3,de⟩:=Ok.of (Ok.le h2 dY) dX;clear de;unfold pz at e2;split at e2
  ·rename_i k;cases (show u=.int k from ru);obtain⟨xs,e3,e4⟩:=cb e2;obtain⟨ns,e5,e6⟩:=cb e4;split at e6;·rename_i hk;cases e6;obtain⟨l',HP,e,xn,vF⟩:=cI dX e3 (rv.le dY);cases e;have:=ints_of vF e5;subst this;exact⟨l,ns,k,rfl,rfl,.inl xn,hk,h3 _ rfl⟩
   ·cases e6
  ·cases e2
end
section
variable{K:KB}{H H':Hp}{m Z:List Addr}
mutual
theorem aF.congr(ht:∀a us,H a=Δ (.tup us)->H' a=Δ (.tup us))(hl:∀a us,a∉m->a∉Z->Rd H a (.lst us)->Rd H' a (.lst us)):∀{x:D} {v:V},aF K H m Z x v->aF K H' m Z x v
 |.bz,_,h=>h|.bl _,_,h=>h|.int _,_,h=>h|.str _,_,h=>h|.tup xs,v,h=>by obtain⟨a,us,e,q,r⟩:=(show ∃a us,v=.ref a/\H a=Δ (.tup us)/\aw K H m Z xs us from h);exact⟨a,us,e,ht _ _ q,aw.congr ht hl r⟩
 |.pl xs,v,h=>by obtain⟨a,us,e,q,hm,hz,r⟩:=(show ∃a us,v=.ref a/\Rd H a (.lst us)/\a∉m/\a∉Z/\aw K H m Z xs us from h);exact⟨a,us,e,hl _ _ hm hz q,hm,hz,aw.congr ht hl r⟩
theorem aw.congr(ht:∀a us,H a=Δ (.tup us)->H' a=Δ (.tup us))(hl:∀a us,a∉m->a∉Z->Rd H a (.lst us)->Rd H' a (.lst us)):∀{xs:List D} {us:List V},aw K H m Z xs us->aw K H' m Z xs us
 |[],_,h=>h|x::xs,us,h=>by obtain⟨v,vs,e,r,rs⟩:=(show ∃v vs,us=v::vs/\aF K H m Z x v/\aw K H m Z xs vs from h);exact⟨v,vs,e,aF.congr ht hl r,aw.congr ht hl rs⟩
end
mutual
theorem ak.congr(ht:∀a us,H a=Δ (.tup us)->H' a=Δ (.tup us))(hl:∀a us,a∉m->a∉Z->Rd H a (.lst us)->Rd H' a (.lst us))(hf:∀a o u,H a=Δ (.dA o u)->H' a=Δ (.dA o u))(hx:∀a φ,H a=Δ (.ext φ)->H' a=Δ (.ext φ)):∀{x:P} {v:V},ak K H m Z x v->ak K H' m Z x v
 |.d _,_,h=>by rw[ak] at h ⊢;exact aF.congr ht hl h|.obj _,_,h=>by rw[ak] at h ⊢;exact h|.fR ns,v,h=>by
  rw[ak] at h ⊢;obtain⟨a,e,r⟩:=h;refine⟨a,e,?_⟩;rcases r with ⟨o,r⟩|r
  ·exact .inl ⟨o,hf _ _ _ r⟩
  ·exact .inr r
 |.fn k bu,v,h=>by rw[ak] at h ⊢;obtain⟨a,c,bW,e,q,hc,r⟩:=h;exact⟨a,c,bW,e,q,hx _ _ hc,ai.congr ht hl hf hx r⟩|.lf k,v,h=>by rw[ak] at h ⊢;obtain⟨a,c,ct,e,q,r⟩:=h;exact⟨a,c,ct,e,hx _ _ q,hx _ _ r⟩
theorem ai.congr(ht:∀a us,H a=Δ (.tup us)->H' a=Δ (.tup us))(hl:∀a us,a∉m->a∉Z->Rd H a (.lst us)->Rd H' a (.lst us))(hf:∀a o u,H a=Δ (.dA o u)->H' a=Δ (.dA o u))(hx:∀a φ,H a=Δ (.ext φ)->H' a=Δ (.ext φ)):∀{xs:List P} {us:List V},ai K H m Z xs us->ai K H' m Z xs us
 |[],_,h=>h|x::xs,us,h=>by rw[ai] at h ⊢;obtain⟨v,vs,e,r,rs⟩:=h;exact⟨v,vs,e,ak.congr ht hl hf hx r,ai.congr ht hl hf hx rs⟩
end
theorem n4(ha:H a=Δ (.lst ys)):∀b φ,H b=Δ (.ext φ)->upd H a o b=Δ (.ext φ):=λb φ h=>by
 have hb:b≠a:=λz=>by rw[z,ha] at h;cases h
 rw[ax hb];exact h
theorem r8(ha:H a=Δ (.lst ys)):∀b us,H b=Δ (.tup us)->upd H a o b=Δ (.tup us):=λb us h=>by
 have hb:b≠a:=λz=>by rw[z,ha] at h;cases h
 rw[ax hb];exact h
theorem r9(ha:H a=Δ (.lst ys)):∀b o' u,H b=Δ (.dA o' u)->upd H a o b=Δ (.dA o' u):=λb o' u h=>by
 have hb:b≠a:=λz=>by rw[z,ha] at h;cases h
 rw[ax hb];exact h
theorem B3(hb:b≠a)(h:Rd H b (.lst us)):Rd (upd H a o) b (.lst us):=by
 rcases h with h|⟨o',h⟩;·exact .inl (by rw[ax hb];exact h)
 ·exact .inr ⟨o',by rw[ax hb];exact h⟩
theorem aA.Q9{st:aI}(A:aA K H m (a::Z) st)(ha:H a=Δ (.lst ys)):aA K (upd H a (.lst zs)) m (a::Z) st:=by
 refine⟨A.len,A.nd,λn o h=>?_,λb hb=>?_,A.zm,λt ht=>?_⟩
 ·obtain⟨c,q,r⟩:=A.at_ n o h;have hc:c≠a:=λz=>A.zm a Xh (by rw[<-z];exact Xw q);exact⟨c,q,r.mono (λb u hb hu=>by
   rw[ax (λz=>by
    rcases hb with w1|w1;·exact hc (w1▸z)
    ·rw[z,ha] at w1;cases w1)]
   exact hu) λp v z=>z.congr (r8 ha) (λb us _ hz h=>B3 (λz=>hz (by rw[z];exact Xh)) h) (r9 ha) (n4 ha)⟩
 ·exact lH (o:=.lst zs) (λ_ z=>nomatch z) (A.zt b hb)
 ·obtain⟨ps,h1,h2⟩:=A.tab t ht;exact⟨ps,by rw[ax (λz=>by rw[z,ha] at h1;cases h1)];exact h1,fK.same (n4 ha) h2⟩
theorem Le.Ra{H1:Hp}{m1:List Addr}{a:Addr}{ys zs:List V}(le:Le K m1 H1 m H)(h1:H1 a=Θ)(ha:H a=Δ (.lst ys)):Le K m1 H1 m (upd H a (.lst zs)) where
 pre:=le.pre
 tup:=λb xs h=>r8 ha b xs (le.tup b xs h)
 keep:=λb u h hb hu=>by rw[ax (aM h h1)];exact le.keep b u h hb hu
 ext:=λb φ h=>n4 ha b φ (le.ext b φ h)
 CQ:=λb h=>lH (o:=.lst zs) (λ_ z=>nomatch z) (le.CQ b h)
 fG:=λb ps h=>by obtain⟨more,e⟩:=le.fG b ps h;exact⟨more,by rw[ax (λz=>by rw[z,ha] at e;cases e)];exact e⟩
 new:=le.new
 qR:=λb h=>by
  by_cases MU:b=a;·rw[MU,aC];exact λz=>nomatch z
  ·rw[ax MU];exact le.qR b h
 dA:=λb o u h=>r9 ha b o u (le.dA b o u h)
end
section
variable{X:Cx}{g:G}{C:Nat->List P->aI->R P}{Z:List Addr}{e:Expr}{es:List Expr}
theorem FH.imp(h:FH X ifs t)(i:∀σ H Q,t' σ H Q->t σ H Q):FH X ifs t':=λη s σ H Q I q=>h η s σ H Q I (i σ H Q q)
def OX(K:KB)(d:bX->aI->R Bool):TT:=λσ H Q=>∃Z,tT K Z d σ H Q
def Tj(K:KB)(d:bX->aI->R P):TE:=λσ H Q=>∃Z,tE K Z d σ H Q
theorem Ei:FH X [] (OX (af X kt) (bB C Θ)):=by refine FH.imp IJ ?_;rintro σ H Q ⟨Z,m,ρ,st,ar,as,h⟩;rw[mM] at h;exact Ok.here h as
theorem Ej(h:∀Z,PT X c (tT (af X kt) Z (b8 (aa C ec)))):FH X [c] (OX (af X kt) (bB C (Δ ec))):=by refine IK λη s σ H Q I q=>?_;obtain⟨Z,q⟩:=q;refine h Z η s σ H Q I ?_;obtain⟨m,ρ,st,ar,as,h⟩:=q;rw[tJ] at h;exact⟨m,ρ,st,ar,as,h⟩
theorem JC(h:∀Z,PE X x (tE (af X kt) Z d)):PE X x (Tj (af X kt) d):=λη s σ H Q I ⟨Z,q⟩=>h Z η s σ H Q I q
theorem uq{K:KB}(ar:cu K H m Z r σ)(fe:H acc=Θ)(le:Le K m H m2 H2):cu K H2 m2 (acc::Z) (bY js r) (js.map λj=>(σ[j]?).join):=by
 refine⟨by unfold bY;simp,λi q h=>?_⟩;unfold bY at h;rw[Xi] at h;cases ej:js[i]? with
 |none=>rw[ej] at h;cases h|some j=>
  rw[ej] at h;have h2:(r[j]?).join=Δ q:=by simpa using h
  have h3:r[j]?=Δ (Δ q):=by cases e:r[j]? with|none=>rw[e] at h2;cases h2|some o=>rw[e] at h2;simp at h2;rw[h2]
  obtain⟨w',e1,r1⟩:=ar.at_ j q h3;refine⟨w',?_,(r1.kO fe).le le⟩;rw[Xi,ej];simp[e1]
theorem cu.cons{K:KB}(ar:cu K H m Z r σ)(rp:ak K H m Z p v):cu K H m Z (Δ p::r) (Δ v::σ):=by refine⟨by simp[ar.len],λi q h=>?_⟩;cases i with|zero=>simp at h;subst h;exact⟨v,by simp,rp⟩|succ i=>exact ar.at_ i q (by simpa using h)
theorem Ek{K:KB}(ar:cu K H m Z r σ)(fe:H acc=Θ)(le:Le K m H m2 H2)(rp:ak K H2 m2 (acc::Z) p v):
  cu K H2 m2 (acc::Z) (Δ p::bY js r) (Δ v::js.map λj=>(σ[j]?).join):=(uq ar fe le).cons rp
theorem El{gB:P->bX}(Np:∀(p:P) (v:V) (m:List Addr) (H:Hp) (Z:List Addr) (us fr:L2.St) (rb:bX) (Q':L2.St->Hp->Prop),okp p=Λ->ak (af X kt) H m Z p v->cu (af X kt) H m Z rb fr->us.length=ts->
   (∀HP:L2.St,HP.length=ts->cu (af X kt) H m Z (gB p++rb) (HP++fr)->Q' (HP++fr) H)->gt v (us++fr) H Q')(h:tL (af X kt) Z (λr st=>(cn C w r st).bind λps st1=>if ps.all okp=Λ/\ps.length<=au then cT (λp=>gB p++bY js r) (bB C c) (λr' aK=>aa C ee r' aK) ps st1 else .no) σ H Q):
  zh (tW (af X kt) Z (cn C w)) gt (OX (af X kt) (bB C c)) (Tj (af X kt) (aa C ee)) ts js σ H Q:=by
 obtain⟨m0,r,bF,ar,VW,h⟩:=h;refine⟨m0,r,bF,ar,VW,?_⟩;cases hw:cn C w r bF with
 |ex x s=>rw[hw] at h;exact(show False from h).elim|no=>rw[hw] at h;exact(show False from h).elim|ok ps st1=>
  rw[hw] at h;simp only[ae] at h;split at h
  ·rename_i hlen;obtain⟨Bx,hlen⟩:=hlen;intro m1 H1 bQ aZ J wk acc fe
   let G':P->bX:=λp=>gB p++bY js r
   let K':=af X kt
   let fr:L2.St:=js.map λj=>(σ[j]?).join
   let CK:Nat->List P->aI->Prop:=λi qs st=>match cT G' (bB C c) (λr' aK=>aa C ee r' aK) (ps.drop i) st with|.ok rest aK=>LQ (af X kt) Z (.ok (qs++rest) aK) m0 H Q|_=>False
   have Tn:CK 0 [] st1:=by show(match cT G' (bB C c) (λr' aK=>aa C ee r' aK) (ps.drop 0) st1 with|.ok rest aK=>LQ (af X kt) Z (.ok ([]++rest) aK) m0 H Q|_=>False);rw[aaa];cases hc:cT G' (bB C c) (λr' aK=>aa C ee r' aK) ps st1 with|ok rest aK=>have h':LQ (af X kt) Z (cT G' (bB C c) (λr' aK=>aa C ee r' aK) ps st1) m0 H Q:=h;rw[hc] at h';exact h'|ex x s=>have h':LQ (af X kt) Z (cT G' (bB C c) (λr' aK=>aa C ee r' aK) ps st1) m0 H Q:=h;rw[hc] at h';exact h'|no=>have h':LQ (af X kt) Z (cT G' (bB C c) (λr' aK=>aa C ee r' aK) ps st1) m0 H Q:=h;rw[hc] at h';exact h'
   refine⟨λi k τ H'=>k=ps.length - i/\i<=ps.length/\(∃us:L2.St,us.length=ts/\τ=us++fr)/\∃m st qs ys,Le (af X kt) m1 H1 m H'/\aA (af X kt) H' m (acc::Z) st/\H' acc=Δ (.lst ys)/\ai (af X kt) H' m (acc::Z) qs ys/\qs.length<=i/\CK i qs st,⟨ps.length,by simp,Yq _,⟨X6 ts Θ,aan,rfl⟩,?_⟩,?_⟩;·exact⟨m1,st1,[],[],Le.same (ba fe _),aZ.laid fe _,aC,rfl,Xj _,Tn⟩
   ·rintro i k τ H' ⟨rfl,hi,⟨us0,lus,rfl⟩,m,st,qs,ys,le,as,Nq,rq,hql,ck⟩;obtain⟨w1,w2⟩:=wk m H' (acc::Z) le (λa ha=>(aai.mp ha).elim (λz=>.inr (by rw[z];exact fe)) .inl) i;by_cases eZ:i < ps.length
    ·have OY:i < ps.length:=eZ;obtain⟨go,yl⟩:=w1 ps[i] (Xc OY);refine .inr ⟨go,λx H2 hy=>?_⟩;obtain⟨sm,rx⟩:=yl x H2 hy;have B4:Le (af X kt) m H' m H2:=Le.same sm;replace le:=le.trans B4;replace as:=as.same sm;replace Nq:=sm _ _ Nq;replace rq:=rq.le B4;have de:ps.drop i=ps[i]::ps.drop (i+1):=Yd OY;have mQ:(match cT G' (bB C c) (λr' aK=>aa C ee r' aK) (ps[i]::ps.drop (i+1)) st with|.ok rest aK=>LQ (af X kt) Z (.ok (qs++rest) aK) m0 H Q|_=>False):=by rw[<-de];exact ck
     rw[ig] at mQ;refine Np ps[i] x m H2 (acc::Z) us0 fr (bY js r) _ (Y2.mp Bx _ (Ya OY)) rx (uq (js:=js) (ar.le bQ) fe le) lus λHP Rb Rc=>?_;refine⟨acc::Z,m,G' ps[i],st,Rc,as,?_⟩;cases hc:bB C c (G' ps[i]) st with
     |ex x s=>rw[hc] at mQ;exact mQ.elim|no=>rw[hc] at mQ;exact mQ.elim|ok b st2=>
      rw[hc] at mQ;simp only[ae] at mQ;intro m2 H2 dY dX;have zZ:H2 acc=Δ (.lst ys):=dY.keep acc _ Nq (as.zm acc Xh) (λ_ z=>nomatch z);cases b with
      |false=>refine⟨ps.length - (i+1),ZS _ _ eZ,rfl,eZ,⟨HP,Rb,rfl⟩,m2,st2,qs,ys,le.trans dY,dX,zZ,rq.le dY,by lia,?_⟩;exact mQ|true=>
       refine⟨acc::Z,m2,G' ps[i],st2,Rc.le dY,dX,?_⟩;have mR:(match (aa C ee (G' ps[i]) st2).bind λy st3=>(cT G' (bB C c) (λr' aK=>aa C ee r' aK) (ps.drop (i+1)) st3).bind λys ma=>R.ok (y::ys) ma with|.ok rest aK=>LQ (af X kt) Z (.ok (qs++rest) aK) m0 H Q|_=>False):=mQ;cases he:aa C ee (G' ps[i]) st2 with
       |ex x s=>rw[he] at mR;exact mR.elim|no=>rw[he] at mR;exact mR.elim|ok y st3=>
        rw[he] at mR;simp only[ae] at mR;intro m3 H3 pR qJ v rv;have jv:H3 acc=Δ (.lst ys):=pR.keep acc _ zZ (dX.zm acc Xh) (λ_ z=>nomatch z);have hyl:ys.length=qs.length:=rq.length;have VX:ai (af X kt) (upd H3 acc (.lst (ys++[v]))) m3 (acc::Z) (qs++[y]) (ys++[v]):=by have q1:ai (af X kt) H3 m3 (acc::Z) (qs++[y]) (ys++[v]):=((rq.le dY).le pR).append ⟨v,[],rfl,rv,rfl⟩;exact q1.congr (r8 jv) (λb us _ hz h=>B3 (λz=>hz (by rw[z];exact Xh)) h) (r9 jv) (n4 jv)
        refine⟨ys,jv,by rw[<-dv];lia,ps.length - (i+1),ZS _ _ eZ,rfl,eZ,⟨HP,Rb,rfl⟩,m3,st3,qs++[y],ys++[v],?_,qJ.Q9 jv,aC,VX,by rw[Xz];simp;lia,?_⟩;·exact Le.Ra ((le.trans dY).trans pR) fe jv
        ·show(match cT G' (bB C c) (λr' aK=>aa C ee r' aK) (ps.drop (i+1)) st3 with|.ok rest aK=>LQ (af X kt) Z (.ok ((qs++[y])++rest) aK) m0 H Q|_=>False);cases hr:cT G' (bB C c) (λr' aK=>aa C ee r' aK) (ps.drop (i+1)) st3 with|ex x s=>rw[hr] at mR;exact mR|no=>rw[hr] at mR;exact mR|ok rest ma=>rw[hr] at mR;show LQ (af X kt) Z (R.ok ((qs++[y])++rest) ma) m0 H Q;rw[X7];exact mR
    ·have e:i=ps.length:=by lia
     subst e;refine .inl ⟨w2 rfl,?_⟩;have mQ:(match cT G' (bB C c) (λr' aK=>aa C ee r' aK) (ps.drop ps.length) st with|.ok rest aK=>LQ (af X kt) Z (.ok (qs++rest) aK) m0 H Q|_=>False):=ck;rw[ab2,wC] at mQ;have mR:LQ (af X kt) Z (R.ok (qs++[]) st) m0 H Q:=mQ;rw[Yf] at mR;exact mR m H' acc ys (bQ.trans le) (bQ.C2 fe) (as.zm acc Xh) Nq as rq
  ·exact(show False from h).elim
theorem z8(h:tL (af X kt) Z (bc C (.comp w 1 js c ee)) σ H Q):
  zh (tW (af X kt) Z (cn C w)) (sC 0) (OX (af X kt) (bB C c)) (Tj (af X kt) (aa C ee)) 1 js σ H Q:=by
 refine El (okp:=λ_=>Λ) (gB:=λp=>[Δ p]) (λp v m H Z us fr rb Q' _ rp ar lu q=>?_) ?_
 ·match us,lu with|[u],_=>exact q [Δ v] rfl (ar.cons rp)
 ·have e:bc C (.comp w 1 js c ee)=λr st=>(cn C w r st).bind λps st1=>if(ps.all λ_=>Λ)=Λ/\ps.length<=au then cT (λp=>[Δ p]++bY js r) (bB C c) (λr' aK=>aa C ee r' aK) ps st1 else .no:=by funext r st;rw[jS];simp
  rw[<-e];exact h
theorem pU{K:KB}{st:aI}(as:aA K H m Z st)(ha:m[n]?=Δ a)(h:wo n st i=Δ o):∃us,H a=Δ (.lst us)/\(o=Θ->us.length<=i)/\∀p,o=Δ p->∃v,us[i]?=Δ v/\ak K H m Z p v:=by
 unfold wo at h;split at h;·rename_i xs hs;cases h;obtain⟨a',e,us,hu,rs⟩:=as.at_ n _ hs;rw[ha] at e;cases e;refine⟨us,hu,λz=>?_,λp z=>rs.get z⟩;rw[rs.length];exact List.getElem?_eq_none_iff.mp z
 ·cases h
theorem wK{e:E}(h:tL (af X kt) Z (bc C (.cj e js c ee)) σ H Q):
  zh (KG X.K (tE (af X kt) Z (aa C e))) (sC 0) (OX (af X kt) (bB C c)) (Tj (af X kt) (aa C ee)) 1 js σ H Q:=by
 obtain⟨m0,r,bF,ar,VW,h⟩:=h;rw[qD] at h;refine⟨m0,r,bF,ar,VW,?_⟩;cases hw:aa C e r bF with
 |ex x s=>rw[hw] at h;exact(show False from h).elim|no=>rw[hw] at h;exact(show False from h).elim|ok x0 st1=>
  rw[hw] at h;simp only[ae] at h;split at h
  ·rename_i n;intro m1 H1 bQ aZ v rv;obtain⟨a,ha,rfl⟩:=rv
   let G':P->bX:=λp=>Δ p::bY js r
   let fr:L2.St:=js.map λj=>(σ[j]?).join
   let CK:Nat->Nat->List P->aI->Prop:=λk i qs st=>match cj n G' (bB C c) (λr' aK=>aa C ee r' aK) k i st with|.ok rest aK=>LQ (af X kt) Z (.ok (qs++rest) aK) m0 H Q|_=>False
   have Tn:CK au 0 [] st1:=by show(match cj n G' (bB C c) (λr' aK=>aa C ee r' aK) au 0 st1 with|.ok rest aK=>LQ (af X kt) Z (.ok ([]++rest) aK) m0 H Q|_=>False);have h':LQ (af X kt) Z (cj n G' (bB C c) (λr' aK=>aa C ee r' aK) au 0 st1) m0 H Q:=h;cases hc:cj n G' (bB C c) (λr' aK=>aa C ee r' aK) au 0 st1 with|ok rest aK=>rw[hc] at h';exact h'|ex x s=>rw[hc] at h';exact h'|no=>rw[hc] at h';exact h'
   have Rf:∃us,H1 a=Δ (.lst us):=by have ck:=Tn;have mQ:(match cj n G' (bB C c) (λr' aK=>aa C ee r' aK) (16777215+1) 0 st1 with|.ok rest aK=>LQ (af X kt) Z (.ok ([]++rest) aK) m0 H Q|_=>False):=ck;rw[mN] at mQ;cases ho:wo n st1 0 with|none=>rw[ho] at mQ;exact mQ.elim|some o=>obtain⟨us,hu,_⟩:=pU aZ ha ho;exact⟨us,hu⟩
   obtain⟨Rg,Rh⟩:=Rf;refine⟨a,rfl,⟨Rg,.inl (.inl Rh)⟩,λacc fe=>?_⟩;refine⟨λi k τ H'=>k+i=au/\(∃u,τ=u::fr)/\∃m st qs ys,Le (af X kt) m1 H1 m H'/\aA (af X kt) H' m (acc::Z) st/\H' acc=Δ (.lst ys)/\ai (af X kt) H' m (acc::Z) qs ys/\qs.length<=i/\CK k i qs st,⟨au,rfl,⟨Θ,rfl⟩,?_⟩,?_⟩;·exact⟨m1,st1,[],[],Le.same (ba fe _),aZ.laid fe _,aC,rfl,Xj _,Tn⟩
   ·rintro i k τ H' ⟨hk,⟨u,rfl⟩,m,st,qs,ys,le,as,Nq,rq,hql,ck⟩;have Ri:m[n]?=Δ a:=by obtain⟨t,et⟩:=le.pre;rw[et,Xg (qqz ha).1];exact ha
    cases k with
    |zero=>exact(show False from ck).elim|succ k=>
     have mQ:(match cj n G' (bB C c) (λr' aK=>aa C ee r' aK) (k+1) i st with|.ok rest aK=>LQ (af X kt) Z (.ok (qs++rest) aK) m0 H Q|_=>False):=ck;rw[mN] at mQ;cases ho:wo n st i with
     |none=>rw[ho] at mQ;exact mQ.elim|some o=>
      rw[ho] at mQ;obtain⟨us,hu,q0,q1⟩:=pU as Ri ho;cases o with
      |none=>have mR:LQ (af X kt) Z (R.ok (qs++[]) st) m0 H Q:=mQ;rw[Yf] at mR;exact .inl ⟨⟨us,.inl (.inl hu),q0 rfl⟩,mR m H' acc ys (bQ.trans le) (bQ.C2 fe) (as.zm acc Xh) Nq as rq⟩|some p=>
       obtain⟨vx,Lj,rx⟩:=q1 p rfl;refine .inr ⟨⟨us,vx,.inl (.inl hu),Lj⟩,λx H2 hy=>?_⟩;obtain⟨rfl,hx⟩:=hy;have yI:=hx us (.inl (.inl hu));rw[Lj] at yI;cases yI;simp only at mQ;have Rc:=Ek (js:=js) (ar.le bQ) fe le rx;refine⟨acc::Z,m,G' p,st,Rc,as,?_⟩;cases hc:bB C c (G' p) st with
       |ex x s=>rw[hc] at mQ;exact mQ.elim|no=>rw[hc] at mQ;exact mQ.elim|ok b st2=>
        rw[hc] at mQ;simp only[ae] at mQ;intro m2 H2 dY dX;have zZ:H2 acc=Δ (.lst ys):=dY.keep acc _ Nq (as.zm acc Xh) (λ_ z=>nomatch z);cases b with
        |false=>exact⟨k,YZ k,by lia,⟨Δ vx,rfl⟩,m2,st2,qs,ys,le.trans dY,dX,zZ,rq.le dY,by lia,mQ⟩|true=>
         refine⟨acc::Z,m2,G' p,st2,Rc.le dY,dX,?_⟩;have mR:(match (aa C ee (G' p) st2).bind λy st3=>(cj n G' (bB C c) (λr' aK=>aa C ee r' aK) k (i+1) st3).bind λys ma=>R.ok (y::ys) ma with|.ok rest aK=>LQ (af X kt) Z (.ok (qs++rest) aK) m0 H Q|_=>False):=mQ;cases he:aa C ee (G' p) st2 with
         |ex x s=>rw[he] at mR;exact mR.elim|no=>rw[he] at mR;exact mR.elim|ok y st3=>
          rw[he] at mR;simp only[ae] at mR;intro m3 H3 pR qJ v rv;have jv:H3 acc=Δ (.lst ys):=pR.keep acc _ zZ (dX.zm acc Xh) (λ_ z=>nomatch z);have hyl:ys.length=qs.length:=rq.length;have VX:ai (af X kt) (upd H3 acc (.lst (ys++[v]))) m3 (acc::Z) (qs++[y]) (ys++[v]):=by have q1:ai (af X kt) H3 m3 (acc::Z) (qs++[y]) (ys++[v]):=((rq.le dY).le pR).append ⟨v,[],rfl,rv,rfl⟩;exact q1.congr (r8 jv) (λb us _ hz h=>B3 (λz=>hz (by rw[z];exact Xh)) h) (r9 jv) (n4 jv)
          refine⟨ys,jv,by rw[<-dv];lia,k,YZ k,by lia,⟨Δ vx,rfl⟩,m3,st3,qs++[y],ys++[v],?_,qJ.Q9 jv,aC,VX,by rw[Xz];simp;lia,?_⟩;·exact Le.Ra ((le.trans dY).trans pR) fe jv
          ·show(match cj n G' (bB C c) (λr' aK=>aa C ee r' aK) k (i+1) st3 with|.ok rest aK=>LQ (af X kt) Z (.ok ((qs++[y])++rest) aK) m0 H Q|_=>False);cases hr:cj n G' (bB C c) (λr' aK=>aa C ee r' aK) k (i+1) st3 with|ex x s=>rw[hr] at mR;exact mR|no=>rw[hr] at mR;exact mR|ok rest ma=>rw[hr] at mR;show LQ (af X kt) Z (R.ok ((qs++[y])++rest) ma) m0 H Q;rw[X7];exact mR
  ·exact(show False from h).elim
theorem gQ{env:PySem.Env}:∀{names:List (Str×ZT)} {x},names.lookup x=Δ .globalImplicit->
  (names.map λ(n,k)=>if(k==XA&&env.scope.kind==.function&&env.kindOf n==Δ .cell) then(n,YU) else(n,k)).lookup x=Δ .globalImplicit
 |[],_,h=>by simp at h|(n,k)::r,x,h=>by
  have ih:=@gQ env r x;show Za x ((if(k==XA&&env.scope.kind==.function&&env.kindOf n==Δ .cell)=Λ then(n,YU) else(n,k))::_)=_;cases hx:x==n with
  |true=>simp only[XH,hx] at h;cases h;rw[if_neg (by simp)];simp[XH,hx]|false=>
   simp only[XH,hx] at h;by_cases hc:(k==XA&&env.scope.kind==.function&&env.kindOf n==Δ .cell)=Λ;·rw[if_pos hc];simp only[XH,hx];exact ih h
   ·rw[if_neg hc];simp only[XH,hx];exact ih h
theorem Good.xX(T:Good X kt g C){N:List Str}(h:Jf g ts N js sc=Λ):jN X N ts js sc:=by unfold Jf at h;simp only[W9,qqq,Y2,ZO] at h;obtain⟨⟨⟨h1,h2⟩,h3⟩,h4⟩:=h;refine⟨h1,h2,λx hx=>(h3 x hx).1.1,λx hx hl=>(h3 x hx).1.2.resolve_left λz=>z hl,λx hx hf=>T.HM _ ((h3 x hx).2.resolve_left λz=>z hf),λi y j e1 e2=>?_⟩;have hi:i∈W8 js.length:=Yl.mpr (qqz e2).1;have q:=h4 i hi;rw[e1,e2] at q;rw[T.N];simpa using q
theorem uh.inner(h:uh X kt c x n):uh (mF X η N sc fp Cc s H) kt c x n:=⟨h.ex⟩
theorem CU.inner(h:CU X kt C k a c bW):CU (mF X η N sc fp Cc s H) kt C k a c bW:=⟨h.ob,h.ex⟩
theorem Good.inner(T:Good X kt g C){η:List (Addr×Obj)}{N:List Str}{js:List Nat}{sc:Scope}{fp:List Addr}{Cc:Addr}{s:Xv}{H:Hp}(hnc:∀x∈sc.names,x.2≠.cell):Good (mF X η N sc fp Cc s H) kt (g.inner N sc) C where
 N:=rfl
 loc:=λx h=>lookup_relabel_local h
 HM:=λx h=>by
  rcases h with h|h;·exact absurd rfl (hnc _ (X8 h))
  ·exact jM h
 gl:=λx h=>gQ h
 calm:=T.calm
 hu:=T.hu
 bl:=T.bl
 fn:=λk x n h=>(T.fn k x n h).inner
 cs:=T.cs
 tb:=T.tb
 fld:=T.fld
 OU:=T.OU
 OV:=T.OV
 qE:=λhv k a c bW h=>(T.qE hv k a c bW h).inner
 lam:=λk pa bo sc' ps h=>absurd (show Ξ=Λ from h) (by decide)
 iT:=λf x n ls h=>absurd (show Ξ=Λ from h) (by decide)
 jb:=λf x ls h=>absurd (show Ξ=Λ from h) (by decide)
end
section
variable{X:Cx}{kt:KT}{g:G}{C:Nat->List P->aI->R P}{Z:List Addr}
theorem z9(hs:∀z∈xs,notStar z=Λ):(Zm pos (XO xs env)).all (λx=>!x.1)=Λ:=by have h:=gb (env:=env) (pos:=pos) hs;rw[abI] at h;rw[Y2];intro x hx;have:=h x hx;revert this;cases x.1<;>simp
theorem wL(hs:∀z∈xs,notStar z=Λ)(hn:xs.length < 30)(l8:(apos.endLine==pos.line)=Λ):
  eval (.Call (.Attribute (.Name x p) mm apos) xs [] pos) env=(do
   let ov<-eval (.Name x p) env
   ab7 apos.atName
   let (f,first)<-acr [ov] (abW ov mm (do return (<-importBound (.Name x p) env).getD Λ))
   acG pos f first (Zm pos (XO xs env)) (abk pos (aab [] env))):=by
 rw[arm_eval_Call];have Rj:methodCallForm (xs.length+([]:List abJ).length) (Zm pos (XO xs env)) (abk pos (aab [] env))=Λ:=by unfold methodCallForm;rw[z9 hs];have:xs.length+0+0 < 30:=hn;simp[hn];exact⟨λa b h=>(by cases h),hn⟩
 have JD:methodCallPos Λ (.Name x p) env apos pos=pure pos:=by unfold methodCallPos;simp[l8]
 unfold methodCall;rw[Rj,JD];rfl
theorem Nr(T:Good X kt g C)(hm:g.A8 k c mm b9.length=Λ)(h1:g.N[i]?=Δ x)(h2:g.xN x=Λ)(h3:aU x=Λ)(hn:xs.length < 30)(l8:(apos.endLine==pos.line)=Λ)(hs:∀z∈xs,notStar z=Λ)(hl:xs.length=b9.length)(h:PA X xs (tA (af X kt) Z (aD C b9))):
  PE X (.Call (.Attribute (.Name x p) mm apos) xs [] pos) (tE (af X kt) Z (aa C (.pf k c mm i b9))):=by
 obtain⟨A,l,fa,fd,ps,k1,kc,km,F,hr,hb⟩:=T.OU k c mm b9.length hm;have red:∀σ H Q,tE (af X kt) Z (aa C (.pf k c mm i b9)) σ H Q->Cw A mm (BY (af X kt) (C k) (b9.length+1)) [] E0 (tE (af X kt) Z (aa C (.var i))) (tA (af X kt) Z (aD C b9)) σ H Q:=by
  rintro σ H Q ⟨m,ρ,st,ar,as,h⟩;rw[BS] at h;refine⟨m,ρ,st,ar,as,?_⟩;rw[lE];refine(Ok.bind h).mono λq st1 m1 H1 bQ aZ h1 v rv=>?_;obtain⟨u,e,h2,_⟩:=Ok.of (Ok.bind h1) aZ;obtain⟨⟨n,fs⟩,e1,e2⟩:=cb e;obtain⟨a,A',dx,us,rfl,hm',rfl,hs,g1,g2,g3,g4⟩:=B0 aZ rv e1;rw[show XB X.K Xu c=Δ (Δ (.ref A')) from g1] at k1;cases k1;have e3:fs.lookup mm=Θ:=by
   by_cases hh:(fs.lookup mm).isNone=Λ;·exact YQ.mp hh
   ·rw[if_neg hh] at e2;cases e2
  refine⟨a,dx,us,rfl,g2,(aO.look (f:=mm) g4).2 e3,m1,ρ,st1,ar.le bQ,aZ,(Ok.bind h2).wG λqs st2 m2 H2 hq dY dX h3 vs iE=>?_⟩;show BY (af X kt) (C k) (b9.length+1) (.ref a::(vs++[])) H2 Q E0;rw[Yf];exact⟨m2,Z,.obj n::qs,st2,by rw[Xt,iE.length,fT hq],⟨.ref a,vs,rfl,rv.le dY,iE⟩,dX,h3⟩
 cases xs with
 |nil=>
  have e:b9=[]:=by cases b9 with|nil=>rfl|cons a b=>simp at hl
  subst e;refine PE.imp (Fv (zR (Z:=Z) (kt:=kt) T h1 h2 h3) kc km F hr hb .nil zg (wL hs hn l8)) λσ H Q h=>?_;have r:=red σ H Q h;unfold Cw at r ⊢;obtain⟨m,ρ,st,ar,as,h1⟩:=r;refine⟨m,ρ,st,ar,as,h1.mono λq st1 m1 H1 bQ aZ hh v rv=>?_⟩;obtain⟨a,dx,us,e1,e2,e3,m2,ρ2,st2,HQ,dX,h4⟩:=hh v rv;rw[ay] at h4;exact⟨a,dx,us,e1,e2,e3,Ok.here h4 dX [] rfl⟩
 |cons y ys=>exact PE.imp (Iq (zR (Z:=Z) (kt:=kt) T h1 h2 h3) kc km F hr hb .nil zg h (bD (hs y Xh)) (gb λz hz=>hs z (Xb _ hz)) (wL hs hn l8)) red
theorem Nt(T:Good X kt g C)(hm:g.A9 k c b9.length=Λ)(hg:g.gl c=Λ)(h3:aU c=Λ)(hs:∀z∈y::ys,notStar z=Λ)(h:PA X (y::ys) (tA (af X kt) Z (aD C b9))):
  PE X (.Call (.Name c p) (y::ys) [] pos) (tE (af X kt) Z (aa C (.make k c b9))):=by
 obtain⟨A,l,fa,fd,ps,k1,k2,M,F,hr,hb⟩:=T.OV k c b9.length hm;refine PE.imp (Ir M F hr (T.glob hg) k1 hb .nil zg h (pn h3).1 (bD (hs y Xh)) (gb λz hz=>hs z (Xb _ hz))) ?_;rintro σ H Q ⟨m,ρ,st,ar,as,h⟩;rw[tG] at h;refine⟨m,ρ,st,ar,as,(Ok.bind h).wG λqs st1 m1 H1 hq bQ aZ h1 vs iE=>?_⟩;intro x dx hx hdx fi;rw[Yf];have sm:jj H1 (upd H1 dx (.own x)):=ba hdx _;have dX:=aZ.same sm;have To:upd H1 dx (.own x) x=Θ:=by rw[ax (Yj fi)];exact hx
 have dY:Le (af X kt) m1 H1 (m1++[x]) (upd (upd H1 dx (.own x)) x (.ins A dx [])):=(Le.same sm).trans ((Le.same (ba To _)).grow To);have qJ:aA (af X kt) (upd (upd H1 dx (.own x)) x (.ins A dx [])) (m1++[x]) Z (st1++[.ins c []]):=(dX.laid To (.ins A dx [])).t8 (dX.fresh To).2 ⟨A,dx,[],k2,aC,by rw[ax fi];exact aC,rfl⟩;have hi:(m1++[x])[st1.length]?=Δ x:=by rw[Xy (by rw[aZ.len];exact Xj _),aZ.len];simp
 refine⟨m1++[x],Z,.obj st1.length::qs,st1++[.ins c []],by rw[Xt,iE.length,fT hq],⟨.ref x,vs,rfl,⟨x,hi,rfl⟩,iE.le dY⟩,qJ,?_⟩;refine(Ok.bind (Ok.le h1 dY)).mono λq ma m4 H4 yL C1 h4 v rv=>?_;cases q with
 |d d=>cases d with|bz=>refine⟨rv,Ok.here h4 C1 (.ref x) ⟨x,?_,rfl⟩⟩;obtain⟨t,rfl⟩:=yL.pre;rw[Xg (by simp[aZ.len])];exact hi|_=>exact(show False from h4).elim
 |_=>exact(show False from h4).elim
theorem ai.dropLast{K:KB}:∀{ps} {us},ai K H m Z ps us->ai K H m Z ps.dropLast us.dropLast
 |[],us,h=>by cases (show us=[] from h);exact h|[p],us,h=>by obtain⟨v,vs,rfl,r,rs⟩:=(show ∃v vs,us=v::vs/\ak K H m Z p v/\ai K H m Z [] vs from h);cases (show vs=[] from rs);exact rfl|p::q::ps,us,h=>by obtain⟨v,vs,rfl,r,rs⟩:=(show ∃v vs,us=v::vs/\ak K H m Z p v/\ai K H m Z (q::ps) vs from h);obtain⟨v2,vs2,rfl,r2,rs2⟩:=(show ∃v uo,vs=v::uo/\ak K H m Z q v/\ai K H m Z ps uo from rs);have:=ai.dropLast rs;rw[List.dropLast_cons₂,List.dropLast_cons₂];exact⟨v,_,rfl,r,this⟩
theorem ai.at_{K:KB}:∀{ps} {us} {i:Nat},ai K H m Z ps us->ps[i]?=Δ p->∃v,us[i]?=Δ v/\ak K H m Z p v
 |[],us,i,h,e=>by simp at e|q::ps,us,i,h,e=>by obtain⟨v,vs,rfl,r,rs⟩:=(show ∃v vs,us=v::vs/\ak K H m Z q v/\ai K H m Z ps vs from h);cases i with|zero=>rw[Xk] at e;cases e;exact⟨v,rfl,r⟩|succ i=>rw[Xl] at e ⊢;exact ai.at_ rs e
theorem aO.drop{κ:Type}[DecidableEq κ]{K:KB}{k:κ}:∀{kvs} {us},aO K H m Z kvs us->aO K H m Z (wm kvs k) (nC us k)
 |[],us,h=>by cases (show us=[] from h);exact rfl|(q,p)::kvs,us,h=>by
  obtain⟨v,vs,rfl,r,rs⟩:=(show ∃v vs,us=(q,v)::vs/\ak K H m Z p v/\aO K H m Z kvs vs from h);have ih:=aO.drop (k:=k) rs;unfold wm nC at ih ⊢;by_cases hq:q=k;·rw[X4 (by simp[hq]),X4 (by simp[hq])];exact ih
  ·rw[XT (by simp[hq]),XT (by simp[hq])];exact⟨v,_,rfl,r,ih⟩
theorem Nu(hl:(ap.endLine==cp.line)=Λ)(hc:isCall o=Ξ)(ho:PE X o (tE (af X kt) Z (aa C a))):
  PE X (.Call (.Attribute o "pop" ap) [] [] cp) (tE (af X kt) Z (aa C (.D6 a))):=by
 refine PE.imp (Mi aaM PySem.F.slot_list_pop PySem.F.type_list_pop Ml ho (pT hc) hl) ?_;rintro σ H Q ⟨m,r,st,ar,as,h⟩;rw[tF] at h;refine⟨m,r,st,ar,as,(Ok.bind h).mono λx st1 m1 H1 bQ aZ h1 v rv=>?_⟩;obtain⟨⟨p,st2⟩,e1,h2,de⟩:=Ok.of (Ok.bind h1) aZ;clear de;unfold Gx at e1;split at e1
 ·rename_i n;split at e1;·rename_i xs Rk;obtain⟨w',hw,e⟩:=gj e1;cases e;obtain⟨b,hb,eb⟩:=(show ∃b,m1[n]?=Δ b/\v=.ref b from rv);cases eb;obtain⟨b',iP,zs,hz,rz⟩:=aZ.at_ n _ Rk;rw[hb] at iP;cases iP;obtain⟨u,hu,ru⟩:=rz.at_ hw;obtain⟨pR,qJ⟩:=aZ.write (ho:=.lst zs.dropLast) (o':=.lst xs.dropLast) Rk hb λH' e _ f=>⟨_,e,(rz.mono f).dropLast⟩;refine⟨.inl ⟨rfl,zs,.inl (.inl hz)⟩,b,zs,u,rfl,rfl,hz,by rw[rz.length];exact hu,?_⟩;exact h2 m1 _ pR qJ u (ru.le pR)
  ·cases e1
 ·cases e1
theorem Nv(hl:(ap.endLine==cp.line)=Λ)(hc:isCall o=Ξ)(ho:PE X o (tE (af X kt) Z (aa C a)))(hx:PE X x (tE (af X kt) Z (aa C b)))(hs:notStar x=Λ):
  PE X (.Call (.Attribute o "pop" ap) [x] [] cp) (tE (af X kt) Z (aa C (.D5 a b))):=by
 have s1:XO [x] X.env=[(Ξ,eval x X.env)]:=bD hs;refine PE.imp (FG ho hx ⟨pT hc,by rw[s1];rfl,hl,by rw[s1];rfl⟩) ?_;rintro σ H Q ⟨m,ρ,st,ar,as,h0⟩;rw[tB] at h0;refine⟨m,ρ,st,ar,as,(Ok.bind h0).mono λy st1 m1 H1 bQ aZ h1 v rv=>?_⟩;obtain⟨o',e,h2,_⟩:=Ok.of (Ok.bind h1) aZ;obtain⟨n,c,rfl,qj,hm,rfl,ao,hd⟩:=uj aZ e rv;refine⟨c,rfl,GP ao hd,m1,ρ,st1,ar.le bQ,aZ,(Ok.bind h2).mono λk st2 m2 H2 dY dX h3 u ru=>?_⟩;obtain⟨⟨p,st3⟩,e2,h4,de⟩:=Ok.of (Ok.bind h3) dX;clear de;unfold Gw at e2;dsimp only at e2;split at e2;·rename_i kvs qx;obtain⟨kk,DV,e3⟩:=cb e2;obtain⟨w',hw,e4⟩:=gj e3;cases e4;obtain⟨b,hb,eb⟩:=(show ∃b,m2[n]?=Δ b/\V.ref c=.ref b from rv.le dY);cases eb;obtain⟨b',iP,us,hu,rs⟩:=dX.at_ n _ qx;rw[hb] at iP;cases iP;obtain⟨v2,Tp,VY⟩:=(rs.val (k:=kk)).2 _ hw;obtain⟨pR,qJ⟩:=dX.write (ho:=.dK (nC us kk)) (o':=.dK (wm kvs kk)) qx hb λH' e _ f=>⟨_,e,(rs.mono f).drop⟩;refine⟨us,kk,v2,hu,ru.key DV,Tp,?_⟩;exact h4 m2 _ pR qJ v2 (VY.le pR)
 ·cases e2
theorem JE(hl:(ap.endLine==cp.line)=Λ)(hc:isCall o=Ξ)(ho:PE X o (tE (af X kt) Z (aa C a)))(hx:PE X x (tE (af X kt) Z (aa C b)))(hs:notStar x=Λ)(hy:PE X y (tE (af X kt) Z (aa C c)))(sD:notStar y=Λ):
  PE X (.Call (.Attribute o "setdefault" ap) [x,y] [] cp) (tE (af X kt) Z (aa C (.tp a b c))):=by
 have s1:XO [x,y] X.env=[(Ξ,eval x X.env),(Ξ,eval y X.env)]:=(bD hs).trans (by rw[bD sD];rfl);refine PE.imp (Gi ho hx hy ⟨pT hc,by rw[s1];rfl,hl,by rw[s1];rfl⟩) ?_;rintro σ H Q ⟨m,ρ,st,ar,as,h0⟩;rw[kM] at h0;refine⟨m,ρ,st,ar,as,(Ok.bind h0).mono λy st1 m1 H1 bQ aZ h1 v rv=>?_⟩;obtain⟨o',e,h2,_⟩:=Ok.of (Ok.bind h1) aZ;obtain⟨n,c,rfl,qj,hm,rfl,ao,hd⟩:=uj aZ e rv;refine⟨c,rfl,GP ao hd,m1,ρ,st1,ar.le bQ,aZ,(Ok.bind h2).mono λk st2 m2 H2 dY dX h3 u ru=>?_⟩;refine⟨m2,ρ,st2,(ar.le bQ).le dY,dX,(Ok.bind h3).mono λz st3 m3 H3 pR qJ h4 w' mE=>?_⟩;obtain⟨⟨p,ma⟩,e2,h5,de⟩:=Ok.of (Ok.bind h4) qJ;clear de;unfold qz at e2;dsimp only at e2;split at e2
 ·rename_i kvs qx;split at e2
  ·rename_i eZ;obtain⟨kk,DV,e3⟩:=gj e2;obtain⟨b,hb,eb⟩:=(show ∃b,m3[n]?=Δ b/\V.ref c=.ref b from(rv.le dY).le pR);cases eb;obtain⟨b',iP,us,hu,rs⟩:=qJ.at_ n _ qx;rw[hb] at iP;cases iP;have rr:=rs.val (k:=kk);refine⟨us,kk,hu,(ru.le pR).key DV,by rw[rs.length,<-dv];exact eZ,λv2 Tp=>?_,λhn=>?_⟩;·cases hv:fj kvs kk with|none=>rw[hv,Tp] at rr;cases rr.1|some w2=>rw[hv] at e3;cases e3;obtain⟨v3,e4,r3⟩:=rr.2 _ hv;rw[Tp] at e4;cases e4;exact Ok.here h5 qJ v2 r3
   ·cases hv:fj kvs kk with|some w2=>rw[hv,hn] at rr;cases rr.1|none=>rw[hv] at e3;cases e3;obtain⟨yL,C1⟩:=qJ.write (ho:=.dK (putK us kk w')) (o':=.dK (lZ kvs kk z)) qx hb λH' e _ f=>⟨_,e,(rs.mono f).put (f _ _ mE)⟩;exact h5 m3 _ yL C1 w' (mE.le yL)
  ·cases e2
 ·cases e2
end
section
variable(C:Nat->List P->aI->R P)
def SE(e':E):Prop:=∀(kt:KT) (X:Cx) (g:G) (e:Expr) (Z:List Addr),Good X kt g C->gP g e' e=Λ->PE X e (tE (af X kt) Z (aa C e'))/\PT X e (tT (af X kt) Z (b8 (aa C e')))
def SEs(es:List E):Prop:=(∀(kt:KT) (X:Cx) (g:G) (xs:List Expr) (Z:List Addr),Good X kt g C->gZ g es xs=Λ->PA X xs (tA (af X kt) Z (aD C es)))/\
 (∀(kt:KT) (X:Cx) (g:G) (xs:List Expr) (Z:List Addr) (pos:Pos),Good X kt g C->gZ g es xs=Λ->PE X (.BoolOp .And xs pos) (tE (af X kt) Z (gg C es))/\PW X (.BoolOp .And xs pos) (tT (af X kt) Z (b8 (gg C es))))/\
 (∀(kt:KT) (X:Cx) (g:G) (xs:List Expr) (Z:List Addr) (pos:Pos),Good X kt g C->gZ g es xs=Λ->PE X (.BoolOp .Or xs pos) (tE (af X kt) Z (gh C es))/\PW X (.BoolOp .Or xs pos) (tT (af X kt) Z (b8 (gh C es))))
def SM(o:Option E):Prop:=(∀(kt:KT) (X:Cx) (g:G) (x:Option Expr) (Z:List Addr),Good X kt g C->VI g o x=Λ->PO X x (tO (af X kt) Z (ic C o)))/\
 (∀(kt:KT) (X:Cx) (g:G) (ifs:List Expr),Good X kt g C->VJ g o ifs=Λ->FH X ifs (OX (af X kt) (bB C o)))
def SL(l:L):Prop:=∀(kt:KT) (X:Cx) (g:G) (e:Expr) (Z:List Addr),Good X kt g C->Lf g l e=Λ->PE X e (tL (af X kt) Z (bc C l))
def SW(w:W):Prop:=∀(kt:KT) (X:Cx) (g:G) (e tg:Expr) (Z:List Addr),Good X kt g C->VL g w e=Λ->(BX w=Λ->∃es k p,tg=.Tuple es k p)->PI X tg e (tW (af X kt) Z (cn C w))
variable{C}
theorem wM(h:∀r st,d r st=.no):PE X e (tE (af X kt) Z d)/\PT X e (tT (af X kt) Z (b8 d)):=by
 constructor;·rintro η s σ H Q I ⟨m,r,st,_,_,q⟩;rw[h] at q;exact(show False from q).elim
 ·rintro η s σ H Q I ⟨m,r,st,_,_,q⟩;unfold b8 at q;rw[h] at q;exact(show False from q).elim
theorem pw_no(h:∀r st,d r st=.no):PW X e (tT (af X kt) Z (b8 d)):=by rintro wh η s σ H Q I ⟨m,r,st,_,_,q⟩;unfold b8 at q;rw[h] at q;exact(show False from q).elim
theorem both(h:PE X e (tE (af X kt) Z d))(he:∀whole,acQ e X.env whole=(do let v<-whole;ab7 e.pos;acr [v] (truthy v))):PE X e (tE (af X kt) Z d)/\PT X e (tT (af X kt) Z (b8 d)):=⟨h,Jl h he⟩
mutual
theorem aH:∀e':E,SE C e'
 |.var i=>λkt X g e Z T h=>by refine aL h λ_ _ h=>?_;simp only[W9,qqq] at h;exact both (zR T h.1.1 h.1.2 h.2) λ_=>rfl|.cst d=>λkt X g e Z T h=>by
  rcases Bool.or_eq_true_iff.mp h with h|h;·refine nY h λc _ _ h=>?_;cases d with|int i=>obtain rfl:=of_decide_eq_true h;exact both (zS E7 λ_ _=>rfl) λ_=>rfl|bl i=>obtain rfl:=of_decide_eq_true h;exact both (zS KE λ_ _=>rfl) λ_=>rfl|bz=>obtain rfl:=of_decide_eq_true h;exact both (zS E8 λ_ _=>rfl) λ_=>rfl|str i=>obtain rfl:=of_decide_eq_true h;exact both (zS E9 λ_ _=>rfl) λ_=>rfl|tup _=>exact ft h|pl _=>exact ft h
  ·refine aL h λx _ h=>?_;cases d with|int i=>have h:=Bool.and_eq_true_iff.mp h;have h':=Bool.and_eq_true_iff.mp h.1;obtain⟨t,ht⟩:=T.cs _ _ (of_decide_eq_true h'.2);exact both (zS (Ib (v:=.int _) (T.glob h'.1) ht ⟨t,rfl⟩ (pn h.2).1) λ_ _=>rfl) λ_=>rfl|_=>exact ft h
 |.op o a b=>λkt X g e Z T h=>by refine Ef h λ_ _ _ _ h=>?_;simp only[W9,qqq] at h;obtain⟨⟨rfl,h1⟩,h2⟩:=h;exact both (VN (aH a kt X g _ Z T h1).1 (aH b kt X g _ Z T h2).1) λ_=>rfl|.D5 a b=>λkt X g e Z T h=>by refine aX h λ_ _ _ _ h=>?_;refine bR h λ_ _ _ h=>?_;refine aG h λ_ _ h=>?_;simp only[W9,qqq,Xr,XJ] at h;obtain⟨⟨⟨⟨⟨⟨⟨rfl,rfl⟩,h0⟩,rfl⟩,h1⟩,h2⟩,h3⟩,h4⟩:=h;exact both (Nv h0 h1 (aH a kt X g _ Z T h2).1 (aH b kt X g _ Z T h3).1 h4) λ_=>rfl|.tp a b c=>λkt X g e Z T h=>by refine aX h λ_ _ _ _ h=>?_;refine bR h λ_ _ _ h=>?_;refine aG h λ_ _ h=>?_;refine aG h λ_ _ h=>?_;simp only[W9,qqq,Xr,XJ] at h;obtain⟨⟨⟨⟨⟨⟨⟨⟨⟨rfl,rfl⟩,h0⟩,rfl⟩,h1⟩,h2⟩,h3⟩,h4⟩,h5⟩,h6⟩:=h;exact both (JE h0 h1 (aH a kt X g _ Z T h2).1 (aH b kt X g _ Z T h3).1 h4 (aH c kt X g _ Z T h5).1 h6) λ_=>rfl|.D6 a=>λkt X g e Z T h=>by refine aX h λ_ _ _ _ h=>?_;refine bR h λ_ _ _ h=>?_;simp only[W9,qqq,Xr,XJ] at h;obtain⟨⟨⟨⟨⟨rfl,rfl⟩,h0⟩,rfl⟩,h1⟩,h2⟩:=h;exact both (Nu h0 h1 (aH a kt X g _ Z T h2).1) λ_=>rfl|.attr c f i=>λkt X g e Z T h=>by refine bR h λ_ _ _ h=>?_;refine aL h λ_ _ h=>?_;simp only[W9,qqq] at h;obtain⟨⟨⟨⟨rfl,h1⟩,h2⟩,h3⟩,h4⟩:=h;exact both (Nf T h1 h2 h3 h4) λ_=>rfl|.pf k c m i es=>λkt X g e Z T h=>by refine aX h λ_ _ _ _ h=>?_;refine bR h λ_ _ _ h=>?_;refine aL h λ_ _ h=>?_;simp only[W9,qqq,Xr] at h;obtain⟨⟨⟨⟨⟨⟨⟨⟨rfl,rfl⟩,h1⟩,h2⟩,h3⟩,h4⟩,h5⟩,h6⟩,h7⟩:=h;exact both (Nr T h1 h2 h3 h4 h7 h6 (cD h5) (gk h5) ((dw es).1 kt X g _ Z T h5)) λ_=>rfl|.make k c es=>λkt X g e Z T h=>by refine aX h λ_ xs iG _ h=>?_;refine aL h λx p h=>?_;cases xs with|nil=>simp at h|cons y ys=>simp only[W9,qqq,Xr] at h;obtain⟨⟨⟨⟨⟨⟨rfl,rfl⟩,h1⟩,h2⟩,h3⟩,h4⟩,_⟩:=h;exact both (Nt T h1 h2 h3 (cD h4) ((dw es).1 kt X g _ Z T h4)) λ_=>rfl
 |.not a=>λkt X g e Z T h=>by refine zP h λ_ _ _ h=>?_;simp only[W9,qqq] at h;obtain⟨rfl,h⟩:=h;exact⟨Q0 (aH a kt X g _ Z T h).1,M7 (aH a kt X g _ Z T h).2⟩|.cmp o a b=>λkt X g e Z T h=>by refine qH h λ_ _ _ _ h=>?_;refine aG h λ_ _ h=>?_;refine aG h λ_ _ h=>?_;simp only[W9,qqq,XJ,Xr] at h;obtain⟨⟨⟨⟨⟨rfl,rfl⟩,rfl⟩,h1⟩,h2⟩,h3⟩:=h;exact⟨QZ T (aH a kt X g _ Z T h1).1 (aH b kt X g _ Z T h2).1 h3,M6 T (aH a kt X g _ Z T h1).1 (aH b kt X g _ Z T h2).1 h3⟩|.chain o o' a b c=>λkt X g e Z T h=>by refine qH h λ_ _ _ _ h=>?_;refine aG h λ_ _ h=>?_;refine aG h λ_ _ h=>?_;refine aG h λ_ _ h=>?_;refine aG h λ_ _ h=>?_;simp only[W9,qqq,XJ,Xr] at h;obtain⟨⟨⟨⟨⟨⟨⟨⟨rfl,rfl⟩,rfl⟩,rfl⟩,h1⟩,h2⟩,h3⟩,h4⟩,h5⟩:=h;exact⟨Jm T (aH a kt X g _ Z T h1).1 (aH b kt X g _ Z T h2).1 (aH c kt X g _ Z T h3).1 h4 h5,GL T (aH a kt X g _ Z T h1).1 (aH b kt X g _ Z T h2).1 (aH c kt X g _ Z T h3).1 h4 h5⟩|.and es=>λkt X g e Z T h=>by refine ug h λop xs pos h=>?_;simp only[W9,qqq] at h;obtain⟨rfl,h⟩:=h;obtain⟨h1,h2⟩:=(dw es).2.1 kt X g xs Z pos T h;have e1:aa C (.and es)=gg C es:=rfl;rw[e1];exact⟨h1,h2.pt⟩|.or es=>λkt X g e Z T h=>by refine ug h λop xs pos h=>?_;simp only[W9,qqq] at h;obtain⟨rfl,h⟩:=h;obtain⟨h1,h2⟩:=(dw es).2.2 kt X g xs Z pos T h;have e1:aa C (.or es)=gh C es:=rfl;rw[e1];exact⟨h1,h2.pt⟩|.tup es=>λkt X g e Z T h=>by refine pO h λ_ _ _ h=>?_;exact both (Q3 ((dw es).1 kt X g _ Z T h)) λ_=>rfl|.lst mu l=>λkt X g e Z T h=>by have h1:=Q4 (mu:=mu) (Nw l kt X g e Z T h);refine both h1 λwhole=>?_;cases l with|dZ es=>exact zO h λ_ _ _=>rfl|comp w ts js c e=>exact gY h λ_ _ _ _ _=>rfl|fZ es=>exact aX h λ_ _ _ _ _=>rfl|zip a b=>exact aX h λ_ _ _ _ _=>rfl|cj e js c ee=>exact gY h λ_ _ _ _ _=>rfl|keys e=>exact aX h λ_ _ _ _ _=>rfl
 |.call f es=>λkt X g e Z T h=>by refine aX h λ_ _ _ _ h=>?_;refine aL h λ_ _ h=>?_;simp only[W9,qqq,Xr] at h;obtain⟨⟨⟨⟨rfl,h1⟩,h2⟩,h3⟩,h4⟩:=h;exact both (s_call T h1 h2 h3 (cD h4) (gk h4) ((dw es).1 kt X g _ Z T h4)) λ_=>rfl|.Gq a t=>λkt X g e Z T h=>by refine aX h λ_ _ _ _ h=>?_;refine aL h λ_ _ h=>?_;refine aG h λ_ _ h=>?_;refine aG h λ_ _ h=>?_;refine aL h λ_ _ h=>?_;simp only[W9,qqq,Xr] at h;obtain⟨⟨⟨⟨⟨⟨⟨⟨rfl,rfl⟩,rfl⟩,h1⟩,rfl⟩,h2⟩,h3⟩,h4⟩,h5⟩:=h;exact both (Q5 T h1 h3 h2 (aH a kt X g _ Z T h4).1 h5) λ_=>rfl|.bf f es=>λkt X g e Z T h=>by refine aX h λf0 xs iG pos h=>?_;refine aL h λ_ _ h=>?_;simp only[W9,qqq,XJ,Xr] at h;obtain⟨⟨⟨⟨rfl,rfl⟩,h1⟩,h2⟩,h3⟩:=h;cases xs with|nil=>cases h3|cons x xs=>exact both (VT T h1 (cD h2) ((dw es).1 kt X g _ Z T h2)) λ_=>rfl
 |.ix a b=>λkt X g e Z T h=>by refine jd h λ_ _ _ h=>?_;simp only[W9,XJ] at h;exact both (VR T.hu (aH a kt X g _ Z T h.1.1).1 (aH b kt X g _ Z T h.1.2).1 h.2) λ_=>rfl|.slice a lo hi=>λkt X g e Z T h=>by refine jd h λ_ _ _ h=>?_;refine Eg h λ_ _ _ _ h=>?_;simp only[W9,YQ] at h;obtain⟨⟨⟨rfl,h1⟩,h2⟩,h3⟩:=h;exact both (Jv (aH a kt X g _ Z T h1).1 ((pV lo).1 kt X g _ Z T h2) ((pV hi).1 kt X g _ Z T h3)) λ_=>rfl|.D7 k d=>λkt X g e Z T h=>by refine zN h λ_ _ _ h=>?_;refine aG h λ_ _ h=>?_;refine ud h λ_ h=>?_;refine aG h λ_ _ h=>?_;simp only[W9,Xr] at h;obtain⟨⟨⟨rfl,rfl⟩,h1⟩,h2⟩:=h;exact both (Nj T h1 h2) λ_=>rfl|.pd t=>λkt X g e Z T h=>by refine zN h λ_ _ _ h=>?_;simp only[W9,Xr] at h;obtain⟨rfl,rfl⟩:=h;exact both Nh λ_=>rfl|.nP i es=>λkt X g e Z T h=>by refine aX h λ_ xs iG _ h=>?_;refine aL h λx p h=>?_;cases xs with|nil=>simp at h|cons y ys=>simp only[W9,qqq,Xr] at h;obtain⟨⟨⟨⟨⟨⟨rfl,h1⟩,h2⟩,h3⟩,h4⟩,_⟩,A6⟩:=h;exact both (Jq T A6 h1 h2 h3 (cD h4) ((dw es).1 kt X g _ Z T h4)) λ_=>rfl
 |.iT f es ls=>λkt X g e Z T h=>by refine aX h λ_ xs iG _ h=>?_;refine aL h λx p h=>?_;cases xs with|nil=>simp at h|cons y ys=>simp only[W9,qqq,Xr] at h;obtain⟨⟨⟨⟨⟨rfl,h1⟩,h2⟩,h3⟩,h4⟩,_⟩:=h;exact both (T.iT f x _ ls h1 Z y ys es p _ rfl h2 h3 (cD h4) ((dw es).1 kt X g _ Z T h4)) λ_=>rfl
 |.jb i es ls=>λkt X g e Z T h=>by refine aX h λ_ xs iG _ h=>?_;refine aL h λx p h=>?_;cases xs with|nil=>simp at h|cons y ys=>simp only[W9,qqq,Xr] at h;obtain⟨⟨⟨⟨⟨⟨rfl,h1⟩,h2⟩,h3⟩,h5⟩,h4⟩,_⟩:=h;exact both (T.jb i x ls h5 Z y ys es p _ h1 h2 h3 (cD h4) ((dw es).1 kt X g _ Z T h4)) λ_=>rfl
 |.lam k=>λkt X g e Z T h=>by refine BV h λ_ _ _ _ h=>?_;exact both (T.lam k _ _ _ _ h Z) λ_=>rfl|.index a b=>λkt X g e Z T h=>by refine aX h λ_ _ _ _ h=>?_;refine bR h λ_ _ _ h=>?_;refine aG h λ_ _ h=>?_;simp only[W9,qqq,Xr,XJ] at h;obtain⟨⟨⟨⟨⟨⟨⟨rfl,rfl⟩,h0⟩,rfl⟩,h1⟩,h2⟩,h3⟩,h4⟩:=h;exact both (JB h0 h1 (aH a kt X g _ Z T h2).1 (aH b kt X g _ Z T h3).1 h4) λ_=>rfl
theorem dw:∀es:List E,SEs C es
 |[]=>⟨λkt X g xs Z T h=>by rw[kT h];exact uk,λkt X g xs Z pos T h=>by exact⟨(wM λr st=>rfl).1,pw_no λr st=>rfl⟩,λkt X g xs Z pos T h=>⟨(wM λr st=>rfl).1,pw_no λr st=>rfl⟩⟩|a::b9=>by
  have ih:=dw b9;have ia:=aH a;refine⟨λkt X g xs Z T h=>?_,λkt X g xs Z pos T h=>?_,λkt X g xs Z pos T h=>?_⟩;·obtain⟨x,ys,rfl,h1,h2,h3⟩:=fU h;exact kR (ia kt X g x Z T h1).1 (ih.1 kt X g ys Z T h3) h2
  ·obtain⟨x,ys,rfl,h1,h2,h3⟩:=fU h;cases b9 with|nil=>rw[kT h3];exact⟨M8 (ia kt X g x Z T h1).1,Jo (ia kt X g x Z T h1).2⟩|cons b bs=>obtain⟨y,zs,rfl,_,_,_⟩:=fU h3;obtain⟨i1,i2⟩:=ih.2.1 kt X g (y::zs) Z pos T h3;exact⟨M9 (ia kt X g x Z T h1).1 i1,Jp (ia kt X g x Z T h1).2 i2⟩
  ·obtain⟨x,ys,rfl,h1,h2,h3⟩:=fU h;cases b9 with|nil=>rw[kT h3];exact⟨Q1 (ia kt X g x Z T h1).1,Na (ia kt X g x Z T h1).2⟩|cons b bs=>obtain⟨y,zs,rfl,_,_,_⟩:=fU h3;obtain⟨i1,i2⟩:=ih.2.2 kt X g (y::zs) Z pos T h3;exact⟨Q2 (ia kt X g x Z T h1).1 i1,Nb (ia kt X g x Z T h1).2 i2⟩
theorem pV:∀o:Option E,SM C o
 |none=>⟨λkt X g x Z T h=>by
   have:x=Θ:=YQ.mp h;rw[this];exact Jt,λkt X g ifs T h=>by
   have:ifs=[]:=Xr.mp h;rw[this];exact Ei⟩
 |some a=>by
  have ia:=aH a;refine⟨λkt X g x Z T h=>?_,λkt X g ifs T h=>?_⟩;·refine ud h λ_ h=>?_;exact Ju (ia kt X g _ Z T h).1
  ·refine aG h λ_ _ h=>?_;simp only[W9,Xr] at h;obtain⟨rfl,h⟩:=h;exact Ej λZ=>(ia kt X g _ Z T h).2
theorem Nw:∀l:L,SL C l
 |.dZ es=>λkt X g e Z T h=>by refine zO h λ_ _ h=>?_;exact Nc ((dw es).1 kt X g _ Z T h)|.comp w ts js c ee=>λkt X g e Z T h=>by
  refine gY h λelt gens sc pos' h=>?_;refine aG h λge r h=>?_;refine rW h λtg iter ifs a h=>?_;refine aL h λx pos h=>?_;simp only[W9,qqq,XJ,Xr] at h;obtain⟨⟨⟨⟨⟨⟨⟨⟨⟨⟨rfl,rfl⟩,rfl⟩,h1⟩,VZ⟩,h2⟩,h3⟩,h4⟩,h5⟩,h6⟩,h7⟩:=h;have B:=T.xX h2;have T':∀η fp Cc s H,Good (mF X η (gO g x js) sc fp Cc s H) kt (g.inner (gO g x js) sc) C:=λη fp Cc s H=>T.inner (js:=js) B.fP;refine PE.imp (CG T.calm B (xY w kt X g iter (.Name x pos) Z T h1 (λz=>by rw[VZ] at z;cases z)) (λη fp Cc s H=>fg (i:=0) h4 rfl (.inl ((T' η fp Cc s H).loc x h3)) (.inr ((T' η fp Cc s H).loc x h3)))
   (λη fp Cc s H=>(pV c).2 kt _ _ _ (T' η fp Cc s H) h5) (λη fp Cc s H=>JC λZ=>(aH ee kt _ _ _ Z (T' η fp Cc s H) h6).1) (λy=>?_)) λσ H Q q=>z8 q
  cases iter<;>first
   |rfl
   |exact absurd (show Λ=Ξ from h7) Yc.symm
 |.keys a=>λkt X g e Z T h=>by refine aX h λ_ _ _ _ h=>?_;refine aL h λ_ _ h=>?_;refine aG h λ_ _ h=>?_;simp only[W9,qqq,Xr] at h;obtain⟨⟨⟨⟨⟨rfl,rfl⟩,rfl⟩,h1⟩,h2⟩,h3⟩:=h;exact Nd T h1 (aH a kt X g _ Z T h2).1 h3|.fZ es=>λkt X g e Z T h=>by refine aX h λ_ _ _ _ h=>?_;refine aL h λ_ _ h=>?_;refine aG h λ_ _ h=>?_;refine aX h λ_ _ _ _ h=>?_;refine aL h λ_ _ h=>?_;simp only[W9,qqq,Xr] at h;obtain⟨⟨⟨⟨⟨⟨⟨rfl,rfl⟩,rfl⟩,rfl⟩,h1⟩,rfl⟩,h2⟩,h3⟩:=h;exact Nm T h2 h1 h3 ((dw es).1 kt X g _ Z T h3)|.zip a b=>λkt X g e Z T h=>by refine aX h λ_ _ _ _ h=>?_;refine aL h λ_ _ h=>?_;refine aG h λ_ _ h=>?_;refine aX h λ_ _ _ _ h=>?_;refine aL h λ_ _ h=>?_;refine aG h λ_ _ h=>?_;refine aG h λ_ _ h=>?_;simp only[W9,qqq,Xr] at h;obtain⟨⟨⟨⟨⟨⟨⟨⟨⟨⟨⟨rfl,rfl⟩,rfl⟩,rfl⟩,rfl⟩,h1⟩,rfl⟩,h2⟩,h3⟩,h4⟩,h5⟩,h6⟩:=h;exact Nn T h2 h1 (aH a kt X g _ Z T h3).1 h4 (aH b kt X g _ Z T h5).1 h6|.cj a js c ee=>λkt X g e Z T h=>by
  refine gY h λelt gens sc pos' h=>?_;refine aG h λge r h=>?_;refine rW h λtg iter ifs a h=>?_;refine aL h λx pos h=>?_;simp only[W9,qqq,XJ,Xr] at h;obtain⟨⟨⟨⟨⟨⟨⟨⟨rfl,rfl⟩,h1⟩,h2⟩,h3⟩,h4⟩,h5⟩,h6⟩,h7⟩:=h;have B:=T.xX h2;have T':∀η fp Cc s H,Good (mF X η (gO g x js) sc fp Cc s H) kt (g.inner (gO g x js) sc) C:=λη fp Cc s H=>T.inner (js:=js) B.fP;refine PE.imp (CG T.calm B (rO (aH a kt X g iter Z T h1).1) (λη fp Cc s H=>fg (i:=0) h4 rfl (.inl ((T' η fp Cc s H).loc x h3)) (.inr ((T' η fp Cc s H).loc x h3)))
   (λη fp Cc s H=>(pV c).2 kt _ _ _ (T' η fp Cc s H) h5) (λη fp Cc s H=>JC λZ=>(aH ee kt _ _ _ Z (T' η fp Cc s H) h6).1) (λy=>?_)) λσ H Q q=>wK q
  cases iter<;>first
   |rfl
   |exact absurd (show Λ=Ξ from h7) Yc.symm
theorem xY:∀w:W,SW C w
 |.ex a=>λkt X g e tg Z T h _=>by have h:=Bool.and_eq_true_iff.mp h;exact Q8 (aH a kt X g e Z T h.1).1|.fZ es=>λkt X g e tg Z T h _=>by refine aX h λ_ _ _ _ h=>?_;refine aL h λ_ _ h=>?_;simp only[W9,qqq,Xr] at h;obtain⟨⟨⟨rfl,rfl⟩,h1⟩,h2⟩:=h;exact Nk T h1 h2 ((dw es).1 kt X g _ Z T h2)|.enum a=>λkt X g e tg Z T h ht=>by obtain⟨es,k,p,rfl⟩:=ht rfl;refine aX h λ_ _ _ _ h=>?_;refine aL h λ_ _ h=>?_;refine aG h λ_ _ h=>?_;simp only[W9,qqq,Xr] at h;obtain⟨⟨⟨⟨⟨rfl,rfl⟩,rfl⟩,h1⟩,h2⟩,h3⟩:=h;exact JA T h1 (aH a kt X g _ Z T h2).1 h3
end
end
def ir(g:G)(x:Str):Bool:=decide (g.names.lookup x=Δ .local)||decide (g.names.lookup x=Δ .cell)
def Rl(g:G)(t:Tg)(e:Expr):Bool:=match t with|.nm i=>bw e λx _=>decide (g.N[i]?=Δ x)&&ir g x|.tup _=>Ξ|.two i j=>rY e λes _ _=>bb es λa r=>bw a λx _=>bb r λb r'=>bw b λy _=>r'.isEmpty&&decide (g.N[i]?=Δ x)&&ir g x&&decide (g.N[j]?=Δ y)&&ir g y
def GQ:Tg->Bool
 |.two _ _=>Λ|_=>Ξ
def C5(e:Expr):Bool:=e.ctorIdx==9||e.ctorIdx==10
mutual
def rf(g:G):S->Stmt->Bool
 |.ret e=>λs=>lK s λv _=>xQ v λx=>gP g e x|.D8=>λs=>lK s λv _=>v.isNone|.set i e=>λs=>jt s λts v _=>bb ts λt r=>bw t λx _=>r.isEmpty&&decide (g.N[i]?=Δ x)&&ir g x&&gP g e v&&!C5 v|.ifs c a b=>λs=>GD s λx ys zs _=>gP g c x&&ur g a ys&&ur g b zs|.ff t w b=>λs=>pM s λtg iter body orelse _=>orelse.isEmpty&&Rl g t tg&&VL g w iter&&ur g b body&&!cC iter&&(!BX w||GQ t)|.iH t e b=>λs=>pM s λtg iter body orelse _=>orelse.isEmpty&&Rl g t tg&&gP g e iter&&ur g b body&&!cC iter&&!GQ t|.BP i j a b=>λs=>pM s λtg iter body orelse _=>bV iter λf0 xs iG cp=>bT f0 λo n ap=>orelse.isEmpty&&xs.isEmpty&&iG.isEmpty&&Rl g (.two i j) tg&&decide (n="items")&&!isCall o&&(ap.endLine==cp.line)&&gP g a o&&ur g b body|.jc i j a b=>λs=>pM s λtg iter body orelse _=>bV iter λf0 xs iG cp=>bw f0 λn _=>bb xs λo r=>orelse.isEmpty&&r.isEmpty&&iG.isEmpty&&Rl g (.two i j) tg&&decide (n="enumerate")&&g.gl "enumerate"&&notStar o&&gP g a o&&ur g b body|.kK c b=>λs=>uf s λx body orelse _=>orelse.isEmpty&&gP g c x&&ur g b body|.nL i k=>λs=>iq s λname params body V0 rt tps scope tsc bind pos=>V0.isEmpty&&rt.isNone&&tps.isEmpty&&tsc.isNone&&decide (bind=name)&&g.QV i k name params body scope pos|.expr e=>λs=>rX s λx _=>gP g e x&&!mO x|.app a e=>λs=>rX s λc _=>bV c λf0 xs iG cp=>bT f0 λo n ap=>bb xs λx r=>r.isEmpty&&iG.isEmpty&&(ap.endLine==cp.line)&&decide (n="append")&&!isCall o&&gP g a o&&gP g e x&&notStar x|.put a i e=>λs=>jt s λts v _=>bb ts λt r=>gi t λo k _=>r.isEmpty&&gP g a o&&gP g i k&&gP g e v&&!mO v|.lX c f i e=>λs=>jt s λts v _=>bb ts λt r=>bT t λo n _=>bw o λx _=>r.isEmpty&&decide (n=f)&&g.yK c f&&decide (g.N[i]?=Δ x)&&g.xN x&&aU x&&gP g e v
def ur(g:G):List S->List Stmt->Bool
 |[]=>λl=>l.isEmpty|s::ss=>λl=>bb l λx xs=>rf g s x&&ur g ss xs
end
inductive tS (K:KB) (Z:List Addr) (d:bX->aI->R Fl) (D:Ends) (σ:L2.St) (H:Hp):Prop
 |mk (m:List Addr) (r:bX) (st:aI) (a:cu K H m Z r σ) (b:aA K H m Z st) (c:Ok K Z (d r st) m H (qF K Z D)):tS K Z d D σ H
structure fL(X:Cx)(kt:KT)(g:G)(C:Nat->List P->aI->R P):Prop extends Good X kt g C where
 cell:∀x,g.names.lookup x=Δ .cell->X.env.scope.names.lookup x=Δ .cell
 nd:g.N.Nodup
 Tq:∀x,g.names.lookup x=Δ .cell->X.fn x=Λ
 nL:∀i k name params body scope pos,g.QV i k name params body scope pos=Λ->∀Z,PS X (.FunctionDef name params body [] Θ [] scope Θ name pos) (tS (af X kt) Z (aP C (.nL i k)))
 own:PassesOwn (model X.prog X.w) X.A X.env X.xe
section
variable{X:Cx}{g:G}{C:Nat->List P->aI->R P}{Z:List Addr}
theorem PS.imp{st:Stmt}(h:PS X st t)(i:∀D σ H,t' D σ H->t D σ H):PS X st t':=λη s σ H D I q=>h η s σ H D I (i D σ H q)
theorem my.imp{st:List Stmt}(h:my X st t)(i:∀D σ H,t' D σ H->t D σ H):my X st t':=λη s σ H D I q=>h η s σ H D I (i D σ H q)
theorem fL.xZ(T:fL X kt g C)(h:ir g x=Λ):Loc X.env.scope x:=by
 unfold ir at h;simp only[ZO,qqq] at h;rcases h with h|h;·exact .inl (T.loc x h)
 ·exact .inr (T.cell x h)
theorem fL.JF(T:fL X kt g C)(h:ir g x=Λ):X.fn x=Λ\/X.env.scope.names.lookup x=Δ .local:=by
 unfold ir at h;simp only[ZO,qqq] at h;rcases h with h|h;·exact .inr (T.loc x h)
 ·exact .inl (T.Tq x h)
theorem cu.set{K:KB}(A:cu K H m Z r σ)(rv:ak K H m Z p v):cu K H m Z (r.set i (Δ p)) (σ.set i (Δ v)):=by
 refine⟨by rw[YL,YL];exact A.len,λj q h=>?_⟩;by_cases hj:i=j
 ·subst hj;have hi:i < r.length:=by have:=(qqz h).1;rwa [YL] at this
  rw[XC hi] at h;cases h;exact⟨v,by rw[XC (by rw[<-A.len];exact hi)],rv⟩
 ·rw[Xe hj] at h;obtain⟨w',e,r'⟩:=A.at_ j q h;exact⟨w',by rw[Xe hj];exact e,r'⟩
theorem Rm(h:PE X x (tE (af X kt) Z (aa C e))):PS X (.Return (Δ x) pos) (tS (af X kt) Z (aP C (.ret e))):=by refine PS.imp (LN h) ?_;rintro D σ H ⟨m,r,st,ar,as,h⟩;rw[pF] at h;exact⟨m,r,st,ar,as,(Ok.bind h).mono λp st1 m1 H1 bQ aZ h1=>Ok.here h1 aZ⟩
theorem Nx:PS X (.Return Θ pos) (tS (af X kt) Z (aP C .D8)):=by refine PS.imp Ig ?_;rintro D σ H ⟨m,r,st,ar,as,h⟩;rw[tM] at h;exact Ok.here h as .bz rfl
theorem ya(h:mO x=Ξ):aav x t line env=pure Ξ:=by
 cases x<;>first
  |rfl
  |exact absurd (show Λ=Ξ from h) Yc.symm
theorem Rn(T:fL X kt g C)(hi:g.N[i]?=Δ x)(hl:ir g x=Λ)(hc:mO v=Ξ)(h:PE X v (tE (af X kt) Z (aa C e))):PS X (.Assign [.Name x p] v pos) (tS (af X kt) Z (aP C (.set i e))):=by refine PS.imp (Fd (i:=i) (by rw[T.N];exact T.nd) (by rw[T.N];exact hi) (T.xZ hl) h (ya hc) (T.JF hl)) ?_;rintro D σ H ⟨m,r,st,ar,as,h⟩;rw[pH] at h;refine⟨m,r,st,ar,as,(Ok.bind h).mono λq st1 m1 H1 bQ aZ h1 v rv=>?_⟩;exact Ok.here h1 aZ (σ.set i (Δ v)) ((ar.le bQ).set rv)
theorem GR(h:gP g e (.ListComp elt gens sc pos)=Λ):(∃mu w ts js c ee,e=.lst mu (.comp w ts js c ee))\/∃mu a js c ee,e=.lst mu (.cj a js c ee):=by
 cases e with
 |lst mu l=>cases l with|comp w ts js c ee=>exact .inl ⟨mu,w,ts,js,c,ee,rfl⟩|cj a js c ee=>exact .inr ⟨mu,a,js,c,ee,rfl⟩|_=>exact nomatch (show Ξ=Λ from h)
 |_=>exact nomatch (show Ξ=Λ from h)
theorem C6(hk:env.scope.kind=.function):
  aav (.ListComp elt gens sc pos) (Δ (.Name x p)) line env=pure (decide (env.scope.names.lookup x=Δ .local)&&(p.line==pos.line)&&!(sc.names.any λq=>q.1==x&&(q.2==.local||q.2==.cell))):=by
 unfold aav;dsimp only;have h1:env.blockKind=.function:=by unfold PySem.Env.blockKind;rw[hk];rfl
 have h2:(env.kindOf x==Δ .local)=decide (env.scope.names.lookup x=Δ .local):=by
  unfold PySem.Env.kindOf;by_cases h:env.scope.names.lookup x=Δ .local;·rw[h];rfl
  ·rw[decide_eq_false h];exact beq_eq_false_iff_ne.mpr h
 rw[h1,h2];rfl
theorem yb{D:Ends}(h:tS (af X kt) Z (aP C (.set i e)) D σ H):tE (af X kt) Z (aa C e) σ H λv H1=>D.nx (σ.set i (Δ v)) H1:=by obtain⟨m,r,st,ar,as,h⟩:=h;rw[pH] at h;refine⟨m,r,st,ar,as,(Ok.bind h).mono λq st1 m1 H1 bQ aZ h1 v rv=>?_⟩;exact Ok.here h1 aZ (σ.set i (Δ v)) ((ar.le bQ).set rv)
theorem GU(T:fL X kt g C)(hi:g.N[i]?=Δ x)(hl:ir g x=Λ)(hc:C5 v=Ξ)(h:gP g e v=Λ):PS X (.Assign [.Name x p] v pos) (tS (af X kt) Z (aP C (.set i e))):=by
 have he:=(aH e kt X g v Z T.toGood h).1;by_cases EV:mO v=Ξ;·exact Rn T hi hl EV he
 ·cases v with
  |ListComp elt gens sc Ny=>
   intro η s σ H D I q;have sw:=C6 (x:=x) (p:=p) (elt:=elt) (gens:=gens) (sc:=sc) (pos:=Ny) (line:=pos.line) I.ok.kind;cases hb:(decide (X.env.scope.names.lookup x=Δ .local)&&(p.line==Ny.line)&&!(sc.names.any λq=>q.1==x&&(q.2==.local||q.2==.cell))) with
   |false=>rw[hb] at sw;exact PS.imp (Fd (i:=i) (by rw[T.N];exact T.nd) (by rw[T.N];exact hi) (T.xZ hl) he sw (T.JF hl)) (λD σ H q=>yb q) η s σ H D I q|true=>
    have sw':X.Ok->aav (.ListComp elt gens sc Ny) (Δ (.Name x p)) pos.line X.env=pure Λ:=λok=>by rw[C6 ok.kind,hb]
    rcases GR h with ⟨mu,w,ts,js,c,ee,rfl⟩|⟨mu,a,js,c,ee,rfl⟩
    ·have q1:=xV (yb q);refine aG (show bb gens _=Λ from h) λge r h=>?_;refine rW h λtg iter ifs a h=>?_;refine aL h λy py h=>?_;simp only[W9,qqq,XJ,Xr] at h;obtain⟨⟨⟨⟨⟨⟨⟨⟨⟨⟨rfl,rfl⟩,rfl⟩,h1⟩,VZ⟩,h2⟩,h3⟩,h4⟩,h5⟩,h6⟩,h7⟩:=h;have B:=T.toGood.xX h2;have T':∀η fp Cc s H,Good (mF X η (gO g y js) sc fp Cc s H) kt (g.inner (gO g y js) sc) C:=λη fp Cc s H=>T.toGood.inner (js:=js) B.fP;refine sU T.calm B (xY w kt X g iter (.Name y py) Z T.toGood h1 (λz=>by rw[VZ] at z;cases z)) (λη fp Cc s H=>fg (i:=0) h4 rfl (.inl ((T' η fp Cc s H).loc y h3)) (.inr ((T' η fp Cc s H).loc y h3)))
      (λη fp Cc s H=>(pV c).2 kt _ _ _ (T' η fp Cc s H) h5) (λη fp Cc s H=>JC λZ=>(aH ee kt _ _ _ Z (T' η fp Cc s H) h6).1) (λy=>?_) sw' (fg (i:=i) (by rw[T.N];exact T.nd) (by rw[T.N];exact hi) (T.xZ hl) (T.JF hl)) η s σ H D I (z8 q1)
     cases iter<;>first
      |rfl
      |exact absurd (show Λ=Ξ from h7) Yc.symm
    ·have q1:=xV (yb q);refine aG (show bb gens _=Λ from h) λge r h=>?_;refine rW h λtg iter ifs a9 h=>?_;refine aL h λy py h=>?_;simp only[W9,qqq,XJ,Xr] at h;obtain⟨⟨⟨⟨⟨⟨⟨⟨rfl,rfl⟩,h1⟩,h2⟩,h3⟩,h4⟩,h5⟩,h6⟩,h7⟩:=h;have B:=T.toGood.xX h2;have T':∀η fp Cc s H,Good (mF X η (gO g y js) sc fp Cc s H) kt (g.inner (gO g y js) sc) C:=λη fp Cc s H=>T.toGood.inner (js:=js) B.fP;refine sU T.calm B (rO (aH a kt X g iter Z T.toGood h1).1) (λη fp Cc s H=>fg (i:=0) h4 rfl (.inl ((T' η fp Cc s H).loc y h3)) (.inr ((T' η fp Cc s H).loc y h3)))
      (λη fp Cc s H=>(pV c).2 kt _ _ _ (T' η fp Cc s H) h5) (λη fp Cc s H=>JC λZ=>(aH ee kt _ _ _ Z (T' η fp Cc s H) h6).1) (λy=>?_) sw' (fg (i:=i) (by rw[T.N];exact T.nd) (by rw[T.N];exact hi) (T.xZ hl) (T.JF hl)) η s σ H D I (wK q1)
     cases iter<;>first
      |rfl
      |exact absurd (show Λ=Ξ from h7) Yc.symm
  |SetComp _ _ _ _=>cases hc|DictComp _ _ _ _ _=>cases hc|_=>exact absurd rfl EV
theorem Nz(hc:mO x=Ξ)(h:PE X x (tE (af X kt) Z (aa C e))):PS X (.Expr x pos) (tS (af X kt) Z (aP C (.expr e))):=by refine PS.imp (Cu h (ya hc)) ?_;rintro D σ H ⟨m,r,st,ar,as,h⟩;rw[tU] at h;refine⟨m,r,st,ar,as,(Ok.bind h).mono λq st1 m1 H1 bQ aZ h1 v rv=>?_⟩;exact Ok.here h1 aZ σ (ar.le bQ)
theorem ai.setAt{K:KB}(r:ak K H m Z p v):∀{xs} {us} (j),ai K H m Z xs us->ai K H m Z (xs.set j p) (us.set j v)
 |[],us,j,h=>by cases (show us=[] from h);exact rfl|x::xs,us,j,h=>by obtain⟨u,HP,rfl,r1,rs⟩:=(show ∃v vs,us=v::vs/\ak K H m Z x v/\ai K H m Z xs vs from h);cases j with|zero=>exact⟨v,HP,rfl,r,rs⟩|succ j=>exact⟨u,HP.set j v,rfl,r1,ai.setAt r j rs⟩
theorem Ro(hl:(ap.endLine==cp.line)=Λ)(hc:isCall o=Ξ)(ho:PE X o (tE (af X kt) Z (aa C a)))(hx:PE X x (tE (af X kt) Z (aa C e)))(hs:notStar x=Λ):
  PS X (.Expr (.Call (.Attribute o "append" ap) [x] [] cp) pos) (tS (af X kt) Z (aP C (.app a e))):=by
 have s1:XO [x] X.env=[(Ξ,eval x X.env)]:=bD hs;refine PS.imp (Cu (KO aaM PySem.F.slot_list_append PySem.F.type_list_append oZ ho (kR hx uk hs) (pT hc) (by rw[s1];rfl) hl s1 rfl) rfl) ?_;rintro D σ H ⟨m,r,st,ar,as,h⟩;rw[wz] at h;refine⟨m,r,st,ar,as,(Ok.bind h).mono λy st1 m1 H1 bQ aZ h1 v rv=>?_⟩;obtain⟨its,e1,h2,de⟩:=Ok.of (Ok.bind h1) aZ;clear de;obtain⟨l,us,rfl,hq,rs⟩:=cI aZ e1 rv;refine⟨.inl ⟨rfl,us,.inl hq⟩,m1,r,st1,ar.le bQ,aZ,?_⟩;show Ok (af X kt) Z (aD C [e] r st1) m1 H1 _;simp only[aj,ay];cases hr:aa C e r st1 with
 |ex x s=>rw[hr] at h2;exact(show False from h2).elim|no=>rw[hr] at h2;exact(show False from h2).elim|ok w st2=>
  rw[hr] at h2;simp only[ae] at h2 ⊢;intro m2 H2 dY dX vs iE;obtain⟨u,rfl,ru⟩:=xW iE;obtain⟨st3,e2,h3,de⟩:=Ok.of (Ok.bind (Ok.le h2 dY)) dX;clear de;unfold xK at e2;split at e2
  ·rename_i n;split at e2
   ·rename_i xs Rk;split at e2;·rename_i eZ;cases e2;obtain⟨b,hb,eb⟩:=rv.le dY;cases eb;obtain⟨b',iP,zs,hz,rz⟩:=dX.at_ n _ Rk;rw[hb] at iP;cases iP;obtain⟨pR,qJ⟩:=dX.write (ho:=.lst (zs++[u])) (o':=.lst (xs++[w])) Rk hb λH' e _ f=>⟨_,e,(rz.mono f).append ⟨u,[],rfl,f _ _ ru,rfl⟩⟩;refine⟨l,zs,u,rfl,rfl,hz,by rw[rz.length,<-dv];exact eZ,?_⟩;exact h3 m2 _ pR qJ σ (((ar.le bQ).le dY).le pR)
    ·cases e2
   ·cases e2
  ·cases e2
def Rp:Pr:=λo i v H Q=>∃a H4,o=.ref a/\yX H a i v H4/\Q H4
theorem JG(hu:X.A.units+100 < cLine):Dz X Rp:=by intro η s σ H o i v ov iv u Q I ro ri rv h;obtain⟨a,H4,rfl,g,q⟩:=h;cases ro;exact DL (by lia) I g ri rv λs4 I4=>⟨H4,I4,q⟩
theorem JH(h:Dz X t)(h':Dz X t'):Dz X (λo i v H Q=>t o i v H Q\/t' o i v H Q):=by
 intro η s σ H o i v ov iv u Q I ro ri rv q;rcases q with q|q;·exact h η s σ H o i v ov iv u Q I ro ri rv q
 ·exact h' η s σ H o i v ov iv u Q I ro ri rv q
theorem NA(hp:Dz X t)(ho:PE X o td)(hi:PE X i ty)(hv:PE X value tv)(hs:aav value (Δ (.Subscript o i pos')) pos.line X.env=pure Ξ):
  PS X (.Assign [.Subscript o i pos'] value pos) (λD σ H=>tv σ H λv H1=>td σ H1 λx H2=>ty σ H2 λy H3=>t x y v H3 λH4=>D.nx σ H4):=by
 intro η s σ H D I h;refine wpAny_Assign_Subscript (bS (hv η s σ H _ I h) λr s1 ⟨v,H1,I1,rv,q1⟩=>bS (ho η s1 σ H1 _ I1 q1) λu s2 ⟨x,H2,I2,rx,q2⟩=>bS (hi η s2 σ H2 _ I2 q2) λiv s3 ⟨y,H3,I3,ry,q3⟩=>?_) hs;exact bS (hp η s3 σ H3 x y v u iv r _ I3 rx ry rv q3) λ_ s4 ⟨H4,I4,q4⟩=>⟨σ,H4,I4,q4⟩
theorem Rq(T:Good X kt g C)(hc:mO v=Ξ)(ho:PE X o (tE (af X kt) Z (aa C a)))(hk:PE X k (tE (af X kt) Z (aa C i)))(hv:PE X v (tE (af X kt) Z (aa C e))):
  PS X (.Assign [.Subscript o k pos'] v pos) (tS (af X kt) Z (aP C (.put a i e))):=by
 refine PS.imp (NA (JH set_list (JG T.hu)) ho hk hv (ya hc)) ?_;rintro D σ H ⟨m,r,st,ar,as,h⟩;rw[wA] at h;refine⟨m,r,st,ar,as,(Ok.bind h).mono λw st1 m1 H1 bQ aZ h1 vw mE=>?_⟩;refine⟨m1,r,st1,ar.le bQ,aZ,(Ok.bind h1).mono λx st2 m2 H2 dY dX h2 vx rx=>?_⟩;refine⟨m2,r,st2,(ar.le bQ).le dY,dX,(Ok.bind h2).mono λy st3 m3 H3 pR qJ h3 vy ry=>?_⟩;obtain⟨ma,e2,h4,de⟩:=Ok.of (Ok.bind h3) qJ;clear de;have V1:=(mE.le dY).le pR;have V2:=((ar.le bQ).le dY).le pR;unfold nR at e2;split at e2
 ·rename_i n;obtain⟨ob,Ni,e5⟩:=cb e2;clear e2;obtain⟨ob',e3,rfl⟩:=gj e5;clear e5;obtain⟨b,hb,eb⟩:=rx.le pR;cases eb;obtain⟨b',iP,ao⟩:=qJ.at_ n _ Ni;rw[hb] at iP;cases iP;cases ob with
  |ins c fs=>cases e3|vA=>cases e3|lst xs=>
   obtain⟨zs,hz,rz⟩:=ao;unfold zE at e3;dsimp only at e3;split at e3;·rename_i j;obtain⟨q,hq,rfl⟩:=gj e3;cases (show vy=.int j from ry);obtain⟨yL,C1⟩:=qJ.write (ho:=.lst (zs.set q vw)) (o':=.lst (xs.set q w)) Ni hb λH' e _ f=>⟨_,e,(rz.mono f).setAt (f _ _ V1) q⟩;refine .inl ⟨b,zs,j,q,rfl,rfl,hz,by rw[rz.length];exact hq,?_⟩;exact h4 m3 _ yL C1 σ (V2.le yL)
   ·cases e3
  |dK kvs=>
   obtain⟨us,hu,rs⟩:=ao;have e4:(if kvs.length < au then(keyOf y).map λk=>O.dK (lZ kvs k w) else Θ)=Δ ob':=e3;split at e4;·rename_i eZ;obtain⟨kk,DV,rfl⟩:=gj e4;rw[ry.key DV];obtain⟨yL,C1⟩:=qJ.write (ho:=.dK (putK us kk vw)) (o':=.dK (lZ kvs kk w)) Ni hb λH' e _ f=>⟨_,e,(rs.mono f).put (f _ _ V1)⟩;refine .inr ⟨b,_,rfl,yX.k hu (by rw[rs.length,<-dv];exact eZ),?_⟩;exact h4 m3 _ yL C1 σ (V2.le yL)
   ·cases e4
  |dT kvs=>
   obtain⟨us,hu,rs⟩:=ao;have e4:(if kvs.length < au then(mI y).map λk=>O.dT (lZ kvs k w) else Θ)=Δ ob':=e3;split at e4;·rename_i eZ;obtain⟨kk,DV,rfl⟩:=gj e4;obtain⟨bk,rfl,hbk⟩:=ry.mI DV;obtain⟨yL,C1⟩:=qJ.write (ho:=.dT (putK us kk vw)) (o':=.dT (lZ kvs kk w)) Ni hb λH' e _ f=>⟨_,e,(rs.mono f).put (f _ _ V1)⟩;refine .inr ⟨b,_,rfl,yX.t hu hbk (by rw[rs.length,<-dv];exact eZ),?_⟩;exact h4 m3 _ yL C1 σ (V2.le yL)
   ·cases e4
 ·cases e2
theorem aO.vC{K:KB}{H:Hp}{m:List Addr}{f:Str}{p:P}{v:V}(rp:ak K H m Z p v):∀{fs:List (Str×P)} {us:List (Str×V)},aO K H m Z fs us->aO K H m Z (vC f p fs) (jJ f v us)
 |[],us,h=>by cases (show us=[] from h);exact⟨v,[],rfl,rp,rfl⟩|(k,q)::fs,us,h=>by
  obtain⟨w,ws,rfl,r,rs⟩:=(show ∃v vs,us=(k,v)::vs/\ak K H m Z q v/\aO K H m Z fs vs from h);show aO K H m Z (if k=f then(k,p)::fs else(k,q)::Y.vC f p fs) (if k=f then(k,v)::ws else(k,w)::jJ f v ws);by_cases hk:k=f;·rw[if_pos hk,if_pos hk];exact⟨v,ws,rfl,rp,rs⟩
  ·rw[if_neg hk,if_neg hk];exact⟨w,_,rfl,r,aO.vC rp rs⟩
theorem JI:aav v (Δ (.Attribute o f p)) line env=pure Ξ:=by cases v<;>rfl
theorem NB(T:Good X kt g C)(hf:g.yK c f=Λ)(h1:g.N[i]?=Δ x)(h2:g.xN x=Λ)(h3:aU x=Λ)(hv:PE X v (tE (af X kt) Z (aa C e))):
  PS X (.Assign [.Attribute (.Name x p) f pos'] v pos) (tS (af X kt) Z (aP C (.lX c f i e))):=by
 refine PS.imp (L0 (zR (Z:=Z) (kt:=kt) T h1 h2 h3) hv JI) ?_;rintro D σ H ⟨m,r,st,ar,as,h⟩;rw[tX] at h;refine⟨m,r,st,ar,as,(Ok.bind h).mono λw st1 m1 H1 bQ aZ h1 vw mE=>?_⟩;refine⟨m1,r,st1,ar.le bQ,aZ,?_⟩;rw[lE];refine(Ok.bind h1).mono λx st2 m2 H2 dY dX h2 vx rx=>?_;obtain⟨st3,e2,h4,_⟩:=Ok.of (Ok.bind h2) dX;obtain⟨⟨n,fs⟩,e3,e4⟩:=cb e2;split at e4
 ·rename_i eZ;cases e4;obtain⟨a,A,dx,us,rfl,hm,rfl,hs,g1,g2,g3,g4⟩:=B0 dX rx e3;obtain⟨A',k1,k2,k3⟩:=T.fld c f hf;rw[show XB X.K Xu c=Δ (Δ (.ref A)) from g1] at k1;cases k1;have fi:dx≠a:=by rintro rfl;rw[g2] at g3;cases g3
  obtain⟨yL,C1⟩:=dX.write (ho:=.ins A dx (jJ f vw us)) (o':=.ins c (vC f w fs)) hs hm λH' e k f=>⟨A,dx,_,g1,e,k _ _ fi g3,(g4.mono f).vC (f _ _ (mE.le dY))⟩;refine⟨a,A,dx,us,rfl,g2,k2,k3,by rw[g4.length];exact eZ,?_⟩;exact h4 m2 _ yL C1 σ (((ar.le bQ).le dY).le yL)
 ·cases e4
theorem NC:my X [] (tS (af X kt) Z (ah C [])):=by refine my.imp Ie ?_;rintro D σ H ⟨m,r,st,ar,as,h⟩;rw[jT] at h;exact Ok.here h as σ ar
theorem JJ(h1:PS X x (tS (af X kt) Z (aP C s)))(h2:my X xs (tS (af X kt) Z (ah C ss))):my X (x::xs) (tS (af X kt) Z (ah C (s::ss))):=by refine my.imp (Fc h1 h2) ?_;rintro D σ H ⟨m,r,st,ar,as,h⟩;rw[e8] at h;refine⟨m,r,st,ar,as,(Ok.bind h).mono λf st1 m1 H1 bQ aZ h1=>?_⟩;cases f with|nx r1=>exact λcQ V3=>⟨m1,r1,st1,V3,aZ,h1⟩|bk r1=>exact Ok.here h1 aZ|ct r1=>exact Ok.here h1 aZ|rt v=>exact Ok.here h1 aZ
theorem V4(hc:PT X c (tT (af X kt) Z (b8 (aa C ec))))(ha:my X a (tS (af X kt) Z (ah C ea)))(hb:my X b (tS (af X kt) Z (ah C eb))):PS X (.If c a b pos) (tS (af X kt) Z (aP C (.ifs ec ea eb))):=by refine PS.imp (Pp hc ha hb) ?_;rintro D σ H ⟨m,r,st,ar,as,h⟩;rw[pI] at h;refine⟨m,r,st,ar,as,(Ok.bind h).mono λk st1 m1 H1 bQ aZ h1=>?_⟩;cases k with|true=>exact⟨m1,r,st1,ar.le bQ,aZ,h1⟩|false=>exact⟨m1,r,st1,ar.le bQ,aZ,h1⟩
theorem Aa{K:KB}{D:Ends}{st:aI}{k:bX->aI->R Fl}(as:aA K H m Z st)(h:Ok K Z (match f with|.nx r2=>k r2 st|.ct r2=>k r2 st|.bk r2=>R.ok (.nx r2) st|.rt v=>R.ok (.rt v) st) m H (qF K Z D))(hN:∀r σ,cu K H m Z r σ->Ok K Z (k r st) m H (qF K Z D)->N σ H):qF K Z {D with nx:=N,ct:=N,bk:=D.nx} f st m H:=by cases f with|nx r2=>exact λσ ar=>hN r2 σ ar h|ct r2=>exact λσ ar=>hN r2 σ ar h|bk r2=>exact Ok.here h as|rt v=>exact Ok.here h as
theorem JK(T:fL X kt g C)(hc:PT X c (tT (af X kt) Z (b8 (aa C ec))))(hb:my X body (tS (af X kt) Z (ah C eb))):PS X (.While c body [] pos) (tS (af X kt) Z (aP C (.kK ec eb))):=by refine PS.imp (Fe T.own hc hb) ?_;rintro D σ H ⟨m,r,st,ar,as,h⟩;rw[nT] at h;refine⟨λn σ H=>∃m r st,cu (af X kt) H m Z r σ/\aA (af X kt) H m Z st/\Ok (af X kt) Z (gF (b8 (aa C ec)) (ah C eb) n r st) m H (qF (af X kt) Z D),⟨dW,m,r,st,ar,as,h⟩,?_⟩;rintro n σ H ⟨m,r,st,ar,as,h⟩;cases n with|zero=>exact(show False from h).elim|succ n=>rw[kN] at h;refine⟨m,r,st,ar,as,(Ok.bind h).mono λk st1 m1 H1 bQ aZ h1=>?_⟩;cases k with|false=>exact Ok.here h1 aZ σ (ar.le bQ)|true=>refine⟨λcQ H'=>∃m r st,cu (af X kt) H' m Z r cQ/\aA (af X kt) H' m Z st/\Ok (af X kt) Z (gF (b8 (aa C ec)) (ah C eb) n r st) m H' (qF (af X kt) Z D),λcQ H' q=>⟨n,YZ n,q⟩,?_⟩;refine⟨m1,r,st1,ar.le bQ,aZ,(Ok.bind (show Ok (af X kt) Z ((ah C eb r st1).bind _) m1 H1 _ from h1)).mono λf st2 m2 H2 dY dX h2=>?_⟩;exact Aa (k:=λr2 st2=>gF (b8 (aa C ec)) (ah C eb) n r2 st2) dX h2 λr2 OO HQ q=>⟨m2,r2,st2,HQ,dX,q⟩
theorem GV(T:fL X kt g C)(hs:cC iter=Ξ)(hw:PI X tg iter (tW (af X kt) Z (cn C w)))(hg:PG X tg gt)(Np:∀(p:P) (v:V) (m:List Addr) (H:Hp) (r r1:bX) (σ:L2.St) (Q:L2.St->Hp->Prop),ak (af X kt) H m Z p v->cu (af X kt) H m Z r σ->gz t p r=Δ r1->(∀cQ,cu (af X kt) H m Z r1 cQ->Q cQ H)->gt v σ H Q)(hb:my X body (tS (af X kt) Z (ah C eb))):
  PS X (.For tg iter body [] pos) (tS (af X kt) Z (aP C (.ff t w eb))):=by
 refine PS.imp (xj T.own T.calm hw hg hb (λy=>?_)) ?_
 ·cases iter<;>first
   |rfl
   |exact absurd (show Λ=Ξ from hs) Yc.symm
 rintro D σ H ⟨m,r,st,ar,as,h⟩;rw[tN] at h;refine⟨m,r,st,ar,as,(Ok.bind h).mono λps st1 m1 H1 bQ aZ h1 J wk=>?_⟩;refine⟨λi k σ H=>k=ps.length - i/\i<=ps.length/\∃m r st,Le (af X kt) m1 H1 m H/\cu (af X kt) H m Z r σ/\aA (af X kt) H m Z st/\Ok (af X kt) Z (forL (gz t) (ah C eb) (ps.drop i) r st) m H (qF (af X kt) Z D),⟨ps.length,by simp,Yq _,m1,r,st1,Le.refl,ar.le bQ,aZ,by rw[aaa];exact h1⟩,?_⟩;rintro j k σ H ⟨rfl,hj,m,r,st,le,ar,as,h⟩;obtain⟨w1,w2⟩:=wk m H Z le (λa ha=>.inl ha) j;by_cases eZ:j < ps.length;·have OY:j < ps.length:=eZ;obtain⟨go,yl⟩:=w1 ps[j] (Xc OY);have de:ps.drop j=ps[j]::ps.drop (j+1):=Yd OY;rw[de,pJ] at h;refine .inr ⟨go,λcQ H'=>∃m r st,Le (af X kt) m1 H1 m H'/\cu (af X kt) H' m Z r cQ/\aA (af X kt) H' m Z st/\Ok (af X kt) Z (forL (gz t) (ah C eb) (ps.drop (j+1)) r st) m H' (qF (af X kt) Z D),λcQ H' q=>⟨ps.length - (j+1),ZS _ _ eZ,rfl,eZ,q⟩,λy H' hy=>?_⟩;obtain⟨sm,ry'⟩:=yl y H' hy;have B4:Le (af X kt) m H m H':=Le.same sm;replace le:=le.trans B4;replace as:=as.same sm;replace ar:=ar.le B4;cases hr:gz t ps[j] r with|none=>rw[hr] at h;exact(show False from h).elim|some r1=>rw[hr,av,ae] at h;refine Np _ _ m H' r r1 σ _ ry' ar hr λcQ V3=>⟨m,r1,st,V3,as,(Ok.bind (Ok.le h B4)).mono λf st2 m2 H2 dY dX h3=>?_⟩;exact Aa (k:=λr2 st2=>forL (gz t) (ah C eb) (ps.drop (j+1)) r2 st2) dX h3 λr2 OO HQ q=>⟨m2,r2,st2,le.trans dY,HQ,dX,q⟩
 ·have e:j=ps.length:=by lia
  subst e;rw[ab2,Gy] at h;exact .inl ⟨w2 rfl,Ok.here h as σ ar⟩
theorem Rr(T:fL X kt g C)(hi:g.N[i]?=Δ x)(hl:ir g x=Λ)(hs:cC iter=Ξ)(hw:PI X (.Name x p) iter (tW (af X kt) Z (cn C w)))(hb:my X body (tS (af X kt) Z (ah C eb))):
  PS X (.For (.Name x p) iter body [] pos) (tS (af X kt) Z (aP C (.ff (.nm i) w eb))):=
 GV T hs hw (fg (i:=i) (by rw[T.N];exact T.nd) (by rw[T.N];exact hi) (T.xZ hl) (T.JF hl)) (λp v m H r r1 σ Q rp ar e q=>by cases e;exact q _ (ar.set rp)) hb
theorem ND(T:fL X kt g C){p p' p2 pos:Pos}(hi:g.N[i]?=Δ x)(hl:ir g x=Λ)(DW:g.N[j]?=Δ y)(wc:ir g y=Λ)(hs:cC iter=Ξ)(hw:PI X (.Tuple [.Name x p,.Name y p'] k p2) iter (tW (af X kt) Z (cn C w)))(hb:my X body (tS (af X kt) Z (ah C eb))):
  PS X (.For (.Tuple [.Name x p,.Name y p'] k p2) iter body [] pos) (tS (af X kt) Z (aP C (.ff (.two i j) w eb))):=by
 have nm:∀{z:Str} {a:Nat} {q:Pos},g.N[a]?=Δ z->ir g z=Λ->PG X (.Name z q) (sC a):=λ{z a q} h1 h2=>fg (i:=a) (by rw[T.N];exact T.nd) (by rw[T.N];exact h1) (T.xZ h2) (T.JF h2);refine GV T hs hw (Bb (n:=2) T.calm (jg (nm hi hl) (jg (nm DW wc) xh))) (λq v m H r r1 σ Q rp ar e hq=>?_) hb;unfold gz at e;dsimp only at e;split at e;·rename_i a b;cases e;obtain⟨c,us,rfl,hc,v1,vs1,e1,rv1,v2,vs2,e2,VY,e3⟩:=rp;subst e3 e2 e1;exact⟨c,_,rfl,fH.of hc,rfl,v1,[v2],rfl,v2,[],rfl,rfl,hq _ ((ar.set (p:=.d a) (show ak (af X kt) H m Z (.d a) v1 from rv1)).set (p:=.d b) (show ak (af X kt) H m Z (.d b) v2 from VY))⟩
 ·cases e
theorem NG(T:fL X kt g C)(hi:g.N[i]?=Δ x)(hl:ir g x=Λ)(hs:cC iter=Ξ)(hw:PE X iter (tE (af X kt) Z (aa C e)))(hb:my X body (tS (af X kt) Z (ah C eb))):
  PS X (.For (.Name x p) iter body [] pos) (tS (af X kt) Z (aP C (.iH (.nm i) e eb))):=by
 refine PS.imp (xj T.own T.calm (rO hw) (fg (i:=i) (by rw[T.N];exact T.nd) (by rw[T.N];exact hi) (T.xZ hl) (T.JF hl)) hb (λy=>?_)) ?_
 ·cases iter<;>first
   |rfl
   |exact absurd (show Λ=Ξ from hs) Yc.symm
 rintro D σ H ⟨m,r,st,ar,as,h⟩;rw[tP] at h;refine⟨m,r,st,ar,as,(Ok.bind h).mono λx0 st1 m1 H1 bQ aZ h1 v rv=>?_⟩;split at h1
 ·rename_i n;obtain⟨a,ha,rfl⟩:=rv;have Rf:∃us,H1 a=Δ (.lst us):=by have h2:Ok (af X kt) Z (iH n (gz (.nm i)) (ah C eb) (999999+1) 0 r st1) m1 H1 (qF (af X kt) Z D):=h1;rw[pK] at h2;cases ho:wo n st1 0 with|none=>rw[ho] at h2;exact(show False from h2).elim|some o=>obtain⟨us,hu,_⟩:=pU aZ ha ho;exact⟨us,hu⟩
  obtain⟨Rg,Rh⟩:=Rf;refine⟨a,rfl,⟨Rg,.inl (.inl Rh)⟩,?_⟩;refine⟨λj k σ H=>∃m r st,Le (af X kt) m1 H1 m H/\cu (af X kt) H m Z r σ/\aA (af X kt) H m Z st/\Ok (af X kt) Z (iH n (gz (.nm i)) (ah C eb) k j r st) m H (qF (af X kt) Z D),⟨dW,m1,r,st1,Le.refl,ar.le bQ,aZ,h1⟩,?_⟩;rintro j k σ H ⟨m,r,st,le,ar,as,h⟩;have Ri:m[n]?=Δ a:=by obtain⟨t,et⟩:=le.pre;rw[et,Xg (qqz ha).1];exact ha
  cases k with|zero=>exact(show False from h).elim|succ k=>rw[pK] at h;cases ho:wo n st j with|none=>rw[ho] at h;exact(show False from h).elim|some o=>rw[ho] at h;obtain⟨us,hu,q0,q1⟩:=pU as Ri ho;cases o with|none=>exact .inl ⟨⟨us,.inl (.inl hu),q0 rfl⟩,Ok.here (show Ok (af X kt) Z (R.ok (Fl.nx r) st) m H (qF (af X kt) Z D) from h) as σ ar⟩|some q=>obtain⟨vx,Lj,rx⟩:=q1 q rfl;refine .inr ⟨⟨us,vx,.inl (.inl hu),Lj⟩,λcQ H'=>∃m r st,Le (af X kt) m1 H1 m H'/\cu (af X kt) H' m Z r cQ/\aA (af X kt) H' m Z st/\Ok (af X kt) Z (iH n (gz (.nm i)) (ah C eb) k (j+1) r st) m H' (qF (af X kt) Z D),λcQ H' z=>⟨k,YZ k,z⟩,λy H' hy=>?_⟩;obtain⟨rfl,hx⟩:=hy;have yI:=hx us (.inl (.inl hu));rw[Lj] at yI;cases yI;have h2:Ok (af X kt) Z ((ah C eb (r.set i (Δ q)) st).bind _) m H' (qF (af X kt) Z D):=h;refine⟨m,r.set i (Δ q),st,ar.set rx,as,(Ok.bind h2).mono λf st2 m2 H2 dY dX h3=>?_⟩;exact Aa (k:=λr2 st2=>iH n (gz (.nm i)) (ah C eb) k (j+1) r2 st2) dX h3 λr2 OO HQ q=>⟨m2,r2,st2,le.trans dY,HQ,dX,q⟩
 ·exact(show False from h1).elim
section
variable{K:KB}{H H':Hp}{m:List Addr}
mutual
theorem aF.chg(f:∀a u,H a=Δ u->(∀o us,u≠.dA o (.dK us))->H' a=Δ u):∀{x:D} {v:V},aF K H m Z x v->aF K H' m Z x v
 |.bz,_,h=>h|.bl _,_,h=>h|.int _,_,h=>h|.str _,_,h=>h|.tup xs,v,h=>by obtain⟨a,us,e,q,r⟩:=(show ∃a us,v=.ref a/\H a=Δ (.tup us)/\aw K H m Z xs us from h);exact⟨a,us,e,f _ _ q (λ_ _ z=>nomatch z),aw.chg f r⟩
 |.pl xs,v,h=>by
  obtain⟨a,us,e,q,hm,hz,r⟩:=(show ∃a us,v=.ref a/\Rd H a (.lst us)/\a∉m/\a∉Z/\aw K H m Z xs us from h);refine⟨a,us,e,?_,hm,hz,aw.chg f r⟩;rcases q with q|⟨o,q⟩;·exact .inl (f _ _ q (λ_ _ z=>nomatch z))
  ·exact .inr ⟨o,f _ _ q (λ_ _ z=>nomatch z)⟩
theorem aw.chg(f:∀a u,H a=Δ u->(∀o us,u≠.dA o (.dK us))->H' a=Δ u):∀{xs:List D} {us:List V},aw K H m Z xs us->aw K H' m Z xs us
 |[],_,h=>h|x::xs,us,h=>by obtain⟨v,vs,e,r,rs⟩:=(show ∃v vs,us=v::vs/\aF K H m Z x v/\aw K H m Z xs vs from h);exact⟨v,vs,e,aF.chg f r,aw.chg f rs⟩
end
mutual
theorem ak.chg(f:∀a u,H a=Δ u->(∀o us,u≠.dA o (.dK us))->H' a=Δ u):∀{x:P} {v:V},ak K H m Z x v->ak K H' m Z x v
 |.d _,_,h=>by rw[ak] at h ⊢;exact aF.chg f h|.obj n,v,h=>by rw[ak] at h ⊢;exact h|.fR ns,v,h=>by
  rw[ak] at h ⊢;obtain⟨a,e,r⟩:=h;refine⟨a,e,?_⟩;rcases r with ⟨o,r⟩|r
  ·exact .inl ⟨o,f _ _ r (λ_ _ z=>nomatch z)⟩
  ·exact .inr r
 |.fn k bu,v,h=>by rw[ak] at h ⊢;obtain⟨a,c,bW,e,q,hc,r⟩:=h;exact⟨a,c,bW,e,q,f _ _ hc (λ_ _ z=>nomatch z),ai.chg f r⟩|.lf k,v,h=>by rw[ak] at h ⊢;obtain⟨a,c,ct,e,q,r⟩:=h;exact⟨a,c,ct,e,f _ _ q (λ_ _ z=>nomatch z),f _ _ r (λ_ _ z=>nomatch z)⟩
theorem ai.chg(f:∀a u,H a=Δ u->(∀o us,u≠.dA o (.dK us))->H' a=Δ u):∀{xs:List P} {us:List V},ai K H m Z xs us->ai K H' m Z xs us
 |[],_,h=>h|x::xs,us,h=>by obtain⟨v,vs,e,r,rs⟩:=(show ∃v vs,us=v::vs/\ak K H m Z x v/\ai K H m Z xs vs by rw[ai] at h;exact h);rw[ai];exact⟨v,vs,e,ak.chg f r,ai.chg f rs⟩
end
end
theorem NH{K:KB}(e1:H1 d=Δ (.dK us))(hm:m1[n]?=Δ d)(rs:aO K H1 m1 Z kvs us)(le:Le K m1 (upd H1 d (.dA o (.dK us))) m2 H2)(as:aA K H2 m2 Z st2):H2 d=Δ (.dA o (.dK us))/\Le K m1 H1 m2 (upd H2 d (.dK us))/\aA K (upd H2 d (.dK us)) m2 Z (st2.set n (.dK kvs))/\∀p v,ak K H2 m2 Z p v->ak K (upd H2 d (.dK us)) m2 Z p v:=by
 have e2:H2 d=Δ (.dA o (.dK us)):=le.dA _ _ _ aC;have dm:d∈m1:=Xw hm;have f:∀a u,H2 a=Δ u->(∀o us,u≠.dA o (.dK us))->upd H2 d (.dK us) a=Δ u:=λa u q z=>by rw[ax (λw'=>by rw[w',e2] at q;exact z o us (XU q).symm)];exact q
 have up:∀{a:Addr} {u:HO},H1 a=Δ u->a≠d->upd H1 d (.dA o (.dK us)) a=Δ u:=λq z=>by rw[ax z];exact q
 have lf:Le K m1 H1 m2 (upd H2 d (.dK us)):=by
  refine⟨le.pre,λa xs q=>?_,λa u q ha hu=>?_,λa ha=>?_,λa q=>?_,λa q=>?_,λa ob u q=>?_,λa φ q=>?_,λa ps q=>?_⟩;·exact f _ _ (le.tup _ _ (up q (λz=>by rw[z,e1] at q;cases q))) (λ_ _ z=>nomatch z)
  ·have hd:a≠d:=λz=>ha (by rw[z];exact dm);rw[ax hd];exact le.keep _ _ (up q hd) ha hu
  ·rcases le.new a ha with z|z;·exact .inl z
   ·by_cases hd:a=d;·rw[hd];exact .inl dm
    ·rw[ax hd] at z;exact .inr z
  ·by_cases hd:a=d;·rw[hd,aC];exact λz=>nomatch z
   ·rw[ax hd];exact le.qR _ (by rw[ax hd];exact q)
  ·exact lH (λ_ z=>nomatch z) (le.CQ _ (lH (λ_ z=>nomatch z) q))
  ·have hd:a≠d:=λz=>by rw[z,e1] at q;cases q
   rw[ax hd];exact le.dA _ _ _ (up q hd)
  ·exact f _ _ (le.ext _ _ (up q (λz=>by rw[z,e1] at q;cases q))) (λ_ _ z=>nomatch z)
  ·obtain⟨more,w'⟩:=le.fG _ _ (up q (λz=>by rw[z,e1] at q;cases q));exact⟨more,f _ _ w' (λ_ _ z=>nomatch z)⟩
 have JL:m2[n]?=Δ d:=by obtain⟨t,et⟩:=le.pre;rw[et,Xg (qqz hm).1];exact hm
 refine⟨e2,lf,⟨by rw[YL];exact as.len,as.nd,λk ob hk=>?_,λb hb=>lH (λ_ z=>nomatch z) (as.zt b hb),as.zm,λt ht=>?_⟩,λp v z=>z.chg f⟩
 ·by_cases MV:n=k
  ·subst MV;have eZ:n < st2.length:=by rw[<-as.len];exact(qqz JL).1
   rw[XC eZ] at hk;cases hk;exact⟨d,JL,us,aC,rs.mono λp v z=>z.le lf⟩
  ·rw[Xe MV] at hk;obtain⟨b,q,rr⟩:=as.at_ k ob hk;have hbd:b≠d:=by rintro rfl;obtain⟨l1,e1⟩:=qqz JL;obtain⟨l2,e2⟩:=qqz q;exact MV (ky as.nd l1 l2 (e1.trans e2.symm))
   refine⟨b,q,rr.mono (λb' u iP hu=>?_) λp v z=>z.chg f⟩;rw[ax (λz=>by
    rcases iP with w1|w1;·exact hbd (w1▸z)
    ·rw[z,e2] at w1;cases w1)]
   exact hu
 ·obtain⟨ps,h1,h2⟩:=as.tab t ht;exact⟨ps,f _ _ h1 (λ_ _ z=>nomatch z),fK.same (λa φ z=>f _ _ z (λ_ _ w'=>nomatch w')) h2⟩
theorem qF.D3{D:Ends}(e1:H1 d=Δ (.dK us))(hm:m1[n]?=Δ d)(rs:aO (af X kt) H1 m1 Z kvs us)(nf:NF X d)(le:Le (af X kt) m1 (upd H1 d (.dA o (.dK us))) m2 H2)(as:aA (af X kt) H2 m2 Z st2)(h:∀m' H',Le (af X kt) m1 H1 m' H'->aA (af X kt) H' m' Z (st2.set n (.dK kvs))->qF (af X kt) Z D fl (st2.set n (.dK kvs)) m' H'):qF (af X kt) Z (wj X D) fl st2 m2 H2:=by obtain⟨e2,lf,b9,f⟩:=NH e1 hm rs le as;have q:=h m2 _ lf b9;have ra:∀{r:bX} {σ:L2.St},cu (af X kt) H2 m2 Z r σ->cu (af X kt) (upd H2 d (.dK us)) m2 Z r σ:=λA=>⟨A.len,λi p w'=>let ⟨v,x1,x2⟩:=A.at_ i p w';⟨v,x1,f _ _ x2⟩⟩;cases fl with|nx r=>exact λσ A=>⟨d,o,_,e2,nf,q σ (ra A)⟩|bk r=>exact λσ A=>⟨d,o,_,e2,nf,q σ (ra A)⟩|ct r=>exact λσ A=>⟨d,o,_,e2,nf,q σ (ra A)⟩|rt p=>exact λv A=>⟨d,o,_,e2,nf,q v (f _ _ A)⟩
theorem aO.at_{κ:Type}{K:KB}{m:List Addr}:∀{kvs:List (κ×P)} {us:List (κ×V)} {i:Nat} {k:κ} {v:V},aO K H m Z kvs us->us[i]?=Δ (k,v)->∃p,kvs[i]?=Δ (k,p)/\ak K H m Z p v
 |[],us,i,k,v,h,e=>by cases (show us=[] from h);simp at e|(q,p)::kvs,us,i,k,v,h,e=>by obtain⟨v',vs,rfl,r,rs⟩:=(show ∃v vs,us=(q,v)::vs/\ak K H m Z p v/\aO K H m Z kvs vs from h);cases i with|zero=>simp at e;obtain⟨rfl,rfl⟩:=e;exact⟨p,rfl,r⟩|succ i=>simpa using aO.at_ rs (by simpa using e)
theorem NI(T:fL X kt g C){p p' p2 ap cp pos:Pos}(hi:g.N[i]?=Δ x)(hl:ir g x=Λ)(DW:g.N[j]?=Δ y)(wc:ir g y=Λ)(hc:isCall o=Ξ)(hln:(ap.endLine==cp.line)=Λ)(ho:PE X o (tE (af X kt) Z (aa C a)))(hb:my X body (tS (af X kt) Z (ah C eb))):
  PS X (.For (.Tuple [.Name x p,.Name y p'] k p2) (.Call (.Attribute o "items" ap) [] [] cp) body [] pos) (tS (af X kt) Z (aP C (.BP i j a eb))):=by
 have nm:∀{z:Str} {a:Nat} {q:Pos},g.N[a]?=Δ z->ir g z=Λ->PG X (.Name z q) (sC a):=λ{z a q} h1 h2=>fg (i:=a) (by rw[T.N];exact T.nd) (by rw[T.N];exact h1) (T.xZ h2) (T.JF h2);refine PS.imp (Ja (xj T.own T.calm (Gn ho (pT hc) hln) (Bb (n:=2) T.calm (jg (nm hi hl) (jg (nm DW wc) xh))) hb (λ_=>rfl))) ?_;rintro D σ H ⟨m,r,st,ar,as,h⟩;rw[tQ] at h;refine⟨m,r,st,ar,as,(Ok.bind h).mono λx0 st1 m1 H1 bQ aZ h1 v rv=>?_⟩;obtain⟨⟨n,kvs⟩,ek,h2,de⟩:=Ok.of (Ok.bind h1) aZ;clear de h1;obtain⟨d,us,rfl,qj,hm,rfl,hu,rs⟩:=C3 aZ ek rv;dsimp only at h2 qj hm rs;refine⟨d,us,rfl,hu,λob nf=>?_⟩;obtain⟨lel,asl⟩:=aZ.write (ho:=.dA ob (.dK us)) (o':=.vA) qj hm (λH' e _ f=>⟨ob,us,e⟩);have rsl:aO (af X kt) (upd H1 d (.dA ob (.dK us))) m1 Z kvs us:=rs.mono λp v z=>z.le lel;cases hr:mK i j (ah C eb) kvs r (st1.set n .vA) with
 |ex z s=>rw[hr] at h2;exact(show False from h2).elim|no=>rw[hr] at h2;exact(show False from h2).elim|ok f0 bF=>
  rw[hr,ae] at h2;have V5:∀m2 H2,Le (af X kt) m1 (upd H1 d (.dA ob (.dK us))) m2 H2->aA (af X kt) H2 m2 Z bF->qF (af X kt) Z (wj X D) f0 bF m2 H2:=λm2 H2 dY dX=>qF.D3 hu hm rs nf dY dX h2;have V6:Ok (af X kt) Z (mK i j (ah C eb) kvs r (st1.set n .vA)) m1 (upd H1 d (.dA ob (.dK us))) (qF (af X kt) Z (wj X D)):=by rw[hr];exact λm2 H2 dY dX=>V5 m2 H2 dY dX
  refine⟨λq l σ H=>l=kvs.length - q/\q<=kvs.length/\∃m r st,Le (af X kt) m1 (upd H1 d (.dA ob (.dK us))) m H/\cu (af X kt) H m Z r σ/\aA (af X kt) H m Z st/\Ok (af X kt) Z (mK i j (ah C eb) (kvs.drop q) r st) m H (qF (af X kt) Z (wj X D)),⟨kvs.length,by simp,Yq _,m1,r,_,Le.refl,(ar.le bQ).le lel,asl,by rw[aaa];exact V6⟩,?_⟩;rintro q l σ H ⟨rfl,hq,m,r,st,le,ar,as,h⟩;have hd:H d=Δ (.dA ob (.dK us)):=le.dA _ _ _ aC;have hlen:us.length=kvs.length:=rs.length.symm▸rfl;by_cases eZ:q < kvs.length
  ·have de:kvs.drop q=kvs[q]::kvs.drop (q+1):=Yd eZ;rw[de,wB] at h;refine .inr ⟨⟨hd,by lia⟩,λcQ H'=>∃m r st,Le (af X kt) m1 (upd H1 d (.dA ob (.dK us))) m H'/\cu (af X kt) H' m Z r cQ/\aA (af X kt) H' m Z st/\Ok (af X kt) Z (mK i j (ah C eb) (kvs.drop (q+1)) r st) m H' (qF (af X kt) Z (wj X D)),λcQ H' z=>⟨kvs.length - (q+1),ZS _ _ eZ,rfl,eZ,z⟩,λw' H' hy=>?_⟩;obtain⟨t,kk,vv,qx,ht,rfl,rfl⟩:=hy;obtain⟨pp,hpp,rp⟩:=rsl.at_ qx;have epp:kvs[q]=(kk,pp):=by have:=Xc eZ;rw[hpp] at this;exact(XU this).symm
   rw[epp] at h;have B4:Le (af X kt) m H m (upd H t (.tup [kV kk,vv])):=Le.same (ba ht _);have b9:=as.same (ba ht (.tup [kV kk,vv]));have le':=le.trans B4;refine⟨t,[kV kk,vv],rfl,fH.of aC,rfl,kV kk,[vv],rfl,vv,[],rfl,rfl,?_⟩;have rk:ak (af X kt) (upd H t (.tup [kV kk,vv])) m Z (xM kk) (kV kk):=by cases kk<;>rfl
   refine⟨m,_,st,((ar.le B4).set rk).set (rp.le le'),b9,(Ok.bind (Ok.le h B4)).mono λf st2 m2 H2 dY dX h3=>?_⟩;exact Aa (k:=λr2 st2=>mK i j (ah C eb) (kvs.drop (q+1)) r2 st2) dX h3 λr2 OO HQ z=>⟨m2,r2,st2,le'.trans dY,HQ,dX,z⟩
  ·have e:q=kvs.length:=by lia
   subst e;rw[ab2,Gz] at h;exact .inl ⟨⟨hd,by lia⟩,Ok.here h as σ ar⟩
theorem NJ(T:fL X kt g C){p p' p2 pe cp pos:Pos}(hi:g.N[i]?=Δ x)(hl:ir g x=Λ)(DW:g.N[j]?=Δ y)(wc:ir g y=Λ)(hg:g.gl "enumerate"=Λ)(hs:notStar o=Λ)(ho:PE X o (tE (af X kt) Z (aa C a)))(hb:my X body (tS (af X kt) Z (ah C eb))):
  PS X (.For (.Tuple [.Name x p,.Name y p'] k p2) (.Call (.Name "enumerate" pe) [o] [] cp) body [] pos) (tS (af X kt) Z (aP C (.jc i j a eb))):=by
 have nm:∀{z:Str} {a:Nat} {q:Pos},g.N[a]?=Δ z->ir g z=Λ->PG X (.Name z q) (sC a):=λ{z a q} h1 h2=>fg (i:=a) (by rw[T.N];exact T.nd) (by rw[T.N];exact h1) (T.xZ h2) (T.JF h2);refine PS.imp (xj T.own T.calm (Gj (T.toGood.glob hg) (T.bl _ (by decide+kernel)) (kR ho uk hs) (bD hs)) (Bb (n:=2) T.calm (jg (nm hi hl) (jg (nm DW wc) xh))) hb (λ_=>rfl)) ?_;rintro D σ H ⟨m,r,st,ar,as,h⟩;rw[tR] at h;refine⟨m,r,st,ar,as,?_⟩;show Ok (af X kt) Z (aD C [a] r st) m H _;simp only[aj,ay];cases hr:aa C a r st with
 |ex x s=>rw[hr] at h;exact h|no=>rw[hr] at h;exact h|ok y0 st1=>
  rw[hr] at h;simp only[ae] at h ⊢;intro m1 H1 bQ aZ vs iE;obtain⟨v,uo,rfl,rv,e⟩:=(show ∃v uo,vs=v::uo/\ak (af X kt) H1 m1 Z y0 v/\uo=[] from iE);subst e;have h1:=Ok.le h bQ;split at h1
  ·rename_i n;obtain⟨a,ha,rfl⟩:=rv;have Rf:∃us,H1 a=Δ (.lst us):=by have h2:Ok (af X kt) Z (jc n i j (ah C eb) (999999+1) 0 r st1) m1 H1 (qF (af X kt) Z D):=h1;rw[pL] at h2;cases ho:wo n st1 0 with|none=>rw[ho] at h2;exact(show False from h2).elim|some o=>obtain⟨us,hu,_⟩:=pU aZ ha ho;exact⟨us,hu⟩
   obtain⟨Rg,Rh⟩:=Rf;refine⟨a,rfl,⟨Rg,.inl (.inl Rh)⟩,?_⟩;refine⟨λq k σ H=>∃m r st,Le (af X kt) m1 H1 m H/\cu (af X kt) H m Z r σ/\aA (af X kt) H m Z st/\Ok (af X kt) Z (jc n i j (ah C eb) k q r st) m H (qF (af X kt) Z D),⟨dW,m1,r,st1,Le.refl,ar.le bQ,aZ,h1⟩,?_⟩;rintro q k σ H ⟨m,r,st,le,ar,as,h⟩;have Ri:m[n]?=Δ a:=by obtain⟨t,et⟩:=le.pre;rw[et,Xg (qqz ha).1];exact ha
   cases k with|zero=>exact(show False from h).elim|succ k=>rw[pL] at h;cases ho:wo n st q with|none=>rw[ho] at h;exact(show False from h).elim|some o=>rw[ho] at h;obtain⟨us,hu,q0,q1⟩:=pU as Ri ho;cases o with|none=>exact .inl ⟨⟨us,.inl (.inl hu),q0 rfl⟩,Ok.here (show Ok (af X kt) Z (R.ok (Fl.nx r) st) m H (qF (af X kt) Z D) from h) as σ ar⟩|some pq=>obtain⟨vx,Lj,rx⟩:=q1 pq rfl;refine .inr ⟨⟨us,vx,.inl (.inl hu),Lj⟩,λcQ H'=>∃m r st,Le (af X kt) m1 H1 m H'/\cu (af X kt) H' m Z r cQ/\aA (af X kt) H' m Z st/\Ok (af X kt) Z (jc n i j (ah C eb) k (q+1) r st) m H' (qF (af X kt) Z D),λcQ H' z=>⟨k,YZ k,z⟩,λw' H' hy=>?_⟩;obtain⟨t,vv,ht,rfl,rfl,hx⟩:=hy;have yI:=hx us (.inl (.inl hu));rw[Lj] at yI;cases yI;have B4:Le (af X kt) m H m (upd H t (.tup [.int q,vx])):=Le.same (ba ht _);have b9:=as.same (ba ht (.tup [.int q,vx]));have h2:Ok (af X kt) Z ((ah C eb ((r.set i (Δ (.d (.int q)))).set j (Δ pq)) st).bind _) m H (qF (af X kt) Z D):=h;refine⟨t,[.int q,vx],rfl,fH.of aC,rfl,.int q,[vx],rfl,vx,[],rfl,rfl,?_⟩;refine⟨m,_,st,((ar.le B4).set (p:=.d (.int q)) (v:=.int q) rfl).set (rx.le B4),b9,(Ok.bind (Ok.le h2 B4)).mono λf st2 m2 H2 dY dX h3=>?_⟩;exact Aa (k:=λr2 st2=>jc n i j (ah C eb) k (q+1) r2 st2) dX h3 λr2 OO HQ z=>⟨m2,r2,st2,(le.trans B4).trans dY,HQ,dX,z⟩
  ·exact(show False from h1).elim
theorem GW(h1:Rl g (.two i j) tg=Λ):∃x y p p' k p2,tg=.Tuple [.Name x p,.Name y p'] k p2/\g.N[i]?=Δ x/\ir g x=Λ/\g.N[j]?=Δ y/\ir g y=Λ:=by refine pO h1 λ_ _ _ h1=>?_;refine aG h1 λ_ _ h1=>?_;refine aL h1 λ_ _ h1=>?_;refine aG h1 λ_ _ h1=>?_;refine aL h1 λ_ _ h1=>?_;simp only[W9,qqq,Xr] at h1;obtain⟨⟨⟨⟨rfl,h6⟩,h7⟩,h8⟩,h9⟩:=h1;exact⟨_,_,_,_,_,_,rfl,h6,h7,h8,h9⟩
variable(C) in
def SSt(s:S):Prop:=∀(kt:KT) (X:Cx) (g:G) (x:Stmt) (Z:List Addr),fL X kt g C->rf g s x=Λ->PS X x (tS (af X kt) Z (aP C s))
variable(C) in
def V7(s:List S):Prop:=∀(kt:KT) (X:Cx) (g:G) (x:List Stmt) (Z:List Addr),fL X kt g C->ur g s x=Λ->my X x (tS (af X kt) Z (ah C s))
mutual
theorem NK:∀s:S,SSt C s
 |.ret e=>λkt X g x Z T h=>by refine qI h λ_ _ h=>?_;refine ud h λ_ h=>?_;exact Rm (aH e kt X g _ Z T.toGood h).1|.D8=>λkt X g x Z T h=>by refine qI h λ_ _ h=>?_;rw[YQ] at h;subst h;exact Nx|.set i e=>λkt X g x Z T h=>by refine kP h λ_ _ _ h=>?_;refine aG h λ_ _ h=>?_;refine aL h λ_ _ h=>?_;simp only[W9,qqq,XJ,Xr] at h;obtain⟨⟨⟨⟨rfl,h1⟩,h2⟩,h3⟩,h4⟩:=h;exact GU T h1 h2 h4 h3|.ifs c a b=>λkt X g x Z T h=>by refine Jg h λ_ _ _ _ h=>?_;simp only[W9] at h;exact V4 (aH c kt X g _ Z T.toGood h.1.1).2 (dN a kt X g _ Z T h.1.2) (dN b kt X g _ Z T h.2)|.ff t w b=>λkt X g x Z T h=>by
  refine nZ h λ_ _ _ _ _ h=>?_;simp only[W9,XJ,Xr] at h;obtain⟨⟨⟨⟨⟨rfl,h1⟩,h2⟩,h3⟩,h4⟩,h5⟩:=h;cases t with
  |tup is=>cases h1|nm i=>refine aL h1 λ_ _ h1=>?_;·simp only[W9,qqq] at h1;exact Rr T h1.1 h1.2 h4 (xY w kt X g _ _ Z T.toGood h2 λz=>by rw[z] at h5;simp[GQ] at h5) (dN b kt X g _ Z T h3)
  |two i j=>refine pO h1 λ_ _ _ h1=>?_;refine aG h1 λ_ _ h1=>?_;refine aL h1 λ_ _ h1=>?_;refine aG h1 λ_ _ h1=>?_;refine aL h1 λ_ _ h1=>?_;simp only[W9,qqq,Xr] at h1;obtain⟨⟨⟨⟨rfl,h6⟩,h7⟩,h8⟩,h9⟩:=h1;exact ND T h6 h7 h8 h9 h4 (xY w kt X g _ _ Z T.toGood h2 λ_=>⟨_,_,_,rfl⟩) (dN b kt X g _ Z T h3)
 |.iH t e b=>λkt X g x Z T h=>by refine nZ h λ_ _ _ _ _ h=>?_;simp only[W9,XJ,Xr] at h;obtain⟨⟨⟨⟨⟨rfl,h1⟩,h2⟩,h3⟩,h4⟩,h5⟩:=h;cases t with|tup is=>cases h1|two i j=>cases h5|nm i=>refine aL h1 λ_ _ h1=>?_;·simp only[W9,qqq] at h1;exact NG T h1.1 h1.2 h4 (aH e kt X g _ Z T.toGood h2).1 (dN b kt X g _ Z T h3)
 |.BP i j a b=>λkt X g x Z T h=>by refine nZ h λ_ _ _ _ _ h=>?_;refine aX h λ_ _ _ _ h=>?_;refine bR h λ_ _ _ h=>?_;simp only[W9,qqq,XJ,Xr] at h;obtain⟨⟨⟨⟨⟨⟨⟨⟨rfl,rfl⟩,rfl⟩,h1⟩,rfl⟩,h2⟩,h3⟩,h4⟩,h5⟩:=h;obtain⟨x,y,p,p',k,p2,rfl,h6,h7,h8,h9⟩:=GW h1;exact NI T h6 h7 h8 h9 h2 h3 (aH a kt X g _ Z T.toGood h4).1 (dN b kt X g _ Z T h5)|.jc i j a b=>λkt X g x Z T h=>by refine nZ h λ_ _ _ _ _ h=>?_;refine aX h λ_ _ _ _ h=>?_;refine aL h λ_ _ h=>?_;refine aG h λ_ _ h=>?_;simp only[W9,qqq,XJ,Xr] at h;obtain⟨⟨⟨⟨⟨⟨⟨⟨rfl,rfl⟩,rfl⟩,h1⟩,rfl⟩,h2⟩,h3⟩,h4⟩,h5⟩:=h;obtain⟨x,y,p,p',k,p2,rfl,h6,h7,h8,h9⟩:=GW h1;exact NJ T h6 h7 h8 h9 h2 h3 (aH a kt X g _ Z T.toGood h4).1 (dN b kt X g _ Z T h5)|.kK c b=>λkt X g x Z T h=>by refine BW h λ_ _ _ _ h=>?_;simp only[W9,Xr] at h;obtain⟨⟨rfl,h1⟩,h2⟩:=h;exact JK T (aH c kt X g _ Z T.toGood h1).2 (dN b kt X g _ Z T h2)|.expr e=>λkt X g x Z T h=>by refine wI h λ_ _ h=>?_;simp only[W9,XJ] at h;exact Nz h.2 (aH e kt X g _ Z T.toGood h.1).1|.app a e=>λkt X g x Z T h=>by refine wI h λ_ _ h=>?_;refine aX h λ_ _ _ _ h=>?_;refine bR h λ_ _ _ h=>?_;refine aG h λ_ _ h=>?_;simp only[W9,qqq,XJ,Xr] at h;obtain⟨⟨⟨⟨⟨⟨⟨rfl,rfl⟩,h0⟩,rfl⟩,h1⟩,h2⟩,h3⟩,h4⟩:=h;exact Ro h0 h1 (aH a kt X g _ Z T.toGood h2).1 (aH e kt X g _ Z T.toGood h3).1 h4|.put a i e=>λkt X g x Z T h=>by refine kP h λ_ _ _ h=>?_;refine aG h λ_ _ h=>?_;refine jd h λ_ _ _ h=>?_;simp only[W9,XJ,Xr] at h;obtain⟨⟨⟨⟨rfl,h1⟩,h2⟩,h3⟩,h4⟩:=h;exact Rq T.toGood h4 (aH a kt X g _ Z T.toGood h1).1 (aH i kt X g _ Z T.toGood h2).1 (aH e kt X g _ Z T.toGood h3).1|.nL i k=>λkt X g x Z T h=>by refine pP h λ_ _ _ _ _ _ _ _ _ _ h=>?_;simp only[W9,qqq,Xr,YQ] at h;obtain⟨⟨⟨⟨⟨rfl,rfl⟩,rfl⟩,rfl⟩,rfl⟩,h6⟩:=h;exact T.nL i k _ _ _ _ _ h6 Z|.lX c f i e=>λkt X g s Z T h=>by refine kP h λ_ _ _ h=>?_;refine aG h λ_ _ h=>?_;refine bR h λ_ _ _ h=>?_;refine aL h λ_ _ h=>?_;simp only[W9,qqq,Xr] at h;obtain⟨⟨⟨⟨⟨⟨rfl,rfl⟩,h1⟩,h2⟩,h3⟩,h4⟩,h5⟩:=h;exact NB T.toGood h1 h2 h3 h4 (aH e kt X g _ Z T.toGood h5).1
theorem dN:∀s:List S,V7 C s
 |[]=>λkt X g x Z T h=>by have:x=[]:=Xr.mp h;rw[this];exact NC|s::ss=>λkt X g x Z T h=>by refine aG h λ_ _ h=>?_;simp only[W9] at h;exact JJ (NK s kt X g _ Z T h.1) (dN ss kt X g _ Z T h.2)
end
end
section
variable{K:KB}{H H':Hp}{m m1 m2 Z Z1 Z2:List Addr}
mutual
theorem aF.weak(hw:∀a,a∉m1->a∉Z1->a∉m2/\a∉Z2):∀{x:D} {v:V},aF K H m1 Z1 x v->aF K H m2 Z2 x v
 |.bz,_,h=>h|.bl _,_,h=>h|.int _,_,h=>h|.str _,_,h=>h|.tup xs,v,h=>by obtain⟨a,us,e,q,r⟩:=(show ∃a us,v=.ref a/\H a=Δ (.tup us)/\aw K H m1 Z1 xs us from h);exact⟨a,us,e,q,aw.weak hw r⟩
 |.pl xs,v,h=>by obtain⟨a,us,e,q,hm,hz,r⟩:=(show ∃a us,v=.ref a/\Rd H a (.lst us)/\a∉m1/\a∉Z1/\aw K H m1 Z1 xs us from h);exact⟨a,us,e,q,(hw a hm hz).1,(hw a hm hz).2,aw.weak hw r⟩
theorem aw.weak(hw:∀a,a∉m1->a∉Z1->a∉m2/\a∉Z2):∀{xs:List D} {us:List V},aw K H m1 Z1 xs us->aw K H m2 Z2 xs us
 |[],_,h=>h|x::xs,us,h=>by obtain⟨v,vs,e,r,rs⟩:=(show ∃v vs,us=v::vs/\aF K H m1 Z1 x v/\aw K H m1 Z1 xs vs from h);exact⟨v,vs,e,aF.weak hw r,aw.weak hw rs⟩
end
mutual
theorem aF.nU:∀{x:D} {v:V},Y.nU x=Λ->aF K H m1 Z1 x v->aF K H m2 Z2 x v
 |.bz,_,_,h=>h|.bl _,_,_,h=>h|.int _,_,_,h=>h|.str _,_,_,h=>h|.tup xs,v,n,h=>by obtain⟨a,us,e,q,r⟩:=(show ∃a us,v=.ref a/\H a=Δ (.tup us)/\aw K H m1 Z1 xs us from h);exact⟨a,us,e,q,aw.nU (by simpa[Y.nU] using n) r⟩
 |.pl xs,v,n,h=>by simp[Y.nU] at n
theorem aw.nU:∀{xs:List D} {us:List V},CP xs=Λ->aw K H m1 Z1 xs us->aw K H m2 Z2 xs us
 |[],_,_,h=>h|x::xs,us,n,h=>by obtain⟨v,vs,e,r,rs⟩:=(show ∃v vs,us=v::vs/\aF K H m1 Z1 x v/\aw K H m1 Z1 xs vs from h);simp only[CP,W9] at n;exact⟨v,vs,e,aF.nU n.1 r,aw.nU n.2 rs⟩
end
mutual
theorem ak.weak(hw:∀a,a∉m1->a∉Z1->a∉m2/\a∉Z2):∀{x:P} {v:V},cq x=Λ->ak K H m1 Z1 x v->ak K H m2 Z2 x v
 |.d _,_,_,h=>by rw[ak] at h ⊢;exact aF.weak hw h|.obj _,_,n,_=>by simp[cq] at n|.fR _,_,n,_=>by simp[cq] at n|.fn k bu,v,n,h=>by rw[ak] at h ⊢;obtain⟨a,c,bW,e,q,hc,r⟩:=h;exact⟨a,c,bW,e,q,hc,ai.weak hw (by simpa[cq] using n) r⟩
 |.lf k,_,n,_=>by simp[cq] at n
theorem ai.weak(hw:∀a,a∉m1->a∉Z1->a∉m2/\a∉Z2):∀{xs:List P} {us:List V},cz xs=Λ->ai K H m1 Z1 xs us->ai K H m2 Z2 xs us
 |[],_,_,h=>h|x::xs,us,n,h=>by rw[ai] at h ⊢;obtain⟨v,vs,e,r,rs⟩:=h;simp only[cz,W9] at n;exact⟨v,vs,e,ak.weak hw n.1 r,ai.weak hw n.2 rs⟩
end
theorem V8{st:aI}(as:aA K H m Z st)(r:ak K H m Z p v)(e:xI st p=Δ q):ak K H [] [] q v/\(isObj p=Ξ->ak K H [] (Z++m) q v):=by
 have hw:∀a,a∉m->a∉Z->a∉([]:List Addr)/\a∉Z++m:=λa h1 h2=>⟨by simp,λz=>by
  rcases Zq.mp z with z|z;·exact h2 z
  ·exact h1 z⟩
 cases p with
 |fR ns=>cases e;rw[ak] at r;exact⟨by rw[ak];exact r,λ_=>by rw[ak];exact r⟩|d x=>cases e;rw[ak] at r;exact⟨by rw[ak];exact aF.bare r,λ_=>by rw[ak];exact aF.weak hw r⟩|obj n=>obtain⟨x,e1,rfl⟩:=gj (show(jR st (.obj n)).map P.d=Δ q from e);exact⟨by rw[ak];exact kQ as e1 r,λz=>nomatch z⟩|fn k bu=>
  have e':(if cz bu=Λ then Δ (P.fn k bu) else Θ)=Δ q:=e;split at e'
  ·rename_i hp;cases e';have DR:cq (.fn k bu)=Λ:=by simpa[cq] using hp
   exact⟨ak.weak (m1:=m) (Z1:=Z) (λ_ _ _=>⟨by simp,by simp⟩) DR r,λ_=>ak.weak hw DR r⟩
  ·cases e'
 |lf k=>cases e
theorem Ab{st:aI}(as:aA K H m Z st):∀{ps qs} {vs},ai K H m Z ps vs->gN st ps=Δ qs->ai K H [] [] qs vs/\(ps.any isObj=Ξ->ai K H [] (Z++m) qs vs)
 |[],qs,vs,r,e=>by cases e;exact⟨r,λ_=>r⟩|p::ps,qs,vs,r,e=>by rw[ai] at r;obtain⟨v,w',rfl,r1,r2⟩:=r;obtain⟨q,e1,e⟩:=cb (show((xI st p).bind λx=>(gN st ps).map λxs=>x::xs)=Δ qs from e);obtain⟨q2,e2,rfl⟩:=gj e;obtain⟨i1,i2⟩:=V8 as r1 e1;obtain⟨j1,j2⟩:=Ab as r2 e2;refine⟨by rw[ai];exact⟨v,w',rfl,i1,j1⟩,λh=>?_⟩;rw[Zy,Bool.or_eq_false_iff] at h;rw[ai];exact⟨v,w',rfl,i2 h.1,j2 h.2⟩
theorem wN(r:ai K H m Z qs vs):cu K H m Z (az N.length qs) (L2.start N vs):=by
 have hl:=r.length;refine⟨by unfold az L2.start;simp[hl],λi p h=>?_⟩;unfold az at h;unfold L2.start;by_cases hi:i < qs.length
 ·rw[Xg (by simpa using hi),Xi] at h;cases e:qs[i]? with
  |none=>rw[e] at h;cases h|some q=>
   rw[e] at h;have h':q=p:=by simpa using h
   subst h';obtain⟨v,e1,r1⟩:=r.get e;exact⟨v,by rw[Xg (by rw[Xf,hl];exact hi),Xi,e1];rfl,r1⟩
 ·rw[Xy (by simpa using hi),Z9] at h;split at h<;>cases h
theorem aA.V9{st:aI}(A:aA K H m Z st)(h:a∈m):gy H a≠Θ:=by
 obtain⟨n,hn,e⟩:=List.mem_iff_getElem.mp h;have E5:n < st.length:=by rw[<-A.len];exact hn
 obtain⟨a',e',r⟩:=A.at_ n st[n] (Xc E5);rw[Xc hn,e] at e';cases e';cases q:H a with|none=>exact absurd q r.qR.1|some u=>rw[br q λφ z=>r.qR.2.2.2.1 φ (by rw[q,z])];exact λz=>nomatch z
theorem lM(hz:∀a∈Z,gy H a≠Θ)(ht:∀t∈K.tabs,∃ps,H t.1=Δ (.fG ps)/\fK H t.2 ps):aA K H [] Z []:=⟨rfl,by simp,λn o h=>by simp at h,hz,λa _=>by simp,ht⟩
theorem Le.outer(le:Le K [] H m' H'):Le K m H m H':=⟨⟨[],by simp⟩,le.tup,λa u h _=>le.keep a u h (by simp),λa h=>.inl h,le.qR,le.CQ,le.dA,le.ext,le.fG⟩
theorem aA.outer{st:aI}(as:aA K H m Z st)(le:Le K [] H m' H')(ht:∀t∈K.tabs,∃ps,H' t.1=Δ (.fG ps)/\fK H' t.2 ps):aA K H' m Z st:=by
 refine⟨as.len,as.nd,λn o h=>?_,λa h=>le.CQ a (as.zt a h),as.zm,ht⟩;obtain⟨a,q,r⟩:=as.at_ n o h;exact⟨a,q,r.mono (λb u hb hu=>le.keep b u hu (by simp) (λps z=>by
  rcases hb with w1|w1;·subst w1;rw[z] at hu;exact r.qR.2.2.2.2.1 ps hu
  ·rw[w1] at hu;cases hu;cases z)) λp v z=>z.le le.outer⟩
end
structure Info where
 name:Str
 st:Stmt
 N:List Str
 ps:List Str
 F:Fn
section
variable{P:Yi}{w:World}{K:Xm}{mg:Str->Option Value}{base:Heap}{is:List Info}{cs:List (Str×Int)}{ts:List (Str×List (Str×Int))}{a:Nat->Addr}{fd:Nat->Ze}
end
structure CI where
 lam:Bool
 qual:Str
 N:List Str
 ps:List Str
 fr:List Str
 F:Fn
structure KI where
 name:Str
 rg:List Str
 GX:List (Str×Nat)
structure TX where
 is:List (Info×List (Nat×Pos))
 Wa:List CI
 cs:List (Str×Int)
 ts:List (Str×List (Str×Int))
 nf:Nat
 ks:List KI
def TX.Fs(S:TX):List Fn:=S.is.map (·.1.F)++S.Wa.map (·.F)
noncomputable def TX.ci(S:TX)(k:Nat):Option CI:=if k < S.is.length then Θ else S.Wa[k - S.is.length]?
def TX.fns(S:TX):List (Str×Nat):=(S.is.take S.nf).map λj=>(j.1.name,j.1.F.np)
theorem TX.GY{S:TX}(h:S.fns[k]?=Δ (x,n)):k < S.nf/\∃i,S.is[k]?=Δ i/\(i.1.name,i.1.F.np)=(x,n):=by
 unfold TX.fns at h;rw[Xi,List.getElem?_take] at h;split at h;·rename_i hk;refine⟨hk,?_⟩;cases ej:S.is[k]? with|none=>rw[ej] at h;cases h|some i2=>rw[ej] at h;exact⟨i2,rfl,by simpa using h⟩
 ·cases h
noncomputable def TX.np(S:TX)(k:Nat):Option Nat:=(S.is[k]?).map (·.1.F.np)
def TX.yK(S:TX)(c f:Str):Bool:=S.ks.any λq=>decide (q.name=c)&&q.rg.any (λx=>decide (x=f))
def TX.A8(S:TX)(k:Nat)(c m:Str)(n:Nat):Bool:=S.ks.any λq=>decide (q.name=c)&&decide (q.GX.lookup m=Δ k)&&decide (S.np k=Δ (n+1))
def TX.A9(S:TX)(k:Nat)(c:Str)(n:Nat):Bool:=S.ks.any λq=>decide (q.name=c)&&decide (q.GX.lookup ("__init__":Str)=Δ k)&&decide (S.np k=Δ (n+1))
def lv:Nat->Nat
 |0=>0|n+1=>lv n+2
def TX.q(S:TX)(k:Nat):Str:=((S.ci k).map (·.qual)).getD ""
theorem TX.NL{S:TX}{ci:CI}(h:S.ci k=Δ ci):S.Fs[k]?=Δ ci.F/\S.q k=ci.qual:=by
 unfold TX.ci at h;split at h;·cases h
 ·rename_i hk;refine⟨?_,by unfold TX.q TX.ci;rw[if_neg hk,h];rfl⟩;unfold TX.Fs;rw[Xy (by rw[Xf];lia),Xf,Xi,h];rfl
theorem TX.Wb{S:TX}{k:Nat}(h:S.is[k]?=Δ i):S.Fs[k]?=Δ i.1.F:=by unfold TX.Fs;rw[Xg (by rw[Xf];exact(qqz h).1),Xi,h];rfl
def B5(ci:CI)(sc:Scope):Bool:=
 decide (sc.kind=.function)&&!sc.isCoroutine&&!sc.isGenerator&&decide ci.N.Nodup&&decide (ci.N.take (ci.ps.length+ci.fr.length)=ci.ps++ci.fr)&&
 ci.ps.all (λx=>decide (sc.names.lookup x=Δ .local))&&ci.fr.all (λx=>decide (sc.names.lookup x=Δ .free))&&
 sc.names.all (λy=>decide (y.2≠.cell)&&(decide (y.2≠.free)||decide (y.1∈ci.fr)))&&
 decide (ci.F.np=ci.ps.length+ci.fr.length)&&decide (ci.F.nn=ci.N.length)&&!ci.F.sh
theorem n6(h:B5 ci sc=Λ):kH ci.N ci.ps ci.fr sc/\ci.F.np=ci.ps.length+ci.fr.length/\ci.F.nn=ci.N.length/\ci.F.sh=Ξ:=by unfold B5 at h;simp only[W9,qqq,XJ,Y2,ZO] at h;obtain⟨⟨⟨⟨⟨⟨⟨⟨⟨⟨h1,h2⟩,h3⟩,h4⟩,h5⟩,h6⟩,h7⟩,h8⟩,h9⟩,h10⟩,h11⟩:=h;exact⟨⟨h1,h2,h3,h4,h5,h6,h7,λy hy=>(h8 y hy).1,λy hy hf=>(h8 y hy).2.resolve_left λz=>z hf⟩,h9,h10,h11⟩
def gC(S:TX)(ci:CI)(sc:Scope):G:={N:=ci.N,names:=sc.names,fns:=S.fns,ik:=S.cs,tabs:=S.ts,yK:=S.yK,A8:=S.A8,A9:=S.A9}
def JM:List S->Option E
 |s::r=>match s with
  |.ret e=>match r with|[]=>Δ e|_::_=>Θ
  |_=>Θ
 |[]=>Θ
theorem JN(h:JM b=Δ e):b=[.ret e]:=by
 unfold JM at h;split at h
 ·split at h
  ·split at h;·cases h;rfl
   ·cases h
  ·cases h
 ·cases h
def pW(S:TX)(ci:CI)(pa:ZR)(bo:Expr)(sc:Scope):Bool:=ci.lam&&e7 pa ci.ps&&B5 ci sc&&(match JM ci.F.body with|some e=>gP (gC S ci sc) e bo|none=>Ξ)
def pX(S:TX)(ci:CI)(pa:ZR)(bo:List Stmt)(sc:Scope):Bool:=!ci.lam&&e7 pa ci.ps&&B5 ci sc&&ur (gC S ci sc) ci.F.body bo
def GZ(S:TX)(ci:CI)(o:Obj)(sc:Scope)(cl:List (Str×Addr))(c:Addr):Prop:=
 (∃pa bo pm ct,o=PySem.W.kla_obj "<lambda>" ci.qual pa bo sc cl pm c ct/\pW S ci pa bo sc=Λ)\/
 (∃nm pa bo doc pm ct,o=PySem.W.fnMade nm ci.qual pa bo sc cl doc pm c ct/\pX S ci pa bo sc=Λ)
def n8(S:TX)(B:Heap)(k:Nat)(a c:Addr)(bW:List V):Prop:=∃ci o sc cl,S.ci k=Δ ci/\B.get? a=Δ o/\GZ S ci o sc cl c/\HL B cl ci.fr bW
abbrev mS(S:TX)(K:Xm)(base:Heap)(tabs:List (Addr×List (Pos×Str))):KB:=⟨K,base,tabs,n8 S base,λ_ _ _ _ _=>False,S.q⟩
abbrev Tr(S:TX)(base:Heap)(tabs:List (Addr×List (Pos×Str))):KT:={tabs:=tabs,qE:=n8 S base,HN:=λ_ _ _ _ _=>False,zJ:=S.q}
section
variable{K1 K2:KB}{H:Hp}{m Z:List Addr}
mutual
theorem aF.kb:∀{x:D} {v:V},aF K1 H m Z x v->aF K2 H m Z x v
 |.bz,_,h=>h|.bl _,_,h=>h|.int _,_,h=>h|.str _,_,h=>h|.tup xs,v,h=>by obtain⟨a,us,e,q,r⟩:=(show ∃a us,v=.ref a/\H a=Δ (.tup us)/\aw K1 H m Z xs us from h);exact⟨a,us,e,q,aw.kb r⟩
 |.pl xs,v,h=>by obtain⟨a,us,e,q,hm,hz,r⟩:=(show ∃a us,v=.ref a/\Rd H a (.lst us)/\a∉m/\a∉Z/\aw K1 H m Z xs us from h);exact⟨a,us,e,q,hm,hz,aw.kb r⟩
theorem aw.kb:∀{xs:List D} {us:List V},aw K1 H m Z xs us->aw K2 H m Z xs us
 |[],_,h=>h|x::xs,us,h=>by obtain⟨v,vs,e,r,rs⟩:=(show ∃v vs,us=v::vs/\aF K1 H m Z x v/\aw K1 H m Z xs vs from h);exact⟨v,vs,e,aF.kb r,aw.kb rs⟩
end
mutual
theorem ak.kb(hk:K1.K=K2.K)(hq:K1.zJ=K2.zJ)(hc:∀k a c bW,K1.qE k a c bW->K2.qE k a c bW):∀{x:P} {v:V},cq x=Λ->ak K1 H m Z x v->ak K2 H m Z x v
 |.d _,_,_,h=>by rw[ak] at h ⊢;exact aF.kb h|.obj _,_,n,_=>by simp[cq] at n|.fR _,_,n,_=>by simp[cq] at n|.fn k bu,v,n,h=>by rw[ak] at h ⊢;obtain⟨a,c,bW,e,q,hx,r⟩:=h;exact⟨a,c,bW,e,hc _ _ _ _ q,by rw[<-hq];exact hx,ai.kb hk hq hc (by simpa[cq] using n) r⟩
 |.lf k,_,n,_=>by simp[cq] at n
theorem ai.kb(hk:K1.K=K2.K)(hq:K1.zJ=K2.zJ)(hc:∀k a c bW,K1.qE k a c bW->K2.qE k a c bW):∀{xs:List P} {us:List V},cz xs=Λ->ai K1 H m Z xs us->ai K2 H m Z xs us
 |[],_,_,h=>h|x::xs,us,n,h=>by rw[ai] at h ⊢;obtain⟨v,vs,e,r,rs⟩:=h;simp only[cz,W9] at n;exact⟨v,vs,e,ak.kb hk hq hc n.1 r,ai.kb hk hq hc n.2 rs⟩
end
def JO:P->Bool
 |.fR _=>Λ|p=>cq p
theorem NM{st:aI}(h:xI st p=Δ q):JO q=Λ:=by
 cases p with
 |fR ns=>cases h;rfl|d x=>cases h;rfl|obj n=>obtain⟨x,e1,rfl⟩:=gj (show(jR st (.obj n)).map P.d=Δ q from h);rfl
 |fn k bu=>
  have e':(if cz bu=Λ then Δ (P.fn k bu) else Θ)=Δ q:=h;split at e';·rename_i hp;cases e';simpa[JO,cq] using hp
  ·cases e'
 |lf k=>cases h
theorem C7{st:aI}:∀{ps qs},gN st ps=Δ qs->∀q∈qs,JO q=Λ
 |[],qs,h=>by cases h;exact λq z=>by cases z|p::ps,qs,h=>by
  obtain⟨q,e1,e⟩:=cb (show((xI st p).bind λx=>(gN st ps).map λxs=>x::xs)=Δ qs from h);obtain⟨q2,e2,rfl⟩:=gj e;intro x hx;rcases aai.mp hx with z|z;·rw[z];exact NM e1
  ·exact C7 e2 x z
theorem ai.kbA(hk:K1.K=K2.K)(hq:K1.zJ=K2.zJ)(hc:∀k a c bW,K1.qE k a c bW->K2.qE k a c bW):∀{xs} {us},(∀q∈xs,JO q=Λ)->ai K1 H m Z xs us->ai K2 H m Z xs us
 |[],_,_,h=>h|x::xs,us,n,h=>by rw[ai] at h ⊢;obtain⟨v,vs,e,r,rs⟩:=h;refine⟨v,vs,e,?_,ai.kbA hk hq hc (λq hq=>n q (Xb _ hq)) rs⟩;have hx:=n x Xh;cases x with|fR ns=>rw[ak] at r ⊢;rw[<-hk];exact r|d y=>exact ak.kb hk hq hc rfl r|obj y=>cases hx|fn k c=>exact ak.kb hk hq hc hx r|lf k=>cases hx
end
theorem pY(Rt:F.nn=N.length){st:aI}(rq:ai kb H m Z qs vs)(as:aA kb H m Z st)(hk:kb.K=X.K)(hq:kb.zJ=kt.zJ)(hc:∀k a c bW,kb.qE k a c bW->kt.qE k a c bW)(ht:kb.tabs=kt.tabs)(ea:gN st qs=Δ q2)(er:vD C F q2=Δ d)(aJ:Ok kb Z (tY qs d st) m H (λp _ m' H'=>∀v,ak kb H' m' Z p v->Q v H')):
  ∃Z0,tS (af X kt) Z0 (ah C F.body) {nx:=λ_ H'=>Q .bz H',rt:=Q} (L2.start N vs) H:=by
 obtain⟨r1,r2⟩:=Ab as rq ea;have hb:=C7 ea;obtain⟨Z0,Tf,rs0,hw⟩:∃Z0:List Addr,(∀b∈Z0,gy H b≠Θ)/\ai kb H [] Z0 q2 vs/\((qs.any isObj=Ξ/\Z0=Z++m)\/qs.any isObj=Λ):=by
  cases ho:qs.any isObj with
  |false=>
   refine⟨Z++m,λb hb=>?_,r2 ho,.inl ⟨rfl,rfl⟩⟩;rcases Zq.mp hb with z|z;·exact as.zt b z
   ·exact as.V9 z
  |true=>exact⟨[],(λb hb=>by cases hb),r1,.inr rfl⟩
 have tab:∀t∈(af X kt).tabs,∃ps,H t.1=Δ (.fG ps)/\fK H t.2 ps:=λt h=>as.tab t (by rw[ht];exact h);refine⟨Z0,[],az F.nn q2,[],by rw[Rt];exact wN (ai.kbA hk hq hc hb rs0),lM Tf tab,?_⟩;unfold vD at er;split at er
 ·cases hx:ah C F.body (az F.nn q2) [] with
  |ex x s=>rw[hx] at er;cases er|no=>rw[hx] at er;cases er|ok f aK=>
   rw[hx] at er;intro m' H' le b9;have le0:Le kb [] H m' H':=⟨le.pre,le.tup,le.keep,le.new,le.qR,le.CQ,le.dA,le.ext,le.fG⟩;have fin:∀v,aF kb H' m Z d v->Q v H':=λv rv=>by
    unfold tY at aJ;split at aJ;·exact(show False from aJ).elim
    ·exact aJ m H' le0.outer (as.outer le0 (λt h=>b9.tab t (by show t∈kt.tabs;rw[<-ht];exact h))) v rv
   have Wc:qs.any isObj=Λ->Y.nU d=Λ:=λz=>by
    unfold tY at aJ;split at aJ;·exact(show False from aJ).elim
    ·rename_i hc;cases hp:Y.nU d with|true=>rfl|false=>rw[z,hp] at hc;exact absurd rfl hc
   cases f with
   |bk r=>cases er|ct r=>cases er|nx r=>cases er;exact λσ _=>fin .bz rfl
   |rt p=>
    have HR:jR aK p=Δ d:=er;intro v rv;apply fin;rcases hw with ⟨_,rfl⟩|ho
    ·have xp:∀b,b∉m'->b∉Z++m->b∉m/\b∉Z:=λb _ h=>⟨λz=>h (XQ _ z),λz=>h (Yw _ z)⟩;cases p with
     |fR ns=>cases HR|fn k c=>cases HR|lf k=>cases HR|d x=>cases HR;exact aF.kb (aF.weak xp rv)|obj j=>
      obtain⟨b,e,rfl⟩:=rv;have h':(match aK[j]? with|some (.lst xs)=>(aY xs).map D.pl|_=>Θ)=Δ d:=HR;split at h'
      ·rename_i xs hs;obtain⟨b',e',o⟩:=b9.at_ j _ hs;rw[e] at e';cases e';obtain⟨us,hu,rs⟩:=o;obtain⟨ys,hd,rfl⟩:=gj h';have hbn:H b=Θ:=by
        rcases le.new b (Xw e) with z|z;·cases z
        ·exact z
       exact⟨b,us,rfl,.inl hu,λz=>as.QR z hbn,λz=>as.zt b z (jP hbn),aw.kb (aw.weak xp (rs.aY hd))⟩
      ·cases h'
    ·have np:=Wc ho;cases p with
     |fR ns=>cases HR|fn k c=>cases HR|lf k=>cases HR|d x=>cases HR;exact aF.kb (aF.nU np rv)|obj j=>
      have h':(match aK[j]? with|some (.lst xs)=>(aY xs).map D.pl|_=>Θ)=Δ d:=HR;split at h';·obtain⟨ys,hd,rfl⟩:=gj h';simp[Y.nU] at np
      ·cases h'
 ·cases er
theorem JP{K:KB}(h:tS K Z (ah C [.ret e]) {nx:=N0,rt:=Q} σ H):tE K Z (aa C e) σ H Q:=by obtain⟨m,r,st,ar,as,h⟩:=h;refine⟨m,r,st,ar,as,?_⟩;rw[e8,pF] at h;cases hx:aa C e r st with|ex x s=>rw[hx] at h;exact h|no=>rw[hx] at h;exact h|ok p aK=>rw[hx] at h;exact λm' H' le b9=>h m' H' le b9
theorem wO{st:aI}:∀{ps qs},gN st ps=Δ qs->qs.length=ps.length
 |[],qs,h=>by cases h;rfl|p::ps,qs,h=>by obtain⟨q,e1,e⟩:=cb (show((xI st p).bind λx=>(gN st ps).map λxs=>x::xs)=Δ qs from h);obtain⟨q2,e2,rfl⟩:=gj e;rw[Xt,Xt,wO e2]
theorem lN{st:aI}(hF:Fs[k]?=Δ F)(hs:F.sh=Ξ)(h:Ok kb Z (callC Fs (n+1) k ps st) m H Q):
  ∃q2 d,gN st ps=Δ q2/\vD (callC Fs n) F q2=Δ d/\Ok kb Z (tY ps d st) m H Q/\ps.length=F.np:=by
 rw[ij,hF] at h;simp only[hs,XZ,if_false] at h;cases ea:gN st ps with
 |none=>rw[ea] at h;exact(show False from h).elim|some q2=>
  rw[ea] at h;simp only at h;cases er:vD (callC Fs n) F q2 with
  |none=>rw[er] at h;exact(show False from h).elim|some d=>
   rw[er] at h;refine⟨q2,d,rfl,er,h,?_⟩;unfold vD at er;split at er;·rename_i hl;rw[<-wO ea];exact hl
   ·cases er
def dy(S:TX)(i:Info×List (Nat×Pos)):List (Pos×Str):=i.2.map λp=>(p.2,S.q p.1)
def freeOk(names:List (Str×ZT))(sc:Scope):Bool:=sc.names.all λy=>decide (y.2≠.free)||decide (names.lookup y.1=Δ .cell)
def Em(S:TX)(i:Info×List (Nat×Pos))(ls:List (Nat×List Nat)):Bool:=ls.all λp=>match S.ci p.1 with|some ci=>decide (p.2.map (λj=>i.1.N[j]?)=ci.fr.map Δ)&&ci.fr.all λx=>decide ((aE i.1.st).names.lookup x=Δ .cell)|none=>Ξ
def G0(S:TX)(i:Info×List (Nat×Pos))(k:Nat)(pa:ZR)(bo:Expr)(sc:Scope)(pos:Pos):Bool:=match S.ci k with|some ci=>decide ((k,pos)∈i.2)&&pW S ci pa bo sc&&freeOk (aE i.1.st).names sc&&decide (ci.qual=(i.1.name++".<locals>.")++"<lambda>")|none=>Ξ
def G1(S:TX)(i:Info×List (Nat×Pos))(j k:Nat)(nm:Str)(pa:ZR)(bo:List Stmt)(sc:Scope)(pos:Pos):Bool:=match S.ci k with|some ci=>decide ((k,pos)∈i.2)&&pX S ci pa bo sc&&freeOk (aE i.1.st).names sc&&decide (ci.qual=(i.1.name++".<locals>.")++nm)&&decide (i.1.N[j]?=Δ nm)&&(decide ((aE i.1.st).names.lookup nm=Δ .local)||decide ((aE i.1.st).names.lookup nm=Δ .cell))|none=>Ξ
def G3(S:TX)(i:Info×List (Nat×Pos)):G:=match i.2 with|[]=>{N:=i.1.N,names:=(aE i.1.st).names,fns:=S.fns,ik:=S.cs,tabs:=S.ts,yK:=S.yK,A8:=S.A8,A9:=S.A9}|_::_=>{N:=i.1.N,names:=(aE i.1.st).names,fns:=[],ik:=S.cs,tabs:=S.ts,QU:=G0 S i,QV:=G1 S i,Lf:=λf x n ls=>decide (S.fns[f]?=Δ (x,n))&&Em S i ls,QW:=λ_ _ _=>Ξ,cv:=Ξ}
def G4(S:TX)(i:Info×List (Nat×Pos)):Bool:=ur (G3 S i) i.1.F.body (lD i.1.st)&&decide (i.1.F.np=i.1.ps.length)&&decide (i.1.F.nn=i.1.N.length)&&(i.2.isEmpty||!i.1.F.sh)
structure yc(K:Xm)(mg:Str->Option Value)(S:TX)(tabs:List (Addr×List (Pos×Str)))(a:Nat->Addr)(fd:Nat->Ze)(cP:Nat->Addr×Addr):Prop where
 fn:∀(k:Nat) (i:Info×List (Nat×Pos)),S.is[k]?=Δ i->(∃x,o6 K x i.1.name i.1.st (a k) (fd k))/\(k < S.nf->mg i.1.name=Δ (.ref (a k)))/\Binds K (fd k) i.1.ps []/\nv i.1.N i.1.ps (aE i.1.st)/\G4 S i=Λ
 bl:∀x∈ui,mg x=Θ
 cs:∀x i,S.cs.lookup x=Δ i->∃t,mg x=Δ (.int i t)
 tb:∀x t,S.ts.lookup x=Δ t->∃a,mg x=Δ (.ref a)/\Ql K a t
 cl:∀q∈S.ks,∃A,XB K Xu q.name=Δ (Δ (.ref A))/\mg q.name=Δ (.ref A)/\A5 K A/\(∀f∈q.rg,jK K A f)/\(∀m k,q.GX.lookup m=Δ k->Bk K A m (a k))/\∀k,q.GX.lookup ("__init__":Str)=Δ k->Mk K A (a k)
 mkr:∀(k:Nat) (i:Info×List (Nat×Pos)),S.is[k]?=Δ i->i.2≠[]->(fd k).code=.ref (cP k).1/\((cP k).2,dy S i)∈tabs/\Apart (dy S i)/\∀t∈tabs,t.1=(cP k).2->t.2=dy S i
section
variable{P:Yi}{w:World}{K:Xm}{mg:Str->Option Value}{S:TX}{tabs:List (Addr×List (Pos×Str))}{a:Nat->Addr}{fd:Nat->Ze}{cP:Nat->Addr×Addr}
structure jV(mg:Str->Option Value)(S:TX)(cP:Nat->Addr×Addr)(base:Heap):Prop where
 code:∀(k:Nat) (i:Info×List (Nat×Pos)),S.is[k]?=Δ i->i.2≠[]->Zn base (cP k).1 (cP k).2
 bm:BMain mg base
def kU(P:Yi)(w:World)(K:Xm)(mg:Str->Option Value)(S:TX)(tabs:List (Addr×List (Pos×Str)))(a:Nat->Addr)(fd:Nat->Ze)(n:Nat)(base:Heap):Prop:=
 ∀(k:Nat) (i:Info×List (Nat×Pos)),S.is[k]?=Δ i->gE P w K mg base u7 (lv n) (a k) (fd k) i.1.ps (BY (mS S K base tabs) (callC S.Fs n k) i.1.F.np)
def yd(P:Yi)(w:World)(K:Xm)(mg:Str->Option Value)(S:TX)(tabs:List (Addr×List (Pos×Str)))(n:Nat)(base:Heap):Prop:=
 ∀(k:Nat) (b c:Addr) (bW:List V),n8 S base k b c bW->∃fd ps,gE P w K mg base u7 (lv n) b fd ps (QX (mS S K base tabs) (callC S.Fs n k) c (S.q k) bW)/\Binds K fd ps []
theorem G5(h:n8 S base k b c bW):∃oc od fd sl,base.get? b=Δ ⟨oc,od,.func fd,sl⟩:=by obtain⟨ci,o,sc,cl,_,ho,hf,_⟩:=h;rcases hf with ⟨_,_,_,_,rfl,_⟩|⟨_,_,_,_,_,_,rfl,_⟩<;>exact⟨_,_,_,_,ho⟩
theorem Ac(T:yc K mg S tabs a fd cP)(D:kU P w K mg S tabs a fd n base)(hX:X.prog=P/\X.w=w/\X.K=K/\X.mg=mg/\X.base=base)(hr:cZ (lv n+1) X.A)(Ru:af X kt=mS S K base tabs):∀(k) (x) (m),S.fns[k]?=Δ (x,m)->uh X kt (callC S.Fs n k) x m:=by obtain⟨rfl,rfl,rfl,rfl,rfl⟩:=hX;intro j x nn hj;obtain⟨hk,i2,ej,e2⟩:=TX.GY hj;cases e2;obtain⟨⟨x2,F2⟩,JL,we,_⟩:=T.fn j i2 ej;exact⟨⟨lv n,a j,fd j,i2.1.ps,by rw[Ru];exact D j i2 ej,hr.mono (Y9 _),JL hk,F2.kp,we⟩⟩
theorem Ad{X:Cx}(T:yc K mg S tabs a fd cP)(hK:X.K=K):∀c f,S.yK c f=Λ->∃A,XB X.K Xu c=Δ (Δ (.ref A))/\A5 X.K A/\jK X.K A f:=by subst hK;intro c f h;unfold TX.yK at h;rw[Y1] at h;obtain⟨q,hq,h⟩:=h;simp only[W9,qqq,Y1] at h;obtain⟨rfl,f',hf,rfl⟩:=h;obtain⟨A,k1,k2,k3,k4,_⟩:=T.cl q hq;exact⟨A,k1,k3,k4 _ hf⟩
theorem Lk(h:S.np k=Δ n):∃i,S.is[k]?=Δ i/\i.1.F.np=n:=by unfold TX.np at h;cases ej:S.is[k]? with|none=>rw[ej] at h;cases h|some i=>rw[ej] at h;exact⟨i,rfl,by simpa using h⟩
theorem Ae(T:yc K mg S tabs a fd cP)(D:kU P w K mg S tabs a fd n base)(hX:X.prog=P/\X.w=w/\X.K=K/\X.mg=mg/\X.base=base)(hr:cZ (lv n+1) X.A)(Ru:af X kt=mS S K base tabs):∀k c m nn,S.A8 k c m nn=Λ->∃A l fa fd ps,XB X.K Xu c=Δ (Δ (.ref A))/\A5 X.K A/\Bk X.K A m fa/\gE X.prog X.w X.K X.mg X.base u7 l fa fd ps (BY (af X kt) (callC S.Fs n k) (nn+1))/\cZ l X.A/\Binds X.K fd ps []:=by obtain⟨rfl,rfl,rfl,rfl,rfl⟩:=hX;intro k c m nn h;unfold TX.A8 at h;rw[Y1] at h;obtain⟨q,hq,h⟩:=h;simp only[W9,qqq] at h;obtain⟨⟨rfl,hm⟩,hn⟩:=h;obtain⟨i,ei,en⟩:=Lk hn;obtain⟨A,k1,k2,k3,k4,k5,_⟩:=T.cl q hq;obtain⟨_,_,we,_⟩:=T.fn k i ei;refine⟨A,lv n,a k,fd k,i.1.ps,k1,k3,k5 _ _ hm,?_,hr.mono (Y9 _),we⟩;have:=D k i ei;rw[Ru,<-en];exact this
theorem Af(T:yc K mg S tabs a fd cP)(D:kU P w K mg S tabs a fd n base)(hX:X.prog=P/\X.w=w/\X.K=K/\X.mg=mg/\X.base=base)(hr:cZ (lv n+1) X.A)(Ru:af X kt=mS S K base tabs):∀k c nn,S.A9 k c nn=Λ->∃A l fa fd ps,X.mg c=Δ (.ref A)/\XB X.K Xu c=Δ (Δ (.ref A))/\Mk X.K A fa/\gE X.prog X.w X.K X.mg X.base u7 l fa fd ps (BY (af X kt) (callC S.Fs n k) (nn+1))/\cZ (l+1) X.A/\Binds X.K fd ps []:=by obtain⟨rfl,rfl,rfl,rfl,rfl⟩:=hX;intro k c nn h;unfold TX.A9 at h;rw[Y1] at h;obtain⟨q,hq,h⟩:=h;simp only[W9,qqq] at h;obtain⟨⟨rfl,hm⟩,hn⟩:=h;obtain⟨i,ei,en⟩:=Lk hn;obtain⟨A,k1,k2,k3,k4,k5,k6⟩:=T.cl q hq;obtain⟨_,_,we,_⟩:=T.fn k i ei;refine⟨A,lv n,a k,fd k,i.1.ps,k2,k1,k6 _ hm,?_,hr,we⟩;have:=D k i ei;rw[Ru,<-en];exact this
theorem NN(T:yc K mg S tabs a fd cP)(D:kU P w K mg S tabs a fd n base)(L:yd P w K mg S tabs n base):yd P w K mg S tabs (n+1) base:=by
 intro k b c bW hc;obtain⟨ci,o,sc,cl,HU,ho,hf,u9⟩:=hc;obtain⟨eF,eq⟩:=TX.NL HU;have good:∀(cl:List (Str×Addr)) (A:YO) (outer:List Env) (s:Xv) (H:Hp) (E:XK),kH ci.N ci.ps ci.fr sc->cZ (lv n+1) (A.deeper (zv ci.qual sc s.heap.objs.size b (.ref c) cl))->
   fL (Lb u7 P w K mg base ci.N ci.qual sc b (.ref c) cl A outer s H E).EW (Tr S base tabs) (gC S ci sc) (callC S.Fs n):=λcl A outer s H E SC hr=>
  {N:=rfl,loc:=λx h=>h,HM:=λx h=>h,gl:=λx h=>h,calm:=rfl,hu:=by have:=hr.un;show(A.deeper _).units+100 < cLine;lia,bl:=T.bl,
   fn:=Ac T D ⟨rfl,rfl,rfl,rfl,rfl⟩ hr rfl,cs:=T.cs,tb:=T.tb,
   qE:=λ_ k' a' c' NO h'=>⟨G5 h',by obtain⟨f,ps,F,B⟩:=L k' a' c' NO h';exact⟨lv n,f,ps,F,hr.mono (Y9 _),B⟩⟩,
   lam:=λ_ _ _ _ _ h=>absurd (show Ξ=Λ from h) (by decide),iT:=λ_ _ _ _ h=>absurd (show Ξ=Λ from h) (by decide),jb:=λ_ _ _ h=>absurd (show Ξ=Λ from h) (by decide),fld:=Ad T rfl,OU:=Ae T D ⟨rfl,rfl,rfl,rfl,rfl⟩ hr rfl,OV:=Af T D ⟨rfl,rfl,rfl,rfl,rfl⟩ hr rfl,nL:=λ_ _ _ _ _ _ _ h=>absurd (show Ξ=Λ from h) (by decide),
   cell:=λx h=>absurd rfl (SC.fP _ (X8 h)),nd:=SC.nd,Tq:=λx h=>absurd rfl (SC.fP _ (X8 h)),own:=acj}
 have len:B5 ci sc=Λ->∀vs H Q E,QX (mS S K base tabs) (callC S.Fs (n+1) k) c (S.q k) bW vs H Q E->vs.length=ci.ps.length:=λhb vs H Q E h=>by
  obtain⟨_,m,Z,qs,bu,st,rq,rc,_,h⟩:=h;obtain⟨_,Ts,_,CF⟩:=n6 hb;obtain⟨_,_,_,_,_,hl⟩:=lN eF CF h;rw[Xz,Ts] at hl;have e1:=rq.length;have e2:=rc.length;have e3:=u9.len
  lia
 have core:∀{X:Cx},X.K=K->X.base=base->B5 ci sc=Λ->∀{vs:List V} {H:Hp} {Q:VK} {E:XK},QX (mS S K base tabs) (callC S.Fs (n+1) k) c (S.q k) bW vs H Q E->
   ∃Z0,tS (af X (Tr S base tabs)) Z0 (ah (callC S.Fs n) ci.F.body) {nx:=λ_ H'=>Q .bz H',rt:=Q} (L2.start ci.N (vs++bW)) H:=λ{X} hK hB hb {vs H Q E} h=>by
  obtain⟨_,m,Z,qs,bu,st,rq,rc,as,h⟩:=h;obtain⟨_,_,hnn,CF⟩:=n6 hb;obtain⟨q2,d,ea,er,h2,_⟩:=lN eF CF h;exact pY (kb:=mS S K base tabs) hnn (rq.append rc) as hK.symm rfl (λ_ _ _ _ z=>z) rfl ea er h2
 rcases hf with ⟨pa,bo,pm,ct,rfl,aJ⟩|⟨nm,pa,bo,doc,pm,ct,rfl,aJ⟩
 ·unfold pW at aJ;simp only[W9] at aJ;obtain⟨⟨⟨_,We⟩,hb⟩,OZ⟩:=aJ;obtain⟨SC,_⟩:=n6 hb;refine⟨_,ci.ps,MC (k:=lv n+1) ho (λvs H Q E h=>⟨c,rfl,by rw[<-eq];exact h.1⟩) SC u9 (len hb) (λA outer s H vs Q E hr h=>?_),Binds.all λus hl=>iQ We rfl hl⟩;obtain⟨Z0,ht⟩:=core (X:=Lb u7 P w K mg base ci.N ci.qual sc b (.ref c) cl A outer s H E) rfl rfl hb h;cases Wf:JM ci.F.body with|none=>rw[Wf] at OZ;cases OZ|some e=>rw[Wf] at OZ;rw[JN Wf] at ht;exact⟨_,(aH e _ _ _ bo Z0 (good cl A outer s H E SC hr).toGood OZ).1.EW,JP ht⟩
 ·unfold pX at aJ;simp only[W9] at aJ;obtain⟨⟨⟨_,We⟩,hb⟩,OZ⟩:=aJ;obtain⟨SC,_⟩:=n6 hb;refine⟨_,ci.ps,MA (k:=lv n+1) ho (λvs H Q E h=>⟨c,rfl,by rw[<-eq];exact h.1⟩) SC u9 (len hb) (λA outer s H vs Q E hr h=>?_),Binds.all λus hl=>iQ We rfl hl⟩;obtain⟨Z0,ht⟩:=core (X:=Lb u7 P w K mg base ci.N ci.qual sc b (.ref c) cl A outer s H E) rfl rfl hb h;exact⟨_,(dN ci.F.body _ _ _ bo Z0 (good cl A outer s H E SC hr) OZ).EW,ht⟩
end
section
variable{K:KB}{H H':Hp}{m Z:List Addr}{P f c:Addr}{bU:List (Pos×Str)}{q:Str}{φ:Heap->Prop}
theorem wQ(md:Made H H' P f c bU q φ)(hP:∃ps,H P=Δ (.fG ps))(h:H b=Δ u)(hu:∀ps,u≠.fG ps):H' b=Δ u:=by refine md.keep b u h λz=>?_;obtain⟨ps,e⟩:=hP;rw[z,e] at h;cases h;exact hu ps rfl
theorem made_le(md:Made H H' P f c bU q φ)(hP:∃ps,H P=Δ (.fG ps)):Le K m H m H':=by
 have kp:=λ{b:Addr} {u:HO} (h:H b=Δ u) (hu:∀ps,u≠.fG ps)=>wQ md hP h hu;have gr:∀b ps,H b=Δ (.fG ps)->∃more,H' b=Δ (.fG (ps++more)):=λb ps h=>by
  by_cases hb:b=P;·subst hb;exact md.grow ps h
  ·exact⟨#[],by rw[md.keep b _ h hb];simp⟩
 refine⟨⟨[],by simp⟩,λb xs h=>kp h (λ_ z=>nomatch z),λb u h _ hu=>kp h hu,λb h=>.inl h,λb h=>?_,λb h=>?_,λb o u h=>kp h (λ_ z=>nomatch z),λb ψ h=>kp h (λ_ z=>nomatch z),gr⟩
 ·cases e:H b with
  |none=>exact absurd e h|some u=>
   by_cases hu:∃ps,u=.fG ps;·obtain⟨ps,rfl⟩:=hu;obtain⟨more,e2⟩:=gr b ps e;rw[e2];exact λz=>nomatch z
   ·rw[kp e λps z=>hu ⟨ps,z⟩];exact λz=>nomatch z
 ·cases e:gy H b with
  |none=>exact absurd e h|some u=>
   obtain⟨e1,e2⟩:=kI e;by_cases hu:∃ps,u=.fG ps;·obtain⟨ps,rfl⟩:=hu;obtain⟨more,e3⟩:=gr b ps e1;rw[br e3 (λ_ z=>nomatch z)];exact λz=>nomatch z
   ·have e3:=kp e1 λps z=>hu ⟨ps,z⟩;by_cases hx:∃ψ,u=.ext ψ;·obtain⟨ψ,rfl⟩:=hx;have:∃q,ψ=dE b q:=XG λz=>e2 ψ rfl λq' e'=>z ⟨q',e'⟩;obtain⟨q',rfl⟩:=this;rw[gf e3];exact λz=>nomatch z
    ·rw[br e3 λψ z=>hx ⟨ψ,z⟩];exact λz=>nomatch z
theorem C8{st:aI}(as:aA K H m Z st)(md:Made H H' P f c bU q φ)(hP:∃ps,H P=Δ (.fG ps))(un:∀t∈K.tabs,t.1=P->t.2=bU):aA K H' m Z st:=by
 have le:Le K m H m H':=made_le md hP;refine⟨as.len,as.nd,λn o h=>?_,λb h=>le.CQ b (as.zt b h),as.zm,λt ht=>?_⟩
 ·obtain⟨a,e,r⟩:=as.at_ n o h;exact⟨a,e,r.mono (λb u hb hu=>wQ md hP hu λps z=>by
   rcases hb with w1|w1;·subst w1;rw[z] at hu;exact r.qR.2.2.2.2.1 ps hu
   ·rw[w1] at hu;cases hu;cases z) λp v z=>z.le le⟩
 ·by_cases e:t.1=P;·obtain⟨ps,h1,h2⟩:=md.tab;exact⟨ps,by rw[e];exact h1,by rw[un t ht e];exact h2⟩
  ·obtain⟨ps,h1,h2⟩:=as.tab t ht;exact⟨ps,md.keep _ _ h1 e,fK.same le.ext h2⟩
end
abbrev se(S:TX)(base:Heap)(tabs:List (Addr×List (Pos×Str)))(cells:List (Str×Addr)):KT where
 tabs:=tabs
 qE:=n8 S base
 HN:=λk a c _ h=>∃ci o sc,S.ci k=Δ ci/\h.get? a=Δ o/\GZ S ci o sc (iR cells sc.names []) c/\∀x,(x,XA)∈sc.names->∃c,cells.lookup x=Δ c
 zJ:=S.q
theorem uu{S:TX}:∀(f c) (ct) (g1 g2),(se S base tabs cells).HN k f c ct g1->(∀o,g1.get? f=Δ o->g2.get? f=Δ o)->(se S base tabs cells).HN k f c ct g2:=
 λf c ct g1 g2 ⟨ci,o,sc,h1,h2,h3⟩ hk=>⟨ci,o,sc,h1,hk o h2,h3⟩
section
variable{X:Cx}{S:TX}{base:Heap}{tabs:List (Addr×List (Pos×Str))}{C:Nat->List P->aI->R P}{i:Info×List (Nat×Pos)}{c P:Addr}{Z:List Addr}
theorem wR(hc:∀x,(aE i.1.st).names.lookup x=Δ .cell->∃c,X.env.cells.lookup x=Δ c)(h:freeOk (aE i.1.st).names sc=Λ):∀x,(x,XA)∈sc.names->∃c,X.env.cells.lookup x=Δ c:=λx hx=>by
 unfold freeOk at h;rw[Y2] at h;have:=h _ hx;simp only[ZO,qqq] at this;rcases this with z|z;·exact absurd rfl z
 ·exact hc x z
theorem Rv(hB:X.base=base)(M:Maker X c P (dy S i))(hP:(P,dy S i)∈tabs)(un:∀t∈tabs,t.1=P->t.2=dy S i)(hq:X.env.qual=i.1.name++".<locals>.")(hc:∀x,(aE i.1.st).names.lookup x=Δ .cell->∃c,X.env.cells.lookup x=Δ c)(h:G0 S i k pa bo sc pos=Λ):PE X (.Lambda pa bo sc pos) (tE (af X (se S base tabs X.env.cells)) Z (aa C (.lam k))):=by
 unfold G0 at h;split at h
 ·rename_i ci HU;simp only[W9,qqq] at h;obtain⟨⟨⟨h1,h2⟩,h3⟩,h4⟩:=h;have eq:S.q k=X.env.qual++"<lambda>":=by rw[(TX.NL HU).2,h4,hq]
  have hs:(pos,X.env.qual++"<lambda>")∈dy S i:=by rw[<-eq];exact Y7.mpr ⟨(k,pos),h1,rfl⟩
  have rS:=h2;unfold pW at rS;simp only[W9] at rS;have fr:=wR (X:=X) hc h3;refine PE.imp (MJ (φ:=λf c ct=>(se S base tabs X.env.cells).HN k f c ct) M hs (kJ rS.1.1.2 X.env).1 (mh fr) (λf c ct hh e=>⟨ci,_,sc,HU,e,.inl ⟨pa,bo,_,ct,by rw[h4,<-hq],h2⟩,fr⟩) (λf c ct g1 g2=>uu f c ct g1 g2)) ?_;rintro σ H Q ⟨m,r,st,ar,as,h⟩;rw[pB] at h;obtain⟨ps,e1,e2⟩:=as.tab _ hP;refine⟨ps,e1,e2,λf c ct H' md=>?_⟩;refine h m H' (made_le md ⟨ps,e1⟩) (C8 as md ⟨ps,e1⟩ un) (.ref f) ?_;rw[ak];exact⟨f,c,ct,rfl,md.fn,by show H' c=Δ (.ext (dE c (S.q k)));rw[eq];exact md.code⟩
 ·cases h
theorem NP(hB:X.base=base)(M:Maker X c P (dy S i))(hP:(P,dy S i)∈tabs)(un:∀t∈tabs,t.1=P->t.2=dy S i)(hq:X.env.qual=i.1.name++".<locals>.")(hc:∀x,(aE i.1.st).names.lookup x=Δ .cell->∃c,X.env.cells.lookup x=Δ c)(hN:X.N=i.1.N)(nd:i.1.N.Nodup)(NQ:X.env.scope=aE i.1.st)(EU:∀x,X.fn x=Λ)(h:G1 S i j k nm pa bo sc pos=Λ):PS X (.FunctionDef nm pa bo [] Θ [] sc Θ nm pos) (tS (af X (se S base tabs X.env.cells)) Z (aP C (.nL j k))):=by
 unfold G1 at h;split at h
 ·rename_i ci HU;simp only[W9,qqq,ZO] at h;obtain⟨⟨⟨⟨⟨h1,h2⟩,h3⟩,h4⟩,h5⟩,h6⟩:=h;have Ga:Loc X.env.scope nm:=by rw[NQ];exact h6
  have qe:aa9 X.env nm nm=X.env.qual++nm:=by unfold aa9;rw[if_neg];show ¬((X.env.scope.names.lookup nm==Δ ZT.globalExplicit)=Λ);rw[NQ];rcases h6 with z|z<;>rw[z]<;>decide
  have eq:S.q k=aa9 X.env nm nm:=by rw[(TX.NL HU).2,h4,qe,hq]
  have hs:(pos,aa9 X.env nm nm)∈dy S i:=by rw[<-eq];exact Y7.mpr ⟨(k,pos),h1,rfl⟩
  have rS:=h2;unfold pX at rS;simp only[W9] at rS;have fr:=wR (X:=X) hc h3;have dp:=kJ rS.1.1.2 X.env;refine PS.imp (ML (φ:=λf c ct=>(se S base tabs X.env.cells).HN k f c ct) M hs dp.2.1 dp.2.2 (DZ rS.1.1.2 X.env) (mh fr) (by rw[hN];exact nd) (by rw[hN];exact h5) Ga (.inl (EU nm))
   (λf c ct doc hh e=>⟨ci,_,sc,HU,e,.inr ⟨nm,pa,bo,doc,_,ct,by rw[h4,<-hq,<-qe],h2⟩,fr⟩) (λf c ct g1 g2=>uu f c ct g1 g2)) ?_
  rintro D σ H ⟨m,r,st,ar,as,h⟩;rw[tV] at h;obtain⟨ps,e1,e2⟩:=as.tab _ hP;refine⟨ps,e1,e2,λf c ct H' md=>?_⟩;have le:Le (af X (se S base tabs X.env.cells)) m H m H':=made_le md ⟨ps,e1⟩;refine h m H' le (C8 as md ⟨ps,e1⟩ un) _ ((ar.le le).set ?_);rw[ak];exact⟨f,c,ct,rfl,md.fn,by show H' c=Δ (.ext (dE c (S.q k)));rw[eq];exact md.code⟩
 ·cases h
end
theorem HL.keeps(C:HL B cl F bW)(k:∀b o,B.get? b=Δ o->B'.get? b=Δ o):HL B' cl F bW:=
 ⟨C.inj,C.only,λi x v h1 h2=>by obtain⟨c,u,a,b,d⟩:=C.at_ i x v h1 h2;exact⟨c,u,a,b.keeps k,d⟩,C.len⟩
theorem n8.keeps{S:TX}(h:n8 S B k a c bW)(kp:∀b o,B.get? b=Δ o->B'.get? b=Δ o):n8 S B' k a c bW:=by obtain⟨ci,o,sc,cl,h1,h2,h3,h4⟩:=h;exact⟨ci,o,sc,cl,h1,kp _ _ h2,h3,HL.keeps h4 kp⟩
theorem En{S:TX}(h:GZ S ci o sc cl c):B5 ci sc=Λ/\∃fd,o.data=.func fd:=by
 rcases h with ⟨pa,bo,pm,ct,rfl,aJ⟩|⟨nm,pa,bo,doc,pm,ct,rfl,aJ⟩
 ·unfold pW at aJ;simp only[W9] at aJ;exact⟨aJ.1.2,_,rfl⟩
 ·unfold pX at aJ;simp only[W9] at aJ;exact⟨aJ.1.2,_,rfl⟩
theorem C9{α:Type}{x:α}:∀{l:List (Nat×α)},l.lookup k=Δ x->(k,x)∈l
 |[],h=>by cases h|(j,y)::l,h=>by rw[XH] at h;cases hb:k==j with|true=>rw[hb] at h;cases h;rw[eq_of_beq hb];exact Xh|false=>rw[hb] at h;exact Xb _ (C9 h)
theorem NR(h:Rd H a (.lst us)):Rd (gy H) a (.lst us):=by
 rcases h with h|⟨o,h⟩;·exact .inl (br h (λ_ z=>nomatch z))
 ·exact .inr ⟨o,br h (λ_ z=>nomatch z)⟩
section
variable{X:Cx}{S:TX}{base:Heap}{tabs:List (Addr×List (Pos×Str))}{C:Nat->List P->aI->R P}{i:Info×List (Nat×Pos)}{Z:List Addr}{η:List (Addr×Obj)}{σ:L2.St}{H:Hp}{s:Xv}{ls:List (Nat×List Nat)}{r:bX}
theorem ak.Rw(hk:K1.K=K2.K)(hq:K1.zJ=K2.zJ)(hc:∀k a c bW,K1.qE k a c bW->K2.qE k a c bW)(hp:cq x=Λ)(h:ak K1 H [] Z x v):ak K2 (L2.gy H) [] Z x v:=by
 have h1:ak K2 H [] Z x v:=ak.kb hk hq hc hp h;have go:∀n:Nat,(∀(x:P) (v:V),sizeOf x<=n->cq x=Λ->ak K2 H [] Z x v->ak K2 (L2.gy H) [] Z x v)/\(∀(xs:List P) (vs:List V),sizeOf xs<=n->cz xs=Λ->ai K2 H [] Z xs vs->ai K2 (L2.gy H) [] Z xs vs):=λn=>by
  induction n with
  |zero=>
   refine⟨λx v hs=>?_,λxs vs hs=>?_⟩;·cases x<;>simp at hs
   ·cases xs<;>simp at hs
  |succ n ih=>
   refine⟨λx v hs hp h=>?_,λxs vs hs hp h=>?_⟩;·cases x with|d y=>rw[ak] at h ⊢;exact aF.congr (λa us e=>br e (λ_ z=>nomatch z)) (λa us _ _ e=>NR e) h|obj y=>simp[cq] at hp|fR y=>simp[cq] at hp|lf y=>simp[cq] at hp|fn k bu=>rw[ak] at h ⊢;obtain⟨a,c,bW,e,q,hx,rr⟩:=h;exact⟨a,c,bW,e,q,gf hx,ih.2 bu bW (by simp at hs;lia) (by simpa[cq] using hp) rr⟩
   ·cases xs with|nil=>exact h|cons x xs=>rw[ai] at h ⊢;obtain⟨v,uo,e,rr,rs⟩:=h;simp only[cz,W9] at hp;simp at hs;exact⟨v,uo,e,ih.1 x v (by lia) hp.1 rr,ih.2 xs uo (by lia) hp.2 rs⟩
 exact(go (sizeOf x)).1 x v (Xj _) hp h1
theorem G6(I:Inv X η σ H s)(hB:X.base=base)(EU:∀x,X.fn x=Λ)(hN:X.N=i.1.N)(NQ:X.env.scope=aE i.1.st)(Wg:Em S i ls=Λ)(ar:cu (af X (se S base tabs X.env.cells)) H [] Z r σ):
  ∀(n) (p q) (v),conv ls r n p=Δ q->ak (af X (se S base tabs X.env.cells)) H [] Z p v->ak (mS S X.K (qX s.heap H (jG X.stack)) tabs) (L2.gy H) [] Z q v:=by
 have kp:∀b o,base.get? b=Δ o->(qX s.heap H (jG X.stack)).get? b=Δ o:=λb o e=>I.Gd (by rw[hB];exact e);have Rx:∀k a c bW,(af X (se S base tabs X.env.cells)).qE k a c bW->(mS S X.K (qX s.heap H (jG X.stack)) tabs).qE k a c bW:=λk a c bW h=>n8.keeps h kp;intro n;induction n with
 |zero=>intro p q v h;cases h|succ n ih=>
  intro p q v h hr;cases p with
  |d x=>cases h;exact ak.Rw (K1:=af X (se S base tabs X.env.cells)) (K2:=mS S X.K (qX s.heap H (jG X.stack)) tabs) rfl rfl Rx rfl hr|fR ns=>
   cases h;rw[ak] at hr ⊢;obtain⟨a,e,hf⟩:=hr;refine⟨a,e,?_⟩;rcases hf with ⟨o,hf⟩|hf
   ·exact .inl ⟨o,br hf (λ_ z=>nomatch z)⟩
   ·exact .inr hf
  |obj k=>cases h|fn k bu=>
   have h':(if cz bu=Λ then Δ (P.fn k bu) else Θ)=Δ q:=h;split at h';·rename_i hp;cases h';exact ak.Rw (K1:=af X (se S base tabs X.env.cells)) (K2:=mS S X.K (qX s.heap H (jG X.stack)) tabs) rfl rfl Rx (by simpa[cq] using hp) hr
   ·cases h'
  |lf k=>
   have h':((ls.lookup k).bind λjs=>(js.mapM λj=>((r[j]?).join).bind (conv ls r n)).map λbu=>P.fn k bu)=Δ q:=h;obtain⟨js,e1,h2⟩:=cb h';obtain⟨bu,e2,rfl⟩:=gj h2;rw[ak] at hr;obtain⟨a,c,ct,rfl,ha,VP⟩:=hr;obtain⟨hφ,_,_⟩:=I.aJ a _ ha;obtain⟨ci,o,sc,HU,ho,DO,yS⟩:=hφ;obtain⟨hcb,fd0,hfd⟩:=En DO;obtain⟨SC,_⟩:=n6 hcb;have hfx:BL a ((af X (se S base tabs X.env.cells)).HN k a c ct):=λq' e=>by have Ry:=(I.aJ a _ ha).1;rw[e] at Ry;obtain⟨c2,o2,vs2,t2,e2,HJ,hd2,_⟩:=Ry;cases e2;rw[ho] at HJ;cases HJ;rw[hfd] at hd2;cases hd2
   have anf:∀{b:Addr},H b≠Θ->b∉jG X.stack:=λ{b} hb z=>hb (I.nk b z);have aJ:=Y2.mp (show(ls.all _)=Λ from Wg) (k,js) (C9 e1);simp only[HU,W9,qqq,Y2] at aJ;obtain⟨U6,NS⟩:=aJ;have key:∀(js:List Nat) (fr:List Str) (bu:List P),js.map (λj=>i.1.N[j]?)=fr.map Δ->(∀x∈fr,(aE i.1.st).names.lookup x=Δ .cell)->(js.mapM λj=>((r[j]?).join).bind (conv ls r n))=Δ bu->
     ∃bW,ai (mS S X.K (qX s.heap H (jG X.stack)) tabs) (L2.gy H) [] Z bu bW/\bW.length=fr.length/\∀(l:Nat) (x:Str) (v:V),fr[l]?=Δ x->bW[l]?=Δ v->∃c u,X.env.cells.lookup x=Δ c/\(qX s.heap H (jG X.stack)).IsCell c (Δ u)/\RelV v u:=by
    intro js;induction js with
    |nil=>intro fr bu hj _ hm;cases fr with|cons x fr=>simp at hj|nil=>simp at hm;subst hm;exact⟨[],by rw[ai],rfl,λl x v h=>by simp at h⟩
    |cons j js ihj=>
     intro fr bu hj u9 hm;cases fr with
     |nil=>simp at hj|cons x fr=>
      rw[Xo,Xo] at hj;injection hj with hj1 Wh;rw[List.mapM_cons] at hm;obtain⟨q1,hq1,JL⟩:=cb (show(((r[j]?).join).bind (conv ls r n)).bind _=Δ bu from hm);obtain⟨qs,hqs,hm3⟩:=cb (show(js.mapM λj=>((r[j]?).join).bind (conv ls r n)).bind _=Δ bu from JL);cases (show Δ (q1::qs)=Δ bu from hm3);obtain⟨pj,Rz,hcj⟩:=cb hq1;have e':r[j]?=Δ (Δ pj):=by cases z:r[j]? with|none=>rw[z] at Rz;cases Rz|some o=>rw[z] at Rz;simp at Rz;rw[Rz]
      obtain⟨vj,ej,rj⟩:=ar.at_ j pj e';obtain⟨bW,r1,r2,r3⟩:=ihj fr qs Wh (λy hy=>u9 y (Xb _ hy)) hqs;have nr:=u9 x Xh;have Fx:X.env.kindOf x=Δ .cell:=by show X.env.scope.names.lookup x=_;rw[NQ];exact nr
      obtain⟨mm,hn,hl⟩:=I.loc;obtain⟨u,ru,lk⟩:=hl j x vj (by rw[hN];exact hj1) ej (.inr (.inl (by rw[NQ];exact nr)));refine⟨vj::bW,by rw[ai];exact⟨vj,bW,rfl,ih pj q1 vj hcj rj,r1⟩,by simp[r2],λl y v hy hv=>?_⟩;cases l with
      |succ l=>exact r3 l y v (by simpa using hy) (by simpa using hv)|zero=>
       simp at hy hv;subst hy;subst hv;rcases lk with ⟨hk,_⟩|⟨_,c',Ct,NT⟩
       ·rw[Fx] at hk;cases hk
       ·refine⟨c',u,Ct,?_,ru⟩;obtain⟨oc,LK,hdc⟩:=NT;refine⟨oc,xF LK (jP (I.j8 x c' Ct)) λz=>?_,hdc⟩;rcases aai.mp (I.oT c' z) with w1|w1;·exact I.KD x c' Ct w1
        ·obtain⟨_,o3,ho3,_⟩:=I.ok.mx.mem w1;exact Y3 _ (XD (Xs ho3) (I.ok.LJ x c' (EU x) Ct))
   obtain⟨bW,k1,k2,k3⟩:=key js ci.fr bu U6 NS e2;rw[ak];refine⟨a,c,bW,rfl,⟨ci,o,sc,_,HU,xF ho (xE ha hfx) (anf (by rw[ha];exact λz=>nomatch z)),DO,?_⟩,gf VP,k1⟩;have look:∀x,(x,XA)∈sc.names->(iR X.env.cells sc.names []).lookup x=X.env.cells.lookup x:=λx hx=>(jQ (x:=x) (acc:=[]) yS).1 hx;have NU:∀x,(x,XA)∉sc.names->(iR X.env.cells sc.names []).lookup x=Θ:=λx hx=>(jQ (x:=x) (acc:=[]) yS).2 hx;have Wi:∀x c,(iR X.env.cells sc.names []).lookup x=Δ c->(x,XA)∈sc.names:=λx c h=>XG λz=>by rw[NU x z] at h;cases h
   refine⟨λx y c' h1 h2=>?_,λx c' h=>SC.QG _ (Wi x c' h) rfl,λl x v h1 h2=>?_,k2⟩;·rw[look x (Wi x c' h1)] at h1;rw[look y (Wi y c' h2)] at h2;exact I.ok.inj x y c' h1 h2
   ·obtain⟨c',u,g1,g2,g3⟩:=k3 l x v h1 h2;exact⟨c',u,by rw[look x (X8 (SC.fre x (Xw h1)))];exact g1,g2,g3⟩
end
theorem Eo(h:H b=H' b):gy H b=gy H' b:=by unfold gy;rw[h]
section
variable{K1 K2:KB}{H1 H2:Hp}{m Z:List Addr}
theorem lO(hn:∀b φ,H1 b=Δ (.ext φ)->BL b φ->H2 b=Θ)(h:H2 b=Δ u):zw H1 H2 b=Δ u:=by rw[sZ λφ z hf=>by rw[hn b φ z hf] at h;cases h];exact h
theorem G7(hn:∀b φ,H1 b=Δ (.ext φ)->BL b φ->H2 b=Θ)(h:gy H2 b≠Θ):gy (zw H1 H2) b≠Θ:=by have e:zw H1 H2 b=H2 b:=sZ λφ z hf=>h (jP (hn b φ z hf));rw[Eo e];exact h
theorem RA(hn:∀b φ,H1 b=Δ (.ext φ)->BL b φ->H2 b=Θ)(le:Le K1 [] (gy H1) [] H2):Le K2 [] H1 [] (zw H1 H2):=by
 have mono:=λ{b:Addr} {u:HO} (h:H2 b=Δ u)=>lO hn h;have ext:∀b φ,H1 b=Δ (.ext φ)->zw H1 H2 b=Δ (.ext φ):=λb φ e=>by
  by_cases hf:BL b φ;·exact CL e hf
  ·have:∃q,φ=dE b q:=XG λz=>hf λq' e'=>z ⟨q',e'⟩;obtain⟨q,rfl⟩:=this;exact mono (le.ext _ _ (gf e))
 have keep:∀b u,H1 b=Δ u->(∀ps,u≠.fG ps)->zw H1 H2 b=Δ u:=λb u e hu=>by
  by_cases hx:∃φ,u=.ext φ;·obtain⟨φ,rfl⟩:=hx;exact ext b φ e
  ·exact mono (le.keep _ _ (br e λφ z=>hx ⟨φ,z⟩) (by simp) hu)
 have fG:∀b ps,H1 b=Δ (.fG ps)->∃more,zw H1 H2 b=Δ (.fG (ps++more)):=λb ps e=>by obtain⟨more,e2⟩:=le.fG b ps (br e (λ_ z=>nomatch z));exact⟨more,mono e2⟩
 refine⟨⟨[],rfl⟩,λb xs e=>keep b _ e (λ_ z=>nomatch z),λb u e _ hu=>keep b u e hu,(λb h=>nomatch h),λb h=>?_,λb h=>?_,λb o u e=>keep b _ e (λ_ z=>nomatch z),ext,fG⟩
 ·cases e:H1 b with
  |none=>exact absurd e h|some u=>
   by_cases hu:∃ps,u=.fG ps;·obtain⟨ps,rfl⟩:=hu;obtain⟨more,e2⟩:=fG b ps e;rw[e2];exact λz=>nomatch z
   ·rw[keep b u e λps z=>hu ⟨ps,z⟩];exact λz=>nomatch z
 ·refine G7 hn (le.CQ b ?_);cases e:gy H1 b with
  |none=>exact absurd e h|some o=>
   obtain⟨_,e2⟩:=kI e;by_cases hx:∃φ,o=.ext φ;·obtain⟨φ,rfl⟩:=hx;have:∃q,φ=dE b q:=XG λz=>e2 φ rfl λq' e'=>z ⟨q',e'⟩;obtain⟨q,rfl⟩:=this;rw[gf e];exact λz=>nomatch z
   ·rw[br e λφ z=>hx ⟨φ,z⟩];exact λz=>nomatch z
theorem RB(ht:K1.tabs=K2.tabs)(hn:∀b φ,H1 b=Δ (.ext φ)->BL b φ->H2 b=Θ)(as:aA K1 H2 [] Z []):aA K2 (zw H1 H2) [] Z []:=
 lM (λb h=>G7 hn (as.zt b h)) λt h=>by obtain⟨ps,e1,e2⟩:=as.tab t (by rw[ht];exact h);exact⟨ps,lO hn e1,fK.same (λb φ e=>lO hn e) e2⟩
theorem NV(hn:∀b φ,H1 b=Δ (.ext φ)->BL b φ->H2 b=Θ)(h:aF K1 H2 [] Z x v):aF K2 (zw H1 H2) [] Z x v:=
 aF.congr (λb us e=>lO hn e) (λb us _ _ e=>by
  rcases e with e|⟨o,e⟩;·exact .inl (lO hn e)
  ·exact .inr ⟨o,lO hn e⟩) (aF.kb h)
end
theorem G8{st:aI}(h:Ok kb Z (mi c o st) m H Q):∃qs x,o=Δ qs/\st=[]/\c qs []=.ok (.d x) []/\Ok kb Z (R.ok (P.d x) []) m H Q:=by
 unfold mi at h;split at h
 ·rename_i qs;cases hx:c qs [] with
  |ex x s=>rw[hx] at h;exact(show False from h).elim|no=>rw[hx] at h;exact(show False from h).elim|ok p st2=>
   rw[hx,ae] at h;split at h;·rename_i x;exact⟨qs,x,rfl,rfl,hx,h⟩
   ·exact(show False from h).elim
 ·exact(show False from h).elim
section
variable{X:Cx}{S:TX}{base:Heap}{tabs:List (Addr×List (Pos×Str))}{i:Info×List (Nat×Pos)}{Z:List Addr}{η:List (Addr×Obj)}{σ:L2.St}{H:Hp}{s:Xv}{ls:List (Nat×List Nat)}{r:bX}
theorem wU(cr:∀(p q:P) (v:V),conv ls r 3 p=Δ q->ak (af X (se S base tabs X.env.cells)) H [] Z p v->ak (mS S X.K (qX s.heap H (jG X.stack)) tabs) (L2.gy H) [] Z q v):
  ∀{ps qs} {vs},ps.mapM (conv ls r 3)=Δ qs->ai (af X (se S base tabs X.env.cells)) H [] Z ps vs->ai (mS S X.K (qX s.heap H (jG X.stack)) tabs) (L2.gy H) [] Z qs vs
 |[],qs,vs,h,rr=>by simp at h;subst h;rw[ai] at rr ⊢;exact rr|p::ps,qs,vs,h,rr=>by rw[List.mapM_cons] at h;obtain⟨q1,e1,h2⟩:=cb (show(conv ls r 3 p).bind _=Δ qs from h);obtain⟨q2,e2,h3⟩:=cb (show(ps.mapM (conv ls r 3)).bind _=Δ qs from h2);cases (show Δ (q1::q2)=Δ qs from h3);rw[ai] at rr ⊢;obtain⟨v,uo,e,r1,r2⟩:=rr;exact⟨v,uo,e,cr p q1 v e1 r1,wU cr e2 r2⟩
variable{K:Xm}{mg:Str->Option Value}{a:Nat->Addr}{fd:Nat->Ze}{cP:Nat->Addr×Addr}
theorem JQ(T:yc X.K X.mg S tabs a fd cP)(hB:X.base=base)(EU:∀x,X.fn x=Λ)(hN:X.N=i.1.N)(NQ:X.env.scope=aE i.1.st)(hr:cZ (lv n) X.A)(D:∀zx,jV X.mg S cP zx->kU X.prog X.w X.K X.mg S tabs a fd n zx)(bo:jV X.mg S cP X.base)(hf:S.fns[f]?=Δ (x,nn))(Wg:Em S i ls=Λ)(hl:b9.length=nn)(hg:Gl X x)(hp:aU x=Λ)(hs:∀y∈e::es,notStar y=Λ)(ha:PA X (e::es) (tA (af X (se S base tabs X.env.cells)) Z (aD (callC S.Fs n) b9))):
  PE X (.Call (.Name x p) (e::es) [] pos) (tE (af X (se S base tabs X.env.cells)) Z (aa (callC S.Fs n) (.iT f b9 ls))):=by
 obtain⟨hk,i2,ej,e2⟩:=TX.GY hf;cases e2;obtain⟨⟨x2,F2⟩,hm,hb,_⟩:=T.fn f i2 ej;have hm:=hm hk;intro η s σ H Q I h;obtain⟨m,r,st,ar,as,h⟩:=h;rw[kL] at h;refine YG (nu I hg hm ?_ (pn hp).1);refine aaI (h₀:=X.base) I.ok.mod.LI F2.kp (bS (ha pos η s σ H (λvs H1=>∃m1 st1 ps,cu (af X (se S base tabs X.env.cells)) H1 m1 Z r σ/\aA (af X (se S base tabs X.env.cells)) H1 m1 Z st1/\ai (af X (se S base tabs X.env.cells)) H1 m1 Z ps vs/\ps.length=b9.length/\
   Ok (af X (se S base tabs X.env.cells)) Z (mi (callC S.Fs n f) (ps.mapM (conv ls r 3)) st1) m1 H1 (λp _ m' H'=>∀v,ak (af X (se S base tabs X.env.cells)) H' m' Z p v->Q v H')) I
  ⟨m,r,st,ar,as,(Ok.bind h).wG λps st1 m1 H1 hq bQ aZ h1 vs iE=>⟨m1,st1,ps,ar.le bQ,aZ,iE,fT hq,h1⟩⟩) λus s1 ⟨vs,H1,I1,rr,m1,st1,ps,ar1,aZ,iE,yG,h1⟩=>⟨I1.nj,?_⟩) (bD (hs e Xh)) (gb λz hz=>hs z (Xb _ hz))
 obtain⟨qs,d,eq,rfl,hx,h2⟩:=G8 h1;have em:m1=[]:=List.eq_nil_of_length_eq_zero (by rw[aZ.len];rfl);subst em;have cr:=λp q v=>G6 I1 hB EU hN NQ Wg ar1 3 p q v;have rq:=wU cr eq iE;have kp:∀b o,X.base.get? b=Δ o->(qX s1.heap H1 (jG X.stack)).get? b=Δ o:=λb o e=>I1.Gd e;have NW:jV X.mg S cP (qX s1.heap H1 (jG X.stack)):=⟨λk j hj hm=>(bo.code k j hj hm).keeps kp,by obtain⟨bm,ob,b1,b2,b3,r⟩:=bo.bm;exact⟨bm,ob,b1,b2,kp _ _ b3,r⟩⟩;have Fk:=D _ NW f i2 ej;have vl:vs.length=i2.1.F.np:=by rw[iE.length,yG,hl]
 have usl:us.length=i2.1.ps.length:=by have ok:=(T.fn f i2 ej).2.2.2.2;unfold G4 at ok;simp only[W9,qqq] at ok;rw[<-rr.length,vl,ok.1.1.2]
 have dX:aA (mS S X.K (qX s1.heap H1 (jG X.stack)) tabs) (L2.gy H1) [] Z []:=lM (λb hb=>by
   have:=aZ.zt b hb;cases e:L2.gy H1 b with
   |none=>exact absurd e this|some o=>
    obtain⟨_,e2⟩:=kI e;by_cases hx:∃φ,o=.ext φ;·obtain⟨φ,rfl⟩:=hx;have:∃q,φ=dE b q:=XG λz=>e2 φ rfl λq' e'=>z ⟨q',e'⟩;obtain⟨q,rfl⟩:=this;rw[gf e];exact λz=>nomatch z
    ·rw[br e λφ z=>hx ⟨φ,z⟩];exact λz=>nomatch z) λt ht=>by
  obtain⟨ps,e1,e2⟩:=aZ.tab t ht;exact⟨ps,br e1 (λ_ z=>nomatch z),e2.1,λp hp cv A6=>by obtain⟨c,g1,g2⟩:=e2.2 p hp cv A6;exact⟨c,g1,gf g2⟩⟩
 have Gf:acd s1 (fd f) ⟨us,[]⟩ (i2.1.ps.zip us):=by have:=hb s1 us I1.nj (by rw[Yf];exact usl);rw[Yf] at this;exact this
 refine YY (IZ (Q:=λv H2=>∃m',Le (mS S X.K (qX s1.heap H1 (jG X.stack)) tabs) [] (L2.gy H1) m' H2/\aA (mS S X.K (qX s1.heap H1 (jG X.stack)) tabs) H2 m' Z []/\aF (mS S X.K (qX s1.heap H1 (jG X.stack)) tabs) H2 m' Z d v) I1 Fk hr Gf rr
  ⟨[],Z,qs,[],vl,rq,dX,by rw[hx];exact λm' H' le b9 v rv=>⟨m',le,b9,by rw[ak] at rv;exact rv⟩⟩) (λu s2 ⟨v,H3,I3,rv,H2,eH,hn,m',le,b9,rd⟩=>⟨v,H3,I3,rv,?_⟩) λ_ _ z=>z
 subst eH;have em2:m'=[]:=List.eq_nil_of_length_eq_zero (by rw[b9.len];rfl);subst em2;exact h2 [] _ (RA hn le) (RB (K1:=mS S X.K (qX s1.heap H1 (jG X.stack)) tabs) rfl hn b9) v (by rw[ak];exact NV hn rd)
end
def wW{α:Type}(P:Nat->α->Prop):Nat->List α->Prop
 |_,[]=>True|j,x::xs=>P j x/\wW P (j+1) xs
theorem NX{α:Type}{P:Nat->α->Prop}:wW P j []:=trivial
theorem bq{α:Type}{P:Nat->α->Prop}{x:α}{xs:List α}(h:P j x)(t:wW P (j+1) xs):wW P j (x::xs):=⟨h,t⟩
theorem Ll{α:Type}{P:Nat->α->Prop}:∀{l} {j},wW P j l->∀k i,l[k]?=Δ i->P (j+k) i
 |[],j,_,k,i,e=>by simp at e|x::xs,j,h,0,i,e=>by simp at e;subst e;exact h.1
 |x::xs,j,h,k+1,i,e=>by have:=Ll h.2 k i (by simpa using e);rwa [Nat.add_assoc,acI 1 k] at this
theorem B6{α:Type}{P:Nat->α->Prop}{l:List α}(h:wW P 0 l)k(i:α)(e:l[k]?=Δ i):P k i:=by have:=Ll h k i e;rwa [XN] at this
def scB(i:Info):Bool:=decide ((aE i.st).kind=.function)&&!(aE i.st).isCoroutine&&!(aE i.st).isGenerator&&decide i.N.Nodup&&decide (i.N.take i.ps.length=i.ps)&&
 decide (∀x∈i.ps,(aE i.st).names.lookup x=Δ .local\/(aE i.st).names.lookup x=Δ .cell)&&decide (∀y∈(aE i.st).names,y.2≠.free)
def Lm(S:TX):Bool:=S.is.all λi=>G4 S i&&scB i.1
theorem vd{S:TX}(h:Lm S=Λ){k:Nat}(e:S.is[k]?=Δ i):nv i.1.N i.1.ps (aE i.1.st)/\G4 S i=Λ:=by have q:=Y2.mp h i (Xw e);unfold scB at q;simp only[W9,qqq,XJ] at q;obtain⟨q1,⟨⟨⟨⟨⟨h1,h2⟩,h3⟩,h4⟩,h5⟩,h6⟩,h7⟩:=q;exact⟨⟨h1,h2,h3,h4,h5,h6,h7⟩,q1⟩
theorem RC{α:Type}{P:α->Prop}:∀y∈([]:List α),P y:=λ_ h=>nomatch h
theorem memC{α:Type}{P:α->Prop}{x:α}{xs:List α}(h:P x)(t:∀y∈xs,P y):∀y∈x::xs,P y:=List.forall_mem_cons.mpr ⟨h,t⟩
theorem lkN{β:Type}{P:Str->β->Prop}:∀m k,([]:List (Str×β)).lookup m=Δ k->P m k:=λ_ _ h=>nomatch h
theorem RD{β:Type}{P:Str->β->Prop}{b:β}{xs:List (Str×β)}(h:P x b)(t:∀m k,xs.lookup m=Δ k->P m k):∀m k,((x,b)::xs).lookup m=Δ k->P m k:=λm k e=>by
 rw[XH] at e;split at e;·rename_i hq;cases e;rw[eq_of_beq hq];exact h
 ·exact t m k e
theorem JR{β:Type}{l:List (Addr×β)}(nd:ns.Nodup)(hn:l.map (·.1)=ns){b:β}(h:(a,b)∈l):∀t∈l,t.1=a->t.2=b:=by
 subst hn;induction l with
 |nil=>cases h|cons x l ih=>
  rw[Xo,YK] at nd;intro t ht e;rcases aai.mp h with z|z
  ·rcases aai.mp ht with z2|z2;·rw[z2,<-z]
   ·exact absurd (Y7.mpr ⟨t,z2,by rw[e,<-z]⟩) nd.1
  ·rcases aai.mp ht with z2|z2;·exact absurd (Y7.mpr ⟨_,z,by rw[<-z2,e]⟩) nd.1
   ·exact ih z nd.2 t z2 e
theorem Ep{α:Type}{P:List α->Prop}(h:∀a,P [a]):∀us,us.length=1->P us
 |[a],_=>h a
theorem rm{α:Type}{P:List α->Prop}(h:∀a b,P [a,b]):∀us,us.length=2->P us
 |[a,b],_=>h a b
theorem JS{α:Type}{P:List α->Prop}(h:∀a b c,P [a,b,c]):∀us,us.length=3->P us
 |[a,b,c],_=>h a b c
section
variable{P:Yi}{w:World}{K:Xm}{mg:Str->Option Value}{S:TX}{tabs:List (Addr×List (Pos×Str))}{a:Nat->Addr}{fd:Nat->Ze}{cP:Nat->Addr×Addr}
theorem JT{st:Stmt}{fd:Ze}(F:o6 K x qual st f fd)(S:nv N ps (aE st))(len:∀vs H Q E,sp vs H Q E->vs.length=ps.length)(sJ:∀(A:YO) (outer:List Env) (s:Xv) (H:Hp) (vs:List V) (Q:VK) (E:XK),cZ k (A.deeper (ab8 qual (aE st) s.heap.objs.size f fd.code))->sp vs H Q E->
   ∃t,my (xo u7 P w K mg base N qual (aE st) f fd.code A outer s H E).EW (lD st) t/\t {nx:=λ_ H'=>Q .bz H',rt:=Q} (L2.start N vs) H):gE P w K mg base u7 (k+1) f fd ps sp:=by
 obtain⟨oc,od,kV,doc,pm,an,kq,ct,Iu,rfl,lk,qi⟩:=F.ex;refine PQ lk qi S len λA outer s H vs Q E hr xp=>?_;obtain⟨t,h,q⟩:=sJ A outer s H vs Q E hr xp;exact⟨t,h.EW,q⟩
theorem NY(T:yc K mg S tabs a fd cP)(D:∀base,jV mg S cP base->kU P w K mg S tabs a fd n base)(L:∀base,jV mg S cP base->yd P w K mg S tabs n base)(bo:jV mg S cP base):kU P w K mg S tabs a fd (n+1) base:=by
 intro k i hi;obtain⟨⟨x1,F⟩,hm,hb,sc,ok⟩:=T.fn k i hi;unfold G4 at ok;simp only[W9,qqq,ZO,XJ] at ok;obtain⟨⟨⟨RE,ok2⟩,Rt⟩,ok4⟩:=ok;have ek:=TX.Wb hi;refine JT (k:=lv n+1) F sc (λvs H Q E h=>?_) (λA outer s H vs Q E hr h=>?_);·obtain⟨m,Z,qs,st,hl,_⟩:=h;rw[hl,ok2]
 obtain⟨m,Z,qs,st,hl,rq,as,aJ⟩:=h;have hu:(A.deeper (ab8 i.1.name (aE i.1.st) s.heap.objs.size (a k) (fd k).code)).units+100 < cLine:=by have:=hr.un;lia
 by_cases RG:i.2=[]
 ·have eg:G3 S i={N:=i.1.N,names:=(aE i.1.st).names,fns:=S.fns,ik:=S.cs,tabs:=S.ts,yK:=S.yK,A8:=S.A8,A9:=S.A9}:=by unfold G3;rw[RG]
  rw[eg] at RE;have G:fL (xo u7 P w K mg base i.1.N i.1.name (aE i.1.st) (a k) (fd k).code A outer s H E).EW (Tr S base tabs) {N:=i.1.N,names:=(aE i.1.st).names,fns:=S.fns,ik:=S.cs,tabs:=S.ts,yK:=S.yK,A8:=S.A8,A9:=S.A9} (callC S.Fs n):=
   {N:=rfl,loc:=λx h=>h,HM:=λx h=>h,gl:=λx h=>h,calm:=rfl,hu:=hu,bl:=T.bl,
    fn:=Ac T (D base bo) ⟨rfl,rfl,rfl,rfl,rfl⟩ hr rfl,cs:=T.cs,tb:=T.tb,
    qE:=λ_ k' a' c' NO h'=>⟨G5 h',by obtain⟨f,ps,F,B⟩:=L base bo k' a' c' NO h';exact⟨lv n,f,ps,F,hr.mono (Y9 _),B⟩⟩,
    lam:=λ_ _ _ _ _ h=>absurd (show Ξ=Λ from h) (by decide),iT:=λ_ _ _ _ h=>absurd (show Ξ=Λ from h) (by decide),jb:=λ_ _ _ h=>absurd (show Ξ=Λ from h) (by decide),fld:=Ad T rfl,OU:=Ae T (D base bo) ⟨rfl,rfl,rfl,rfl,rfl⟩ hr rfl,OV:=Af T (D base bo) ⟨rfl,rfl,rfl,rfl,rfl⟩ hr rfl,nL:=λ_ _ _ _ _ _ _ h=>absurd (show Ξ=Λ from h) (by decide),
    cell:=λx h=>h,nd:=sc.nd,Tq:=λx _=>rfl,own:=acj}
  by_cases CF:i.1.F.sh=Λ
  ·rw[ij,ek] at aJ;simp only[CF,if_true] at aJ;by_cases Ts:qs.length=i.1.F.np;·rw[if_pos Ts] at aJ;refine⟨_,dN i.1.F.body _ _ _ _ Z G RE,m,az i.1.F.nn qs,st,by rw[Rt];exact wN rq,as,?_⟩;show Ok (mS S K base tabs) Z (ah (callC S.Fs n) i.1.F.body (az i.1.F.nn qs) st) m H _;cases hx:ah (callC S.Fs n) i.1.F.body (az i.1.F.nn qs) st with|ex x s=>rw[hx] at aJ;exact(show False from aJ).elim|no=>rw[hx] at aJ;exact(show False from aJ).elim|ok f aK=>rw[hx] at aJ;cases f with|bk r=>exact(show False from aJ).elim|ct r=>exact(show False from aJ).elim|nx r=>exact λm' H' le b9 σ _=>(show Ok (mS S K base tabs) Z (R.ok (Y.P.d .bz) aK) m H _ from aJ) m' H' le b9 .bz rfl|rt p=>exact λm' H' le b9 v rv=>(show Ok (mS S K base tabs) Z (R.ok p aK) m H _ from aJ) m' H' le b9 v rv
   ·rw[if_neg Ts] at aJ;exact(show False from aJ).elim
  ·have sD:i.1.F.sh=Ξ:=by cases q:i.1.F.sh with|false=>rfl|true=>exact absurd q CF
   obtain⟨q2,d,ea,er,h2,_⟩:=lN ek sD aJ;obtain⟨Z0,ht⟩:=pY (X:=(xo u7 P w K mg base i.1.N i.1.name (aE i.1.st) (a k) (fd k).code A outer s H E).EW) (kt:=Tr S base tabs) (kb:=mS S K base tabs) Rt rq as rfl rfl (λ_ _ _ _ z=>z) rfl ea er h2;exact⟨_,dN i.1.F.body _ _ _ _ Z0 G RE,ht⟩
 ·obtain⟨mk1,mk2,mk3,mk4⟩:=T.mkr k i hi RG;have sD:i.1.F.sh=Ξ:=ok4.resolve_left λz=>RG (Xr.mp z);obtain⟨q2,d,ea,er,h2,_⟩:=lN ek sD aJ
  let X:=(xo u7 P w K mg base i.1.N i.1.name (aE i.1.st) (a k) (fd k).code A outer s H E).EW
  have M:Maker X (cP k).1 (cP k).2 (dy S i):=⟨mk1,bo.code k i hi RG,bo.bm,mk3⟩;have hc:∀x,(aE i.1.st).names.lookup x=Δ .cell->∃c,X.env.cells.lookup x=Δ c:=λx h=>sI h;have eg:G3 S i={N:=i.1.N,names:=(aE i.1.st).names,fns:=[],ik:=S.cs,tabs:=S.ts,QU:=G0 S i,QV:=G1 S i,Lf:=λf x n ls=>decide (S.fns[f]?=Δ (x,n))&&Em S i ls,QW:=λ_ _ _=>Ξ,cv:=Ξ}:=by
   unfold G3;split;·exact absurd ‹i.2=[]› RG
   ·rfl
  rw[eg] at RE;have G:fL X (se S base tabs X.env.cells) {N:=i.1.N,names:=(aE i.1.st).names,fns:=[],ik:=S.cs,tabs:=S.ts,QU:=G0 S i,QV:=G1 S i,Lf:=λf x n ls=>decide (S.fns[f]?=Δ (x,n))&&Em S i ls,QW:=λ_ _ _=>Ξ,cv:=Ξ} (callC S.Fs n):=
   {N:=rfl,loc:=λx h=>h,HM:=λx h=>h,gl:=λx h=>h,calm:=rfl,hu:=hu,bl:=T.bl,
    fn:=λj x nn h=>by simp at h,cs:=T.cs,tb:=T.tb,
    qE:=λh=>absurd (show Ξ=Λ from h) (by decide),
    lam:=λk' pa NW sc' pos h Z=>Rv rfl M mk2 mk4 rfl hc h,
    iT:=λf x nn ls h Z e es b9 p pos h1 h2 h3 h4 h5=>by have h':(decide (S.fns[f]?=Δ (x,nn))&&Em S i ls)=Λ:=h;simp only[W9,qqq] at h';have Wj:(aE i.1.st).names.lookup x=Δ ZT.globalImplicit:=of_decide_eq_true (show decide ((aE i.1.st).names.lookup x=Δ ZT.globalImplicit)=Λ from h2);exact JQ (X:=X) (cP:=cP) (i:=i) T rfl (λ_=>rfl) rfl rfl (hr.mono (Y9 _)) D bo h'.1 h'.2 h1 Wj h3 h4 h5
    jb:=λ_ _ _ h=>absurd (show Ξ=Λ from h) (by decide),fld:=λ_ _ h=>absurd (show Ξ=Λ from h) (by decide),OU:=λ_ _ _ _ h=>absurd (show Ξ=Λ from h) (by decide),OV:=λ_ _ _ h=>absurd (show Ξ=Λ from h) (by decide)
    nL:=λj k' nm pa NW sc' pos h Z=>NP rfl M mk2 mk4 rfl hc rfl sc.nd rfl (λ_=>rfl) h
    cell:=λx h=>h,nd:=sc.nd,Tq:=λx _=>rfl,own:=acj}
  obtain⟨Z0,ht⟩:=pY (X:=X) (kt:=se S base tabs X.env.cells) (kb:=mS S K base tabs) Rt rq as rfl rfl (λ_ _ _ _ z=>z) rfl ea er h2;exact⟨_,dN i.1.F.body _ _ _ _ Z0 G RE,ht⟩
theorem Dc(T:yc K mg S tabs a fd cP):∀n,(∀base,jV mg S cP base->kU P w K mg S tabs a fd n base)/\(∀base,jV mg S cP base->yd P w K mg S tabs n base)
 |0=>by
  refine⟨λbase bo k i hi=>?_,λbase bo k b c bW hc=>?_⟩
  ·have no:∀vs H Q E,¬BY (mS S K base tabs) (callC S.Fs 0 k) i.1.F.np vs H Q E:=λvs H Q E ⟨m,Z,qs,st,_,_,_,h⟩=>by rw[tZ] at h;exact h
   exact⟨λvs H Q E h=>absurd h (no vs H Q E),λA outer s H args us vs Q E _ _ _ _ h=>absurd h (no vs H Q E)⟩
  ·have no:∀vs H Q E,¬QX (mS S K base tabs) (callC S.Fs 0 k) c (S.q k) bW vs H Q E:=λvs H Q E ⟨_,m,Z,qs,bu,st,_,_,_,h⟩=>by rw[tZ] at h;exact h
   obtain⟨Wk,Wl,h1,h2⟩:∃(Wk:Ze) (Wl:List Str),Binds K Wk Wl []/\True:=by
    obtain⟨ci,o,sc,cl,_,_,hf,_⟩:=hc;rcases hf with ⟨pa,NW,pm,ct,rfl,aJ⟩|⟨nm,pa,NW,doc,pm,ct,rfl,aJ⟩
    ·unfold pW at aJ;simp only[W9] at aJ;exact⟨aco "<lambda>" ci.qual pa NW sc cl pm (.ref c) ct,ci.ps,Binds.all λus hl=>iQ aJ.1.1.2 rfl hl,trivial⟩
    ·unfold pX at aJ;simp only[W9] at aJ;exact⟨acV nm ci.qual pa NW sc cl .none .none doc pm Θ (.ref c) ct,ci.ps,Binds.all λus hl=>iQ aJ.1.1.2 rfl hl,trivial⟩
   exact⟨Wk,Wl,⟨λvs H Q E h=>absurd h (no vs H Q E),λA outer s H args us vs Q E _ _ _ _ h=>absurd h (no vs H Q E)⟩,h1⟩
 |n+1=>by obtain⟨i1,i2⟩:=Dc T n;exact⟨λbase bo=>NY T i1 i2 bo,λbase bo=>NN T (i1 base bo) (i2 base bo)⟩
theorem JU(ht:∀t∈tabs,t.1∈RI.map (·.2))(hc:c [.fR ns] []=.ok (.d (.bl Λ)) [])(ho:CM RI H)(hs:lT K H b (ns.map V.int)){E:XK}:
  BY (mS S K base tabs) c 1 [.ref b] H (λv _=>v=.bl Λ) E:=by
 refine⟨[],[],[.fR ns],[],rfl,⟨_,_,rfl,⟨b,rfl,?_⟩,rfl⟩,lM (λ_ h=>by cases h) (λt h=>?_),?_⟩
 ·rcases hs with (h|h)|h
  ·rcases ho.1 b with z|⟨o,xs,z⟩|⟨z,_⟩;·rw[h] at z;cases z
   ·rw[h] at z;cases z
   ·rw[h] at z;cases z
  ·exact .inl h
  ·exact .inr h
 ·obtain⟨q,hq,e⟩:=Y7.mp (ht t h);exact⟨#[],by rw[<-e];exact ho.2 q hq,trivial,λp hp cv A6=>by cases (show(Θ:Option Value)=Δ cv from A6)⟩
 ·rw[hc];exact λm' H' le as v rv=>rv
end
end Y
namespace Y
open PySem
variable{Fs:List Fn}
@[simp] theorem RJ st x:bC st (.d x)=Θ:=rfl
@[simp] theorem NZ st x:bC st (.fR x)=Θ:=rfl
theorem Ag:bC st (.obj n)=(st[n]?).bind λo=>if jo o then Δ o else Θ:=rfl
@[simp] theorem Tu xs:jo (.lst xs)=Ξ:=rfl
@[simp] theorem Wm kvs:jo (.dK kvs)=Λ:=rfl
theorem jW(h:st[n]?=Δ (.lst xs)):bC st (.obj n)=Θ:=by rw[Ag,h];rfl
theorem lQ(h:st[n]?=Δ (.dK kvs)):bC st (.obj n)=Δ (.dK kvs):=by rw[Ag,h];rfl
theorem Lo:cU st (.obj n)=bj st (.obj n):=rfl
theorem fk(h:st[n]?=Δ (.lst xs)):bj st (.obj n)=Δ xs:=by show(match st[n]? with|some (.lst xs)=>Δ xs|_=>Θ)=_;rw[h]
@[simp] theorem dq{α:Type}(f:α->D):∀xs:List α,aY (xs.map λx=>P.d (f x))=Δ (xs.map f)
 |[]=>rfl|x::xs=>by simp[aY,Gr,dq f xs]
@[simp] theorem eY:∀xs,aY (xs.map P.d)=Δ xs
 |[]=>rfl|x::xs=>by simp[aY,Gr,eY xs]
@[simp] theorem Er{α:Type}(f:α->Bool):∀xs:List α,boolsOf (xs.map λx=>P.d (.bl (f x)))=Δ (xs.map f)
 |[]=>rfl|x::xs=>by simp[boolsOf,Er f xs]
theorem n9{G:P->bX}{f:D->D}:∀{xs:List D},(∀x∈xs,c (G (.d x)) st=.ok (p x) st)->(∀x∈xs,e (G (.d x)) st=.ok (.d (f x)) st)->
  cT G c e (xs.map .d) st=.ok ((xs.filter p).map λx=>.d (f x)) st
 |[],_,_=>rfl|x::xs,h,k=>by have ih:=n9 (G:=G) (c:=c) (e:=e) (st:=st) (f:=f) (p:=p) (xs:=xs) (λy hy=>h y (Xb _ hy)) λy hy=>k y (Xb _ hy);simp only[Xo];rw[ig,h x Xh,ae];cases hp:p x with|true=>rw[if_pos rfl,k x Xh,ae,ih,ae,XT hp,Xo]|false=>rw[if_neg (by simp),ih,X4 (by simp[hp])]
theorem mT{α:Type}{G:P->bX}{g:α->P}{f:α->D}:∀{xs:List α},(∀x∈xs,c (G (g x)) st=.ok Λ st)->(∀x∈xs,e (G (g x)) st=.ok (.d (f x)) st)->cT G c e (xs.map g) st=.ok (xs.map λx=>.d (f x)) st
 |[],_,_=>rfl|x::xs,h,k=>by have ih:=mT (G:=G) (c:=c) (e:=e) (st:=st) (g:=g) (f:=f) (xs:=xs) (λy hy=>h y (Xb _ hy)) λy hy=>k y (Xb _ hy);simp only[Xo];rw[ig,h x Xh,ae,if_pos rfl,k x Xh,ae,ih,ae]
theorem dF{α:Type}{xs:List α}{g:α->P}{f:α->D}(hw:cn C w r st=.ok (xs.map g) st1)(hl:xs.length<=au)(he:∀x∈xs,aa C e (Δ (g x)::bY js r) st1=.ok (.d (f x)) st1):bc C (.comp w 1 js Θ e) r st=.ok (xs.map λx=>.d (f x)) st1:=by rw[jS,hw,ae,if_pos ⟨rfl,by simpa using hl⟩];exact mT (λx _=>rfl) he
theorem ye{xs:List D}{f:D->D}(hw:cn C w r st=.ok (xs.map .d) st1)(hl:xs.length<=au)(hc:∀x∈xs,aa C c (Δ (.d x)::bY js r) st1=.ok (.d (.bl (p x))) st1)(he:∀x∈xs,aa C e (Δ (.d x)::bY js r) st1=.ok (.d (f x)) st1):bc C (.comp w 1 js (Δ c) e) r st=.ok ((xs.filter p).map λx=>.d (f x)) st1:=by rw[jS,hw,ae,if_pos ⟨rfl,by simpa using hl⟩];exact n9 (λx hx=>by rw[tJ,hc x hx];rfl) he
def B7:P->Bool
 |.obj _=>Ξ|.lf _=>Ξ|.fn _ bu=>cz bu|_=>Λ
theorem uv:∀{ps},ps.all B7=Λ->gN st ps=Δ ps/\ps.any isObj=Ξ
 |[],_=>⟨rfl,rfl⟩|p::ps,h=>by rw[Zz,W9] at h;obtain⟨i1,i2⟩:=uv (st:=st) h.2;cases p with|obj n=>cases h.1|lf n=>cases h.1|d x=>exact⟨by simp[gN,xI,jR,i1],by simp[isObj,i2]⟩|fR ns=>exact⟨by simp[gN,xI,i1],by simp[isObj,i2]⟩|fn k bu=>exact⟨by simp[gN,xI,i1,show cz bu=Λ from h.1],by simp[isObj,i2]⟩
theorem call_of(hF:Fs[k]?=Δ F)(hp:ps.all B7=Λ)(hr:vD (callC Fs n) F ps=Δ d)(CF:F.sh=Ξ:=by rfl):callC Fs (n+1) k ps st=.ok (.d d) st:=by obtain⟨a1,a2⟩:=uv (st:=st) hp;rw[ij,hF];simp only[CF,a1,hr,tY,a2,aa3,XZ,if_false]
theorem yf(hF:Fs[k]?=Δ F)(CF:F.sh=Λ)(hl:ps.length=F.np)(hr:ah (callC Fs n) F.body (az F.nn ps) st=.ok (.rt p) aK):callC Fs (n+1) k ps st=.ok p aK:=by rw[ij,hF];simp only[CF,hl,hr,if_true,Jd]
theorem dG(hl:ps.length=F.np)(he:ah C F.body (az F.nn ps) []=.ok (.rt p) st)(hf:jR st p=Δ d):vD C F ps=Δ d:=by unfold vD;rw[if_pos hl,he];exact hf
theorem Dd{r:bX}:∀{xs:List D} {u},(∀x∈xs,b (r.set i (Δ (.d x))) st=if f x=Λ then .ok (.nx (r.set i (Δ (.d x)))) st else .ok (.rt v) st)->
  ∃u2,forL (gz (.nm i)) b (xs.map .d) (r.set i u) st=if xs.all f=Λ then .ok (.nx (r.set i u2)) st else .ok (.rt v) st
 |[],u,_=>⟨u,rfl⟩|x::xs,u,h=>by obtain⟨u2,ih⟩:=Dd (i:=i) (r:=r) (st:=st) (f:=f) (v:=v) (b:=b) (xs:=xs) (u:=Δ (.d x)) λy hy=>h y (Xb _ hy);refine⟨u2,?_⟩;rw[Xo,pJ,gz,av,ae,acJ,h x Xh];cases hf:f x with|true=>rw[if_pos rfl,ae,Zz,hf,acC];exact ih|false=>rw[if_neg (by simp),ae,Zz,hf,aa3,if_neg (by simp)]
class Kf (α β:Type) where
 f:α->aI->R β
def bh{α β:Type}(a:R α)[k:Kf α β]:R β:=a.bind k.f
@[simp] theorem RK{α β:Type}(a:α)st(f:α->aI->R β):bh (.ok a st) (k:=⟨f⟩)=f a st:=rfl
section
variable{C:Nat->List P->aI->R P}{r:bX}{st:aI}
@[simp] theorem aN i:aa C (.var i) r st=R.of (r[i]?).join st:=rfl
@[simp] theorem Tv o a b:aa C (.op o a b) r st=bh (aa C a r st) (k:=⟨λx st1=>bh (aa C b r st1) (k:=⟨λy st2=>R.of (BQ o x y st2) st2⟩)⟩):=rfl
@[simp] theorem RL a:aa C (.not a) r st=bh (aa C a r st) (k:=⟨λx st1=>bh (R.of (xJ st1 x) st1) (k:=⟨λb st2=>.ok (.d (.bl (!b))) st2⟩)⟩):=rfl
@[simp] theorem RM o a b:aa C (.cmp o a b) r st=bh (aa C a r st) (k:=⟨λx st1=>bh (aa C b r st1) (k:=⟨λy st2=>bh (R.of (jq o x y st2) st2) (k:=⟨λb st3=>.ok (.d (.bl b)) st3⟩)⟩)⟩):=rfl
@[simp] theorem N1 o o' a b c:aa C (.chain o o' a b c) r st=bh (aa C a r st) (k:=⟨λx st1=>bh (aa C b r st1) (k:=⟨λy st2=>bh (R.of (jq o x y st2) st2) (k:=⟨λk st3=>if k then bh (aa C c r st3) (k:=⟨λz ma=>bh (R.of (jq o' y z ma) ma) (k:=⟨λb Be=>.ok (.d (.bl b)) Be⟩)⟩) else .ok (.d (.bl Ξ)) st3⟩)⟩)⟩):=rfl
@[simp] theorem RN es:aa C (.tup es) r st=bh (aD C es r st) (k:=⟨λps st1=>if ps.length<=au then bh (R.of (aY ps) st1) (k:=⟨λxs st2=>.ok (.d (.tup xs)) st2⟩) else .no⟩):=rfl
theorem cV l:aa C (.lst Ξ l) r st=(bc C l r st).bind λps st1=>(R.of (aY ps) st1).bind λxs st2=>.ok (.d (.pl xs)) st2:=rfl
@[simp] theorem O0 l:aa C (.lst Ξ l) r st=bh (bc C l r st) (k:=⟨λps st1=>bh (R.of (aY ps) st1) (k:=⟨λxs st2=>.ok (.d (.pl xs)) st2⟩)⟩):=cV l
theorem iU l:aa C (.lst Λ l) r st=(bc C l r st).bind λps st1=>.ok (.obj st1.length) (st1++[.lst ps]):=rfl
@[simp] theorem O1 l:aa C (.lst Λ l) r st=bh (bc C l r st) (k:=⟨λps st1=>.ok (.obj st1.length) (st1++[.lst ps])⟩):=iU l
@[simp] theorem O2 f es:aa C (.call f es) r st=bh (aD C es r st) (k:=⟨λps st1=>C f ps st1⟩):=rfl
@[simp] theorem RO a T:aa C (.Gq a T) r st=bh (aa C a r st) (k:=⟨λx st1=>bh (R.of (Jb x st1) st1) (k:=⟨λt st2=>.ok (.d (.bl (fh t T))) st2⟩)⟩):=rfl
@[simp] theorem Tw f es:aa C (.bf f es) r st=bh (aD C es r st) (k:=⟨λps st1=>R.of (oQ f ps st1) st1⟩):=rfl
@[simp] theorem Tx a b:aa C (.ix a b) r st=bh (aa C a r st) (k:=⟨λx st1=>bh (aa C b r st1) (k:=⟨λy st2=>R.of (A7 x y st2) st2⟩)⟩):=rfl
@[simp] theorem N2 a lo hi:aa C (.slice a lo hi) r st=bh (aa C a r st) (k:=⟨λx st1=>bh (ic C lo r st1) (k:=⟨λl st2=>bh (ic C hi r st2) (k:=⟨λh st3=>R.of (mJ x l h st3) st3⟩)⟩)⟩):=rfl
@[simp] theorem N3 a b:aa C (.index a b) r st=bh (aa C a r st) (k:=⟨λx st1=>bh (R.of (bj st1 x) st1) (k:=⟨λ_ st1=>bh (aa C b r st1) (k:=⟨λy st2=>R.of (pz x y st2) st2⟩)⟩)⟩):=rfl
@[simp] theorem O3 es:bc C (.fZ es) r st=bh (aD C es r st) (k:=⟨λps st1=>bh (R.of (nS ps) st1) (k:=⟨λqs st2=>if qs.length<=au then .ok qs st2 else .no⟩)⟩):=rfl
@[simp] theorem O4 a b:bc C (.zip a b) r st=bh (aa C a r st) (k:=⟨λx st1=>bh (aa C b r st1) (k:=⟨λy st2=>bh (R.of (Eb x y) st2) (k:=⟨λzs st3=>.ok (zs.map .d) st3⟩)⟩)⟩):=rfl
@[simp] theorem Lp e js c ee:bc C (.cj e js c ee) r st=bh (aa C e r st) (k:=⟨λx st1=>match x with|.obj n=>cj n (λp=>Δ p::bY js r) (bB C c) (λr' aK=>aa C ee r' aK) au 0 st1|_=>.no⟩):=rfl
@[simp] theorem N4 e:ic C (Δ e) r st=bh (aa C e r st) (k:=⟨λx st1=>.ok (Δ x) st1⟩):=rfl
@[simp] theorem N5 e es:aD C (e::es) r st=bh (aa C e r st) (k:=⟨λx st1=>bh (aD C es r st1) (k:=⟨λxs st2=>.ok (x::xs) st2⟩)⟩):=rfl
@[simp] theorem O5 e e' es:gg C (e::e'::es) r st=bh (aa C e r st) (k:=⟨λx st1=>match x with|.d (.bl b)=>if b then gg C (e'::es) r st1 else .ok (.d (.bl Ξ)) st1|_=>.no⟩):=rfl
@[simp] theorem O6 e e' es:gh C (e::e'::es) r st=bh (aa C e r st) (k:=⟨λx st1=>match x with|.d (.bl b)=>if b then .ok (.d (.bl Λ)) st1 else gh C (e'::es) r st1|_=>.no⟩):=rfl
@[simp] theorem N6 es:bc C (.dZ es) r st=bh (aD C es r st) (k:=⟨λps st1=>if ps.length<=au then .ok ps st1 else .no⟩):=rfl
@[simp] theorem RP e:cn C (.ex e) r st=bh (aa C e r st) (k:=⟨λx st1=>R.of (pw x) st1⟩):=rfl
@[simp] theorem O7 es:cn C (.fZ es) r st=bh (aD C es r st) (k:=⟨λps st1=>R.of (nS ps) st1⟩):=rfl
@[simp] theorem N7 e:cn C (.enum e) r st=bh (aa C e r st) (k:=⟨λx st1=>match x with|.d (.tup xs)=>.ok (c0 0 xs) st1|_=>.no⟩):=rfl
@[simp] theorem uw o i j:BQ o (.d (.int i)) (.d (.int j)) st=(kz o i j).map λk=>.d (.int k):=by cases o<;>rfl
@[simp] theorem RQ xs ys:BQ .add (.d (.tup xs)) (.d (.tup ys)) st=if xs.length+ys.length<=au then Δ (.d (.tup (xs++ys))) else Θ:=rfl
@[simp] theorem op_ss x y:BQ .add (.d (.str x)) (.d (.str y)) st=if x.length+y.length<=au then Δ (.d (.str (x++y))) else Θ:=rfl
theorem G9 xs k:BQ .mul (.d (.tup xs)) (.d (.int k)) st=if k=1 then Δ (.d (.tup xs)) else if k=2/\0 < xs.length/\xs.length<=100000 then Δ (.d (.tup (xs++xs))) else if k=3/\0 < xs.length/\xs.length<=100000 then Δ (.d (.tup (xs++xs++xs))) else Θ:=rfl
@[simp] theorem RR xs:BQ .mul (.d (.tup xs)) (.d (.int 2)) st=if 0 < xs.length/\xs.length<=100000 then Δ (.d (.tup (xs++xs))) else Θ:=by rw[G9];simp
@[simp] theorem RS xs:BQ .mul (.d (.tup xs)) (.d (.int 1)) st=Δ (.d (.tup xs)):=G9 xs 1
@[simp] theorem RT xs:BQ .mul (.d (.tup xs)) (.d (.int 3)) st=if 0 < xs.length/\xs.length<=100000 then Δ (.d (.tup (xs++xs++xs))) else Θ:=by rw[G9];simp
@[simp] theorem Ha xs ys:BQ .add (.d (.pl xs)) (.d (.pl ys)) st=if xs.length+ys.length<=au then Δ (.d (.pl (xs++ys))) else Θ:=by
 have e:aY (xs.map P.d++ys.map P.d)=Δ (xs++ys):=by rw[<-XW,eY]
 show(aY (xs.map P.d++ys.map P.d)).bind _=_;rw[e,<-Xz];rfl
@[simp] theorem sf i j:kz .add i j=Δ (i+j):=rfl
@[simp] theorem JV i j:kz .sub i j=Δ (i - j):=rfl
theorem eI(h:(-mH < i/\i < mH)\/(-mH < j/\j < mH)):kz .mul i j=Δ (i*j):=by unfold kz;simp only[if_pos h]
theorem cW(h:0 < j):kz .mod i j=Δ (i % j):=by unfold kz;simp only[if_pos h]
@[simp] theorem N8 b:xJ st (.d (.bl b))=Δ b:=rfl
@[simp] theorem Wn:Jb (.d .bz) st=Δ "NoneType":=rfl
@[simp] theorem ty_bl b:Jb (.d (.bl b)) st=Δ "bool":=rfl
@[simp] theorem ty_int b:Jb (.d (.int b)) st=Δ "int":=rfl
@[simp] theorem ty_str b:Jb (.d (.str b)) st=Δ "str":=rfl
@[simp] theorem Wo b:Jb (.d (.tup b)) st=Δ "tuple":=rfl
@[simp] theorem ty_pl b:Jb (.d (.pl b)) st=Δ "list":=rfl
@[simp] theorem N9 i j:jq .lt (.d (.int i)) (.d (.int j)) st=Δ (decide (i < j)):=rfl
@[simp] theorem Wp i j:jq .le (.d (.int i)) (.d (.int j)) st=Δ (decide (i<=j)):=rfl
@[simp] theorem cmp_gt i j:jq .gt (.d (.int i)) (.d (.int j)) st=Δ (decide (j < i)):=rfl
@[simp] theorem Wq i j:jq .ge (.d (.int i)) (.d (.int j)) st=Δ (decide (j<=i)):=rfl
@[simp] theorem B8 x y:jq .eq (.d x) (.d y) st=rV x y:=rfl
@[simp] theorem Hb x y:jq .ne (.d x) (.d y) st=(rV x y).map not:=rfl
@[simp] theorem Tz x y:rV (.str x) (.str y)=Δ (x==y):=rfl
@[simp] theorem oa x y:rV (.int x) (.int y)=Δ (x==y):=rfl
@[simp] theorem Wr x y:rV (.bl x) (.bl y)=Δ (x==y):=rfl
@[simp] theorem Wu y:rV .bz (.int y)=Δ Ξ:=rfl
@[simp] theorem Wv xs:rV (.tup xs) (.tup [])=Δ xs.isEmpty:=by have h:min (lY (.tup xs)) (lY (.tup []))<=100:=X5 (Z7 _ _) (by decide);unfold rV;rw[if_pos h];cases xs<;>rfl
@[simp] theorem Ww xs:rV (.pl xs) (.pl [])=Δ xs.isEmpty:=by have h:min (lY (.pl xs)) (lY (.pl []))<=100:=X5 (Z7 _ _) (by decide);unfold rV;rw[if_pos h];cases xs<;>rfl
@[simp] theorem JW xs:oQ .len [.d (.tup xs)] st=Δ (.d (.int xs.length)):=congrArg (λn:Nat=>Δ (P.d (.int n))) (Xf ..)
@[simp] theorem JX xs:oQ .len [.d (.pl xs)] st=Δ (.d (.int xs.length)):=congrArg (λn:Nat=>Δ (P.d (.int n))) (Xf ..)
@[simp] theorem TB ns:oQ .len [.fR ns] st=Δ (.d (.int ns.length)):=congrArg (λn:Nat=>Δ (P.d (.int n))) (Xf ..)
@[simp] theorem JY xs:oQ .tuple [.d (.pl xs)] st=Δ (.d (.tup xs)):=congrArg (λo:Option (List D)=>o.map λys=>P.d (.tup ys)) (eY xs)
theorem yg:nA (xs.map f) i=(nA xs i).map f:=by unfold nA;rw[Xf];cases Bs xs.length i with|none=>rfl|some k=>exact Xi ..
@[simp] theorem RU xs i:A7 (.d (.tup xs)) (.d (.int i)) st=(nA xs i).map .d:=by exact yg
@[simp] theorem RV xs i:A7 (.d (.pl xs)) (.d (.int i)) st=(nA xs i).map .d:=by exact yg
@[simp] theorem ix_s ns i:A7 (.fR ns) (.d (.int i)) st=(nA ns i).map λk=>.d (.int k):=by exact yg
@[simp] theorem dit_t xs:pw (.d (.tup xs))=Δ (xs.map .d):=rfl
@[simp] theorem dit_l xs:pw (.d (.pl xs))=Δ (xs.map .d):=rfl
@[simp] theorem sit_t xs:cU st (.d (.tup xs))=Δ (xs.map .d):=rfl
@[simp] theorem sit_l xs:cU st (.d (.pl xs))=Δ (xs.map .d):=rfl
@[simp] theorem O8:zD Θ=Δ Θ:=rfl
@[simp] theorem RW i:zD (Δ (.d (.int i)))=Δ (Δ i):=rfl
@[simp] theorem De x ps:aY (.d x::ps)=(aY ps).map λxs=>x::xs:=rfl
@[simp] theorem Hc:aY []=Δ []:=rfl
theorem dO{α:Type}{xs:List α}{k:Nat}{a:α}(h:xs[k]?=Δ a):nA xs (k:Int)=Δ a:=by have hk:=(qqz h).1;unfold nA Bs;rw[if_pos (by lia),if_pos (by lia)];simpa using h
@[simp] theorem atI0{α:Type}(a:α)xs:nA (a::xs) 0=Δ a:=dO (k:=0) rfl
@[simp] theorem atI1{α:Type}(a b:α)xs:nA (a::b::xs) 1=Δ b:=dO (k:=1) rfl
theorem ag(h:aP C s r st=.ok (.nx r1) st1)(k:ah C rest r1 st1=res):ah C (s::rest) r st=res:=by rw[e8,h,ae];exact k
theorem aQ(h:aP C s r st=.ok (.rt v) st1):ah C (s::rest) r st=.ok (.rt v) st1:=by rw[e8,h,ae]
theorem aq:ah C [] r st=.ok (.nx r) st:=by rw[jT]
theorem dg(h:aa C e r st=.ok v st1):aP C (.ret e) r st=.ok (.rt v) st1:=by rw[pF,h,ae]
theorem aW(h:aa C e r st=.ok v st1):aP C (.set i e) r st=.ok (.nx (r.set i (Δ v))) st1:=by rw[pH,h,ae]
theorem iu(hc:aa C c r st=.ok (.d (.bl Λ)) st1)(h:ah C a r st1=res):aP C (.ifs c a b) r st=res:=by rw[pI,b8,hc];simpa using h
theorem eh(hc:aa C c r st=.ok (.d (.bl Ξ)) st1)(h:ah C b r st1=res):aP C (.ifs c a b) r st=res:=by rw[pI,b8,hc];simpa using h
theorem dh(hw:cn C w r st=.ok ps st1)(h:forL (gz t) (ah C b) ps r st1=res):aP C (.ff t w b) r st=res:=by rw[tN,hw,ae];exact h
theorem yh(h:n - i < k+1)(hi:i < n):n - (i+1) < k:=XD (ZS _ _ hi) (Nat.le_of_lt_succ h)
theorem ux(hc:∀r st f aK,st[n]?=Δ (.lst xs)->c r st=.ok f aK->aK[n]?=Δ (.lst xs))(he:∀r st f aK,st[n]?=Δ (.lst xs)->e r st=.ok f aK->aK[n]?=Δ (.lst xs)):
  ∀(k i) (st),st[n]?=Δ (.lst xs)->xs.length - i < k->cj n g c e k i st=cT g c e (xs.drop i) st
 |0,i,st,_,hk=>absurd hk (ZM _)|k+1,i,st,hs,hk=>by
  have ha:wo n st i=Δ xs[i]?:=by unfold wo;rw[hs]
  rw[mN,ha];by_cases hi:i < xs.length;·rw[Xc hi,Yd hi,ig];dsimp only;cases hx:c (g xs[i]) st with|ex x s=>rfl|no=>rfl|ok b st1=>rw[ae,ae];have h1:=hc _ st b st1 hs hx;cases b with|false=>exact ux hc he k (i+1) st1 h1 (yh hk hi)|true=>simp only[if_true];cases hy:e (g xs[i]) st1 with|ex x s=>rfl|no=>rfl|ok y st2=>rw[ae,ae,ux hc he k (i+1) st2 (he _ st1 y st2 h1 hy) (yh hk hi)]
  ·rw[XI (by lia),aa0 (by lia),wC]
theorem Hd(he:aa C e r st=.ok (.obj n) st1)(h:iH n (gz t) (ah C b) dW 0 r st1=res):aP C (.iH t e b) r st=res:=by rw[tP,he,ae];exact h
theorem kg(ha:aa C a r st=.ok x st1)(hl:bj st1 x=Δ its)(he:aa C e r st1=.ok v st2)(hp:xK x v st2=Δ st3):aP C (.app a e) r st=.ok (.nx r) st3:=by rw[wz,ha,ae,hl,av,ae,he,ae,hp,av,ae]
theorem oi(he:aa C e r st=.ok v st1)(ha:aa C a r st1=.ok x st2)(hi:aa C i r st2=.ok k st3)(hp:nR x k v st3=Δ ma):aP C (.put a i e) r st=.ok (.nx r) ma:=by rw[wA,he,ae,ha,ae,hi,ae,hp,av,ae]
end
end Y
namespace Y
open PySem
section
variable{C:Nat->List P->aI->R P}{r:bX}{st:aI}
theorem Ah i es:aa C (.nP i es) r st=(R.of (r[i]?).join st).bind λp bF=>(aD C es r bF).bind λps st1=>match p with|.fn k bu=>C k (ps++bu) st1|_=>.no:=rfl
theorem Df c f i:aa C (.attr c f i) r st=(R.of (r[i]?).join st).bind λx st1=>R.of ((ph c st1 x).bind λq=>q.2.lookup f) st1:=rfl
theorem JZ k c m i es:aa C (.pf k c m i es) r st=(R.of (r[i]?).join st).bind λx bF=>(R.of ((ph c bF x).bind λq=>if(q.2.lookup m).isNone then Δ () else Θ) bF).bind λ_ bF=>(aD C es r bF).bind λps st1=>C k (x::ps) st1:=rfl
theorem Ai w js c e:bc C (.comp w 1 js c e) r st=(cn C w r st).bind λps st1=>if ps.length<=au then cT (λp=>Δ p::bY js r) (bB C c) (λr' aK=>aa C e r' aK) ps st1 else .no:=by rw[jS];simp
theorem mU(h:aa C e r st=.ok v st1):aP C (.expr e) r st=.ok (.nx r) st1:=by rw[tU,h,ae]
theorem Oa i k:aP C (.nL i k) r st=.ok (.nx (r.set i (Δ (.lf k)))) st:=by rw[tV]
theorem uy(he:aa C e r st=.ok v st1)(hi:(r[i]?).join=Δ x)(hq:ph c st1 x=Δ (n,fs))(hl:fs.length < 1000):aP C (.lX c f i e) r st=.ok (.nx r) (st1.set n (.ins c (vC f v fs))):=by have wa:kl r i=Δ x:=hi;rw[tX,he,ae,wa,av,ae,hq];simp[hl]
theorem Ob(he:aa C e r st=.ok (.obj n) st1)(hs:st1[n]?=Δ (.dK kvs))(h:mK i j (ah C b) kvs r (st1.set n .vA)=.ok f st2):aP C (.BP i j e b) r st=.ok f (st2.set n (.dK kvs)):=by
 rw[tQ,he,ae];have:tu st1 (.obj n)=Δ (n,kvs):=by simp[tu,hs]
 rw[this,av,ae];dsimp only;rw[h,ae]
theorem Oc(he:aa C e r st=.ok (.obj n) st1)(h:jc n i j (ah C b) dW 0 r st1=res):aP C (.jc i j e b) r st=res:=by rw[tR,he,ae];exact h
theorem Dg(h:gF (b8 (aa C c)) (ah C b) dW r st=res):aP C (.kK c b) r st=res:=by rw[nT];exact h
theorem di{I:Nat->bX->aI->Prop}:∀{ps} {k} {r} {st},(∀i p r st,I (k+i) r st->ps[i]?=Δ p->∃r1 r2 st1,g p r=Δ r1/\b r1 st=.ok (.nx r2) st1/\I (k+i+1) r2 st1)->I k r st->
  ∃r' aK,forL g b ps r st=.ok (.nx r') aK/\I (k+ps.length) r' aK
 |[],k,r,st,_,h=>⟨r,st,rfl,h⟩|p::ps,k,r,st,hs,h=>by obtain⟨r1,r2,st1,h1,h2,h3⟩:=hs 0 p r st h rfl;obtain⟨r',aK,e,q⟩:=di (g:=g) (b:=b) (I:=I) (ps:=ps) (k:=k+1) (r:=r2) (st:=st1) (λi p r st hi hp=>by have:=hs (i+1) p r st (by rw[show k+(i+1)=k+1+i from Yx k i 1];exact hi) (by simpa using hp);rw[show k+(i+1)+1=k+1+i+1 from congrArg (·+1) (Yx k i 1)] at this;exact this) h3;refine⟨r',aK,?_,by rw[Xt,show k+(ps.length+1)=k+1+ps.length from Yx k ps.length 1];exact q⟩;rw[pJ,h1,av,ae,h2,ae];exact e
theorem Aj{I:Nat->bX->aI->Prop}:∀{ps} {k} {r} {st},(∀i kv r st,I (k+i) r st->ps[i]?=Δ kv->∃r2 st1,b ((r.set x (Δ (xM kv.1))).set y (Δ kv.2)) st=.ok (.nx r2) st1/\I (k+i+1) r2 st1)->I k r st->
  ∃r' aK,mK x y b ps r st=.ok (.nx r') aK/\I (k+ps.length) r' aK
 |[],k,r,st,_,h=>⟨r,st,rfl,h⟩|p::ps,k,r,st,hs,h=>by obtain⟨r2,st1,h2,h3⟩:=hs 0 p r st h rfl;obtain⟨r',aK,e,q⟩:=Aj (x:=x) (y:=y) (b:=b) (I:=I) (ps:=ps) (k:=k+1) (r:=r2) (st:=st1) (λi p r st hi hp=>by have:=hs (i+1) p r st (by rw[show k+(i+1)=k+1+i from Yx k i 1];exact hi) (by simpa using hp);rw[show k+(i+1)+1=k+1+i+1 from congrArg (·+1) (Yx k i 1)] at this;exact this) h3;refine⟨r',aK,?_,by rw[Xt,show k+(ps.length+1)=k+1+ps.length from Yx k ps.length 1];exact q⟩;rw[wB,h2,ae];exact e
theorem uz{I:Nat->bX->aI->Prop}(hI:∀i r st,I i r st->st[n]?=Δ (.lst xs))(hs:∀i p r st,I i r st->xs[i]?=Δ p->∃r1 r2 st1,g p r=Δ r1/\b r1 st=.ok (.nx r2) st1/\I (i+1) r2 st1):
  ∀(k) {i} {r} {st},I i r st->i<=xs.length->xs.length - i < k->∃r' aK,iH n g b k i r st=.ok (.nx r') aK/\I xs.length r' aK
 |0,i,r,st,_,_,hk=>absurd hk (ZM _)|k+1,i,r,st,h,hi,hk=>by
  have ha:wo n st i=Δ xs[i]?:=by unfold wo;rw[hI i r st h]
  rw[pK,ha];by_cases eZ:i < xs.length;·obtain⟨r1,r2,st1,h1,h2,h3⟩:=hs i xs[i] r st h (Xc eZ);obtain⟨r',aK,e,q⟩:=uz hI hs k h3 eZ (yh hk eZ);refine⟨r',aK,?_,q⟩;rw[Xc eZ];dsimp only;rw[h1,av,ae,h2,ae];exact e
  ·have e:i=xs.length:=by lia
   subst e;refine⟨r,st,?_,h⟩;rw[XI (by lia)]
theorem Ak{I:Nat->bX->aI->Prop}(hI:∀i r st,I i r st->st[n]?=Δ (.lst xs))(hs:∀i p r st,I i r st->xs[i]?=Δ p->∃r2 st1,b ((r.set x (Δ (.d (.int i)))).set y (Δ p)) st=.ok (.nx r2) st1/\I (i+1) r2 st1):
  ∀(k) {i} {r} {st},I i r st->i<=xs.length->xs.length - i < k->∃r' aK,jc n x y b k i r st=.ok (.nx r') aK/\I xs.length r' aK
 |0,i,r,st,_,_,hk=>absurd hk (ZM _)|k+1,i,r,st,h,hi,hk=>by
  have ha:wo n st i=Δ xs[i]?:=by unfold wo;rw[hI i r st h]
  rw[pL,ha];by_cases eZ:i < xs.length;·obtain⟨r2,st1,h2,h3⟩:=hs i xs[i] r st h (Xc eZ);obtain⟨r',aK,e,q⟩:=Ak hI hs k h3 eZ (yh hk eZ);refine⟨r',aK,?_,q⟩;rw[Xc eZ];dsimp only;rw[h2,ae];exact e
  ·have e:i=xs.length:=by lia
   subst e;refine⟨r,st,?_,h⟩;rw[XI (by lia)]
theorem pZ{I:Nat->bX->aI->Prop}{E:bX->aI->Prop}(hs:∀k r st,I k r st->(c r st=.ok Ξ st/\E r st)\/(∃j,k=j+1/\c r st=.ok Λ st/\∃r2 st1,b r st=.ok (.nx r2) st1/\I j r2 st1)):
  ∀(n) {k} {r} {st},I k r st->k < n->∃r' aK,gF c b n r st=.ok (.nx r') aK/\E r' aK
 |0,k,r,st,_,hk=>absurd hk (ZM _)|n+1,k,r,st,h,hk=>by
  rcases hs k r st h with ⟨h1,h2⟩|⟨j,rfl,h1,r2,st1,h2,h3⟩
  ·exact⟨r,st,by rw[kN,h1,ae];rfl,h2⟩
  ·obtain⟨r',aK,e,q⟩:=pZ hs n h3 (by lia);refine⟨r',aK,?_,q⟩;rw[kN,h1,ae];simp only[if_true];rw[h2,ae];exact e
theorem p4{I:Nat->List P->aI->Prop}:∀{ps} {k} {ys} {st},(∀i p ys st,I (k+i) ys st->ps[i]?=Δ p->∃y st1,c (g p) st=.ok Λ st/\e (g p) st=.ok y st1/\I (k+i+1) (ys++[y]) st1)->I k ys st->
  ∃zs aK,cT g c e ps st=.ok zs aK/\I (k+ps.length) (ys++zs) aK
 |[],k,ys,st,_,h=>⟨[],st,rfl,by simpa using h⟩|p::ps,k,ys,st,hs,h=>by obtain⟨y,st1,h1,h2,h3⟩:=hs 0 p ys st h rfl;obtain⟨zs,aK,e',q⟩:=p4 (g:=g) (c:=c) (e:=e) (I:=I) (ps:=ps) (k:=k+1) (ys:=ys++[y]) (st:=st1) (λi p ys st hi hp=>by have:=hs (i+1) p ys st (by rw[show k+(i+1)=k+1+i from Yx k i 1];exact hi) (by simpa using hp);rw[show k+(i+1)+1=k+1+i+1 from congrArg (·+1) (Yx k i 1)] at this;exact this) h3;refine⟨y::zs,aK,?_,by rw[Xt,show k+(ps.length+1)=k+1+ps.length from Yx k ps.length 1];simpa using q⟩;rw[ig,h1,ae];simp only[if_true];rw[h2,ae,e',ae]
end
theorem kW(hF:Fs[k]?=Δ F)(CF:F.sh=Λ)(hl:ps.length=F.np)(hr:ah (callC Fs n) F.body (az F.nn ps) st=.ok (.nx r) aK):callC Fs (n+1) k ps st=.ok (.d .bz) aK:=by rw[ij,hF];simp only[CF,if_true,hl,hr,Jd]
theorem J1{A L B:aI}(h:t < L.length):(A++L++B).set (A.length+t) x=A++L.set t x++B:=by rw[X7,aam _ _ (by lia),X7];congr 1;rw[Nat.add_sub_cancel_left,List.set_append_left _ _ h]
theorem J2{A L B:aI}(h:t < L.length):(A++L++B)[A.length+t]?=L[t]?:=by rw[X7,Xy (by lia),Nat.add_sub_cancel_left,Xg h]
theorem jw:∀(xs) (k i:Nat),(c0 k xs)[i]?=(xs[i]?).map λx=>.d (.tup [.int ((k+i:Nat):Int),x])
 |[],k,i=>by simp[c0]|x::xs,k,0=>by simp[c0]|x::xs,k,i+1=>by rw[c0,Xl,jw xs (k+1) i,Xl,show k+1+i=k+(i+1) from Yx k 1 i]
theorem jx:∀(xs) (k),(c0 k xs).length=xs.length
 |[],k=>rfl|x::xs,k=>by rw[c0,Xt,Xt,jx xs (k+1)]
theorem iw{i:Nat}(h:st[n]?=Δ (.lst xs))(hp:xs[i]?=Δ p):A7 (.obj n) (.d (.int (i:Int))) st=Δ p:=by unfold A7;rw[jW h];show(cU st (.obj n)).bind (λxs=>nA xs (i:Int))=_;rw[Lo,fk h];exact dO hp
theorem fm(h:st[n]?=Δ (.lst xs))(hl:xs.length < au):xK (.obj n) v st=Δ (st.set n (.lst (xs++[v]))):=by unfold xK;simp[h,hl]
theorem g6(h:st[n]?=Δ (.lst xs)):oQ .len [.obj n] st=Δ (.d (.int xs.length)):=by show(match bC st (.obj n) with|some o=>Δ (P.d (.int (Gu o)))|none=>(cU st (.obj n)).map λxs:List P=>P.d (.int xs.length))=_;rw[jW h,Lo,fk h];rfl
theorem He(h:st[n]?=Δ (.dK kvs)):oQ .len [.obj n] st=Δ (.d (.int kvs.length)):=by show(match bC st (.obj n) with|some o=>Δ (P.d (.int (Gu o)))|none=>(cU st (.obj n)).map λxs:List P=>P.d (.int xs.length))=_;rw[lQ h];rfl
theorem yi{n i:Nat}{xs:List P}{v:P}(h:st[n]?=Δ (.lst xs))(hi:i < xs.length):nR (.obj n) (.d (.int (i:Int))) v st=Δ (st.set n (.lst (xs.set i v))):=by
 have:Bs xs.length (i:Int)=Δ i:=by unfold Bs;simp;lia
 unfold nR;simp[h,zE,this]
theorem J3:oQ .tuple [.obj n] st=(bj st (.obj n)).bind λxs=>(aY xs).map λys=>.d (.tup ys):=rfl
theorem J4:oQ .any [.d (.pl xs)] st=(boolsOf (xs.map .d)).map λbs=>.d (.bl (bs.any id)):=rfl
theorem RX:bj (.lst xs::st) (.obj 0)=Δ xs:=rfl
theorem Wx(h:n+1<=f+j)(h1:j < l)(h2:l<=n):∃f',f=f'+1:=⟨f - 1,by lia⟩
theorem Wy(h:k=n - j)(h1:l<=n)(h2:j < l):k=n - (j+1)+1:=by lia
theorem J5{α:Type}{l:List α}i(h:l.length < 1000000):(l.take i).length < au:=Nat.lt_of_le_of_lt (List.length_take_le' ..) (aaZ h (by decide))
noncomputable def cell(ns:List Int)(k:Nat):Int:=ns.getD k 0
def Al(ns:List Int)(k:Nat):Int:=(cell ns k+7919*k+1)*48271 % 2147483647
def mixed(ns:List Int)(k:Nat):Int:=(Al ns k*Al ns k+7*Al ns k+k) % 2147483629
theorem bN i{j:Int}(h:0 < j):0<=i % j/\i % j < j:=⟨Int.emod_nonneg _ (by lia),Int.emod_lt_of_pos _ h⟩
noncomputable def Am(x:Int)(k:Nat):Int:=(x+104729*k+17)*69621 % 2147483647
def drawn(x:Int)(k:Nat):Int:=(Am x k*Am x k+3*Am x k+k) % 2147483629
abbrev cX:=List (Nat×List Nat)
noncomputable def nD(n:Nat):D:=.int (n:Int)
def wD(u:List Nat):D:=.tup (u.map nD)
def cy(s:Nat×List Nat):D:=.tup [nD s.1,wD s.2]
def mD(m:cX):D:=.tup (m.map cy)
structure dD(w:Nat)(m:cX):Prop where
 ne:0 < m.length
 good:∀s∈m,s.1<=1
 len:∀s∈m,s.2.length=w
 lt:∀s∈m,∀t∈s.2,t < m.length
noncomputable def row(m:cX)(s:Nat):Nat×List Nat:=m.getD s (0,[])
def bg(m:cX)(s a:Nat):Nat:=(row m s).2.getD a 0
def gd(m:cX)(s:Nat):Nat:=(row m s).1
def walk(m:cX)(s:Nat)(u:List Nat):Nat:=u.foldl (bg m) s
def Es(m:cX)(u:List Nat):Bool:=gd m (walk m 0 u)==1
theorem aV(h:s < m.length):row m s∈m:=by unfold row;rw[Xd,Xc h];exact Ya h
theorem yj(h:s < m.length):m[s]?=Δ (row m s):=by unfold row;rw[Xd,Xc h];rfl
theorem dD.bg{w:Nat}{m:cX}(k:dD w m){s a:Nat}(hs:s < m.length)(ha:a < w):bg m s a < m.length:=by have hr:=aV hs;have hl:=k.len _ hr;unfold Y.bg;rw[Xd,Xc (by lia)];exact k.lt _ hr _ (Ya _)
theorem dD.walk{w:Nat}{m:cX}(k:dD w m):∀{u:List Nat} {s:Nat},s < m.length->(∀a∈u,a < w)->walk m s u < m.length
 |[],s,hs,_=>hs|a::u,s,hs,hu=>dD.walk (u:=u) k (k.bg hs (hu a Xh)) λb hb=>hu b (Xb _ hb)
theorem An{s:Nat}(h:s < m.length):nA (m.map cy) (s:Int)=Δ (cy (row m s)):=dO (by rw[Xi,yj h];rfl)
theorem RY(k:dD w m)(h:s < m.length)(ha:a < w):nA ((row m s).2.map nD) (a:Int)=Δ (nD (bg m s a)):=by have hl:=k.len _ (aV h);refine dO ?_;rw[Xi,Xc (by lia)];unfold bg;rw[Xd,Xc (by lia)];rfl
theorem J6(k:dD w m)(h:s < m.length)(ha:a < w)(e1:aa C em r st=.ok (.d (mD m)) st)(e2:aa C es r st=.ok (.d (.int (s:Int))) st)(e3:aa C ea r st=.ok (.d (.int (a:Int))) st):
  aa C (.ix (.ix (.ix em es) (.cst (.int 1))) ea) r st=.ok (.d (.int (bg m s a:Nat))) st:=by
 simp[e1,e2,e3,mD,An h,cy,wD,RY k h ha,nD]
theorem oj{r:bX}{st:aI}{m:cX}{em es:E}{s:Nat}(h:s < m.length)(e1:aa C em r st=.ok (.d (mD m)) st)(e2:aa C es r st=.ok (.d (.int (s:Int))) st):
  aa C (.ix (.ix em es) (.cst (.int 0))) r st=.ok (.d (.int (gd m s:Nat))) st:=by
 simp[e1,e2,mD,An h,cy,nD,gd]
theorem wX{r:bX}(k:dD w m)(hM:r[iM]?=Δ (Δ (.d (mD m))))(h1:iM≠iS)(h2:iM≠iL)(h3:iS≠iL)(hS:iS < r.length)(hL:iL < r.length):
  ∀(u) (s) (x),s < m.length->(∀a∈u,a < w)->
  ∃y,forL (gz (.nm iL)) (ah C [.set iS (.ix (.ix (.ix (.var iM) (.var iS)) (.cst (.int 1))) (.var iL))]) ((u.map nD).map P.d) ((r.set iS (Δ (.d (.int (s:Int))))).set iL x) st
   =.ok (.nx ((r.set iS (Δ (.d (.int (walk m s u:Nat))))).set iL y)) st
 |[],s,x,_,_=>⟨x,rfl⟩|a::u,s,x,hs,hu=>by
  have ha:=hu a Xh;obtain⟨y,ih⟩:=wX (C:=C) (st:=st) k hM h1 h2 h3 hS hL u (bg m s a) (Δ (.d (.int (a:Int)))) (k.bg hs ha) λb hb=>hu b (Xb _ hb);refine⟨y,?_⟩;rw[Xo,Xo,forL,gz,av,ae,acJ];have e:ah C [.set iS (.ix (.ix (.ix (.var iM) (.var iS)) (.cst (.int 1))) (.var iL))] ((r.set iS (Δ (.d (.int (s:Int))))).set iL (Δ (.d (nD a)))) st
    =.ok (.nx ((r.set iS (Δ (.d (.int (bg m s a:Nat))))).set iL (Δ (.d (.int (a:Int)))))) st:=by
   refine ag (aW (st1:=st) (J6 k hs ha ?_ ?_ ?_)) ?_;·rw[aN,Xe (λz=>h2 z.symm),Xe (λz=>h1 z.symm),hM];rfl
   ·rw[aN,Xe (λz=>h3 z.symm),XC hS];rfl
   ·rw[aN,XC (by simpa using hL)];rfl
   ·rw[aq,List.set_comm _ _ (λz=>h3 z.symm),acJ];rfl
  rw[e,ae];exact ih
def HV(x:Int)(w c:Nat):cX:=(W8 c).map λk=>((drawn x (7*k+5) % 3 % 2).toNat,(W8 w).map λl=>(drawn x (7*k+l) % (c:Int)).toNat)
theorem Od x w(hc:0 < c):dD w (HV x w c):=by
 refine⟨by simp[HV];exact hc,λs hs=>?_,λs hs=>?_,λs hs t ht=>?_⟩<;>
  (simp only[HV,Y7,Yl] at hs;obtain⟨k,hk,rfl⟩:=hs)
 ·have:=bN (drawn x (7*k+5) % 3) (show(0:Int) < 2 by decide);dsimp only;lia
 ·simp
 ·simp only[Y7,Yl] at ht;obtain⟨l,hl,rfl⟩:=ht;have:=bN (drawn x (7*k+l)) (show(0:Int) < (c:Int) by lia);simp only[HV,Xf,XS];lia
theorem J7 x w c:(HV x w c).length=c:=by simp[HV]
theorem RZ{j:Nat}(h:j < 1000000):nS [.d (.int (j:Int))]=Δ ((W8 j).map λk=>.d (.int (k:Int))):=by
 have c1: -jn<=(j:Int)/\(j:Int) < jn:=by unfold jn;lia
 unfold nS;simp only[if_pos c1,Ea];congr 1;simp
theorem cf{j:Nat}(h:aa C e r st=.ok (.d (.int (j:Int))) st)(hj:j < 1000000):cn C (.fZ [e]) r st=.ok ((W8 j).map λk:Nat=>.d (.int (k:Int))) st:=by rw[pE,aj,h,ae,ay,ae,ae,RZ hj,av]
theorem Wz(n:Nat):((n:Int)==1)=(n==1):=by rw[ZQ];simp;lia
end Y
namespace Y
abbrev Wd(w:Nat)(u:List Nat):Prop:=∀a∈u,a < w
theorem Wd.nil:Wd w []:=λa h=>by cases h
theorem Wd.cons(ha:a < w)(h:Wd w u):Wd w (a::u):=λb hb=>by
 rcases aai.mp hb with z|z;·rw[z];exact ha
 ·exact h b z
theorem Wd.tail(h:Wd w (a::u)):Wd w u:=λb hb=>h b (Xb _ hb)
theorem Wd.head(h:Wd w (a::u)):a < w:=h a Xh
theorem Wd.app(h:Wd w u)(h':Wd w v):Wd w (u++v):=λb hb=>by
 rcases Zq.mp hb with z|z;·exact h b z
 ·exact h' b z
def gD(w:Nat)(m:cX)(s:Nat)(m':cX)(s':Nat):Prop:=∀u,Wd w u->gd m (walk m s u)=gd m' (walk m' s' u)
theorem gD.refl:gD w m s m s:=λ_ _=>rfl
theorem gD.symm(h:gD w m s m' s'):gD w m' s' m s:=λu hu=>(h u hu).symm
theorem gD.trans(h:gD w m s m' s')(h':gD w m' s' m2 s2):gD w m s m2 s2:=λu hu=>(h u hu).trans (h' u hu)
theorem gD.step(h:gD w m s m' s')(ha:a < w):gD w m (bg m s a) m' (bg m' s' a):=λu hu=>h (a::u) (hu.cons ha)
theorem gD.good(h:gD w m s m' s'):gd m s=gd m' s':=h [] Wd.nil
def Red(w:Nat)(m:cX):Prop:=∀s t,s < m.length->t < m.length->gD w m s m t->s=t
def gR:List Nat->Nat->Option Nat
 |[],c=>Δ c|s::ss,c=>if s < c then gR ss c else if s=c then gR ss (c+1) else Θ
def gp:cX->Nat->Nat->Option Nat
 |[],_,c=>Δ c|q::qs,k,c=>if k < c then(gR q.2 c).bind λc'=>gp qs (k+1) c' else Θ
structure mn(w:Nat)(m:cX):Prop where
 ok:dD w m
 red:Red w m
 ord:gp m 0 1=Δ m.length
theorem Dh:∀{m} {k c d},gp m k c=Δ d->m=[]\/k < c
 |[],k,c,d,h=>.inl rfl|q::qs,k,c,d,h=>by
  simp only[gp] at h;split at h;·exact .inr ‹_›
  ·cases h
theorem uA(hr:Red w m)(O9:Red w m'):∀{ss J8} {c d d'},ss.length=J8.length->(∀(i s s':Nat),ss[i]?=Δ s->J8[i]?=Δ s'->gD w m s m' s'/\s < m.length/\s' < m'.length)->
  (∀s,s < c->gD w m s m' s/\s < m.length/\s < m'.length)->gR ss c=Δ d->gR J8 c=Δ d'->ss=J8/\d=d'/\∀s,s < d->gD w m s m' s/\s < m.length/\s < m'.length
 |[],[],c,d,d',_,_,hc,h,h'=>by simp[gR] at h h';subst h;subst h';exact⟨rfl,rfl,hc⟩|s::ss,s'::J8,c,d,d',hl,hs,hc,h,h'=>by
  obtain⟨q,q1,q2⟩:=hs 0 s s' rfl rfl;have sD:∀(i t t':Nat),ss[i]?=Δ t->J8[i]?=Δ t'->gD w m t m' t'/\t < m.length/\t' < m'.length:=λi t t' e e'=>hs (i+1) t t' (by simpa using e) (by simpa using e');have wc:ss.length=J8.length:=by simpa using hl
  have eq1:s < c->s=s':=λh1=>by obtain⟨a,b,c1⟩:=hc s h1;exact O9 s s' c1 q2 (a.symm.trans q)
  have eq2:s' < c->s=s':=λh1=>by obtain⟨a,b,c1⟩:=hc s' h1;exact hr s s' q1 b (q.trans a.symm)
  simp only[gR] at h h';by_cases h1:s < c;·have e:=eq1 h1;subst e;rw[if_pos h1] at h h';obtain⟨a,b,c1⟩:=uA hr O9 wc sD hc h h';exact⟨by rw[a],b,c1⟩
  ·have h2:¬s' < c:=λz=>h1 (by rw[eq2 z];exact z);rw[if_neg h1] at h;rw[if_neg h2] at h';split at h
   ·split at h'
    ·rename_i e e';subst e;subst e';have Mb:∀t,t < s'+1->gD w m t m' t/\t < m.length/\t < m'.length:=λt ht=>by
      by_cases z:t < s';·exact hc t z
      ·have:t=s':=by lia
       subst this;exact⟨q,q1,q2⟩
     obtain⟨a,b,c1⟩:=uA hr O9 wc sD Mb h h';exact⟨by rw[a],b,c1⟩
    ·cases h'
   ·cases h
theorem om(h:m.drop k=q::qs):k < m.length/\row m k=q/\m.drop (k+1)=qs:=by
 have hk:k < m.length:=by
  by_cases z:k < m.length;·exact z
  ·rw[aa0 (by lia)] at h;cases h
 rw[Yd hk] at h;injection h with h1 h2;refine⟨hk,?_,h2⟩;unfold row;rw[Xd,Xc hk];exact h1
theorem Ao(k:dD w m)(k':dD w m')(hr:Red w m)(O9:Red w m'):∀{qs qs'} {j c d d'},m.drop j=qs->m'.drop j=qs'->(∀s,s < c->gD w m s m' s/\s < m.length/\s < m'.length)->
  gp qs j c=Δ d->gp qs' j c=Δ d'->m.length=d->m'.length=d'->qs=qs'
 |[],[],j,c,d,d',_,_,_,_,_,_,_=>rfl|[],q'::qs',j,c,d,d',e,e',hc,h,h',hd,Cr=>by
  have hj:j < m'.length:=(om e').1;have Wh:m.length<=j:=by
   by_cases z:j < m.length;·rw[Yd z] at e;cases e
   ·lia
  rcases Dh h' with z|z;·cases z
  ·have:=(hc j z).2.1;lia
 |q::qs,[],j,c,d,d',e,e',hc,h,h',hd,Cr=>by
  have hj:j < m.length:=(om e).1;have Wh:m'.length<=j:=by
   by_cases z:j < m'.length;·rw[Yd z] at e';cases e'
   ·lia
  rcases Dh h with z|z;·cases z
  ·have:=(hc j z).2.2;lia
 |q::qs,q'::qs',j,c,d,d',e,e',hc,h,h',hd,Cr=>by
  obtain⟨g1,g2,g3⟩:=om e;obtain⟨g1',WA,g3'⟩:=om e';simp only[gp] at h h';split at h
  ·rename_i hj;rw[if_pos hj] at h';obtain⟨sj,_,_⟩:=hc j hj;have l1:q.2.length=w:=by rw[<-g2];exact k.len _ (aV g1)
   have l2:q'.2.length=w:=by rw[<-WA];exact k'.len _ (aV g1')
   cases e1:gR q.2 c with
   |none=>rw[e1] at h;cases h|some c1=>
    cases e2:gR q'.2 c with
    |none=>rw[e2] at h';cases h'|some c2=>
     rw[e1] at h;rw[e2] at h';obtain⟨a,b,c3⟩:=uA hr O9 (l1.trans l2.symm) (λi s s' hs sT=>by
      have hi:i < w:=by rw[<-l1];exact(qqz hs).1
      have z1:bg m j i=s:=by unfold bg;rw[g2,Xd,hs];rfl
      have z2:bg m' j i=s':=by unfold bg;rw[WA,Xd,sT];rfl
      rw[<-z1,<-z2];exact⟨sj.step hi,k.bg g1 hi,k'.bg g1' hi⟩) hc e1 e2
     subst b;have e3:=Ao k k' hr O9 g3 g3' c3 h h' hd Cr;have e4:q.1=q'.1:=by have:=sj.good;unfold gd at this;rw[g2,WA] at this;exact this
     rw[e3,ac3 e4 a]
  ·cases h
theorem mn.one(h:mn w m)(h':mn w m')(hs:gD w m 0 m' 0):m=m':=
 Ao h.ok h'.ok h.red h'.red (j:=0) (qs:=m) (qs':=m') rfl rfl (λs hc=>by
  have:s=0:=by lia
  subst this;exact⟨hs,h.ok.ne,h'.ok.ne⟩) h.ord h'.ord rfl rfl
end Y
namespace Y
open Classical
theorem filter_le(h:∀x,p x=Λ->q x=Λ):∀l:List Nat,(l.filter p).length<=(l.filter q).length
 |[]=>Xj _|x::l=>by have ih:=filter_le h l;cases hp:p x with|true=>rw[XT hp,XT (h x hp)];simp;exact ih|false=>rw[X4 (by simp[hp])];cases hq:q x with|true=>rw[XT hq];simp;lia|false=>rw[X4 (by simp[hq])];exact ih
theorem filter_lt(h:∀x,p x=Λ->q x=Λ)(h1:p y=Ξ)(h2:q y=Λ):∀l:List Nat,y∈l->(l.filter p).length < (l.filter q).length
 |[],z=>by cases z|x::l,z=>by
  have il:=filter_le h l;rcases aai.mp z with e|e;·subst e;rw[X4 (by simp[h1]),XT h2];simp;lia
  ·have ih:=filter_lt h h1 h2 l e;cases hp:p x with|true=>rw[XT hp,XT (h x hp)];simp;exact ih|false=>rw[X4 (by simp[hp])];cases hq:q x with|true=>rw[XT hq];simp;lia|false=>rw[X4 (by simp[hq])];exact ih
def g7(w:Nat)(m:cX)(k s t:Nat):Prop:=∀u,Wd w u->u.length<=k->gd m (walk m s u)=gd m (walk m t u)
variable{w:Nat}{m:cX}
theorem g7.refl:g7 w m k s s:=λ_ _ _=>rfl
theorem g7.symm(h:g7 w m k s t):g7 w m k t s:=λu hu hl=>(h u hu hl).symm
theorem g7.trans(h:g7 w m k s t)(h':g7 w m k t r):g7 w m k s r:=λu hu hl=>(h u hu hl).trans (h' u hu hl)
theorem g7.mono(h:g7 w m k s t)(hj:j<=k):g7 w m j s t:=λu hu hl=>h u hu (X5 hl hj)
theorem g7.step(h:g7 w m (k+1) s t)(ha:a < w):g7 w m k (bg m s a) (bg m t a):=λu hu hl=>h (a::u) (hu.cons ha) (by simp;lia)
theorem g7.Di(h0:gd m s=gd m t)(h:∀a,a < w->g7 w m k (bg m s a) (bg m t a)):g7 w m (k+1) s t:=λu hu hl=>by cases u with|nil=>exact h0|cons a u=>exact h a hu.head u hu.tail (by simpa using hl)
theorem g7.Hf(ok:dD w m)(hk:∀s t,s < m.length->t < m.length->g7 w m k s t->g7 w m (k+1) s t):∀(j) {s t},s < m.length->t < m.length->g7 w m k s t->g7 w m (k+j) s t
 |0,s,t,_,_,h=>h|j+1,s,t,hs,ht,h=>by have h1:=hk s t hs ht h;exact g7.Di (h [] Wd.nil (Yq _)) λa ha=>g7.Hf ok hk j (ok.bg hs ha) (ok.bg ht ha) (h1.step ha)
theorem g7.Oe(ok:dD w m)(hk:∀s t,s < m.length->t < m.length->g7 w m k s t->g7 w m (k+1) s t)(hs:s < m.length)(ht:t < m.length)(h:g7 w m k s t):gD w m s m t:=λu hu=>g7.Hf ok hk u.length hs ht h u hu (by lia)
noncomputable def rep(w:Nat)(m:cX)(k s:Nat):Bool:=decide (∀t,t < s->¬g7 w m k t s)
noncomputable def uB(w:Nat)(m:cX)(k:Nat):Nat:=((W8 m.length).filter (rep w m k)).length
theorem Ap(p:Nat->Prop):∀n,p n->∃r,r<=n/\p r/\∀t,t < r->¬p t:=λn=>by
 induction n using Nat.strongRecOn with
 |_ n ih=>
  intro h;by_cases z:∃t,t < n/\p t;·obtain⟨t,ht,hp⟩:=z;obtain⟨r,h1,h2,h3⟩:=ih t ht hp;exact⟨r,by lia,h2,h3⟩
  ·exact⟨n,Xj _,h,λt ht hp=>z ⟨t,ht,hp⟩⟩
theorem J9(hs:s < m.length)(ht:t < m.length)(h:g7 w m k s t)(hn:¬g7 w m (k+1) s t):uB w m k < uB w m (k+1):=by
 obtain⟨r,r1,r2,r3⟩:=Ap (λx=>g7 w m k x s) s g7.refl;have go:∀y,y < m.length->g7 w m k y s->¬g7 w m (k+1) y r->uB w m k < uB w m (k+1):=λy hy e n=>by
  obtain⟨z,z1,z2,z3⟩:=Ap (λx=>g7 w m (k+1) x y) y g7.refl;have e2:g7 w m k r z:=r2.trans (e.symm.trans (z2.mono (Y9 _)).symm);have hz:r≠z:=λc=>by subst c;exact n z2.symm
  have eZ:r < z:=by
   rcases Nat.lt_or_ge r z with c|c;·exact c
   ·exact absurd ((z2.mono (Y9 k)).trans e) (r3 z (by lia))
  refine filter_lt (y:=z) (λx hx=>?_) ?_ ?_ _ (by simp;lia);·simp only[rep,qqq] at hx ⊢;exact λt' h1 h2=>hx t' h1 (h2.mono (Y9 _))
  ·simp only[rep,decide_eq_false_iff_not];exact λc=>c r eZ e2
  ·simp only[rep,qqq];exact λt' h1 h2=>z3 t' h1 (h2.trans z2)
 by_cases c:g7 w m (k+1) s r;·exact go t ht h.symm λd=>hn (c.trans d.symm)
 ·exact go s hs g7.refl c
theorem Ka k:uB w m k<=m.length:=by unfold uB;exact X5 (ZH _ _) (by simp)
theorem Hg(ok:dD w m)k:0 < uB w m k:=by unfold uB;refine Y8 (a:=0) ?_;rw[Yt];exact⟨by simpa using ok.ne,by simp[rep]⟩
theorem Et(ok:dD w m):∃k,k < m.length/\∀s t,s < m.length->t < m.length->g7 w m k s t->g7 w m (k+1) s t:=by
 apply XG;intro hn;have Bx:∀k,k < m.length->uB w m k < uB w m (k+1):=λk hk=>by apply XG;intro hc;refine hn ⟨k,hk,λs t hs ht h=>?_⟩;apply XG;intro he;exact hc (J9 hs ht h he)
 have grow:∀k,k<=m.length->k < uB w m k:=λk=>by
  induction k with
  |zero=>intro _;exact Hg ok 0|succ k ih=>
   intro hk;have h1:=ih (by lia);have h2:=Bx k (by lia)
   lia
 have h1:=grow m.length (Xj _);have h2:=Ka (w:=w) (m:=m) m.length
 lia
theorem yk(ok:dD w m)(hs:s < m.length)(ht:t < m.length)(h:g7 w m m.length s t):gD w m s m t:=by obtain⟨k,hk,qj⟩:=Et ok;exact g7.Oe ok qj hs ht (h.mono (aay hk))
end Y
namespace Y
open PySem
noncomputable def l4(x:D)(h:Int):Bool:=match x with|.int i=>decide (0<=i)&&decide (i<=h)|_=>Ξ
def ym(x:D)(w:Int)(h:Int):Bool:=match x with|.tup ss=>decide ((ss.length:Int)=w)&&ss.all λs=>l4 s h|_=>Ξ
def iy(w h:Int):D->Bool
 |.tup [g,ss]=>l4 g 1&&ym ss w h|_=>Ξ
def qK(x:D)(w:Int):Bool:=match x with|.tup xs=>!xs.isEmpty&&xs.all λs=>iy w ((xs.length:Int) - 1) s|_=>Ξ
theorem Hh(k:dD w m):qK (mD m) (w:Int)=Λ:=by
 unfold qK mD;dsimp only;rw[W9];refine⟨?_,?_⟩;·have:=k.ne;cases m with|nil=>simp at this|cons a b=>rfl
 ·rw[Y2];intro x hx;rw[Y7] at hx;obtain⟨s,hs,rfl⟩:=hx;have h1:=k.good s hs;have h2:=k.len s hs;unfold iy cy;simp only[W9];refine⟨?_,?_⟩;·simp[l4,nD];lia
  ·unfold ym wD;simp only[W9,qqq,Xf,Y2,Y7,forall_exists_index,and_imp];refine⟨by lia,?_⟩;rintro y t ht rfl;have:=k.lt s hs t ht;simp[l4,nD]
   lia
section
section
variable{α:Type}[DecidableEq α]
theorem fV{ss xs:List α}(hn:ss.Nodup)(hs:∀s∈ss,s∈xs):ss.length<=xs.length:=by
 induction ss generalizing xs with
 |nil=>simp|cons s ss ih=>
  rw[YK] at hn;have h1:s∈xs:=hs s Xh;have:=ih (xs:=xs.erase s) hn.2 λt ht=>by have:t≠s:=λz=>hn.1 (z▸ht);exact(aat this).mpr (hs t (Xb _ ht))
  rw[Z3 h1] at this;have:=Y8 h1;simp
  lia
theorem Of{ss xs:List α}(hn:ss.Nodup)(hs:∀s∈ss,s∈xs)(hl:xs.length<=ss.length):∀x∈xs,x∈ss:=by
 intro x Kb;apply XG;intro hc;have:=fV (ss:=ss) (xs:=xs.erase x) hn λt ht=>by have:t≠x:=λz=>hc (z▸ht);exact(aat this).mpr (hs t ht)
 rw[Z3 Kb] at this;have:=Y8 Kb
 lia
end
abbrev p5:=List (Nat×Nat)
def vG(ps:p5)(q:Nat×Nat):p5:=if q∈ps then ps else ps++[q]
theorem jy:x∈vG ps q↔x∈ps\/x=q:=by
 unfold vG;split;·rename_i h;exact⟨.inl,λz=>by rcases z with z|z;exact z;rw[z];exact h⟩
 ·simp
theorem Kc(h:ps.Nodup):(vG ps q).Nodup:=by
 unfold vG;split;·exact h
 ·rename_i hq;rw[X9];exact⟨h,by simp,λa ha b hb=>by simp at hb;subst hb;exact λz=>hq (z▸ha)⟩
def Aq(n:Nat):p5:=(W8 n).flatMap λi=>((W8 n).filter λj=>decide (j≠i)).map λj=>(i,j)
theorem oo:q∈Aq n↔q.1 < n/\q.2 < n/\q.1≠q.2:=by
 unfold Aq;simp only[abe,Yl,Y7,Yt,qqq];constructor;·rintro⟨i,hi,j,⟨hj,fi⟩,rfl⟩;exact⟨hi,hj,λz=>fi z.symm⟩
 ·rintro⟨h1,h2,h3⟩;exact⟨q.1,h1,q.2,⟨h2,λz=>h3 z.symm⟩,rfl⟩
theorem uC{α β:Type}{f:α->List β}:∀{l:List α},l.Nodup->(∀x∈l,(f x).Nodup)->(∀x∈l,∀y∈l,∀z,z∈f x->z∈f y->x=y)->(l.flatMap f).Nodup
 |[],_,_,_=>by simp|a::l,hn,h1,h2=>by rw[YK] at hn;rw[aaq,X9];refine⟨h1 a Xh,uC hn.2 (λx hx=>h1 x (Xb _ hx)) (λx hx y hy=>h2 x (Xb _ hx) y (Xb _ hy)),λx hx y hy e=>?_⟩;subst e;rw[abe] at hy;obtain⟨b,hb,hy⟩:=hy;have:=h2 a Xh b (Xb _ hb) x hx hy;exact hn.1 (this▸hb)
theorem Kd n:(Aq n).Nodup:=by
 unfold Aq;refine uC Zh (λi _=>?_) (λx _ y _ z hz Qk=>?_);·rw[List.nodup_iff_pairwise_ne,List.pairwise_map];refine List.Pairwise.imp (λ{a b} h=>?_) ((Zh).filter _);intro e;injection e with _ e2;exact h e2
 ·simp only[Y7] at hz Qk;obtain⟨_,_,rfl⟩:=hz;obtain⟨_,_,e⟩:=Qk;injection e with e1 _;exact e1.symm
theorem mo:∀{l:List Nat} {i},l.Nodup->i∈l->(l.filter λj=>decide (j≠i)).length+1=l.length
 |[],i,_,h=>by cases h|x::l,i,hn,h=>by
  rw[YK] at hn;by_cases e:x=i
  ·subst e;rw[X4 (by simp)];have:(l.filter λj=>decide (j≠x))=l:=by rw[List.filter_eq_self];intro a ha;rw[qqq];exact λz=>hn.1 (z▸ha)
   rw[this];rfl
  ·rw[XT (by simp[e])];have:=mo hn.2 (by rcases aai.mp h with z|z;exact absurd z.symm e;exact z);simp;simpa using this
theorem Ar n:(Aq n).length+n=n*n:=by
 have key:∀l:List Nat,(∀i∈l,i < n)->(l.flatMap λi=>((W8 n).filter λj=>decide (j≠i)).map λj=>(i,j)).length+l.length=l.length*n:=by
  intro l;induction l with
  |nil=>intro _;simp|cons i l ih=>
   intro h;have h1:=ih λj hj=>h j (Xb _ hj);have h2:=mo (l:=W8 n) (i:=i) Zh (by simpa using h i Xh);rw[XS] at h2;rw[aaq,Xz,Xf,Xt,aaY]
   lia
 have:=key (W8 n) (λi hi=>by simpa using hi);simpa[Aq] using this
variable{w:Nat}{m:cX}
def p1(m:cX)(i:Nat)(ps:p5)(j:Nat):p5:=if gd m i≠gd m j then vG ps (i,j) else ps
def hit(m:cX)(ps:p5)(i j:Nat):Bool:=((row m i).2.zip (row m j).2).any λq=>decide (q∈ps)
def p2(m:cX)(i:Nat)(ps:p5)(j:Nat):p5:=if hit m ps i j=Λ then vG ps (i,j) else ps
def kh(f:Nat->p5->Nat->p5)(n:Nat)(ps:p5):p5:=(W8 n).foldl (λps i=>(W8 n).foldl (f i) ps) ps
def cE(m:cX):p5:=(W8 m.length).foldl (λps _=>kh (p2 m) m.length ps) (kh (p1 m) m.length [])
structure bO(w:Nat)(m:cX)(ps:p5):Prop where
 nd:ps.Nodup
 lt:∀q∈ps,q.1 < m.length/\q.2 < m.length
 sd:∀q∈ps,¬gD w m q.1 m q.2
theorem bO.add(h:bO w m ps)(hi:i < m.length)(hj:j < m.length)(hn:¬gD w m i m j):bO w m (vG ps (i,j)):=by
 refine⟨Kc h.nd,λq hq=>?_,λq hq=>?_⟩
 ·rcases jy.mp hq with z|z;·exact h.lt q z
  ·rw[z];exact⟨hi,hj⟩
 ·rcases jy.mp hq with z|z;·exact h.sd q z
  ·rw[z];exact hn
theorem zip_get{a b:List Nat}(h:(x,y)∈a.zip b):∃i,i < a.length/\i < b.length/\a.getD i 0=x/\b.getD i 0=y:=by
 obtain⟨i,hi,e⟩:=List.mem_iff_getElem.mp h;rw[abq] at hi;refine⟨i,by lia,by lia,?_,?_⟩;·rw[ab1] at e;injection e with e1 e2;rw[Xd,Xc (by lia)];exact e1
 ·rw[ab1] at e;injection e with e1 e2;rw[Xd,Xc (by lia)];exact e2
theorem Dj(ok:dD w m)(hi:i < m.length)(hj:j < m.length):hit m ps i j=Λ↔∃a,a < w/\(bg m i a,bg m j a)∈ps:=by
 have l1:=ok.len _ (aV hi);have l2:=ok.len _ (aV hj);unfold hit;rw[Y1];constructor;·rintro⟨⟨x,y⟩,hq,hp⟩;rw[qqq] at hp;obtain⟨a,h1,h2,e1,e2⟩:=zip_get hq;refine⟨a,by lia,?_⟩;unfold bg;rw[e1,e2];exact hp
 ·rintro⟨a,ha,hp⟩;refine⟨(bg m i a,bg m j a),?_,by simpa using hp⟩;refine List.mem_iff_getElem.mpr ⟨a,by rw[abq];lia,?_⟩;rw[ab1];unfold bg;rw[Xd,Xd,Xc (by lia),Xc (by lia)];rfl
theorem Hi(h:bO w m ps)(hi:i < m.length)(hj:j < m.length):bO w m (p1 m i ps j):=by
 unfold p1;split;·rename_i hg;exact h.add hi hj λsm=>hg sm.good
 ·exact h
theorem Dk(ok:dD w m)(h:bO w m ps)(hi:i < m.length)(hj:j < m.length):bO w m (p2 m i ps j):=by
 unfold p2;split;·rename_i hg;obtain⟨a,ha,hp⟩:=(Dj ok hi hj).mp hg;exact h.add hi hj λsm=>h.sd _ hp (sm.step ha)
 ·exact h
theorem dt{σ α:Type}{f:σ->α->σ}{J:σ->Prop}:∀{l:List α} {s},J s->(∀s,∀x∈l,J s->J (f s x))->J (l.foldl f s)
 |[],s,h,_=>h|x::l,s,h,hf=>dt (l:=l) (hf s x Xh h) λs y hy=>hf s y (Xb _ hy)
theorem uD{J:p5->Prop}(hf:∀ps i j,i < n->j < n->J ps->J (f i ps j))(h:J ps):J (kh f n ps):=
 dt h λs i hi hs=>dt hs λs j hj hs=>hf s i j (by simpa using hi) (by simpa using hj) hs
theorem uE{σ α:Type}{f:σ->α->σ}{G:σ->Prop}{J:σ->Prop}{x:α}(hG:∀s y,J s->G s->G (f s y))(hJ:∀s y,J s->J (f s y))(hx:∀s,J s->G (f s x)):∀{l:List α} {s},x∈l->J s->G (l.foldl f s)
 |y::l,s,h,js=>by
  rcases aai.mp h with e|e;·subst e;exact(dt (J:=λs=>J s/\G s) (l:=l) ⟨hJ s x js,hx s js⟩ λs y _ ⟨a,b⟩=>⟨hJ s y a,hG s y a b⟩).2
  ·exact uE hG hJ hx (l:=l) e (hJ s y js)
theorem wY{J:p5->Prop}(hi:i < n)(hj:j < n)(mono:∀ps i j,∀q∈ps,q∈f i ps j)(hJ:∀ps i j,J ps->J (f i ps j))(hx:∀ps,J ps->(i,j)∈f i ps j)(h:J ps):(i,j)∈kh f n ps:=by have inner:∀(s:p5) (k:Nat),J s->J ((W8 n).foldl (f k) s):=λs k hs=>dt hs λs j _ hs=>hJ s k j hs;have keep:∀(s:p5) (k:Nat),(i,j)∈s->(i,j)∈(W8 n).foldl (f k) s:=λs k hs=>dt (J:=λs=>(i,j)∈s) hs λs j' _ hs=>mono s k j' _ hs;exact uE (G:=λs=>(i,j)∈s) (J:=J) (x:=i) (λs k _ hs=>keep s k hs) (λs k hs=>inner s k hs) (λs hs=>uE (G:=λs=>(i,j)∈s) (J:=J) (x:=j) (λs k _ hs=>mono s i k _ hs) (λs k hs=>hJ s i k hs) (λs hs=>hx s hs) (by simpa using hj) hs) (by simpa using hi) h
theorem Ke ps i j:∀q∈ps,q∈p1 m i ps j:=λq hq=>by
 unfold p1;split;·exact jy.mpr (.inl hq)
 ·exact hq
theorem yn ps i j:∀q∈ps,q∈p2 m i ps j:=λq hq=>by
 unfold p2;split;·exact jy.mpr (.inl hq)
 ·exact hq
def wZ(w:Nat)(m:cX)(k:Nat)(ps:p5):Prop:=∀i j,i < m.length->j < m.length->¬g7 w m k i j->(i,j)∈ps
theorem R0:wZ w m 0 (kh (p1 m) m.length []):=λi j hi hj hn=>by
 refine wY (J:=λ_=>True) hi hj Ke (λ_ _ _ _=>trivial) (λps _=>?_) trivial;unfold p1;have:gd m i≠gd m j:=λe=>hn λu hu hl=>by cases u with|nil=>exact e|cons a u=>simp at hl
 rw[if_pos this];exact jy.mpr (.inr rfl)
theorem R1(ok:dD w m)(h:wZ w m k ps):wZ w m (k+1) (kh (p2 m) m.length ps):=λi j hi hj hn=>by
 refine wY (J:=λs=>wZ w m k s) hi hj yn (λps i j hs i' j' h1 h2 h3=>yn ps i j _ (hs i' j' h1 h2 h3)) (λs hs=>?_) h;by_cases hg:gd m i=gd m j
 ·have:∃a,a < w/\¬g7 w m k (bg m i a) (bg m j a):=by apply XG;intro hc;exact hn (g7.Di hg λa ha=>XG λz=>hc ⟨a,ha,z⟩)
  obtain⟨a,ha,hk⟩:=this;unfold p2;rw[if_pos ((Dj ok hi hj).mpr ⟨a,ha,hs _ _ (ok.bg hi ha) (ok.bg hj ha) hk⟩)];exact jy.mpr (.inr rfl)
 ·exact yn s i j _ (hs i j hi hj λe=>hg (e [] Wd.nil (Yq _)))
theorem oq(ok:dD w m):bO w m (cE m):=by have h0:bO w m (kh (p1 m) m.length []):=uD (J:=bO w m) (λps i j hi hj h=>Hi h hi hj) ⟨by simp,(λ_ h=>nomatch h),(λ_ h=>nomatch h)⟩;exact dt (J:=bO w m) h0 λs _ _ h=>uD (J:=bO w m) (λps i j hi hj h=>Dk ok h hi hj) h
theorem As(ok:dD w m):wZ w m m.length (cE m):=by
 have key:∀n,wZ w m n ((W8 n).foldl (λps _=>kh (p2 m) m.length ps) (kh (p1 m) m.length [])):=λn=>by induction n with|zero=>exact R0|succ n ih=>rw[Ys,ZV];exact R1 ok ih
 exact key m.length
theorem B9(ok:dD w m)(hi:i < m.length)(hj:j < m.length):(i,j)∈cE m↔¬gD w m i m j:=
 ⟨λh=>(oq ok).sd _ h,λh=>As ok i j hi hj λe=>h (yk ok hi hj e)⟩
theorem Ca(ok:dD w m):(cE m).length+m.length=m.length*m.length↔Red w m:=by
 have sd:=oq ok;have sub:∀q∈cE m,q∈Aq m.length:=λq hq=>oo.mpr ⟨(sd.lt q hq).1,(sd.lt q hq).2,λe=>sd.sd q hq (e▸gD.refl)⟩;have l1:=fV sd.nd sub;have l2:=Ar m.length;constructor;·intro h s t hs ht sm;apply XG;intro fi;have:=Of sd.nd sub (by lia) (s,t) (oo.mpr ⟨hs,ht,fi⟩);exact sd.sd _ this sm
 ·intro hr;have:=fV (Kd m.length) (xs:=cE m) λq hq=>by obtain⟨h1,h2,h3⟩:=oo.mp hq;exact(B9 ok h1 h2).mpr λsm=>h3 (hr _ _ h1 h2 sm)
  lia
theorem bO.len(h:bO w m ps):ps.length<=m.length*m.length:=by
 have:=fV h.nd (xs:=Aq m.length) λq hq=>oo.mpr ⟨(h.lt q hq).1,(h.lt q hq).2,λe=>h.sd q hq (e▸gD.refl)⟩;have:=Ar m.length
 lia
end
def iJ(o:List Nat)(ss:List Nat):List Nat:=ss.foldl (λo s=>if s∈o then o else o++[s]) o
def vH(m:cX):List Nat->List Nat->Option (List Nat)
 |[],o=>Δ o|k::ks,o=>if o.length<=k then Θ else vH m ks (iJ o (row m (o.getD k 0)).2)
def TC(o:List Nat):Prop:=∃i s:Nat,o[i]?=Δ s/\s≠i
theorem uF:∀{ss o} {i s:Nat},o[i]?=Δ s->(iJ o ss)[i]?=Δ s
 |[],o,i,s,h=>h|x::ss,o,i,s,h=>by
  unfold iJ;rw[Zr];refine uF (ss:=ss) ?_;split;·exact h
  ·rw[Xg (qqz h).1];exact h
theorem Au:∀{ks o o'},TC o->vH m ks o=Δ o'->TC o'
 |[],o,o',hb,h=>by cases h;exact hb|k::ks,o,o',⟨i,s,h1,h2⟩,h=>by
  simp only[vH] at h;split at h;·cases h
  ·exact Au ⟨i,s,uF h1,h2⟩ h
theorem Kg n:¬TC (W8 n):=λ⟨i,s,h1,h2⟩=>by have hi:=(qqz h1).1;rw[YD (by simpa using hi)] at h1;injection h1 with h1;exact h2 h1.symm
theorem mW:∀{ss} {c},match gR ss c with|some d=>iJ (W8 c) ss=W8 d|none=>TC (iJ (W8 c) ss)
 |[],c=>rfl|s::ss,c=>by
  have e:iJ (W8 c) (s::ss)=if s < c then iJ (W8 c) ss else iJ (W8 c++[s]) ss:=by
   unfold iJ;rw[Zr];by_cases h:s < c;·rw[if_pos h,if_pos (by simpa using h)]
   ·rw[if_neg h,if_neg (by simpa using h)]
  rw[e];simp only[gR];by_cases h:s < c;·rw[if_pos h,if_pos h];exact mW
  ·rw[if_neg h,if_neg h];by_cases h2:s=c;·subst h2;rw[if_pos rfl,<-Ys];exact mW
   ·rw[if_neg h2];refine⟨c,s,uF ?_,h2⟩;rw[Xy (by simp)];simp
theorem Av:∀{qs} {j c},m.drop j=qs->(vH m (List.range' j qs.length) (W8 c)=Δ (W8 m.length)↔gp qs j c=Δ m.length)
 |[],j,c,h=>by
  simp only[YM,List.range'_zero,vH,gp,aao];constructor;·intro e;have:=congrArg abG e;simpa using this
  ·intro e;rw[e]
 |q::qs,j,c,h=>by
  obtain⟨h1,h2,h3⟩:=om h;rw[Xt,List.range'_succ];simp only[vH,gp,XS];by_cases hj:j < c
  ·rw[if_neg (by lia),if_pos hj];have e:(W8 c).getD j 0=j:=by rw[Xd,YD hj];rfl
   rw[e,h2];have key:=mW (ss:=q.2) (c:=c);cases hs:gR q.2 c with
   |some d=>rw[hs] at key;dsimp only at key;rw[key];exact Av h3|none=>
    rw[hs] at key;dsimp only at key;constructor;·intro z;exact absurd (Au key z) (Kg _)
    ·intro z;cases z
  ·rw[if_pos (by lia),if_neg hj];exact⟨(λz=>nomatch z),(λz=>nomatch z)⟩
theorem yo:vH m (W8 m.length) [0]=Δ (W8 m.length)↔gp m 0 1=Δ m.length:=by have:=Av (m:=m) (qs:=m) (j:=0) (c:=1) rfl;rw[<-List.range_eq_range'] at this;exact this
theorem Dl:∀{a b:List Nat},gX (a.map nD) (b.map nD)=decide (a=b)
 |[],[]=>rfl|[],_::_=>rfl|_::_,[]=>rfl|x::a,y::b=>by
  simp only[Xo,CN,nD,Gs];rw[show gX (aah nD a) (aah nD b)=decide (a=b) from Dl];rw[ZQ];simp
  lia
theorem Hj:∀a:List Nat,ke (a.map nD)=0
 |[]=>rfl|x::a=>by rw[Xo,xH,Hj a];rfl
theorem Hk(a:List Nat):aY (a.map λn=>P.d (nD n))=Δ (a.map nD):=by simp
theorem Kh{o:List Nat}(h:st[k]?=Δ (.lst (o.map λn=>P.d (nD n)))):jq .nO (.d (nD s)) (.obj k) st=Δ (!decide (s∈o)):=by
 have e1:bC st (.obj k)=Θ:=jW h;have e2:cU st (.obj k)=Δ (o.map λn=>P.d (nD n)):=fk h;have e3:(o.map nD).all qy=Λ:=by rw[Y2];intro x hx;rw[Y7] at hx;obtain⟨n,_,rfl⟩:=hx;rfl
 have e4:((o.map nD).any λy=>vB y (nD s))=decide (s∈o):=by
  rw[ZQ,Y1,qqq];constructor
  ·rintro⟨x,hx,he⟩;rw[Y7] at hx;obtain⟨n,hn,rfl⟩:=hx;simp[nD,Gs] at he;have:n=s:=by lia
   exact this▸hn
  ·intro hs;exact⟨nD s,Y7.mpr ⟨s,hs,rfl⟩,beq_self_eq_true _⟩
 show(Gv (.d (nD s)) (.obj k) st).map not=_;unfold Gv;rw[e1];simp only[Gr,X3,e2,Hk,e3,e4];rw[if_pos (by rfl)];rfl
theorem jz{α σ:Type}{enc:α->P}{f:σ->α->σ}{S:σ->aI}{I:bX->Prop}{J:σ->Prop}:∀{xs:List α},
  (∀x∈xs,∀s r,J s->I r->∃r1 r2,g (enc x) r=Δ r1/\b r1 (S s)=.ok (.nx r2) (S (f s x))/\I r2/\J (f s x))->∀{s} {r},J s->I r->∃r',forL g b (xs.map enc) r (S s)=.ok (.nx r') (S (xs.foldl f s))/\I r'/\J (xs.foldl f s)
 |[],_,s,r,hj,hi=>⟨r,rfl,hi,hj⟩|x::xs,h,s,r,hj,hi=>by obtain⟨r1,r2,e1,e2,i2,j2⟩:=h x Xh s r hj hi;obtain⟨r',e,i',j'⟩:=jz (xs:=xs) (λy hy=>h y (Xb _ hy)) j2 i2;refine⟨r',?_,i',j'⟩;rw[Xo,forL,e1,av,ae,e2,ae];exact e
def Cb(q:Nat×Nat):List (Sum Int Str):=[.inl (q.1:Int),.inl (q.2:Int)]
def bJ(ps:p5):O:=.dT (ps.map λq=>(Cb q,.d (.bl Λ)))
theorem Hl(h:Cb q=Cb p):q=p:=by unfold Cb at h;simp only[List.cons.injEq,acv.injEq,and_true] at h;exact ac3 (by lia) (by lia)
theorem w4 i j:mI (.d (.tup [nD i,nD j]))=Δ (Cb (i,j)):=rfl
theorem Aw(ps:p5)q:((ps.map λq=>(Cb q,(P.d (.bl Λ)))).any λkv=>decide (kv.1=Cb q))=decide (q∈ps):=by
 rw[ZQ,Y1,qqq];constructor;·rintro⟨x,hx,he⟩;rw[Y7] at hx;obtain⟨p,hp,rfl⟩:=hx;rw[qqq] at he;exact Hl he▸hp
 ·intro h;exact⟨_,Y7.mpr ⟨q,h,rfl⟩,by simp⟩
theorem Ax(h:st[k]?=Δ (bJ ps))(hl:ps.length < au)i j:nR (.obj k) (.d (.tup [nD i,nD j])) (.d (.bl Λ)) st=Δ (st.set k (bJ (vG ps (i,j)))):=by
 have e:zE (bJ ps) (.d (.tup [nD i,nD j])) (.d (.bl Λ))=Δ (bJ (vG ps (i,j))):=by
  unfold zE bJ CO;simp only[Xf,if_pos hl,w4,XF];congr 2;unfold lZ;rw[Aw];unfold vG;by_cases hq:(i,j)∈ps
  ·rw[if_pos (by simpa using hq),if_pos hq,Zj];refine abt λq _=>?_;simp only[Function.comp_apply];split;·rfl
   ·rfl
  ·rw[if_neg (by simpa using hq),if_neg hq,XW];rfl
 unfold nR;simp only[h,X3,e,XF]
theorem Ki(h:st[k]?=Δ (bJ ps))i j:jq .isin (.d (.tup [nD i,nD j])) (.obj k) st=Δ (decide ((i,j)∈ps)):=by
 show Gv _ _ _=_;unfold Gv;have e1:bC st (.obj k)=Δ (bJ ps):=by simp[bC,D9,h,bJ,jo]
 rw[e1];simp only[bJ,nQ,w4,XF];congr 1;unfold fj;rw[aap,<-Aw,ZQ,List.find?_isSome,Y1]
theorem Og a b:Eb (.d (wD a)) (.d (wD b))=Δ ((a.zip b).map λq=>D.tup [nD q.1,nD q.2]):=by unfold Eb wD;simp only[List.zip_map,Zj];rfl
theorem Oh(h:st[k]?=Δ (bJ ps)):oQ .len [.obj k] st=Δ (.d (.int ps.length)):=by
 have e1:bC st (.obj k)=Δ (bJ ps):=by simp[bC,D9,h,bJ,jo]
 unfold oQ;simp only[e1,bJ,Gu,Xf]
theorem Hm bF(o:O):(bF++[o])[bF.length]?=Δ o:=by simp
theorem Hn bF(o o':O):(bF++[o]).set bF.length o'=bF++[o']:=by simp
end Y
namespace Y
structure nh where
 grp:List Nat
 mem:List (List Nat)
 wait:List Nat
 iF:List Bool
noncomputable def putAll(fresh:Nat)(ss:List Nat)(g:List Nat):List Nat:=ss.foldl (λg s=>g.set s fresh) g
def aB(h:nh)(g:Nat)(ss:List Nat):nh:=
 if ss.length=(h.mem.getD g []).length then h else
  let rest:=(h.mem.getD g []).filter λs=>decide (s∉ss)
  let mem:=h.mem.set g rest++[ss]
  let grp:=putAll h.mem.length ss h.grp
  if h.iF.getD g Ξ=Λ\/ss.length<=rest.length then⟨grp,mem,h.wait++[h.mem.length],(h.iF++[Ξ]).set h.mem.length Λ⟩
  else⟨grp,mem,h.wait++[g],(h.iF++[Ξ]).set g Λ⟩
noncomputable def dH:List (Nat×List Nat)->Nat->Nat->List (Nat×List Nat)
 |[],g,s=>[(g,[s])]|(k,ss)::d,g,s=>if k=g then(k,ss++[s])::d else(k,ss)::dH d g s
def cA(grp:List Nat)(l:List Nat):List (Nat×List Nat):=l.foldl (λd s=>dH d (grp.getD s 0) s) []
def dP(m:cX)(a t:Nat):List Nat:=(W8 m.length).filter λs=>decide (bg m s a=t)
def eJ(m:cX)(h:nh)(T:List Nat)(a:Nat):nh:=(cA h.grp (T.flatMap (dP m a))).foldl (λh e=>aB h e.1 e.2) h
theorem mX:∀{ss g},(putAll fresh ss g).length=g.length
 |[],g=>rfl|s::ss,g=>by unfold putAll;rw[Zr];exact(mX (ss:=ss)).trans (YL ..)
theorem uG:∀{ss g} {x},x < g.length->(putAll fresh ss g).getD x 0=if x∈ss then fresh else g.getD x 0
 |[],g,x,h=>by simp[putAll]|s::ss,g,x,h=>by
  have ih:=uG (fresh:=fresh) (ss:=ss) (g:=g.set s fresh) (x:=x) (by simpa using h);unfold putAll at ih ⊢;rw[Zr,ih];by_cases hx:x∈ss;·rw[if_pos hx,if_pos (Xb _ hx)]
  ·rw[if_neg hx];by_cases e:x=s;·subst e;rw[if_pos Xh,Xd,XC h];rfl
   ·rw[if_neg (λz=>by rcases aai.mp z with z|z;exact e z;exact hx z),Xd,Xe (λz=>e z.symm),<-Xd]
theorem w6:∀{d} {k} {ss},(d.map (·.1)).Nodup->((k,ss)∈dH d g s↔(k≠g/\(k,ss)∈d)\/(k=g/\((∃r,(g,r)∈d/\ss=r++[s])\/((∀r,(g,r)∉d)/\ss=[s]))))
 |[],k,ss,_=>by simp only[dH,Yg,Prod.mk.injEq,Z8,and_false,false_or,not_false_eq_true,implies_true,true_and,false_and,exists_false]|(j,rs)::d,k,ss,nd=>by
  simp only[Xo,YK] at nd;have hj:∀r,(j,r)∉d:=λr hr=>nd.1 (Y7.mpr ⟨_,hr,rfl⟩);simp only[dH];split
  ·rename_i e;subst e;constructor
   ·intro h;rcases aai.mp h with h|h;·injection h with h1 h2;exact .inr ⟨h1,.inl ⟨rs,Xh,h2⟩⟩
    ·exact .inl ⟨λz=>hj ss (by rw[z] at h;exact h),Xb _ h⟩
   ·rintro(⟨h1,h2⟩|⟨h1,h2⟩)
    ·rcases aai.mp h2 with h|h;·injection h with h3 h4;exact absurd h3 h1
     ·exact Xb _ h
    ·subst h1;rcases h2 with ⟨r,hr,e⟩|⟨hn,e⟩
     ·rcases aai.mp hr with h|h;·injection h with h3 h4;rw[e,h4];exact Xh
      ·exact absurd h (hj r)
     ·exact absurd Xh (hn rs)
  ·rename_i e;have ih:=w6 (g:=g) (s:=s) (d:=d) (k:=k) (ss:=ss) nd.2;constructor
   ·intro h;rcases aai.mp h with h|h;·injection h with h1 h2;subst h1;subst h2;exact .inl ⟨e,Xh⟩
    ·rcases ih.mp h with ⟨h1,h2⟩|⟨h1,h2⟩
     ·exact .inl ⟨h1,Xb _ h2⟩
     ·refine .inr ⟨h1,?_⟩;rcases h2 with ⟨r,hr,e2⟩|⟨hn,e2⟩
      ·exact .inl ⟨r,Xb _ hr,e2⟩
      ·refine .inr ⟨λr hr=>?_,e2⟩;rcases aai.mp hr with z|z;·injection z with z1 z2;exact e z1.symm
       ·exact hn r z
   ·rintro(⟨h1,h2⟩|⟨h1,h2⟩)
    ·rcases aai.mp h2 with h|h;·rw[h];exact Xh
     ·exact Xb _ (ih.mpr (.inl ⟨h1,h⟩))
    ·refine Xb _ (ih.mpr (.inr ⟨h1,?_⟩));rcases h2 with ⟨r,hr,e2⟩|⟨hn,e2⟩
     ·rcases aai.mp hr with z|z;·injection z with z1 z2;exact absurd z1.symm e
      ·exact .inl ⟨r,z,e2⟩
     ·exact .inr ⟨λr hr=>hn r (Xb _ hr),e2⟩
theorem jX:∀{d},(dH d g s).map (·.1)=if g∈d.map (·.1) then d.map (·.1) else d.map (·.1)++[g]
 |[]=>by simp[dH]|(j,rs)::d=>by
  have ih:=jX (g:=g) (s:=s) (d:=d);simp only[dH];split;·rename_i e;subst e;simp
  ·rename_i e;rw[Xo,ih];have e':¬g=j:=λz=>e z.symm;by_cases h:g∈d.map (·.1);·rw[if_pos h,if_pos (by rw[Xo];exact Xb _ h)];rfl
   ·rw[if_neg h,if_neg (by rw[Xo];intro z;rcases aai.mp z with z|z;exact e' z;exact h z)];rfl
theorem Ho(h:(d.map (·.1)).Nodup):((dH d g s).map (·.1)).Nodup:=by
 rw[jX];split;·exact h
 ·rename_i hg;rw[X9];exact⟨h,by simp,λa ha b hb=>by simp at hb;subst hb;exact λz=>hg (z▸ha)⟩
theorem uH{grp:List Nat}:∀{l done:List Nat} {d},(d.map (·.1)).Nodup->(∀k ss,(k,ss)∈d->ss=done.filter (λs=>decide (grp.getD s 0=k))/\ss≠[])->(∀s∈done,∃ss,(grp.getD s 0,ss)∈d)->
  ((l.foldl (λd s=>dH d (grp.getD s 0) s) d).map (·.1)).Nodup/\(∀k ss,(k,ss)∈l.foldl (λd s=>dH d (grp.getD s 0) s) d->ss=(done++l).filter (λs=>decide (grp.getD s 0=k))/\ss≠[])/\(∀s∈done++l,∃ss,(grp.getD s 0,ss)∈l.foldl (λd s=>dH d (grp.getD s 0) s) d)
 |[],done,d,nd,h1,h2=>by simpa using⟨nd,h1,h2⟩|x::l,done,d,nd,h1,h2=>by
  have key:=uH (grp:=grp) (l:=l) (done:=done++[x]) (d:=dH d (grp.getD x 0) x) (Ho nd) (λk ss h=>by
   rcases(w6 nd).mp h with ⟨a,b⟩|⟨a,b⟩
   ·obtain⟨c1,c2⟩:=h1 k ss b;refine⟨?_,c2⟩;rw[aae,<-c1,X4 (by simp;exact λz=>a z.symm)];simp
   ·subst a;rcases b with ⟨r,hr,e⟩|⟨hn,e⟩
    ·obtain⟨c1,c2⟩:=h1 _ r hr;refine⟨?_,by rw[e];simp⟩;rw[aae,<-c1,XT (by simp),e];simp
    ·refine⟨?_,by rw[e];simp⟩;have:done.filter (λs=>decide (grp.getD s 0=grp.getD x 0))=[]:=by rw[Zu];intro s hs hd;obtain⟨ss,uI⟩:=h2 s hs;rw[qqq] at hd;rw[hd] at uI;exact hn ss uI
     rw[aae,this,XT (by simp),e];simp) (λs hs=>by
   have e:(grp.getD x 0)∈(dH d (grp.getD x 0) x).map (·.1):=by
    rw[jX];split;·assumption
    ·simp
   have ex:∀k,k∈d.map (·.1)\/k=grp.getD x 0->∃ss,(k,ss)∈dH d (grp.getD x 0) x:=λk hk=>by
    have:k∈(dH d (grp.getD x 0) x).map (·.1):=by
     rcases hk with hk|hk
     ·rw[jX];split;·exact hk
      ·exact Yw _ hk
     ·rw[hk];exact e
    obtain⟨p,hp,e2⟩:=Y7.mp this;exact⟨p.2,by rw[<-e2];exact hp⟩
   rcases Zq.mp hs with z|z;·obtain⟨ss,uI⟩:=h2 s z;exact ex _ (.inl (Y7.mpr ⟨_,uI,rfl⟩))
   ·rw[Yg] at z;subst z;exact ex _ (.inr rfl))
  rw[X7] at key;exact key
theorem eA grp l:((cA grp l).map (·.1)).Nodup/\(∀k ss,(k,ss)∈cA grp l->ss=l.filter (λs=>decide (grp.getD s 0=k))/\ss≠[])/\∀s∈l,∃ss,(grp.getD s 0,ss)∈cA grp l:=by have:=uH (grp:=grp) (l:=l) (done:=[]) (d:=[]) (by simp) (λ_ _ h=>by cases h) (λ_ h=>by cases h);simpa[cA] using this
section
abbrev nh.cF(h:nh)(s:Nat):Nat:=h.grp.getD s 0
structure jY(w:Nat)(m:cX)(T:List Nat)(R:Nat->Prop)(h:nh):Prop where
 rn:h.grp.length=m.length
 mY:h.iF.length=h.mem.length
 blt:∀s,s < m.length->h.cF s < h.mem.length
 mem:∀g,g < h.mem.length->(h.mem.getD g []).Nodup/\∀s,s∈h.mem.getD g []↔s < m.length/\h.cF s=g
 Lq:h.wait.Nodup
 wt:∀g,g∈h.wait↔g < h.mem.length/\h.iF.getD g Ξ=Λ
 snd:∀s t,s < m.length->t < m.length->h.cF s≠h.cF t->¬gD w m s m t
 good:∀s t,s < m.length->t < m.length->h.cF s=h.cF t->gd m s=gd m t
 sep:∀s t a,s < m.length->t < m.length->a < w->h.cF s=h.cF t->h.cF (bg m s a)≠h.cF (bg m t a)->h.cF (bg m s a)∈h.wait\/h.cF (bg m t a)∈h.wait\/(R a/\¬(bg m s a∈T↔bg m t a∈T))
def kX(m:cX)(h h':nh):Prop:=∀s t,s < m.length->t < m.length->h'.cF s=h'.cF t->h.cF s=h.cF t
theorem kX.refl:kX m h h:=λ_ _ _ _ e=>e
theorem kX.trans(a:kX m h h1)(b:kX m h1 h2):kX m h h2:=λs t hs ht e=>a s t hs ht (b s t hs ht e)
theorem iz{α:Type}{l r:List α}{d:α}(h:i < l.length):(l++r).getD i d=l.getD i d:=by rw[Xd,Xd,Xg h]
theorem iV{α:Type}{l:List α}{x d:α}:(l++[x]).getD l.length d=x:=by rw[Xd];simp
theorem fb{α:Type}{l:List α}{x d:α}(h:i < l.length):(l.set i x).getD i d=x:=by rw[Xd,XC h];rfl
theorem dI{α:Type}{l:List α}{x d:α}(h:i≠j):(l.set i x).getD j d=l.getD j d:=by rw[Xd,Xe h,<-Xd]
variable{w:Nat}{m:cX}{T:List Nat}{R:Nat->Prop}{h:nh}
theorem sub_len{ss xs:List Nat}(hn:ss.Nodup)(hs:∀s∈ss,s∈xs):ss.length<=xs.length:=by
 induction ss generalizing xs with
 |nil=>simp|cons s ss ih=>
  rw[YK] at hn;have h1:s∈xs:=hs s Xh;have:=ih (xs:=xs.erase s) hn.2 λt ht=>by have:t≠s:=λz=>hn.1 (z▸ht);exact(aat this).mpr (hs t (Xb _ ht))
  rw[Z3 h1] at this;have:=Y8 h1;simp
  lia
theorem Kj{ss xs:List Nat}(hn:ss.Nodup)(hx:xs.Nodup)(hs:∀s∈ss,s∈xs)(hl:ss.length=xs.length):∀x∈xs,x∈ss:=by
 intro x Kb;apply XG;intro hc;have:=sub_len (ss:=ss) (xs:=xs.erase x) hn λt ht=>by have:t≠x:=λz=>hc (z▸ht);exact(aat this).mpr (hs t ht)
 rw[Z3 Kb] at this;have:=Y8 Kb
 lia
theorem yp(hi:jY w m T R h)(hc:ss.length≠(h.mem.getD g []).length)(hx:x < m.length):(aB h g ss).cF x=if x∈ss then h.mem.length else h.cF x:=by
 have e:(aB h g ss).grp=putAll h.mem.length ss h.grp:=by unfold aB;rw[if_neg hc];dsimp only;split<;>rfl
 show(aB h g ss).grp.getD x 0=_;rw[e];exact uG (by rw[hi.rn];exact hx)
theorem ot(hc:ss.length≠(h.mem.getD g []).length):(aB h g ss).mem=h.mem.set g ((h.mem.getD g []).filter λs=>decide (s∉ss))++[ss]:=by unfold aB;rw[if_neg hc];dsimp only;split<;>rfl
def kY(h:nh)(g:Nat)(ss:List Nat):Nat:=if h.iF.getD g Ξ=Λ\/ss.length<=((h.mem.getD g []).filter λs=>decide (s∉ss)).length then h.mem.length else g
theorem vI(hc:ss.length≠(h.mem.getD g []).length):(aB h g ss).wait=h.wait++[kY h g ss]/\(aB h g ss).iF=(h.iF++[Ξ]).set (kY h g ss) Λ:=by unfold aB kY;rw[if_neg hc];dsimp only;split<;>exact⟨rfl,rfl⟩
theorem ou(hi:jY w m T R h)(hg:g < h.mem.length)(ha:a < w)(uI:∀s,s∈ss↔s∈h.mem.getD g []/\bg m s a∈T)(Eu:ss.Nodup)(fi:ss≠[])(hT:∀x y,x < m.length->y < m.length->x∈T->y∉T->¬gD w m x m y)(ok:dD w m):
  jY w m T R (aB h g ss)/\kX m h (aB h g ss)/\(∀s t,s < m.length->t < m.length->h.cF s=g->h.cF t=g->(aB h g ss).cF s=(aB h g ss).cF t->(bg m s a∈T↔bg m t a∈T))/\
   (∀s,s < m.length->h.cF s≠g->(aB h g ss).cF s=h.cF s)/\(∀k,k < h.mem.length->k≠g->(aB h g ss).mem.getD k []=h.mem.getD k [])/\h.mem.length<=(aB h g ss).mem.length/\
   (aB h g ss).wait.length+h.mem.length=h.wait.length+(aB h g ss).mem.length:=by
 obtain⟨gn,gm⟩:=hi.mem g hg;have sub:∀s∈ss,s∈h.mem.getD g []:=λs hs=>((uI s).mp hs).1;by_cases hc:ss.length=(h.mem.getD g []).length
 ·have e:aB h g ss=h:=by unfold aB;rw[if_pos hc]
  rw[e];refine⟨hi,kX.refl,λs t hs ht es et _=>?_,λ_ _ _=>rfl,λ_ _ _=>rfl,Xj _,rfl⟩;have all:=Kj Eu gn sub hc;exact⟨λ_=>((uI t).mp (all t ((gm t).mpr ⟨ht,et⟩))).2,λ_=>((uI s).mp (all s ((gm s).mpr ⟨hs,es⟩))).2⟩
 ·have B:=λ{x:Nat} (hx:x < m.length)=>yp hi hc hx (g:=g);have M:=ot (h:=h) hc;obtain⟨Wt,Ws⟩:=vI (h:=h) hc;have ml:(aB h g ss).mem.length=h.mem.length+1:=by rw[M];simp
  have Kk:∀x,x∈ss->x < m.length/\h.cF x=g:=λx hx=>(gm x).mp (sub x hx);have nx:kY h g ss=h.mem.length\/(kY h g ss=g/\h.iF.getD g Ξ=Ξ):=by
   unfold kY;split;·exact .inl rfl
   ·rename_i q;refine .inr ⟨rfl,?_⟩;cases z:h.iF.getD g Ξ with|false=>rfl|true=>exact absurd (.inl z) q
  have same:∀s t,s < m.length->t < m.length->(aB h g ss).cF s=(aB h g ss).cF t->h.cF s=h.cF t/\(s∈ss↔t∈ss):=λs t hs ht e=>by
   rw[B hs,B ht] at e;have b1:=hi.blt s hs;have b2:=hi.blt t ht;by_cases z1:s∈ss<;>by_cases z2:t∈ss;·exact⟨(Kk s z1).2.trans (Kk t z2).2.symm,by simp[z1,z2]⟩
   ·rw[if_pos z1,if_neg z2] at e;lia
   ·rw[if_neg z1,if_pos z2] at e;lia
   ·rw[if_neg z1,if_neg z2] at e;exact⟨e,by simp[z1,z2]⟩
  refine⟨⟨?_,?_,?_,?_,?_,?_,?_,?_,?_⟩,λs t hs ht e=>(same s t hs ht e).1,?_,?_,?_,by lia,?_⟩
  ·have:(aB h g ss).grp=putAll h.mem.length ss h.grp:=by unfold aB;rw[if_neg hc];dsimp only;split<;>rfl
   rw[this,mX,hi.rn]
  ·rw[ml,Ws];simp[hi.mY]
  ·intro s hs;rw[B hs,ml];have:=hi.blt s hs;split<;>lia
  ·intro k hk;rw[ml] at hk;rw[M];by_cases e1:k=h.mem.length
   ·subst e1;have e2:(h.mem.set g ((h.mem.getD g []).filter λs=>decide (s∉ss))++[ss]).getD h.mem.length []=ss:=by have:=iV (l:=h.mem.set g ((h.mem.getD g []).filter λs=>decide (s∉ss))) (x:=ss) (d:=[]);rw[YL] at this;exact this
    rw[e2];refine⟨Eu,λs=>⟨λhs=>⟨(Kk s hs).1,by rw[B (Kk s hs).1,if_pos hs]⟩,λ⟨hs,e⟩=>?_⟩⟩;rw[B hs] at e;by_cases z:s∈ss;·exact z
    ·rw[if_neg z] at e;have:=hi.blt s hs;lia
   ·have wb:k < h.mem.length:=by lia
    rw[iz (by simpa using wb)];by_cases e2:k=g
    ·subst e2;rw[fb wb];refine⟨gn.filter _,λs=>?_⟩;rw[Yt,gm,qqq];constructor;·rintro⟨⟨hs,e⟩,hn⟩;exact⟨hs,by rw[B hs,if_neg hn];exact e⟩
     ·rintro⟨hs,e⟩;rw[B hs] at e;by_cases z:s∈ss;·rw[if_pos z] at e;lia
      ·rw[if_neg z] at e;exact⟨⟨hs,e⟩,z⟩
    ·rw[dI (λz=>e2 z.symm)];obtain⟨q1,q2⟩:=hi.mem k wb;refine⟨q1,λs=>?_⟩;rw[q2];constructor
     ·rintro⟨hs,e⟩;refine⟨hs,?_⟩;rw[B hs];split;·rename_i z;exact absurd (e.symm.trans (Kk s z).2) e2
      ·exact e
     ·rintro⟨hs,e⟩;refine⟨hs,?_⟩;rw[B hs] at e;split at e
      ·lia
      ·exact e
  ·rw[Wt,X9];refine⟨hi.Lq,by simp,λx hx y hy=>?_⟩;rw[Yg] at hy;subst hy;intro z;subst z;obtain⟨p,q⟩:=(hi.wt _).mp hx;rcases nx with e|⟨e,f⟩
   ·lia
   ·rw[e,f] at q;cases q
  ·intro k;rw[Wt,Ws,ml,Zq,Yg];by_cases e:k=kY h g ss
   ·subst e;have l1:kY h g ss < (h.iF++[Ξ]).length:=by rw[Xz,hi.mY];rcases nx with e|⟨e,_⟩<;>simp<;>lia
    rw[fb l1];refine⟨λ_=>⟨?_,rfl⟩,λ_=>.inr rfl⟩;rcases nx with e|⟨e,_⟩<;>lia
   ·rw[dI (λz=>e z.symm)];constructor
    ·rintro(hk|hk);·obtain⟨p,q⟩:=(hi.wt k).mp hk;exact⟨by lia,by rw[iz (by rw[hi.mY];exact p)];exact q⟩
     ·exact absurd hk e
    ·rintro⟨p,q⟩;by_cases z:k=h.mem.length
     ·subst z;have:(h.iF++[Ξ]).getD h.mem.length Ξ=Ξ:=by rw[<-hi.mY];exact iV
      rw[this] at q;cases q
     ·rw[iz (by rw[hi.mY];lia)] at q;exact .inl ((hi.wt k).mpr ⟨by lia,q⟩)
  ·intro s t hs ht hb;by_cases e:h.cF s=h.cF t
   ·rw[B hs,B ht] at hb;have go:∀x y,x < m.length->y < m.length->x∈ss->y∉ss->h.cF x=h.cF y->¬gD w m x m y:=λx y hx hy z1 z2 e sm=>by have e1:y∈h.mem.getD g []:=(gm y).mpr ⟨hy,e▸(Kk x z1).2⟩;have e2:bg m y a∉T:=λz=>z2 ((uI y).mpr ⟨e1,z⟩);exact hT _ _ (ok.bg hx ha) (ok.bg hy ha) ((uI x).mp z1).2 e2 (sm.step ha)
    by_cases z1:s∈ss<;>by_cases z2:t∈ss;·simp[z1,z2] at hb
    ·exact go s t hs ht z1 z2 e
    ·exact λsm=>go t s ht hs z2 z1 e.symm sm.symm
    ·rw[if_neg z1,if_neg z2] at hb;exact absurd e hb
   ·exact hi.snd s t hs ht e
  ·intro s t hs ht e;exact hi.good s t hs ht (same s t hs ht e).1
  ·intro s t b hs ht hb e Kl;have p1:=ok.bg hs hb;have p2:=ok.bg ht hb;have e0:=(same s t hs ht e).1;rw[Wt];by_cases c:h.cF (bg m s b)=h.cF (bg m t b)
   ·
    rw[B p1,B p2] at Kl ⊢;have go:∀x y,x∈ss->y∉ss->h.cF x=h.cF y->h.cF y=g:=λx y z1 z2 e=>e▸(Kk x z1).2;by_cases z1:bg m s b∈ss<;>by_cases z2:bg m t b∈ss;·simp[z1,z2] at Kl
    ·rw[if_pos z1,if_neg z2,go _ _ z1 z2 c];rcases nx with q|⟨q,_⟩;·exact .inl (by rw[q];simp)
     ·exact .inr (.inl (by rw[q];simp))
    ·rw[if_neg z1,if_pos z2,go _ _ z2 z1 c.symm];rcases nx with q|⟨q,_⟩;·exact .inr (.inl (by rw[q];simp))
     ·exact .inl (by rw[q];simp)
    ·rw[if_neg z1,if_neg z2] at Kl;exact absurd c Kl
   ·
    have keep:∀x,x < m.length->h.cF x∈h.wait->(aB h g ss).cF x∈h.wait++[kY h g ss]:=λx hx hw=>by
     rw[B hx];split
     ·rename_i z;have e1:=(Kk x z).2;rw[e1] at hw;have:kY h g ss=h.mem.length:=by unfold kY;rw[if_pos (.inl ((hi.wt g).mp hw).2)]
      rw[this];simp
     ·exact Yw _ hw
    rcases hi.sep s t b hs ht hb e0 c with q|q|q;·exact .inl (keep _ p1 q)
    ·exact .inr (.inl (keep _ p2 q))
    ·exact .inr (.inr q)
  ·intro s t hs ht es et e;have e2:=(same s t hs ht e).2;have i1:s∈ss↔bg m s a∈T:=by rw[uI];exact⟨λz=>z.2,λz=>⟨(gm s).mpr ⟨hs,es⟩,z⟩⟩
   have i2:t∈ss↔bg m t a∈T:=by rw[uI];exact⟨λz=>z.2,λz=>⟨(gm t).mpr ⟨ht,et⟩,z⟩⟩
   rw[<-i1,<-i2];exact e2
  ·intro s hs hn;rw[B hs,if_neg λz=>hn (Kk s z).2]
  ·intro k hk hn;rw[M,iz (by simpa using hk),dI λz=>hn z.symm]
  ·rw[Wt,ml];simp;lia
end
section
variable{w:Nat}{m:cX}{T:List Nat}{R:Nat->Prop}{h h0:nh}
def vJ(h:nh):Prop:=∀g,2<=g->g < h.mem.length->h.mem.getD g []≠[]
theorem qL(hi:jY w m T R h)(hn:vJ h)(hg:g < h.mem.length)(uI:∀s∈ss,s∈h.mem.getD g [])(Eu:ss.Nodup)(fi:ss≠[]):vJ (aB h g ss):=by
 obtain⟨gn,gm⟩:=hi.mem g hg;by_cases hc:ss.length=(h.mem.getD g []).length
 ·have e:aB h g ss=h:=by unfold aB;rw[if_pos hc]
  rw[e];exact hn
 ·have M:=ot (h:=h) hc;have ml:(aB h g ss).mem.length=h.mem.length+1:=by rw[M];simp
  intro k vp hk;rw[ml] at hk;rw[M];by_cases e1:k=h.mem.length
  ·subst e1;have e2:(h.mem.set g ((h.mem.getD g []).filter λs=>decide (s∉ss))++[ss]).getD h.mem.length []=ss:=by have:=iV (l:=h.mem.set g ((h.mem.getD g []).filter λs=>decide (s∉ss))) (x:=ss) (d:=[]);rw[YL] at this;exact this
   rw[e2];exact fi
  ·have wb:k < h.mem.length:=by lia
   rw[iz (by simpa using wb)];by_cases e2:k=g
   ·subst e2;rw[fb wb];intro z;rw[Zu] at z;have:∀x∈h.mem.getD k [],x∈ss:=λx hx=>by have:=z x hx;simpa using this
    have l1:=sub_len gn this;have l2:=sub_len Eu uI
    lia
   ·rw[dI (λz=>e2 z.symm)];exact hn k vp wb
theorem vJ.bound(hi:jY w m T R h)(hn:vJ h):h.mem.length<=m.length+2:=by
 have key:=sub_len (ss:=(W8 (h.mem.length - 2)).map λg=>(h.mem.getD (g+2) []).headD 0) (xs:=W8 m.length) ?_ ?_;·simp at key;lia
 ·rw[List.nodup_iff_pairwise_ne,List.pairwise_map];refine List.Pairwise.imp_of_mem ?_ (Zh);intro a b ha hb MW e;simp only[Yl] at ha hb;have hd:∀g,g < h.mem.length - 2->(h.mem.getD (g+2) []).headD 0∈h.mem.getD (g+2) []:=λg hg=>by have:=hn (g+2) (by lia) (by lia);cases q:h.mem.getD (g+2) [] with|nil=>exact absurd q this|cons x r=>simp
  have m1:=((hi.mem (a+2) (by lia)).2 _).mp (hd a ha);have m2:=((hi.mem (b+2) (by lia)).2 _).mp (hd b hb);rw[e] at m1;have:=m1.2.symm.trans m2.2
  lia
 ·intro s hs;rw[Y7] at hs;obtain⟨g,hg,e⟩:=hs;rw[Yl] at hg;have:=hn (g+2) (by lia) (by lia);cases q:h.mem.getD (g+2) [] with|nil=>exact absurd q this|cons x r=>rw[q] at e;have m1:=((hi.mem (g+2) (by lia)).2 x).mp (by rw[q];simp);simp at e;rw[<-e,Yl];exact m1.1
theorem Ay(ok:dD w m)(ha:a < w)(hT:∀x y,x < m.length->y < m.length->x∈T->y∉T->¬gD w m x m y):∀{es:List (Nat×List Nat)} {h} {Dn:Nat->Prop},jY w m T R h->vJ h->kX m h0 h->(es.map (·.1)).Nodup->
  (∀k ss,(k,ss)∈es->k < h.mem.length/\(∀s,s < m.length->(h.cF s=k↔h0.cF s=k))/\(∀s,s∈ss↔s∈h.mem.getD k []/\bg m s a∈T)/\ss.Nodup/\ss≠[])->
  (∀s t,s < m.length->t < m.length->h.cF s=h.cF t->Dn (h0.cF s)->(bg m s a∈T↔bg m t a∈T))->
  jY w m T R (es.foldl (λh e=>aB h e.1 e.2) h)/\vJ (es.foldl (λh e=>aB h e.1 e.2) h)/\kX m h0 (es.foldl (λh e=>aB h e.1 e.2) h)/\
  (∀s t,s < m.length->t < m.length->(es.foldl (λh e=>aB h e.1 e.2) h).cF s=(es.foldl (λh e=>aB h e.1 e.2) h).cF t->(Dn (h0.cF s)\/h0.cF s∈es.map (·.1))->(bg m s a∈T↔bg m t a∈T))/\
  (es.foldl (λh e=>aB h e.1 e.2) h).wait.length+h.mem.length=h.wait.length+(es.foldl (λh e=>aB h e.1 e.2) h).mem.length/\h.mem.length<=(es.foldl (λh e=>aB h e.1 e.2) h).mem.length
 |[],h,Dn,hi,hn,hf,_,_,hd=>⟨hi,hn,hf,λs t hs ht e d=>hd s t hs ht e (by rcases d with d|d;exact d;simp at d),rfl,Xj _⟩|(k,ss)::es,h,Dn,hi,hn,hf,nd,hes,hd=>by
  obtain⟨k1,k2,k3,k4,k5⟩:=hes k ss Xh;obtain⟨i1,i2,i3,i4,i5,i6,i7⟩:=ou hi k1 ha k3 k4 k5 hT ok;have n1:=qL hi hn k1 (λs hs=>((k3 s).mp hs).1) k4 k5;rw[Xo,YK] at nd;obtain⟨f1,f2,f3,f4,f5,f6⟩:=Ay ok ha hT (h:=aB h k ss) (Dn:=λj=>Dn j\/j=k) i1 n1 (hf.trans i2) nd.2 (λj rs hj=>by
   obtain⟨j1,j2,j3,j4,j5⟩:=hes j rs (Xb _ hj);have hjk:j≠k:=λz=>nd.1 (Y7.mpr ⟨_,hj,z⟩);refine⟨by lia,λs hs=>?_,λs=>by rw[j3,i5 j j1 hjk],j4,j5⟩;rw[<-j2 s hs];have q1:=(i1.mem j (by lia)).2 s;have q2:=(hi.mem j j1).2 s;rw[i5 j j1 hjk,q2] at q1;exact⟨λz=>(q1.mpr ⟨hs,z⟩).2,λz=>(q1.mp ⟨hs,z⟩).2⟩) (λs t hs ht e d=>by
   rcases d with d|d;·exact hd s t hs ht (i2 s t hs ht e) d
   ·have e1:h.cF s=k:=(k2 s hs).mpr d;have e2:h.cF t=k:=(i2 s t hs ht e)▸e1;exact i3 s t hs ht e1 e2 e)
  refine⟨f1,f2,f3,λs t hs ht e d=>f4 s t hs ht e ?_,?_,by rw[Zr];dsimp only;lia⟩
  ·rcases d with d|d;·exact .inl (.inl d)
   ·rw[Xo] at d;rcases aai.mp d with d|d;·exact .inl (.inr d)
    ·exact .inr d
  ·rw[Zr];dsimp only
   lia
theorem kZ:s∈dP m a t↔s < m.length/\bg m s a=t:=by unfold dP;rw[Yt,Yl,qqq]
theorem ow:s∈T.flatMap (dP m a)↔s < m.length/\bg m s a∈T:=by
 rw[abe];constructor;·rintro⟨t,ht,hs⟩;obtain⟨p,q⟩:=kZ.mp hs;exact⟨p,q▸ht⟩
 ·rintro⟨p,q⟩;exact⟨_,q,kZ.mpr ⟨p,rfl⟩⟩
theorem si:∀{T:List Nat},T.Nodup->(T.flatMap (dP m a)).Nodup
 |[],_=>by simp|t::T,hn=>by rw[YK] at hn;rw[aaq,X9];refine⟨(Zh).filter _,si hn.2,λx hx y hy=>?_⟩;rintro rfl;have e1:=(kZ.mp hx).2;have e2:=(ow.mp hy).2;rw[e1] at e2;exact hn.1 e2
theorem qM(ok:dD w m)(ha:a < w)(hT:∀x y,x < m.length->y < m.length->x∈T->y∉T->¬gD w m x m y)(Km:T.Nodup)(hi:jY w m T R h)(hn:vJ h):
  jY w m T (λb=>R b/\b≠a) (eJ m h T a)/\vJ (eJ m h T a)/\(eJ m h T a).wait.length+h.mem.length=h.wait.length+(eJ m h T a).mem.length/\h.mem.length<=(eJ m h T a).mem.length:=by
 obtain⟨s1,s2,s3⟩:=eA h.grp (T.flatMap (dP m a));have L:=λs=>ow (m:=m) (T:=T) (a:=a) (s:=s);have Ln:=si (m:=m) (a:=a) Km;have key:=Ay (h0:=h) (Dn:=λ_=>False) ok ha hT hi hn kX.refl s1 (λk ss hk=>by
  obtain⟨e,fi⟩:=s2 k ss hk;have vp:k < h.mem.length:=by
   cases q:ss with
   |nil=>exact absurd q fi|cons x r=>
    have hx:x∈ss:=by rw[q];simp
    rw[e,Yt,qqq] at hx;rw[<-hx.2];exact hi.blt x ((L x).mp hx.1).1
  refine⟨vp,λ_ _=>Iff.rfl,λs=>?_,by rw[e];exact Ln.filter _,fi⟩;rw[e,Yt,qqq,L,(hi.mem k vp).2];constructor;·rintro⟨⟨p,q⟩,r⟩;exact⟨⟨p,r⟩,q⟩
  ·rintro⟨⟨p,r⟩,q⟩;exact⟨⟨p,q⟩,r⟩) (λ_ _ _ _ _ d=>d.elim)
 obtain⟨f1,f2,f3,f4,f5,f6⟩:=key;refine⟨⟨f1.rn,f1.mY,f1.blt,f1.mem,f1.Lq,f1.wt,f1.snd,f1.good,λs t b hs ht hb e fi=>?_⟩,f2,f5,f6⟩;rcases f1.sep s t b hs ht hb e fi with q|q|⟨q1,q2⟩;·exact .inl q
 ·exact .inr (.inl q)
 ·refine .inr (.inr ⟨⟨q1,λz=>q2 ?_⟩,q2⟩);subst z;by_cases c:h.cF s∈(cA h.grp (T.flatMap (dP m b))).map (·.1);·exact f4 s t hs ht e (.inr c)
  ·have e0:h.cF s=h.cF t:=f3 s t hs ht e;have no:∀x,x < m.length->h.cF x=h.cF s->bg m x b∉T:=λx hx ex hc=>by obtain⟨ss,uI⟩:=s3 x ((L x).mpr ⟨hx,hc⟩);exact c (Y7.mpr ⟨_,uI,ex⟩)
   exact⟨λz=>absurd z (no s hs rfl),λz=>absurd z (no t ht e0.symm)⟩
def k7(h:nh)(g:Nat):nh:=⟨h.grp,h.mem,h.wait.dropLast,h.iF.set g Ξ⟩
def eK(m:cX)(T:List Nat)(as:List Nat)(h:nh):nh:=as.foldl (λh a=>eJ m h T a) h
def ox(m:cX)(w:Nat)(h:nh):nh:=eK m (h.mem.getD (h.wait.getLast?.getD 0) []) (W8 w) (k7 h (h.wait.getLast?.getD 0))
def settle(m:cX)(w:Nat):Nat->nh->nh
 |0,h=>h|n+1,h=>if h.wait=[] then h else settle m w n (ox m w h)
def uJ(w:Nat)(m:cX)(h:nh):Prop:=jY w m [] (λ_=>False) h/\vJ h
theorem Az(ok:dD w m)(hT:∀x y,x < m.length->y < m.length->x∈T->y∉T->¬gD w m x m y)(Km:T.Nodup):∀{as} {R} {h},(∀a∈as,a < w)->jY w m T R h->vJ h->
  jY w m T (λb=>R b/\b∉as) (eK m T as h)/\vJ (eK m T as h)/\(eK m T as h).wait.length+h.mem.length=h.wait.length+(eK m T as h).mem.length/\h.mem.length<=(eK m T as h).mem.length
 |[],R,h,_,hi,hn=>⟨⟨hi.rn,hi.mY,hi.blt,hi.mem,hi.Lq,hi.wt,hi.snd,hi.good,λs t b hs ht hb e fi=>by
   rcases hi.sep s t b hs ht hb e fi with q|q|⟨q1,q2⟩;·exact .inl q
   ·exact .inr (.inl q)
   ·exact .inr (.inr ⟨⟨q1,by simp⟩,q2⟩)⟩,hn,rfl,Xj _⟩
 |a::as,R,h,hw,hi,hn=>by
  obtain⟨i1,i2,i3,i4⟩:=qM ok (hw a Xh) hT Km hi hn;obtain⟨j1,j2,j3,j4⟩:=Az ok hT Km (as:=as) (λb hb=>hw b (Xb _ hb)) i1 i2;refine⟨⟨j1.rn,j1.mY,j1.blt,j1.mem,j1.Lq,j1.wt,j1.snd,j1.good,λs t b hs ht hb e fi=>?_⟩,j2,?_,?_⟩
  ·rcases j1.sep s t b hs ht hb e fi with q|q|⟨⟨⟨q1,q3⟩,q4⟩,q2⟩;·exact .inl q
   ·exact .inr (.inl q)
   ·exact .inr (.inr ⟨⟨q1,λz=>by rcases aai.mp z with z|z;exact q3 z;exact q4 z⟩,q2⟩)
  ·show(eK m T as (eJ m h T a)).wait.length+_=_+(eK m T as (eJ m h T a)).mem.length
   lia
  ·show _<=(eK m T as (eJ m h T a)).mem.length
   lia
theorem AA(ok:dD w m)(hc:uJ w m h)(hw:h.wait≠[]):uJ w m (ox m w h)/\(ox m w h).wait.length+h.mem.length+1=h.wait.length+(ox m w h).mem.length/\h.mem.length<=(ox m w h).mem.length:=by
 obtain⟨hi,hn⟩:=hc;obtain⟨g,hg⟩:∃g,h.wait.getLast?=Δ g:=by cases q:h.wait.getLast? with|none=>rw[List.getLast?_eq_none_iff] at q;exact absurd q hw|some g=>exact⟨g,rfl⟩
 have eg:h.wait.getLast?.getD 0=g:=by rw[hg];rfl
 have ew:h.wait=h.wait.dropLast++[g]:=by rw[List.getLast?_eq_some_iff] at hg;obtain⟨ys,e⟩:=hg;rw[e];simp
 have gm:g∈h.wait:=by rw[ew];simp
 obtain⟨g1,g2⟩:=(hi.wt g).mp gm;obtain⟨T1,T2⟩:=hi.mem g g1;have nd:(h.wait.dropLast++[g]).Nodup:=by rw[<-ew];exact hi.Lq
 rw[X9] at nd;have Oi:g∉h.wait.dropLast:=λz=>nd.2.2 g z g (by simp) rfl;have Oj:∀k,k∈h.wait->k≠g->k∈h.wait.dropLast:=λk hk WB=>by
  rw[ew,Zq,Yg] at hk;rcases hk with z|z;·exact z
  ·exact absurd z WB
 have hT:∀x y,x < m.length->y < m.length->x∈h.mem.getD g []->y∉h.mem.getD g []->¬gD w m x m y:=λx y hx hy z1 z2=>by refine hi.snd x y hx hy λe=>z2 ((T2 y).mpr ⟨hy,?_⟩);rw[<-e];exact((T2 x).mp z1).2
 have ip:jY w m (h.mem.getD g []) (λa=>a < w) (k7 h g):=by
  refine⟨hi.rn,by unfold k7;simp[hi.mY],hi.blt,hi.mem,nd.1,λk=>?_,hi.snd,hi.good,λs t b hs ht hb e fi=>?_⟩
  ·unfold k7;dsimp only;by_cases e:k=g;·subst e;refine⟨λz=>absurd z Oi,λ⟨_,z⟩=>?_⟩;rw[fb (by rw[hi.mY];exact g1)] at z;cases z
   ·rw[dI λz=>e z.symm];constructor;·intro z;exact(hi.wt k).mp (by rw[ew];exact Yw _ z)
    ·intro z;exact Oj k ((hi.wt k).mpr z) e
  ·have e':h.cF s=h.cF t:=e;have xx:h.cF (bg m s b)≠h.cF (bg m t b):=fi;have p1:=ok.bg hs hb;have p2:=ok.bg ht hb;have i1:bg m s b∈h.mem.getD g []↔h.cF (bg m s b)=g:=by rw[T2];exact⟨λz=>z.2,λz=>⟨p1,z⟩⟩
   have i2:bg m t b∈h.mem.getD g []↔h.cF (bg m t b)=g:=by rw[T2];exact⟨λz=>z.2,λz=>⟨p2,z⟩⟩
   show h.cF (bg m s b)∈h.wait.dropLast\/h.cF (bg m t b)∈h.wait.dropLast\/_;by_cases c1:h.cF (bg m s b)=g;·refine .inr (.inr ⟨hb,λz=>?_⟩);rw[i1,i2] at z;exact xx (c1.trans (z.mp c1).symm)
   ·by_cases c2:h.cF (bg m t b)=g;·refine .inr (.inr ⟨hb,λz=>?_⟩);rw[i1,i2] at z;exact c1 (z.mpr c2)
    ·rcases hi.sep s t b hs ht hb e' xx with q|q|⟨q,_⟩;·exact .inl (Oj _ q c1)
     ·exact .inr (.inl (Oj _ q c2))
     ·exact q.elim
 have wl:(k7 h g).wait.length+1=h.wait.length:=by
  unfold k7;have:=congrArg abG ew;simp at this;dsimp only;rw[List.length_dropLast];have:=Y8 gm
  lia
 obtain⟨j1,j2,j3,j4⟩:=Az ok hT T1 (as:=W8 w) (λa ha=>by simpa using ha) ip (show vJ (k7 h g) from hn);unfold ox;rw[eg];refine⟨⟨⟨j1.rn,j1.mY,j1.blt,j1.mem,j1.Lq,j1.wt,j1.snd,j1.good,λs t b hs ht hb e fi=>?_⟩,j2⟩,?_,j4⟩
 ·rcases j1.sep s t b hs ht hb e fi with q|q|⟨⟨q1,q3⟩,q2⟩;·exact .inl q
  ·exact .inr (.inl q)
  ·exact absurd (by simpa using hb) q3
 ·have:(k7 h g).mem.length=h.mem.length:=rfl
  lia
theorem Hq{a b c d m j:Nat}(h:a+(m+2 - b)<=j+1)(h1:c+b+1=a+d)(h2:d<=m+2):c+(m+2 - d)<=j:=by lia
theorem uK(ok:dD w m):∀{n} {h},uJ w m h->h.wait.length+(m.length+2 - h.mem.length)<=n->uJ w m (settle m w n h)/\(settle m w n h).wait=[]
 |0,h,hc,hl=>by
  have:h.wait=[]:=by cases q:h.wait with|nil=>rfl|cons x r=>rw[q] at hl;simp at hl
  exact⟨hc,this⟩
 |n+1,h,hc,hl=>by
  unfold Y.settle;by_cases hw:h.wait=[];·rw[if_pos hw];exact⟨hc,hw⟩
  ·rw[if_neg hw];obtain⟨c1,c2,c3⟩:=AA ok hc hw;have b1:=vJ.bound c1.1 c1.2;exact uK ok c1 (Hq hl c2 b1)
theorem AB(ok:dD w m)(hc:uJ w m h)(hw:h.wait=[])(hs:s < m.length)(ht:t < m.length):h.cF s=h.cF t↔gD w m s m t:=by
 constructor
 ·intro e u;induction u generalizing s t with
  |nil=>intro _;exact hc.1.good s t hs ht e|cons a u ih=>
   intro hu;have ha:=hu.head;refine ih (ok.bg hs ha) (ok.bg ht ha) ?_ hu.tail;apply XG;intro fi;rcases hc.1.sep s t a hs ht ha e fi with q|q|⟨q,_⟩;·rw[hw] at q;cases q
   ·rw[hw] at q;cases q
   ·exact q
 ·intro WC;apply XG;intro fi;exact hc.1.snd s t hs ht fi WC
def je(m:cX):nh:=⟨m.map (·.1),[(W8 m.length).filter λs=>decide (gd m s=0),(W8 m.length).filter λs=>decide (gd m s=1)],[0,1],[Λ,Λ]⟩
theorem du(hs:s < m.length):(je m).cF s=gd m s:=by show(m.map (·.1)).getD s 0=_;unfold gd row;rw[Xd,Xi,Xc hs,Xd,Xc hs];rfl
theorem uL(ok:dD w m):uJ w m (je m):=by
 have g01:∀s,s < m.length->gd m s=0\/gd m s=1:=λs hs=>by
  have:=ok.good _ (aV hs);unfold gd
  lia
 refine⟨⟨by simp[je],rfl,λs hs=>?_,λg hg=>?_,by simp[je],λg=>?_,λs t hs ht hb=>?_,λs t hs ht hb=>?_,λs t a hs ht ha e fi=>?_⟩,λg h1 h2=>?_⟩;·rw[du hs];show _ < 2;rcases g01 s hs with q|q<;>lia
 ·have Js:g=0\/g=1:=by
   have:g < 2:=hg
   lia
  rcases Js with e|e<;>subst e
  ·refine⟨(Zh).filter _,λs=>?_⟩;show s∈(W8 m.length).filter _↔_;rw[Yt,Yl,qqq];constructor;·rintro⟨p,q⟩;exact⟨p,by rw[du p];exact q⟩
   ·rintro⟨p,q⟩;rw[du p] at q;exact⟨p,q⟩
  ·refine⟨(Zh).filter _,λs=>?_⟩;show s∈(W8 m.length).filter _↔_;rw[Yt,Yl,qqq];constructor;·rintro⟨p,q⟩;exact⟨p,by rw[du p];exact q⟩
   ·rintro⟨p,q⟩;rw[du p] at q;exact⟨p,q⟩
 ·show g∈[0,1]↔g < 2/\[Λ,Λ].getD g Ξ=Λ;constructor;·intro z;simp at z;rcases z with z|z<;>subst z<;>exact⟨by lia,rfl⟩
  ·rintro⟨p,_⟩;simp;lia
 ·rw[du hs,du ht] at hb;exact λsm=>hb sm.good
 ·rw[du hs,du ht] at hb;exact hb
 ·refine .inl ?_;rw[du (ok.bg hs ha)];show _∈[0,1];rcases g01 _ (ok.bg hs ha) with q|q<;>rw[q]<;>simp
 ·have:g < 2:=h2
  lia
end
section
variable{w:Nat}{m:cX}{h:nh}
theorem Kn(ok:dD w m)(hc:uJ w m h)(hw:h.wait≠[]):∃g,h.wait=h.wait.dropLast++[g]/\h.wait.getLast?.getD 0=g/\g < h.mem.length/\(h.mem.getD g []).Nodup/\(∀t∈h.mem.getD g [],t < m.length)/\
  (∀x y,x < m.length->y < m.length->x∈h.mem.getD g []->y∉h.mem.getD g []->¬gD w m x m y)/\jY w m (h.mem.getD g []) (λa=>a < w) (k7 h g)/\vJ (k7 h g):=by
 obtain⟨hi,hn⟩:=hc;obtain⟨g,hg⟩:∃g,h.wait.getLast?=Δ g:=by cases q:h.wait.getLast? with|none=>rw[List.getLast?_eq_none_iff] at q;exact absurd q hw|some g=>exact⟨g,rfl⟩
 have eg:h.wait.getLast?.getD 0=g:=by rw[hg];rfl
 have ew:h.wait=h.wait.dropLast++[g]:=by rw[List.getLast?_eq_some_iff] at hg;obtain⟨ys,e⟩:=hg;rw[e];simp
 have gm:g∈h.wait:=by rw[ew];simp
 obtain⟨g1,g2⟩:=(hi.wt g).mp gm;obtain⟨T1,T2⟩:=hi.mem g g1;have nd:(h.wait.dropLast++[g]).Nodup:=by rw[<-ew];exact hi.Lq
 rw[X9] at nd;have Oi:g∉h.wait.dropLast:=λz=>nd.2.2 g z g (by simp) rfl;have Oj:∀k,k∈h.wait->k≠g->k∈h.wait.dropLast:=λk hk WB=>by
  rw[ew,Zq,Yg] at hk;rcases hk with z|z;·exact z
  ·exact absurd z WB
 have hT:∀x y,x < m.length->y < m.length->x∈h.mem.getD g []->y∉h.mem.getD g []->¬gD w m x m y:=λx y hx hy z1 z2=>by refine hi.snd x y hx hy λe=>z2 ((T2 y).mpr ⟨hy,?_⟩);rw[<-e];exact((T2 x).mp z1).2
 have ip:jY w m (h.mem.getD g []) (λa=>a < w) (k7 h g):=by
  refine⟨hi.rn,by unfold k7;simp[hi.mY],hi.blt,hi.mem,nd.1,λk=>?_,hi.snd,hi.good,λs t b hs ht hb e fi=>?_⟩
  ·unfold k7;dsimp only;by_cases e:k=g;·subst e;refine⟨λz=>absurd z Oi,λ⟨_,z⟩=>?_⟩;rw[fb (by rw[hi.mY];exact g1)] at z;cases z
   ·rw[dI λz=>e z.symm];constructor;·intro z;exact(hi.wt k).mp (by rw[ew];exact Yw _ z)
    ·intro z;exact Oj k ((hi.wt k).mpr z) e
  ·have e':h.cF s=h.cF t:=e;have xx:h.cF (bg m s b)≠h.cF (bg m t b):=fi;have p1:=ok.bg hs hb;have p2:=ok.bg ht hb;have i1:bg m s b∈h.mem.getD g []↔h.cF (bg m s b)=g:=by rw[T2];exact⟨λz=>z.2,λz=>⟨p1,z⟩⟩
   have i2:bg m t b∈h.mem.getD g []↔h.cF (bg m t b)=g:=by rw[T2];exact⟨λz=>z.2,λz=>⟨p2,z⟩⟩
   show h.cF (bg m s b)∈h.wait.dropLast\/h.cF (bg m t b)∈h.wait.dropLast\/_;by_cases c1:h.cF (bg m s b)=g;·refine .inr (.inr ⟨hb,λz=>?_⟩);rw[i1,i2] at z;exact xx (c1.trans (z.mp c1).symm)
   ·by_cases c2:h.cF (bg m t b)=g;·refine .inr (.inr ⟨hb,λz=>?_⟩);rw[i1,i2] at z;exact c1 (z.mpr c2)
    ·rcases hi.sep s t b hs ht hb e' xx with q|q|⟨q,_⟩;·exact .inl (Oj _ q c1)
     ·exact .inr (.inl (Oj _ q c2))
     ·exact q.elim
 exact⟨g,ew,eg,g1,T1,λt ht=>((T2 t).mp ht).1,hT,ip,hn⟩
end
section
variable{α:Type}[DecidableEq α]
noncomputable def bP(ps ss:List α):List α:=ss.foldl (λps s=>if s∈ps then ps else ps++[s]) ps
def yM(step:α->List α):Nat->List α->Nat->List α
 |0,ps,_=>ps|n+1,ps,k=>match ps[k]? with|none=>ps|some p=>yM step n (bP ps (step p)) (k+1)
def uM(step:α->List α)(good:α->Nat)(F:List α)(p:α):Nat×List Nat:=(good p,(step p).map λq=>F.idxOf q)
def fu(step:α->List α)(good:α->Nat)(F:List α):cX:=F.map (uM step good F)
def vK(step:α->List α)(p:α)(u:List Nat):α:=u.foldl (λp a=>((step p)[a]?).getD p) p
theorem jA ps(s:α)ss:bP ps (s::ss)=bP (if s∈ps then ps else ps++[s]) ss:=rfl
theorem gq:∀(ss ps:List α),∃t,bP ps ss=ps++t
 |[],ps=>⟨[],by simp[bP]⟩|s::ss,ps=>by
  rw[jA];split;·exact gq ss ps
  ·obtain⟨t,e⟩:=gq ss (ps++[s]);exact⟨s::t,by rw[e];simp⟩
theorem dJ:∀{ss ps} {x:α},x∈bP ps ss↔x∈ps\/x∈ss
 |[],ps,x=>by simp[bP]|s::ss,ps,x=>by
  rw[jA];split
  ·rename_i h;rw[dJ,aai];constructor
   ·rintro(z|z);·exact .inl z
    ·exact .inr (.inr z)
   ·rintro(z|z|z);·exact .inl z
    ·exact .inl (z▸h)
    ·exact .inr z
  ·rw[dJ,Zq,Yg,aai,or_assoc]
theorem sk:∀{ss ps:List α},ps.Nodup->(bP ps ss).Nodup
 |[],ps,h=>h|s::ss,ps,h=>by
  rw[jA];split;·exact sk h
  ·rename_i hs;exact sk (by rw[X9];exact⟨h,by simp,λa ha b hb=>by simp at hb;subst hb;exact λz=>hs (z▸ha)⟩)
theorem sr(step:α->List α):∀(n) (ps) (k),∃t,yM step n ps k=ps++t
 |0,ps,k=>⟨[],by simp[yM]⟩|n+1,ps,k=>by
  rw[yM];split;·exact⟨[],by simp⟩
  ·rename_i p hp;obtain⟨t,e⟩:=sr step n (bP ps (step p)) (k+1);obtain⟨t',e'⟩:=gq (step p) ps;exact⟨t'++t,by rw[e,e'];simp⟩
theorem yq{ps t:List α}(h:q∈ps):(ps++t).idxOf q=ps.idxOf q:=by rw[List.idxOf_append,if_pos h]
theorem yr{l:List α}(h:l.Nodup):∀{i j} (hi) (hj:j < l.length),l[i]=l[j]->i=j:=by
 induction l with
 |nil=>intro i j hi;simp at hi|cons x l ih=>
  rw[YK] at h;intro i j hi hj e;cases i with
  |zero=>cases j with|zero=>rfl|succ j=>simp at e;exact absurd (e▸Ya _) h.1
  |succ i=>cases j with|zero=>simp at e;exact absurd (e▸Ya _) h.1|succ j=>simp at e;rw[ih h.2 _ _ e]
theorem Dm{q:α}(h:q∉ps):(ps++[q]++t).idxOf q=ps.length:=by rw[yq (by simp),List.idxOf_append,if_neg h];simp
structure uN(step:α->List α)(S ps:List α)(k:Nat):Prop where
 nd:ps.Nodup
 sub:∀p∈ps,p∈S
 le:k<=ps.length
 cl:∀(i:Nat) (p:α),i < k->ps[i]?=Δ p->∀q∈step p,q∈ps
variable{step:α->List α}{S:List α}
theorem uN.len(h:uN step S ps k):ps.length<=S.length:=fV h.nd h.sub
theorem uN.next(hS:∀p∈S,∀q∈step p,q∈S)(h:uN step S ps k)(hp:ps[k]?=Δ p):uN step S (bP ps (step p)) (k+1):=by
 have hk:=(qqz hp).1;obtain⟨t,et⟩:=gq (step p) ps;refine⟨sk h.nd,λq hq=>?_,by rw[et,Xz];lia,λi p' hi DR q hq=>?_⟩
 ·rcases dJ.mp hq with z|z;·exact h.sub q z
  ·exact hS p (h.sub p (Xw hp)) q z
 ·have wa:i < ps.length:=by lia
  have e:ps[i]?=Δ p':=by rw[et,Xg wa] at DR;exact DR
  by_cases wb:i < k;·exact dJ.mpr (.inl (h.cl i p' wb e q hq))
  ·have:i=k:=by lia
   subst this;rw[hp] at e;cases e;exact dJ.mpr (.inr hq)
theorem Dp(hS:∀p∈S,∀q∈step p,q∈S):∀{n} {ps} {k},uN step S ps k->S.length+1<=n+k->uN step S (yM step n ps k) (yM step n ps k).length
 |0,ps,k,h,hn=>by
  have h1:=h.len;have h2:=h.le
  lia
 |n+1,ps,k,h,hn=>by
  rw[yM];split
  ·rename_i hp;have h2:=List.getElem?_eq_none_iff.mp hp;have h1:=h.le;have:k=ps.length:=by lia
   subst this;exact h
  ·rename_i p hp;exact Dp hS (h.next hS hp) (by lia)
theorem mZ F:∀(ss ps t:List α),F=bP ps ss++t->gR (ss.map λq=>F.idxOf q) ps.length=Δ (bP ps ss).length
 |[],ps,t,_=>by simp[gR,bP]|s::ss,ps,t,e=>by
  rw[jA] at e ⊢;rw[Xo,gR];by_cases h:s∈ps
  ·rw[if_pos h] at e ⊢;obtain⟨t',e'⟩:=gq ss ps;have:F.idxOf s < ps.length:=by rw[e,e',X7,yq h];exact Yp h
   rw[if_pos this];exact mZ F ss ps t e
  ·rw[if_neg h] at e ⊢;obtain⟨t',e'⟩:=gq ss (ps++[s]);have:F.idxOf s=ps.length:=by rw[e,e',X7,Dm h]
   rw[this,if_neg (by lia),if_pos rfl];have:=mZ F ss (ps++[s]) t e;simpa using this
theorem AD(hS:∀p∈S,∀q∈step p,q∈S):∀{n} {ps} {k},uN step S ps k->S.length+1<=n+k->yM step n ps k=F->gp ((F.drop k).map (uM step good F)) k ps.length=Δ F.length
 |0,ps,k,h,hn,e=>by
  have h1:=h.len;have h2:=h.le
  lia
 |n+1,ps,k,h,hn,e=>by
  rw[yM] at e;split at e;·rename_i hp;have h2:=List.getElem?_eq_none_iff.mp hp;have h1:=h.le;subst e;rw[aa0 h2];simp[gp]
  ·rename_i p hp;have hk:=(qqz hp).1;obtain⟨t,et⟩:=sr step n (bP ps (step p)) (k+1);obtain⟨t',et'⟩:=gq (step p) ps;have eF:F=bP ps (step p)++t:=by rw[<-e,et]
   have ek:F[k]?=Δ p:=by rw[eF,et',X7,Xg hk];exact hp
   have hkF:=(qqz ek);have ed:F.drop k=p::F.drop (k+1):=by rw[Yd hkF.1,hkF.2]
   rw[ed,Xo,gp,if_pos hk];have:gR (uM step good F p).2 ps.length=Δ (bP ps (step p)).length:=mZ F (step p) ps t eF;rw[this];exact AD hS (h.next hS hp) (by lia) e
def places(step:α->List α)(N:Nat)(start:α):List α:=yM step N [start] 0
structure Places(w:Nat)(step:α->List α)(good:α->Nat)(S:List α)(start:α)(F:List α):Prop where
 nd:F.Nodup
 sub:∀p∈F,p∈S
 cl:∀p∈F,∀q∈step p,q∈F
 zero:F[0]?=Δ start
 ok:dD w (fu step good F)
 ord:gp (fu step good F) 0 1=Δ (fu step good F).length
theorem Ew(hs:start∈S)(hS:∀p∈S,∀q∈step p,q∈S)(hl:∀p∈S,(step p).length=w)(hg:∀p∈S,good p<=1)(hN:S.length+1<=N):Places w step good S start (places step N start):=by
 have b0:uN step S [start] 0:=⟨by simp,λp hp=>by simp at hp;rw[hp];exact hs,by simp,λi p hi=>by lia⟩;have b:=Dp hS b0 (n:=N) (by lia);have sc:=AD (good:=good) hS b0 (n:=N) (by lia) (F:=places step N start) rfl;obtain⟨t,et⟩:=sr step N [start] 0;have u9:∀p∈places step N start,∀q∈step p,q∈places step N start:=λp hp q hq=>by obtain⟨i,hi⟩:=abm hp;exact b.cl i p (qqz hi).1 hi q hq
 refine⟨b.nd,b.sub,u9,by show(yM step N [start] 0)[0]?=_;rw[et];rfl,⟨?_,λs sT=>?_,λs sT=>?_,λs sT t ht=>?_⟩,?_⟩;·show 0 < (aah _ (yM step N [start] 0)).length;rw[et];simp
 ·obtain⟨p,hp,rfl⟩:=Y7.mp sT;exact hg p (b.sub p hp)
 ·obtain⟨p,hp,rfl⟩:=Y7.mp sT;show(aah _ _).length=w;rw[Xf];exact hl p (b.sub p hp)
 ·obtain⟨p,hp,rfl⟩:=Y7.mp sT;obtain⟨q,hq,rfl⟩:=Y7.mp (show t∈(step p).map λq=>(places step N start).idxOf q from ht);show _ < (aah _ _).length;rw[Xf];exact Yp (u9 p hp q hq)
 ·rw[aaa] at sc;show gp ((places step N start).map _) 0 1=Δ ((places step N start).map _).length;rw[Xf];exact sc
theorem su(h:F[i]?=Δ p):row (fu step good F) i=uM step good F p:=by unfold row fu;rw[Xd,Xi,h];rfl
theorem Dq(h:Places w step good S start F)(hl:∀p∈S,(step p).length=w):∀{u} {i} {p},F[i]?=Δ p->Wd w u->gd (fu step good F) (walk (fu step good F) i u)=good (vK step p u)
 |[],i,p,hp,_=>by show(row _ i).1=good p;rw[su hp];rfl|a::u,i,p,hp,hu=>by
  have ha:=hu.head;have R3:=Xw hp;have hlp:=hl p (h.sub p R3);have hq:(step p)[a]?=Δ ((step p)[a]'(by lia)):=Xc (by lia);have R4:=h.cl p R3 _ (Ya (by lia:a < (step p).length));have es:bg (fu step good F) i a=F.idxOf ((step p)[a]'(by lia)):=by unfold bg;rw[su hp];show((step p).map _).getD a 0=_;rw[Xd,Xi,hq];rfl
  show gd _ (walk _ (bg _ i a) u)=good (vK step (((step p)[a]?).getD p) u);rw[es,hq];exact Dq h hl (by rw[Xc (Yp R4),aaK];rfl) hu.tail
end
section
variable{w:Nat}{m:cX}
def R5(grp:List Nat)(s:Nat):Nat:=grp.idxOf (grp.getD s 0)
noncomputable def iK(w:Nat)(m:cX):nh:=settle m w (m.length+2) (je m)
theorem w8(ok:dD w m):uJ w m (iK w m)/\(iK w m).wait=[]:=uK ok (uL ok) (by simp[je];have:=ok.ne;lia)
noncomputable def fst(w:Nat)(m:cX)(s:Nat):Nat:=R5 (iK w m).grp s
theorem gu(ok:dD w m)(hs:s < m.length):fst w m s < m.length/\gD w m (fst w m s) m s/\∀t,t < m.length->gD w m s m t->fst w m t=fst w m s:=by
 obtain⟨c,hw⟩:=w8 ok;have gl:=c.1.rn;have e:(iK w m).grp.getD s 0=(iK w m).grp[s]'(by lia):=by rw[Xd,Xc (by lia)];rfl
 have mem:(iK w m).grp.getD s 0∈(iK w m).grp:=by rw[e];exact Ya _
 have lt:fst w m s < m.length:=by
  have:=Yp mem;show List.idxOf _ _ < _
  lia
 have at_:(iK w m).cF (fst w m s)=(iK w m).cF s:=by show(iK w m).grp.getD (fst w m s) 0=(iK w m).grp.getD s 0;have h1:=Yp mem;rw[Xd,Xc (show fst w m s < _ from h1)];show(iK w m).grp[(iK w m).grp.idxOf ((iK w m).grp.getD s 0)]=_;exact aaK h1
 refine⟨lt,(AB ok c hw lt hs).mp at_,λt ht q=>?_⟩;have:=(AB ok c hw hs ht).mpr q;show(iK w m).grp.idxOf ((iK w m).cF t)=(iK w m).grp.idxOf ((iK w m).cF s);rw[this]
noncomputable def eB(w:Nat)(m:cX)(s:Nat):List Nat:=(row m s).2.map (fst w m)
noncomputable def eQ(w:Nat)(m:cX):List Nat:=places (eB w m) 1000000 (fst w m 0)
theorem w9 w m:∃M,M=fu (eB w m) (gd m) (eQ w m):=⟨_,rfl⟩
noncomputable def cw(w:Nat)(m:cX):cX:=Classical.choose (w9 w m)
theorem fW w m:cw w m=fu (eB w m) (gd m) (eQ w m):=Classical.choose_spec (w9 w m)
theorem AE(ok:dD w m):∀p∈W8 m.length,∀q∈eB w m p,q∈W8 m.length:=λp hp q hq=>by rw[Yl] at hp ⊢;obtain⟨t,ht,rfl⟩:=Y7.mp hq;exact(gu ok (ok.lt _ (aV hp) t ht)).1
theorem p6(ok:dD w m):∀p∈W8 m.length,(eB w m p).length=w:=λp hp=>by rw[Yl] at hp;unfold eB;rw[Xf];exact ok.len _ (aV hp)
theorem m5(ok:dD w m)(hm:m.length < 1000000):Places w (eB w m) (gd m) (W8 m.length) (fst w m 0) (eQ w m):=
 Ew (Yl.mpr (gu ok ok.ne).1) (AE ok) (p6 ok) (λp hp=>ok.good _ (aV (Yl.mp hp))) (by rw[XS];lia)
theorem R6(ok:dD w m):∀{u} {s p},s < m.length->p < m.length->gD w m p m s->Wd w u->gd m (vK (eB w m) p u)=gd m (walk m s u)
 |[],s,p,hs,hp,q,_=>q.good|a::u,s,p,hs,hp,q,hu=>by
  have ha:=hu.head;have hl:=ok.len _ (aV hp);have e:(eB w m p)[a]?=Δ (fst w m (bg m p a)):=by unfold eB bg;rw[Xi,Xd,Xc (by lia)];rfl
  show gd m (vK _ (((eB w m p)[a]?).getD p) u)=gd m (walk m (bg m s a) u);rw[e];obtain⟨f1,f2,_⟩:=gu ok (ok.bg hp ha);exact R6 ok (ok.bg hs ha) f1 (f2.trans (q.step ha)) hu.tail
theorem m6(ok:dD w m)(hm:m.length < 1000000)(h:(eQ w m)[i]?=Δ p):gD w (cw w m) i m p:=λu hu=>by have P:=m5 ok hm;have hp:p < m.length:=Yl.mp (P.sub p (Xw h));rw[fW,show gd (fu (eB w m) (gd m) (eQ w m)) (walk (fu (eB w m) (gd m) (eQ w m)) i u)=gd m (vK (eB w m) p u) from Dq P (p6 ok) h hu];exact R6 ok hp hp gD.refl hu
theorem Cd(ok:dD w m)(hm:m.length < 1000000):(cw w m).length<=m.length:=by have P:=m5 ok hm;rw[fW];show(aah _ _).length<=_;rw[Xf];have:=fV P.nd P.sub;rw[XS] at this;exact this
theorem g8(ok:dD w m)(hm:m.length < 1000000):mn w (cw w m)/\gD w (cw w m) 0 m 0:=by
 have P:=m5 ok hm;have rep:∀p∈eQ w m,fst w m p=p:=by
  have all:∀(n:Nat) (ps:List Nat) (k:Nat),(∀p∈ps,p < m.length/\fst w m p=p)->∀p∈yM (eB w m) n ps k,p < m.length/\fst w m p=p:=by
   intro n;induction n with
   |zero=>intro ps k h;exact h|succ n ih=>
    intro ps k h;rw[yM];split;·exact h
    ·rename_i p hp;refine ih _ _ λq hq=>?_;rcases dJ.mp hq with z|z;·exact h q z
     ·obtain⟨t,ht,rfl⟩:=Y7.mp z;have DR:=(h p (Xw hp)).1;have wH:=ok.lt _ (aV DR) t ht;obtain⟨f1,f2,f3⟩:=gu ok wH;exact⟨f1,f3 _ f1 f2.symm⟩
  intro p hp;obtain⟨f1,f2,f3⟩:=gu ok ok.ne;exact(all 1000000 [fst w m 0] 0 (λq hq=>by simp at hq;rw[hq];exact⟨f1,f3 _ f1 f2.symm⟩) p hp).2
 have WD:(cw w m).length=(eQ w m).length:=by rw[fW];exact Xf ..
 refine⟨⟨by rw[fW];exact P.ok,λs t hs ht q=>?_,by rw[fW];exact P.ord⟩,?_⟩
 ·have sT:s < (eQ w m).length:=by lia
  have wH:t < (eQ w m).length:=by lia
  have es:=Xc sT;have et:=Xc wH;have q1:gD w m (eQ w m)[s] m (eQ w m)[t]:=((m6 ok hm es).symm.trans q).trans (m6 ok hm et);have ps:=Yl.mp (P.sub _ (Ya sT));have pt:=Yl.mp (P.sub _ (Ya wH));have:=(gu ok ps).2.2 _ pt q1;rw[rep _ (Ya sT),rep _ (Ya wH)] at this;exact yr P.nd sT wH this.symm
 ·obtain⟨f1,f2,f3⟩:=gu ok ok.ne;exact(m6 ok hm P.zero).trans f2
theorem Ex(ok:dD w m)(TF:dD w m')(hm:m.length < 1000000)(hm':m'.length < 1000000)(h:gD w m 0 m' 0):cw w m=cw w m':=by obtain⟨l1,s1⟩:=g8 ok hm;obtain⟨l2,s2⟩:=g8 TF hm';exact l1.one l2 ((s1.trans h).trans s2.symm)
theorem AF(h:mn w m)(hm:m.length < 1000000):cw w m=m:=by obtain⟨l1,s1⟩:=g8 h.ok hm;exact l1.one h s1
end
end Y
namespace Y
open PySem
def encM(ss:List Nat):O:=.dK (ss.map λ(s:Nat)=>(.inl (s:Int),P.d (.bl Λ)))
def encL(ss:List Nat):O:=.lst (ss.map λs=>P.d (nD s))
def jB(bs:List Bool):O:=.lst (bs.map λb=>P.d (.bl b))
noncomputable def rg(b:Nat):List (Str×P):=[("sources",.obj b),("group_of",.obj (b+1)),("members",.obj (b+4)),("waiting",.obj (b+5)),("waits",.obj (b+6))]
def iA(b:Nat):O:=.ins "Groups" (rg b)
def Mad(b a:Nat):Prop:=a=b+2\/a=b+3\/b+7<=a
def EX(b:Nat)(mb:List Nat)(l:Nat):Prop:=b+7<=l/\l∉mb
structure HS(m:cX)(w b:Nat)(mb:List Nat)(st:aI)(h:nh):Prop where
 len:b+7<=st.length
 b0:0 < b
 self:st[0]?=Δ (iA b)
 src:∃outer:List Nat,st[b]?=Δ (.lst (outer.map P.obj))/\outer.length=w/\∀a,a < w->∃(o:Nat) (rows:List Nat),outer[a]?=Δ o/\0 < o/\o < b/\st[o]?=Δ (.lst (rows.map P.obj))/\∀t,t < m.length->∃l,rows[t]?=Δ l/\0 < l/\l < b/\st[l]?=Δ (encL (dP m a t))
 grp:st[b+1]?=Δ (encL h.grp)
 Lr:st[b+4]?=Δ (.lst (mb.map P.obj))
 rA:mb.length=h.mem.length
 mem:∀g,g < h.mem.length->∃a,mb[g]?=Δ a/\Mad b a/\a < st.length/\st[a]?=Δ (encM (h.mem.getD g []))
 R7:mb.Nodup
 Pa:st[b+5]?=Δ (encL h.wait)
 iF:st[b+6]?=Δ (jB h.iF)
section
variable{m:cX}{w b:Nat}{mb:List Nat}{st aK:aI}{h:nh}
theorem HS.mad(hs:HS m w b mb st h)(ha:a∈mb):Mad b a/\a < st.length:=by obtain⟨g,hg⟩:=abm ha;have hl:=(qqz hg).1;obtain⟨a',e,q,q2,_⟩:=hs.mem g (by rw[<-hs.rA];exact hl);rw[hg] at e;cases e;exact⟨q,q2⟩
theorem HS.keep(hs:HS m w b mb st h)(hl:st.length<=aK.length)(k:∀i,i < st.length->¬EX b mb i->aK[i]?=st[i]?):HS m w b mb aK h:=by
 have kk:∀i,i < b+7->aK[i]?=st[i]?:=λi hi=>k i (by have:=hs.len;lia) (λz=>by have:=z.1;lia);refine⟨by have:=hs.len;lia,hs.b0,by rw[kk 0 (by lia)];exact hs.self,?_,by rw[kk _ (by lia)];exact hs.grp,by rw[kk _ (by lia)];exact hs.Lr,hs.rA,λg hg=>?_,hs.R7,by rw[kk _ (by lia)];exact hs.Pa,by rw[kk _ (by lia)];exact hs.iF⟩;·obtain⟨outer,e1,e2,e3⟩:=hs.src;refine⟨outer,by rw[kk _ (by lia)];exact e1,e2,λa ha=>?_⟩;obtain⟨o,rows,f1,f2,f3,f4,f5⟩:=e3 a ha;refine⟨o,rows,f1,f2,f3,by rw[kk _ (by lia)];exact f4,λt ht=>?_⟩;obtain⟨l,g1,g2,g3,g4⟩:=f5 t ht;exact⟨l,g1,g2,g3,by rw[kk _ (by lia)];exact g4⟩
 ·obtain⟨a,e1,e2,e3,e4⟩:=hs.mem g hg;exact⟨a,e1,e2,by lia,by rw[k a e3 (λz=>z.2 (Xw e1))];exact e4⟩
theorem HS.put(hs:HS m w b mb st h)(hl:EX b mb l)o:HS m w b mb (st.set l o) h:=hs.keep (by simp) λi hi ho=>Xe (λ(z:l=i)=>ho (z▸hl))
theorem AG(hs:st[0]?=Δ (iA b)):ph "Groups" st (.obj 0)=Δ (0,rg b):=by unfold ph;simp[hs,iA]
theorem cY(hi:(r[i]?).join=Δ (.obj 0))(hs:st[0]?=Δ (iA b))(hf:(rg b).lookup f=Δ x):aa C (.attr "Groups" f i) r st=.ok x st:=by rw[Df,hi,av,ae,AG hs,X3,hf,av]
theorem oy(hi:(r[i]?).join=Δ (.obj 0))(hs:st[0]?=Δ (iA b))(hf:(rg b).lookup f=Θ)(he:aD C es r st=.ok ps st1)(hc:C k (.obj 0::ps) st1=res):aa C (.pf k "Groups" f i es) r st=res:=by rw[JZ,hi,av,ae,AG hs,X3,hf];simp[he,hc]
theorem HS.R8(hs:HS m w b mb st h)g:HS m w b mb ((st.set (b+5) (encL (h.wait++[g]))).set (b+6) (jB (h.iF.set g Λ))) ⟨h.grp,h.mem,h.wait++[g],h.iF.set g Λ⟩:=by
 have hl:=hs.len;have g0:∀i,i≠b+5->i≠b+6->((st.set (b+5) (encL (h.wait++[g]))).set (b+6) (jB (h.iF.set g Λ)))[i]?=st[i]?:=λi h1 h2=>by rw[Xe (Yj h2),Xe (Yj h1)]
 refine⟨by simpa using hl,hs.b0,by rw[g0 0 (by lia) (by lia)];exact hs.self,?_,by rw[g0 _ (by lia) (by lia)];exact hs.grp,by rw[g0 _ (by lia) (by lia)];exact hs.Lr,hs.rA,λk hk=>?_,hs.R7,?_,?_⟩;·obtain⟨outer,e1,e2,e3⟩:=hs.src;refine⟨outer,by rw[g0 _ (by lia) (by lia)];exact e1,e2,λa ha=>?_⟩;obtain⟨o,rows,f1,f2,f3,f4,f5⟩:=e3 a ha;refine⟨o,rows,f1,f2,f3,by rw[g0 _ (by lia) (by lia)];exact f4,λt ht=>?_⟩;obtain⟨l,q1,q2,q3,q4⟩:=f5 t ht;exact⟨l,q1,q2,q3,by rw[g0 _ (by lia) (by lia)];exact q4⟩
 ·obtain⟨a,e1,e2,e3,e4⟩:=hs.mem k hk;refine⟨a,e1,e2,by simpa using e3,?_⟩;rw[g0 _ (by rcases e2 with z|z|z<;>lia) (by rcases e2 with z|z|z<;>lia)];exact e4
 ·rw[Xe (by lia),XC (by lia)]
 ·rw[XC (by simp;lia)]
end
theorem Hr{ss:List Nat}(h:s∈ss):fj (ss.map λ(s:Nat)=>((.inl (s:Int):Sum Int Str),P.d (.bl Λ))) (.inl (s:Int))=Δ (.d (.bl Λ)):=by
 unfold fj;induction ss with
 |nil=>cases h|cons x ss ih=>
  rw[Xo,YB];by_cases e:x=s;·subst e;simp
  ·have:decide ((.inl (x:Int):Sum Int Str)=.inl (s:Int))=Ξ:=by rw[decide_eq_false_iff_not];intro z;injection z with z;exact e (by lia)
   simp only[this];exact ih ((aai.mp h).resolve_left λz=>e z.symm)
theorem Ey(ss:List Nat)(s:Nat):wm (ss.map λ(s:Nat)=>((.inl (s:Int):Sum Int Str),P.d (.bl Λ))) (.inl (s:Int))=(ss.filter λx=>decide (x≠s)).map λ(s:Nat)=>((.inl (s:Int):Sum Int Str),P.d (.bl Λ)):=by
 unfold wm;induction ss with
 |nil=>rfl|cons x ss ih=>
  rw[Xo];by_cases e:x=s;·subst e;rw[X4 (by simp),X4 (by simp)];exact ih
  ·rw[XT (by simp;lia),XT (by simp;exact e),Xo,ih]
theorem sv{κ:Type}[DecidableEq κ]{kvs:List (κ×P)}{k:κ}(h:∀kv∈kvs,kv.1≠k):lZ kvs k v=kvs++[(k,v)]:=by
 unfold lZ;have:(kvs.any λkv=>decide (kv.1=k))=Ξ:=by rw[abI];intro kv qx;simpa using h kv qx
 rw[this];simp
theorem Hs(h:st[a]?=Δ (encM ss)):bC st (.obj a)=Δ (encM ss):=by unfold bC D9;simp[h,encM,jo]
theorem Ht(h:st[a]?=Δ (encM ss))(hs:s∈ss):Gw (.obj a) (.d (nD s)) st=Δ (.d (.bl Λ),st.set a (encM (ss.filter λx=>decide (x≠s)))):=by have hk:keyOf (.d (nD s))=Δ (.inl (s:Int)):=rfl;unfold Gw;simp only[h,encM,hk,X3,Hr hs,Ey,XF]
theorem uO(h:st[a]?=Δ (encM ss))(hs:s∉ss)(hl:ss.length < au):nR (.obj a) (.d (nD s)) (.d (.bl Λ)) st=Δ (st.set a (encM (ss++[s]))):=by
 have hk:keyOf (.d (nD s))=Δ (.inl (s:Int)):=rfl;have hp:lZ (ss.map λ(s:Nat)=>((.inl (s:Int):Sum Int Str),P.d (.bl Λ))) (.inl (s:Int)) (P.d (.bl Λ))=(ss++[s]).map λ(s:Nat)=>((.inl (s:Int):Sum Int Str),P.d (.bl Λ)):=by
  rw[sv,XW];·rfl
  ·intro kv qx;obtain⟨x,hx,rfl⟩:=Y7.mp qx;intro z;injection z with z;exact hs ((show x=s by lia)▸hx)
 unfold nR;simp only[h,X3,encM,zE,CO,Xf,hl,if_true,hk,XF,hp]
theorem AH{l:List Nat}{ss:List Nat}(h:ss[i]?=Δ s):((l.filter λx=>decide (x∉ss.take i)).filter λx=>decide (x≠s))=l.filter λx=>decide (x∉ss.take (i+1)):=by
 rw[List.filter_filter];congr 1;funext x;have e:ss.take (i+1)=ss.take i++[s]:=by rw[Yv,h];rfl
 rw[e];by_cases h1:x=s<;>by_cases h2:x∈ss.take i<;>simp[Zq,h1,h2]
theorem AI{fresh:Nat}{ss g:List Nat}(h:ss[i]?=Δ s):(putAll fresh (ss.take i) g).set s fresh=putAll fresh (ss.take (i+1)) g:=by
 have e:ss.take (i+1)=ss.take i++[s]:=by rw[Yv,h];rfl
 rw[e];unfold putAll;rw[ZV];rfl
theorem AJ{ss:List Nat}(hn:ss.Nodup)(h:ss[i]?=Δ s):s∉ss.take i:=by
 obtain⟨hi,e⟩:=qqz h;intro hm;obtain⟨j,hj,e2⟩:=List.getElem_of_mem hm;rw[List.getElem_take] at e2;have Ta:j < i:=by simp at hj;lia
 have:=yr hn (i:=j) (j:=i) (by lia) hi (e2.trans e.symm)
 lia
abbrev Ls:=Nat×List Nat×Nat
def ve(dl:List Ls):List (Sum Int Str×P):=dl.map λt=>(.inl (t.1:Int),P.obj t.2.2)
structure GS(grp:List Nat)(D0:Nat)(st s:aI)(done:List Nat)(dl:List Ls):Prop where
 proj:dl.map (λt=>(t.1,t.2.1))=cA grp done
 qN:s[D0]?=Δ (.dK (ve dl))
 at_:∀t∈dl,D0 < t.2.2/\t.2.2 < s.length/\s[t.2.2]?=Δ (encL t.2.1)
 nd:(dl.map λt=>t.2.2).Nodup
 pre:∀i,i < D0->s[i]?=st[i]?
 len:D0 < s.length
theorem xa:∀{dl:List Ls},g∈dl.map (·.1)->∃l1 ss a l2,dl=l1++(g,ss,a)::l2/\∀t∈l1,t.1≠g
 |[],h=>by cases h|(k,ss,a)::dl,h=>by
  by_cases e:k=g;·subst e;exact⟨[],ss,a,dl,rfl,λ_ z=>nomatch z⟩
  ·rw[Xo] at h;obtain⟨l1,J8,a',l2,e2,h2⟩:=xa ((aai.mp h).resolve_left λz=>e z.symm);refine⟨(k,ss,a)::l1,J8,a',l2,by rw[e2];rfl,λt ht=>?_⟩;rcases aai.mp ht with z|z;·rw[z];exact e
   ·exact h2 t z
theorem qO:∀{l1 l2},(∀t∈l1,t.1≠g)->dH (l1++(g,ss)::l2) g x=l1++(g,ss++[x])::l2
 |[],l2,_=>by simp[dH]|(k,r)::l1,l2,h=>by have hk:k≠g:=h (k,r) Xh;rw[Y0,dH,if_neg hk,qO λt ht=>h t (Xb _ ht)];rfl
theorem uP:∀{l},(∀t∈l,t.1≠g)->dH l g x=l++[(g,[x])]
 |[],_=>by simp[dH]|(k,r)::l,h=>by have hk:k≠g:=h (k,r) Xh;rw[dH,if_neg hk,uP λt ht=>h t (Xb _ ht)];rfl
theorem Ez{ss:List Nat}{l1 l2:List Ls}(h:∀t∈l1,t.1≠g):fj (ve (l1++(g,ss,a)::l2)) (.inl (g:Int))=Δ (.obj a):=by
 unfold fj ve;rw[XW,List.find?_append];have:(l1.map λt:Ls=>((.inl (t.1:Int):Sum Int Str),P.obj t.2.2)).find? (λkv=>decide (kv.1=.inl (g:Int)))=Θ:=by
  rw[abB];intro kv qx;obtain⟨t,ht,rfl⟩:=Y7.mp qx;have:=h t ht;simp
  lia
 rw[this];simp
theorem Hu{g:Nat}(h:g∉dl.map (·.1)):fj (ve dl) (.inl (g:Int))=Θ:=by
 unfold fj ve;have:(dl.map λt:Ls=>((.inl (t.1:Int):Sum Int Str),P.obj t.2.2)).find? (λkv=>decide (kv.1=.inl (g:Int)))=Θ:=by
  rw[abB];intro kv qx;obtain⟨t,ht,rfl⟩:=Y7.mp qx;have:t.1≠g:=λz=>h (Y7.mpr ⟨t,ht,z⟩);simp
  lia
 rw[this];rfl
theorem GS.next(G:GS grp D0 st s done dl)(hl:dl.length < au)(hd:done.length < au):
  ∃v its s1 s2 Ol,qz (.obj D0) (.d (nD (grp.getD x 0))) (.obj s.length) (s++[O.lst []])=Δ (v,s1)/\bj s1 v=Δ its/\xK v (.d (nD x)) s1=Δ s2/\GS grp D0 st s2 (done++[x]) Ol:=by
 have qj:cA grp (done++[x])=dH (cA grp done) (grp.getD x 0) x:=by unfold cA;rw[ZV];rfl
 have hk:keyOf (.d (nD (grp.getD x 0)))=Δ (.inl ((grp.getD x 0:Nat):Int)):=rfl;have hlen:=G.len;have hD:(s++[O.lst []])[D0]?=Δ (.dK (ve dl)):=by rw[Xg hlen];exact G.qN
 have hkl:(ve dl).length < au:=by unfold ve;simpa using hl
 generalize hg:grp.getD x 0=g at*;by_cases uQ:g∈dl.map (·.1)
 ·obtain⟨l1,ss,a,l2,rfl,h1⟩:=xa uQ;obtain⟨a1,a2,a3⟩:=G.at_ (g,ss,a) (by simp);dsimp only at a1 a2 a3;have ssl:ss.length<=done.length:=by
   have:(g,ss)∈cA grp done:=by rw[<-G.proj];exact Y7.mpr ⟨(g,ss,a),by simp,rfl⟩
   have:=((eA grp done).2.1 g ss this).1;rw[this];exact ZH _ _
  have ha:(s++[O.lst []])[a]?=Δ (encL ss):=by rw[Xg a2];exact a3
  refine⟨.obj a,ss.map λs=>P.d (nD s),s++[O.lst []],(s++[O.lst []]).set a (encL (ss++[x])),l1++(g,ss++[x],a)::l2,?_,fk ha,?_,?_⟩;·unfold qz;simp only[hD,hkl,if_true,hk,XF,Ez h1]
  ·rw[fm ha (by simp;lia)];simp[encL]
  ·have Eu:=G.nd;rw[XW,Xo,X9] at Eu;refine⟨?_,?_,λt ht=>?_,by rw[XW,Xo,X9];exact Eu,λi hi=>?_,by simp;lia⟩;·rw[qj,<-G.proj,XW,Xo,XW,Xo,qO];intro t ht;obtain⟨t',wH,rfl⟩:=Y7.mp ht;exact h1 t' wH
   ·rw[Xe (by lia),hD];unfold ve;simp
   ·by_cases ta:t.2.2=a
    ·have:t=(g,ss++[x],a):=by
      rcases Zq.mp ht with z|z;·exact absurd ta (Eu.2.2 _ (Y7.mpr ⟨t,z,rfl⟩) _ Xh)
      ·rcases aai.mp z with z|z;·exact z
       ·rw[YK] at Eu;exact absurd (Y7.mpr ⟨t,z,ta⟩) Eu.2.1.1
     subst this;refine⟨a1,by simp;lia,?_⟩;rw[XC (by simp;lia)]
    ·have wH:t∈l1++(g,ss,a)::l2:=by
      rcases Zq.mp ht with z|z;·exact Yw _ z
      ·rcases aai.mp z with z|z;·rw[z] at ta;exact absurd rfl ta
       ·exact XQ _ (Xb _ z)
     obtain⟨b1,b2,b3⟩:=G.at_ t wH;exact⟨b1,by simp;lia,by rw[Xe (Yj ta),Xg b2];exact b3⟩
   ·rw[Xe (by lia),Xg (by lia)];exact G.pre i hi
 ·have hm:∀t∈cA grp done,t.1≠g:=λt ht z=>uQ (by rw[<-G.proj] at ht;obtain⟨t',wH,rfl⟩:=Y7.mp ht;exact Y7.mpr ⟨t',wH,z⟩);have WE:lZ (ve dl) (.inl (g:Int)) (.obj s.length)=ve (dl++[(g,[x],s.length)]):=by
   rw[sv];·unfold ve;simp
   ·intro kv qx;obtain⟨t,ht,rfl⟩:=Y7.mp qx;intro z;injection z with z;exact uQ (Y7.mpr ⟨t,ht,by lia⟩)
  have Lu:((s++[O.lst []]).set D0 (.dK (ve (dl++[(g,[x],s.length)]))))[s.length]?=Δ (.lst []):=by rw[Xe (by lia)];simp
  refine⟨.obj s.length,[],(s++[O.lst []]).set D0 (.dK (ve (dl++[(g,[x],s.length)]))),((s++[O.lst []]).set D0 (.dK (ve (dl++[(g,[x],s.length)])))).set s.length (encL [x]),dl++[(g,[x],s.length)],?_,fk Lu,?_,?_⟩;·unfold qz;simp only[hD,hkl,if_true,hk,XF,Hu uQ,WE]
  ·rw[fm Lu (by simp[au])];simp[encL]
  ·refine⟨?_,?_,λt ht=>?_,?_,λi hi=>?_,by simp;lia⟩;·rw[qj,<-G.proj,uP (by rw[G.proj];exact hm),XW];rfl
   ·rw[Xe (by lia),XC (by simp;lia)]
   ·rcases Zq.mp ht with z|z;·obtain⟨b1,b2,b3⟩:=G.at_ t z;exact⟨b1,by simp;lia,by rw[Xe (by lia),Xe (by lia),Xg b2];exact b3⟩
    ·rw[Yg] at z;subst z;exact⟨hlen,by simp,by rw[XC (by simp)]⟩
   ·rw[XW,X9];refine⟨G.nd,by simp,λp hp q hq=>?_⟩;simp at hq;subst hq;obtain⟨t,ht,rfl⟩:=Y7.mp hp;have:=(G.at_ t ht).2.1
    lia
   ·rw[Xe (by lia),Xe (by lia),Xg (by lia)];exact G.pre i hi
structure R9(α:Type)[DecidableEq α] where
 enc:α->D
 qN:List α->O
 TH:∀ps,jo (qN ps)=Λ
 lit:∀a,Jc (.d (enc a)) (.d (.int 0))=Δ (qN [a])
 get:∀ps a,ps.Nodup->nQ (qN ps) (.d (enc a))=Δ (if a∈ps then Δ (.d (nD (ps.idxOf a))) else Θ)
 put:∀ps a,a∉ps->ps.length < au->CO (qN ps) (.d (enc a)) (.d (nD ps.length))=Δ (qN (ps++[a]))
theorem AK{α κ:Type}[DecidableEq α][DecidableEq κ]{f:α->κ}(hf:∀a b,f a=f b->a=b):∀(ps:List α) (k) (a),fj (ps.zipIdx k |>.map λq=>(f q.1,P.d (nD q.2))) (f a)=if a∈ps then Δ (.d (nD (k+ps.idxOf a))) else Θ
 |[],k,a=>by simp[fj]|x::ps,k,a=>by
  have ih:=AK hf ps (k+1) a;unfold fj at ih ⊢;rw[abZ,Xo,YB];by_cases e:x=a;·subst e;simp
  ·have h1:decide (f x=f a)=Ξ:=decide_eq_false λz=>e (hf _ _ z);simp only[h1];rw[ih];have h2:(x==a)=Ξ:=by simpa using e
   have h3:a≠x:=λz=>e z.symm;by_cases uQ:a∈ps;·rw[if_pos uQ,if_pos (Xb _ uQ),ack,h2];simp only[cond_false];congr 3;lia
   ·rw[if_neg uQ,if_neg (λz=>(aai.mp z).elim h3 uQ)]
theorem Ko{α κ:Type}[DecidableEq α][DecidableEq κ]{f:α->κ}(hf:∀a b,f a=f b->a=b){ps:List α}{a:α}(h:a∉ps):lZ (ps.zipIdx.map λq=>(f q.1,P.d (nD q.2))) (f a) (.d (nD ps.length))=(ps++[a]).zipIdx.map λq=>(f q.1,P.d (nD q.2)):=by
 rw[sv];·rw[List.zipIdx_append,XW];simp
 ·intro kv qx;obtain⟨q,hq,rfl⟩:=Y7.mp qx;intro z;have:=hf _ _ z;have xn:q.1∈ps:=by obtain⟨x,i⟩:=q;have:=List.mem_zipIdx' hq;rw[this.2];exact Ya _
  exact h (this▸xn)
def Ce(n:Nat):Sum Int Str:=.inl (n:Int)
theorem AL a b(h:Ce a=Ce b):a=b:=by unfold Ce at h;injection h with h;lia
def WG:R9 Nat where
 enc:=nD
 qN:=λps=>.dK (ps.zipIdx.map λq=>(Ce q.1,P.d (nD q.2)))
 TH:=λ_=>rfl
 lit:=λa=>rfl
 get:=λps a _=>by show(keyOf (.d (nD a))).map _=_;have:keyOf (.d (nD a))=Δ (Ce a):=rfl;rw[this,XF];congr 1;have:=AK AL ps 0 a;simpa using this
 put:=λps a h hl=>by show(if(ps.zipIdx.map λq=>(Ce q.1,P.d (nD q.2))).length < au then(keyOf (.d (nD a))).map _ else Θ)=_;have:keyOf (.d (nD a))=Δ (Ce a):=rfl;rw[if_pos (by simpa using hl),this,XF,Ko AL h]
theorem uR:∀(xs:List D) (a b),aY (((xs.map P.d).drop a).take b)=Δ ((xs.drop a).take b):=λxs a b=>by rw[<-acB,<-acA,eY]
theorem Sa{a:Nat}{st:aI}(h:a<=xs.length):mJ (.d (.pl xs)) Θ (Δ (.d (.int (a:Int)))) st=Δ (.d (.pl (xs.take a))):=by show((bj st (.d (.pl xs))).bind λys=>(aY (tq ys Θ (Δ (a:Int)))).map λzs=>P.d (.pl zs))=_;simp only[bj,X3,tq,cR,Xf];rw[if_neg (by lia),uR];simp only[XF,aaa,aa1,Nat.sub_zero];congr 3;rw[Nat.min_eq_left h]
theorem Kp{a:Nat}{st:aI}(h:a<=xs.length):mJ (.d (.pl xs)) (Δ (.d (.int (a:Int)))) Θ st=Δ (.d (.pl (xs.drop a))):=by show((bj st (.d (.pl xs))).bind λys=>(aY (tq ys (Δ (a:Int)) Θ)).map λzs=>P.d (.pl zs))=_;simp only[bj,X3,tq,cR,Xf];rw[if_neg (by lia),uR];simp only[XF,aa1];congr 3;rw[Nat.min_eq_left h,Ye (by simp)]
theorem Dr:∀ns:List Nat,intsOf ((ns.map nD).map P.d)=Δ (ns.map λ(n:Nat)=>(n:Int))
 |[]=>rfl|n::ns=>by rw[Xo,Xo];show(intsOf ((ns.map nD).map P.d)).map _=_;rw[Dr ns];rfl
theorem idx_int:∀(ns:List Nat) (q:Nat),(ns.map λ(n:Nat)=>(n:Int)).idxOf (q:Int)=ns.idxOf q
 |[],q=>rfl|n::ns,q=>by
  rw[Xo,ack,ack,idx_int ns q];by_cases e:n=q;·subst e;simp
  ·have h1:(n==q)=Ξ:=by simpa using e
   have h2:((n:Int)==(q:Int))=Ξ:=by rw[beq_eq_false_iff_ne];lia
   rw[h1,h2]
theorem Hv{ns:List Nat}(h:q∈ns):pz (.d (.pl (ns.map nD))) (.d (.int (q:Int))) st=Δ (.d (nD (ns.idxOf q))):=by unfold pz;simp only[bj,X3,Dr];rw[if_pos (Y7.mpr ⟨q,h,rfl⟩),idx_int];rfl
theorem AM{i j:Nat}(h:aa C e r st=.ok (.d (.int (i:Int))) st)(h':aa C e' r st=.ok (.d (.int (j:Int))) st)(hi:i < 1000000)(hj:j < 1000000):cn C (.fZ [e,e']) r st=.ok ((W8 (j - i)).map λk:Nat=>.d (.int ((i+k:Nat):Int))) st:=by
 have c1: -jn<=(i:Int)/\(i:Int) < jn/\ -jn<=(j:Int)/\(j:Int) < jn:=by unfold jn;lia
 have:nS [.d (.int (i:Int)),.d (.int (j:Int))]=Δ ((W8 (j - i)).map λk:Nat=>P.d (.int ((i+k:Nat):Int))):=by unfold nS;simp only[if_pos c1,Ea];congr 1;rw[show((j:Int) - (i:Int)).toNat=j - i by lia];apply abt;intro k _;simp
 rw[pE,aj,h,ae,aj,h',ae,ay,ae,ae,ae,this,av]
end Y
namespace Y
section
variable{α:Type}[DecidableEq α]{step:α->List α}{good:α->Nat}
theorem AN(u9:∀p∈F,∀q∈step p,q∈F)(hl:∀p∈F,(step p).length=w):∀{u} {i} {p},F[i]?=Δ p->Wd w u->gd (fu step good F) (walk (fu step good F) i u)=good (vK step p u)
 |[],i,p,hp,_=>by show(row _ i).1=good p;rw[su hp];rfl|a::u,i,p,hp,hu=>by
  have ha:=hu.head;have R3:=Xw hp;have hlp:=hl p R3;have hq:(step p)[a]?=Δ ((step p)[a]'(by lia)):=Xc (by lia);have R4:=u9 p R3 _ (Ya (by lia:a < (step p).length));have es:bg (fu step good F) i a=F.idxOf ((step p)[a]'(by lia)):=by unfold bg;rw[su hp];show((step p).map _).getD a 0=_;rw[Xd,Xi,hq];rfl
  show gd _ (walk _ (bg _ i a) u)=good (vK step (((step p)[a]?).getD p) u);rw[es,hq];exact AN u9 hl (by rw[Xc (Yp R4),aaK];rfl) hu.tail
end
theorem yt{f:Nat->Nat}(ok:dD w m)(hf:∀i,i < m.length->f i < m'.length)(hg:∀i,i < m.length->gd m i=gd m' (f i))(hs:∀i a,i < m.length->a < w->f (bg m i a)=bg m' (f i) a):∀{u} {i},i < m.length->Wd w u->gd m (walk m i u)=gd m' (walk m' (f i) u)
 |[],i,hi,_=>hg i hi|a::u,i,hi,hu=>by show gd m (walk m (bg m i a) u)=gd m' (walk m' (bg m' (f i) a) u);rw[yt ok hf hg hs (ok.bg hi hu.head) hu.tail,hs i a hi hu.head]
theorem Hw(ok:dD w m):∀{u} {p},p < m.length->Wd w u->vK (λo=>(row m o).2) p u=walk m p u
 |[],p,_,_=>rfl|a::u,p,hp,hu=>by
  have hl:=ok.len _ (aV hp);have ha:=hu.head;have e:(((row m p).2)[a]?).getD p=bg m p a:=by unfold bg;rw[Xd,Xc (by lia)];rfl
  show vK _ ((((row m p).2)[a]?).getD p) u=walk m (bg m p a) u;rw[e];exact Hw ok (ok.bg hp ha) hu.tail
def qP(l:List Nat)(a x:Nat):List Nat:=l.take a++[x]++l.drop a
def rB(x:Int):Nat->List Nat
 |0=>[0]|k+1=>qP (rB x k) (1+(drawn x (k+1) % ((k+1:Nat):Int)).toNat) (k+1)
theorem EA l a x:(qP l a x).length=l.length+1:=by unfold qP;simp;lia
theorem lR x:∀k,(rB x k).length=k+1
 |0=>rfl|k+1=>by rw[rB,EA,lR x k]
theorem EB:y∈qP l a x↔y∈l\/y=x:=by
 unfold qP;have h:=aal a l;rw[Zq,Zq,Yg];constructor
 ·rintro((z|z)|z);·exact .inl (List.mem_of_mem_take z)
  ·exact .inr z
  ·exact .inl (List.mem_of_mem_drop z)
 ·rintro(z|z)
  ·rw[<-h,Zq] at z;rcases z with z|z;·exact .inl (.inl z)
   ·exact .inr z
  ·exact .inl (.inr z)
theorem oz x:∀{k y},y∈rB x k↔y<=k
 |0,y=>by simp[rB]|k+1,y=>by rw[rB,EB,oz x];lia
theorem AO x:∀k,(rB x k)[0]?=Δ 0
 |0=>rfl|k+1=>by rw[rB];unfold qP;have hl:=lR x k;rw[X7,Xg (by rw[Yu];lia),List.getElem?_take,if_pos (by lia)];exact AO x k
def HW(x:Int)(m:cX):cX:=fu (λo=>(row m o).2) (gd m) (rB x (m.length - 1))
theorem Hx(ok:dD w m)x:∀p∈rB x (m.length - 1),∀q∈(row m p).2,q∈rB x (m.length - 1):=λp hp q hq=>by
 have DR:p < m.length:=by have:=(oz x).mp hp;have:=ok.ne;lia
 have:=ok.lt _ (aV DR) q hq;exact(oz x).mpr (by lia)
theorem Om(ok:dD w m)x:dD w (HW x m)/\gD w (HW x m) 0 m 0/\(HW x m).length=m.length:=by
 have eZ:∀p∈rB x (m.length - 1),p < m.length:=λp hp=>by have:=(oz x).mp hp;have:=ok.ne;lia
 have hlen:(HW x m).length=m.length:=by show(aah _ _).length=_;rw[Xf,lR];have:=ok.ne;lia
 refine⟨⟨by rw[hlen];exact ok.ne,λs hs=>?_,λs hs=>?_,λs hs t ht=>?_⟩,λu hu=>?_,hlen⟩;·obtain⟨p,hp,rfl⟩:=Y7.mp hs;exact ok.good (row m p) (aV (eZ p hp))
 ·obtain⟨p,hp,rfl⟩:=Y7.mp hs;show(aah _ _).length=w;rw[Xf];exact ok.len _ (aV (eZ p hp))
 ·obtain⟨p,hp,rfl⟩:=Y7.mp hs;obtain⟨q,hq,rfl⟩:=Y7.mp (show t∈((row m p).2).map λq=>(rB x (m.length - 1)).idxOf q from ht);have:=Yp (Hx ok x p hp q hq);rw[hlen,lR] at*;have:=ok.ne
  lia
 ·rw[show gd (HW x m) (walk (HW x m) 0 u)=gd m (vK (λo=>(row m o).2) 0 u) from AN (Hx ok x) (λp hp=>ok.len _ (aV (eZ p hp))) (AO x _) hu,Hw ok ok.ne hu]
def twin(x:Int)(m:cX):Nat:=(x % (m.length:Int)).toNat
def yN(x:Int)(m:cX)(k l s:Nat):Nat:=if s=twin x m/\drawn x (9*k+l) % 2=1 then m.length else s
def EY(x:Int)(m:cX)(k:Nat):Nat×List Nat:=((row (m++[row m (twin x m)]) k).1,((row (m++[row m (twin x m)]) k).2.zipIdx).map λq=>yN x m k q.2 q.1)
def EC(x:Int)(m:cX):cX:=(W8 (m.length+1)).map (EY x m)
def EZ(x:Int)(m:cX)(i:Nat):Nat:=if i < m.length then i else twin x m
theorem Oo(ok:dD w m)x:dD w (EC x m)/\gD w (EC x m) 0 m 0/\(EC x m).length=m.length+1:=by
 have ne:=ok.ne;have tl:twin x m < m.length:=by have:=bN x (show(0:Int) < (m.length:Int) by lia);unfold twin;lia
 have hlen:(EC x m).length=m.length+1:=by simp[EC]
 have Lv:∀k,k < m.length+1->row (m++[row m (twin x m)]) k=row m (EZ x m k):=λk hk=>by
  unfold EZ;by_cases h:k < m.length;·rw[if_pos h];unfold row;rw[Xd,Xg h,<-Xd]
  ·rw[if_neg h];have:k=m.length:=by lia
   subst this
   conv=>lhs;unfold row
   rw[Xd,Xy (Xj _)];simp[row]
 have fl:∀k,EZ x m k < m.length:=λk=>by unfold EZ;split<;>lia
 have Sb:∀k,k < m.length+1->row (EC x m) k=EY x m k:=λk hk=>by unfold row EC;rw[Xd,Xi,YD hk];rfl
 have dsl:∀k l s,s < m.length->yN x m k l s < m.length+1/\EZ x m (yN x m k l s)=s:=λk l s hs=>by
  unfold yN;split;·rename_i h;refine⟨by lia,?_⟩;unfold EZ;rw[if_neg (by lia),h.1]
  ·refine⟨by lia,?_⟩;unfold EZ;rw[if_pos hs]
 have TF:dD w (EC x m):=by
  refine⟨by rw[hlen];lia,λs hs=>?_,λs hs=>?_,λs hs t ht=>?_⟩;·obtain⟨k,hk,rfl⟩:=Y7.mp hs;show(row _ k).1<=1;rw[Lv k (Yl.mp hk)];exact ok.good _ (aV (fl k))
  ·obtain⟨k,hk,rfl⟩:=Y7.mp hs;show(aah _ (acW (row _ k).2)).length=w;rw[Xf,List.length_zipIdx,Lv k (Yl.mp hk)];exact ok.len _ (aV (fl k))
  ·obtain⟨k,hk,rfl⟩:=Y7.mp hs;obtain⟨q,hq,rfl⟩:=Y7.mp (show t∈aah _ (acW (row _ k).2) from ht);rw[Lv k (Yl.mp hk)] at hq;have h2:=List.mem_zipIdx' hq;have h3:q.1∈(row m (EZ x m k)).2:=by rw[h2.2];exact Ya _
   rw[hlen];exact(dsl k q.2 q.1 (ok.lt _ (aV (fl k)) _ h3)).1
 refine⟨TF,λu hu=>?_,hlen⟩;have:=yt (f:=EZ x m) TF (λi hi=>fl i) (λi hi=>by
  rw[hlen] at hi;unfold gd;rw[Sb i hi];show(row _ i).1=_;rw[Lv i hi]) (λi a hi ha=>by
  rw[hlen] at hi;have hl:=ok.len _ (aV (fl i));have e:bg (EC x m) i a=yN x m i a (bg m (EZ x m i) a):=by unfold bg;rw[Sb i hi];show(aah _ (acW (row _ i).2)).getD a 0=_;rw[Lv i hi,Xd,Xi,List.getElem?_zipIdx,Xc (by lia)];simp only[XF,abX,XN];rw[Xd,Xc (by lia)];rfl
  rw[e];exact(dsl i a _ (ok.bg (fl i) ha)).2) (i:=0) (by rw[hlen];lia) hu
 rw[this];have:EZ x m 0=0:=by unfold EZ;rw[if_pos ne]
 rw[this]
def ED(w:Nat)(m:cX):cX:=m++(W8 (1+m.length % 3)).map λk=>(k % 2,X6 w k)
theorem Oq(ok:dD w m):dD w (ED w m)/\gD w (ED w m) 0 m 0/\(ED w m).length=m.length+(1+m.length % 3):=by
 have ne:=ok.ne;have hlen:(ED w m).length=m.length+(1+m.length % 3):=by simp[ED]
 have Lv:∀k,k < m.length->row (ED w m) k=row m k:=λk hk=>by unfold row ED;rw[Xd,Xg hk,<-Xd]
 refine⟨⟨by rw[hlen];lia,λs hs=>?_,λs hs=>?_,λs hs t ht=>?_⟩,λu hu=>?_,hlen⟩
 ·rcases Zq.mp hs with z|z;·exact ok.good s z
  ·obtain⟨k,hk,rfl⟩:=Y7.mp z;dsimp only
   lia
 ·rcases Zq.mp hs with z|z;·exact ok.len s z
  ·obtain⟨k,hk,rfl⟩:=Y7.mp z;simp
 ·rw[hlen];rcases Zq.mp hs with z|z;·have:=ok.lt s z t ht;lia
  ·obtain⟨k,hk,rfl⟩:=Y7.mp z;rw[Yl] at hk;have:=(List.mem_replicate.mp ht).2
   lia
 ·have:=yt (w:=w) (m:=m) (m':=ED w m) (f:=id) ok (λi hi=>by rw[hlen];simp;lia) (λi hi=>by unfold gd;rw[id,Lv i hi]) (λi a hi ha=>by unfold bg;rw[id,id,Lv i hi]) ne hu;exact this.symm
def fw(w:Nat):Nat->List (List Nat)
 |0=>[[]]|k+1=>(fw w k).flatMap λu=>(W8 w).map λa=>u++[a]
def bZ(w N:Nat):List (List Nat):=(W8 (N+1)).flatMap (fw w)
theorem lS:∀{k} {u},u∈fw w k↔Wd w u/\u.length=k
 |0,u=>by
  simp only[fw,Yg];constructor;·rintro rfl;exact⟨Wd.nil,rfl⟩
  ·rintro⟨_,h⟩;exact List.length_eq_zero_iff.mp h
 |k+1,u=>by
  simp only[fw,abe,Y7,Yl];constructor;·rintro⟨v,hv,a,ha,rfl⟩;obtain⟨h1,h2⟩:=lS.mp hv;exact⟨h1.app (Wd.nil.cons ha),by simp[h2]⟩
  ·rintro⟨h1,h2⟩;have fi:u≠[]:=λz=>by rw[z] at h2;simp at h2
   refine⟨u.dropLast,lS.mpr ⟨λb hb=>h1 b (List.dropLast_subset u hb),by simp[h2]⟩,u.getLast fi,h1 _ (List.getLast_mem fi),List.dropLast_concat_getLast fi⟩
theorem Cf(h:u∈bZ w N):Wd w u:=by obtain⟨k,_,hk⟩:=abe.mp h;exact(lS.mp hk).1
theorem xb w:∀k,(fw w k).length=w ^ k
 |0=>rfl|k+1=>by
  rw[fw];have:∀l:List (List Nat),(l.flatMap λu=>(W8 w).map λa=>u++[a]).length=l.length*w:=λl=>by induction l with|nil=>simp|cons u l ih=>rw[aaq,Xz,ih];simp[aaY,acI]
  rw[this,xb w k,Nat.pow_succ]
end Y
namespace Y
open PySem
mutual
theorem AQ:∀x:D,vB x x=Λ
 |.bz=>rfl|.bl b=>beq_self_eq_true b|.int i=>beq_self_eq_true i|.str s=>beq_self_eq_true s|.tup xs=>p7 xs|.pl xs=>p7 xs
theorem p7:∀xs:List D,gX xs xs=Λ
 |[]=>rfl|x::xs=>by rw[CN,AQ x,p7 xs];rfl
end
theorem Ot u:lY (wD u)<=1:=by
 have:∀u:List Nat,ke (u.map nD)=0:=λu=>by induction u with|nil=>rfl|cons x u ih=>rw[Xo,xH,ih];rfl
 unfold wD;rw[MR,this];exact Xj _
theorem Ou m:lY (mD m)<=3:=by
 have:∀m:cX,ke (m.map cy)<=2:=λm=>by
  induction m with
  |nil=>exact Yq _|cons s m ih=>
   rw[Xo,xH];have h:=Ot s.2;have h2:lY (cy s)<=2:=by unfold cy;exact Nat.succ_le_succ (Nat.max_le.mpr ⟨Yq _,Nat.max_le.mpr ⟨h,Yq _⟩⟩)
   exact Nat.max_le.mpr ⟨h2,ih⟩
 exact Nat.succ_le_succ (this m)
theorem Ov m:rV (mD m) (mD m)=Δ Λ:=by unfold rV;rw[if_pos (by have:=Ou m;lia),AQ]
theorem AR:∀(k) {l} {r r1} {st st1} {res},ah C (l.take k) r st=.ok (.nx r1) st1->ah C (l.drop k) r1 st1=res->ah C l r st=res
 |0,l,r,r1,st,st1,res,h1,h2=>by rw[List.take_zero,jT] at h1;cases h1;exact h2|k+1,[],r,r1,st,st1,res,h1,h2=>by rw[List.take_nil,jT] at h1;cases h1;exact h2|k+1,s::l,r,r1,st,st1,res,h1,h2=>by rw[List.take_succ_cons,e8] at h1;rw[e8];cases hs:aP C s r st with|ex x s=>rw[hs] at h1;cases h1|no=>rw[hs] at h1;cases h1|ok f st2=>rw[hs,ae] at h1;rw[ae];cases f with|nx r2=>exact AR k h1 h2|bk r2=>cases h1|ct r2=>cases h1|rt v=>cases h1
end Y
namespace Sd
open PySem Y
def k8:List S:=[.app (.ix (.var 2) (.ix (.ix (.var 4) (.cst (.int 1))) (.var 1))) (.var 3)]
def g9:Fn:={np:=2,nn:=5,sh:=Λ,body:=[.set 2 (.lst Λ (.comp (.ex (.var 0)) 1 [] Θ (.lst Λ (.dZ [])))),
  .ff (.two 3 4) (.enum (.var 0)) k8,
  .ret (.var 2)]}
def jC:List S:=[.expr (.tp (.var 2) (.var 4) (.var 3))]
def fz:Fn:={np:=1,nn:=5,body:=[.set 1 (.make 17 "Groups" [.var 0]),
  .expr (.pf 21 "Groups" "settle" 1 []),
  .set 2 (.pd Ξ),
  .jc 3 4 (.attr "Groups" "group_of" 1) jC,
  .ret (.lst Ξ (.cj (.attr "Groups" "group_of" 1) [2] Θ (.ix (.var 1) (.var 0))))]}
noncomputable def dQ:List S:=[.ifs (.cmp .nO (.var 8) (.var 3)) [.put (.var 3) (.var 8) (.bf .len [.var 4]),
  .app (.var 4) (.var 8)] []]
def jD:List S:=[.set 6 (.ix (.var 4) (.bf .len [.var 5])),
  .set 7 (.nP 1 [.var 6]),
  .ff (.nm 8) (.ex (.var 7)) dQ,
  .app (.var 5) (.tup [.nP 2 [.var 6],.bf .tuple [.lst Ξ (.comp (.ex (.var 7)) 1 [3] Θ (.ix (.var 1) (.var 0)))]])]
def cJ:Fn:={np:=3,nn:=9,body:=[.set 3 (.D7 (.var 0) (.int 0)),
  .set 4 (.lst Λ (.dZ [.var 0])),
  .set 5 (.lst Λ (.dZ [])),
  .kK (.cmp .lt (.bf .len [.var 5]) (.bf .len [.var 4])) jD,
  .ret (.bf .tuple [.var 5])]}
def oA:Fn:={np:=1,nn:=3,body:=[.set 1 (.iT 1 [.var 0] [(22,[1,0]),(23,[0])]),
  .nL 2 22,
  .ret (.iT 2 [.ix (.var 1) (.cst (.int 0)),.var 2,.lam 23] [(22,[1,0]),(23,[0])])]}
def cK:Fn:={np:=2,nn:=2,body:=[.ifs (.cmp .lt (.var 1) (.bf .len [.var 0])) [.ret (.ix (.var 0) (.var 1))] [],
  .ret (.cst (.int 0))]}
def fA:Fn:={np:=2,nn:=3,body:=[.set 2 (.op .mod (.op .mul (.op .add (.op .add (.call 4 [.var 0,.var 1]) (.op .mul (.cst (.int 7919)) (.var 1))) (.cst (.int 1))) (.cst (.int 48271))) (.cst (.int 2147483647))),
  .ret (.op .mod (.op .add (.op .add (.op .mul (.var 2) (.var 2)) (.op .mul (.cst (.int 7)) (.var 2))) (.var 1)) (.cst (.int 2147483629)))]}
def fB:Fn:={np:=2,nn:=3,body:=[.set 2 (.op .mod (.op .mul (.op .add (.op .add (.var 0) (.op .mul (.cst (.int 104729)) (.var 1))) (.cst (.int 17))) (.cst (.int 69621))) (.cst (.int 2147483647))),
  .ret (.op .mod (.op .add (.op .add (.op .mul (.var 2) (.var 2)) (.op .mul (.cst (.int 3)) (.var 2))) (.var 1)) (.cst (.int 2147483629)))]}
noncomputable def iB:List S:=[.set 4 (.op .add (.var 4) (.lst Ξ (.comp (.fZ [.var 0]) 1 [5] Θ (.op .add (.var 1) (.tup [.var 0])))))]
def k9:List S:=[.set 4 (.lst Ξ (.dZ [])),
  .ff (.nm 5) (.ex (.var 2)) iB,
  .set 2 (.var 4),
  .set 1 (.op .add (.var 1) (.var 2))]
def dR:Fn:={np:=1,nn:=6,body:=[.set 1 (.lst Ξ (.dZ [.tup []])),
  .set 2 (.lst Ξ (.dZ [.tup []])),
  .ff (.nm 3) (.fZ [.ix (.lst Ξ (.dZ [.cst (.int 0),.cst (.int 8),.cst (.int 5),.cst (.int 4)])) (.var 0)]) k9,
  .ret (.var 1)]}
noncomputable def fX:List S:=[.set 6 (.bf .tuple [.lst Ξ (.comp (.fZ [.var 1]) 1 [3,0,5] Θ (.op .mod (.call 6 [.var 2,.op .add (.op .mul (.cst (.int 7)) (.var 3)) (.var 0)]) (.var 1)))]),
  .app (.var 4) (.tup [.op .mod (.op .mod (.call 6 [.var 0,.op .add (.op .mul (.cst (.int 7)) (.var 5)) (.cst (.int 5))]) (.cst (.int 3))) (.cst (.int 2)),.var 6])]
def cL:Fn:={np:=3,nn:=7,body:=[.set 3 (.op .add (.cst (.int 1)) (.op .mod (.var 0) (.var 2))),
  .set 4 (.lst Λ (.dZ [])),
  .ff (.nm 5) (.fZ [.var 3]) fX,
  .ret (.bf .tuple [.var 4])]}
def yu:List S:=[.set 2 (.ix (.ix (.ix (.var 0) (.var 2)) (.cst (.int 1))) (.var 3))]
def jZ:Fn:={np:=2,nn:=4,body:=[.set 2 (.cst (.int 0)),
  .ff (.nm 3) (.ex (.var 1)) yu,
  .ret (.cmp .eq (.ix (.ix (.var 0) (.var 2)) (.cst (.int 0))) (.cst (.int 1)))]}
def eD:Fn:={np:=2,nn:=2,body:=[.ret (.and [.Gq (.var 0) "int",.not (.Gq (.var 0) "bool"),.chain .le .le (.cst (.int 0)) (.var 0) (.var 1)])]}
noncomputable def cH:List S:=[.ifs (.or [.not (.Gq (.var 2) "tuple"),.cmp .ne (.bf .len [.var 2]) (.cst (.int 2)),.not (.call 10 [.ix (.var 2) (.cst (.int 0)),.cst (.int 1)])]) [.ret (.cst (.bl Ξ))] [],
  .ifs (.or [.not (.Gq (.ix (.var 2) (.cst (.int 1))) "tuple"),.cmp .ne (.bf .len [.ix (.var 2) (.cst (.int 1))]) (.var 1)]) [.ret (.cst (.bl Ξ))] [],
  .ifs (.cmp .ne (.lst Ξ (.comp (.ex (.ix (.var 2) (.cst (.int 1)))) 1 [0] (Δ (.not (.call 10 [.var 0,.op .sub (.bf .len [.var 1]) (.cst (.int 1))]))) (.var 0))) (.lst Ξ (.dZ []))) [.ret (.cst (.bl Ξ))] []]
def bp:Fn:={np:=2,nn:=3,body:=[.ifs (.or [.not (.Gq (.var 0) "tuple"),.cmp .eq (.var 0) (.tup [])]) [.ret (.cst (.bl Ξ))] [],
  .ff (.nm 2) (.ex (.var 0)) cH,
  .ret (.cst (.bl Λ))]}
noncomputable def gG:List S:=[.ifs (.cmp .ne (.ix (.ix (.var 0) (.var 3)) (.cst (.int 0))) (.ix (.ix (.var 0) (.var 4)) (.cst (.int 0)))) [.put (.var 2) (.tup [.var 3,.var 4]) (.cst (.bl Λ))] []]
def gH:List S:=[.ff (.nm 4) (.fZ [.var 1]) gG]
noncomputable def gI:List S:=[.set 6 (.lst Ξ (.zip (.ix (.ix (.var 0) (.var 3)) (.cst (.int 1))) (.ix (.ix (.var 0) (.var 4)) (.cst (.int 1))))),
  .ifs (.bf .any [.lst Ξ (.comp (.ex (.var 6)) 1 [2] Θ (.cmp .isin (.var 0) (.var 1)))]) [.put (.var 2) (.tup [.var 3,.var 4]) (.cst (.bl Λ))] []]
def gJ:List S:=[.ff (.nm 4) (.fZ [.var 1]) gI]
def gK:List S:=[.ff (.nm 3) (.fZ [.var 1]) gJ]
def eE:Fn:={np:=1,nn:=7,sh:=Λ,body:=[.set 1 (.bf .len [.var 0]),
  .set 2 (.pd Λ),
  .ff (.nm 3) (.fZ [.var 1]) gH,
  .ff (.nm 5) (.fZ [.var 1]) gK,
  .ret (.var 2)]}
noncomputable def dz:List S:=[.ifs (.cmp .nO (.var 4) (.var 2)) [.app (.var 2) (.var 4)] []]
def bE:List S:=[.ifs (.cmp .ge (.var 3) (.bf .len [.var 2])) [.ret (.cst (.bl Ξ))] [],
  .ff (.nm 4) (.ex (.ix (.ix (.var 0) (.ix (.var 2) (.var 3))) (.cst (.int 1)))) dz]
def eU:Fn:={np:=2,nn:=6,body:=[.ifs (.not (.call 11 [.var 0,.var 1])) [.ret (.cst (.bl Ξ))] [],
  .set 2 (.lst Λ (.dZ [.cst (.int 0)])),
  .ff (.nm 3) (.fZ [.bf .len [.var 0]]) bE,
  .ifs (.cmp .ne (.var 2) (.lst Ξ (.fZ [.bf .len [.var 0]]))) [.ret (.cst (.bl Ξ))] [],
  .set 5 (.call 12 [.var 0]),
  .ret (.cmp .eq (.bf .len [.var 5]) (.op .sub (.op .mul (.bf .len [.var 0]) (.bf .len [.var 0])) (.bf .len [.var 0])))]}
noncomputable def lg:List S:=[.set 5 (.op .add (.cst (.int 1)) (.op .mod (.call 6 [.var 1,.var 4]) (.bf .len [.var 3]))),
  .set 3 (.op .add (.op .add (.slice (.var 3) Θ (Δ (.var 5))) (.lst Ξ (.dZ [.var 4]))) (.slice (.var 3) (Δ (.var 5)) Θ))]
noncomputable def lh:List S:=[.app (.var 6) (.tup [.ix (.ix (.var 0) (.var 7)) (.cst (.int 0)),.bf .tuple [.lst Ξ (.comp (.ex (.ix (.ix (.var 0) (.var 7)) (.cst (.int 1)))) 1 [3] Θ (.index (.var 1) (.var 0)))]])]
def fD:Fn:={np:=2,nn:=8,body:=[.set 2 (.bf .len [.var 0]),
  .set 3 (.lst Ξ (.dZ [.cst (.int 0)])),
  .ff (.nm 4) (.fZ [.cst (.int 1),.var 2]) lg,
  .set 6 (.lst Λ (.dZ [])),
  .ff (.nm 7) (.ex (.var 3)) lh,
  .ret (.bf .tuple [.var 6])]}
noncomputable def jE:List S:=[.ifs (.and [.cmp .eq (.var 9) (.var 3),.cmp .eq (.op .mod (.call 6 [.var 1,.op .add (.op .mul (.cst (.int 9)) (.var 5)) (.var 8)]) (.cst (.int 2))) (.cst (.int 1))]) [.set 9 (.var 2)] [],
  .app (.var 7) (.var 9)]
def jF:List S:=[.set 7 (.lst Λ (.dZ [])),
  .ff (.two 8 9) (.enum (.ix (.var 6) (.cst (.int 1)))) jE,
  .app (.var 4) (.tup [.ix (.var 6) (.cst (.int 0)),.bf .tuple [.var 7]])]
def cM:Fn:={np:=2,nn:=10,body:=[.set 2 (.bf .len [.var 0]),
  .set 3 (.op .mod (.var 1) (.var 2)),
  .set 4 (.lst Λ (.dZ [])),
  .ff (.two 5 6) (.enum (.op .add (.var 0) (.tup [.ix (.var 0) (.var 3)]))) jF,
  .ret (.bf .tuple [.var 4])]}
def Ds:List S:=[.ifs (.cmp .ne (.call 9 [.var 5,.var 6]) (.call 9 [.var 2,.var 6])) [.ret (.cst (.bl Ξ))] []]
def oB:Fn:={np:=1,nn:=7,body:=[.set 1 (.op .add (.cst (.int 1)) (.op .mod (.call 5 [.var 0,.cst (.int 0)]) (.cst (.int 3)))),
  .set 2 (.call 8 [.call 5 [.var 0,.cst (.int 1)],.var 1,.cst (.int 6)]),
  .set 3 (.op .mod (.call 5 [.var 0,.cst (.int 2)]) (.cst (.int 3))),
  .set 4 (.op .add (.var 2) (.bf .tuple [.lst Ξ (.comp (.fZ [.op .add (.cst (.int 1)) (.op .mod (.bf .len [.var 2]) (.cst (.int 3)))]) 1 [1] Θ (.tup [.op .mod (.var 0) (.cst (.int 2)),.op .mul (.tup [.var 0]) (.var 1)]))])),
  .ifs (.cmp .eq (.var 3) (.cst (.int 1))) [.set 4 (.call 14 [.var 2,.call 5 [.var 0,.cst (.int 3)]])] [],
  .ifs (.cmp .eq (.var 3) (.cst (.int 2))) [.set 4 (.call 15 [.var 2,.call 5 [.var 0,.cst (.int 3)]])] [],
  .set 5 (.call 3 [.var 2]),
  .ifs (.or [.not (.call 13 [.var 5,.var 1]),.cmp .ne (.call 3 [.var 4]) (.var 5),.cmp .ne (.call 3 [.var 5]) (.var 5)]) [.ret (.cst (.bl Ξ))] [],
  .ff (.nm 6) (.ex (.call 7 [.var 1])) Ds,
  .ret (.cst (.bl Λ))]}
def gS:List S:=[.put (.ix (.attr "Groups" "members" 0) (.ix (.var 3) (.cst (.int 0)))) (.var 2) (.cst (.bl Λ))]
def fE:Fn:={np:=2,nn:=4,sh:=Λ,body:=[.lX "Groups" "sources" 0 (.lst Λ (.comp (.fZ [.bf .len [.ix (.ix (.var 1) (.cst (.int 0))) (.cst (.int 1))]]) 1 [1] Θ (.call 0 [.var 1,.var 0]))),
  .lX "Groups" "group_of" 0 (.lst Λ (.comp (.ex (.var 1)) 1 [] Θ (.ix (.var 0) (.cst (.int 0))))),
  .lX "Groups" "members" 0 (.lst Λ (.dZ [.pd Ξ,.pd Ξ])),
  .ff (.two 2 3) (.enum (.var 1)) gS,
  .lX "Groups" "waiting" 0 (.lst Λ (.dZ [.cst (.int 0),.cst (.int 1)])),
  .lX "Groups" "waits" 0 (.lst Λ (.dZ [.cst (.bl Λ),.cst (.bl Λ)]))]}
def cB:Fn:={np:=2,nn:=2,sh:=Λ,body:=[.app (.attr "Groups" "waiting" 0) (.var 1),
  .put (.attr "Groups" "waits" 0) (.var 1) (.cst (.bl Λ))]}
noncomputable def gv:List S:=[.expr (.D5 (.var 3) (.var 5)),
  .put (.ix (.attr "Groups" "members" 0) (.var 4)) (.var 5) (.cst (.bl Λ)),
  .put (.attr "Groups" "group_of" 0) (.var 5) (.var 4)]
def bx:Fn:={np:=3,nn:=6,sh:=Λ,body:=[.set 3 (.ix (.attr "Groups" "members" 0) (.var 1)),
  .ifs (.cmp .eq (.bf .len [.var 2]) (.bf .len [.var 3])) [.D8] [],
  .set 4 (.bf .len [.attr "Groups" "members" 0]),
  .app (.attr "Groups" "members" 0) (.pd Ξ),
  .app (.attr "Groups" "waits" 0) (.cst (.bl Ξ)),
  .iH (.nm 5) (.var 2) gv,
  .ifs (.or [.ix (.attr "Groups" "waits" 0) (.var 1),.cmp .le (.bf .len [.var 2]) (.bf .len [.var 3])]) [.expr (.pf 18 "Groups" "let_wait" 0 [.var 4])] [.expr (.pf 18 "Groups" "let_wait" 0 [.var 1])]]}
def cN:List S:=[.app (.tp (.var 3) (.ix (.attr "Groups" "group_of" 0) (.var 5)) (.lst Λ (.dZ []))) (.var 5)]
def cO:List S:=[.iH (.nm 5) (.ix (.ix (.attr "Groups" "sources" 0) (.var 2)) (.var 4)) cN]
def fc:List S:=[.expr (.pf 19 "Groups" "set_apart" 0 [.var 6,.var 7])]
def cg:Fn:={np:=3,nn:=8,sh:=Λ,body:=[.set 3 (.pd Ξ),
  .ff (.nm 4) (.ex (.var 1)) cO,
  .BP 6 7 (.var 3) fc]}
noncomputable def iW:List S:=[.expr (.pf 20 "Groups" "set_apart_by" 0 [.var 2,.var 3])]
def fF:List S:=[.set 1 (.D6 (.attr "Groups" "waiting" 0)),
  .put (.attr "Groups" "waits" 0) (.var 1) (.cst (.bl Ξ)),
  .set 2 (.lst Ξ (.keys (.ix (.attr "Groups" "members" 0) (.var 1)))),
  .ff (.nm 3) (.fZ [.bf .len [.attr "Groups" "sources" 0]]) iW]
def gM:Fn:={np:=1,nn:=4,sh:=Λ,body:=[.kK (.cmp .gt (.bf .len [.attr "Groups" "waiting" 0]) (.cst (.int 0))) fF]}
def fY:Fn:={np:=3,nn:=3,body:=[.ret (.lst Ξ (.comp (.ex (.ix (.ix (.var 2) (.var 0)) (.cst (.int 1)))) 1 [1] Θ (.ix (.var 1) (.var 0))))]}
def dj:Fn:={np:=2,nn:=2,body:=[.ret (.ix (.ix (.var 1) (.var 0)) (.cst (.int 0)))]}
def Fs:List Fn:=[g9,fz,cJ,oA,cK,fA,fB,dR,cL,jZ,eD,bp,eE,eU,fD,cM,oB,fE,cB,bx,cg,gM,fY,dj]
theorem vL:Fs[0]?=Δ g9:=rfl
theorem rD:Fs[1]?=Δ fz:=rfl
theorem rE:Fs[2]?=Δ cJ:=rfl
theorem Hy:Fs[3]?=Δ oA:=rfl
theorem rF:Fs[4]?=Δ cK:=rfl
theorem vM:Fs[5]?=Δ fA:=rfl
theorem vN:Fs[6]?=Δ fB:=rfl
theorem vO:Fs[7]?=Δ dR:=rfl
theorem rG:Fs[8]?=Δ cL:=rfl
theorem AS:Fs[9]?=Δ jZ:=rfl
theorem uS:Fs[10]?=Δ eD:=rfl
theorem m7:Fs[11]?=Δ bp:=rfl
theorem uT:Fs[12]?=Δ eE:=rfl
theorem p8:Fs[13]?=Δ eU:=rfl
theorem vP:Fs[14]?=Δ fD:=rfl
theorem rH:Fs[15]?=Δ cM:=rfl
theorem Ow:Fs[16]?=Δ oB:=rfl
theorem m8:Fs[17]?=Δ fE:=rfl
theorem m9:Fs[18]?=Δ cB:=rfl
theorem gT:Fs[19]?=Δ bx:=rfl
theorem j0:Fs[20]?=Δ cg:=rfl
theorem p9:Fs[21]?=Δ gM:=rfl
theorem oE:Fs[22]?=Δ fY:=rfl
theorem qa:Fs[23]?=Δ dj:=rfl
section
variable{w:Nat}{m:cX}(ok:dD w m)(hm:m.length<=100000)
def jf(m:cX)(a k:Nat):aI:=(W8 m.length).map λt=>O.lst (((W8 k).filter λs=>decide (bg m s a=t)).map λx=>P.d (nD x))
def l6(b n:Nat):O:=.lst ((W8 n).map λt=>P.obj (b+t))
theorem dn a k:(jf m a k).length=m.length:=by simp[jf]
theorem lj(ht:t < m.length):(jf m a k)[t]?=Δ (O.lst (((W8 k).filter λs=>decide (bg m s a=t)).map λx=>P.d (nD x))):=by simp[jf,ht]
theorem EE:(jf m a k).set (bg m k a) (O.lst ((((W8 k).filter λs=>decide (bg m s a=bg m k a)).map λx=>P.d (nD x))++[P.d (nD k)]))=jf m a (k+1):=by
 apply abH;intro t;by_cases ht:t < m.length
 ·rw[lj ht,Ys,aae,XW];by_cases e:bg m k a=t;·subst e;rw[XC (by rw[dn];exact ht)];simp
  ·rw[Xe e,lj ht];simp[e]
 ·rw[XI (by rw[YL,dn];lia),XI (by rw[dn];lia)]
include ok hm
theorem yv(n:Nat)(a:Nat)(ha:a < w)(st:aI):callC Fs (n+1) 0 [.d (mD m),.d (nD a)] st=.ok (.obj (st.length+m.length)) (st++jf m a m.length++[l6 st.length m.length]):=by
 refine yf vL rfl rfl ?_;have e1:bc (callC Fs n) (.comp (.ex (.var 0)) 1 [] Θ (.lst Λ (.dZ []))) (az 5 [.d (mD m),.d (nD a)]) st=.ok ((W8 m.length).map λt=>P.obj (st.length+t)) (st++jf m a 0):=by
  rw[Ai];have ew:cn (callC Fs n) (.ex (.var 0)) (az 5 [.d (mD m),.d (nD a)]) st=.ok ((m.map cy).map .d) st:=by simp[az,mD]
  rw[ew,ae,if_pos (by simp[au];lia)];obtain⟨zs,aK,e,q⟩:=p4 (g:=λp=>Δ p::bY [] (az 5 [.d (mD m),.d (nD a)])) (c:=bB (callC Fs n) Θ) (e:=λr' aK=>aa (callC Fs n) (.lst Λ (.dZ [])) r' aK) (I:=λk ys s=>ys=(W8 k).map (λt=>P.obj (st.length+t))/\s=st++X6 k (O.lst [])) (ps:=(m.map cy).map .d) (k:=0) (ys:=[]) (st:=st)
   (λi p ys s ⟨h1,h2⟩ hp=>⟨.obj s.length,s++[.lst []],by simp,by simp[au],by
    rw[XN] at h1 h2 ⊢;subst h1 h2;refine⟨?_,?_⟩;·rw[Ys,XW];simp
    ·rw[X7,List.replicate_succ']⟩) ⟨by simp,by simp⟩
  obtain⟨q1,q2⟩:=q;rw[e];simp only[Zp,XN,Xf] at q1 q2;rw[q1,q2];congr 2;apply abH;intro t;by_cases ht:t < m.length;·rw[lj ht];simp[ht]
  ·rw[XI (by simp;lia),XI (by rw[dn];lia)]
 refine ag (aW (v:=.obj (st.length+m.length)) (st1:=st++jf m a 0++[l6 st.length m.length]) ?_) ?_;·show aa (callC Fs n) (.lst Λ (.comp (.ex (.var 0)) 1 [] Θ (.lst Λ (.dZ [])))) (az 5 [.d (mD m),.d (nD a)]) st=_;rw[iU,e1,ae];simp[dn,l6]
 obtain⟨r',s',e,⟨y3,y4,q1⟩,q2⟩:=di (g:=gz (.two 3 4)) (b:=ah (callC Fs n) k8) (ps:=c0 0 (m.map cy)) (k:=0) (r:=[Δ (.d (mD m)),Δ (.d (nD a)),Δ (.obj (st.length+m.length)),Θ,Θ]) (st:=st++jf m a 0++[l6 st.length m.length])
  (I:=λk r s=>(∃y3 y4,r=[Δ (.d (mD m)),Δ (.d (nD a)),Δ (.obj (st.length+m.length)),y3,y4])/\s=st++jf m a k++[l6 st.length m.length])
  (λi p r s ⟨⟨y3,y4,h1⟩,h2⟩ hp=>by
   rw[XN] at h2 ⊢;subst h1 h2;rw[jw,Xi] at hp;have hi:i < m.length:=by
    by_cases z:i < m.length;·exact z
    ·rw[XI (by lia)] at hp;simp at hp
   rw[yj hi] at hp;simp only[XF,aao,XN] at hp;subst hp;have ht:=ok.bg hi ha;have hl:=ok.len _ (aV hi);have g1:(st++jf m a i++[l6 st.length m.length])[st.length+m.length]?=Δ (l6 st.length m.length):=by rw[show st.length+m.length=(st++jf m a i).length by simp[dn]];simp
   have g2:(st++jf m a i++[l6 st.length m.length])[st.length+bg m i a]?=Δ (O.lst (((W8 i).filter λs=>decide (bg m s a=bg m i a)).map λx=>P.d (nD x))):=by rw[J2 (by rw[dn];exact ht),lj ht]
   refine⟨_,[Δ (.d (mD m)),Δ (.d (nD a)),Δ (.obj (st.length+m.length)),Δ (.d (nD i)),Δ (.d (cy (row m i)))],st++jf m a (i+1)++[l6 st.length m.length],rfl,?_,⟨⟨_,_,rfl⟩,rfl⟩⟩;refine ag (kg (x:=.obj (st.length+bg m i a)) (v:=.d (nD i)) (its:=((W8 i).filter λs=>decide (bg m s a=bg m i a)).map λx=>P.d (nD x)) (st1:=st++jf m a i++[l6 st.length m.length]) (st2:=st++jf m a i++[l6 st.length m.length]) ?_ (fk g2) (by simp[nD]) ?_) aq;·generalize st++jf m a i++[l6 st.length m.length]=S at g1 g2;have e1:nA ((row m i).2.map nD) (a:Int)=Δ (nD (bg m i a)):=RY ok hi ha;simp[cy,wD,e1,nD,iw g1 (show((W8 m.length).map λt=>P.obj (st.length+t))[bg m i a]?=Δ (.obj (st.length+bg m i a)) by simp[ht])]
   ·rw[fm g2 (by
     have:((W8 i).filter λs=>decide (bg m s a=bg m i a)).length<=i:=by have:=ZH (λs=>decide (bg m s a=bg m i a)) (W8 i);simpa using this
     unfold au;simp only[Xf]
     lia),J1 (by rw[dn];exact ht),EE]) ⟨⟨Θ,Θ,rfl⟩,rfl⟩
 rw[jx,Xf,XN] at q2;subst q1 q2;refine ag (dh (ps:=c0 0 (m.map cy)) (st1:=st++jf m a 0++[l6 st.length m.length]) (by simp[az,g9,mD]) e) ?_;exact aQ (dg (by simp))
end
section
variable{m:cX}{w b:Nat}{mb:List Nat}{st aK:aI}{h:nh}
theorem mq n(hs:HS m w b mb st h)(hg:g < h.iF.length)(hw:h.wait.length < au):
  callC Fs (n+1) 18 [.obj 0,.d (nD g)] st=.ok (.d .bz) ((st.set (b+5) (encL (h.wait++[g]))).set (b+6) (jB (h.iF.set g Λ))):=by
 refine kW m9 rfl rfl (r:=[Δ (.obj 0),Δ (.d (nD g))]) ?_;have hl:=hs.len;have e1:(st.set (b+5) (encL (h.wait++[g])))[b+6]?=Δ (jB h.iF):=by rw[Xe (by lia)];exact hs.iF
 have s1:(st.set (b+5) (encL (h.wait++[g])))[0]?=Δ (iA b):=by rw[Xe (by lia)];exact hs.self
 refine ag (kg (x:=.obj (b+5)) (v:=.d (nD g)) (its:=h.wait.map λs=>P.d (nD s)) (st1:=st) (st2:=st) (cY rfl hs.self rfl) (fk hs.Pa) (by simp[az,cB]) (st3:=st.set (b+5) (encL (h.wait++[g]))) ?_) ?_;·rw[fm hs.Pa (by simpa using hw)];simp[encL]
 ·refine ag (oi (x:=.obj (b+6)) (k:=.d (nD g)) (v:=.d (.bl Λ)) (st1:=st.set (b+5) (encL (h.wait++[g]))) (st2:=st.set (b+5) (encL (h.wait++[g]))) (st3:=st.set (b+5) (encL (h.wait++[g]))) (by simp) (cY rfl s1 rfl) (by simp[az,cB]) ?_) (st1:=(st.set (b+5) (encL (h.wait++[g]))).set (b+6) (jB (h.iF.set g Λ))) aq;·rw[show nD g=.int (g:Int) from rfl,yi e1 (by simpa using hg)];simp[jB,acK]
end
section
variable{m:cX}{w b:Nat}{mb:List Nat}{st aK:aI}{h:nh}
theorem uU n(hs:HS m w b mb st h)(hl:st[l]?=Δ (encL ss))(ho:EX b mb l)(hg:g < h.mem.length)(My:∀s∈ss,s∈h.mem.getD g [])(Eu:ss.Nodup)(Wj:∀s∈ss,s < h.grp.length)(S3:h.iF.length=h.mem.length)(hw:h.wait.length < au)(hml:h.mem.length < 1000000)(hsl:ss.length < 1000000):
  ∃vf aK,callC Fs (n+2) 19 [.obj 0,.d (nD g),.obj l] st=.ok (.d .bz) aK/\HS m w b vf aK (aB h g ss)/\st.length<=aK.length/\∀i,i < st.length->EX b mb i->aK[i]?=st[i]?/\EX b vf i:=by
 obtain⟨a,Se,Nl,ha3,ha4⟩:=hs.mem g hg;have hlen:=hs.len;have TJ:a≠l:=λz=>ho.2 (z▸Xw Se);have TK:l < st.length:=(qqz hl).1;have hll2:=ho.1;have eN:ss.length=(ss.map λs=>P.d (nD s)).length:=by simp
 have e1:aa (callC Fs (n+1)) (.ix (.attr "Groups" "members" 0) (.var 1)) (az 6 [.obj 0,.d (nD g),.obj l]) st=.ok (.obj a) st:=by rw[bI,cY rfl hs.self rfl,ae];simp only[az,aN,nD];simp[iw hs.Lr (show(mb.map P.obj)[g]?=Δ (.obj a) by rw[Xi,Se];rfl)]
 have el:oQ .len [.obj l] st=Δ (.d (.int (ss.length:Nat))):=by rw[g6 hl];simp
 have ea:oQ .len [.obj a] st=Δ (.d (.int ((h.mem.getD g []).length:Nat))):=by have:=He (show st[a]?=Δ (.dK _) from ha4);rw[this];simp
 by_cases hc:ss.length=(h.mem.getD g []).length
 ·refine⟨mb,st,?_,?_,Xj _,λi _ hi=>⟨rfl,hi⟩⟩
  ·refine yf gT rfl rfl (ag (aW e1) (aQ (iu (st1:=st) ?_ (aQ tM))));simp[az,bx,el,ea];rw[Xd] at hc
   lia
  ·unfold aB;rw[if_pos hc];exact hs
 ·
  let fr:=h.mem.length
  let nw:=st.length
  let J:Nat->aI->Prop:=λi s=>s.length=st.length+1/\(∀k,k < st.length->k≠a->k≠b+1->k≠b+4->k≠b+6->s[k]?=st[k]?)/\s[a]?=Δ (encM ((h.mem.getD g []).filter λx=>decide (x∉ss.take i)))/\s[st.length]?=Δ (encM (ss.take i))/\
   s[b+1]?=Δ (encL (putAll h.mem.length (ss.take i) h.grp))/\s[b+4]?=Δ (.lst ((mb++[st.length]).map P.obj))/\s[b+6]?=Δ (jB (h.iF++[Ξ]))
  have ab:a≠b+1/\a≠b+4/\a≠b+5/\a≠b+6/\a≠b/\0 < a:=by rcases Nl with z|z|z<;>lia
  have J0:J 0 (((st++[O.dK []]).set (b+4) (.lst ((mb++[st.length]).map P.obj))).set (b+6) (jB (h.iF++[Ξ]))):=by
   refine⟨by simp,λk hk k1 k2 k3 k4=>?_,?_,?_,?_,?_,?_⟩;·rw[Xe (Yj k4),Xe (Yj k3),Xg hk]
   ·rw[Xe (by lia),Xe (by lia),Xg ha3,ha4,List.take_zero];congr 2;exact(List.filter_eq_self.mpr λx _=>by simp).symm
   ·rw[Xe (by lia),Xe (by lia)];simp[encM]
   ·rw[Xe (by lia),Xe (by lia),Xg (by lia),hs.grp];simp[putAll]
   ·rw[Xe (by lia),XC (by simp;lia)]
   ·rw[XC (by simp;lia)]
  obtain⟨r',s',e,⟨y5,q1⟩,q2⟩:=uz (n:=l) (g:=gz (.nm 5)) (b:=ah (callC Fs (n+1)) gv) (xs:=ss.map λs=>P.d (nD s)) (I:=λi r s=>(∃y5,r=[Δ (.obj 0),Δ (.d (nD g)),Δ (.obj l),Δ (.obj a),Δ (.d (nD h.mem.length)),y5])/\J i s)
   (λi r s hi=>by rw[hi.2.2.1 l TK (Yj TJ) (by lia) (by lia) (by lia),hl];rfl)
   (λi p r s ⟨⟨y5,h1⟩,j1,j2,j3,j4,j5,j6,j7⟩ hp=>by
    subst h1;rw[Xi] at hp;cases Lw:ss[i]? with
    |none=>rw[Lw] at hp;cases hp|some x=>
     rw[Lw] at hp;cases hp;have hx:=Xw Lw;have s0:s[0]?=Δ (iA b):=by rw[j2 0 (by lia) (by lia) (by lia) (by lia) (by lia)];exact hs.self
     have xr:x∈(h.mem.getD g []).filter λy=>decide (y∉ss.take i):=by rw[Yt];exact⟨My x hx,by simpa using AJ Eu Lw⟩
     have tl:(ss.take i).length < au:=J5 i hsl;have p1:=Ht j3 xr;have k4:(s.set a (encM (((h.mem.getD g []).filter λy=>decide (y∉ss.take i)).filter λy=>decide (y≠x))))[st.length]?=Δ (encM (ss.take i)):=by rw[Xe (by lia)];exact j4
     have k6:(s.set a (encM (((h.mem.getD g []).filter λy=>decide (y∉ss.take i)).filter λy=>decide (y≠x))))[b+4]?=Δ (.lst ((mb++[st.length]).map P.obj)):=by rw[Xe (by lia)];exact j6
     have k0:(s.set a (encM (((h.mem.getD g []).filter λy=>decide (y∉ss.take i)).filter λy=>decide (y≠x))))[0]?=Δ (iA b):=by rw[Xe (by lia)];exact s0
     have k5:(s.set a (encM (((h.mem.getD g []).filter λy=>decide (y∉ss.take i)).filter λy=>decide (y≠x))))[b+1]?=Δ (encL (putAll h.mem.length (ss.take i) h.grp)):=by rw[Xe (by lia)];exact j5
     have p2:=uO k4 (AJ Eu Lw) tl;generalize TL:s.set a (encM (((h.mem.getD g []).filter λy=>decide (y∉ss.take i)).filter λy=>decide (y≠x)))=S1 at*;have S1l:S1.length=st.length+1:=by rw[<-TL];simpa using j1
     have l5:(S1.set st.length (encM (ss.take i++[x])))[b+1]?=Δ (encL (putAll h.mem.length (ss.take i) h.grp)):=by rw[Xe (by lia)];exact k5
     have l0:(S1.set st.length (encM (ss.take i++[x])))[0]?=Δ (iA b):=by rw[Xe (by lia)];exact k0
     have p3:=yi (v:=P.d (nD h.mem.length)) l5 (i:=x) (by simp only[Xf,mX];exact Wj x hx);refine⟨_,[Δ (.obj 0),Δ (.d (nD g)),Δ (.obj l),Δ (.obj a),Δ (.d (nD h.mem.length)),Δ (.d (nD x))],(S1.set st.length (encM (ss.take i++[x]))).set (b+1) (encL (putAll h.mem.length (ss.take (i+1)) h.grp)),rfl,?_,⟨_,rfl⟩,?_,λk hk k1 k2 k3 k4=>?_,?_,?_,?_,?_,?_⟩
     ·refine ag (mU (v:=.d (.bl Λ)) (st1:=S1) ?_) ?_;·rw[tB];simp[Hs j3,p1]
      refine ag (oi (x:=.obj st.length) (k:=.d (nD x)) (v:=.d (.bl Λ)) (st1:=S1) (st2:=S1) (st3:=S1) (by simp) ?_ (by simp) p2) ?_;·rw[bI,cY rfl k0 rfl,ae];have:=iw k6 (i:=h.mem.length) (p:=.obj st.length) (by rw[Xi,Xy (by rw[hs.rA];exact Xj _),hs.rA];simp);simp[nD,this]
      refine ag (oi (x:=.obj (b+1)) (k:=.d (nD x)) (v:=.d (nD h.mem.length)) (st1:=S1.set st.length (encM (ss.take i++[x]))) (st2:=S1.set st.length (encM (ss.take i++[x]))) (st3:=S1.set st.length (encM (ss.take i++[x]))) (by simp) (cY rfl l0 rfl) (by simp) (show nR _ (.d (.int (x:Int))) _ _=_ from p3)) ?_;rw[aq];simp only[encL,<-acK,AI Lw];rfl
     ·simpa using S1l
     ·rw[Xe (by lia),Xe (by lia),<-TL,Xe (by lia)];exact j2 k hk k1 k2 k3 k4
     ·rw[Xe (by lia),Xe (by lia),<-TL,XC (by lia),AH Lw]
     ·rw[Xe (by lia),XC (by lia)];have e:ss.take (i+1)=ss.take i++[x]:=by rw[Yv,Lw];rfl
      rw[e]
     ·rw[XC (by simp;lia)]
     ·rw[Xe (by lia),Xe (by lia)];exact k6
     ·rw[Xe (by lia),Xe (by lia),<-TL,Xe (by lia)];exact j7)
   dW (i:=0) ⟨⟨Θ,rfl⟩,J0⟩ (Yq _) (by simp[dW];lia)
  subst q1;rw[Xf] at q2;obtain⟨j1,j2,j3,j4,j5,j6,j7⟩:=q2;rw[Ye (Xj _)] at j3 j4 j5;have s0:s'[0]?=Δ (iA b):=by rw[j2 0 (by lia) (by lia) (by lia) (by lia) (by lia)];exact hs.self
  have hS:HS m w b (mb++[st.length]) s' ⟨putAll h.mem.length ss h.grp,h.mem.set g ((h.mem.getD g []).filter λs=>decide (s∉ss))++[ss],h.wait,h.iF++[Ξ]⟩:=by
   refine⟨by lia,hs.b0,s0,?_,j5,j6,by simp[hs.rA],λk hk=>?_,?_,?_,j7⟩
   ·obtain⟨outer,o1,o2,o3⟩:=hs.src;have hb0:=hs.b0;refine⟨outer,by rw[j2 b (by lia) (by lia) (by lia) (by lia) (by lia)];exact o1,o2,λa' Th=>?_⟩;have ab':b+2<=a:=by rcases Nl with z|z|z<;>lia
    obtain⟨o,rows,f1,f2,f3,f4,f5⟩:=o3 a' Th;refine⟨o,rows,f1,f2,f3,by rw[j2 o (by lia) (by lia) (by lia) (by lia) (by lia)];exact f4,λt ht=>?_⟩;obtain⟨l',g1,g2,g3,g4⟩:=f5 t ht;exact⟨l',g1,g2,g3,by rw[j2 l' (by lia) (by lia) (by lia) (by lia) (by lia)];exact g4⟩
   ·by_cases vp:k < h.mem.length
    ·by_cases wb:k=g;·subst wb;refine⟨a,by rw[Xg (by rw[hs.rA];exact vp)];exact Se,Nl,by lia,?_⟩;rw[j3];show _=Δ (encM ((h.mem.set k _++[ss]).getD k []));rw[iz (by simpa using vp),fb vp]
     ·obtain⟨a',c1,c2,c3,c4⟩:=hs.mem k vp;have:a'≠a:=λz=>wb (by rw[z] at c1;obtain⟨x1,y1⟩:=qqz c1;obtain⟨x2,y2⟩:=qqz Se;exact yr hs.R7 x1 x2 (y1.trans y2.symm));refine⟨a',by rw[Xg (by rw[hs.rA];exact vp)];exact c1,c2,by lia,?_⟩;rw[j2 a' c3 this (by rcases c2 with z|z|z<;>lia) (by rcases c2 with z|z|z<;>lia) (by rcases c2 with z|z|z<;>lia),c4];show _=Δ (encM ((h.mem.set g _++[ss]).getD k []));rw[iz (by simpa using vp),dI (Yj wb)]
    ·have e2:k=h.mem.length:=by simp at hk;lia
     subst e2;refine⟨st.length,by rw[<-hs.rA];simp,.inr (.inr hlen),by lia,?_⟩;rw[j4];show _=Δ (encM ((h.mem.set g _++[ss]).getD h.mem.length []));congr 2;have:=iV (l:=h.mem.set g ((h.mem.getD g []).filter λs=>decide (s∉ss))) (x:=ss) (d:=[]);rw[YL] at this;exact this.symm
   ·rw[X9];refine⟨hs.R7,by simp,λx hx y hy=>?_⟩;simp at hy;subst hy;have:=(hs.mad hx).2
    lia
   ·rw[j2 (b+5) (by lia) (by lia) (by lia) (by lia) (by lia)];exact hs.Pa
  have sl:s'[l]?=Δ (encL ss):=by rw[j2 l TK (Yj TJ) (by lia) (by lia) (by lia)];exact hl
  have ll:oQ .len [.obj l] s'=Δ (.d (.int (ss.length:Nat))):=by rw[g6 sl];simp
  have la:oQ .len [.obj a] s'=Δ (.d (.int (((h.mem.getD g []).filter λx=>decide (x∉ss)).length:Nat))):=by have:=He (show s'[a]?=Δ (.dK _) from j3);rw[this];simp
  have gw:g < h.iF.length:=by lia
  have wg:(h.iF++[Ξ])[g]?=Δ (h.iF.getD g Ξ):=by rw[Xg gw,Xd,Xc gw];rfl
  have wx:=iw j7 (i:=g) (p:=.d (.bl (h.iF.getD g Ξ))) (by rw[Xi,wg];rfl);have fr2:∀(s2:aI) (x y:O),s2=(s'.set (b+5) x).set (b+6) y->st.length<=s2.length/\∀i,i < st.length->EX b mb i->s2[i]?=st[i]?/\EX b (mb++[st.length]) i:=λs2 x y e2=>by
   subst e2;refine⟨by simp;lia,λi hi HX=>?_⟩;have:=HX.1;have hia:i≠a:=λz=>HX.2 (z▸Xw Se);refine⟨by rw[Xe (by lia),Xe (by lia)];exact j2 i hi hia (by lia) (by lia) (by lia),HX.1,λz=>?_⟩;rcases Zq.mp z with z|z;·exact HX.2 z
   ·simp at z;lia
  have fin:∃r2 s2,ah (callC Fs (n+1)) (bx.body.drop 6) [Δ (.obj 0),Δ (.d (nD g)),Δ (.obj l),Δ (.obj a),Δ (.d (nD h.mem.length)),y5] s'=.ok (.nx r2) s2/\HS m w b (mb++[st.length]) s2 (aB h g ss)/\st.length<=s2.length/\∀i,i < st.length->EX b mb i->s2[i]?=st[i]?/\EX b (mb++[st.length]) i:=by
   by_cases EV:h.iF.getD g Ξ=Λ\/ss.length<=((h.mem.getD g []).filter λx=>decide (x∉ss)).length
   ·have lw:=mq n hS (g:=h.mem.length) (by simp;lia) hw;have hq:=hS.R8 h.mem.length;obtain⟨f1,f2⟩:=fr2 _ _ _ rfl;refine⟨_,_,ag (iu (st1:=s') ?_ (ag (mU (v:=.d .bz) (oy rfl s0 rfl (ps:=[.d (nD h.mem.length)]) (st1:=s') (by simp) lw)) aq)) aq,?_,f1,f2⟩;·rw[tz,lG,bI,cY rfl s0 rfl];simp only[ae,aN,Xl,Xk,Xx,av,nD,wx];cases WH:h.iF.getD g Ξ with|true=>simp|false=>rw[WH] at EV;have Sf:=EV.resolve_left (by decide);simp[ll,la];rw[Xd] at Sf;simpa using Sf
    ·unfold aB;rw[if_neg hc];dsimp only;rw[if_pos EV];exact hq
   ·have lw:=mq n hS (g:=g) (by simp;lia) hw;have hq:=hS.R8 g;obtain⟨f1,f2⟩:=fr2 _ _ _ rfl;refine⟨_,_,ag (eh (st1:=s') ?_ (ag (mU (v:=.d .bz) (oy rfl s0 rfl (ps:=[.d (nD g)]) (st1:=s') (by simp) lw)) aq)) aq,?_,f1,f2⟩
    ·rw[tz,lG,bI,cY rfl s0 rfl];simp only[ae,aN,Xl,Xk,Xx,av,nD,wx];have h1:h.iF.getD g Ξ=Ξ:=by cases WH:h.iF.getD g Ξ with|true=>exact absurd (.inl WH) EV|false=>rfl
     rw[h1];have h2:¬ss.length<=((h.mem.getD g []).filter λx=>decide (x∉ss)).length:=λz=>EV (.inr z);simp[ll,la];rw[Xd] at h2;simpa using h2
    ·unfold aB;rw[if_neg hc];dsimp only;rw[if_neg EV];exact hq
  obtain⟨r2,s2,f0,f1,f2,f3⟩:=fin;refine⟨mb++[st.length],s2,kW gT rfl rfl (r:=r2) ?_,f1,f2,f3⟩;refine ag (aW e1) (ag (eh (st1:=st) ?_ aq) (ag (aW (v:=.d (nD h.mem.length)) (st1:=st) ?_) ?_))
  ·have:((ss.length:Int)==((h.mem.getD g []).length:Int))=Ξ:=by rw[beq_eq_false_iff_ne];lia
   simp[az,bx,el,ea];rw[Xd] at hc
   lia
  ·rw[bH,aj,cY rfl hs.self rfl];simp[g6 hs.Lr,nD,hs.rA]
  refine ag (kg (x:=.obj (b+4)) (v:=.obj st.length) (its:=mb.map P.obj) (st1:=st) (st2:=st++[O.dK []]) (cY rfl hs.self rfl) (fk hs.Lr) (by simp) (st3:=(st++[O.dK []]).set (b+4) (.lst ((mb++[st.length]).map P.obj))) ?_) ?_;·rw[fm (xs:=mb.map P.obj) (by rw[Xg (by lia)];exact hs.Lr) (by simp[au,hs.rA];lia)];simp
  have t0:((st++[O.dK []]).set (b+4) (.lst ((mb++[st.length]).map P.obj)))[0]?=Δ (iA b):=by rw[Xe (by lia),Xg (by lia)];exact hs.self
  have t6:((st++[O.dK []]).set (b+4) (.lst ((mb++[st.length]).map P.obj)))[b+6]?=Δ (jB h.iF):=by rw[Xe (by lia),Xg (by lia)];exact hs.iF
  refine ag (kg (x:=.obj (b+6)) (v:=.d (.bl Ξ)) (its:=h.iF.map λb=>P.d (.bl b)) (st1:=(st++[O.dK []]).set (b+4) (.lst ((mb++[st.length]).map P.obj))) (st2:=(st++[O.dK []]).set (b+4) (.lst ((mb++[st.length]).map P.obj))) (cY rfl t0 rfl) (fk t6) (by simp) (st3:=((st++[O.dK []]).set (b+4) (.lst ((mb++[st.length]).map P.obj))).set (b+6) (jB (h.iF++[Ξ]))) ?_) ?_;·rw[fm t6 (by simp[au];lia)];simp[jB]
  refine ag (Hd (n:=l) (st1:=((st++[O.dK []]).set (b+4) (.lst ((mb++[st.length]).map P.obj))).set (b+6) (jB (h.iF++[Ξ]))) (by simp[az,bx]) e) f0
end
section
variable{m:cX}{w b:Nat}{mb:List Nat}{st aK:aI}{h:nh}{T:List Nat}{R:Nat->Prop}{a:Nat}
theorem AU n(ok:dD w m)(hm:m.length<=100000)(hs:HS m w b mb st h)(hi:jY w m T R h)(ha:a < w)(Km:T.Nodup)(WI:∀t∈T,t < m.length)(hml:h.mem.length < 1000000):
  ∃y4 y5 s dl,forL (gz (.nm 4)) (ah (callC Fs n) cO) ((T.map nD).map .d) [Δ (.obj 0),Δ (.d (.pl (T.map nD))),Δ (.d (nD a)),Δ (.obj st.length),Θ,Θ,Θ,Θ] (st++[O.dK []])
   =.ok (.nx [Δ (.obj 0),Δ (.d (.pl (T.map nD))),Δ (.d (nD a)),Δ (.obj st.length),y4,y5,Θ,Θ]) s/\GS h.grp st.length st s (T.flatMap (dP m a)) dl:=by
 have hlen:=hs.len;have Lx:∀(l:List Nat),l.Nodup->(∀x∈l,x < m.length)->l.length<=m.length:=λl h1 h2=>by
  have:=fV h1 (xs:=W8 m.length) λs hs=>by simpa using h2 s hs
  simpa using this
 have FN:=si (m:=m) (a:=a) Km;have FL:∀x∈T.flatMap (dP m a),x < m.length:=λx hx=>(ow.mp hx).1;have flen:=Lx _ FN FL;have one:∀(s:aI) (done:List Nat) (dl:List Ls) (x:Nat) (y4 y5:Option P),GS h.grp st.length st s done dl->done.length < 1000000->(∀t∈dl,t.1 < h.mem.length)->x < m.length->
   ∃s2 Ol,ah (callC Fs n) cN [Δ (.obj 0),Δ (.d (.pl (T.map nD))),Δ (.d (nD a)),Δ (.obj st.length),y4,Δ (.d (nD x)),Θ,Θ] s=.ok (.nx [Δ (.obj 0),Δ (.d (.pl (T.map nD))),Δ (.d (nD a)),Δ (.obj st.length),y4,Δ (.d (nD x)),Θ,Θ]) s2/\GS h.grp st.length st s2 (done++[x]) Ol:=by
  intro s done dl x y4 y5 G hd hk hx;have s0:s[0]?=Δ (iA b):=by rw[G.pre 0 (by lia)];exact hs.self
  have s1:s[b+1]?=Δ (encL h.grp):=by rw[G.pre (b+1) (by lia)];exact hs.grp
  have knd:(dl.map (·.1)).Nodup:=by have:=(eA h.grp done).1;rw[<-G.proj,Zj] at this;exact this
  have Qn:dl.length < au:=by
   have:=fV knd (xs:=W8 h.mem.length) λg hg=>by obtain⟨t,ht,rfl⟩:=Y7.mp hg;simpa using hk t ht
   simp at this;unfold au
   lia
  obtain⟨v,its,s1',s2,Ol,e1,e2,e3,G'⟩:=G.next (x:=x) Qn (by unfold au;lia);refine⟨s2,Ol,?_,G'⟩;have hD:bC s (.obj st.length)=Δ (.dK (ve dl)):=by exact lQ G.qN
  have gx:(h.grp.map λs=>P.d (nD s))[x]?=Δ (.d (nD (h.grp.getD x 0))):=by
   have:x < h.grp.length:=by rw[hi.rn];exact hx
   rw[Xi,Xc this,Xd,Xc this];rfl
  refine ag (kg (x:=v) (v:=.d (nD x)) (its:=its) (st1:=s1') (st2:=s1') (st3:=s2) ?_ e2 (by simp) e3) aq;rw[kM];simp only[aN,Xk,Xl,Xx,av,ae,hD];rw[bI,cY rfl s0 rfl,ae];simp only[aN,Xk,Xl,Xx,av,ae];rw[show nD x=.int (x:Int) from rfl,iw s1 gx,av,ae,iU,fS,ay,ae];simp only[YM,Yq,if_true,ae];rw[e1,av,ae]
 obtain⟨outer,o1,o2,o3⟩:=hs.src;obtain⟨o,rows,f1,f2,f3,f4,f5⟩:=o3 a ha;have WJ:∀{s:aI} {done:List Nat} {dl:List Ls},GS h.grp st.length st s done dl->(∀x∈done,x < m.length)->∀t∈dl,t.1 < h.mem.length:=λ{s done dl} G hd t ht=>by
  have:(t.1,t.2.1)∈cA h.grp done:=by rw[<-G.proj];exact Y7.mpr ⟨t,ht,rfl⟩
  obtain⟨q1,q2⟩:=(eA h.grp done).2.1 _ _ this;cases z:t.2.1 with
  |nil=>exact absurd z q2|cons x r=>
   have hx:x∈t.2.1:=by rw[z];simp
   rw[q1,Yt,qqq] at hx;rw[<-hx.2];exact hi.blt x (hd x hx.1)
 obtain⟨r',s',e,⟨y4,y5,q1⟩,dl,q2⟩:=di (g:=gz (.nm 4)) (b:=ah (callC Fs n) cO) (ps:=(T.map nD).map .d) (k:=0) (r:=[Δ (.obj 0),Δ (.d (.pl (T.map nD))),Δ (.d (nD a)),Δ (.obj st.length),Θ,Θ,Θ,Θ]) (st:=st++[O.dK []])
  (I:=λk r s=>(∃y4 y5,r=[Δ (.obj 0),Δ (.d (.pl (T.map nD))),Δ (.d (nD a)),Δ (.obj st.length),y4,y5,Θ,Θ])/\∃dl,GS h.grp st.length st s ((T.take k).flatMap (dP m a)) dl)
  (λi p r s ⟨⟨y4,y5,h1⟩,dl,G⟩ hp=>by
   rw[XN] at G ⊢;subst h1;rw[Zj,Xi] at hp;cases HY:T[i]? with
   |none=>rw[HY] at hp;cases hp|some t=>
    rw[HY] at hp;cases hp;have htT:=Xw HY;obtain⟨l,g1,g2,g3,g4⟩:=f5 t (WI t htT);have EF:(T.take (i+1)).flatMap (dP m a)=(T.take i).flatMap (dP m a)++dP m a t:=by rw[Yv,HY,YS];simp
    have WK:∀j,∃rest,T.flatMap (dP m a)=(T.take i).flatMap (dP m a)++(dP m a t).take j++rest:=λj=>by
     refine⟨(dP m a t).drop j++(T.drop (i+1)).flatMap (dP m a),?_⟩;have h1:T.flatMap (dP m a)=(T.take (i+1)).flatMap (dP m a)++(T.drop (i+1)).flatMap (dP m a):=by rw[<-YS,aal]
     rw[h1,EF];simp only[X7];rw[<-X7 ((dP m a t).take j),aal]
    obtain⟨r2,s2,e2,⟨Ox,z1⟩,dl2,G2⟩:=uz (n:=l) (g:=gz (.nm 5)) (b:=ah (callC Fs n) cN) (xs:=(dP m a t).map λs=>P.d (nD s)) (I:=λj r s=>(∃y5,r=[Δ (.obj 0),Δ (.d (.pl (T.map nD))),Δ (.d (nD a)),Δ (.obj st.length),Δ (.d (nD t)),y5,Θ,Θ])/\∃dl,GS h.grp st.length st s ((T.take i).flatMap (dP m a)++(dP m a t).take j) dl)
     (λj r s ⟨_,dl,G⟩=>by rw[G.pre l (by lia)];exact g4)
     (λj p r s ⟨⟨y5,h1⟩,dl,G⟩ hp=>by
      subst h1;rw[Xi] at hp;cases hx:(dP m a t)[j]? with
      |none=>rw[hx] at hp;cases hp|some x=>
       rw[hx] at hp;cases hp;obtain⟨rest,hr⟩:=WK j;have WL:∀y∈(T.take i).flatMap (dP m a)++(dP m a t).take j,y < m.length:=λy hy=>FL y (by rw[hr];exact Yw _ hy);have WM:((T.take i).flatMap (dP m a)++(dP m a t).take j).length < 1000000:=by
        have:=congrArg abG hr;simp only[Xz] at this ⊢
        lia
       have hxm:x < m.length:=(kZ.mp (Xw hx)).1;obtain⟨s2,Ol,e2,G2⟩:=one s _ dl x (Δ (.d (nD t))) Θ G WM (WJ G WL) hxm;refine⟨_,_,s2,rfl,e2,⟨_,rfl⟩,Ol,?_⟩;rw[Yv,hx];simpa using G2)
     dW (i:=0) (r:=[Δ (.obj 0),Δ (.d (.pl (T.map nD))),Δ (.d (nD a)),Δ (.obj st.length),Δ (.d (nD t)),y5,Θ,Θ]) (st:=s) ⟨⟨y5,rfl⟩,dl,by simpa using G⟩ (Yq _) (by have:(dP m a t).length<=m.length:=Lx _ ((Zh).filter _) λx hx=>(kZ.mp hx).1;simp[dW];lia)
    subst z1;rw[Xf,Ye (Xj _),<-EF] at G2;refine⟨_,[Δ (.obj 0),Δ (.d (.pl (T.map nD))),Δ (.d (nD a)),Δ (.obj st.length),Δ (.d (nD t)),Ox,Θ,Θ],s2,rfl,?_,⟨_,_,rfl⟩,dl2,G2⟩;have s0:s[0]?=Δ (iA b):=by rw[G.pre 0 (by lia)];exact hs.self
    refine ag (Hd (n:=l) (st1:=s) ?_ e2) aq;rw[bI,bI,cY rfl s0 rfl,ae];have h1:=iw (st:=s) (n:=b) (by rw[G.pre b (by lia)];exact o1) (i:=a) (p:=.obj o) (by rw[Xi,f1];rfl);have h2:=iw (st:=s) (n:=o) (by rw[G.pre o (by lia)];exact f4) (i:=t) (p:=.obj l) (by rw[Xi,g1];rfl);simp only[aN,ZU,Xk,Xl,Xx,av,ae,nD,Function.comp,h1,h2]) ⟨⟨Θ,Θ,rfl⟩,[],by
   refine⟨rfl,by simp[ve],(λt h=>nomatch h),by simp,λi hi=>Xg hi,by simp⟩⟩
 subst q1;rw[Xf,Xf,XN,Ye (Xj _)] at q2;exact⟨y4,y5,s',dl,e,q2⟩
theorem oF n(ok:dD w m)(hm:m.length<=100000)(hs:HS m w b mb st h)(hi:jY w m T R h)(hn:vJ h)(ha:a < w)(hT:∀x y,x < m.length->y < m.length->x∈T->y∉T->¬gD w m x m y)(Km:T.Nodup)(WI:∀t∈T,t < m.length):
  ∃vf aK,callC Fs (n+3) 20 [.obj 0,.d (.pl (T.map nD)),.d (nD a)] st=.ok (.d .bz) aK/\HS m w b vf aK (eJ m h T a):=by
 have hlen:=hs.len;have bd:=vJ.bound hi hn;obtain⟨y4,y5,s,dl,eg,G⟩:=AU (n+2) ok hm hs hi ha Km WI (by lia);have FN:=si (m:=m) (a:=a) Km;have L:=λs=>ow (m:=m) (T:=T) (a:=a) (s:=s);obtain⟨s1,s2,s3⟩:=eA h.grp (T.flatMap (dP m a));have knd:(dl.map (·.1)).Nodup:=by rw[<-G.proj,Zj] at s1;exact s1
 have sD:HS m w b mb s h:=hs.keep (by have:=G.len;lia) λi hi _=>G.pre i hi;have IV:∀i,st.length<=i->EX b mb i:=λi hi=>⟨by lia,λz=>by have:=(hs.mad z).2;lia⟩;have IL:HS m w b mb (s.set st.length .vA) h:=sD.put (IV _ (Xj _)) _;have Ly:∀t∈dl,t.1 < h.mem.length/\(∀x,x∈t.2.1↔x∈h.mem.getD t.1 []/\bg m x a∈T)/\t.2.1.Nodup/\t.2.1≠[]:=λt ht=>by
  have hp:(t.1,t.2.1)∈cA h.grp (T.flatMap (dP m a)):=by rw[<-G.proj];exact Y7.mpr ⟨t,ht,rfl⟩
  obtain⟨e,fi⟩:=s2 _ _ hp;have vp:t.1 < h.mem.length:=by
   cases q:t.2.1 with
   |nil=>exact absurd q fi|cons x r=>
    have hx:x∈t.2.1:=by rw[q];simp
    rw[e,Yt,qqq] at hx;rw[<-hx.2];exact hi.blt x ((L x).mp hx.1).1
  refine⟨vp,λx=>?_,by rw[e];exact FN.filter _,fi⟩;rw[e,Yt,qqq,L,(hi.mem t.1 vp).2];constructor;·rintro⟨⟨p,q⟩,r⟩;exact⟨⟨p,r⟩,q⟩
  ·rintro⟨⟨p,r⟩,q⟩;exact⟨⟨p,q⟩,r⟩
 obtain⟨r',sF,eF,⟨y6,y7,z1⟩,Sg,hF,z2,z3,z4,z5,z6⟩:=Aj (x:=6) (y:=7) (b:=ah (callC Fs (n+2)) fc) (ps:=ve dl) (k:=0) (r:=[Δ (.obj 0),Δ (.d (.pl (T.map nD))),Δ (.d (nD a)),Δ (.obj st.length),y4,y5,Θ,Θ]) (st:=s.set st.length .vA)
  (I:=λk r s'=>(∃y6 y7,r=[Δ (.obj 0),Δ (.d (.pl (T.map nD))),Δ (.d (nD a)),Δ (.obj st.length),y4,y5,y6,y7])/\∃vf h',h'=((dl.take k).map (λt=>(t.1,t.2.1))).foldl (λh e=>aB h e.1 e.2) h/\HS m w b vf s' h'/\jY w m T R h'/\vJ h'/\
   (st.length < s'.length/\EX b vf st.length/\∀t∈dl.drop k,EX b vf t.2.2/\s'[t.2.2]?=Δ (encL t.2.1)/\t.1 < h'.mem.length/\(∀x,x∈t.2.1↔x∈h'.mem.getD t.1 []/\bg m x a∈T)))
  (λi kv r s' ⟨⟨y6,y7,h1⟩,vf,h',c1,c2,c3,c4,c5,c6,c7⟩ hp=>by
   rw[XN] at c1 c7 ⊢;subst h1;unfold ve at hp;rw[Xi] at hp;cases HY:dl[i]? with
   |none=>rw[HY] at hp;cases hp|some t=>
    rw[HY] at hp;cases hp;have htd:=Xw HY;obtain⟨Sh,WN⟩:=qqz HY;have edr:dl.drop i=t::dl.drop (i+1):=by rw[Yd Sh,WN]
    obtain⟨d1,d2,d3,d4⟩:=c7 t (by rw[edr];exact Xh);obtain⟨_,_,d5,d6⟩:=Ly t htd;have bd':=vJ.bound c3 c4;have wl:h'.wait.length<=h'.mem.length:=by
     have:=fV c3.Lq (xs:=W8 h'.mem.length) λg hg=>by simpa using((c3.wt g).mp hg).1
     simpa using this
    have tl:t.2.1.length<=m.length:=by
     have:=fV d5 (xs:=W8 m.length) λx hx=>by simpa using(((c3.mem t.1 d3).2 x).mp ((d4 x).mp hx).1).1
     simpa using this
    obtain⟨Si,st2,g1,g2,g3,g4⟩:=uU n c2 (g:=t.1) (l:=t.2.2) (ss:=t.2.1) d2 d1 d3 (λx hx=>((d4 x).mp hx).1) d5 (λx hx=>by rw[c3.rn];exact(((c3.mem t.1 d3).2 x).mp ((d4 x).mp hx).1).1) c3.mY (by unfold au;lia) (by lia) (by lia);obtain⟨i1,i2,i3,i4,i5,i6,i7⟩:=ou c3 d3 ha d4 d5 d6 hT ok;have n1:=qL c3 c4 d3 (λx hx=>((d4 x).mp hx).1) d5 d6;have s0:=c2.self;refine⟨_,st2,ag (mU (v:=.d .bz) (oy rfl c2.self rfl (ps:=[.d (nD t.1),.obj t.2.2]) (st1:=s') (by simp[ZU,xM,nD]) g1)) aq,⟨_,_,rfl⟩,Si,_,?_,g2,i1,n1,by lia,(g4 st.length c5 c6).2,λu hu=>?_⟩;·rw[Yv,HY,XW,ZV,<-c1];rfl
    ·obtain⟨u1,u2,u3,u4⟩:=c7 u (by rw[edr];exact Xb _ hu);have hul:u.2.2 < s'.length:=(qqz u2).1;obtain⟨v1,v2⟩:=g4 u.2.2 hul u1;have hut:u.1≠t.1:=λz=>by
      obtain⟨j,hj⟩:=abm hu;rw[List.getElem?_drop] at hj;obtain⟨QC,hje⟩:=qqz hj;have:=yr knd (i:=i) (j:=i+1+j) (by simpa using Sh) (by simpa using QC) (by simp only[List.getElem_map,WN,hje];exact z.symm)
      lia
     exact⟨v2,by rw[v1];exact u2,by lia,λx=>by rw[u4,i5 u.1 u3 hut]⟩)
  ⟨⟨Θ,Θ,rfl⟩,mb,h,by simp,IL,hi,hn,by have:=G.len;simpa using this,IV _ (Xj _),λt ht=>by rw[aaa] at ht;obtain⟨q1,q2,q3⟩:=G.at_ t ht;obtain⟨p1,p2,_⟩:=Ly t ht;exact⟨IV _ (by lia),by rw[Xe (by lia)];exact q3,p1,p2⟩⟩
 subst z1;obtain⟨z6,z7,_⟩:=z6;refine⟨Sg,sF.set st.length (.dK (ve dl)),kW j0 rfl rfl (r:=[Δ (.obj 0),Δ (.d (.pl (T.map nD))),Δ (.d (nD a)),Δ (.obj st.length),y4,y5,y6,y7]) ?_,?_⟩;·refine ag (aW (v:=.obj st.length) (st1:=st++[O.dK []]) (by simp)) ?_;refine ag (dh (ps:=(T.map nD).map .d) (st1:=st++[O.dK []]) (by simp[az,cg]) eg) ?_;exact ag (Ob (n:=st.length) (kvs:=ve dl) (st1:=s) (by simp) G.qN eF) aq
 ·have e:hF=eJ m h T a:=by rw[z2];unfold eJ;rw[<-G.proj,XN];unfold ve;rw[Xf,Ye (Xj _)]
  rw[<-e];exact z3.put z7 _
end
section
variable{m:cX}{w b:Nat}{mb:List Nat}{st aK:aI}{h:nh}
theorem Oy(hs:HS m w b mb st h)g:HS m w b mb ((st.set (b+5) (encL h.wait.dropLast)).set (b+6) (jB (h.iF.set g Ξ))) (k7 h g):=by
 have hl:=hs.len;have g0:∀i,i≠b+5->i≠b+6->((st.set (b+5) (encL h.wait.dropLast)).set (b+6) (jB (h.iF.set g Ξ)))[i]?=st[i]?:=λi h1 h2=>by rw[Xe (Yj h2),Xe (Yj h1)]
 refine⟨by simpa using hl,hs.b0,by rw[g0 0 (by lia) (by lia)];exact hs.self,?_,by rw[g0 _ (by lia) (by lia)];exact hs.grp,by rw[g0 _ (by lia) (by lia)];exact hs.Lr,hs.rA,λk hk=>?_,hs.R7,?_,?_⟩;·obtain⟨outer,e1,e2,e3⟩:=hs.src;refine⟨outer,by rw[g0 _ (by lia) (by lia)];exact e1,e2,λa ha=>?_⟩;obtain⟨o,rows,f1,f2,f3,f4,f5⟩:=e3 a ha;refine⟨o,rows,f1,f2,f3,by rw[g0 _ (by lia) (by lia)];exact f4,λt ht=>?_⟩;obtain⟨l,q1,q2,q3,q4⟩:=f5 t ht;exact⟨l,q1,q2,q3,by rw[g0 _ (by lia) (by lia)];exact q4⟩
 ·obtain⟨a,e1,e2,e3,e4⟩:=hs.mem k hk;refine⟨a,e1,e2,by simpa using e3,?_⟩;rw[g0 _ (by rcases e2 with z|z|z<;>lia) (by rcases e2 with z|z|z<;>lia)];exact e4
 ·rw[Xe (by lia),XC (by lia)];rfl
 ·rw[XC (by simp;lia)];rfl
theorem EG n(ok:dD w m)(hm:m.length<=100000)(hw:w<=1000)(hs:HS m w b mb st h)(hc:uJ w m h)(fi:h.wait≠[])y1 y2 y3:
  ∃y1' y2' TM vf aK,ah (callC Fs (n+3)) fF [Δ (.obj 0),y1,y2,y3] st=.ok (.nx [Δ (.obj 0),y1',y2',TM]) aK/\HS m w b vf aK (ox m w h):=by
 obtain⟨g,ew,eg,gl,gnd,glt,hT,ip,hn⟩:=Kn ok hc fi;have hlen:=hs.len;obtain⟨a,a1,a2,a3,a4⟩:=hs.mem g gl;have wl:=hc.1.mY
 let s1:=st.set (b+5) (encL h.wait.dropLast)
 let s2:=s1.set (b+6) (jB (h.iF.set g Ξ))
 have sD:HS m w b mb s2 (k7 h g):=Oy hs g;have p1:Gx (.obj (b+5)) st=Δ (.d (nD g),s1):=by
  have hw5:st[b+5]?=Δ (.lst (h.wait.map λs=>P.d (nD s))):=hs.Pa;have hx:(h.wait.map λs=>P.d (nD s))[(h.wait.map λs=>P.d (nD s)).length - 1]?=Δ (.d (nD g)):=by rw[ew];simp
  unfold Gx;simp only[hw5,hx,XF];congr 2;show st.set _ (O.lst _)=st.set _ (encL _);unfold encL;rw[List.map_dropLast]
 have Qh:s1[0]?=Δ (iA b):=by show(st.set _ _)[0]?=_;rw[Xe (by lia)];exact hs.self
 have s16:s1[b+6]?=Δ (jB h.iF):=by show(st.set _ _)[b+6]?=_;rw[Xe (by lia)];exact hs.iF
 have p2:nR (.obj (b+6)) (.d (nD g)) (.d (.bl Ξ)) s1=Δ s2:=by rw[show nD g=.int (g:Int) from rfl,yi s16 (by simp;lia)];simp[s2,jB,acK]
 obtain⟨a',c1,c2,c3,c4⟩:=sD.mem g gl;have p3:aa (callC Fs (n+3)) (.lst Ξ (.keys (.ix (.attr "Groups" "members" 0) (.var 1)))) [Δ (.obj 0),Δ (.d (nD g)),y2,y3] s2=.ok (.d (.pl ((h.mem.getD g []).map nD))) s2:=by
  rw[cV,tI,bI,cY rfl sD.self rfl,ae];have h1:=iw sD.Lr (i:=g) (p:=.obj a') (by rw[Xi,c1];rfl);have h2:tu s2 (.obj a')=Δ (a',(h.mem.getD g []).map λ(s:Nat)=>((.inl (s:Int):Sum Int Str),P.d (.bl Λ))):=by have:s2[a']?=Δ (.dK ((h.mem.getD g []).map λ(s:Nat)=>((.inl (s:Int):Sum Int Str),P.d (.bl Λ)))):=c4;unfold tu;simp only[this]
  simp only[aN,Xk,Xl,Xx,av,ae,nD,h1,h2];have h3:(((h.mem.getD g []).map λ(s:Nat)=>((.inl (s:Int):Sum Int Str),P.d (.bl Λ))).map λkv=>xM kv.1)=(h.mem.getD g []).map λs=>P.d (nD s):=by rw[Zj];rfl
  rw[h3,dq];rfl
 let T:=h.mem.getD g []
 obtain⟨outer,o1,o2,o3⟩:=sD.src;obtain⟨r',sF,eF,⟨TM,z1⟩,Sg,hF,RF,z2,z3,z4,z5⟩:=di (g:=gz (.nm 3)) (b:=ah (callC Fs (n+3)) iW) (ps:=(W8 w).map λk:Nat=>P.d (.int (k:Int))) (k:=0) (r:=[Δ (.obj 0),Δ (.d (nD g)),Δ (.d (.pl (T.map nD))),y3]) (st:=s2)
  (I:=λk r s=>(∃y3,r=[Δ (.obj 0),Δ (.d (nD g)),Δ (.d (.pl (T.map nD))),y3])/\∃vf h' R',h'=eK m T (W8 k) (k7 h g)/\HS m w b vf s h'/\jY w m T R' h'/\vJ h')
  (λi p r s ⟨⟨y3,h1⟩,vf,h',R',c1,c2,c3,c4⟩ hp=>by
   rw[XN] at c1 ⊢;subst h1;have hi:i < w:=by
    rw[Xi] at hp;by_cases z:i < w;·exact z
    ·rw[XI (by simpa using z)] at hp;cases hp
   have DR:p=.d (.int (i:Int)):=by rw[Xi,YD hi] at hp;cases hp;rfl
   subst DR;obtain⟨Si,st2,e1,e2⟩:=oF n ok hm c2 c3 c4 hi hT gnd glt;obtain⟨j1,j2,_,_⟩:=qM ok hi hT gnd c3 c4;refine⟨_,[Δ (.obj 0),Δ (.d (nD g)),Δ (.d (.pl (T.map nD))),Δ (.d (.int (i:Int)))],st2,rfl,ag (mU (v:=.d .bz) (oy rfl c2.self rfl (ps:=[.d (.pl (T.map nD)),.d (nD i)]) (st1:=s) (by simp[nD]) e1)) aq,⟨_,rfl⟩,Si,_,_,?_,e2,j1,j2⟩;rw[Ys];unfold eK at c1 ⊢;rw[ZV,<-c1];rfl)
  ⟨⟨y3,rfl⟩,mb,k7 h g,_,by simp[eK],sD,ip,hn⟩
 subst z1;rw[Xf,XS,XN] at z2;refine⟨Δ (.d (nD g)),Δ (.d (.pl (T.map nD))),TM,Sg,sF,?_,by
  have:hF=ox m w h:=by rw[z2];unfold ox;rw[eg]
  rw[<-this];exact z3⟩
 refine ag (aW (v:=.d (nD g)) (st1:=s1) ?_) ?_;·rw[tF,cY rfl hs.self rfl,ae,p1,av,ae]
 refine ag (oi (x:=.obj (b+6)) (k:=.d (nD g)) (v:=.d (.bl Ξ)) (st1:=s1) (st2:=s1) (st3:=s1) (by simp) (cY rfl Qh rfl) (by simp) p2) ?_;refine ag (aW (v:=.d (.pl (T.map nD))) (st1:=s2) p3) ?_;refine ag (dh (ps:=(W8 w).map λk:Nat=>P.d (.int (k:Int))) (st1:=s2) (cf ?_ (by lia)) eF) aq;rw[bH,aj,cY rfl sD.self rfl,ae,ay,ae,ae,g6 o1,av];simp[o2]
theorem AV n(ok:dD w m)(hm:m.length<=100000)(hw:w<=1000)(hs:HS m w b mb st h)(hc:uJ w m h)(hK:h.wait.length+(m.length+2 - h.mem.length)<=K)(hK2:K < 1000000):
  ∃vf aK,callC Fs (n+4) 21 [.obj 0] st=.ok (.d .bz) aK/\HS m w b vf aK (settle m w K h):=by
 obtain⟨r',sF,eF,Sg,zF⟩:=pZ (c:=b8 (aa (callC Fs (n+3)) (.cmp .gt (.bf .len [.attr "Groups" "waiting" 0]) (.cst (.int 0))))) (b:=ah (callC Fs (n+3)) fF)
  (I:=λk r s=>(∃y1 y2 y3,r=[Δ (.obj 0),y1,y2,y3])/\∃vf h',HS m w b vf s h'/\uJ w m h'/\h'.wait.length+(m.length+2 - h'.mem.length)<=k/\settle m w k h'=settle m w K h)
  (E:=λr s=>∃vf,HS m w b vf s (settle m w K h))
  (λk r s ⟨⟨y1,y2,y3,h1⟩,vf,h',c1,c2,c3,c4⟩=>by
   subst h1;have ec:b8 (aa (callC Fs (n+3)) (.cmp .gt (.bf .len [.attr "Groups" "waiting" 0]) (.cst (.int 0)))) [Δ (.obj 0),y1,y2,y3] s=.ok (decide (0 < h'.wait.length)) s:=by unfold b8;rw[bM,bH,aj,cY rfl c1.self rfl];simp[g6 c1.Pa]
   by_cases Pb:h'.wait=[]
   ·refine .inl ⟨by rw[ec,Pb];rfl,vf,?_⟩;have:settle m w k h'=h':=by cases k with|zero=>rfl|succ k=>unfold Y.settle;rw[if_pos Pb]
    rw[<-c4,this];exact c1
   ·have JD:0 < h'.wait.length:=List.length_pos_iff.mpr Pb;obtain⟨j,rfl⟩:∃j,k=j+1:=Nat.exists_eq_succ_of_ne_zero (Yr (XD JD (X5 (ZA ..) c3)));obtain⟨y1',y2',TM,Si,st2,e1,e2⟩:=EG n ok hm hw c1 c2 Pb y1 y2 y3;obtain⟨t1,t2,t3⟩:=AA ok c2 Pb;have b1:=vJ.bound t1.1 t1.2;have b2:=vJ.bound c2.1 c2.2;refine .inr ⟨j,rfl,by rw[ec,decide_eq_true JD],_,st2,e1,⟨_,_,_,rfl⟩,Si,_,e2,t1,Hq c3 t2 b1,?_⟩;rw[<-c4]
    conv=>rhs;unfold Y.settle
    rw[if_neg Pb])
  dW (k:=K) (r:=[Δ (.obj 0),Θ,Θ,Θ]) (st:=st) ⟨⟨_,_,_,rfl⟩,mb,h,hs,hc,hK,rfl⟩ (by unfold dW;lia)
 exact⟨Sg,sF,kW p9 rfl rfl (r:=r') (ag (Dg eF) aq),zF⟩
end
theorem lp{α:Type}{f:Nat->List α}{L:Nat}(hL:∀a,(f a).length=L):∀w,((W8 w).flatMap f).length=w*L
 |0=>by simp|w+1=>by rw[Ys,YS,Xz,lp hL w];simp[hL,aaY]
theorem AW{α:Type}{f:Nat->List α}{L:Nat}(hL:∀a,(f a).length=L):∀(w a t),a < w->t < L->((W8 w).flatMap f)[a*L+t]?=(f a)[t]?
 |0,a,t,h,_=>absurd h (ZM _)|w+1,a,t,h,ht=>by
  rw[Ys,YS];by_cases e:a < w;·have:(a+1)*L<=w*L:=abl L e;rw[aaY] at this;rw[Xg (by rw[lp hL];lia)];exact AW hL w a t e ht
  ·have e':a=w:=by lia
   subst e';rw[Xy (by rw[lp hL];lia),lp hL,show a*L+t - a*L=t by lia];simp
section
variable{m:cX}{w:Nat}
def Cg(m:cX)(a:Nat):aI:=jf m a m.length++[l6 (1+a*(m.length+1)) m.length]
theorem AX a:(Cg m a).length=m.length+1:=by simp[Cg,dn]
def yw(m:cX)(w:Nat):aI:=(W8 w).flatMap (Cg m)
theorem iC:(yw m w).length=w*(m.length+1):=lp AX w
def outs(m:cX)(w:Nat):List Nat:=(W8 w).map λa=>1+a*(m.length+1)+m.length
abbrev stI(m:cX)(w:Nat)(fs:List (Str×P))(L:aI):aI:=O.ins "Groups" fs::(yw m w++L)
theorem gc{L:aI}(hb:b=1+w*(m.length+1)):(stI m w fs L)[b+k]?=L[k]?:=by
 subst hb;rw[show 1+w*(m.length+1)+k=w*(m.length+1)+k+1 by lia,Xl,Xy (by rw[iC];lia),iC];congr 1
 lia
theorem Dt{L:aI}(hb:b=1+w*(m.length+1)):(stI m w fs L).set (b+k) o=stI m w fs (L.set k o):=by subst hb;rw[show 1+w*(m.length+1)+k=w*(m.length+1)+k+1 by lia,List.set_cons_succ,aam _ _ (by rw[iC];lia),iC,show w*(m.length+1)+k - w*(m.length+1)=k by lia]
theorem iX{L:aI}(hb:b=1+w*(m.length+1)):(stI m w fs L).length=b+L.length:=by subst hb;rw[Xt,Xz,iC];lia
theorem EH n(ok:dD w m)(hm:m.length<=100000)(hw:w<=1000):∃aK,callC Fs (n+2) 17 [.obj 0,.d (mD m)] [.ins "Groups" []]=.ok (.d .bz) aK/\HS m w (1+w*(m.length+1)) [1+w*(m.length+1)+2,1+w*(m.length+1)+3] aK (je m):=by
 obtain⟨b,hb⟩:∃b,b=1+w*(m.length+1):=⟨_,rfl⟩;rw[<-hb];have eS:bc (callC Fs (n+1)) (.comp (.fZ [.bf .len [.ix (.ix (.var 1) (.cst (.int 0))) (.cst (.int 1))]]) 1 [1] Θ (.call 0 [.var 1,.var 0])) [Δ (.obj 0),Δ (.d (mD m)),Θ,Θ] [.ins "Groups" []]
   =.ok ((outs m w).map P.obj) (stI m w [] []):=by
  rw[Ai];have ew:cn (callC Fs (n+1)) (.fZ [.bf .len [.ix (.ix (.var 1) (.cst (.int 0))) (.cst (.int 1))]]) [Δ (.obj 0),Δ (.d (mD m)),Θ,Θ] [.ins "Groups" []]=.ok ((W8 w).map λk:Nat=>P.d (.int (k:Int))) [.ins "Groups" []]:=by refine cf ?_ (by lia);have h0:nA (m.map cy) 0=Δ (cy (row m 0)):=An ok.ne;have hl:=ok.len _ (aV ok.ne);simp[mD,h0,cy,wD,hl]
  rw[ew,ae,if_pos (by simp[au];lia)];obtain⟨zs,aK,e,q1,q2⟩:=p4 (g:=λp=>Δ p::bY [1] [Δ (.obj 0),Δ (.d (mD m)),Θ,Θ]) (c:=bB (callC Fs (n+1)) Θ) (e:=λr' aK=>aa (callC Fs (n+1)) (.call 0 [.var 1,.var 0]) r' aK)
   (I:=λk ys s=>ys=((W8 k).map λa=>1+a*(m.length+1)+m.length).map P.obj/\s=O.ins "Groups" []::yw m k) (ps:=(W8 w).map λk:Nat=>P.d (.int (k:Int))) (k:=0) (ys:=[]) (st:=[.ins "Groups" []])
   (λi p ys s ⟨h1,h2⟩ hp=>by
    rw[XN] at h1 h2 ⊢;subst h1 h2;have hi:i < w:=by
     rw[Xi] at hp;by_cases z:i < w;·exact z
     ·rw[XI (by simpa using z)] at hp;cases hp
    rw[Xi,YD hi] at hp;cases hp;have sl:(O.ins "Groups" []::yw m i).length=1+i*(m.length+1):=by rw[Xt,iC];lia
    have e1:=yv ok hm n i hi (O.ins "Groups" []::yw m i);rw[sl] at e1;refine⟨.obj (1+i*(m.length+1)+m.length),O.ins "Groups" []::yw m i++jf m i m.length++[l6 (1+i*(m.length+1)) m.length],by simp,?_,?_⟩;·show aa _ (.call _ [.var 1,.var 0]) [Δ (.d (.int (i:Int))),Δ (.d (mD m))] _=_;simp only[eX,aj,ay,aN,Xk,Xl,Xx,av,ae];exact e1
    ·refine⟨by rw[Ys,XW,XW];rfl,?_⟩;unfold yw;rw[Ys,YS];simp[Cg]) ⟨by simp,by simp[yw]⟩
  rw[e];simp only[Zp,XN,Xf,XS] at q1 q2;rw[q1,q2];show R.ok _ _=R.ok _ (O.ins "Groups" []::(yw m w++[]));rw[Yf];rfl
 let L1:aI:=[.lst ((outs m w).map P.obj)]
 let L2:aI:=L1++[encL (m.map (·.1))]
 let L3 (x y:List Nat):aI:=L2++[encM x,encM y,.lst [.obj (b+2),.obj (b+3)]]
 have f1:aP (callC Fs (n+1)) (.lX "Groups" "sources" 0 (.lst Λ (.comp (.fZ [.bf .len [.ix (.ix (.var 1) (.cst (.int 0))) (.cst (.int 1))]]) 1 [1] Θ (.call 0 [.var 1,.var 0])))) [Δ (.obj 0),Δ (.d (mD m)),Θ,Θ] [.ins "Groups" []]
   =.ok (.nx [Δ (.obj 0),Δ (.d (mD m)),Θ,Θ]) (stI m w [("sources",.obj b)] L1):=by
  refine(uy (v:=.obj b) (x:=.obj 0) (st1:=stI m w [] L1) (n:=0) (fs:=[]) ?_ rfl rfl (by simp)).trans rfl;rw[iU,eS,ae,iX hb];simp[L1]
 have eG:bc (callC Fs (n+1)) (.comp (.ex (.var 1)) 1 [] Θ (.ix (.var 0) (.cst (.int 0)))) [Δ (.obj 0),Δ (.d (mD m)),Θ,Θ] (stI m w [("sources",.obj b)] L1)=.ok (m.map λs=>P.d (nD s.1)) (stI m w [("sources",.obj b)] L1):=by
  refine dF (g:=λs=>P.d (cy s)) (f:=λs=>nD s.1) (xs:=m) ?_ (by unfold au;lia) λs hs=>?_;·simp[mD]
  ·simp[cy,bY]
 have f2:aP (callC Fs (n+1)) (.lX "Groups" "group_of" 0 (.lst Λ (.comp (.ex (.var 1)) 1 [] Θ (.ix (.var 0) (.cst (.int 0)))))) [Δ (.obj 0),Δ (.d (mD m)),Θ,Θ] (stI m w [("sources",.obj b)] L1)
   =.ok (.nx [Δ (.obj 0),Δ (.d (mD m)),Θ,Θ]) (stI m w [("sources",.obj b),("group_of",.obj (b+1))] L2):=by
  refine(uy (v:=.obj (b+1)) (x:=.obj 0) (st1:=stI m w [("sources",.obj b)] L2) (n:=0) (fs:=[("sources",.obj b)]) ?_ rfl rfl (by simp)).trans rfl;rw[iU,eG,ae,iX hb];simp[L1,L2,encL,Ym]
 have f3:aP (callC Fs (n+1)) (.lX "Groups" "members" 0 (.lst Λ (.dZ [.pd Ξ,.pd Ξ]))) [Δ (.obj 0),Δ (.d (mD m)),Θ,Θ] (stI m w [("sources",.obj b),("group_of",.obj (b+1))] L2)
   =.ok (.nx [Δ (.obj 0),Δ (.d (mD m)),Θ,Θ]) (stI m w [("sources",.obj b),("group_of",.obj (b+1)),("members",.obj (b+4))] (L3 [] [])):=by
  refine(uy (v:=.obj (b+4)) (x:=.obj 0) (st1:=stI m w [("sources",.obj b),("group_of",.obj (b+1))] (L3 [] [])) (n:=0) (fs:=[("sources",.obj b),("group_of",.obj (b+1))]) ?_ rfl rfl (by simp)).trans rfl;have l1:=iX (fs:=[("sources",P.obj b),("group_of",.obj (b+1))]) (L:=L2) hb;have l2:L2.length=2:=rfl;rw[iU,fS,aj,ie,ae,aj,ie,ae,ay,ae,ae];simp only[XZ,if_false,Xz,l1,l2,Xt,YM,ae,au,abR,Nat.reduceLeDiff,if_true];show R.ok (P.obj (b+2+1+1)) _=_;congr 1;·show _=stI m w _ (L3 [] []);simp[L3,encM,stI]
 obtain⟨r',sF,eF,⟨y2,y3,z1⟩,z2⟩:=di (g:=gz (.two 2 3)) (b:=ah (callC Fs (n+1)) gS) (ps:=c0 0 (m.map cy)) (k:=0) (r:=[Δ (.obj 0),Δ (.d (mD m)),Θ,Θ]) (st:=stI m w [("sources",.obj b),("group_of",.obj (b+1)),("members",.obj (b+4))] (L3 [] []))
  (I:=λk r s=>(∃y2 y3,r=[Δ (.obj 0),Δ (.d (mD m)),y2,y3])/\s=stI m w [("sources",.obj b),("group_of",.obj (b+1)),("members",.obj (b+4))] (L3 ((W8 k).filter λs=>decide (gd m s=0)) ((W8 k).filter λs=>decide (gd m s=1))))
  (λi p r s ⟨⟨y2,y3,h1⟩,h2⟩ hp=>by
   rw[XN] at h2 ⊢;subst h1 h2;rw[jw,Xi] at hp;have hi:i < m.length:=by
    by_cases z:i < m.length;·exact z
    ·rw[XI (by lia)] at hp;simp at hp
   rw[yj hi] at hp;simp only[XF,aao,XN] at hp;subst hp;have hg:gd m i=0\/gd m i=1:=by
    have:gd m i<=1:=ok.good _ (aV hi)
    lia
   have nin:∀g,i∉(W8 i).filter λs=>decide (gd m s=g):=λg z=>by rw[Yt,Yl] at z;lia
   have fl:∀g,((W8 i).filter λs=>decide (gd m s=g)).length < au:=λg=>by have:=ZH (λs=>decide (gd m s=g)) (W8 i);rw[XS] at this;unfold au;lia
   have nx:∀g,(W8 (i+1)).filter (λs=>decide (gd m s=g))=(W8 i).filter (λs=>decide (gd m s=g))++if gd m i=g then[i] else[]:=λg=>by rw[Ys,aae];congr 1;by_cases e:gd m i=g<;>simp[e]
   generalize WO:(W8 i).filter (λs=>decide (gd m s=0))=X0 at*;generalize Kb:(W8 i).filter (λs=>decide (gd m s=1))=X1 at*;have n0:=nin 0;rw[WO] at n0;have n1:=nin 1;rw[Kb] at n1;have l0:=fl 0;rw[WO] at l0;have l1:=fl 1;rw[Kb] at l1;have x0:=nx 0;rw[WO] at x0;have x1:=nx 1;rw[Kb] at x1;have g2:(stI m w [("sources",.obj b),("group_of",.obj (b+1)),("members",.obj (b+4))] (L3 X0 X1))[b+2]?=Δ (encM X0):=by rw[gc hb];rfl
   have g3:(stI m w [("sources",.obj b),("group_of",.obj (b+1)),("members",.obj (b+4))] (L3 X0 X1))[b+3]?=Δ (encM X1):=by rw[gc hb];rfl
   have g4:(stI m w [("sources",.obj b),("group_of",.obj (b+1)),("members",.obj (b+4))] (L3 X0 X1))[b+4]?=Δ (.lst [.obj (b+2),.obj (b+3)]):=by rw[gc hb];rfl
   have ea:∀(r:bX),(r[0]?).join=Δ (.obj 0)->aa (callC Fs (n+1)) (.attr "Groups" "members" 0) r (stI m w [("sources",.obj b),("group_of",.obj (b+1)),("members",.obj (b+4))] (L3 X0 X1))=.ok (.obj (b+4)) (stI m w [("sources",.obj b),("group_of",.obj (b+1)),("members",.obj (b+4))] (L3 X0 X1)):=λr hr=>by rw[Df,hr,av,ae];rfl
   have ss0:∀o,(stI m w [("sources",.obj b),("group_of",.obj (b+1)),("members",.obj (b+4))] (L3 X0 X1)).set (b+2) (encM o)=stI m w [("sources",.obj b),("group_of",.obj (b+1)),("members",.obj (b+4))] (L3 o X1):=λo=>by rw[Dt hb];rfl
   have ss1:∀o,(stI m w [("sources",.obj b),("group_of",.obj (b+1)),("members",.obj (b+4))] (L3 X0 X1)).set (b+3) (encM o)=stI m w [("sources",.obj b),("group_of",.obj (b+1)),("members",.obj (b+4))] (L3 X0 o):=λo=>by rw[Dt hb];rfl
   have er:cy (row m i)=.tup [nD (gd m i),wD (row m i).2]:=rfl;generalize hS:stI m w [("sources",.obj b),("group_of",.obj (b+1)),("members",.obj (b+4))] (L3 X0 X1)=S at*;refine⟨_,[Δ (.obj 0),Δ (.d (mD m)),Δ (.d (nD i)),Δ (.d (cy (row m i)))],_,rfl,?_,⟨_,_,rfl⟩,rfl⟩;rcases hg with hg|hg
   ·have p:=uO g2 n0 l0;refine ag (oi (x:=.obj (b+2)) (k:=.d (nD i)) (v:=.d (.bl Λ)) (st1:=S) (st2:=S) (st3:=S) (by simp) ?_ (by simp[nD]) p) ?_;·rw[bI,ea _ rfl,ae];have hx:=iw g4 (i:=0) (p:=.obj (b+2)) rfl;simp[er,hg,nD];exact congrArg (λo=>R.of o S) hx
    ·rw[aq,ss0,x0,x1,if_pos hg,if_neg (by lia),Yf];rfl
   ·have p:=uO g3 n1 l1;refine ag (oi (x:=.obj (b+3)) (k:=.d (nD i)) (v:=.d (.bl Λ)) (st1:=S) (st2:=S) (st3:=S) (by simp) ?_ (by simp[nD]) p) ?_;·rw[bI,ea _ rfl,ae];have hx:=iw g4 (i:=1) (p:=.obj (b+3)) rfl;simp[er,hg,nD];exact congrArg (λo=>R.of o S) hx
    ·rw[aq,ss1,x0,x1,if_neg (by lia),if_pos hg,Yf];rfl)
  ⟨⟨Θ,Θ,rfl⟩,by simp⟩
 subst z1;rw[jx,Xf,XN] at z2;generalize hX0:(W8 m.length).filter (λs=>decide (gd m s=0))=X0 at*;generalize hX1:(W8 m.length).filter (λs=>decide (gd m s=1))=X1 at*;subst z2
 let L4:aI:=L3 X0 X1++[encL [0,1]]
 let L5:aI:=L4++[jB [Λ,Λ]]
 have f4:aP (callC Fs (n+1)) (.lX "Groups" "waiting" 0 (.lst Λ (.dZ [.cst (.int 0),.cst (.int 1)]))) [Δ (.obj 0),Δ (.d (mD m)),y2,y3] (stI m w [("sources",.obj b),("group_of",.obj (b+1)),("members",.obj (b+4))] (L3 X0 X1))
   =.ok (.nx [Δ (.obj 0),Δ (.d (mD m)),y2,y3]) (stI m w [("sources",.obj b),("group_of",.obj (b+1)),("members",.obj (b+4)),("waiting",.obj (b+5))] L4):=by
  refine(uy (v:=.obj (b+5)) (x:=.obj 0) (st1:=stI m w [("sources",.obj b),("group_of",.obj (b+1)),("members",.obj (b+4))] L4) (n:=0) (fs:=[("sources",.obj b),("group_of",.obj (b+1)),("members",.obj (b+4))]) ?_ rfl rfl (by simp)).trans rfl;rw[iU,fS,aj,cx,ae,aj,cx,ae,ay,ae,ae,ae,if_pos (by decide),ae,iX hb];show R.ok (P.obj (b+5)) _=_;congr 1;simp[L4,stI,encL,nD]
 have f5:aP (callC Fs (n+1)) (.lX "Groups" "waits" 0 (.lst Λ (.dZ [.cst (.bl Λ),.cst (.bl Λ)]))) [Δ (.obj 0),Δ (.d (mD m)),y2,y3] (stI m w [("sources",.obj b),("group_of",.obj (b+1)),("members",.obj (b+4)),("waiting",.obj (b+5))] L4)
   =.ok (.nx [Δ (.obj 0),Δ (.d (mD m)),y2,y3]) (stI m w (rg b) L5):=by
  refine(uy (v:=.obj (b+6)) (x:=.obj 0) (st1:=stI m w [("sources",.obj b),("group_of",.obj (b+1)),("members",.obj (b+4)),("waiting",.obj (b+5))] L5) (n:=0) (fs:=[("sources",.obj b),("group_of",.obj (b+1)),("members",.obj (b+4)),("waiting",.obj (b+5))]) ?_ rfl rfl (by simp)).trans rfl;rw[iU,fS,aj,cx,ae,aj,cx,ae,ay,ae,ae,ae,if_pos (by decide),ae,iX hb];show R.ok (P.obj (b+6)) _=_;congr 1;simp[L5,stI,jB]
 refine⟨stI m w (rg b) L5,kW m8 rfl rfl (r:=[Δ (.obj 0),Δ (.d (mD m)),y2,y3]) ?_,?_⟩;·refine ag f1 (ag f2 (ag f3 (ag (dh (ps:=c0 0 (m.map cy)) (st1:=stI m w [("sources",.obj b),("group_of",.obj (b+1)),("members",.obj (b+4))] (L3 [] [])) ?_ eF) (ag f4 (ag f5 aq)))));simp[mD]
 ·refine⟨by rw[iX hb];simp[L5,L4,L3,L2,L1],by lia,rfl,?_,by rw[gc hb];rfl,by rw[gc hb];rfl,rfl,λg hg=>?_,by simp,by rw[gc hb];rfl,by rw[gc hb];rfl⟩
  ·refine⟨outs m w,by have:=gc (fs:=rg b) (L:=L5) (k:=0) hb;rw[Nat.add_zero] at this;rw[this];rfl,by simp[outs],λa ha=>?_⟩;have TJ:(a+1)*(m.length+1)<=w*(m.length+1):=abl _ ha;rw[aaY] at TJ;have gA:∀t,t < m.length+1->(stI m w (rg b) L5)[1+a*(m.length+1)+t]?=(Cg m a)[t]?:=λt ht=>by rw[show 1+a*(m.length+1)+t=a*(m.length+1)+t+1 by lia,Xl,Xg (by rw[iC];lia)];exact AW AX w a t ha ht
   refine⟨1+a*(m.length+1)+m.length,(W8 m.length).map λt=>1+a*(m.length+1)+t,by simp[outs,ha],by lia,by lia,?_,λt ht=>⟨1+a*(m.length+1)+t,by simp[ht],by lia,by lia,?_⟩⟩;·rw[gA _ (by lia)];unfold Cg;rw[Xy (by rw[dn];exact Xj _),dn];simp[l6,Ym]
   ·rw[gA _ (by lia)];unfold Cg;rw[Xg (by rw[dn];exact ht),lj ht];rfl
  ·have Js:g=0\/g=1:=by
    have:g < 2:=hg
    lia
   rcases Js with e|e<;>subst e;·refine⟨b+2,rfl,.inl rfl,by rw[iX hb];simp[L5,L4,L3,L2,L1],?_⟩;rw[gc hb];show Δ (encM X0)=Δ (encM ((W8 m.length).filter _));rw[hX0]
   ·refine⟨b+3,rfl,.inr (.inl rfl),by rw[iX hb];simp[L5,L4,L3,L2,L1],?_⟩;rw[gc hb];show Δ (encM X1)=Δ (encM ((W8 m.length).filter _));rw[hX1]
end
def rJ(grp:List Nat)(gs:List Nat):List (Sum Int Str×P):=gs.map λ(g:Nat)=>(.inl (g:Int),P.d (nD (grp.idxOf g)))
theorem Hz{g:Nat}(h:g∈gs):fj (rJ grp gs) (.inl (g:Int))=Δ (.d (nD (grp.idxOf g))):=by
 unfold fj rJ;induction gs with
 |nil=>cases h|cons x gs ih=>
  rw[Xo,YB];by_cases e:x=g;·subst e;simp
  ·have:decide ((.inl (x:Int):Sum Int Str)=.inl (g:Int))=Ξ:=by rw[decide_eq_false_iff_not];intro z;injection z with z;exact e (by lia)
   simp only[this];exact ih ((aai.mp h).resolve_left λz=>e z.symm)
theorem fd_none{g:Nat}(h:g∉gs):fj (rJ grp gs) (.inl (g:Int))=Θ:=by
 unfold fj rJ;have:(gs.map λ(g:Nat)=>((.inl (g:Int):Sum Int Str),P.d (nD (grp.idxOf g)))).find? (λkv=>decide (kv.1=.inl (g:Int)))=Θ:=by
  rw[abB];intro kv qx;obtain⟨x,hx,rfl⟩:=Y7.mp qx;have:x≠g:=λz=>h (z▸hx);simp
  lia
 rw[this];rfl
theorem AY n(ok:dD w m)(hm:m.length<=100000)(hw:w<=1000)st:callC Fs (n+5) 1 [.d (mD m)] st=.ok (.d (.pl ((W8 m.length).map λs=>nD (fst w m s)))) st:=by
 obtain⟨st1,e1,h1⟩:=EH (n+2) ok hm hw;have bK:(je m).wait.length+(m.length+2 - (je m).mem.length)<=m.length+2:=by simp[je];have:=ok.ne;lia
 obtain⟨mb,st2,e2,h2⟩:=AV n ok hm hw h1 (uL ok) (K:=m.length+2) bK (by lia);obtain⟨calm,_⟩:=w8 ok;have rS:HS m w (1+w*(m.length+1)) mb st2 (iK w m):=h2;generalize hb:1+w*(m.length+1)=b at*;have gl:(iK w m).grp.length=m.length:=calm.1.rn;have WD:=rS.len
 let grp:=(iK w m).grp
 have Sj:∀k,(bP [] (grp.take k)).length < au:=λk=>by
  have h1:(bP ([]:List Nat) (grp.take k)).Nodup:=sk (by simp);have h2:=fV h1 (xs:=grp.take k) λx hx=>by
   rcases dJ.mp hx with z|z;·cases z
   ·exact z
  have h3:(grp.take k).length<=grp.length:=by rw[Yu];lia
  have h4:grp.length=m.length:=gl;unfold au
  lia
 obtain⟨r',sF,eF,⟨y3,y4,z1⟩,z2⟩:=Ak (n:=b+1) (x:=3) (y:=4) (b:=ah (callC Fs (n+4)) jC) (xs:=grp.map λs=>P.d (nD s))
  (I:=λk r s=>(∃y3 y4,r=[Δ (.d (mD m)),Δ (.obj 0),Δ (.obj st2.length),y3,y4])/\s=st2++[O.dK (rJ grp (bP [] (grp.take k)))])
  (λi r s ⟨_,hs⟩=>by subst hs;rw[Xg (by lia)];exact rS.grp)
  (λi p r s ⟨⟨y3,y4,er⟩,hs⟩ hp=>by
   subst er hs;rw[Xi] at hp;cases TN:grp[i]? with
   |none=>rw[TN] at hp;cases hp|some g=>
    rw[TN] at hp;cases hp;have EF:grp.take (i+1)=grp.take i++[g]:=by rw[Yv,TN];rfl
    have Sk:bP ([]:List Nat) (grp.take (i+1))=if g∈bP [] (grp.take i) then bP [] (grp.take i) else bP [] (grp.take i)++[g]:=by rw[EF];unfold bP;rw[ZV];rfl
    have hD:(st2++[O.dK (rJ grp (bP [] (grp.take i)))])[st2.length]?=Δ (.dK (rJ grp (bP [] (grp.take i)))):=by simp
    have Oz:bC (st2++[O.dK (rJ grp (bP [] (grp.take i)))]) (.obj st2.length)=Δ (.dK (rJ grp (bP [] (grp.take i)))):=by exact lQ (by simp)
    have hl:(rJ grp (bP [] (grp.take i))).length < au:=by unfold rJ;rw[Xf];exact Sj i
    have hk:keyOf (.d (nD g))=Δ (.inl (g:Int)):=rfl;have OA:∃v,qz (.obj st2.length) (.d (nD g)) (.d (.int (i:Int))) (st2++[O.dK (rJ grp (bP [] (grp.take i)))])=Δ (v,st2++[O.dK (rJ grp (bP [] (grp.take (i+1))))]):=by
     unfold qz;simp only[hD,hl,if_true,hk,XF];by_cases uQ:g∈bP [] (grp.take i);·rw[Sk,if_pos uQ,Hz uQ];exact⟨_,rfl⟩
     ·rw[Sk,if_neg uQ,fd_none uQ];have hni:g∉grp.take i:=λz=>uQ (dJ.mpr (.inr z));have hix:grp.idxOf g=i:=by
       obtain⟨Sh,WN⟩:=qqz TN;have e:grp=grp.take i++[g]++grp.drop (i+1):=by rw[<-EF,aal]
       conv=>lhs;rw[e]
       rw[Dm hni,Yu];lia
      refine⟨.d (.int (i:Int)),?_⟩;dsimp only;rw[sv (λkv qx=>by obtain⟨x,hx,rfl⟩:=Y7.mp qx;intro z;injection z with z;exact uQ ((show x=g by lia)▸hx))];congr 2;rw[aam _ _ (by lia)];simp[rJ,hix,nD]
    obtain⟨v,OA⟩:=OA;refine⟨[Δ (.d (mD m)),Δ (.obj 0),Δ (.obj st2.length),Δ (.d (.int (i:Int))),Δ (.d (nD g))],st2++[O.dK (rJ grp (bP [] (grp.take (i+1))))],?_,⟨_,_,rfl⟩,rfl⟩;refine ag (mU (v:=v) (st1:=st2++[O.dK (rJ grp (bP [] (grp.take (i+1))))]) ?_) aq;rw[kM];simp only[ZU,aN,Xk,Xl,Xx,av,ae,Oz,OA])
  dW (i:=0) (r:=[Δ (.d (mD m)),Δ (.obj 0),Δ (.obj st2.length),Θ,Θ]) (st:=st2++[O.dK []]) ⟨⟨_,_,rfl⟩,by simp[rJ,bP]⟩ (Yq _) (by have:grp.length=m.length:=gl;rw[Xf];unfold dW;lia)
 subst z1;rw[Xf,Ye (Xj _)] at z2;subst z2
 let G:=bP ([]:List Nat) grp
 have s0:(st2++[O.dK (rJ grp G)])[0]?=Δ (iA b):=by rw[Xg (by lia)];exact rS.self
 have sg:(st2++[O.dK (rJ grp G)])[b+1]?=Δ (.lst (grp.map λs=>P.d (nD s))):=by rw[Xg (by lia)];exact rS.grp
 have Sl:∀(r:bX) (s:aI) (f:P) (s':aI),aa (callC Fs (n+4)) (.ix (.var 1) (.var 0)) r s=.ok f s'->s'=s:=λr s f s' h=>by rw[bI,aN] at h;cases h1:(r[1]?).join with|none=>rw[h1] at h;cases h|some x=>rw[h1,av,ae,aN] at h;cases h2:(r[0]?).join with|none=>rw[h2] at h;cases h|some y=>rw[h2,av,ae] at h;cases h3:A7 x y s with|none=>rw[h3] at h;cases h|some z=>rw[h3] at h;cases h;rfl
 have eC:bc (callC Fs (n+4)) (.cj (.attr "Groups" "group_of" 1) [2] Θ (.ix (.var 1) (.var 0))) [Δ (.d (mD m)),Δ (.obj 0),Δ (.obj st2.length),y3,y4] (st2++[O.dK (rJ grp G)])=.ok (grp.map λg=>P.d (nD (grp.idxOf g))) (st2++[O.dK (rJ grp G)]):=by
  rw[qD,cY rfl s0 rfl,ae];dsimp only;rw[ux (xs:=grp.map λs=>P.d (nD s)) (λr s f s' h1 h2=>by rw[mM] at h2;cases h2;exact h1) (λr s f s' h1 h2=>by rw[Sl r s f s' h2];exact h1) au 0 _ sg (by have:grp.length=m.length:=gl;rw[Xf];unfold au;lia),aaa];refine mT (g:=λs=>P.d (nD s)) (f:=λg=>nD (grp.idxOf g)) (λx hx=>by simp) λx hx=>?_;have yI:x∈G:=dJ.mpr (.inr hx);have hD:A7 (.obj st2.length) (.d (.int (x:Int))) (st2++[O.dK (rJ grp G)])=Δ (.d (nD (grp.idxOf x))):=by
   have Oz:bC (st2++[O.dK (rJ grp G)]) (.obj st2.length)=Δ (.dK (rJ grp G)):=by exact lQ (by simp)
   unfold A7;rw[Oz];show((keyOf (.d (.int (x:Int)))).map _).bind id=_;simp only[keyOf,XF,X3,id];exact Hz yI
  show aa _ (.ix (.var 1) (.var 0)) [Δ (.d (nD x)),Δ (.obj st2.length)] _=_;simp only[bI,aN,Xk,Xl,Xx,av,ae,nD,hD]
 refine call_of rD rfl (dG (p:=.d (.pl ((W8 m.length).map λs=>nD (fst w m s)))) (st:=st2++[O.dK (rJ grp G)]) rfl ?_ rfl);refine ag (aW (v:=.obj 0) (st1:=st1) ?_) ?_;·rw[tG];simp only[az,fz,aj,ay,aN,Xo,Zi,Y0,Xk,Xx,av,ae,YM,Zp];rw[e1,ae]
 refine ag (mU (v:=.d .bz) (st1:=st2) (oy rfl h1.self rfl (ps:=[]) (st1:=st1) (by simp) e2)) ?_;refine ag (aW (v:=.obj st2.length) (st1:=st2++[O.dK []]) (by simp)) ?_;refine ag (Oc (n:=b+1) (st1:=st2++[O.dK []]) (cY rfl (by rw[Xg (by lia)];exact rS.self) rfl) eF) ?_;refine aQ (dg ?_);rw[cV,eC,ae,dq,av,ae];congr 3;apply abH;intro i;by_cases hi:i < m.length
 ·have wa:i < grp.length:=by
   have:grp.length=m.length:=gl
   lia
  rw[Xi,Xc wa,Xi,YD hi];show Δ (nD (grp.idxOf grp[i]))=Δ (nD (fst w m i));unfold fst R5;rw[Xd,Xc (show i < (iK w m).grp.length from wa)];rfl
 ·rw[XI (by have:grp.length=m.length:=gl;simp;lia),XI (by simp;lia)]
section
variable{α:Type}[DecidableEq α](K:R9 α){step:α->List α}{good:α->Nat}{S:List α}{start:α}
abbrev aR(ps:List α)(rows:cX):aI:=[K.qN ps,.lst (ps.map λp=>P.d (K.enc p)),.lst ((rows.map cy).map .d)]
theorem OB(hn:ps.Nodup):jq .nO (.d (K.enc a)) (.obj 0) (aR K ps rows)=Δ (!decide (a∈ps)):=by
 have h1:bC (aR K ps rows) (.obj 0)=Δ (K.qN ps):=by show(if jo (K.qN ps) then Δ (K.qN ps) else Θ)=_;rw[K.TH];rfl
 show(Gv (.d (K.enc a)) (.obj 0) (aR K ps rows)).map not=_;unfold Gv;rw[h1];simp only[K.get ps a hn,XF];by_cases h:a∈ps<;>simp[h]
theorem B2(hn:ps.Nodup)(ha:a∈ps):A7 (.obj 0) (.d (K.enc a)) (aR K ps rows)=Δ (.d (nD (ps.idxOf a))):=by
 have h1:bC (aR K ps rows) (.obj 0)=Δ (K.qN ps):=by show(if jo (K.qN ps) then Δ (K.qN ps) else Θ)=_;rw[K.TH];rfl
 unfold A7;rw[h1];simp[K.get ps a hn,ha]
theorem Kq(ha:a∉ps)(hl:ps.length < au):nR (.obj 0) (.d (K.enc a)) (.d (nD ps.length)) (aR K ps rows)=Δ ([K.qN (ps++[a]),.lst (ps.map λp=>P.d (K.enc p)),.lst ((rows.map cy).map .d)]):=by
 have h1:zE (K.qN ps) (.d (K.enc a)) (.d (nD ps.length))=Δ (K.qN (ps++[a])):=by have hp:=K.put ps a ha hl;have hd:=K.TH ps;unfold zE;cases e:K.qN ps with|lst xs=>rw[e] at hd;cases hd|_=>rw[e] at hp;exact hp
 unfold nR;simp[h1]
theorem EI n(pS:cz cS=Λ)(pG:cz cG=Λ)(hs:start∈S)(hS:∀p∈S,∀q∈step p,q∈S)(hSl:S.length<=900000)(hlen:∀p∈S,(step p).length<=1000)(eS:∀p∈S,∀st,callC Fs n kS (.d (K.enc p)::cS) st=.ok (.d (.pl ((step p).map K.enc))) st)(eG:∀p∈S,∀st,callC Fs n kG (.d (K.enc p)::cG) st=.ok (.d (nD (good p))) st)st:
  callC Fs (n+1) 2 [.d (K.enc start),.fn kS cS,.fn kG cG] st=.ok (.d (mD (fu step good (places step 1000000 start)))) st:=by
 let F:=places step 1000000 start
 let rw_:=uM step good F
 have b0:uN step S [start] 0:=⟨by simp,λp hp=>by simp at hp;rw[hp];exact hs,by simp,λi p hi=>by lia⟩
 let r0 (y6 y7 y8:Option P):bX:=[Δ (.d (K.enc start)),Δ (.fn kS cS),Δ (.fn kG cG),Δ (.obj 0),Δ (.obj 1),Δ (.obj 2),y6,y7,y8]
 obtain⟨r',sF,eF,⟨y6,y7,y8,z1⟩,z2⟩:=pZ (c:=b8 (aa (callC Fs n) (.cmp .lt (.bf .len [.var 5]) (.bf .len [.var 4])))) (b:=ah (callC Fs n) jD)
  (I:=λk r s=>(∃y6 y7 y8,r=r0 y6 y7 y8)/\∃ps j f,uN step S ps j/\yM step f ps j=F/\S.length+1<=f+j/\k=S.length - j/\s=aR K ps ((ps.take j).map rw_))
  (E:=λr s=>(∃y6 y7 y8,r=r0 y6 y7 y8)/\s=aR K F (F.map rw_))
  (λk r s ⟨⟨y6,y7,y8,h1⟩,ps,j,f,bi,Sm,hf,hk,qj⟩=>by
   subst h1 qj;have bl:=bi.len;have jl:=bi.le;have tl:((ps.take j).map rw_).length=j:=by rw[Xf,Yu];lia
   have l2:(aR K ps ((ps.take j).map rw_))[2]?=Δ (.lst ((((ps.take j).map rw_).map cy).map .d)):=rfl;have l1:(aR K ps ((ps.take j).map rw_))[1]?=Δ (.lst (ps.map λp=>P.d (K.enc p))):=rfl;have n2:oQ .len [.obj 2] (aR K ps ((ps.take j).map rw_))=Δ (.d (.int (j:Int))):=by rw[g6 l2];simp;lia
   have n1:oQ .len [.obj 1] (aR K ps ((ps.take j).map rw_))=Δ (.d (.int (ps.length:Int))):=by rw[g6 l1];simp
   have ec:b8 (aa (callC Fs n) (.cmp .lt (.bf .len [.var 5]) (.bf .len [.var 4]))) (r0 y6 y7 y8) (aR K ps ((ps.take j).map rw_))=.ok (decide (j < ps.length)) (aR K ps ((ps.take j).map rw_)):=by
    unfold b8;simp only[bM,bH,aj,ay,aN,r0,Xk,Xl,Xx,av,ae,n1,n2,N9,N8];congr 1;by_cases h:j < ps.length;·rw[decide_eq_true h,decide_eq_true (by lia)]
    ·rw[decide_eq_false h,decide_eq_false (by lia)]
   by_cases hj:j < ps.length
   ·
    obtain⟨p,hp⟩:∃p,ps[j]?=Δ p:=⟨ps[j],Xc hj⟩;have TQ:=bi.sub p (Xw hp);obtain⟨f',rfl⟩:∃f',f=f'+1:=Wx hf hj bl;have Sn:yM step f' (bP ps (step p)) (j+1)=F:=by rw[yM,hp] at Sm;exact Sm
    have bn:=bi.next hS hp;obtain⟨t1,et1⟩:=sr step f' (bP ps (step p)) (j+1);obtain⟨t2,et2⟩:=gq (step p) ps;have bnl:=bn.len;have loop:∀(ss qs:List α) (y8:Option P),qs.Nodup->(∀q∈qs,q∈S)->(∀q∈ss,q∈S)->∃HA,forL (gz (.nm 8)) (ah (callC Fs n) dQ) ((ss.map K.enc).map .d) (r0 (Δ (.d (K.enc p))) (Δ (.d (.pl ((step p).map K.enc)))) y8) (aR K qs ((ps.take j).map rw_))
      =.ok (.nx (r0 (Δ (.d (K.enc p))) (Δ (.d (.pl ((step p).map K.enc)))) HA)) (aR K (bP qs ss) ((ps.take j).map rw_)):=by
     intro ss;induction ss with
     |nil=>intro qs y8 _ _ _;exact⟨y8,rfl⟩|cons s ss ih=>
      intro qs y8 hq WQ uI;have ql:=fV hq WQ;rw[Xo,Xo,forL,gz,av,ae,jA];have en:=OB K (rows:=(ps.take j).map rw_) (a:=s) hq;by_cases uQ:s∈qs
      ·rw[if_pos uQ];obtain⟨HA,e⟩:=ih qs (Δ (.d (K.enc s))) hq WQ λq xn=>uI q (Xb _ xn);refine⟨HA,?_⟩;have eb:ah (callC Fs n) dQ ((r0 (Δ (.d (K.enc p))) (Δ (.d (.pl ((step p).map K.enc)))) y8).set 8 (Δ (.d (K.enc s)))) (aR K qs ((ps.take j).map rw_))=.ok (.nx (r0 (Δ (.d (K.enc p))) (Δ (.d (.pl ((step p).map K.enc)))) (Δ (.d (K.enc s))))) (aR K qs ((ps.take j).map rw_)):=by refine ag (eh (st1:=aR K qs ((ps.take j).map rw_)) ?_ aq) aq;simp only[bM,aN,r0,ZU,Xk,Xl,Xx,av,ae,en];simp[uQ]
       rw[eb,ae];exact e
      ·rw[if_neg uQ];have sS:=uI s Xh;have xn:(qs++[s]).Nodup:=by rw[X9];exact⟨hq,by simp,λa ha b hb=>by simp at hb;subst hb;exact λz=>uQ (z▸ha)⟩
       obtain⟨HA,e⟩:=ih (qs++[s]) (Δ (.d (K.enc s))) xn (λq hq2=>by
        rcases Zq.mp hq2 with z|z;·exact WQ q z
        ·simp at z;rw[z];exact sS) λq xn=>uI q (Xb _ xn)
       refine⟨HA,?_⟩;have hp1:=Kq K (ps:=qs) (rows:=(ps.take j).map rw_) uQ (by unfold au;lia);have nl:oQ .len [.obj 1] (aR K qs ((ps.take j).map rw_))=Δ (.d (nD qs.length)):=by rw[g6 (show(aR K qs ((ps.take j).map rw_))[1]?=Δ (.lst (qs.map λp=>P.d (K.enc p))) from rfl)];simp[nD]
       have eb:ah (callC Fs n) dQ ((r0 (Δ (.d (K.enc p))) (Δ (.d (.pl ((step p).map K.enc)))) y8).set 8 (Δ (.d (K.enc s)))) (aR K qs ((ps.take j).map rw_))=.ok (.nx (r0 (Δ (.d (K.enc p))) (Δ (.d (.pl ((step p).map K.enc)))) (Δ (.d (K.enc s))))) (aR K (qs++[s]) ((ps.take j).map rw_)):=by
        refine ag (iu (st1:=aR K qs ((ps.take j).map rw_)) ?_ (ag (oi (x:=.obj 0) (k:=.d (K.enc s)) (v:=.d (nD qs.length)) (st1:=aR K qs ((ps.take j).map rw_)) (st2:=aR K qs ((ps.take j).map rw_)) (st3:=aR K qs ((ps.take j).map rw_)) ?_ ?_ ?_ hp1) (ag (kg (x:=.obj 1) (v:=.d (K.enc s)) (its:=qs.map λp=>P.d (K.enc p)) (st1:=[K.qN (qs++[s]),.lst (qs.map λp=>P.d (K.enc p)),.lst ((((ps.take j).map rw_).map cy).map .d)]) (st2:=[K.qN (qs++[s]),.lst (qs.map λp=>P.d (K.enc p)),.lst ((((ps.take j).map rw_).map cy).map .d)]) (st3:=aR K (qs++[s]) ((ps.take j).map rw_)) ?_ rfl ?_ ?_) aq))) aq;·simp only[bM,aN,r0,ZU,Xk,Xl,Xx,av,ae,en];simp[uQ]
        ·simp only[bH,aj,ay,aN,r0,ZU,Xk,Xl,Xx,av,ae,nl]
        ·simp[r0]
        ·simp[r0]
        ·simp[r0]
        ·simp[r0]
        ·rw[fm (n:=1) (xs:=qs.map λp=>P.d (K.enc p)) rfl (by rw[Xf];unfold au;lia)];simp[aR]
       rw[eb,ae];exact e
    obtain⟨HA,el⟩:=loop (step p) ps y8 bi.nd bi.sub (hS p TQ);have WR:cy (rw_ p)=.tup [nD (good p),.tup ((step p).map λq=>nD ((bP ps (step p)).idxOf q))]:=by show D.tup [nD (good p),wD ((step p).map λq=>F.idxOf q)]=_;unfold wD;rw[Zj];congr 4;apply abt;intro q hq;have xn:q∈bP ps (step p):=dJ.mpr (.inr hq);show nD (F.idxOf q)=_;rw[<-Sn,et1,yq xn]
    have EF:(bP ps (step p)).take (j+1)=ps.take j++[p]:=by rw[et2,List.take_append_of_le_length (by lia),Yv,hp];rfl
    refine .inr ⟨S.length - (j+1),Wy hk bl hj,by rw[ec,decide_eq_true hj],r0 (Δ (.d (K.enc p))) (Δ (.d (.pl ((step p).map K.enc)))) HA,aR K (bP ps (step p)) (((bP ps (step p)).take (j+1)).map rw_),?_,⟨_,_,_,rfl⟩,bP ps (step p),j+1,f',bn,Sn,by lia,rfl,rfl⟩;have hpx:=iw l1 (i:=j) (p:=.d (K.enc p)) (by rw[Xi,hp];rfl);refine ag (aW (v:=.d (K.enc p)) (st1:=aR K ps ((ps.take j).map rw_)) ?_) ?_;·simp only[bI,bH,aj,ay,aN,r0,Xk,Xl,Xx,av,ae,n2,hpx]
    refine ag (aW (v:=.d (.pl ((step p).map K.enc))) (st1:=aR K ps ((ps.take j).map rw_)) ?_) ?_;·rw[Ah];simp only[r0,ZU,aj,ay,aN,Xk,Xl,Xx,av,ae,Y0,Zp];exact eS p TQ _
    refine ag (dh (ps:=((step p).map K.enc).map .d) (st1:=aR K ps ((ps.take j).map rw_)) (by simp[r0]) el) ?_;refine ag (kg (x:=.obj 2) (v:=.d (cy (rw_ p))) (its:=(((ps.take j).map rw_).map cy).map .d) (st1:=aR K (bP ps (step p)) ((ps.take j).map rw_)) (st2:=aR K (bP ps (step p)) ((ps.take j).map rw_)) (st3:=aR K (bP ps (step p)) (((bP ps (step p)).take (j+1)).map rw_)) (by simp[r0]) rfl ?_ ?_) aq
    ·have e1:aa (callC Fs n) (.nP 2 [.var 6]) (r0 (Δ (.d (K.enc p))) (Δ (.d (.pl ((step p).map K.enc)))) HA) (aR K (bP ps (step p)) ((ps.take j).map rw_))=.ok (.d (nD (good p))) (aR K (bP ps (step p)) ((ps.take j).map rw_)):=by rw[Ah];simp only[r0,aj,ay,aN,Xk,Xl,Xx,av,ae,Y0,Zp];exact eG p TQ _
     have e2:bc (callC Fs n) (.comp (.ex (.var 7)) 1 [3] Θ (.ix (.var 1) (.var 0))) (r0 (Δ (.d (K.enc p))) (Δ (.d (.pl ((step p).map K.enc)))) HA) (aR K (bP ps (step p)) ((ps.take j).map rw_))=.ok ((step p).map λq=>P.d (nD ((bP ps (step p)).idxOf q))) (aR K (bP ps (step p)) ((ps.take j).map rw_)):=by
      have yG:=hlen p TQ;refine dF (g:=λq=>P.d (K.enc q)) (f:=λq=>nD ((bP ps (step p)).idxOf q)) (xs:=step p) ?_ (by unfold au;lia) λq hq=>?_;·simp[r0]
      ·have:=B2 K (rows:=(ps.take j).map rw_) (a:=q) bn.nd (dJ.mpr (.inr hq));show aa _ (.ix (.var 1) (.var 0)) [Δ (.d (K.enc q)),Δ (.obj 0)] _=_;simp only[bI,aN,Xk,Xl,Xx,av,ae,this]
     rw[WR,jr,aj,e1,ae,aj,bH,aj,cV,e2,ae,dq];simp[au]
    ·rw[EF,XW];have hl3:((((ps.take j).map rw_).map cy).map P.d).length < au:=by rw[Xf,Xf,tl];unfold au;lia
     rw[fm (n:=2) (xs:=(((ps.take j).map rw_).map cy).map .d) rfl hl3];simp[aR]
   ·have ej:j=ps.length:=by lia
    refine .inl ⟨by rw[ec,decide_eq_false hj],⟨_,_,_,rfl⟩,?_⟩;have:F=ps:=by cases f with|zero=>exact Sm.symm|succ f=>rw[yM,XI (by lia)] at Sm;exact Sm.symm
    rw[this,ej,Ye (Xj _)])
  dW (k:=S.length - 0) (r:=r0 Θ Θ Θ) (st:=aR K [start] []) ⟨⟨_,_,_,rfl⟩,[start],0,1000000,b0,rfl,by lia,rfl,by simp⟩ (by unfold dW;lia)
 subst z1 z2;refine call_of rE (by simp[B7,pS,pG]) (dG (p:=.d (mD (fu step good F))) (st:=aR K F (F.map rw_)) rfl ?_ rfl);refine ag (aW (v:=.obj 0) (st1:=[K.qN [start]]) ?_) ?_;·rw[tD];simp only[az,cJ,aN,Xo,Zi,Y0,Xk,Xx,av,ae,K.lit];rfl
 refine ag (aW (v:=.obj 1) (st1:=[K.qN [start],.lst [.d (K.enc start)]]) (by simp[az,cJ,au])) ?_;refine ag (aW (v:=.obj 2) (st1:=[K.qN [start],.lst [.d (K.enc start)],.lst []]) (by simp[az,cJ,au])) ?_;refine ag (Dg eF) ?_;refine aQ (dg ?_);have l2:cU (aR K F (F.map rw_)) (.obj 2)=Δ (((F.map rw_).map cy).map .d):=rfl;simp only[bH,aj,ay,aN,r0,Xk,Xl,Xx,av,ae,oQ,l2,X3,eY,XF];rfl
end
section
variable{w:Nat}{m:cX}(ok:dD w m)(hm:m.length<=100000)(hw:w<=1000)
include ok hm hw
theorem vQ(n:Nat){p:Nat}(hp:p < m.length)(st:aI):callC Fs (n+1) 22 [.d (nD p),.d (.pl ((W8 m.length).map λs=>nD (fst w m s))),.d (mD m)] st=.ok (.d (.pl ((eB w m p).map nD))) st:=by
 refine call_of oE rfl (dG (p:=.d (.pl ((eB w m p).map nD))) (st:=[]) rfl (aQ (dg ?_)) rfl);have hl:=ok.len _ (aV hp);have eL:bc (callC Fs n) (.comp (.ex (.ix (.ix (.var 2) (.var 0)) (.cst (.int 1)))) 1 [1] Θ (.ix (.var 1) (.var 0))) (az 3 [.d (nD p),.d (.pl ((W8 m.length).map λs=>nD (fst w m s))),.d (mD m)]) []=.ok ((row m p).2.map λq=>P.d (nD (fst w m q))) []:=by
  refine dF (g:=λq=>P.d (nD q)) (f:=λq=>nD (fst w m q)) (xs:=(row m p).2) ?_ (by unfold au;lia) λq hq=>?_;·have h0:nA (m.map cy) (p:Int)=Δ (cy (row m p)):=An hp;simp[az,mD,nD,h0,cy,wD]
  ·have xn:=ok.lt _ (aV hp) q hq;have h1:nA ((W8 m.length).map λs=>nD (fst w m s)) (q:Int)=Δ (nD (fst w m q)):=dO (by simp[xn]);show aa _ (.ix (.var 1) (.var 0)) [Δ (.d (nD q)),Δ (.d (.pl ((W8 m.length).map λs=>nD (fst w m s))))] _=_;simp only[bI,aN,Xk,Xl,Xx,av,ae,nD,RV];simp only[nD] at h1;rw[h1];rfl
 rw[cV];show(bc (callC Fs n) _ (az 3 _) []).bind _=_;rw[eL,ae,dq];simp[eB,Ym]
theorem yx(n:Nat){p:Nat}(hp:p < m.length)(st:aI):callC Fs (n+1) 23 [.d (nD p),.d (mD m)] st=.ok (.d (nD (gd m p))) st:=by refine call_of qa rfl (dG (p:=.d (nD (gd m p))) (st:=[]) rfl (aQ (dg ?_)) rfl);exact oj hp (by simp[az,dj]) (by simp[az,dj,nD])
theorem nc(n:Nat)(st:aI):callC Fs (n+6) 3 [.d (mD m)] st=.ok (.d (mD (cw w m))) st:=by
 refine call_of Hy rfl (dG (p:=.d (mD (cw w m))) (st:=[]) rfl ?_ rfl);have e1:=AY n ok hm hw [];refine ag (aW (v:=.d (.pl ((W8 m.length).map λs=>nD (fst w m s)))) (st1:=[]) ?_) ?_;·rw[kL];simp only[az,oA,aj,ay,aN,Xo,Zi,Y0,Xk,Xx,av,ae];show mi (callC Fs (n+5) 1) (Δ [.d (mD m)]) []=_;unfold mi;simp only[e1,ae]
 refine ag (Oa _ _) ?_;refine aQ (dg ?_);have f0:nA ((W8 m.length).map λs=>nD (fst w m s)) (0:Int)=Δ (nD (fst w m 0)):=dO (k:=0) (by simp[ok.ne]);have e2:=EI WG (n+4) (step:=eB w m) (good:=gd m) (S:=W8 m.length) (start:=fst w m 0) (kS:=22) (kG:=23) (cS:=[.d (.pl ((W8 m.length).map λs=>nD (fst w m s))),.d (mD m)]) (cG:=[.d (mD m)]) rfl rfl
  (Yl.mpr (gu ok ok.ne).1) (AE ok) (by rw[XS];lia) (λp hp=>by rw[p6 ok p hp];exact hw)
  (λp hp st=>vQ ok hm hw (n+3) (Yl.mp hp) st) (λp hp st=>yx ok hm hw (n+3) (Yl.mp hp) st) []
 rw[kL];simp only[aj,ay,bI,aN,cx,pB,az,oA,ZU,Xo,Zi,Y0,Zp,Xt,YM,abR,Nat.reduceSub,X6,Xk,Xl,Xx,av,ae,RV,f0,XF];show mi (callC Fs (n+5) 2) (List.mapM _ [P.d (nD (fst w m 0)),P.lf 22,P.lf 23]) []=_;rw[show List.mapM (conv [(22,[1,0]),(23,[0])] [Δ (P.d (mD m)),Δ (P.d (.pl ((W8 m.length).map λs=>nD (fst w m s)))),Δ (P.lf 22)] 3) [P.d (nD (fst w m 0)),P.lf 22,P.lf 23]
  =Δ [.d (nD (fst w m 0)),.fn 22 [.d (.pl ((W8 m.length).map λs=>nD (fst w m s))),.d (mD m)],.fn 23 [.d (mD m)]] from rfl]
 unfold mi;have e2':callC Fs (n+5) 2 [.d (nD (fst w m 0)),.fn 22 [.d (.pl ((W8 m.length).map λs=>nD (fst w m s))),.d (mD m)],.fn 23 [.d (mD m)]] []=.ok (.d (mD (fu (eB w m) (gd m) (places (eB w m) 1000000 (fst w m 0))))) []:=e2;simp only[e2',ae];rw[fW];rfl
end
theorem EJ n ns(k:Nat)st:callC Fs (n+1) 4 [.fR ns,.d (.int k)] st=.ok (.d (.int (cell ns k))) st:=by
 refine call_of rF rfl (dG (p:=.d (.int (cell ns k))) (st:=[]) rfl ?_ rfl);by_cases h:k < ns.length
 ·have h1:(k:Int) < (ns.length:Int):=by lia
  have h2:nA ns (k:Int)=Δ (cell ns k):=dO (by unfold cell;rw[Xd,Xc h];rfl);exact aQ (iu (st1:=[]) (by simp[az,cK,h]) (aQ (dg (by simp[az,cK,h2]))))
 ·have h1:cell ns k=0:=by unfold cell;rw[Xd,XI (by lia)];rfl
  rw[h1];exact ag (eh (st1:=[]) (by simp[az,cK];lia) aq) (aQ (dg (by simp)))
theorem Ci n ns(k:Nat)st:callC Fs (n+2) 5 [.fR ns,.d (.int k)] st=.ok (.d (.int (mixed ns k))) st:=by
 refine call_of vM rfl (dG (p:=.d (.int (mixed ns k))) (st:=[]) rfl ?_ rfl);obtain⟨m1,m2⟩:=bN ((cell ns k+7919*k+1)*48271) (show(0:Int) < 2147483647 by decide);have c1:∀z:Int,kz .mul 7919 z=Δ (7919*z):=λz=>eI (.inl (by decide));have c2:∀z:Int,kz .mul z 48271=Δ (z*48271):=λz=>eI (.inr (by decide));have c3:∀z:Int,kz .mul 7 z=Δ (7*z):=λz=>eI (.inl (by decide));refine ag (aW (v:=.d (.int (Al ns k))) (st1:=[]) (by simp[az,fA,EJ,c1,c2,cW,Al])) ?_;have b: -mH < Al ns k/\Al ns k < mH:=by unfold mH Al;lia
 exact aQ (dg (by simp[az,fA,eI,c3,cW,b,mixed]))
theorem Cj n x(k:Nat)st:callC Fs (n+1) 6 [.d (.int x),.d (.int k)] st=.ok (.d (.int (drawn x k))) st:=by
 refine call_of vN rfl (dG (p:=.d (.int (drawn x k))) (st:=[]) rfl ?_ rfl);obtain⟨m1,m2⟩:=bN ((x+104729*k+17)*69621) (show(0:Int) < 2147483647 by decide);have c1:∀z:Int,kz .mul 104729 z=Δ (104729*z):=λz=>eI (.inl (by decide));have c2:∀z:Int,kz .mul z 69621=Δ (z*69621):=λz=>eI (.inr (by decide));have c3:∀z:Int,kz .mul 3 z=Δ (3*z):=λz=>eI (.inl (by decide));refine ag (aW (v:=.d (.int (Am x k))) (st1:=[]) (by simp[az,fB,c1,c2,cW,Am])) ?_;have b: -mH < Am x k/\Am x k < mH:=by unfold mH Am;lia
 exact aQ (dg (by simp[az,fB,eI,c3,cW,b,drawn]))
theorem iY n x(k:Nat)(hz:z=(k:Int))st:callC Fs (n+1) 6 [.d (.int x),.d (.int z)] st=.ok (.d (.int (drawn x k))) st:=by rw[hz];exact Cj n x k st
theorem iZ n ns(k:Nat)(hz:z=(k:Int))st:callC Fs (n+2) 5 [.fR ns,.d (.int z)] st=.ok (.d (.int (mixed ns k))) st:=by rw[hz];exact Ci n ns k st
theorem Ck n x(w c:Nat)(hw:w<=3)(hc:0 < c)(k:Nat)(h1:kl r 1=Δ (.d (.int (w:Int))))(hb:bY [3,0,5] r=[Δ (.d (.int (c:Int))),Δ (.d (.int x)),Δ (.d (.int (k:Int)))]):
  bc (callC Fs (n+1)) (.comp (.fZ [.var 1]) 1 [3,0,5] Θ (.op .mod (.call 6 [.var 2,.op .add (.op .mul (.cst (.int 7)) (.var 3)) (.var 0)]) (.var 1))) r st
   =.ok ((W8 w).map λl=>.d (nD (drawn x (7*k+l) % (c:Int)).toNat)) st:=by
 have c1:∀z:Int,kz .mul 7 z=Δ (7*z):=λz=>eI (.inl (by decide));have c2:∀z:Int,kz .mod z (c:Int)=Δ (z % (c:Int)):=λz=>cW (by lia);refine dF (g:=λk:Nat=>P.d (.int (k:Int))) (f:=λl=>nD (drawn x (7*k+l) % (c:Int)).toNat) ?_ (by rw[XS];unfold au;lia) λl hl=>?_;·have h1':(r[1]?).join=Δ (.d (.int (w:Int))):=h1;exact cf (by rw[aN,h1',av]) (by lia)
 ·rw[hb];have:=bN (drawn x (7*k+l)) (show(0:Int) < (c:Int) by lia);have e:=iY n x (z:=7*(k:Int)+(l:Int)) (7*k+l) (by simp) st;have e2:((drawn x (7*k+l) % (c:Int)).toNat:Int)=drawn x (7*k+l) % (c:Int):=Int.toNat_of_nonneg this.1;simp only[dc,eX,aj,ay,aN,cx,Xk,Xl,Xx,av,ae,uw,c1,sf,XF,e,c2,nD,e2]
theorem xc n x(w c:Nat)(hw:w<=3)(hc:0 < c)a:∀(ks:List Nat) (ys) (u v),ys.length+ks.length<=1000->
  ∃u' v',forL (gz (.nm 5)) (ah (callC Fs (n+1)) fX) (ks.map λk:Nat=>.d (.int (k:Int))) [Δ (.d (.int x)),Δ (.d (.int (w:Int))),a,Δ (.d (.int (c:Int))),Δ (.obj 0),u,v] [.lst (ys.map .d)]
   =.ok (.nx [Δ (.d (.int x)),Δ (.d (.int (w:Int))),a,Δ (.d (.int (c:Int))),Δ (.obj 0),u',v'])
    [.lst ((ys++ks.map λk=>cy ((drawn x (7*k+5) % 3 % 2).toNat,(W8 w).map λl=>(drawn x (7*k+l) % (c:Int)).toNat)).map .d)]
 |[],ys,u,v,_=>⟨u,v,by simp[forL]⟩|k::ks,ys,u,v,hl=>by
  obtain⟨u',v',ih⟩:=xc n x w c hw hc a ks (ys++[cy ((drawn x (7*k+5) % 3 % 2).toNat,(W8 w).map λl=>(drawn x (7*k+l) % (c:Int)).toNat)]) (Δ (.d (.int (k:Int)))) (Δ (.d (wD ((W8 w).map λl=>(drawn x (7*k+l) % (c:Int)).toNat)))) (by simp at hl ⊢;lia);refine⟨u',v',?_⟩;have c1:∀z:Int,kz .mul 7 z=Δ (7*z):=λz=>eI (.inl (by decide));have c2:∀z:Int,kz .mod z 3=Δ (z % 3):=λz=>cW (by lia);have c3:∀z:Int,kz .mod z 2=Δ (z % 2):=λz=>cW (by lia);have e5:=λst=>iY n x (z:=7*(k:Int)+5) (7*k+5) (by simp) st;have r5:=bN (drawn x (7*k+5) % 3) (show(0:Int) < 2 by decide);have es:bc (callC Fs (n+1)) (.comp (.fZ [.var 1]) 1 [3,0,5] Θ (.op .mod (.call 6 [.var 2,.op .add (.op .mul (.cst (.int 7)) (.var 3)) (.var 0)]) (.var 1))) [Δ (.d (.int x)),Δ (.d (.int (w:Int))),a,Δ (.d (.int (c:Int))),Δ (.obj 0),Δ (.d (.int (k:Int))),v] [.lst (ys.map .d)]
    =.ok ((W8 w).map λl=>.d (nD (drawn x (7*k+l) % (c:Int)).toNat)) [.lst (ys.map .d)]:=Ck n x w c hw hc k rfl rfl
  have TK:ys.length < au:=by unfold au;simp at hl;lia
  rw[Xo,forL,gz,av,ae];have e:ah (callC Fs (n+1)) fX [Δ (.d (.int x)),Δ (.d (.int (w:Int))),a,Δ (.d (.int (c:Int))),Δ (.obj 0),Δ (.d (.int (k:Int))),v] [.lst (ys.map .d)]
    =.ok (.nx [Δ (.d (.int x)),Δ (.d (.int (w:Int))),a,Δ (.d (.int (c:Int))),Δ (.obj 0),Δ (.d (.int (k:Int))),Δ (.d (wD ((W8 w).map λl=>(drawn x (7*k+l) % (c:Int)).toNat)))])
     [.lst ((ys++[cy ((drawn x (7*k+5) % 3 % 2).toNat,(W8 w).map λl=>(drawn x (7*k+l) % (c:Int)).toNat)]).map .d)]:=by
   refine ag (aW (v:=.d (wD ((W8 w).map λl=>(drawn x (7*k+l) % (c:Int)).toNat))) (st1:=[.lst (ys.map .d)]) ?_) ?_;·rw[bH,aj,cV,es];simp[wD,Ym]
   ·refine ag (kg (x:=.obj 0) (v:=.d (cy ((drawn x (7*k+5) % 3 % 2).toNat,(W8 w).map λl=>(drawn x (7*k+l) % (c:Int)).toNat))) (its:=ys.map .d) (st1:=[.lst (ys.map .d)]) (st2:=[.lst (ys.map .d)]) ?_ rfl ?_ ?_) aq;·simp
    ·simp[c1,c2,c3,e5,cy,nD,Int.toNat_of_nonneg r5.1,au]
    ·simp[xK,TK]
  rw[show([Δ (.d (.int x)),Δ (.d (.int (w:Int))),a,Δ (.d (.int (c:Int))),Δ (.obj 0),u,v]:bX).set 5 (Δ (.d (.int (k:Int))))=[Δ (.d (.int x)),Δ (.d (.int (w:Int))),a,Δ (.d (.int (c:Int))),Δ (.obj 0),Δ (.d (.int (k:Int))),v] from rfl,e,ae];dsimp only;rw[ih];simp
theorem EK n x(w:Nat)most(c:Nat)(hw:w<=3)(hm:0 < most)(hc:1+x % most=(c:Int))(hc1:c<=900)st:
  callC Fs (n+2) 8 [.d (.int x),.d (.int (w:Int)),.d (.int most)] st=.ok (.d (mD (HV x w c))) st:=by
 have hx:=bN x hm;have c1:∀z:Int,kz .mod z most=Δ (z % most):=λz=>cW hm;obtain⟨u',v',e⟩:=xc n x w c hw (by lia) (Δ (.d (.int most))) (W8 c) [] Θ Θ (by simp;lia);refine call_of rG rfl (dG (p:=.d (mD (HV x w c))) (st:=[.lst (([]++(W8 c).map λk=>cy ((drawn x (7*k+5) % 3 % 2).toNat,(W8 w).map λl=>(drawn x (7*k+l) % (c:Int)).toNat)).map .d)]) rfl ?_ rfl);refine ag (aW (v:=.d (.int (c:Int))) (st1:=[]) (by simp[az,cL,c1,hc])) ?_;refine ag (aW (v:=.obj 0) (st1:=[.lst []]) (by simp[az,cL,au])) ?_;refine ag (dh (ps:=(W8 c).map λk:Nat=>.d (.int (k:Int))) (st1:=[.lst []]) (cf (by simp[az,cL]) (by lia)) e) ?_;refine aQ (dg ?_);simp[J3,RX,mD,HV,Ym]
theorem xf n(k:dD w m)u(hu:∀a∈u,a < w)st:callC Fs (n+1) 9 [.d (mD m),.d (wD u)] st=.ok (.d (.bl (Es m u))) st:=by refine call_of AS rfl (dG (p:=.d (.bl (Es m u))) (st:=[]) rfl ?_ rfl);obtain⟨y,e⟩:=wX (C:=callC Fs n) (st:=[]) (r:=[Δ (.d (mD m)),Δ (.d (wD u)),Θ,Θ]) (iM:=0) (iS:=2) (iL:=3) k rfl (by decide) (by decide) (by decide) (by simp) (by simp) u 0 Θ k.ne hu;refine ag (aW (v:=.d (.int 0)) (st1:=[]) (by simp)) ?_;refine ag (dh (ps:=(u.map nD).map .d) (st1:=[]) (by simp[az,jZ,wD]) e) ?_;refine aQ (dg ?_);rw[bM,oj (m:=m) (s:=walk m 0 u) (k.walk k.ne hu) (by simp) (by simp)];simp[Es,Wz]
theorem qb n x h st:callC Fs (n+1) 10 [.d x,.d (.int h)] st=.ok (.d (.bl (l4 x h))) st:=by refine call_of uS rfl (dG (p:=.d (.bl (l4 x h))) (st:=[]) rfl (aQ (dg ?_)) rfl);cases x with|int i=>by_cases hi:0<=i<;>simp[eD,az,fh,l4,hi]|_=>simp[eD,az,fh,l4]
theorem Cm n x w(hx:∀xs,x=.tup xs->xs.length<=100000/\∀y∈xs,∀ys,y=.tup ys->∀z∈ys,∀zs,z=.tup zs->zs.length<=100000)st:callC Fs (n+2) 11 [.d x,.d (.int w)] st=.ok (.d (.bl (qK x w))) st:=by
 refine call_of m7 rfl (dG (p:=.d (.bl (qK x w))) (st:=[]) rfl ?_ rfl);cases x with
 |tup xs=>
  obtain⟨hl,hy⟩:=hx xs rfl;have body:∀y∈xs,ah (callC Fs (n+1)) cH (([Δ (.d (.tup xs)),Δ (.d (.int w)),Θ]:bX).set 2 (Δ (.d y))) []=if iy w ((xs.length:Int) - 1) y=Λ then .ok (.nx (([Δ (.d (.tup xs)),Δ (.d (.int w)),Θ]:bX).set 2 (Δ (.d y)))) [] else .ok (.rt (.d (.bl Ξ))) []:=by
   intro y hyx;have ret:∀{c:E} {rest:List S} {r:bX},aa (callC Fs (n+1)) c r []=.ok (.d (.bl Λ)) []->ah (callC Fs (n+1)) (.ifs c [.ret (.cst (.bl Ξ))] []::rest) r []=.ok (.rt (.d (.bl Ξ))) []:=λh=>aQ (iu h (aQ (dg (by simp))));have go:∀{c:E} {rest:List S} {r:bX} {res:R Fl},aa (callC Fs (n+1)) c r []=.ok (.d (.bl Ξ)) []->ah (callC Fs (n+1)) rest r []=res->ah (callC Fs (n+1)) (.ifs c [.ret (.cst (.bl Ξ))] []::rest) r []=res:=λh h2=>ag (eh h aq) h2;unfold cH;cases y with
   |tup ys=>
    match ys,hy _ hyx with
    |[],_=>simp only[iy,XZ,if_false];exact ret (by simp[fh])|[a],_=>simp only[iy,XZ,if_false];exact ret (by simp[fh])|a::b::c::r,_=>
     simp only[iy,XZ,if_false];refine ret ?_;have:((r.length:Int)+1+1+1==2)=Ξ:=by rw[beq_eq_false_iff_ne];lia
     simp[fh,this]
    |[a,b],hb=>
     simp only[iy];rcases aaE (l4 a 1) with h1|h1
     case inr=>simp only[h1,aa3,XZ,if_false];exact ret (by simp[fh,qb,h1])
     case inl=>
      simp only[h1,acC];refine go (by simp[fh,qb,h1]) ?_;cases b with
      |tup ss=>
       have uI:=hb _ rfl (.tup ss) (by simp) ss rfl;unfold ym;dsimp only;by_cases h2:(ss.length:Int)=w
       ·refine go (by simp[fh,h2]) ?_;simp only[h2,decide_true,acC];have hc:bc (callC Fs (n+1)) (.comp (.ex (.ix (.var 2) (.cst (.int 1)))) 1 [0] (Δ (.not (.call 10 [.var 0,.op .sub (.bf .len [.var 1]) (.cst (.int 1))]))) (.var 0)) [Δ (.d (.tup xs)),Δ (.d (.int w)),Δ (.d (.tup [a,.tup ss]))] []
          =.ok ((ss.filter λs=>!l4 s ((xs.length:Int) - 1)).map λs=>.d s) []:=
         ye (f:=λs=>s) (p:=λs=>!l4 s ((xs.length:Int) - 1)) (by simp) (by unfold au;lia) (λs _=>by simp[bY,qb]) (λs _=>by simp)
        rcases aaE (ss.all λs=>l4 s ((xs.length:Int) - 1)) with h3|h3
        case inl=>
         have e:(ss.filter λs=>!l4 s ((xs.length:Int) - 1))=[]:=by rw[Zu];intro s hs;rw[Y2] at h3;simp[h3 s hs]
         rw[e] at hc;simp only[h3,if_true];refine go ?_ aq;have Ct:bc (callC Fs (n+1)) (.comp (.ex (.ix (.var 2) (.cst (.int 1)))) 1 [0] (Δ (.not (.call 10 [.var 0,.op .sub (.bf .len [.var 1]) (.cst (.int 1))]))) (.var 0)) (([Δ (.d (.tup xs)),Δ (.d (.int w)),Θ]:bX).set 2 (Δ (.d (.tup [a,.tup ss])))) []=.ok [] []:=hc;rw[bM,cV,Ct];simp[au]
        case inr=>
         have e:(ss.filter λs=>!l4 s ((xs.length:Int) - 1))≠[]:=by intro z;rw[Zu] at z;rw[List.all_eq_false] at h3;obtain⟨s,hs,hf⟩:=h3;exact z s hs (by simpa using hf)
         obtain⟨f0,fr,ef⟩:∃f0 fr,(ss.filter λs=>!l4 s ((xs.length:Int) - 1))=f0::fr:=by cases q:(ss.filter λs=>!l4 s ((xs.length:Int) - 1)) with|nil=>exact absurd q e|cons a b=>exact⟨a,b,rfl⟩
         rw[ef] at hc;simp only[h3,XZ,if_false];refine ret ?_;have Ct:bc (callC Fs (n+1)) (.comp (.ex (.ix (.var 2) (.cst (.int 1)))) 1 [0] (Δ (.not (.call 10 [.var 0,.op .sub (.bf .len [.var 1]) (.cst (.int 1))]))) (.var 0)) (([Δ (.d (.tup xs)),Δ (.d (.int w)),Θ]:bX).set 2 (Δ (.d (.tup [a,.tup ss])))) []=.ok ((f0::fr).map λs=>.d s) []:=hc;rw[bM,cV,Ct];simp[au]
       ·simp only[h2,decide_false,aa3,XZ,if_false];exact ret (by simp[fh,h2])
      |_=>simp only[ym,XZ,if_false];exact ret (by simp[fh])
   |_=>simp only[iy,XZ,if_false];exact ret (by simp[fh])
  by_cases he:xs=[];·subst he;exact aQ (iu (st1:=[]) (by simp[az,bp,fh,au]) (aQ (dg (by simp[qK]))))
  ·have La:xs.isEmpty=Ξ:=by cases xs with|nil=>exact absurd rfl he|cons a b=>rfl
   refine ag (eh (st1:=[]) (by simp[az,bp,fh,au,La]) aq) ?_;obtain⟨u2,e2⟩:=Dd (i:=2) (r:=[Δ (.d (.tup xs)),Δ (.d (.int w)),Θ]) (st:=[]) (f:=λy=>iy w ((xs.length:Int) - 1) y) (v:=.d (.bl Ξ)) (b:=ah (callC Fs (n+1)) cH) (xs:=xs) (u:=Θ) body;have em:qK (.tup xs) w=xs.all λy=>iy w ((xs.length:Int) - 1) y:=by unfold qK;simp[La]
   rw[em];cases h3:xs.all λy=>iy w ((xs.length:Int) - 1) y with|true=>rw[h3,if_pos rfl] at e2;exact ag (dh (ps:=xs.map .d) (st1:=[]) (by simp[az,bp]) e2) (aQ (dg (by simp)))|false=>rw[h3,if_neg (by simp)] at e2;exact aQ (dh (ps:=xs.map .d) (st1:=[]) (by simp[az,bp]) e2)
 |_=>exact aQ (iu (st1:=[]) (by simp[az,bp,fh]) (aQ (dg (by simp[qK]))))
section
variable{w:Nat}{m:cX}(ok:dD w m)(hn:m.length<=4000)(n:Nat)(bF:aI)
include ok hn
theorem HB{ps:p5}(h:bO w m ps):ps.length < au:=by have:=h.len;have:m.length*m.length<=4000*4000:=Nat.mul_le_mul hn hn;unfold au;lia
theorem Kr{i j:Nat}(hi:i < m.length)(hj:j < m.length){ps:p5}(hs:bO w m ps)(nV x5 x6:Option P):
  ah (callC Fs n) gG [Δ (.d (mD m)),nV,Δ (.obj bF.length),Δ (.d (.int (i:Int))),Δ (.d (.int (j:Int))),x5,x6] (bF++[bJ ps])
   =.ok (.nx [Δ (.d (mD m)),nV,Δ (.obj bF.length),Δ (.d (.int (i:Int))),Δ (.d (.int (j:Int))),x5,x6]) (bF++[bJ (p1 m i ps j)]):=by
 have e1:=oj (C:=callC Fs n) (r:=[Δ (.d (mD m)),nV,Δ (.obj bF.length),Δ (.d (.int (i:Int))),Δ (.d (.int (j:Int))),x5,x6]) (st:=bF++[bJ ps]) (em:=.var 0) (es:=.var 3) hi (by simp) (by simp);have e2:=oj (C:=callC Fs n) (r:=[Δ (.d (mD m)),nV,Δ (.obj bF.length),Δ (.d (.int (i:Int))),Δ (.d (.int (j:Int))),x5,x6]) (st:=bF++[bJ ps]) (em:=.var 0) (es:=.var 4) hj (by simp) (by simp);unfold p1;by_cases h:gd m i=gd m j;·rw[if_neg (by simpa using h)];refine ag (eh (st1:=bF++[bJ ps]) ?_ aq) aq;rw[bM,e1,ae,e2,ae,Hb,oa,h];simp
 ·rw[if_pos h];refine ag (iu (st1:=bF++[bJ ps]) ?_ (ag (oi (v:=.d (.bl Λ)) (x:=.obj bF.length) (k:=.d (.tup [nD i,nD j])) (st1:=bF++[bJ ps]) (st2:=bF++[bJ ps]) (st3:=bF++[bJ ps]) (by simp) (by simp) (by simp[nD,au]) ?_) aq)) aq
  ·rw[bM,e1,ae,e2,ae,Hb,oa];have:((gd m i:Int)==(gd m j:Int))=Ξ:=by rw[beq_eq_false_iff_ne];lia
   simp[this]
  ·rw[Ax (Hm bF _) (HB ok hn hs),Hn]
theorem Ks{i j:Nat}(hi:i < m.length)(hj:j < m.length){ps:p5}(hs:bO w m ps)(hw:w<=1000)(nV x5 x6:Option P):
  ∃y6,ah (callC Fs n) gI [Δ (.d (mD m)),nV,Δ (.obj bF.length),Δ (.d (.int (i:Int))),Δ (.d (.int (j:Int))),x5,x6] (bF++[bJ ps])
   =.ok (.nx [Δ (.d (mD m)),nV,Δ (.obj bF.length),Δ (.d (.int (i:Int))),Δ (.d (.int (j:Int))),x5,y6]) (bF++[bJ (p2 m i ps j)]):=by
 have r1:∀(s:Nat) (v:Nat) (rr:bX) (hs:s < m.length),(rr[0]?).join=Δ (.d (mD m))->(rr[v]?).join=Δ (.d (.int (s:Int)))->aa (callC Fs n) (.ix (.ix (.var 0) (.var v)) (.cst (.int 1))) rr (bF++[bJ ps])=.ok (.d (wD (row m s).2)) (bF++[bJ ps]):=λs v rr hs h1 h2=>by simp[h1,h2,mD,An hs,cy]
 refine⟨Δ (.d (.pl (((row m i).2.zip (row m j).2).map λq=>D.tup [nD q.1,nD q.2]))),?_⟩;refine ag (aW (v:=.d (.pl (((row m i).2.zip (row m j).2).map λq=>D.tup [nD q.1,nD q.2]))) (st1:=bF++[bJ ps]) ?_) ?_;·rw[cV,wy,r1 i 3 _ hi rfl rfl,ae,r1 j 4 _ hj rfl rfl,ae,Og];simp[Ym]
 have lz:((row m i).2.zip (row m j).2).length<=au:=by rw[abq,ok.len _ (aV hi)];unfold au;lia
 have hc:bc (callC Fs n) (.comp (.ex (.var 6)) 1 [2] Θ (.cmp .isin (.var 0) (.var 1))) (([Δ (.d (mD m)),nV,Δ (.obj bF.length),Δ (.d (.int (i:Int))),Δ (.d (.int (j:Int))),x5,x6]:bX).set 6 (Δ (.d (.pl (((row m i).2.zip (row m j).2).map λq=>D.tup [nD q.1,nD q.2]))))) (bF++[bJ ps])
   =.ok (((row m i).2.zip (row m j).2).map λq=>.d (.bl (decide (q∈ps)))) (bF++[bJ ps]):=
  dF (g:=λq:Nat×Nat=>P.d (D.tup [nD q.1,nD q.2])) (f:=λq=>.bl (decide (q∈ps))) (by simp[Ym]) lz λq _=>by have:=Ki (Hm bF (bJ ps)) q.1 q.2;simp[bY,this]
 have ha:aa (callC Fs n) (.bf .any [.lst Ξ (.comp (.ex (.var 6)) 1 [2] Θ (.cmp .isin (.var 0) (.var 1)))]) (([Δ (.d (mD m)),nV,Δ (.obj bF.length),Δ (.d (.int (i:Int))),Δ (.d (.int (j:Int))),x5,x6]:bX).set 6 (Δ (.d (.pl (((row m i).2.zip (row m j).2).map λq=>D.tup [nD q.1,nD q.2]))))) (bF++[bJ ps])
   =.ok (.d (.bl (hit m ps i j))) (bF++[bJ ps]):=by
  rw[bH,aj,cV,hc];simp[J4,hit,Ym]
 unfold p2;rcases aaE (hit m ps i j) with h|h;·rw[if_pos h];rw[h] at ha;refine ag (iu (st1:=bF++[bJ ps]) ha (ag (oi (v:=.d (.bl Λ)) (x:=.obj bF.length) (k:=.d (.tup [nD i,nD j])) (st1:=bF++[bJ ps]) (st2:=bF++[bJ ps]) (st3:=bF++[bJ ps]) (by simp) (by simp) (by simp[nD,au]) ?_) aq)) aq;rw[Ax (Hm bF _) (HB ok hn hs),Hn]
 ·rw[if_neg (by simp[h])];rw[h] at ha;exact ag (eh (st1:=bF++[bJ ps]) ha aq) aq
theorem Kt{i:Nat}(hi:i < m.length){ps:p5}(hs:bO w m ps)(x4 x5 x6:Option P):
  ∃y4,ah (callC Fs n) gH [Δ (.d (mD m)),Δ (.d (.int (m.length:Nat))),Δ (.obj bF.length),Δ (.d (.int (i:Int))),x4,x5,x6] (bF++[bJ ps])
   =.ok (.nx [Δ (.d (mD m)),Δ (.d (.int (m.length:Nat))),Δ (.obj bF.length),Δ (.d (.int (i:Int))),y4,x5,x6]) (bF++[bJ ((W8 m.length).foldl (p1 m i) ps)]):=by
 obtain⟨r',e,⟨y4,i'⟩,j'⟩:=jz (g:=gz (.nm 4)) (b:=ah (callC Fs n) gG) (enc:=λk:Nat=>P.d (.int (k:Int))) (f:=p1 m i) (S:=λps=>bF++[bJ ps]) (I:=λr=>∃y4,r=[Δ (.d (mD m)),Δ (.d (.int (m.length:Nat))),Δ (.obj bF.length),Δ (.d (.int (i:Int))),y4,x5,x6]) (J:=bO w m) (xs:=W8 m.length)
  (λj hj s r js ⟨y4,er⟩=>by subst er;exact⟨_,_,rfl,Kr ok hn n bF hi (by simpa using hj) js _ x5 x6,⟨_,rfl⟩,Hi js hi (by simpa using hj)⟩) hs ⟨x4,rfl⟩
 subst i';exact⟨y4,ag (dh (cf (by simp) (by lia)) e) aq⟩
theorem Ku{i:Nat}(hi:i < m.length){ps:p5}(hs:bO w m ps)(hw:w<=1000)(x4 x5 x6:Option P):
  ∃y4 y6,ah (callC Fs n) gJ [Δ (.d (mD m)),Δ (.d (.int (m.length:Nat))),Δ (.obj bF.length),Δ (.d (.int (i:Int))),x4,x5,x6] (bF++[bJ ps])
   =.ok (.nx [Δ (.d (mD m)),Δ (.d (.int (m.length:Nat))),Δ (.obj bF.length),Δ (.d (.int (i:Int))),y4,x5,y6]) (bF++[bJ ((W8 m.length).foldl (p2 m i) ps)]):=by
 obtain⟨r',e,⟨y4,y6,i'⟩,j'⟩:=jz (g:=gz (.nm 4)) (b:=ah (callC Fs n) gI) (enc:=λk:Nat=>P.d (.int (k:Int))) (f:=p2 m i) (S:=λps=>bF++[bJ ps]) (I:=λr=>∃y4 y6,r=[Δ (.d (mD m)),Δ (.d (.int (m.length:Nat))),Δ (.obj bF.length),Δ (.d (.int (i:Int))),y4,x5,y6]) (J:=bO w m) (xs:=W8 m.length)
  (λj hj s r js ⟨y4,y6,er⟩=>by subst er;obtain⟨z6,ez⟩:=Ks ok hn n bF hi (j:=j) (by simpa using hj) js hw (Δ (.d (.int (m.length:Nat)))) x5 y6;exact⟨_,_,rfl,ez,⟨_,_,rfl⟩,Dk ok js hi (by simpa using hj)⟩) hs ⟨x4,x6,rfl⟩
 subst i';exact⟨y4,y6,ag (dh (cf (by simp) (by lia)) e) aq⟩
theorem Kv{ps:p5}(hs:bO w m ps)(hw:w<=1000)(x3 x4 x5 x6:Option P):
  ∃y3 y4 y6,ah (callC Fs n) gK [Δ (.d (mD m)),Δ (.d (.int (m.length:Nat))),Δ (.obj bF.length),x3,x4,x5,x6] (bF++[bJ ps])
   =.ok (.nx [Δ (.d (mD m)),Δ (.d (.int (m.length:Nat))),Δ (.obj bF.length),y3,y4,x5,y6]) (bF++[bJ (kh (p2 m) m.length ps)]):=by
 obtain⟨r',e,⟨y3,y4,y6,i'⟩,j'⟩:=jz (g:=gz (.nm 3)) (b:=ah (callC Fs n) gJ) (enc:=λk:Nat=>P.d (.int (k:Int))) (f:=λps i=>(W8 m.length).foldl (p2 m i) ps) (S:=λps=>bF++[bJ ps]) (I:=λr=>∃y3 y4 y6,r=[Δ (.d (mD m)),Δ (.d (.int (m.length:Nat))),Δ (.obj bF.length),y3,y4,x5,y6]) (J:=bO w m) (xs:=W8 m.length)
  (λi hi s r js ⟨y3,y4,y6,er⟩=>by
   have wa:i < m.length:=by simpa using hi
   subst er;obtain⟨z4,z6,ez⟩:=Ku ok hn n bF wa js hw y4 x5 y6;exact⟨_,_,rfl,ez,⟨_,_,_,rfl⟩,dt js λs j hj hs=>Dk ok hs wa (by simpa using hj)⟩) hs ⟨x3,x4,x6,rfl⟩
 subst i';exact⟨y3,y4,y6,ag (dh (cf (by simp) (by lia)) e) aq⟩
theorem AZ(hw:w<=1000):callC Fs (n+1) 12 [.d (mD m)] bF=.ok (.obj bF.length) (bF++[bJ (cE m)]):=by
 have s0:bO w m []:=⟨by simp,(λ_ h=>nomatch h),(λ_ h=>nomatch h)⟩;refine yf uT rfl rfl ?_;refine ag (aW (v:=.d (.int (m.length:Nat))) (st1:=bF) (by simp[az,eE,mD])) ?_;refine ag (aW (v:=.obj bF.length) (st1:=bF++[bJ []]) (by simp[bJ])) ?_;obtain⟨r1,e1,⟨y3,y4,i1⟩,j1⟩:=jz (g:=gz (.nm 3)) (b:=ah (callC Fs n) gH) (enc:=λk:Nat=>P.d (.int (k:Int))) (f:=λps i=>(W8 m.length).foldl (p1 m i) ps) (S:=λps=>bF++[bJ ps]) (I:=λr=>∃y3 y4,r=[Δ (.d (mD m)),Δ (.d (.int (m.length:Nat))),Δ (.obj bF.length),y3,y4,Θ,Θ]) (J:=bO w m) (xs:=W8 m.length)
  (λi hi s r js ⟨y3,y4,er⟩=>by
   have wa:i < m.length:=by simpa using hi
   subst er;obtain⟨z4,ez⟩:=Kt ok hn n bF wa js y4 Θ Θ;exact⟨_,_,rfl,ez,⟨_,_,rfl⟩,dt js λs j hj hs=>Hi hs wa (by simpa using hj)⟩) (s:=[]) s0 ⟨Θ,Θ,rfl⟩
 subst i1;refine ag (dh (cf (j:=m.length) (by simp[az,eE]) (by lia)) e1) ?_;obtain⟨r2,e2,⟨z3,z4,z5,z6,i2⟩,j2⟩:=jz (g:=gz (.nm 5)) (b:=ah (callC Fs n) gK) (enc:=λk:Nat=>P.d (.int (k:Int))) (f:=λps _=>kh (p2 m) m.length ps) (S:=λps=>bF++[bJ ps]) (I:=λr=>∃y3 y4 y5 y6,r=[Δ (.d (mD m)),Δ (.d (.int (m.length:Nat))),Δ (.obj bF.length),y3,y4,y5,y6]) (J:=bO w m) (xs:=W8 m.length)
  (λi hi s r js ⟨y3,y4,y5,y6,er⟩=>by subst er;obtain⟨z3,z4,z6,ez⟩:=Kv ok hn n bF js hw y3 y4 (Δ (.d (.int (i:Int)))) y6;exact⟨_,_,rfl,ez,⟨_,_,_,_,rfl⟩,uD (J:=bO w m) (λps i j hi hj h=>Dk ok h hi hj) js⟩) (s:=kh (p1 m) m.length []) j1 ⟨y3,y4,Θ,Θ,rfl⟩
 subst i2;refine ag (dh (cf (j:=m.length) (by simp) (by lia)) e2) ?_;exact aQ (dg (by simp[cE]))
end
section
variable{w:Nat}{m:cX}(ok:dD w m)(hn:m.length<=4000)(n:Nat)
abbrev fM(o:List Nat):aI:=[.lst (o.map λk=>P.d (nD k))]
theorem qc(hl:∀s∈([]:List Nat),True)mV wV kV x5:∀(ss o) (x4),o.length+ss.length<=100000000->o.length+ss.length < au->
  ∃y4,forL (gz (.nm 4)) (ah (callC Fs n) dz) ((ss.map nD).map .d) [mV,wV,Δ (.obj 0),kV,x4,x5] (fM o)=.ok (.nx [mV,wV,Δ (.obj 0),kV,y4,x5]) (fM (iJ o ss))
 |[],o,x4,_,_=>⟨x4,rfl⟩|s::ss,o,x4,hb,we=>by
  have e1:=Kh (o:=o) (s:=s) (st:=fM o) (k:=0) rfl;rw[Xo,Xo,forL,gz,av,ae];simp only[ZU];by_cases h:s∈o
  ·obtain⟨y4,ih⟩:=qc hl mV wV kV x5 ss o (Δ (.d (nD s))) (by simp at hb ⊢;lia) (by simp at we ⊢;lia);refine⟨y4,?_⟩;have e:ah (callC Fs n) dz [mV,wV,Δ (.obj 0),kV,Δ (.d (nD s)),x5] (fM o)=.ok (.nx [mV,wV,Δ (.obj 0),kV,Δ (.d (nD s)),x5]) (fM o):=
    ag (eh (st1:=fM o) (by simp[e1,h]) aq) aq
   rw[e,ae];have eo:iJ o (s::ss)=iJ o ss:=by unfold iJ;rw[Zr,if_pos h]
   rw[eo];exact ih
  ·obtain⟨y4,ih⟩:=qc hl mV wV kV x5 ss (o++[s]) (Δ (.d (nD s))) (by simp at hb ⊢;lia) (by simp at we ⊢;lia);refine⟨y4,?_⟩;have e:ah (callC Fs n) dz [mV,wV,Δ (.obj 0),kV,Δ (.d (nD s)),x5] (fM o)=.ok (.nx [mV,wV,Δ (.obj 0),kV,Δ (.d (nD s)),x5]) (fM (o++[s])):=by
    refine ag (iu (st1:=fM o) (by simp[e1,h]) (ag (kg (x:=.obj 0) (v:=.d (nD s)) (its:=o.map λk=>P.d (nD k)) (st1:=fM o) (st2:=fM o) (by simp) rfl (by simp) ?_) aq)) aq;have:o.length < au:=by simp at we;lia
    simp[xK,fM,this]
   rw[e,ae];have eo:iJ o (s::ss)=iJ (o++[s]) ss:=by unfold iJ;rw[Zr,if_neg h]
   rw[eo];exact ih
include ok hn
theorem HC{o ss:List Nat}(ho:∀s∈o,s < m.length)(uI:∀s∈ss,s < m.length)(hd:o.Nodup):(∀s∈iJ o ss,s < m.length)/\(iJ o ss).Nodup:=by
 unfold iJ;refine dt (J:=λo=>(∀s∈o,s < m.length)/\o.Nodup) ⟨ho,hd⟩ λo s hs ⟨h1,h2⟩=>?_;split;·exact⟨h1,h2⟩
 ·rename_i h;refine⟨λt ht=>?_,?_⟩
  ·rcases Zq.mp ht with z|z;·exact h1 t z
   ·rw[Yg] at z;rw[z];exact uI s hs
  ·rw[X9];exact⟨h2,by simp,λa ha b hb=>by simp at hb;subst hb;exact λz=>h (z▸ha)⟩
theorem Kw{o:List Nat}(ho:∀s∈o,s < m.length)(hd:o.Nodup):o.length<=m.length:=by
 have:=fV hd (xs:=W8 m.length) λs hs=>by simpa using ho s hs
 simpa using this
theorem xg(hw:w<=1000)(wV x5:Option P):∀(ks o:List Nat) (x3 x4:Option P),(∀s∈o,s < m.length)->o.Nodup->
  match vH m ks o with|some o'=>(∀s∈o',s < m.length)/\o'.Nodup/\∃y3 y4,forL (gz (.nm 3)) (ah (callC Fs n) bE) (ks.map λk:Nat=>.d (.int (k:Int))) [Δ (.d (mD m)),wV,Δ (.obj 0),x3,x4,x5] (fM o)=.ok (.nx [Δ (.d (mD m)),wV,Δ (.obj 0),y3,y4,x5]) (fM o')|none=>∃aK,forL (gz (.nm 3)) (ah (callC Fs n) bE) (ks.map λk:Nat=>.d (.int (k:Int))) [Δ (.d (mD m)),wV,Δ (.obj 0),x3,x4,x5] (fM o)=.ok (.rt (.d (.bl Ξ))) aK
 |[],o,x3,x4,ho,hd=>⟨ho,hd,x3,x4,rfl⟩|k::ks,o,x3,x4,ho,hd=>by
  have ol:=Kw ok hn ho hd;have el:oQ .len [.obj 0] (fM o)=Δ (.d (.int (o.length:Nat))):=by rw[g6 (st:=fM o) (n:=0) rfl,Xf]
  simp only[vH];by_cases h:o.length<=k
  ·rw[if_pos h];refine⟨fM o,?_⟩;have e:ah (callC Fs n) bE [Δ (.d (mD m)),wV,Δ (.obj 0),Δ (.d (.int (k:Int))),x4,x5] (fM o)=.ok (.rt (.d (.bl Ξ))) (fM o):=
    aQ (iu (st1:=fM o) (by simp[el];lia) (aQ (dg (by simp))))
   rw[Xo,forL,gz,av,ae];simp only[ZU];rw[e,ae]
  ·rw[if_neg h];have hk:o[k]?=Δ (o.getD k 0):=by rw[Xd,Xc (by lia)];rfl
   have hs:o.getD k 0 < m.length:=ho _ (Xw hk);have hr:=aV hs;have hlen:=ok.len _ hr;obtain⟨y4,e1⟩:=qc n (λ_ _=>trivial) (Δ (.d (mD m))) wV (Δ (.d (.int (k:Int)))) x5 (row m (o.getD k 0)).2 o x4 (by lia) (by unfold au;lia);have eix:A7 (.obj 0) (.d (.int (k:Int))) (fM o)=Δ (.d (nD (o.getD k 0))):=by have:bC (fM o) (.obj 0)=Θ:=jW rfl;unfold A7;rw[this];dsimp only[VF];show(cU (fM o) (.obj 0)).bind _=_;have e2:cU (fM o) (.obj 0)=Δ (o.map λk=>P.d (nD k)):=rfl;rw[e2,X3];exact dO (by rw[Xi,hk];rfl)
   have e:ah (callC Fs n) bE [Δ (.d (mD m)),wV,Δ (.obj 0),Δ (.d (.int (k:Int))),x4,x5] (fM o)=.ok (.nx [Δ (.d (mD m)),wV,Δ (.obj 0),Δ (.d (.int (k:Int))),y4,x5]) (fM (iJ o (row m (o.getD k 0)).2)):=by refine ag (eh (st1:=fM o) (by simp[el];lia) aq) ?_;refine ag (dh (ps:=((row m (o.getD k 0)).2.map nD).map .d) (st1:=fM o) ?_ e1) aq;rw[zH];simp only[bI,aN,cx,Xk,Xl,Xx,av,ae,eix,nD];rw[mD,RU,An hs];simp[cy,wD,nD]
   have a:=HC ok hn (o:=o) (ss:=(row m (o.getD k 0)).2) ho (λs h=>ok.lt _ hr s h) hd;have ih:=xg hw wV x5 ks (iJ o (row m (o.getD k 0)).2) (Δ (.d (.int (k:Int)))) y4 a.1 a.2;have step:forL (gz (.nm 3)) (ah (callC Fs n) bE) ((k::ks).map λk:Nat=>.d (.int (k:Int))) [Δ (.d (mD m)),wV,Δ (.obj 0),x3,x4,x5] (fM o)
     =forL (gz (.nm 3)) (ah (callC Fs n) bE) (ks.map λk:Nat=>.d (.int (k:Int))) [Δ (.d (mD m)),wV,Δ (.obj 0),Δ (.d (.int (k:Int))),y4,x5] (fM (iJ o (row m (o.getD k 0)).2)):=by
    rw[Xo,forL,gz,av,ae];simp only[ZU];rw[e,ae]
   rw[step];exact ih
end
theorem OC n{w:Nat}(hn:m.length<=4000)o y3 y4:aa (callC Fs (n+2)) (.lst Ξ (.fZ [.bf .len [.var 0]])) [Δ (.d (mD m)),Δ (.d (.int (w:Int))),Δ (.obj 0),y3,y4,Θ] (fM o)=.ok (.d (.pl ((W8 m.length).map nD))) (fM o):=by
 have e2:nS [.d (.int (m.length:Nat))]=Δ ((W8 m.length).map λk:Nat=>.d (.int (k:Int))):=RZ (by lia);have e1:aD (callC Fs (n+2)) [.bf .len [.var 0]] [Δ (.d (mD m)),Δ (.d (.int (w:Int))),Δ (.obj 0),y3,y4,Θ] (fM o)=.ok [.d (.int (m.length:Nat))] (fM o):=by simp[mD]
 have hl:((W8 m.length).map λk:Nat=>(P.d (.int (k:Int)))).length<=au:=by rw[Xf,XS];unfold au;lia
 rw[cV,wu,e1,ae,e2,av,ae,if_pos hl,ae];have:aY ((W8 m.length).map λk:Nat=>(P.d (.int (k:Int))))=Δ ((W8 m.length).map nD):=dq nD _;rw[this];rfl
theorem OD{m:cX}o:jq .ne (.obj 0) (.d (.pl ((W8 m.length).map nD))) (fM o)=Δ (!decide (o=W8 m.length)):=by
 have f1:jR (fM o) (.obj 0)=Δ (.pl (o.map nD)):=by simp[jR,fM]
 show(jR (fM o) (.obj 0)).bind _=_;rw[f1,X3];show(Δ (D.pl ((W8 m.length).map nD))).bind _=_;rw[X3];have:rV (.pl (o.map nD)) (.pl ((W8 m.length).map nD))=Δ (decide (o=W8 m.length)):=by unfold rV;rw[if_pos (X5 (aaF ..) (by show ke (o.map nD)+1<=100;rw[Hj];decide))];exact congrArg Δ Dl
 rw[this];rfl
open Classical in
theorem A0 n(ok:dD w m)(hn:m.length<=4000)(hw:w<=1000)st:callC Fs (n+3) 13 [.d (mD m),.d (.int (w:Int))] st=.ok (.d (.bl (decide (mn w m)))) st:=by
 have em:∀st,callC Fs (n+2) 11 [.d (mD m),.d (.int (w:Int))] st=.ok (.d (.bl Λ)) st:=λst=>by
  rw[Cm n (mD m) w (λxs e=>by
   injection e with e;refine⟨by rw[<-e,Xf];lia,λy hy ys e2 z hz zs e3=>?_⟩;rw[<-e,Y7] at hy;obtain⟨s,hs,rfl⟩:=hy;injection e2 with e2;rw[<-e2] at hz;simp only[aai,Z8,or_false] at hz;rcases hz with z1|z1;·rw[z1] at e3;cases e3
   ·rw[z1] at e3;injection e3 with e3;rw[<-e3,Xf,ok.len s hs];lia) st,Hh ok]
 have body:∃st1,ah (callC Fs (n+2)) eU.body (az 6 [.d (mD m),.d (.int (w:Int))]) []=.ok (.rt (.d (.bl (decide (mn w m))))) st1:=by
  have out:=xg ok hn (n+2) hw (Δ (.d (.int (w:Int)))) Θ (W8 m.length) [0] Θ Θ (by simpa using ok.ne) (by simp);cases ho:vH m (W8 m.length) [0] with
  |none=>
   rw[ho] at out;obtain⟨aK,e⟩:=out;have hf:decide (mn w m)=Ξ:=decide_eq_false λL=>by have:=yo.mpr L.ord;rw[ho] at this;cases this
   refine⟨aK,?_⟩;rw[hf];refine ag (eh (st1:=[]) (by simp[az,em]) aq) ?_;refine ag (aW (v:=.obj 0) (st1:=fM [0]) (by simp[au,nD])) ?_;exact aQ (dh (cf (j:=m.length) (by simp[mD,az]) (by lia)) e)
  |some o=>
   rw[ho] at out;obtain⟨o1,o2,y3,y4,e⟩:=out;have er:=OC n (w:=w) hn o y3 y4;have ec:=OD (m:=m) o;by_cases hr:o=W8 m.length
   ·have sc:gp m 0 1=Δ m.length:=yo.mp (by rw[ho,hr]);have ep:callC Fs (n+2) 12 [.d (mD m)] (fM o)=.ok (.obj 1) (fM o++[bJ (cE m)]):=AZ ok hn (n+1) (fM o) hw;have hd:decide (mn w m)=decide (Red w m):=by rw[decide_eq_decide];exact⟨λL=>L.red,λR=>⟨ok,R,sc⟩⟩
    refine⟨fM o++[bJ (cE m)],?_⟩;rw[hd];refine ag (eh (st1:=[]) (by simp[az,em]) aq) ?_;refine ag (aW (v:=.obj 0) (st1:=fM [0]) (by simp[au,nD])) ?_;refine ag (dh (cf (j:=m.length) (by simp[mD,az]) (by lia)) e) ?_;refine ag (eh (st1:=fM o) (by rw[bM,show aa (callC Fs (n+2)) (.var 2) [Δ (.d (mD m)),Δ (.d (.int (w:Int))),Δ (.obj 0),y3,y4,Θ] (fM o)=.ok (.obj 0) (fM o) by simp,ae,er,ae,ec];simp[hr]) aq) ?_;refine ag (aW (v:=.obj 1) (st1:=fM o++[bJ (cE m)]) (by simp only[eX,aj,ay,aN,Xk,Xx,av,ae,ep])) ?_;refine aQ (dg ?_);have el:=Oh (st:=fM o++[bJ (cE m)]) (k:=1) (ps:=cE m) rfl;have cm:kz .mul (m.length:Int) (m.length:Int)=Δ ((m.length:Int)*(m.length:Int)):=eI (.inl (by unfold mH;lia));have lm:∀st,oQ .len [.d (mD m)] st=Δ (.d (.int (m.length:Nat))):=λst=>by rw[mD,JW,Xf]
    generalize hR:([Δ (.d (mD m)),Δ (.d (.int (w:Int))),Δ (.obj 0),y3,y4,Θ]:bX).set 5 (Δ (.obj 1))=r5;generalize hS:fM o++[bJ (cE m)]=s5 at el;have r0:(r5[0]?).join=Δ (.d (mD m)):=by rw[<-hR];rfl
    have r1:(r5[5]?).join=Δ (.obj 1):=by rw[<-hR];rfl
    have h1:aa (callC Fs (n+2)) (.bf .len [.var 5]) r5 s5=.ok (.d (.int ((cE m).length:Nat))) s5:=by rw[bH,aj,aN,r1,av,ae,ay,ae,ae,el,av]
    have h2:aa (callC Fs (n+2)) (.bf .len [.var 0]) r5 s5=.ok (.d (.int (m.length:Nat))) s5:=by rw[bH,aj,aN,r0,av,ae,ay,ae,ae,lm,av]
    have WS:(((cE m).length:Int)==(m.length:Int)*(m.length:Int) - (m.length:Int))=decide (Red w m):=by
     rw[ZQ,beq_iff_eq,qqq,<-Ca ok];have:((m.length*m.length:Nat):Int)=(m.length:Int)*(m.length:Int):=by simp
     lia
    rw[bM,h1,ae,dc,dc,h2,ae,h2,ae,uw,cm,XF,av,ae,h2,ae,uw,JV,XF,av,ae,B8,oa,WS,av,ae]
   ·have hf:decide (mn w m)=Ξ:=decide_eq_false λL=>by have:=yo.mpr L.ord;rw[ho] at this;injection this with this;exact hr this
    refine⟨fM o,?_⟩;rw[hf];refine ag (eh (st1:=[]) (by simp[az,em]) aq) ?_;refine ag (aW (v:=.obj 0) (st1:=fM [0]) (by simp[au,nD])) ?_;refine ag (dh (cf (j:=m.length) (by simp[mD,az]) (by lia)) e) ?_;exact aQ (iu (st1:=fM o) (by rw[bM,show aa (callC Fs (n+2)) (.var 2) [Δ (.d (mD m)),Δ (.d (.int (w:Int))),Δ (.obj 0),y3,y4,Θ] (fM o)=.ok (.obj 0) (fM o) by simp,ae,er,ae,ec];simp[hr]) (aQ (dg (by simp))))
 obtain⟨st1,e⟩:=body;exact call_of p8 rfl (dG rfl e rfl)
def rK(w:Nat):Nat:=[0,8,5,4].getD w 0
theorem Kx w:rK w<=8:=by
 match w with|0=>decide|1=>decide|2=>decide|3=>decide|w+4=>simp[rK]
theorem lq(hw:w<=3)(hk:k<=8):(fw w k).length<=6561:=by
 rw[xb]
 calc w ^ k<=3 ^ k:=Nat.pow_le_pow_left hw k
  _<=3 ^ 8:=Nat.pow_le_pow_right (by decide) hk
  _=6561:=by decide
theorem mr(hw:w<=3):∀{k},k<=8->(bZ w k).length<=(k+1)*6561
 |0,_=>by simp[bZ,fw]|k+1,hk=>by
  have ih:=mr hw (k:=k) (by lia);have e:bZ w (k+1)=bZ w k++fw w (k+1):=by unfold bZ;rw[Ys (n:=k+1),YS];simp
  rw[e,Xz];have:=lq hw hk
  lia
theorem OE{w:Nat}(hw:w<=3):nA [D.int 0,.int 8,.int 5,.int 4] (w:Int)=Δ (.int (rK w:Nat)):=by
 rcases(by lia:w=0\/w=1\/w=2\/w=3) with h|h|h|h<;>subst h;·exact dO (k:=0) rfl
 ·exact dO (k:=1) rfl
 ·exact dO (k:=2) rfl
 ·exact dO (k:=3) rfl
theorem A1 n{w:Nat}(hw:w<=3)st:callC Fs (n+1) 7 [.d (.int (w:Int))] st=.ok (.d (.pl ((bZ w (rK w)).map wD))) st:=by
 let r0 (F R:List (List Nat)) (y3 y4 y5:Option P):bX:=[Δ (.d (.int (w:Int))),Δ (.d (.pl (F.map wD))),Δ (.d (.pl (R.map wD))),y3,y4,y5]
 have top8:=Kx w;have fl:∀(l:List (List Nat)),(l.flatMap λu=>(W8 w).map λa=>u++[a]).length=l.length*w:=λl=>by induction l with|nil=>simp|cons u l ih=>rw[aaq,Xz,ih];simp[aaY,acI]
 have WT:∀(F R:List (List Nat)) (y3 y5:Option P),R.length<=6561->(∀u∈R,u.length<=100)->∃Ox,forL (gz (.nm 5)) (ah (callC Fs n) iB) ((R.map wD).map .d) (r0 F R y3 (Δ (.d (.pl []))) y5) []=.ok (.nx (r0 F R y3 (Δ (.d (.pl ((R.flatMap λu=>(W8 w).map λa=>u++[a]).map wD)))) Ox)) []:=by
  intro F R y3 y5 hR hu;obtain⟨r',s',e,⟨Ox,z1⟩,z2⟩:=di (g:=gz (.nm 5)) (b:=ah (callC Fs n) iB) (ps:=(R.map wD).map .d) (k:=0) (r:=r0 F R y3 (Δ (.d (.pl []))) y5) (st:=[])
   (I:=λk r s=>(∃y5,r=r0 F R y3 (Δ (.d (.pl (((R.take k).flatMap λu=>(W8 w).map λa=>u++[a]).map wD)))) y5)/\s=[])
   (λi p r s ⟨⟨y5,h1⟩,h2⟩ hp=>by
    rw[XN] at h1 ⊢;subst h1 h2;rw[Zj,Xi] at hp;cases Ky:R[i]? with
    |none=>rw[Ky] at hp;cases hp|some u=>
     rw[Ky] at hp;cases hp;obtain⟨Sh,_⟩:=qqz Ky;have hul:=hu u (Xw Ky);have EF:R.take (i+1)=R.take i++[u]:=by rw[Yv,Ky];rfl
     refine⟨_,r0 F R y3 (Δ (.d (.pl (((R.take (i+1)).flatMap λu=>(W8 w).map λa=>u++[a]).map wD)))) (Δ (.d (wD u))),[],rfl,?_,⟨_,rfl⟩,rfl⟩;refine ag (aW (v:=.d (.pl (((R.take (i+1)).flatMap λu=>(W8 w).map λa=>u++[a]).map wD))) (st1:=[]) ?_) aq;have eL:bc (callC Fs n) (.comp (.fZ [.var 0]) 1 [5] Θ (.op .add (.var 1) (.tup [.var 0]))) (r0 F R y3 (Δ (.d (.pl (((R.take i).flatMap λu=>(W8 w).map λa=>u++[a]).map wD)))) (Δ (.d (wD u)))) []=.ok ((W8 w).map λa=>P.d (wD (u++[a]))) []:=by
      refine dF (g:=λk:Nat=>P.d (.int (k:Int))) (f:=λa=>wD (u++[a])) (cf (by simp[r0]) (by lia)) (by rw[XS];unfold au;lia) λa ha=>?_;show aa _ (.op .add (.var 1) (.tup [.var 0])) [Δ (.d (.int (a:Int))),Δ (.d (wD u))] []=_;have h3:u.length<=16777215:=by lia
      simp[wD,nD,au,h3]
     show aa _ (.op .add (.var 4) (.lst Ξ _)) (r0 F R y3 _ (Δ (.d (wD u)))) []=_;have e4:aa (callC Fs n) (.var 4) (r0 F R y3 (Δ (.d (.pl (((R.take i).flatMap λu=>(W8 w).map λa=>u++[a]).map wD)))) (Δ (.d (wD u)))) []=.ok (.d (.pl (((R.take i).flatMap λu=>(W8 w).map λa=>u++[a]).map wD))) []:=by simp[r0]
     rw[dc,e4,ae,cV,eL,ae,dq];have h4:((R.take i).flatMap λu=>(W8 w).map λa=>u++[a]).length+w<=au:=by
      rw[fl,Yu];have:min i R.length*w<=6561*3:=Nat.mul_le_mul (by lia) hw;unfold au
      lia
     simp only[aN,r0,Xk,Xl,Xx,av,ae,Ha,Xf,XS];rw[if_pos h4,EF,YS];simp[Ym]) ⟨⟨y5,by simp⟩,rfl⟩
  subst z1 z2;rw[Xf,Xf,XN,Ye (Xj _)] at e;exact⟨Ox,e⟩
 obtain⟨r',s',e,⟨y3,y4,y5,z1⟩,z2⟩:=di (g:=gz (.nm 3)) (b:=ah (callC Fs n) k9) (ps:=(W8 (rK w)).map λk:Nat=>P.d (.int (k:Int))) (k:=0) (r:=r0 [[]] [[]] Θ Θ Θ) (st:=[])
  (I:=λk r s=>(∃y3 y4 y5,r=r0 (bZ w k) (fw w k) y3 y4 y5)/\s=[])
  (λi p r s ⟨⟨y3,y4,y5,h1⟩,h2⟩ hp=>by
   rw[XN] at h1 ⊢;subst h1 h2;have hi:i < rK w:=by
    rw[Xi] at hp;by_cases z:i < rK w;·exact z
    ·rw[XI (by simpa using z)] at hp;cases hp
   rw[Xi,YD hi] at hp;cases hp;have e1:bZ w (i+1)=bZ w i++fw w (i+1):=by unfold bZ;rw[Ys (n:=i+1),YS];simp
   obtain⟨Ox,el⟩:=WT (bZ w i) (fw w i) (Δ (.d (.int (i:Int)))) y5 (lq hw (by lia)) (λu hu=>by rw[(lS.mp hu).2];lia);refine⟨_,r0 (bZ w (i+1)) (fw w (i+1)) (Δ (.d (.int (i:Int)))) (Δ (.d (.pl ((fw w (i+1)).map wD)))) Ox,[],rfl,?_,⟨_,_,_,rfl⟩,rfl⟩;refine ag (aW (v:=.d (.pl [])) (st1:=[]) (by simp)) ?_;refine ag (dh (ps:=((fw w i).map wD).map .d) (st1:=[]) (by simp[r0]) el) ?_;refine ag (aW (v:=.d (.pl ((fw w (i+1)).map wD))) (st1:=[]) (by simp[r0,fw])) ?_;refine ag (aW (v:=.d (.pl ((bZ w (i+1)).map wD))) (st1:=[]) ?_) aq;have l1:=lq (k:=i+1) hw (by lia);have l2:=mr (k:=i) hw (by lia);have l3:(bZ w i).length+(fw w (i+1)).length<=au:=by have:(i+1)*6561<=8*6561:=abl _ (by lia);unfold au;lia
   simp only[dc,aN,r0,ZU,Xk,Xl,Xx,av,ae,Ha,Xf];rw[if_pos l3,e1,XW];rfl) ⟨⟨Θ,Θ,Θ,rfl⟩,rfl⟩
 subst z1 z2;rw[Xf,XS,XN] at e;refine call_of vO rfl (dG (p:=.d (.pl ((bZ w (rK w)).map wD))) (st:=[]) rfl ?_ rfl);refine ag (aW (v:=.d (.pl [wD []])) (st1:=[]) (by simp[az,dR,au,wD])) ?_;refine ag (aW (v:=.d (.pl [wD []])) (st1:=[]) (by simp[az,dR,au,wD])) ?_;refine ag (dh (ps:=(W8 (rK w)).map λk:Nat=>P.d (.int (k:Int))) (st1:=[]) (cf ?_ (by lia)) e) ?_;·have:=OE hw;simp[az,dR,au,this]
 ·exact aQ (dg (by simp[r0]))
section
variable{w:Nat}{m:cX}(ok:dD w m)(hm:m.length<=100)(hw:w<=3)
include ok hm hw
theorem Cn(n:Nat)(x:Int)(st:aI):callC Fs (n+2) 14 [.d (mD m),.d (.int x)] st=.ok (.d (mD (HW x m))) st:=by
 have ne:=ok.ne
 let r0 (pl:List Nat) (y4 y5:Option P):bX:=[Δ (.d (mD m)),Δ (.d (.int x)),Δ (.d (.int (m.length:Int))),Δ (.d (.pl (pl.map nD))),y4,y5,Θ,Θ]
 obtain⟨r1,s1,e1,⟨y4,y5,z1⟩,z2⟩:=di (g:=gz (.nm 4)) (b:=ah (callC Fs (n+1)) lg) (ps:=(W8 (m.length - 1)).map λk:Nat=>P.d (.int ((1+k:Nat):Int))) (k:=0) (r:=r0 [0] Θ Θ) (st:=[])
  (I:=λk r s=>(∃y4 y5,r=r0 (rB x k) y4 y5)/\s=[])
  (λi p r s ⟨⟨y4,y5,h1⟩,h2⟩ hp=>by
   rw[XN] at h1 ⊢;subst h1 h2;have hi:i < m.length - 1:=by
    rw[Xi] at hp;by_cases z:i < m.length - 1;·exact z
    ·rw[XI (by simpa using z)] at hp;cases hp
   rw[Xi,YD hi] at hp;cases hp;have hl:=lR x i
   let a:=1+(drawn x (i+1) % ((i+1:Nat):Int)).toNat
   have hmr:=bN (drawn x (i+1)) (show(0:Int) < ((i+1:Nat):Int) by lia);have ha:a<=(rB x i).length:=by show 1+_<=_;lia
   have ed:=iY n x (z:=((1+i:Nat):Int)) (i+1) (by lia) [];refine⟨_,r0 (rB x (i+1)) (Δ (.d (.int ((1+i:Nat):Int)))) (Δ (.d (.int (a:Int)))),[],rfl,?_,⟨_,_,rfl⟩,rfl⟩;refine ag (aW (v:=.d (.int (a:Int))) (st1:=[]) ?_) ?_
   ·have c2:kz .mod (drawn x (i+1)) ((i+1:Nat):Int)=Δ (drawn x (i+1) % ((i+1:Nat):Int)):=cW (by lia);simp only[dc,cx,eX,bH,aj,ay,aN,r0,ZU,Xk,Xl,Xx,av,ae,ed,JX,Xf,hl,uw,c2,XF,sf];congr 3;show _=((1+(drawn x (i+1) % ((i+1:Nat):Int)).toNat:Nat):Int)
    lia
   ·refine ag (aW (v:=.d (.pl ((rB x (i+1)).map nD))) (st1:=[]) ?_) aq;have l1:a<=((rB x i).map nD).length:=by rw[Xf];exact ha
    have e1:=Sa (st:=[]) l1;have e2:=Kp (st:=[]) l1;have l2:((rB x i).map nD).length=i+1:=by rw[Xf];exact hl
    have q1:(((rB x i).map nD).take a).length+1<=au:=by rw[Yu];unfold au;lia
    have q2:(((rB x i).map nD).take a++[D.int ((1+i:Nat):Int)]).length+(((rB x i).map nD).drop a).length<=au:=by rw[Xz,Yu,ab0];unfold au;simp;lia
    have q3:(1:Nat)<=au:=by decide
    simp only[dc,qB,mL,tH,cV,fS,aj,ay,aN,r0,ZU,Xk,Xl,Xx,av,ae,e1,e2,Xt,YM,XN,q3,if_true,De,Hc,XF,Ha,q1,q2];congr 3;show _=(qP (rB x i) a (i+1)).map nD;unfold qP;rw[XW,XW,acA,acB];simp[nD,Int.add_comm]) ⟨⟨Θ,Θ,rfl⟩,rfl⟩
 subst z1 z2;rw[Xf,XS,XN] at e1
 let F:=rB x (m.length - 1)
 let rw_:=uM (λo=>(row m o).2) (gd m) F
 have hF:∀p∈F,p < m.length:=λp hp=>by have:=(oz x).mp hp;lia
 have Fl:F.length=m.length:=by show(rB x _).length=_;rw[lR];lia
 let r2 (y7:Option P):bX:=[Δ (.d (mD m)),Δ (.d (.int x)),Δ (.d (.int (m.length:Int))),Δ (.d (.pl (F.map nD))),y4,y5,Δ (.obj 0),y7]
 obtain⟨r3,s3,e3,⟨y7,z3⟩,z4⟩:=di (g:=gz (.nm 7)) (b:=ah (callC Fs (n+1)) lh) (ps:=(F.map nD).map .d) (k:=0) (r:=r2 Θ) (st:=[O.lst []])
  (I:=λk r s=>(∃y7,r=r2 y7)/\s=[O.lst ((((F.take k).map rw_).map cy).map .d)])
  (λi p r s ⟨⟨y7,h1⟩,h2⟩ hp=>by
   rw[XN] at h2 ⊢;subst h1 h2;rw[Zj,Xi] at hp;cases HX:F[i]? with
   |none=>rw[HX] at hp;cases hp|some o=>
    rw[HX] at hp;cases hp;obtain⟨Sh,_⟩:=qqz HX;have hoF:=Xw HX;have ho:=hF o hoF;have hlo:=ok.len _ (aV ho);have EF:F.take (i+1)=F.take i++[o]:=by rw[Yv,HX];rfl
    have h0:nA (m.map cy) (o:Int)=Δ (cy (row m o)):=An ho;generalize hS:([O.lst ((((F.take i).map rw_).map cy).map .d)]:aI)=S at*;have eL:bc (callC Fs (n+1)) (.comp (.ex (.ix (.ix (.var 0) (.var 7)) (.cst (.int 1)))) 1 [3] Θ (.index (.var 1) (.var 0))) (r2 (Δ (.d (nD o)))) S=.ok ((row m o).2.map λq=>P.d (nD (F.idxOf q))) S:=by
     refine dF (g:=λq=>P.d (nD q)) (f:=λq=>nD (F.idxOf q)) (xs:=(row m o).2) ?_ (by unfold au;lia) λq hq=>?_;·simp[r2,mD,nD,h0,cy,wD]
     ·have R4:q∈F:=Hx ok x o hoF q hq;have:=Hv (st:=S) R4;show aa _ (.index (.var 1) (.var 0)) [Δ (.d (nD q)),Δ (.d (.pl (F.map nD)))] S=_;rw[qC];simp only[aN,Xk,Xl,Xx,av,ae,bj,nD];simp only[nD] at this;rw[this,av]
    refine⟨_,r2 (Δ (.d (nD o))),[O.lst ((((F.take (i+1)).map rw_).map cy).map .d)],rfl,?_,⟨_,rfl⟩,rfl⟩;refine ag (kg (x:=.obj 0) (v:=.d (cy (rw_ o))) (its:=(((F.take i).map rw_).map cy).map .d) (st1:=S) (st2:=S) ?_ (by rw[<-hS];rfl) ?_ ?_) aq;·simp[r2]
    ·show aa _ _ (r2 (Δ (.d (nD o)))) S=_;rw[jr,aj,oj ho (by simp[r2]) (by simp[r2,nD]),ae,aj,bH,aj,cV,eL,ae,dq];simp[au,rw_,uM,cy,wD,nD,Ym]
    ·rw[<-hS,fm (n:=0) (xs:=(((F.take i).map rw_).map cy).map .d) rfl (by simp[au];lia)];simp[EF]) ⟨⟨Θ,rfl⟩,by simp⟩
 subst z3 z4;rw[Xf,Xf,XN,Ye (Xj _)] at e3;refine call_of vP rfl (dG (p:=.d (mD (HW x m))) (st:=[O.lst (((F.map rw_).map cy).map .d)]) rfl ?_ rfl);refine ag (aW (v:=.d (.int (m.length:Int))) (st1:=[]) (by simp[az,fD,mD])) ?_;refine ag (aW (v:=.d (.pl [nD 0])) (st1:=[]) (by simp[au,nD])) ?_;refine ag (dh (ps:=(W8 (m.length - 1)).map λk:Nat=>P.d (.int ((1+k:Nat):Int))) (st1:=[]) (AM (i:=1) (j:=m.length) (by simp) (by simp[az,fD]) (by lia) (by lia)) e1) ?_;refine ag (aW (v:=.obj 0) (st1:=[O.lst []]) (by simp[au])) ?_;refine ag (dh (ps:=(F.map nD).map .d) (st1:=[O.lst []]) (by simp[r0,F]) e3) ?_;refine aQ (dg ?_);have l2:cU ([O.lst (((F.map rw_).map cy).map .d)]:aI) (.obj 0)=Δ (((F.map rw_).map cy).map .d):=rfl;simp only[bH,aj,ay,aN,r2,Xk,Xl,Xx,av,ae,oQ,l2,X3,eY,XF];rfl
theorem yy(n:Nat)(x:Int)(st:aI):callC Fs (n+2) 15 [.d (mD m),.d (.int x)] st=.ok (.d (mD (EC x m))) st:=by
 have ne:=ok.ne
 let tw:=twin x m
 have hmr:=bN x (show(0:Int) < (m.length:Int) by lia);have htw:((tw:Nat):Int)=x % (m.length:Int):=by show((x % (m.length:Int)).toNat:Int)=_;lia
 have tl:tw < m.length:=by lia
 let M2:=m++[row m tw]
 have TR:M2.length=m.length+1:=by simp[M2]
 let r2 (y5 y6 y7 y8 y9:Option P):bX:=[Δ (.d (mD m)),Δ (.d (.int x)),Δ (.d (nD m.length)),Δ (.d (nD tw)),Δ (.obj 0),y5,y6,y7,y8,y9]
 have So:∀k,k < m.length+1->(row M2 k)∈m:=λk hk=>by
  have:row M2 k∈M2:=aV (by rw[TR];exact hk);rcases Zq.mp this with z|z;·exact z
  ·rw[Yg] at z;rw[z];exact aV tl
 obtain⟨r3,s3,e3,⟨y5,y6,y7,y8,y9,z3⟩,more,z4⟩:=di (g:=gz (.two 5 6)) (b:=ah (callC Fs (n+1)) jF) (ps:=c0 0 (M2.map cy)) (k:=0) (r:=r2 Θ Θ Θ Θ Θ) (st:=[O.lst []])
  (I:=λk r s=>(∃y5 y6 y7 y8 y9,r=r2 y5 y6 y7 y8 y9)/\∃more:aI,s=O.lst ((((W8 k).map (EY x m)).map cy).map .d)::more)
  (λi p r s ⟨⟨y5,y6,y7,y8,y9,h1⟩,more,h2⟩ hp=>by
   rw[XN] at h2 ⊢;subst h1 h2;rw[jw,Xi] at hp;have hi:i < m.length+1:=by
    by_cases z:i < m.length+1;·exact z
    ·rw[XI (by rw[TR];lia)] at hp;simp at hp
   rw[yj (show i < M2.length by rw[TR];exact hi)] at hp;simp only[XF,aao,XN] at hp;subst hp;have hl:=ok.len _ (So i hi)
   let A:O:=O.lst ((((W8 i).map (EY x m)).map cy).map .d)
   let L:=(A::more).length
   let ss:=(row M2 i).2
   obtain⟨r4,s4,e4,⟨HA,y9',z5⟩,z6⟩:=di (g:=gz (.two 8 9)) (b:=ah (callC Fs (n+1)) jE) (ps:=c0 0 (ss.map nD)) (k:=0) (r:=r2 (Δ (.d (nD i))) (Δ (.d (cy (row M2 i)))) (Δ (.obj L)) y8 y9) (st:=A::more++[O.lst []])
    (I:=λk r s=>(∃y8 y9,r=r2 (Δ (.d (nD i))) (Δ (.d (cy (row M2 i)))) (Δ (.obj L)) y8 y9)/\s=A::more++[O.lst (((ss.zipIdx.take k).map λq=>P.d (nD (yN x m i q.2 q.1))))])
    (λj p r s ⟨⟨y8,y9,h1⟩,h2⟩ hp=>by
     rw[XN] at h2 ⊢;subst h1 h2;rw[jw,Xi] at hp;cases TU:ss[j]? with
     |none=>rw[TU] at hp;cases hp|some t=>
      rw[TU] at hp;simp only[XF,aao,XN] at hp;subst hp;have QC:j < ss.length:=(qqz TU).1;have EF:ss.zipIdx.take (j+1)=ss.zipIdx.take j++[(t,j)]:=by rw[Yv,List.getElem?_zipIdx,TU];simp
      generalize hS:(A::more++[O.lst ((ss.zipIdx.take j).map λq=>P.d (nD (yN x m i q.2 q.1)))]:aI)=S at*;have gL:S[L]?=Δ (O.lst ((ss.zipIdx.take j).map λq=>P.d (nD (yN x m i q.2 q.1)))):=by rw[<-hS];simp[L]
      have sL:∀o,S.set L o=A::more++[o]:=λo=>by rw[<-hS,aam _ _ (Xj _)];simp[L]
      have ed:=iY n x (z:=9*(i:Int)+(j:Int)) (9*i+j) (by simp) S;have c1:kz .mul 9 (i:Int)=Δ (9*(i:Int)):=eI (.inl (by decide));have c2:kz .mod (drawn x (9*i+j)) 2=Δ (drawn x (9*i+j) % 2):=cW (by decide);have fin:∀(y9:Nat),y9=yN x m i j t->ah (callC Fs (n+1)) [.app (.var 7) (.var 9)] (r2 (Δ (.d (nD i))) (Δ (.d (cy (row M2 i)))) (Δ (.obj L)) (Δ (.d (nD j))) (Δ (.d (nD y9)))) S=.ok (.nx (r2 (Δ (.d (nD i))) (Δ (.d (cy (row M2 i)))) (Δ (.obj L)) (Δ (.d (nD j))) (Δ (.d (nD y9))))) (A::more++[O.lst ((ss.zipIdx.take (j+1)).map λq=>P.d (nD (yN x m i q.2 q.1)))]):=λy9 hy=>by refine ag (kg (x:=.obj L) (v:=.d (nD y9)) (its:=(ss.zipIdx.take j).map λq=>P.d (nD (yN x m i q.2 q.1))) (st1:=S) (st2:=S) (by simp[r2]) (fk gL) (by simp[r2]) ?_) aq;rw[fm gL (by rw[Xf,Yu,List.length_zipIdx,show ss.length=w from hl];unfold au;lia),sL,EF,XW,hy];rfl
      by_cases hc:t=tw/\drawn x (9*i+j) % 2=1
      ·refine⟨_,r2 (Δ (.d (nD i))) (Δ (.d (cy (row M2 i)))) (Δ (.obj L)) (Δ (.d (nD j))) (Δ (.d (nD m.length))),_,rfl,?_,⟨_,_,rfl⟩,rfl⟩;refine ag (iu (st1:=S) ?_ (ag (aW (v:=.d (nD m.length)) (st1:=S) (by simp[r2])) aq)) (fin m.length ?_);·show aa _ _ (r2 (Δ (.d (nD i))) (Δ (.d (cy (row M2 i)))) (Δ (.obj L)) (Δ (.d (nD j))) (Δ (.d (nD t)))) S=_;simp only[pA,lF,pD,bM,dc,eX,cx,aj,ay,aN,r2,nD,Xk,Xl,Xx,av,ae,B8,oa,uw,c1,XF,sf,ed,c2];simp[hc.1,hc.2]
       ·unfold yN;rw[if_pos hc]
      ·refine⟨_,r2 (Δ (.d (nD i))) (Δ (.d (cy (row M2 i)))) (Δ (.obj L)) (Δ (.d (nD j))) (Δ (.d (nD t))),_,rfl,?_,⟨_,_,rfl⟩,rfl⟩;refine ag (eh (st1:=S) ?_ aq) (fin t ?_)
       ·show aa _ _ (r2 (Δ (.d (nD i))) (Δ (.d (cy (row M2 i)))) (Δ (.obj L)) (Δ (.d (nD j))) (Δ (.d (nD t)))) S=_;simp only[pA,lF,pD,bM,dc,eX,cx,aj,ay,aN,r2,nD,Xk,Xl,Xx,av,ae,B8,oa,uw,c1,XF,sf,ed,c2];by_cases h1:t=tw;·have h2:¬drawn x (9*i+j) % 2=1:=λz=>hc ⟨h1,z⟩;simp[h1,h2]
        ·have h2:((t:Int)==(tw:Int))=Ξ:=by rw[beq_eq_false_iff_ne];lia
         simp[h2]
       ·unfold yN;rw[if_neg hc]) ⟨⟨_,_,rfl⟩,by simp⟩
   subst z5 z6;rw[jx,Xf,XN,Ye (by simp)] at e4;have eR:cy (EY x m i)=.tup [nD (row M2 i).1,.tup ((ss.zipIdx).map λq=>nD (yN x m i q.2 q.1))]:=by unfold EY cy wD;simp[ss,M2,tw,Ym]
   generalize hS:(A::more++[O.lst (ss.zipIdx.map λq=>P.d (nD (yN x m i q.2 q.1)))]:aI)=S at*;have gL:S[L]?=Δ (O.lst (ss.zipIdx.map λq=>P.d (nD (yN x m i q.2 q.1)))):=by rw[<-hS];simp[L]
   have g0:S[0]?=Δ A:=by rw[<-hS];rfl
   refine⟨_,r2 (Δ (.d (nD i))) (Δ (.d (cy (row M2 i)))) (Δ (.obj L)) HA y9',S.set 0 (O.lst ((((W8 (i+1)).map (EY x m)).map cy).map .d)),rfl,?_,⟨_,_,_,_,_,rfl⟩,more++[O.lst (ss.zipIdx.map λq=>P.d (nD (yN x m i q.2 q.1)))],by rw[<-hS];rfl⟩;refine ag (aW (v:=.obj L) (st1:=A::more++[O.lst []]) (by simp[au,L,A])) ?_;refine ag (dh (ps:=c0 0 (ss.map nD)) (st1:=A::more++[O.lst []]) (by simp[r2,cy,wD,ss]) e4) ?_;refine ag (kg (x:=.obj 0) (v:=.d (cy (EY x m i))) (its:=(((W8 i).map (EY x m)).map cy).map .d) (st1:=S) (st2:=S) (by simp[r2]) (fk g0) ?_ ?_) aq
   ·have l2:cU S (.obj L)=Δ (ss.zipIdx.map λq=>P.d (nD (yN x m i q.2 q.1))):=by unfold cU bj;simp[gL]
    rw[eR];simp[r2,cy,oQ,l2,au,dq]
   ·rw[fm g0 (by simp[au];lia),Ys];simp) ⟨⟨Θ,Θ,Θ,Θ,Θ,rfl⟩,[],by simp⟩
 subst z3;rw[jx,Xf,TR,XN] at z4;subst z4;refine call_of rH rfl (dG (p:=.d (mD (EC x m))) (st:=O.lst ((((W8 (m.length+1)).map (EY x m)).map cy).map .d)::more) rfl ?_ rfl);have h0:nA (m.map cy) (tw:Int)=Δ (cy (row m tw)):=An tl;have c1:kz .mod x (m.length:Int)=Δ (tw:Int):=by rw[cW (by lia),htw]
 refine ag (aW (v:=.d (nD m.length)) (st1:=[]) (by simp[az,cM,mD,nD])) ?_;refine ag (aW (v:=.d (nD tw)) (st1:=[]) (by simp[az,cM,nD,c1])) ?_;refine ag (aW (v:=.obj 0) (st1:=[O.lst []]) (by simp[au])) ?_;refine ag (dh (ps:=c0 0 (M2.map cy)) (st1:=[O.lst []]) ?_ e3) ?_
 ·have:m.length+1<=au:=by unfold au;lia
  simp only[tK,dc,jr,bI,aj,ay,az,cM,aN,ZU,Xo,Zi,Y0,Zp,Xt,YM,abR,Nat.reduceSub,X6,Xk,Xl,Xx,av,ae,mD,RU,nD,h0,XF];simp[au] at this ⊢;simp[this,M2]
 refine aQ (dg ?_);have l2:cU (O.lst ((((W8 (m.length+1)).map (EY x m)).map cy).map .d)::more) (.obj 0)=Δ ((((W8 (m.length+1)).map (EY x m)).map cy).map .d):=rfl;simp only[bH,aj,ay,aN,r2,Xk,Xl,Xx,av,ae,oQ,l2,X3,eY,XF];rfl
end
theorem OF{k w:Nat}(h1:1<=w)(h3:w<=3):BQ .mul (.d (.tup [nD k])) (.d (.int (w:Int))) st=Δ (.d (wD (X6 w k))):=by
 rcases(by lia:w=1\/w=2\/w=3) with h|h|h<;>subst h;·exact RS _
 ·exact(RR _).trans rfl
 ·exact(RT _).trans rfl
theorem OG(ok:dD w m)(hm:m.length<=100)(h1:1<=w)(h3:w<=3)sV kV:aa (callC Fs 59) (.op .add (.var 2) (.bf .tuple [.lst Ξ (.comp (.fZ [.op .add (.cst (.int 1)) (.op .mod (.bf .len [.var 2]) (.cst (.int 3)))]) 1 [1] Θ (.tup [.op .mod (.var 0) (.cst (.int 2)),.op .mul (.tup [.var 0]) (.var 1)]))])) [sV,Δ (.d (.int (w:Int))),Δ (.d (mD m)),kV,Θ,Θ,Θ] []=.ok (.d (mD (ED w m))) []:=by
 have eL:bc (callC Fs 59) (.comp (.fZ [.op .add (.cst (.int 1)) (.op .mod (.bf .len [.var 2]) (.cst (.int 3)))]) 1 [1] Θ (.tup [.op .mod (.var 0) (.cst (.int 2)),.op .mul (.tup [.var 0]) (.var 1)])) [sV,Δ (.d (.int (w:Int))),Δ (.d (mD m)),kV,Θ,Θ,Θ] []
   =.ok ((W8 (1+m.length % 3)).map λk=>P.d (cy (k % 2,X6 w k))) []:=by
  refine dF (g:=λk:Nat=>P.d (.int (k:Int))) (f:=λk=>cy (k % 2,X6 w k)) (cf ?_ (by lia)) (by rw[XS];unfold au;lia) λk hk=>?_;·have c3:kz .mod (m.length:Int) 3=Δ ((m.length:Int) % 3):=cW (by decide);simp[mD,c3]
  ·have c3:kz .mod (k:Int) 2=Δ ((k % 2:Nat):Int):=by rw[cW (by decide)];simp
   have hr:=OF (k:=k) (st:=[]) h1 h3;simp only[nD] at hr;show aa _ (.tup [.op .mod (.var 0) (.cst (.int 2)),.op .mul (.tup [.var 0]) (.var 1)]) [Δ (.d (.int (k:Int))),Δ (.d (.int (w:Int)))] []=_;have q2:(2:Nat)<=au:=by decide
   have q1:(1:Nat)<=au:=by decide
   simp only[jr,aj,ay,dc,aN,cx,Xk,Xl,Xx,av,ae,uw,c3,XF,Xt,YM,XN,abR,q1,q2,if_true,De,Hc,hr];rfl
 have e2:aa (callC Fs 59) (.var 2) [sV,Δ (.d (.int (w:Int))),Δ (.d (mD m)),kV,Θ,Θ,Θ] []=.ok (.d (mD m)) []:=by simp
 rw[dc,e2,ae,bH,aj,cV,eL,ae,dq];have q:m.length+(1+m.length % 3)<=au:=by unfold au;lia
 rw[av,ae,ae,ay,ae,ae,JY,av,ae];show R.of (BQ .add (.d (.tup (m.map cy))) (.d (.tup ((W8 (1+m.length % 3)).map λk=>cy (k % 2,X6 w k)))) []) []=_;have e:(m.map cy).length+((W8 (1+m.length % 3)).map λk=>cy (k % 2,X6 w k)).length<=au:=by rw[Xf,Xf,XS];exact q
 rw[RQ,if_pos e,av];unfold mD ED;rw[XW,Zj];rfl
theorem HD ns(hl:ns.length<=63):callC Fs 60 16 [.fR ns] []=.ok (.d (.bl Λ)) []:=by
 obtain⟨w,hw⟩:∃w:Nat,1+mixed ns 0 % 3=(w:Int):=⟨(1+mixed ns 0 % 3).toNat,by have:=bN (mixed ns 0) (show(0:Int) < 3 by decide);lia⟩;have w1:1<=w/\w<=3:=by have:=bN (mixed ns 0) (show(0:Int) < 3 by decide);lia
 obtain⟨c,hc⟩:∃c:Nat,1+mixed ns 1 % 6=(c:Int):=⟨(1+mixed ns 1 % 6).toNat,by have:=bN (mixed ns 1) (show(0:Int) < 6 by decide);lia⟩;have c1:1<=c/\c<=6:=by have:=bN (mixed ns 1) (show(0:Int) < 6 by decide);lia
 let m:=HV (mixed ns 1) w c
 have ok:dD w m:=Od _ _ (by lia);have ml:m.length=c:=J7 _ _ _;have eM:∀st,callC Fs 59 8 [.d (.int (mixed ns 1)),.d (.int (w:Int)),.d (.int 6)] st=.ok (.d (mD m)) st:=λst=>EK 57 (mixed ns 1) w 6 c w1.2 (by decide) hc (by lia) st;have eX0:∀st,callC Fs 59 5 [.fR ns,.d (.int 0)] st=.ok (.d (.int (mixed ns 0))) st:=λst=>iZ 57 ns 0 rfl st;have eX1:∀st,callC Fs 59 5 [.fR ns,.d (.int 1)] st=.ok (.d (.int (mixed ns 1))) st:=λst=>iZ 57 ns 1 rfl st;have eX2:∀st,callC Fs 59 5 [.fR ns,.d (.int 2)] st=.ok (.d (.int (mixed ns 2))) st:=λst=>iZ 57 ns 2 rfl st;have eX3:∀st,callC Fs 59 5 [.fR ns,.d (.int 3)] st=.ok (.d (.int (mixed ns 3))) st:=λst=>iZ 57 ns 3 rfl st;obtain⟨xk,xs,xl⟩:=Oq ok;obtain⟨vk,vs,vl⟩:=Om ok (mixed ns 3);obtain⟨dk,ds,dl⟩:=Oo ok (mixed ns 3);obtain⟨ll,ls⟩:=g8 ok (by lia);have llen:=Cd ok (by lia);obtain⟨o,ko,so,lo,eO⟩:∃o:cX,dD w o/\gD w o 0 m 0/\o.length<=100/\∃r4,ah (callC Fs 59) (oB.body.take 6) (az 7 [.fR ns]) []=.ok (.nx [Δ (.fR ns),Δ (.d (.int (w:Int))),Δ (.d (mD m)),r4,Δ (.d (mD o)),Θ,Θ]) []:=by
  have m2:=bN (mixed ns 2) (show(0:Int) < 3 by decide);have s3:∀(res:R Fl),ah (callC Fs 59) (oB.body.drop 4 |>.take 2) [Δ (.fR ns),Δ (.d (.int (w:Int))),Δ (.d (mD m)),Δ (.d (.int (mixed ns 2 % 3))),Δ (.d (mD (ED w m))),Θ,Θ] []=res->ah (callC Fs 59) (oB.body.take 6) (az 7 [.fR ns]) []=res:=λres h=>by
   refine ag (aW (v:=.d (.int (w:Int))) (st1:=[]) ?_) ?_;·have c3:kz .mod (mixed ns 0) 3=Δ (mixed ns 0 % 3):=cW (by decide);simp[az,oB,eX0,c3,hw]
   refine ag (aW (v:=.d (mD m)) (st1:=[]) (by simp[az,oB,eX1,eM])) ?_;refine ag (aW (v:=.d (.int (mixed ns 2 % 3))) (st1:=[]) ?_) ?_;·have c3:kz .mod (mixed ns 2) 3=Δ (mixed ns 2 % 3):=cW (by decide);simp[az,oB,eX2,c3]
   refine ag (aW (v:=.d (mD (ED w m))) (st1:=[]) ?_) h;exact OG ok (by lia) w1.1 w1.2 _ _
  have d3:mixed ns 2 % 3=0\/mixed ns 2 % 3=1\/mixed ns 2 % 3=2:=by lia
  rcases d3 with h|h|h;·refine⟨ED w m,xk,xs,by lia,Δ (.d (.int (mixed ns 2 % 3))),s3 _ ?_⟩;exact ag (eh (st1:=[]) (by simp[h]) aq) (ag (eh (st1:=[]) (by simp[h]) aq) aq)
  ·refine⟨HW (mixed ns 3) m,vk,vs,by lia,Δ (.d (.int (mixed ns 2 % 3))),s3 _ ?_⟩;have e:=Cn ok (by lia) w1.2 57 (mixed ns 3) [];exact ag (iu (st1:=[]) (by simp[h]) (ag (aW (v:=.d (mD (HW (mixed ns 3) m))) (st1:=[]) (by simp[eX3,e])) aq)) (ag (eh (st1:=[]) (by simp[h]) aq) aq)
  ·refine⟨EC (mixed ns 3) m,dk,ds,by lia,Δ (.d (.int (mixed ns 2 % 3))),s3 _ ?_⟩;have e:=yy ok (by lia) w1.2 57 (mixed ns 3) [];exact ag (eh (st1:=[]) (by simp[h]) aq) (ag (iu (st1:=[]) (by simp[h]) (ag (aW (v:=.d (mD (EC (mixed ns 3) m))) (st1:=[]) (by simp[eX3,e])) aq)) aq)
 obtain⟨r4,eO⟩:=eO;have eLm:∀st,callC Fs 59 3 [.d (mD m)] st=.ok (.d (mD (cw w m))) st:=λst=>nc ok (by lia) (by lia) 53 st;have eLo:∀st,callC Fs 59 3 [.d (mD o)] st=.ok (.d (mD (cw w m))) st:=λst=>by rw[nc ko (by lia) (by lia) 53 st,Ex ko ok (by lia) (by lia) so]
 have eLl:∀st,callC Fs 59 3 [.d (mD (cw w m))] st=.ok (.d (mD (cw w m))) st:=λst=>by rw[nc ll.ok (by lia) (by lia) 53 st,AF ll (by lia)]
 have eIs:∀st,callC Fs 59 13 [.d (mD (cw w m)),.d (.int (w:Int))] st=.ok (.d (.bl Λ)) st:=λst=>by rw[A0 56 ll.ok (by lia) (by lia) st];simp only[ll,decide_true]
 have eW:=A1 58 w1.2 [];have eH:∀(u:List Nat),Wd w u->Es (cw w m) u=Es m u:=λu hu=>by unfold Es;rw[ls u hu]
 obtain⟨r5,s5,e5,⟨y6,z5⟩,z6⟩:=di (g:=gz (.nm 6)) (b:=ah (callC Fs 59) Ds) (ps:=((bZ w (rK w)).map wD).map .d) (k:=0) (r:=[Δ (.fR ns),Δ (.d (.int (w:Int))),Δ (.d (mD m)),r4,Δ (.d (mD o)),Δ (.d (mD (cw w m))),Θ]) (st:=[])
  (I:=λk r s=>(∃y6,r=[Δ (.fR ns),Δ (.d (.int (w:Int))),Δ (.d (mD m)),r4,Δ (.d (mD o)),Δ (.d (mD (cw w m))),y6])/\s=[])
  (λi p r s ⟨⟨y6,h1⟩,h2⟩ hp=>by
   subst h1 h2;rw[Zj,Xi] at hp;cases Ky:(bZ w (rK w))[i]? with
   |none=>rw[Ky] at hp;cases hp|some u=>rw[Ky] at hp;cases hp;have hu:=Cf (Xw Ky);have e1:=xf 58 ll.ok u hu [];have e2:=xf 58 ok u hu [];refine⟨_,[Δ (.fR ns),Δ (.d (.int (w:Int))),Δ (.d (mD m)),r4,Δ (.d (mD o)),Δ (.d (mD (cw w m))),Δ (.d (wD u))],[],rfl,?_,⟨_,rfl⟩,rfl⟩;refine ag (eh (st1:=[]) ?_ aq) aq;show aa _ _ [Δ (.fR ns),Δ (.d (.int (w:Int))),Δ (.d (mD m)),r4,Δ (.d (mD o)),Δ (.d (mD (cw w m))),Δ (.d (wD u))] []=_;simp[e1,e2,eH u hu]) ⟨⟨Θ,rfl⟩,rfl⟩
 subst z5 z6;refine call_of Ow rfl (dG (p:=.d (.bl Λ)) (st:=[]) rfl (AR 6 eO ?_) rfl);refine ag (aW (v:=.d (mD (cw w m))) (st1:=[]) (by simp[eLm])) ?_;refine ag (eh (st1:=[]) ?_ aq) ?_;·simp[eIs,eLo,eLl,Ov]
 refine ag (dh (ps:=((bZ w (rK w)).map wD).map .d) (st1:=[]) (by simp[eW]) e5) ?_;exact aQ (dg (by simp))
end Sd
namespace Sd
open PySem L2 Y
def top(i:Nat):Stmt:=PySem.Challenge.pw_wordyard_k11_whole_least.main.body.getD i (.Pass ⟨0,0,0,0⟩)
def A2(j:Nat):Stmt->Stmt
 |.ClassDef _ _ _ body _ _ _ _ _ _ _=>body.getD j (.Pass ⟨0,0,0,0⟩)|_=>.Pass ⟨0,0,0,0⟩
abbrev oG:Stmt:=top 1
def yz:Info:=⟨"sources_by",oG,["machine","letter","sources","number","state"],["machine","letter"],g9⟩
abbrev lr:Stmt:=top 3
def uV:Info:=⟨"firsts_alike",lr,["machine","groups","firsts","state","group"],["machine"],fz⟩
abbrev lx:Stmt:=top 5
def uW:Info:=⟨"machine_from",lx,["start","steps_of","good_of","numbers","places","states","place","steps","step"],["start","steps_of","good_of"],cJ⟩
abbrev Du:Stmt:=top 6
def yA:Info:=⟨"least",Du,["machine","firsts","steps_of"],["machine"],oA⟩
abbrev ly:Stmt:=top 8
def uX:Info:=⟨"_law_cell_at",ly,["_law_script","_law_k"],["_law_script","_law_k"],cK⟩
abbrev oH:Stmt:=top 9
def yB:Info:=⟨"_law_mixed",oH,["_law_script","_law_k","_law_drawn_here"],["_law_script","_law_k"],fA⟩
abbrev oI:Stmt:=top 10
def yC:Info:=⟨"_law_drawn",oI,["_law_number_here","_law_k","_law_drawn_here"],["_law_number_here","_law_k"],fB⟩
abbrev oJ:Stmt:=top 11
def yD:Info:=⟨"_law_words",oJ,["_law_wide","_law_found","_law_rows","_law_k","_law_longer","_law_row"],["_law_wide"],dR⟩
abbrev lA:Stmt:=top 12
def uY:Info:=⟨"_law_machine",lA,["_law_number_here","_law_wide","_law_most","_law_count","_law_states","_law_k","_law_steps"],["_law_number_here","_law_wide","_law_most"],cL⟩
abbrev uZ:Stmt:=top 13
def Co:Info:=⟨"_law_has",uZ,["_law_machine_here","_law_word","_law_at","_law_letter"],["_law_machine_here","_law_word"],jZ⟩
abbrev mv:Stmt:=top 14
def vR:Info:=⟨"_law_number",mv,["_law_thing","_law_high"],["_law_thing","_law_high"],eD⟩
abbrev i0:Stmt:=top 15
def oK:Info:=⟨"_law_is_machine",i0,["_law_thing","_law_wide","_law_state"],["_law_thing","_law_wide"],bp⟩
abbrev mw:Stmt:=top 16
def vS:Info:=⟨"_law_parted",mw,["_law_machine_here","_law_count","_law_apart_ones","_law_one","_law_other","_law_k","_law_pairs"],["_law_machine_here"],eE⟩
abbrev ki:Stmt:=top 17
def rL:Info:=⟨"_law_is_least",ki,["_law_machine_here","_law_wide","_law_order","_law_k","_law_step","_law_apart_ones"],["_law_machine_here","_law_wide"],eU⟩
abbrev oM:Stmt:=top 18
def yE:Info:=⟨"_law_moved",oM,["_law_machine_here","_law_number_here","_law_count","_law_place","_law_k","_law_at","_law_found","_law_old"],["_law_machine_here","_law_number_here"],fD⟩
abbrev lB:Stmt:=top 19
def u0:Info:=⟨"_law_doubled",lB,["_law_machine_here","_law_number_here","_law_count","_law_twin","_law_found","_law_k","_law_state","_law_steps","_law_letter","_law_step"],["_law_machine_here","_law_number_here"],cM⟩
abbrev Lz:Stmt:=top 20
def Sq:Info:=⟨"law",Lz,["_law_script","_law_wide","_law_machine_here","_law_kind","_law_other","_law_found","_law_word"],["_law_script"],oB⟩
abbrev i8:Stmt:=A2 0 (top 2)
def oN:Info:=⟨"Groups.__init__",i8,["self","machine","number","state"],["self","machine"],fE⟩
abbrev i9:Stmt:=A2 1 (top 2)
def oO:Info:=⟨"Groups.let_wait",i9,["self","group"],["self","group"],cB⟩
abbrev iD:Stmt:=A2 2 (top 2)
def ng:Info:=⟨"Groups.set_apart",iD,["self","group","states","rest","fresh","state"],["self","group","states"],bx⟩
abbrev fN:Stmt:=A2 3 (top 2)
def kn:Info:=⟨"Groups.set_apart_by",fN,["self","targets","letter","stepping","target","state","group","states"],["self","targets","letter"],cg⟩
abbrev kj:Stmt:=A2 4 (top 2)
def rM:Info:=⟨"Groups.settle",kj,["self","group","targets","letter"],["self"],gM⟩
def qd:CI:=⟨Ξ,"least.<locals>.steps_of",["state","firsts","machine"],["state"],["firsts","machine"],fY⟩
def rN:CI:=⟨Λ,"least.<locals>.<lambda>",["state","machine"],["state"],["machine"],dj⟩
def tx:TX:={is:=[(yz,[]),(uV,[]),(uW,[]),(yA,[(22,⟨77,4,78,59⟩),(23,⟨79,45,79,76⟩)]),(uX,[]),(yB,[]),(yC,[]),(yD,[]),(uY,[]),(Co,[]),(vR,[]),(oK,[]),(vS,[]),(rL,[]),(yE,[]),(u0,[]),(Sq,[]),(oN,[]),(oO,[]),(ng,[]),(kn,[]),(rM,[])],Wa:=[qd,rN],cs:=[],ts:=[],nf:=17,ks:=[{name:="Groups",rg:=["sources","group_of","members","waiting","waits"],GX:=[("__init__",17),("let_wait",18),("set_apart",19),("set_apart_by",20),("settle",21)]}]}
theorem is_Fs:tx.Fs=Fs:=rfl
theorem rf:Lm tx=Λ:=by decide+kernel
def TV(K:Xm)(x:Str):Addr:=((Zx K x).map (·.2)).getD 0
theorem OH(h:(Zx K x).map (·.1)=Δ c):Zx K x=Δ (c,TV K x):=by unfold TV;cases e:Zx K x with|none=>rw[e] at h;cases h|some p=>rw[e] at h;cases h;rfl
noncomputable def xs:List Str:=["least"]
def WU:List (List (Pos×Str)):=[dy tx (yA,[(22,⟨77,4,78,59⟩),(23,⟨79,45,79,76⟩)])]
def u5(pt:List (Addr×Addr)):List (Addr×List (Pos×Str)):=(pt.zip WU).map λp=>(p.1.2,p.2)
theorem HE:L2.Apart (dy tx (yA,[(22,⟨77,4,78,59⟩),(23,⟨79,45,79,76⟩)])):=by unfold L2.Apart;decide+kernel
set_option maxHeartbeats 0 in
theorem all_mk{l:aci}{w:World}{K:Xm}{h:Heap}{mg:Str->Option Value}{fa f0 f1 f2 f3 f4 f5 f6 f7 f8 f9 WV WW WX WY WZ W0 f16 TY TZ T3 T4 T5 bL OI:Addr}{d0 d1 d2 d3 d4 d5 d6 d7 d8 d9 d10 d11 d12 d13 d14 d15 T6 d17 d18 d19 d20 d21:Ze}(X:K.In h)(G:h.Ns Xu mg)(hfa:mg "law"=Δ (.ref fa))
  (A3:XB K Xu "Groups"=Δ (Δ (.ref bL)))
  (EL:aax K bL Str.empty=Λ)
  (EM:aaT K bL=Λ)
  (EN:abE K bL=Λ)
  (EO:X2 K (.ref bL) "__setattr__"=Δ (Δ (.builtin "object.__setattr__")))
  (ER:ach K bL=Λ)
  (ES:ZE K (.ref bL)=Λ)
  (qf:X2 K (.ref bL) "sources"=Δ Θ)
  (oP:X2 K (.ref bL) "group_of"=Δ Θ)
  (qg:X2 K (.ref bL) "members"=Δ Θ)
  (qh:X2 K (.ref bL) "waiting"=Δ Θ)
  (u6:X2 K (.ref bL) "waits"=Δ Θ)
  (a0:XB K Xu "sources_by"=Δ (Δ (.ref f0)))
  (F0:o6 K "sources_by" "sources_by" oG f0 d0)
  (a1:XB K Xu "firsts_alike"=Δ (Δ (.ref f1)))
  (F1:o6 K "firsts_alike" "firsts_alike" lr f1 d1)
  (a2:XB K Xu "machine_from"=Δ (Δ (.ref f2)))
  (F2:o6 K "machine_from" "machine_from" lx f2 d2)
  (a3:XB K Xu "least"=Δ (Δ (.ref f3)))
  (F3:o6 K "least" "least" Du f3 d3)
  (q3:d3.code=.ref OI)
  (t3:(Zx K "least").map (·.1)=Δ OI)
  (a4:XB K Xu "_law_cell_at"=Δ (Δ (.ref f4)))
  (F4:o6 K "_law_cell_at" "_law_cell_at" ly f4 d4)
  (a5:XB K Xu "_law_mixed"=Δ (Δ (.ref f5)))
  (F5:o6 K "_law_mixed" "_law_mixed" oH f5 d5)
  (a6:XB K Xu "_law_drawn"=Δ (Δ (.ref f6)))
  (F6:o6 K "_law_drawn" "_law_drawn" oI f6 d6)
  (a7:XB K Xu "_law_words"=Δ (Δ (.ref f7)))
  (F7:o6 K "_law_words" "_law_words" oJ f7 d7)
  (a8:XB K Xu "_law_machine"=Δ (Δ (.ref f8)))
  (F8:o6 K "_law_machine" "_law_machine" lA f8 d8)
  (a9:XB K Xu "_law_has"=Δ (Δ (.ref f9)))
  (F9:o6 K "_law_has" "_law_has" uZ f9 d9)
  (a10:XB K Xu "_law_number"=Δ (Δ (.ref WV)))
  (F10:o6 K "_law_number" "_law_number" mv WV d10)
  (a11:XB K Xu "_law_is_machine"=Δ (Δ (.ref WW)))
  (F11:o6 K "_law_is_machine" "_law_is_machine" i0 WW d11)
  (a12:XB K Xu "_law_parted"=Δ (Δ (.ref WX)))
  (F12:o6 K "_law_parted" "_law_parted" mw WX d12)
  (a13:XB K Xu "_law_is_least"=Δ (Δ (.ref WY)))
  (F13:o6 K "_law_is_least" "_law_is_least" ki WY d13)
  (a14:XB K Xu "_law_moved"=Δ (Δ (.ref WZ)))
  (F14:o6 K "_law_moved" "_law_moved" oM WZ d14)
  (a15:XB K Xu "_law_doubled"=Δ (Δ (.ref W0)))
  (F15:o6 K "_law_doubled" "_law_doubled" lB W0 d15)
  (a16:XB K Xu "law"=Δ (Δ (.ref f16)))
  (W1:o6 K "law" "law" Lz f16 T6)
  (a17:X2 K (.ref bL) "__init__"=Δ (Δ (.ref TY)))
  (W2:o6 K "__init__" "Groups.__init__" i8 TY d17)
  (n17:aad K (.ref TY)=Λ)
  (a18:X2 K (.ref bL) "let_wait"=Δ (Δ (.ref TZ)))
  (W3:o6 K "let_wait" "Groups.let_wait" i9 TZ d18)
  (n18:aad K (.ref TZ)=Λ)
  (a19:X2 K (.ref bL) "set_apart"=Δ (Δ (.ref T3)))
  (W4:o6 K "set_apart" "Groups.set_apart" iD T3 d19)
  (n19:aad K (.ref T3)=Λ)
  (a20:X2 K (.ref bL) "set_apart_by"=Δ (Δ (.ref T4)))
  (W5:o6 K "set_apart_by" "Groups.set_apart_by" fN T4 d20)
  (n20:aad K (.ref T4)=Λ)
  (a21:X2 K (.ref bL) "settle"=Δ (Δ (.ref T5)))
  (W6:o6 K "settle" "Groups.settle" kj T5 d21)
  (n21:aad K (.ref T5)=Λ)
  (nt:aaS K=Λ)
  (nd:decide [TV K "least"].Nodup=Λ)
  (Sr:XB K Xu "len"=Δ Θ)
  (Ss:XB K Xu "min"=Δ Θ)
  (Su:XB K Xu "max"=Δ Θ)
  (Sv:XB K Xu "all"=Δ Θ)
  (Sw:XB K Xu "any"=Δ Θ)
  (Sx:XB K Xu "sum"=Δ Θ)
  (Sy:XB K Xu "str"=Δ Θ)
  (Kz:XB K Xu "tuple"=Δ Θ)
  (OJ:XB K Xu "list"=Δ Θ)
  (Sz:XB K Xu "int"=Δ Θ)
  (OK:XB K Xu "bool"=Δ Θ)
  (yF:XB K Xu "isinstance"=Δ Θ)
  (KA:XB K Xu "range"=Δ Θ)
  (SA:XB K Xu "zip"=Δ Θ)
  (A4:XB K Xu "enumerate"=Δ Θ)
  (HF:XB K Xu "sorted"=Δ Θ)
  :(xs≠[]->aaS K=Λ)/\∃(tabs:List (Addr×Addr)) (fd:Ze),xs.map (Zx K)=tabs.map Δ/\(∀(s:Xv) (v:Value),acd s fd ⟨[v],[]⟩ [("_law_script",v)])/\
   (∀base:Heap,K.In base->base.Ns Xu mg->(∀q∈tabs,Zn base q.1 q.2)->BMain mg base->gE l.prog w K mg base u7 (lv 60) fa fd ["_law_script"] (BY (mS tx K base (u5 tabs)) (callC Fs 60 16) 1))/\tabs.length=WU.length:=by
 have e:=hfa.symm.trans (Yb X G a16);cases e;replace nd:=of_decide_eq_true nd;replace t3:=OH t3;generalize TV K "least"=SD at*;have T:yc K mg tx (u5 [(OI,SD)]) (λk=>[f0,f1,f2,f3,f4,f5,f6,f7,f8,f9,WV,WW,WX,WY,WZ,W0,fa,TY,TZ,T3,T4,T5].getD k 0) (λk=>[d0,d1,d2,d3,d4,d5,d6,d7,d8,d9,d10,d11,d12,d13,d14,d15,T6,d17,d18,d19,d20,d21].getD k T6) (λk=>[(0,0),(0,0),(0,0),(OI,SD)].getD k (0,0)):=by
  refine⟨B6 ?_,?_,λx i hx=>?_,λx t hx=>?_,λq hq=>?_,B6 ?_⟩;·exact(bq ⟨⟨_,F0⟩,λ_=>Yb X G a0,F0.binds λ_ _ _ _ _ _=>rm λ_ _=>rfl,vd rf (k:=0) rfl⟩ (bq ⟨⟨_,F1⟩,λ_=>Yb X G a1,F1.binds λ_ _ _ _ _ _=>Ep λ_=>rfl,vd rf (k:=1) rfl⟩ (bq ⟨⟨_,F2⟩,λ_=>Yb X G a2,F2.binds λ_ _ _ _ _ _=>JS λ_ _ _=>rfl,vd rf (k:=2) rfl⟩ (bq ⟨⟨_,F3⟩,λ_=>Yb X G a3,F3.binds λ_ _ _ _ _ _=>Ep λ_=>rfl,vd rf (k:=3) rfl⟩ (bq ⟨⟨_,F4⟩,λ_=>Yb X G a4,F4.binds λ_ _ _ _ _ _=>rm λ_ _=>rfl,vd rf (k:=4) rfl⟩ (bq ⟨⟨_,F5⟩,λ_=>Yb X G a5,F5.binds λ_ _ _ _ _ _=>rm λ_ _=>rfl,vd rf (k:=5) rfl⟩ (bq ⟨⟨_,F6⟩,λ_=>Yb X G a6,F6.binds λ_ _ _ _ _ _=>rm λ_ _=>rfl,vd rf (k:=6) rfl⟩ (bq ⟨⟨_,F7⟩,λ_=>Yb X G a7,F7.binds λ_ _ _ _ _ _=>Ep λ_=>rfl,vd rf (k:=7) rfl⟩ (bq ⟨⟨_,F8⟩,λ_=>Yb X G a8,F8.binds λ_ _ _ _ _ _=>JS λ_ _ _=>rfl,vd rf (k:=8) rfl⟩ (bq ⟨⟨_,F9⟩,λ_=>Yb X G a9,F9.binds λ_ _ _ _ _ _=>rm λ_ _=>rfl,vd rf (k:=9) rfl⟩ (bq ⟨⟨_,F10⟩,λ_=>Yb X G a10,F10.binds λ_ _ _ _ _ _=>rm λ_ _=>rfl,vd rf (k:=10) rfl⟩ (bq ⟨⟨_,F11⟩,λ_=>Yb X G a11,F11.binds λ_ _ _ _ _ _=>rm λ_ _=>rfl,vd rf (k:=11) rfl⟩ (bq ⟨⟨_,F12⟩,λ_=>Yb X G a12,F12.binds λ_ _ _ _ _ _=>Ep λ_=>rfl,vd rf (k:=12) rfl⟩ (bq ⟨⟨_,F13⟩,λ_=>Yb X G a13,F13.binds λ_ _ _ _ _ _=>rm λ_ _=>rfl,vd rf (k:=13) rfl⟩ (bq ⟨⟨_,F14⟩,λ_=>Yb X G a14,F14.binds λ_ _ _ _ _ _=>rm λ_ _=>rfl,vd rf (k:=14) rfl⟩ (bq ⟨⟨_,F15⟩,λ_=>Yb X G a15,F15.binds λ_ _ _ _ _ _=>rm λ_ _=>rfl,vd rf (k:=15) rfl⟩ (bq ⟨⟨_,W1⟩,λ_=>Yb X G a16,W1.binds λ_ _ _ _ _ _=>Ep λ_=>rfl,vd rf (k:=16) rfl⟩ (bq ⟨⟨_,W2⟩,λz=>absurd z (by decide),W2.binds λ_ _ _ _ _ _=>rm λ_ _=>rfl,vd rf (k:=17) rfl⟩ (bq ⟨⟨_,W3⟩,λz=>absurd z (by decide),W3.binds λ_ _ _ _ _ _=>rm λ_ _=>rfl,vd rf (k:=18) rfl⟩ (bq ⟨⟨_,W4⟩,λz=>absurd z (by decide),W4.binds λ_ _ _ _ _ _=>JS λ_ _ _=>rfl,vd rf (k:=19) rfl⟩ (bq ⟨⟨_,W5⟩,λz=>absurd z (by decide),W5.binds λ_ _ _ _ _ _=>JS λ_ _ _=>rfl,vd rf (k:=20) rfl⟩ (bq ⟨⟨_,W6⟩,λz=>absurd z (by decide),W6.binds λ_ _ _ _ _ _=>Ep λ_=>rfl,vd rf (k:=21) rfl⟩ NX))))))))))))))))))))))
  ·exact(memC (XY X G Sr) (memC (XY X G Ss) (memC (XY X G Su) (memC (XY X G Sv) (memC (XY X G Sw) (memC (XY X G Sx) (memC (XY X G Sy) (memC (XY X G Kz) (memC (XY X G OJ) (memC (XY X G Sz) (memC (XY X G OK) (memC (XY X G yF) (memC (XY X G KA) (memC (XY X G SA) (memC (XY X G A4) (memC (XY X G HF) RC))))))))))))))))
  ·exact absurd hx (by simp[tx])
  ·exact absurd hx (by simp[tx])
  ·simp only[tx,aai,Z8,or_false] at hq;rcases hq with rfl;·refine⟨bL,A3,Yb X G A3,⟨EL,EM,EN,EO⟩,memC qf (memC oP (memC qg (memC qh (memC u6 RC)))),RD ⟨a17,n17,W2.kp⟩ (RD ⟨a18,n18,W3.kp⟩ (RD ⟨a19,n19,W4.kp⟩ (RD ⟨a20,n20,W5.kp⟩ (RD ⟨a21,n21,W6.kp⟩ lkN)))),λk hm=>?_⟩;have JL:(17:Nat)=k:=XU ((by rfl:Za ("__init__":Str) _=Δ 17).symm.trans hm);subst JL;exact⟨ER,a17,n17,ES⟩
  ·exact(bq (λhi=>absurd rfl hi) (bq (λhi=>absurd rfl hi) (bq (λhi=>absurd rfl hi) (bq (λ_=>⟨q3,Xw (i:=0) rfl,HE,JR nd rfl (Xw (i:=0) rfl)⟩) (bq (λhi=>absurd rfl hi) (bq (λhi=>absurd rfl hi) (bq (λhi=>absurd rfl hi) (bq (λhi=>absurd rfl hi) (bq (λhi=>absurd rfl hi) (bq (λhi=>absurd rfl hi) (bq (λhi=>absurd rfl hi) (bq (λhi=>absurd rfl hi) (bq (λhi=>absurd rfl hi) (bq (λhi=>absurd rfl hi) (bq (λhi=>absurd rfl hi) (bq (λhi=>absurd rfl hi) (bq (λhi=>absurd rfl hi) (bq (λhi=>absurd rfl hi) (bq (λhi=>absurd rfl hi) (bq (λhi=>absurd rfl hi) (bq (λhi=>absurd rfl hi) (bq (λhi=>absurd rfl hi) NX))))))))))))))))))))))
 refine⟨λ_=>nt,[(OI,SD)],T6,by simp only[xs,Xo,Zi,t3],λs v=>?_,λbase kb nb qi bm=>?_,rfl⟩;·obtain⟨_,_,_,_,_,_,_,_,_,rfl,_⟩:=W1.ex;exact .of_eq rfl
 have bo:jV mg tx (λk=>[(0,0),(0,0),(0,0),(OI,SD)].getD k (0,0)) base:=⟨B6 (bq (λhi=>absurd rfl hi) (bq (λhi=>absurd rfl hi) (bq (λhi=>absurd rfl hi) (bq (λ_=>qi (OI,SD) (Xw (i:=0) rfl)) (bq (λhi=>absurd rfl hi) (bq (λhi=>absurd rfl hi) (bq (λhi=>absurd rfl hi) (bq (λhi=>absurd rfl hi) (bq (λhi=>absurd rfl hi) (bq (λhi=>absurd rfl hi) (bq (λhi=>absurd rfl hi) (bq (λhi=>absurd rfl hi) (bq (λhi=>absurd rfl hi) (bq (λhi=>absurd rfl hi) (bq (λhi=>absurd rfl hi) (bq (λhi=>absurd rfl hi) (bq (λhi=>absurd rfl hi) (bq (λhi=>absurd rfl hi) (bq (λhi=>absurd rfl hi) (bq (λhi=>absurd rfl hi) (bq (λhi=>absurd rfl hi) (bq (λhi=>absurd rfl hi) NX)))))))))))))))))))))),bm⟩;exact(Dc (P:=l.prog) (w:=w) T 60).1 base bo 16 _ rfl
theorem walk{l:aci}{K:Params->Xm}(hn:l.most=Δ 63)(P9:d.params.defaults=[])(hY:∀(w:World) (h:Heap),YP w h->(K w.params).In h)(xG:∀y∈xs,((PyProof.Rows.recsOf q).find? (λe=>e.name==y)).isSome=Λ)(F:∀(w:World) (mg:Str->Option Value) (fa:Addr) (h:Heap),(K w.params).In h->h.Ns Xu mg->mg d.name=Δ (.ref fa)->
   (xs≠[]->aaS (K w.params)=Λ)/\∃(tabs:List (Addr×Addr)) (fd:Ze),xs.map (Zx (K w.params))=tabs.map Δ/\(∀(s:Xv) (u:Value),acd s fd ⟨[u],[]⟩ [("_law_script",u)])/\
    (∀base:Heap,(K w.params).In base->base.Ns Xu mg->(∀q∈tabs,Zn base q.1 q.2)->BMain mg base->gE l.prog w (K w.params) mg base u7 (lv 60) fa fd ["_law_script"] (BY (mS tx (K w.params) base (u5 tabs)) (callC Fs 60 16) 1))/\tabs.length=WU.length):
  PySem.W.WalkO q loose XP YP l.row.toRowW d [] (λf vs=>ac2 f vs):=
 L2.Gg (n:=63) (k:=lv 60) (x:="_law_script") (CX:=λ_=>u7) (sp:=λw _ pt base=>BY (mS tx (K w.params) base (u5 pt)) (callC Fs 60 16) 1) xs hn (by decide) P9 ⟨rfl,by decide,by decide⟩ hY (λy hy=>by obtain⟨dr,h⟩:=Option.isSome_iff_exists.mp (xG y hy);exact⟨dr,h⟩) (λw mg fa h X N m=>by obtain⟨h1,tabs,fd,h2,h3,h4,h5⟩:=F w mg fa h X N m;refine⟨h1,tabs,fd,h2,h3,h4,λbase H a ns hl _ _ ho hS=>JU (λt ht=>?_) (HD ns hl) ho hS⟩;unfold u5 at ht;obtain⟨p,hp,rfl⟩:=Y7.mp ht;exact Y7.mpr ⟨p.1,(aag hp).1,rfl⟩) λ_ _ _ _ _ z=>z
end Sd
open PySem PySem.W PyProof.Rows
set_option maxRecDepth 100000 in
set_option maxHeartbeats 0 in
theorem PySem.Challenge.cw_wordyard_k11_whole_least_holds : PySem.Challenge.rw_wordyard_k11_whole_least.Holds := by
 w_on;o_law;k_head;(case hw=>w_witness2)
 k_fill
 refine Sd.walk (l:=PySem.Challenge.rw_wordyard_k11_whole_least) rfl rfl (λw h Y=>by first|exact PySem.W.kIn_of Y|exact PySem.W.km_in_of Y) (by decide+kernel) ?F
 case F=>intro w mg fa h KX G Qa;refine' Sd.all_mk KX G Qa ?_ ?_ ?_ ?_ ?_ ?_ ?_ ?_ ?_ ?_ ?_ ?_ ?_ ?_ ?_ ?_ ?_ ?_ ?_ ?_ ?_ ?_ ?_ ?_ ?_ ?_ ?_ ?_ ?_ ?_ ?_ ?_ ?_ ?_ ?_ ?_ ?_ ?_ ?_ ?_ ?_ ?_ ?_ ?_ ?_ ?_ ?_ ?_ ?_ ?_ ?_ ?_ ?_ ?_ ?_ ?_ ?_ ?_ ?_ ?_ ?_ ?_ ?_ ?_ ?_ ?_ ?_ ?_ ?_ ?_ ?_ ?_ ?_ ?_ ?_ ?_ ?_ ?_ ?_ ?_ ?_;all_goals try first|k_is|(refine' L2.Mq ?l ?c ?k;(case l=>k_is);(case c=>k_is);(case k=>k_is))|rfl|kernel_rfl
