import PyProof.Rows.All
import Wide.All
import OpenK.AllK
import Wide.FinOn
import Lean
import PyProof.EqAt
import PyProof.EqKinds
import PyProof.TupleCall
import PyProof.NeKinds
import PySem.Challenge.RW_wordyard_k02_machines
set_option Elab.async false
set_option linter.all false
set_option maxRecDepth 100000
set_option maxHeartbeats 4000000
noncomputable section
open Option renaming some->Δ,none->Θ
open Bool renaming true->Λ,false->Ξ
open PySem renaming wpAny_bind->W2,wpAny_pure->Xe,mainGlobals->Xk,Shared->Xp,sizeLine->Xv,starEach->XG,mem_of_lookup->XZ,wpAny_newObj_type->X3,wpAny_callSpecial?_slot->X4,Program->Yb,wpAny_field->Yf,wpAny_call_entry->Yv,compareOp->Yw,wpAny_Call_Name_kw->Yx,Around->YF,wpAny_truthy_bool->YI,sizeLine_eq->YJ,wpAny_loadPart'->YN,wpAny_mono->YS,sysModules->YZ,FuncData->Zb,wpAny_setField_rec->Zc,wpAny_seqItems->Zi,rawInt->Zj,backTo->Zk,wpAny_holding->Zw,wpAny_pyIter_tuple->ZC,binaryOp->ZD,IsPair->ZG,wpAny_passesOwn->ZL,Arguments->ZQ,NameKind->ZS,attributeBase->ZV,codeAmong->ZZ,keywordEach->Z6,wpAny_newFunctionEnv->aai,swapsWith->aao,bootBuiltins->aap,wpAny_binaryOp_repeat_ref->aat,getItem->aay,tupleKind_room_in1->aaB,call_meets->aaC,sliceBounds->aaF,wpAny_pyIter_enum->aaK,wpAny_rule->aa0,typeIs_int->aa1,qualnameIn->aa2,Spec->aa6,codeAny->aa9,Builtin->aba,wpAny_updateSeq_pair->abb,backToKw->abc,wpAny_updateSeq->abf,letOwnedTupleGo->abg,wpAny_typeOf->abl,codeAny_mono->abm,call_meetsIn->abn,TriplesOk->abp,closureFor->abr,wpAny_sequenceKey->aby,wpAny_pyIter_list->abz,wpAny_letGo->abA,foldedSetIterable->abB,Keyword->abJ,wpAny_onRaise->abL,wpAny_attempt->abM,pyNext->abN,annotationsOf->abO,Comprehension->abQ,wpAny_isInstance->abR,tupleKind->abS,noFill_tuple_add->abT,getMethod->abU,valueAt->ab4,standAt->ab5,builtinsNs->ab7,assignEach->ab8,IsPart->aca,BindsTo->acb,wpAny_specialOf->acd,wpAny_execs_nil->ace,subscripted->acj,isSubtype_stop->ack,holding->acp,callerA->acq,wpAny_standAt->acv,seq_tuple_add->acx,evalPart_none->acy,behindInMarks->acz,Paired->acB,seqIndex_neg->acC,concat_meets->acD,callWith->acE,Within->acF,updateSeq->acK,isTrue->acL,cellOf->acM,seqIndex_of->acN,wpAny_call->acR,wpAny_Name->acS,typeLookup->acT,bindArgs->acU,assign->acV,call->acW
open Bool renaming and_eq_true->W3,not_eq_true'->XE,false_eq_true->XR,false_ne_true->X8,eq_false_or_eq_true->Zh,eq_iff_iff->Zp,or_eq_true->ZO,false_and->aaV,true_and->acA
open PySem.Heap renaming get?_push_of_some->W4,get?_push_size->Xj,lt_size->Xl,get?_update_other->Yr,size_push->YA,get?_update_self->Za,SameBut->ZU,size_update->aa7,IsTuple->acH
open List renaming mem_cons_of_mem->W5,getElem?_eq_getElem->W6,range->W7,mem_cons_self->W8,getElem?_set_ne->W9,getD_eq_getElem?_getD->Xa,getElem?_append_left->Xb,length_map->Xc,getElem?_map->Xg,size_toArray->Xh,map_cons->Xi,getElem?_cons_zero->Xm,getElem?_cons_succ->Xn,isEmpty_iff->Xo,length_cons->Xq,length_append->Xs,getElem?_append_right->Xu,mem_of_getElem?->Xw,getElem?_set_self->Xy,lookup_cons->XB,mem_append_right->XF,filter_cons_of_pos->XH,getElem?_eq_none->XI,filter_cons_of_neg->XU,length_range->XX,map_append->X2,nodup_append->X5,getElem_mem->X6,append_assoc->X7,drop_eq_getElem_cons->X9,append_nil->Ya,mem_filter->Yl,mem_range->Ym,mem_append_left->Yo,find?_cons->Yu,replicate->Yy,mem_singleton->Yz,nodup_cons->YC,length_set->YD,all_eq_true->YE,range_succ->YO,mem_map->YQ,cons_append->YU,any_eq_true->YV,idxOf_lt_length_of_mem->YW,all_cons->YY,take_of_length_le->Y1,take_add_one->Y2,length_pos_of_mem->Y3,filterMap_cons->Y4,lookup->Y7,length_nil->Y8,not_mem_nil->Ze,nodup_range->Zf,length_take->Zg,nil_append->Zn,foldl_cons->Zo,getElem?_range->Zq,map_nil->Zs,filter_eq_nil_iff->Zt,mem_cons->Zy,any_cons->Zz,length_filter_le->ZJ,forIn_cons->ZN,foldl_append->ZT,length_erase_of_mem->ZX,flatMap_append->ZY,getElem?_replicate->Z5,filter_append->aaa,of_mem_zip->aac,take_append_drop->aaf,length_replicate->aag,mem_erase_of_ne->aaj,map->aak,forIn_nil->aal,drop_zero->aam,map_map->aas,mem_map_of_mem->aau,set->aax,mem_append->aaA,zip_cons_cons->aaE,reverse_cons->aaS,drop_eq_nil_of_le->aaT,set_append_right->aaY,getElem?_of_mem->abd,length_zip->abh,foldl->abw,find?_eq_none->abx,length->abF,flatMap_cons->abG,ext_getElem?->abH,any_eq_false->abI,zipIdx_cons->abW,mem_flatMap->abX,length_drop->abY,getElem_zip->abZ,drop_length->ab0,map_set->acG
open Nat renaming le_refl->Xd,lt_of_lt_of_le->Xx,ne_of_lt->XD,le_trans->XW,zero_add->Yg,zero_le->Yj,ne_of_gt->Yk,add_right_comm->Yq,lt_succ_self->YT,lt_irrefl->YX,le_succ->Y6,le_add_right->ZA,not_lt_zero->ZM,sub_succ_lt_self->ZR,min_le_right->Z4,lt_of_sub_eq_succ->aae,le_of_lt->aar,min_le_left->aaz,lt_trans->aaR,le_of_eq->abo,lt_of_le_of_lt->abv,succ_mul->ab9
open PySem.W renaming Frag->Xf,nsIn->Xr,mg_none_of->XQ,mg_of->XS,findIn->XT,kia_one->Yt,emptyDict->YK,CodeHd->Zl,instObj->Zm,tabIn->Zx,keepIn->ZE,tabObj->Z3,isFn->Z9,plainGet->aaq,callWith_K->aaD,noTabs->aaL,hasDictIn->aaM,fnOf->aaN,methodCall_KW->aaW,plainGet_of->abj,lookIn->abu,plainOver->abC,methodObj->abD,takerIn->acf,makesIn->acg,OpenLaw->ach,kla_fn->acm,kitOne->acn,codeIn->aco,fnX->acQ
open PySem.NameKind renaming free->Xt,cell->YL
open Classical renaming byContradiction->Xz
open Option renaming join_some->XA,map_some->XM,bind_some->Ye,isNone_iff_eq_none->Yp,isSome_map->aah,getD_none->abV
open PySem.Value renaming ref->XC,none->Zd,type->Z7,bool->Z8,str->aa4,int->aa5,float->acO
open Option.some renaming inj->XJ,injEq->abE
open PySem.Builtin.SmallTypes renaming nextOf->XN,ownedTupleIsFree->YM
open PySem.Builtin.Tuple renaming tupleExact->XO,tupleTooMany->YB,tupleItemsOf->aan
open PySem.Str renaming ofString->XY
open Ne renaming symm->Yc
open PySem.Builtin.Slice renaming slicePlaces->Yd,sliceAdjust->YG,sliceApplied->ZH
open PyProof.Rows renaming callWith_type1->Yh,slot_tuple_getitem->Yi,kindOf->aa3,subscriptTail->aa8,entry_tuple_getitem->abi,slicePart_none->abq,args_tuple_getitem->abt,AllBare->abK,envOfC->ab6,boot_list->acr,tupleItemsOf_->acw
open Function renaming comp_def->Yn
open False renaming elim->Ys
open True renaming intro->YH
open ForInStep renaming yield->YR
open PySem.F renaming slot_tuple_iterator_next->Y0,slot_int_rmul->Y9,slot_enumerate_next->Zr,plain_extend_loop->ZK,slot_zip_next->aad,args_tuple_mul_2->aav,args_tuple_add_2->aaw,plainAttrs_dict->aaG,entry_tuple_mul->aaH,entry_tuple_add->aaI,args_int_rmul_2->aaJ,slot_tuple_mul->aaO,slot_tuple_add->aaP,entry_int_rmul->aaQ,fills_int_mul->aaX
open Array renaming length_toList->Y5,getElem?_toList->aaZ
open PySem.Calls renaming callWith_builtin->Zu,spliced_cons->aab,spliced_nil->aaU,evalArgs_plain->abe
open PySem.Builtin.List renaming listExtendWith->Zv
open PySem.Obj renaming mapSeq->ZW
open Int renaming toNat_of_nonneg->abk,toNat->ab2
open PySem.Paired renaming length->abP
open PyProof.Rows.IsTup renaming new->ab1
open PySem.AutoSeq1 renaming idx_int->ab3
open PySem.PassesOwn renaming never->aci
open Sum renaming inr->acs,inl->acu
open PySem.Code renaming isFrame->acI
open PySem.Around renaming under->acJ
open PySem.Shared renaming heap->acP
open Prod renaming ext->acX
namespace PySem.W.Fast
def tw11771130047719694900:=0
def tw3719920886681014612:=0
def tw221395431406583161:=0
def tw6778507029978124173:=0
def tw9011602266603730438:=0
def tw5438766285109334255:=0
def tw2791116273654355345:=0
def tw5605913143553445008:=0
def tw1295901697542704757:=0
def tw11956315703902947595:=0
def tw9877336892341311646:=0
def tw15003622236576064411:=0
def tw11786102817962388437:=0
def tw13161314996244576172:=0
def tw3072274958153319715:=0
def tw6950566819388565168:=0
def tw4413995043462040420:=0
def tw2750131597050898998:=0
def tw10198837861858758841:=0
def tw12818146968715774697:=0
def tw988262360264987767:=0
def tw12158350614068831533:=0
def tw8271139736232792960:=0
def tw4926160629076959365:=0
def tw11527594841635176111:=0
def tw2382955647499008151:=0
def tw10934045287746860205:=0
def tw12992424065225692553:=0
def tw16588282314614756280:=0
def tw379797528644288021:=0
def tw8196852935959634506:=0
def tw16466734147950436128:=0
def tw3301669552431104495:=0
def tw4871705527797061363:=0
def tw13961909447120827904:=0
def tw15843907175254118576:=0
def tw4548306055327764459:=0
def tw15728305778883283860:=0
def tw10411953345951162034:=0
def tw14035660351390502756:=0
def tw12726193106669767355:=0
def tw18027963080600040163:=0
def tw17243677621848048425:=0
def tw1254303609092974236:=0
def tw2803347123191347632:=0
def tw15041360760918477606:=0
end PySem.W.Fast
theorem qqq{p:Prop}[Decidable p]:(decide p=Bool.true)=p:=decide_eq_true_eq
theorem qqz{A:Type u}{l:List A}{i:Nat}{a:A}(h:l[i]?=Option.some a):∃h:i<l.length,l[i]=a:=List.getElem?_eq_some_iff.mp h
theorem ft{g:Prop}(h:Ξ=Λ):g:=Bool.noConfusion h
namespace L2
open PySem PySem.Spec PyProof.Rows
abbrev Key:=Sum Int Str
noncomputable def vO:Key->Value->Bool
 |.inl k,v=>Value.isInt k v|.inr x,v=>Value.isStrOf x v
def TL(w:World):Key->Int
 |.inl k=>hashInt k|.inr x=>hashStr w x
theorem b8:∀{k} {v},vO k v=Λ->(∃i t,k=acu i/\v=aa5 i t)\/(∃x t,k=acs x/\v=aa4 x t)
 |.inl i,v,h=>by obtain⟨t,e⟩:=Value.isInt_shape (k:=i) (v:=v) h;exact .inl ⟨i,t,rfl,e⟩|.inr x,v,h=>by obtain⟨t,e⟩:=Value.isStrOf_shape (x:=x) (v:=v) h;exact .inr ⟨x,t,rfl,e⟩
theorem Dl i t:vO (.inl i) (.int i t)=Λ:=by simp[vO,Value.isInt]
theorem Dm x t:vO (.inr x) (.str x t)=Λ:=by simp[vO,Value.isStrOf]
theorem Lu a b:decide ((acu a:Key)=acu b)=(a==b):=by
 by_cases e:a=b;·subst e;simp
 ·have h:¬(acu a:Key)=acu b:=λq=>e (acu.inj q);rw[decide_eq_false h];exact(beq_eq_false_iff_ne.mpr e).symm
theorem Lv a b:decide ((acs a:Key)=acs b)=decide (a=b):=by
 by_cases e:a=b;·subst e;simp
 ·have h:¬(acs a:Key)=acs b:=λq=>e (acs.inj q);rw[decide_eq_false h,decide_eq_false e]
theorem Lw a b:decide ((acu a:Key)=acs b)=Ξ:=decide_eq_false (λq=>nomatch q)
theorem Lx a b:decide ((acs a:Key)=acu b)=Ξ:=decide_eq_false (λq=>nomatch q)
def be(prog:Yb)(w:World):PySem.KeyKind prog w Key where
 is:=vO
 hash:=TL w
 inj:=λv a b ha hb=>by
  rcases b8 ha with ⟨i,t,rfl,rfl⟩|⟨x,t,rfl,rfl⟩
  ·rcases b8 hb with ⟨j,u,rfl,e⟩|⟨y,u,rfl,e⟩
   ·injection e with e1 _;rw[e1]
   ·exact nomatch e
  ·rcases b8 hb with ⟨j,u,rfl,e⟩|⟨y,u,rfl,e⟩
   ·exact nomatch e
   ·injection e with e1 _;rw[e1]
 byValue:=λk v h=>by rcases b8 h with ⟨i,t,rfl,rfl⟩|⟨x,t,rfl,rfl⟩<;>rfl
 pyHash:=λhv h=>by
  rcases b8 hv with ⟨i,t,rfl,rfl⟩|⟨x,t,rfl,rfl⟩
  ·exact wpAny_pyHash_int h
  ·exact wpAny_pyHash_str h
 eqBool:=λhu hv h=>by
  rcases b8 hu with ⟨i,t,rfl,rfl⟩|⟨x,t,rfl,rfl⟩
  ·rcases b8 hv with ⟨j,u,rfl,rfl⟩|⟨y,u,rfl,rfl⟩
   ·rw[Lu] at h;exact wpAny_eqBool_int h
   ·rw[Lw] at h;exact SeqAt.EqAt.int_str i t y u _ _ _ _ h
  ·rcases b8 hv with ⟨j,u,rfl,rfl⟩|⟨y,u,rfl,rfl⟩
   ·rw[Lx] at h;exact SeqAt.EqAt.str_int x t j u _ _ _ _ h
   ·rw[Lv] at h;exact wpAny_eqBool_str h
 «strs»:=λk x t v h=>by
  rcases b8 h with ⟨i,u,rfl,e⟩|⟨y,u,rfl,e⟩
  ·exact nomatch e
  ·injection e with e1 _;subst e1;cases v<;>rfl
theorem yK prog w i t:(be prog w).is (.inl i) (.int i t)=Λ:=Dl i t
theorem yL prog w x t:(be prog w).is (.inr x) (.str x t)=Λ:=Dm x t
inductive V where
 |bu|bl (b:Bool)|int (i:Int)|str (x:Str)|Oz (b:Array UInt8)|Ly (b:UInt64)|ref (a:Addr)|ty (n:String)
 deriving DecidableEq
noncomputable def RelV:V->Value->Prop
 |.bu,u=>u=Zd|.bl b,u=>u=Z8 b|.int i,u=>∃t,u=aa5 i t|.str x,u=>∃t,u=aa4 x t|.Oz b,u=>∃t,u=Value.bytes b t|.Ly b,u=>∃t,u=acO b t|.ref a,u=>u=XC a|.ty n,u=>u=Z7 n
abbrev aS:List V->List Value->Prop:=acB RelV
theorem aS.length(r:aS xs us):xs.length=us.length:=abP r
theorem aS.get:∀{xs} {us} {i:Nat} {x},aS xs us->xs[i]?=Δ x->∃u,us[i]?=Δ u/\RelV x u
 |_,_,_,_,.nil,e=>by simp at e|_,_,0,_,.cons r _,e=>by simp at e;subst e;exact⟨_,rfl,r⟩|_,_,i+1,x,.cons _ t,e=>by obtain⟨u,h1,h2⟩:=aS.get (i:=i) (x:=x) t (by simpa using e);exact⟨u,by simpa using h1,h2⟩
theorem aS.set(r:RelV x u):∀{xs} {us} (i),aS xs us->aS (xs.set i x) (us.set i u)
 |_,_,_,.nil=>.nil|_,_,0,.cons _ t=>.cons r t|_,_,i+1,.cons q t=>.cons q (aS.set r i t)
theorem aS.append:∀{xs ys} {us ws},aS xs us->aS ys ws->aS (xs++ys) (us++ws)
 |_,_,_,_,.nil,s=>s|_,_,_,_,.cons r t,s=>.cons r (aS.append t s)
theorem aS.take:∀{xs} {us} (n),aS xs us->aS (xs.take n) (us.take n)
 |_,_,0,_=>.nil|_,_,_+1,.nil=>.nil|_,_,n+1,.cons r t=>.cons r (aS.take n t)
theorem aS.drop:∀{xs} {us} (n),aS xs us->aS (xs.drop n) (us.drop n)
 |_,_,0,r=>r|_,_,_+1,.nil=>.nil|_,_,n+1,.cons _ t=>aS.drop n t
def kz:Option V->Option Value->Prop
 |some v,Δ u=>RelV v u|none,Θ=>True|_,_=>False
def KV{κ:Type}:List (κ×V)->List (κ×Value)->Prop:=acB λ(p:κ×V) (q:κ×Value)=>p.1=q.1/\RelV p.2 q.2
def kV:Key->V
 |.inl i=>.int i|.inr x=>.str x
inductive HO where
 |lst (xs:List V)
 |tup (xs:List V)
 |dK (kvs:List (Key×V))|dT (kvs:List (List Key×V))
 |set (S:Int->Bool) (n:Nat)
 |ins (C dx:Addr) (fs:List (Str×V))
 |own (x:Addr)
 |xd (fs:List (Str×V))
 |met (f x:Addr)
 |iB (lo hi:Int)
 |dz (o:Obj) (u:HO)
 |fk (ps:Array Value)
 |ext (φ:Heap->Prop)
abbrev Hp:=Addr->Option HO
noncomputable def upd(H:Hp)(a:Addr)(o:HO):Hp:=λb=>if b=a then Δ o else H b
theorem aD:upd H a o a=Δ o:=by unfold upd;rw[if_pos rfl]
theorem ax(h:b≠a):upd H a o b=H b:=by unfold upd;rw[if_neg h]
theorem Ci:upd (upd H a o) a u=upd H a u:=by funext b;unfold upd;split<;>rfl
theorem Kw{H:Hp}(h:H a=Δ o)(h':H b=Δ u)(d:o≠u):a≠b:=by intro e;subst e;rw[h] at h';exact d (XJ h')
theorem aO{H:Hp}(h:H a=Δ o)(h':H b=Θ):a≠b:=by intro e;subst e;rw[h] at h';cases h'
section
variable(P:Yb)(w:World)
def bI(H:Hp)(h:Heap)(a:Addr):HO->Prop
 |.lst xs=>xs.length<=Xv/\∃(its:List Value) (n:Nat),aS xs its/\h.get? a=Δ {cls:=.type "list",data:=.seq its.toArray n}|.tup xs=>xs.length<=Xv/\∃its:List Value,aS xs its/\IsTup h a its.toArray|.dK kvs=>kvs.length<=Xv/\(a==YZ)=Ξ/\∃vs,KV kvs vs/\h.DictOf (be P w) a vs
 |.dT kvs=>kvs.length<=Xv/\(a==YZ)=Ξ/\∃xs:List (List Key×Addr×Value),
   acB (λ(p:List Key×V) (q:List Key×Addr×Value)=>p.1=q.1/\H q.2.1=Δ (.tup (p.1.map kV))/\RelV p.2 q.2.2) kvs xs/\
   ∃o es ep,h.get? a=Δ o/\o.ExactDict/\o.data=.dict es ep/\es.toList=xs.map (entryOfKey (abS (be P w)))/\(xs.map (·.1)).Nodup
 |.set S n=>h.SetOf (intKind P w) a S n
 |.ins C dx fs=>H dx=Δ (.own a)/\fs.length<=1000/\dx≠a/\h.get? a=Δ (Zm C dx)/\
   ∃mA,h.Ns1 dx mA/\(∀f,kz (fs.lookup f) (mA f))/\acF mA (fs.map (·.1))
 |.own _=>∃o,h.get? a=Δ o|.xd fs=>∃mA,h.Ns1 a mA/\∀f,kz (fs.lookup f) (mA f)|.iB lo hi=>∃t u v,h.get? a=Δ {cls:=.type "range",data:=.fields #[.int lo t,.int hi u,.int 1 v]}|.dz o u=>h.get? a=Δ o/\bI H h a u|.fk ps=>h.get? a=Δ {cls:=.none,data:=.fields ps}|.met f x=>h.get? a=Δ (abD (.ref f) (.ref x))|.ext φ=>φ h/\(∃o,h.get? a=Δ o)/\∀h1 h2:Heap,φ h1->(∀o,h1.get? a=Δ o->h2.get? a=Δ o)->φ h2
def kA(H:Hp)(h:Heap):Prop:=∀a o,H a=Δ o->bI P w H h a o
end
section
variable{P:Yb}{w:World}{H H':Hp}{h h':Heap}{a:Addr}{o:HO}
theorem bI.lt(x:bI P w H h a o):a < h.objs.size:=by cases o with|lst xs=>obtain⟨_,_,_,_,e⟩:=x;exact Xl e|tup xs=>obtain⟨_,_,_,p⟩:=x;exact p.lt|dK kvs=>obtain⟨_,_,_,_,o,_,_,e,_⟩:=x;exact Xl e|dT kvs=>obtain⟨_,_,_,_,o,_,_,e,_⟩:=x;exact Xl e|set S n=>obtain⟨o,_,_,_,e,_⟩:=x;exact Xl e|ins C dx fs=>obtain⟨_,_,_,e,_⟩:=x;exact Xl e|own y=>obtain⟨_,e⟩:=x;exact Xl e|xd fs=>obtain⟨_,⟨_,_,_,e,_⟩,_⟩:=x;exact Xl e|iB lo hi=>obtain⟨_,_,_,e⟩:=x;exact Xl e|dz ob u=>obtain⟨e,_⟩:=x;exact Xl e|fk ps=>exact Xl (show h.get? a=Δ _ from x)|met f y=>exact Xl (show h.get? a=Δ _ from x)|ext φ=>obtain⟨_,⟨_,e⟩,_⟩:=x;exact Xl e
theorem acB.Lz:∀{EO} {ER},acB F EO ER->(∀a b,F a b->G a b)->acB G EO ER
 |_,_,.nil,_=>.nil|_,_,.cons r t,f=>.cons (f _ _ r) (acB.Lz t f)
theorem bI.ng(x:bI P w H h a o)(k:∀b u,(b=a\/H b=Δ (.own a))->h.get? b=Δ u->h'.get? b=Δ u)
  (ho:∀b,H b=Δ (.own a)->H' b=Δ (.own a)) (ht:∀b xs,H b=Δ (.tup xs)->H' b=Δ (.tup xs)):bI P w H' h' a o:=by
 induction o with
 |lst xs=>obtain⟨z,its,n,r,e⟩:=x;exact⟨z,its,n,r,k _ _ (.inl rfl) e⟩|tup xs=>obtain⟨z,its,r,ob,e,c⟩:=x;exact⟨z,its,r,ob,k _ _ (.inl rfl) e,c⟩|dK kvs=>obtain⟨z,y,vs,r,ob,es,ep,e,c⟩:=x;exact⟨z,y,vs,r,ob,es,ep,k _ _ (.inl rfl) e,c⟩|dT kvs=>obtain⟨z,y,xs,r,ob,es,ep,e,c⟩:=x;exact⟨z,y,xs,acB.Lz r λp q z=>⟨z.1,ht _ _ z.2.1,z.2.2⟩,ob,es,ep,k _ _ (.inl rfl) e,c⟩
 |set S n=>obtain⟨ob,es,ep,t,e,c⟩:=x;exact⟨ob,es,ep,t,k _ _ (.inl rfl) e,c⟩|ins C dx fs=>obtain⟨d,z,ne,e,mA,⟨od,es,ep,e2,c⟩,r⟩:=x;exact⟨ho _ d,z,ne,k _ _ (.inl rfl) e,mA,⟨od,es,ep,k _ _ (.inr d) e2,c⟩,r⟩
 |own y=>obtain⟨ob,e⟩:=x;exact⟨ob,k _ _ (.inl rfl) e⟩|xd fs=>obtain⟨mA,⟨od,es,ep,e,c⟩,r⟩:=x;exact⟨mA,⟨od,es,ep,k _ _ (.inl rfl) e,c⟩,r⟩|iB lo hi=>obtain⟨t,u,v,e⟩:=x;exact⟨t,u,v,k _ _ (.inl rfl) e⟩|dz ob u ih=>obtain⟨e,q⟩:=x;exact⟨k _ _ (.inl rfl) e,ih q⟩|fk ps=>have e:h.get? a=Δ {cls:=.none,data:=.fields ps}:=x;show h'.get? a=Δ {cls:=.none,data:=.fields ps};exact k a _ (.inl rfl) e
 |met f y=>have e:h.get? a=Δ (abD (.ref f) (.ref y)):=x;show h'.get? a=Δ (abD (.ref f) (.ref y));exact k a _ (.inl rfl) e|ext φ=>obtain⟨p,⟨o,e⟩,st⟩:=x;exact⟨st _ _ p λo q=>k _ _ (.inl rfl) q,⟨o,k _ _ (.inl rfl) e⟩,st⟩
theorem kA.lt(x:kA P w H h)(e:H a=Δ o):a < h.objs.size:=(x a o e).lt
theorem kA.fresh(x:kA P w H h)(e:h.objs.size<=a):H a=Θ:=by cases q:H a with|none=>rfl|some u=>exact absurd (Xx (x.lt q) e) (YX _)
theorem kA.kept(x:kA P w H h)(k:∀b u,h.get? b=Δ u->h'.get? b=Δ u):kA P w H h':=λa o e=>(x a o e).ng (λb u _ q=>k b u q) (λ_ q=>q) λ_ _ q=>q
theorem kA.laid(x:kA P w H h)(k:∀b u,h.get? b=Δ u->h'.get? b=Δ u)(hp:h.objs.size<=a)(new:bI P w (upd H a o) h' a o):kA P w (upd H a o) h':=λb u e=>by
 have hn:=x.fresh hp;by_cases hb:b=a;·subst hb;rw[aD] at e;cases e;exact new
 ·rw[ax hb] at e;exact(x b u e).ng (λc v _ q=>k c v q) (λc q=>by rw[ax (aO q hn)];exact q) λc xs q=>by rw[ax (aO q hn)];exact q
end
noncomputable def Rd(H:Hp)(a:Addr)(u:HO):Prop:=H a=Δ u\/∃o,H a=Δ (.dz o u)
theorem Rd.ok(r:Rd H a u)(x:kA P w H h):bI P w H h a u:=by
 rcases r with r|⟨o,r⟩;·exact x a u r
 ·obtain⟨_,q⟩:=x a _ r;exact q
noncomputable def O2:Option HO->Prop
 |some (.lst _)=>True|some (.dK _)=>True|some (.dT _)=>True|some (.set _ _)=>True|some (.ins _ _ _)=>True|some (.ext _)=>True|_=>False
section
variable{P:Yb}{w:World}{H:Hp}{h h':Heap}{x e:Addr}{o':HO}
theorem kA.write(ok:kA P w H h)(mu:O2 (H x))(he:e=x\/H e=Δ (.own x))(k:∀b u,b≠e->h.get? b=Δ u->h'.get? b=Δ u)(OA:∃u,h'.get? e=Δ u)
  (new:bI P w (upd H x o') h' x o'):kA P w (upd H x o') h':=λb u q=>by
 have O3:∀c y,H c=Δ (.own y)->c≠x:=λc y r z=>by subst z;rw[r] at mu;exact mu
 have TM:∀c xs,H c=Δ (.tup xs)->c≠x:=λc xs r z=>by subst z;rw[r] at mu;exact mu
 by_cases hb:b=x;·subst hb;rw[aD] at q;cases q;exact new
 ·rw[ax hb] at q;by_cases LA:b=e
  ·have q':H b=Δ (.own x):=by
    rcases he with z|z;·exact absurd (LA.trans z) hb
    ·rw[LA];exact z
   rw[q] at q';cases q';obtain⟨v,hv⟩:=OA;exact⟨v,by rw[LA];exact hv⟩
  ·refine(ok b u q).ng (λc v hc r=>k c v ?_ r) (λc r=>by rw[ax (O3 c b r)];exact r) λc xs r=>by rw[ax (TM c xs r)];exact r
   rcases hc with rfl|hc;·exact LA
   ·rintro rfl;rcases he with z|z;·exact O3 c b hc z
    ·rw[hc] at z;cases z;exact hb rfl
end
structure Un(fs ex:List Addr)(H H':Hp)(h h':Heap):Prop where
 keep:∀b o,h.get? b=Δ o->H b=Θ->b∉fs->b∉ex->h'.get? b=Δ o
 slot:∀b o,h.get? b=Δ o->H b=Θ->b∈fs->b∉ex->∃sl,h'.get? b=Δ {o with slots:=sl}
 free:∀b o,h.get? b=Δ o->H b=Θ->b∉ex->H' b=Θ
 there:∀b o,h.get? b=Δ o->b∉ex->∃o',h'.get? b=Δ o'
 so:∀b xs,H b=Δ (.tup xs)->H' b=Δ (.tup xs)
 oQ:∀b o u,H b=Δ (.dz o u)->H' b=Δ (.dz o u)
 qQ:∀b ps,H b=Δ (.fk ps)->∃more,H' b=Δ (.fk (ps++more))
section
variable{fs fs' ex ex':List Addr}{H H1 H2:Hp}{h h1 h2 h':Heap}{a x e:Addr}{o:HO}
theorem Un.any(u:Un fs ex H H1 h h1)(q:h.get? b=Δ ob)(n:H b=Θ)(hx:b∉ex):∃sl,h1.get? b=Δ {ob with slots:=sl}:=by
 by_cases hb:b∈fs;·exact u.slot b ob q n hb hx
 ·exact⟨ob.slots,u.keep b ob q n hb hx⟩
theorem Un.kept(k:∀b u,h.get? b=Δ u->h'.get? b=Δ u):Un fs ex H H h h':=
 ⟨λb ob q _ _ _=>k b ob q,λb ob q _ _ _=>⟨ob.slots,k b ob q⟩,λ_ _ _ n _=>n,λb ob q _=>⟨ob,k b ob q⟩,λ_ _ q=>q,λ_ _ _ q=>q,λ_ ps q=>⟨#[],by rw[q];simp⟩⟩
theorem Un.refl:Un fs ex H H h h:=Un.kept λ_ _ q=>q
theorem Un.laid(k:∀b u,h.get? b=Δ u->h'.get? b=Δ u)(hp:h.objs.size<=a)(hn:H a=Θ):Un fs ex H (upd H a o) h h' where
 keep:=λb u q _ _ _=>k b u q
 slot:=λb u q _ _ _=>⟨u.slots,k b u q⟩
 free:=λb u q n _=>by rw[ax (XD (Xx (Xl q) hp))];exact n
 there:=λb u q _=>⟨u,k b u q⟩
 so:=λb xs q=>by rw[ax (aO q hn)];exact q
 oQ:=λb u xs q=>by rw[ax (aO q hn)];exact q
 qQ:=λb ps q=>⟨#[],by rw[ax (aO q hn),q];simp⟩
theorem Un.write(mu:O2 (H x))(he:e=x\/H e=Δ (.own x))(k:∀b u,b≠e->h.get? b=Δ u->h'.get? b=Δ u)(OA:∃u,h'.get? e=Δ u):Un fs ex H (upd H x o) h h':=by
 have hx:∀b,H b=Θ->b≠x:=λb n z=>by subst z;rw[n] at mu;exact mu
 have hb:∀b,H b=Θ->b≠e:=λb n z=>by
  subst z;rcases he with r|r;·exact hx b n r
  ·rw[n] at r;cases r
 have hm:∀b u,H b=Δ u->¬O2 (Δ u)->b≠x:=λb u q nm z=>by subst z;rw[q] at mu;exact nm mu
 refine⟨λb u q n _ _=>k b u (hb b n) q,λb u q n _ _=>⟨u.slots,k b u (hb b n) q⟩,λb u q n _=>by rw[ax (hx b n)];exact n,λb u q _=>?_,
  λb xs q=>by rw[ax (hm b _ q λz=>z)];exact q,λb u xs q=>by rw[ax (hm b _ q λz=>z)];exact q,λb ps q=>⟨#[],by rw[ax (hm b _ q λz=>z),q];simp⟩⟩
 by_cases LA:b=e;·subst LA;exact OA
 ·exact⟨u,k b u LA q⟩
end
noncomputable def qR(h:Heap)(H:Hp):List Addr:=(W7 h.objs.size).filter λa=>(H a).isSome
def qS(h:Heap)(H:Hp):Heap:=PySem.W.hideAll h (qR h H)
theorem vP h H:(qS h H).objs.size=h.objs.size:=PySem.W.hideAll_size _ _
theorem yM(e:h.get? b=Δ o)(n:H b=Θ):(qS h H).get? b=Δ o:=
 PySem.W.hideAll_get _ e λhm=>by have q:(H b).isSome=Λ:=(Yl.mp hm).2;rw[n] at q;simp at q
theorem Cj(e:(qS h H).get? b=Δ o):h.get? b=Δ o/\H b=Θ:=by have e':h.get? b=Δ o:=PySem.W.of_hideAll (qR h H) e;refine⟨e',?_⟩;cases q:H b with|none=>rfl|some x=>have hm:b∈qR h H:=Yl.mpr ⟨Ym.mpr (Xl e'),by simp[q]⟩;have z:(qS h H).get? b=Θ:=PySem.W.hideAll_none (qR h H) hm;rw[z] at e;cases e
structure Mod(K:Xf)(mg:Str->Option Value)(base:Heap):Prop where
 LB:K.In base
 glob:base.Ns Xk mg
 blt:∃mb,base.Ns ab7 mb/\∀x:Str,x≠"__name__"->mb x=aap x
 nolimit:base.NoLimit
structure Cx where
 prog:Yb
 w:World
 K:Xf
 mg:Str->Option Value
 base:Heap
 A:YF
 N:List Str
 gO:Xp
 yN:Hp
 env:Env
 outer:List Env
 stack:List Env
 ex:List Addr
 fn:Str->Bool
 calm:Bool
 pn:List (Addr×Obj)
 xe:Value->Xp->Prop
def jF(l:List Env):List Addr:=l.filterMap (·.frame)
abbrev Cx.fs(X:Cx):List Addr:=jF X.outer
def O4(sc:Scope)(x:Str):Prop:=sc.names.lookup x=Δ .local\/sc.names.lookup x=Δ .cell\/sc.names.lookup x=Δ .free
def Loc(sc:Scope)(x:Str):Prop:=sc.names.lookup x=Δ .local\/sc.names.lookup x=Δ .cell
def Look(env:Env)(h:Heap)(m:Str->Option Value)(x:Str)(u:Value):Prop:=
 (env.kindOf x=Δ .local/\m x=Δ u)\/((env.kindOf x=Δ .cell\/env.kindOf x=Δ .free)/\∃c,env.cells.lookup x=Δ c/\h.IsCell c (Δ u))
structure Cx.Ok(X:Cx):Prop where
 mod:Mod X.K X.mg X.base
 kind:X.env.scope.kind=.function
 glob:X.env.globals=Xk
 blt:X.env.builtins=ab7
 above:X.gO.heap.objs.size<=X.env.locals
 inj:∀x y c,X.env.cells.lookup x=Δ c->X.env.cells.lookup y=Δ c->x=y
 has:∀x,(X.env.kindOf x=Δ .cell\/X.env.kindOf x=Δ .free)->∃c,X.env.cells.lookup x=Δ c
 LC:∀x c,X.fn x=Λ->X.env.cells.lookup x=Δ c->X.gO.heap.objs.size<=c
 hd:X.calm=Λ->X.A.handled=Θ
 frames:X.A.frames=Δ X.stack
 O5:X.stack=X.outer\/(X.stack=X.env::X.outer/\X.env.frame=Δ X.env.locals)
 TN:∀b∈X.ex,b≠X.env.locals/\∀x c,X.env.cells.lookup x=Δ c->c≠b
 bs:∀b o,X.base.get? b=Δ o->X.gO.heap.get? b=Δ o/\X.yN b=Θ
 EJ:X.base.objs.size<=X.gO.heap.objs.size
 Dp:∀b o,X.base.get? b=Δ o->b∉X.ex
 ES:∀b∈X.ex,b∉X.fs
 mo:X.gO.heap.FunFrames X.base X.outer
 HQ:∀b∈X.fs,X.yN b=Θ
structure Inv(X:Cx)(η:List (Addr×Obj))(σ:List (Option V))(H:Hp)(s:Xp):Prop where
 ok:X.Ok
 os:s.os=X.gO.os
 bare:abK s.gens
 base:Un X.fs X.ex X.yN H X.gO.heap s.heap
 loc:∃m,s.heap.Ns X.env.locals m/\∀(i:Nat) (x:Str) (v:V),X.N[i]?=Δ x->σ[i]?=Δ (Δ v)->O4 X.env.scope x->∃u,RelV v u/\Look X.env s.heap m x u
 cell:∀x c,X.env.cells.lookup x=Δ c->∃v,s.heap.IsCell c v
 free:H X.env.locals=Θ
 kf:∀x c,X.env.cells.lookup x=Δ c->H c=Θ
 pin:∀p∈X.pn++η,s.heap.get? p.1=Δ p.2/\H p.1=Θ/\p.1≠X.env.locals/\p.1∉X.fs/\∀v,p.2.data≠.cell v
 aL:kA X.prog X.w H s.heap
 len:σ.length=X.N.length
section
variable{X:Cx}{η:List (Addr×Obj)}{σ:List (Option V)}{H H':Hp}{s:Xp}{h':Heap}
theorem Cx.Ok.HR(ok:X.Ok)(e:X.base.get? b=Δ o):b∉X.fs:=λhb=>by have:=(ok.mo.mem hb).1;rw[e] at this;cases this
theorem Inv.bs(I:Inv X η σ H s):∀b o,X.base.get? b=Δ o->s.heap.get? b=Δ o/\H b=Θ:=λb o e=>⟨I.base.keep b o (I.ok.bs b o e).1 (I.ok.bs b o e).2 (I.ok.HR e) (I.ok.Dp b o e),I.base.free b o (I.ok.bs b o e).1 (I.ok.bs b o e).2 (I.ok.Dp b o e)⟩
theorem Inv.bk(I:Inv X η σ H s):∀b o,X.base.get? b=Δ o->s.heap.get? b=Δ o:=λb o e=>(I.bs b o e).1
theorem Inv.mod(I:Inv X η σ H s):Mod X.K X.mg X.base:=I.ok.mod
theorem Inv.nh(I:Inv X η σ H s):X.K.In s.heap:=I.ok.mod.LB.keeps I.bk
theorem Inv.lt(I:Inv X η σ H s):X.env.locals < s.heap.objs.size:=let ⟨_,hn,_⟩:=I.loc;hn.lt
theorem Inv.sz(I:Inv X η σ H s):X.gO.heap.objs.size<=s.heap.objs.size:=XW I.ok.above (aar I.lt)
theorem Inv.TQ(I:Inv X η σ H s)(h:s.heap.objs.size<=a):a∉X.fs:=λhb=>by obtain⟨_,o,ho,_⟩:=I.ok.mo.mem hb;exact absurd (Xx (Xl ho) (XW I.sz h)) (YX _)
theorem Inv.Kx(I:Inv X η σ H s):∀x c,X.env.cells.lookup x=Δ c->c≠X.env.locals:=λx c e z=>by obtain⟨v,o,ho,hd⟩:=I.cell x c e;obtain⟨m,⟨o',es,ep,oR,Ck,_⟩,_⟩:=I.loc;rw[z,oR] at ho;cases ho;rw[Ck] at hd;cases hd
theorem Inv.mo(I:Inv X η σ H s):s.heap.FunFrames X.base X.outer:=by
 have all:∀(l:List Env),(∀b∈jF l,b∈X.fs)->X.gO.heap.FunFrames X.base l->s.heap.FunFrames X.base l:=by intro l;induction l with|nil=>intro _ _;trivial|cons env r ih=>intro hs hl;obtain⟨hk,⟨L,o,hf,hn,ho,hd⟩,hr⟩:=hl;have hL:L∈X.fs:=hs L (by unfold jF;rw[Y4,hf];exact W8);obtain⟨sl,e⟩:=I.base.slot L o ho (I.ok.HQ L hL) hL λz=>I.ok.ES L z hL;exact⟨hk,⟨L,_,hf,hn,e,hd⟩,ih (λb hb=>hs b (by unfold jF;rw[Y4,hf];exact W5 _ hb)) hr⟩
 exact all X.outer (λ_ hb=>hb) I.ok.mo
theorem Inv.stack(I:Inv X η σ H s):s.heap.FunFrames X.base X.stack:=by
 rcases I.ok.O5 with e|⟨e,hf⟩;·rw[e];exact I.mo
 ·rw[e];obtain⟨m,hn,_⟩:=I.loc;refine .cons (by rw[I.ok.kind];decide) hf hn ?_ I.mo;exact Heap.get?_none_of_le (XW I.ok.EJ I.ok.above)
theorem Inv.oS(I:Inv X η σ H s):∀b∈jF X.stack,b∈X.env.locals::X.fs:=λb hb=>by
 rcases I.ok.O5 with e|⟨e,hf⟩;·rw[e] at hb;exact W5 _ hb
 ·rw[e] at hb;unfold jF at hb;rw[Y4,hf] at hb;exact hb
theorem Inv.ni(I:Inv X η σ H s):∀b∈jF X.stack,H b=Θ:=λb hb=>by
 rcases Zy.mp (I.oS b hb) with e|hb;·rw[e];exact I.free
 ·obtain⟨_,o,ho,_⟩:=I.ok.mo.mem hb;exact I.base.free b o ho (I.ok.HQ b hb) λz=>I.ok.ES b z hb
theorem Inv.step{ch:List Addr}(I:Inv X η σ H s)(HB:∀b∈ch,(b∈X.ex\/X.gO.heap.objs.size<=b)/\b≠X.env.locals/\(∀x c,X.env.cells.lookup x=Δ c->c≠b)/\∀p∈X.pn++η,p.1≠b)(keep:∀b o,b≠X.env.locals->b∉X.fs->b∉ch->s.heap.get? b=Δ o->H b=Θ->h'.get? b=Δ o)(slot:∀b o,b≠X.env.locals->b∈X.fs->b∉ch->s.heap.get? b=Δ o->H b=Θ->∃sl,h'.get? b=Δ {o with slots:=sl})(free:∀b o,b∉ch->s.heap.get? b=Δ o->H b=Θ->H' b=Θ)(there:∀b o,b∉ch->s.heap.get? b=Δ o->∃o',h'.get? b=Δ o')(so:∀b xs,H b=Δ (.tup xs)->H' b=Δ (.tup xs))(oQ:∀b o u,H b=Δ (.dz o u)->H' b=Δ (.dz o u))(qQ:∀b ps,H b=Δ (.fk ps)->∃more,H' b=Δ (.fk (ps++more)))(ns:∀m,s.heap.Ns X.env.locals m->h'.Ns X.env.locals m)(aL:kA X.prog X.w H' h')(hg:abK g'):
  Inv X η σ H' {s with heap:=h',gens:=g',drawn:=d',toks:=t'}:=by
 have neL:∀b o,X.gO.heap.get? b=Δ o->b≠X.env.locals:=λb o e=>XD (Xx (Xl e) I.ok.above);have Sm:∀b o,X.gO.heap.get? b=Δ o->b∉X.ex->b∉ch:=λb o e hx hb=>by
  rcases(HB b hb).1 with z|z;·exact hx z
  ·exact absurd (Xx (Xl e) z) (YX _)
 have cellK:∀x c,X.env.cells.lookup x=Δ c->∀v,s.heap.IsCell c v->h'.IsCell c v:=λx c e v ⟨o,ho,hd⟩=>by
  have O6:c∉ch:=λz=>(HB c z).2.2.1 x c e rfl;by_cases hc:c∈X.fs;·obtain⟨sl,q⟩:=slot c o (I.Kx x c e) hc O6 ho (I.kf x c e);exact⟨_,q,hd⟩
  ·exact⟨o,keep c o (I.Kx x c e) hc O6 ho (I.kf x c e),hd⟩
 refine⟨I.ok,I.os,hg,⟨λb o e n hb hx=>?_,λb o e n hb hx=>?_,λb o e n hx=>?_,λb o e hx=>?_,λb xs e=>so b xs (I.base.so b xs e),λb o xs e=>oQ b o xs (I.base.oQ b o xs e),λb ps e=>?_⟩,?_,λx c e=>?_,?_,λx c e=>?_,λp hp=>?_,aL,I.len⟩;·exact keep b o (neL b o e) hb (Sm b o e hx) (I.base.keep b o e n hb hx) (I.base.free b o e n hx)
 ·obtain⟨sl,e1⟩:=I.base.slot b o e n hb hx;obtain⟨sl',e2⟩:=slot b _ (neL b o e) hb (Sm b o e hx) e1 (I.base.free b o e n hx);exact⟨sl',e2⟩
 ·obtain⟨o',e1⟩:=I.base.there b o e hx;exact free b o' (Sm b o e hx) e1 (I.base.free b o e n hx)
 ·obtain⟨o',e1⟩:=I.base.there b o e hx;exact there b o' (Sm b o e hx) e1
 ·obtain⟨m1,e1⟩:=I.base.qQ b ps e;obtain⟨m2,e2⟩:=qQ b _ e1;exact⟨m1++m2,by rw[e2,Array.append_assoc]⟩
 ·obtain⟨m,hn,hl⟩:=I.loc;refine⟨m,ns m hn,λi x v e1 e2 e3=>?_⟩;obtain⟨u,r,l⟩:=hl i x v e1 e2 e3;refine⟨u,r,?_⟩;rcases l with l|⟨k,c,e,z⟩;·exact .inl l
  ·exact .inr ⟨k,c,e,cellK x c e _ z⟩
 ·obtain⟨v,z⟩:=I.cell x c e;exact⟨v,cellK x c e v z⟩
 ·obtain⟨m,⟨o,_,_,ho,_⟩,_⟩:=I.loc;exact free _ o (λz=>(HB _ z).2.1 rfl) ho I.free
 ·obtain⟨v,o,ho,hd⟩:=I.cell x c e;exact free c o (λz=>(HB c z).2.2.1 x c e rfl) ho (I.kf x c e)
 ·obtain⟨e,n,ne,nf,d⟩:=I.pin p hp;have O6:p.1∉ch:=λz=>(HB p.1 z).2.2.2 p hp rfl;exact⟨keep p.1 p.2 ne nf O6 e n,free p.1 p.2 O6 e n,ne,nf,d⟩
theorem Inv.un(I:Inv X η σ H s)(u:Un X.fs [] H H' s.heap h')(aL:kA X.prog X.w H' h'):Inv X η σ H' {s with heap:=h',toks:=t'}:=by obtain⟨m,⟨o,es,ep,ho,r⟩,_⟩:=id I.loc;obtain⟨sl,hL⟩:=u.any ho I.free (by simp);exact I.step (g':=s.gens) (d':=s.drawn) (ch:=[]) (λ_ z=>nomatch z) (λb o _ hb _ e n=>u.keep b o e n hb (by simp)) (λb o _ hb _ e n=>u.slot b o e n hb (by simp)) (λb o _ e n=>u.free b o e n (by simp)) (λb o _ e=>u.there b o e (by simp)) u.so u.oQ u.qQ (λm' hm=>by obtain⟨o',Sn,So,oR,r'⟩:=hm;rw[ho] at oR;cases oR;exact⟨_,Sn,So,hL,r'⟩) aL I.bare
theorem Inv.call(I:Inv X η σ H s)(u:Un (jF X.stack) ch H H' s.heap h')(aL:kA X.prog X.w H' h')(hg:abK g')(HB:∀b∈ch,(b∈X.ex\/X.gO.heap.objs.size<=b)/\b≠X.env.locals/\(∀x c,X.env.cells.lookup x=Δ c->c≠b)/\∀p∈X.pn++η,p.1≠b):
  Inv X η σ H' {s with heap:=h',gens:=g',drawn:=d',toks:=t'}:=by
 obtain⟨m,⟨o,es,ep,ho,r⟩,_⟩:=id I.loc;obtain⟨sl,hL⟩:=u.any ho I.free λz=>(HB _ z).2.1 rfl;exact I.step (ch:=ch) HB (λb o hL hb hc e n=>u.keep b o e n (λz=>(Zy.mp (I.oS b z)).elim hL hb) hc) (λb o _ _ hc e n=>u.any e n hc) (λb o hc e n=>u.free b o e n hc) (λb o hc e=>u.there b o e hc) u.so u.oQ u.qQ (λm' hm=>by obtain⟨o',Sn,So,oR,r'⟩:=hm;rw[ho] at oR;cases oR;exact⟨_,Sn,So,hL,r'⟩) aL hg
theorem Inv.turned(I:Inv X η σ H s)(k:∀b o,b≠it->s.heap.get? b=Δ o->h'.get? b=Δ o)(hn:H it=Θ)(hL:it≠X.env.locals)(h1:it∈X.ex\/X.gO.heap.objs.size<=it)(h2:∀x c,X.env.cells.lookup x=Δ c->c≠it)(h3:∀p∈X.pn++η,p.1≠it):Inv X η σ H {s with heap:=h',toks:=t'}:=by
 have ET:∀b u,H b=Δ u->b≠it:=λb u e z=>by rw[z,hn] at e;cases e
 refine I.step (g':=s.gens) (d':=s.drawn) (ch:=[it]) (λb hb=>?_) (λb o _ _ hc e _=>k b o (λz=>hc (by simp[z])) e) (λb o _ _ hc e _=>⟨o.slots,k b o (λz=>hc (by simp[z])) e⟩) (λ_ _ _ _ n=>n)
  (λb o hc e=>⟨o,k b o (λz=>hc (by simp[z])) e⟩) (λ_ _ e=>e) (λ_ _ _ e=>e) (λb ps e=>⟨#[],by rw[e];simp⟩) (λm hm=>?_) (λb u e=>?_) I.bare
 ·have e:b=it:=by simpa using hb
  subst e;exact⟨h1,hL,h2,h3⟩
 ·obtain⟨o,es,ep,ho,r⟩:=hm;exact⟨o,es,ep,k _ o (Yc hL) ho,r⟩
 ·refine(I.aL b u e).ng (λc v hc q=>k c v ?_ q) (λ_ q=>q) λ_ _ q=>q;rcases hc with z|z;·rw[z];exact ET b u e
  ·exact ET c _ z
theorem Inv.tok(I:Inv X η σ H s)t:Inv X η σ H {s with toks:=t}:=I.un (h':=s.heap) (t':=t) Un.refl I.aL
theorem Inv.kept(I:Inv X η σ H s)(k:∀b u,s.heap.get? b=Δ u->h'.get? b=Δ u):Inv X η σ H {s with heap:=h',toks:=t'}:=I.un (Un.kept k) (I.aL.kept k)
theorem Inv.laid(I:Inv X η σ H s)(k:∀b u,s.heap.get? b=Δ u->h'.get? b=Δ u)(hp:s.heap.objs.size<=a)(new:bI X.prog X.w (upd H a o) h' a o):
  Inv X η σ (upd H a o) {s with heap:=h',toks:=t'}:=I.un (Un.laid k hp (I.aL.fresh hp)) (I.aL.laid k hp new)
theorem Inv.write(I:Inv X η σ H s)(mu:O2 (H x))(he:e=x\/H e=Δ (.own x))(k:∀b u,b≠e->s.heap.get? b=Δ u->h'.get? b=Δ u)(OA:∃u,h'.get? e=Δ u)(new:bI X.prog X.w (upd H x o) h' x o):Inv X η σ (upd H x o) {s with heap:=h',toks:=t'}:=I.un (Un.write mu he k OA) (I.aL.write mu he k OA new)
theorem Inv.Cm(I:Inv X η σ H s)(h:∀p∈O7,s.heap.get? p.1=Δ p.2/\H p.1=Θ/\p.1≠X.env.locals/\p.1∉X.fs/\∀v,p.2.data≠.cell v):Inv X O7 σ H s:=
 ⟨I.ok,I.os,I.bare,I.base,I.loc,I.cell,I.free,I.kf,λp hp=>(aaA.mp hp).elim (λz=>I.pin p (Yo _ z)) (h p),I.aL,I.len⟩
theorem kB{N:List Str}(hN:N.Nodup){i j:Nat}(a:N[i]?=Δ x)(b:N[j]?=Δ x):i=j:=by obtain⟨h1,e1⟩:=qqz a;obtain⟨h2,e2⟩:=qqz b;exact(List.getElem_inj hN).mp (e1.trans e2.symm)
theorem Dq(I:Inv X η σ H s)(hN:X.N.Nodup)(hi:X.N[i]?=Δ x)(hx:Loc X.env.scope x)(r:RelV v u)(h:∀s',Inv X η (σ.set i (Δ v)) H s'->(∃a,ZU a s.heap s'.heap/\(a=X.env.locals\/X.env.cells.lookup x=Δ a))->Q () s')(hf:X.fn x=Λ\/X.env.scope.names.lookup x=Δ .local:=by first|exact .inl rfl|exact .inr rfl|assumption):wpAny M A (storeName X.env x u) Q E s:=by
 obtain⟨m,hn,hl⟩:=id I.loc;have TR:(X.env.scope.kind==.class||(X.env.scope.kind==.module&&X.env.locals !=X.env.globals))=Ξ:=by rw[I.ok.kind];rfl
 have O8:i < σ.length:=by rw[I.len];exact(qqz hi).1
 have Kx:=I.Kx;have tracked:∀{a:Addr} {h':Heap},(∃o,s.heap.get? a=Δ o/\H a=Θ)->ZU a s.heap h'->kA X.prog X.w H h':=λ{a h'} ha hs b ob e=>by
  obtain⟨_,_,yO⟩:=ha;refine(I.aL b ob e).ng (λc w' hc q=>(hs.2 c ?_).trans q) (λ_ q=>q) λ_ _ q=>q;rintro rfl;rcases hc with rfl|hc;·rw[yO] at e;cases e
  ·rw[yO] at hc;cases hc
 rcases hx with hk|hk
 ·refine wpAny_storeName_local hk hn (λh' EU hs=>?_) TR;obtain⟨oL,_,_,hoL,_⟩:=id hn;refine h _ ⟨I.ok,I.os,I.bare,⟨λb o e n hb hx=>?_,λb o e n hb hx=>?_,I.base.free,λb o e hx=>?_,I.base.so,I.base.oQ,I.base.qQ⟩,⟨_,EU,λj y v' e1 e2 e3=>?_⟩,λy c e=>?_,I.free,I.kf,λp hp=>?_,tracked ⟨oL,hoL,I.free⟩ hs,by simpa using I.len⟩ ⟨_,hs,.inl rfl⟩;·exact(hs.2 b (XD (Xx (Xl e) I.ok.above))).trans (I.base.keep b o e n hb hx)
  ·obtain⟨sl,e1⟩:=I.base.slot b o e n hb hx;exact⟨sl,(hs.2 b (XD (Xx (Xl e) I.ok.above))).trans e1⟩
  ·obtain⟨o',e1⟩:=I.base.there b o e hx;exact⟨o',(hs.2 b (XD (Xx (Xl e) I.ok.above))).trans e1⟩
  ·by_cases hj:j=i;·subst hj;rw[hi] at e1;cases e1;rw[Xy O8] at e2;cases e2;exact⟨u,r,.inl ⟨hk,by simp⟩⟩
   ·rw[W9 (Yc hj)] at e2;obtain⟨u',r',q⟩:=hl j y v' e1 e2 e3;refine⟨u',r',?_⟩;rcases q with ⟨k,e⟩|⟨k,c,e,z⟩
    ·refine .inl ⟨k,?_⟩;have:y≠x:=λe=>hj (kB hN e1 (e▸hi));simp[this,e]
    ·exact .inr ⟨k,c,e,z.sameBut hs (Kx y c e)⟩
  ·obtain⟨w',z⟩:=I.cell y c e;exact⟨w',z.sameBut hs (Kx y c e)⟩
  ·obtain⟨e,n,ne,nf,d⟩:=I.pin p hp;exact⟨(hs.2 p.1 ne).trans e,n,ne,nf,d⟩
 ·have EK:X.fn x=Λ:=by
   rcases hf with z|z;·exact z
   ·rw[z] at hk;cases hk
  obtain⟨c,hc⟩:=I.ok.has x (.inl hk);obtain⟨w',z⟩:=I.cell x c hc;refine wpAny_storeName_cell I.ok.kind hk hc z (λh' Cn hs=>?_);obtain⟨oc,LD,TU⟩:=id z;refine h {s with heap:=h'} ⟨I.ok,I.os,I.bare,⟨λb o e n hb hx=>?_,λb o e n hb hx=>?_,I.base.free,λb o e hx=>?_,I.base.so,I.base.oQ,I.base.qQ⟩,⟨m,hn.sameBut hs (Yc (Kx x c hc)),λj y v' e1 e2 e3=>?_⟩,λy c' e=>?_,I.free,I.kf,λp hp=>?_,tracked ⟨oc,LD,I.kf x c hc⟩ hs,by simpa using I.len⟩ ⟨c,hs,.inr hc⟩;·exact(hs.2 b (XD (Xx (Xl e) (I.ok.LC x c EK hc)))).trans (I.base.keep b o e n hb hx)
  ·obtain⟨sl,e1⟩:=I.base.slot b o e n hb hx;exact⟨sl,(hs.2 b (XD (Xx (Xl e) (I.ok.LC x c EK hc)))).trans e1⟩
  ·obtain⟨o',e1⟩:=I.base.there b o e hx;exact⟨o',(hs.2 b (XD (Xx (Xl e) (I.ok.LC x c EK hc)))).trans e1⟩
  ·by_cases hj:j=i;·subst hj;rw[hi] at e1;cases e1;rw[Xy O8] at e2;cases e2;exact⟨u,r,.inr ⟨.inl hk,c,hc,Cn⟩⟩
   ·rw[W9 (Yc hj)] at e2;obtain⟨u',r',q⟩:=hl j y v' e1 e2 e3;refine⟨u',r',?_⟩;rcases q with q|⟨k,c',e,z'⟩;·exact .inl q
    ·refine .inr ⟨k,c',e,z'.sameBut hs ?_⟩;rintro rfl;exact hj (kB hN e1 (I.ok.inj _ _ _ e hc▸hi))
  ·by_cases EL:c'=c;·subst EL;exact⟨_,Cn⟩
   ·obtain⟨w2,z2⟩:=I.cell y c' e;exact⟨w2,z2.sameBut hs EL⟩
  ·obtain⟨e,n,ne,nf,d⟩:=I.pin p hp;refine⟨(hs.2 p.1 ?_).trans e,n,ne,nf,d⟩;intro q;rw[q,LD] at e;have q':oc=p.2:=XJ e;exact d w' (by rw[<-q'];exact TU)
theorem nj(I:Inv X η σ H s)(hN:X.N.Nodup)(hi:X.N[i]?=Δ x)(hx:Loc X.env.scope x)(r:RelV v u)(h:∀s',Inv X η (σ.set i (Δ v)) H s'->Q () s')(hf:X.fn x=Λ\/X.env.scope.names.lookup x=Δ .local:=by first|exact .inl rfl|exact .inr rfl|assumption):wpAny M A (storeName X.env x u) Q E s:=
 Dq I hN hi hx r (λs' I' _=>h s' I') hf
theorem Inv.EV(I:Inv X η σ H s)(ho:s'.os=s.os)(u:Un (jF X.stack) ch H H' s.heap s'.heap)(aL:kA X.prog X.w H' s'.heap)(hg:abK s'.gens)(HB:∀b∈ch,(b∈X.ex\/X.gO.heap.objs.size<=b)/\b≠X.env.locals/\(∀x c,X.env.cells.lookup x=Δ c->c≠b)/\∀p∈X.pn++η,p.1≠b):Inv X η σ H' s':=by obtain⟨h',g',d',t',o'⟩:=s';have e:o'=s.os:=ho;subst e;exact I.call (g':=g') (t':=t') (d':=d') u aL hg HB
end
abbrev XK:=Value->Option Addr->Hp->Prop
abbrev St:=List (Option V)
abbrev VK:=V->Hp->Prop
abbrev TE:=St->Hp->VK->Prop
abbrev TT:=St->Hp->(Bool->Hp->Prop)->Prop
abbrev TA:=St->Hp->(List V->Hp->Prop)->Prop
structure Ends where
 nx:St->Hp->Prop
 rt:VK
 bk:St->Hp->Prop:=λ_ _=>False
 ct:St->Hp->Prop:=λ_ _=>False
abbrev TS:=Ends->St->Hp->Prop
inductive EP (X:Cx) (η:List (Addr×Obj)) (σ:St) (Q:VK) (u:Value) (s':Xp):Prop
 |mk (v:V) (H':Hp) (a:Inv X η σ H' s') (b:RelV v u) (c:Q v H'):EP X η σ Q u s'
inductive TP (X:Cx) (η:List (Addr×Obj)) (σ:St) (Q:Bool->Hp->Prop) (b:Bool) (s':Xp):Prop
 |mk (H':Hp) (a:Inv X η σ H' s') (c:Q b H'):TP X η σ Q b s'
inductive AP (X:Cx) (η:List (Addr×Obj)) (σ:St) (Q:List V->Hp->Prop) (us:List Value) (s':Xp):Prop
 |mk (vs:List V) (H':Hp) (a:Inv X η σ H' s') (b:aS vs us) (c:Q vs H'):AP X η σ Q us s'
def SP(X:Cx)(η:List (Addr×Obj))(D:Ends)(f:Flow)(s':Xp):Prop:=
 match f with|.next=>∃cX H',Inv X η cX H' s'/\D.nx cX H'|.brk=>∃cX H',Inv X η cX H' s'/\D.bk cX H'|.cont=>∃cX H',Inv X η cX H' s'/\D.ct cX H'|.ret u=>∃v cX H',Inv X η cX H' s'/\RelV v u/\D.rt v H'
noncomputable def PE(X:Cx)(e:Expr)(t:TE):Prop:=
 ∀(η:List (Addr×Obj)) (s:Xp) (σ:St) (H:Hp) (Q:VK),Inv X η σ H s->t σ H Q->wpAny (model X.prog X.w) X.A (eval e X.env) (EP X η σ Q) X.xe s
noncomputable def PT(X:Cx)(e:Expr)(t:TT):Prop:=
 ∀(η:List (Addr×Obj)) (s:Xp) (σ:St) (H:Hp) (Q:Bool->Hp->Prop),Inv X η σ H s->t σ H Q->wpAny (model X.prog X.w) X.A (acL e X.env (eval e X.env)) (TP X η σ Q) X.xe s
noncomputable def PW(X:Cx)(e:Expr)(t:TT):Prop:=
 ∀(whole:Sem Value) (η:List (Addr×Obj)) (s:Xp) (σ:St) (H:Hp) (Q:Bool->Hp->Prop),Inv X η σ H s->t σ H Q->wpAny (model X.prog X.w) X.A (acL e X.env whole) (TP X η σ Q) X.xe s
theorem PW.pt(h:PW X e t):PT X e t:=h _
noncomputable def PA(X:Cx)(es:List Expr)(t:TA):Prop:=
 ∀(pos:Pos) (η:List (Addr×Obj)) (s:Xp) (σ:St) (H:Hp) (Q:List V->Hp->Prop),Inv X η σ H s->t σ H Q->wpAny (model X.prog X.w) X.A (spliced (Zk pos (XG es X.env))) (AP X η σ Q) X.xe s
def PS(X:Cx)(st:Stmt)(t:TS):Prop:=
 ∀(η:List (Addr×Obj)) (s:Xp) (σ:St) (H:Hp) (D:Ends),Inv X η σ H s->t D σ H->wpAny (model X.prog X.w) X.A (exec st X.env) (SP X η D) X.xe s
def mq(X:Cx)(st:List Stmt)(t:TS):Prop:=
 ∀(η:List (Addr×Obj)) (s:Xp) (σ:St) (H:Hp) (D:Ends),Inv X η σ H s->t D σ H->wpAny (model X.prog X.w) X.A (execs st X.env) (SP X η D) X.xe s
theorem bR(h:wpAny M A t Q E s)(hQ:∀a s,Q a s->Q' a s):wpAny M A t Q' E s:=YS h hQ λ_ _ x=>x
section
variable{X:Cx}
theorem bin(ha:PE X a ta)(hb:PE X b tb){R:V->V->Hp->Prop}(I:Inv X η σ H s)(h:ta σ H λx H1=>tb σ H1 λy H2=>R x y H2){α:Type}{Q:α->Xp->Prop}{f:Value->Value->Sem α}(hf:∀v u s2 x y H2,Inv X η σ H2 s2->RelV x v->RelV y u->R x y H2->wpAny (model X.prog X.w) X.A (f v u) Q X.xe s2):
  wpAny (model X.prog X.w) X.A (eval a X.env) (λv bA=>wpAny (model X.prog X.w) X.A (eval b X.env) (λu vd=>wpAny (model X.prog X.w) X.A (f v u) Q X.xe vd) X.xe bA) X.xe s:=by
 refine bR (ha η s σ H _ I h) λv s1 ⟨x,H1,I1,r1,q1⟩=>?_;refine bR (hb η s1 σ H1 _ I1 q1) λu s2 ⟨y,H2,I2,r2,q2⟩=>?_;exact hf v u s2 x y H2 I2 r1 r2 q2
def TV(i:Nat):TE:=λσ H Q=>∃v,σ[i]?=Δ (Δ v)/\Q v H
def tC(v:V):TE:=λ_ H Q=>Q v H
theorem A3(hN:X.N[i]?=Δ x)(hv:O4 X.env.scope x)(hd:(x==("__debug__":Str))=Ξ:=by decide)(qf:(x==("__classdict__":Str))=Ξ:=by decide):PE X (.Name x pos) (TV i):=by
 intro η s σ H Q I h;obtain⟨v,e,h⟩:=h;obtain⟨m,hn,hl⟩:=I.loc;obtain⟨u,r,l⟩:=hl i x v hN e hv;have fin:EP X η σ Q u s:=⟨v,H,I,r,h⟩;rcases l with ⟨hk,hm⟩|⟨hk,c,hc,nk⟩
 ·exact acS (wpAny_loadName_local I.ok.kind hk hn hm fin) hd
 ·rcases hk with hk|hk;·exact acS (wpAny_loadName_cell I.ok.kind hk hc nk fin) hd
  ·exact acS (wpAny_loadName_free I.ok.kind hk hc nk fin qf) hd
theorem A4{i j pos}:PE X (.Constant (.int i) j pos) (tC (.int i)):=λ_ _ _ H _ I h=>wpAny_Constant_int ⟨.int i,H,I.tok _,⟨_,rfl⟩,h⟩
theorem Ky{b j pos}:PE X (.Constant (.bool b) j pos) (tC (.bl b)):=λ_ _ _ H _ I h=>Constant_bool ⟨.bl b,H,I,rfl,h⟩
theorem EW{j pos}:PE X (.Constant .none j pos) (tC .bu):=λ_ _ _ H _ I h=>Constant_none ⟨.bu,H,I,rfl,h⟩
theorem EX{x j pos}:PE X (.Constant (.str x) j pos) (tC (.str x)):=λ_ _ _ H _ I h=>Calls.Constant_str ⟨.str x,H,I.tok _,⟨_,rfl⟩,h⟩
def Gl(X:Cx)(x:Str):Prop:=X.env.kindOf x=Δ .globalImplicit
theorem nq(I:Inv X η σ H s)(hg:Gl X x)(hm:X.mg x=Δ u)(h:Q u s)(hd:(x==("__debug__":Str))=Ξ:=by decide):wpAny (model X.prog X.w) X.A (eval (.Name x pos) X.env) Q E s:=
 Calls.Name_function_global I.ok.kind hg (Calls.loadGlobal_global (by rw[I.ok.glob];exact I.mod.glob.keeps I.bk) hm h) hd
theorem jG(I:Inv X η σ H s)(hg:Gl X x)(hm:X.mg x=Θ)(hv:aap x=Δ u)(h:Q u s)(hn:x≠"__name__":=by decide)(hd:(x==("__debug__":Str))=Ξ:=by decide):wpAny (model X.prog X.w) X.A (eval (.Name x pos) X.env) Q E s:=by obtain⟨mb,h1,h2⟩:=I.mod.blt;exact Calls.Name_function_global I.ok.kind hg (Calls.loadGlobal_builtin (by rw[I.ok.glob];exact I.mod.glob.keeps I.bk) hm (by rw[I.ok.blt];exact h1.keeps I.bk) ((h2 x hn).trans hv) h) hd
theorem HU(hg:Gl X x)(hm:X.mg x=Δ u)(r:RelV v u)(hd:(x==("__debug__":Str))=Ξ:=by decide):PE X (.Name x pos) (tC v):=
 λ_ _ _ H _ I h=>nq I hg hm ⟨v,H,I,r,h⟩ hd
theorem HV(hg:Gl X x)(hm:X.mg x=Θ)(hv:aap x=Δ u)(r:RelV v u)(hn:x≠"__name__":=by decide)(hd:(x==("__debug__":Str))=Ξ:=by decide):PE X (.Name x pos) (tC v):=
 λ_ _ _ H _ I h=>jG I hg hm hv ⟨v,H,I,r,h⟩ hn hd
variable{a b:Expr}{ta tb:TE}{pos:Pos}
variable{tA Sq:TT}{rest:List Expr}
noncomputable def TY(t u:TT):TT:=λσ H Q=>t σ H λc H1=>if c=Λ then u σ H1 Q else Q Ξ H1
noncomputable def tOr(t u:TT):TT:=λσ H Q=>t σ H λc H1=>if c=Λ then Q Λ H1 else u σ H1 Q
def TZ(t:TT):TT:=λσ H Q=>t σ H λc H1=>Q (!c) H1
theorem pw_and1(ha:PT X a tA):PW X (.BoolOp .And [a] pos) tA:=by intro wh η s σ H Q I h;refine isTrue_and (bR (ha η s σ H Q I h) λc s1 e=>?_);cases c with|true=>exact isTrue_and_nil e|false=>exact e
theorem pw_or1(ha:PT X a tA):PW X (.BoolOp .Or [a] pos) tA:=by intro wh η s σ H Q I h;refine isTrue_or (bR (ha η s σ H Q I h) λc s1 e=>?_);cases c with|false=>exact isTrue_or_nil e|true=>exact e
theorem pw_and(ha:PT X a tA)(hb:PW X (.BoolOp .And (b::rest) pos) Sq):PW X (.BoolOp .And (a::b::rest) pos) (TY tA Sq):=by intro wh η s σ H Q I h;refine isTrue_and (bR (ha η s σ H _ I h) λc s1 ⟨H1,I1,q1⟩=>?_);cases c with|true=>exact hb wh η s1 σ H1 Q I1 q1|false=>exact⟨H1,I1,q1⟩
theorem pw_or(ha:PT X a tA)(hb:PW X (.BoolOp .Or (b::rest) pos) Sq):PW X (.BoolOp .Or (a::b::rest) pos) (tOr tA Sq):=by intro wh η s σ H Q I h;refine isTrue_or (bR (ha η s σ H _ I h) λc s1 ⟨H1,I1,q1⟩=>?_);cases c with|true=>exact⟨H1,I1,q1⟩|false=>exact hb wh η s1 σ H1 Q I1 q1
theorem LF(ha:PT X a tA):PT X (.UnaryOp .Not a pos) (TZ tA):=by intro η s σ H Q I h;exact isTrue_not (bR (ha η s σ H (λc H1=>Q (!c) H1) I h) λc s1 ⟨H1,I1,q⟩=>⟨H1,I1,q⟩)
noncomputable def O9(ta tb:TE):TE:=λσ H Q=>ta σ H λx H1=>∃c,x=.bl c/\if c=Λ then tb σ H1 Q else Q (.bl Ξ) H1
noncomputable def T3(ta tb:TE):TE:=λσ H Q=>ta σ H λx H1=>∃c,x=.bl c/\if c=Λ then Q (.bl Λ) H1 else tb σ H1 Q
theorem EY{op}(h:PE X a t):PE X (.BoolOp op [a] pos) t:=λη s σ H Q I hw=>BoolOp_one (h η s σ H Q I hw)
theorem LG(ha:PE X a ta)(hb:PE X (.BoolOp .And (b::rest) pos) tb):PE X (.BoolOp .And (a::b::rest) pos) (O9 ta tb):=by intro η s σ H Q I h;refine BoolOp_and (bR (ha η s σ H _ I h) λv s1 ⟨x,H1,I1,r1,q1⟩=>?_);obtain⟨c,rfl,q1⟩:=q1;cases r1;refine YI ?_;cases c with|true=>exact hb η s1 σ H1 Q I1 q1|false=>exact⟨.bl Ξ,H1,I1,rfl,q1⟩
theorem Pa(ha:PE X a ta)(hb:PE X (.BoolOp .Or (b::rest) pos) tb):PE X (.BoolOp .Or (a::b::rest) pos) (T3 ta tb):=by intro η s σ H Q I h;refine BoolOp_or (bR (ha η s σ H _ I h) λv s1 ⟨x,H1,I1,r1,q1⟩=>?_);obtain⟨c,rfl,q1⟩:=q1;cases r1;refine YI ?_;cases c with|false=>exact hb η s1 σ H1 Q I1 q1|true=>exact⟨.bl Λ,H1,I1,rfl,q1⟩
end
def kC(K:Xf)(H:Hp)(a:Addr)(xs:List V):Prop:=
 Rd H a (.lst xs)\/
  ∃(o:Obj) (its:Array Value) (n:Nat),K.lookup a=Δ o/\o.cls=.type "list"/\o.dict=Θ/\o.data=.seq its n/\its.size<=Xv/\aS xs its.toList
def eY(K:Xf)(H:Hp)(a:Addr)(xs:List V):Prop:=
 Rd H a (.tup xs)\/
  ∃(o:Obj) (its:Array Value) (n:Nat),K.lookup a=Δ o/\o.cls=.type "tuple"/\o.data=.seq its n/\its.size<=Xv/\aS xs its.toList
noncomputable def T4:Value->Option V
 |.none=>Δ .bu|.bool b=>Δ (.bl b)|.int i _=>Δ (.int i)|.str x _=>Δ (.str x)|.bytes b _=>Δ (.Oz b)|.float b _=>Δ (.Ly b)|.ref a=>Δ (.ref a)|.type n=>Δ (.ty n)|_=>Θ
theorem RelV.abs(r:RelV x u):T4 u=Δ x:=by cases x with|bu=>cases r;rfl|bl _=>cases r;rfl|int _=>obtain⟨t,rfl⟩:=r;rfl|str _=>obtain⟨t,rfl⟩:=r;rfl|Oz _=>obtain⟨t,rfl⟩:=r;rfl|Ly _=>obtain⟨t,rfl⟩:=r;rfl|ref _=>cases r;rfl|ty _=>cases r;rfl
theorem RelV.inj(r:RelV x u)(q:RelV y u):x=y:=XJ (r.abs.symm.trans q.abs)
theorem aS.inj:∀{xs ys} {us},aS xs us->aS ys us->xs=ys
 |_,_,_,.nil,.nil=>rfl|_,_,_,.cons r t,.cons r' t'=>by rw[r.inj r',aS.inj t t']
section
variable{X:Cx}{η:List (Addr×Obj)}{σ:St}{H:Hp}{s:Xp}{a:Addr}{xs ys:List V}
theorem eY.of{K:Xf}(h:H a=Δ (.tup xs)):eY K H a xs:=.inl (.inl h)
theorem Inv.list(I:Inv X η σ H s)(h:kC X.K H a xs):∃its,aS xs its/\PlainL s.heap a its.toArray/\xs.length<=Xv:=by
 rcases h with h|⟨o,its,n,hk,hc,hd,hs,hz,r⟩;·obtain⟨z,its,n,r,e⟩:=h.ok I.aL;exact⟨its,r,⟨_,n,e,rfl,rfl,rfl⟩,z⟩
 ·refine⟨its.toList,r,⟨o,n,I.nh a o hk,hc,hd,by simpa using hs⟩,?_⟩;have e:=r.length;simp only[Y5] at e
  lia
theorem Inv.tuple(I:Inv X η σ H s)(h:eY X.K H a xs):∃its,aS xs its/\IsTup s.heap a its.toArray/\xs.length<=Xv:=by
 rcases h with h|⟨o,its,n,hk,hc,hs,hz,r⟩;·obtain⟨z,its,r,p⟩:=h.ok I.aL;exact⟨its,r,p,z⟩
 ·refine⟨its.toList,r,⟨o,I.nh a o hk,hc,n,by simpa using hs⟩,?_⟩;have e:=r.length;simp only[Y5] at e
  lia
theorem Inv.yP(I:Inv X η σ H s)(h:kC X.K H a xs)(h':kC X.K H a ys):xs=ys:=by
 obtain⟨its,r,⟨o,n,e,_,_,d⟩,_⟩:=I.list h;obtain⟨its',r',⟨o',n',e',_,_,d'⟩,_⟩:=I.list h';rw[e] at e';cases e';rw[d] at d';injection d' with d1 _;have:its=its':=by simpa using congrArg Array.toList d1
 subst this;exact r.inj r'
theorem Inv.vQ(I:Inv X η σ H s)(h:eY X.K H a xs)(h':eY X.K H a ys):xs=ys:=by
 obtain⟨its,r,⟨o,e,_,n,d⟩,_⟩:=I.tuple h;obtain⟨its',r',⟨o',e',_,n',d'⟩,_⟩:=I.tuple h';rw[e] at e';cases e';rw[d] at d';injection d' with d1 _;have:its=its':=by simpa using congrArg Array.toList d1
 subst this;exact r.inj r'
end
abbrev Cx.sr(X:Cx)(E:Value->Xp->Prop):Cx:={X with xe:=E}
abbrev Cx.EM(X:Cx):Cx:=X.sr λ_ _=>False
theorem Cx.Ok.sr{X:Cx}(ok:X.Ok)E:(X.sr E).Ok:=
 ⟨ok.mod,ok.kind,ok.glob,ok.blt,ok.above,ok.inj,ok.has,ok.LC,ok.hd,ok.frames,ok.O5,ok.TN,ok.bs,ok.EJ,ok.Dp,ok.ES,ok.mo,ok.HQ⟩
theorem Cx.Ok.jH{X:Cx}(ok:(X.sr E).Ok):X.Ok:=
 ⟨ok.mod,ok.kind,ok.glob,ok.blt,ok.above,ok.inj,ok.has,ok.LC,ok.hd,ok.frames,ok.O5,ok.TN,ok.bs,ok.EJ,ok.Dp,ok.ES,ok.mo,ok.HQ⟩
section
variable{X:Cx}{η:List (Addr×Obj)}{σ:St}{H:Hp}{s:Xp}{E:Value->Xp->Prop}
theorem Inv.sr(I:Inv X η σ H s)E:Inv (X.sr E) η σ H s:=⟨I.ok.sr E,I.os,I.bare,I.base,I.loc,I.cell,I.free,I.kf,I.pin,I.aL,I.len⟩
theorem Inv.jH(I:Inv (X.sr E) η σ H s):Inv X η σ H s:=⟨I.ok.jH,I.os,I.bare,I.base,I.loc,I.cell,I.free,I.kf,I.pin,I.aL,I.len⟩
theorem SP.jH(h:SP (X.sr E) η D f s'):SP X η D f s':=by cases f with|next=>obtain⟨cX,H',I,q⟩:=h;exact⟨cX,H',I.jH,q⟩|brk=>obtain⟨cX,H',I,q⟩:=h;exact⟨cX,H',I.jH,q⟩|cont=>obtain⟨cX,H',I,q⟩:=h;exact⟨cX,H',I.jH,q⟩|ret u=>obtain⟨v,cX,H',I,r,q⟩:=h;exact⟨v,cX,H',I.jH,r,q⟩
theorem PE.EM(h:PE X.EM e t):PE X e t:=λη s σ H Q I hw=>YS (h η s σ H Q (I.sr _) hw) (λ_ _ ⟨v,H',I',r,q⟩=>⟨v,H',I'.jH,r,q⟩) λ_ _ z=>Ys z
theorem mq.EM{st:List Stmt}(h:mq X.EM st t):mq X st t:=λη s σ H D I hw=>YS (h η s σ H D (I.sr _) hw) (λ_ _ q=>q.jH) λ_ _ z=>Ys z
end
section
variable{X:Cx}{st:Stmt}{rest:List Stmt}{t u:TS}{e:Expr}{te:TE}{pos:Pos}
def Pb:TS:=λD σ H=>D.nx σ H
def T5(t u:TS):TS:=λD σ H=>t {D with nx:=u D} σ H
theorem HW:mq X [] Pb:=λ_ _ σ H _ I h=>ace ⟨σ,H,I,h⟩
theorem EZ(h1:PS X st t)(h2:mq X rest u):mq X (st::rest) (T5 t u):=by intro η s σ H D I h;refine wpAny_execs_cons (bR (h1 η s σ H {D with nx:=u D} I h) λf s1 q=>?_);cases f with|next=>obtain⟨cX,H',I',q⟩:=q;exact h2 η s1 cX H' D I' q|ret v=>exact q|brk=>exact q|cont=>exact q
theorem Inv.quiet(I:Inv X η σ H s):interactive X.env=Ξ:=by simp[interactive,I.ok.kind]
def Pc(te:TE):TS:=λD σ H=>te σ H λ_ H1=>D.nx σ H1
theorem Co(he:PE X e te)(hs:aao e Θ pos.line X.env=pure Ξ:=by rfl):PS X (.Expr e pos) (Pc te):=by intro η s σ H D I h;exact wpAny_Expr_any (bR (he η s σ H _ I h) λv s1 ⟨x,H1,I1,r1,q1⟩=>⟨σ,H1,I1,q1⟩) I.quiet hs
def T6(te:TE):TS:=λD σ H=>te σ H D.rt
theorem LH(he:PE X e te):PS X (.Return (Δ e) pos) (T6 te):=by intro η s σ H D I h;exact wpAny_Return_some (bR (he η s σ H _ I h) λv s1 ⟨x,H1,I1,r1,q1⟩=>⟨x,σ,H1,I1,r1,q1⟩)
def Pd:TS:=λD _ H=>D.rt .bu H
theorem HX:PS X (.Return Θ pos) Pd:=λ_ _ σ H _ I h=>wpAny_Return_none ⟨.bu,σ,H,I,rfl,h⟩
noncomputable def T7(c:TT)(t u:TS):TS:=λD σ H=>c σ H λb H1=>if b=Λ then t D σ H1 else u D σ H1
theorem Pe(hc:PT X c tc)(ha:mq X a t)(hb:mq X b u):PS X (.If c a b pos) (T7 tc t u):=by intro η s σ H D I h;refine wpAny_If (bR (hc η s σ H _ I h) λd s1 ⟨H1,I1,q1⟩=>?_);cases d with|true=>exact ha η s1 σ H1 D I1 q1|false=>exact hb η s1 σ H1 D I1 q1
end
abbrev TG:=V->St->Hp->(St->Hp->Prop)->Prop
abbrev Pf:=List V->St->Hp->(St->Hp->Prop)->Prop
def PG(X:Cx)(target:Expr)(t:TG):Prop:=
 ∀(η:List (Addr×Obj)) (s:Xp) (σ:St) (H:Hp) (v:V) (u:Value) (Q:St->Hp->Prop),Inv X η σ H s->RelV v u->t v σ H Q->
  wpAny (model X.prog X.w) X.A (acV target X.env u) (λ_ s'=>∃cX H',Inv X η cX H' s'/\Q cX H') X.xe s
noncomputable def Sr(X:Cx)(ts:List Expr)(t:Pf):Prop:=
 ∀(η:List (Addr×Obj)) (s:Xp) (σ:St) (H:Hp) (vs:List V) (us:List Value) (Q:St->Hp->Prop),Inv X η σ H s->aS vs us->t vs σ H Q->
  wpAny (model X.prog X.w) X.A (assignInOrder ((ab8 ts X.env).map (·.2)) us) (λ_ s'=>∃cX H',Inv X η cX H' s'/\Q cX H') X.xe s
abbrev Pg:=V->V->V->Hp->(Hp->Prop)->Prop
def Dr(X:Cx)(t:Pg):Prop:=
 ∀(η:List (Addr×Obj)) (s:Xp) (σ:St) (H:Hp) (o i v:V) (ov iv u:Value) (Q:Hp->Prop),Inv X η σ H s->RelV o ov->RelV i iv->RelV v u->t o i v H Q->
  wpAny (model X.prog X.w) X.A (setItem ov iv u) (λ_ s'=>∃H',Inv X η σ H' s'/\Q H') X.xe s
section
variable{X:Cx}{pos:Pos}
def su(i:Nat):TG:=λv σ H Q=>Q (σ.set i (Δ v)) H
theorem eZ(hN:X.N.Nodup)(hi:X.N[i]?=Δ x)(hx:Loc X.env.scope x)(hf:X.fn x=Λ\/X.env.scope.names.lookup x=Δ .local:=by first|exact .inl rfl|exact .inr rfl|assumption):PG X (.Name x pos) (su i):=by intro η s σ H v u Q I r h;exact wpAny_assign_Name (nj I hN hi hx r (λs' I'=>⟨_,H,I',h⟩) hf)
def T8:Pf:=λvs σ H Q=>vs=[]/\Q σ H
noncomputable def Ph(t:TG)(u:Pf):Pf:=λvs σ H Q=>∃v r,vs=v::r/\t v σ H λcX H'=>u r cX H' Q
theorem xi:Sr X [] T8:=by intro η s σ H vs us Q I r h;obtain⟨e,h⟩:=h;subst e;cases r;exact assignInOrder_nil ⟨σ,H,I,h⟩
theorem jf(h1:PG X e t)(h2:Sr X es u)(hs:(ab8 (e::es) X.env).map (·.2)=acV e X.env::(ab8 es X.env).map (·.2):=by rfl):Sr X (e::es) (Ph t u):=by intro η s σ H vs us Q I r h;obtain⟨v,vr,e1,h⟩:=h;subst e1;cases r with|cons r rr=>rw[hs];refine assignInOrder_cons (bR (h1 η s σ H _ _ _ I r h) λ_ s1 ⟨OB,H1,I1,q1⟩=>?_);exact h2 η s1 OB H1 _ _ Q I1 rr q1
def T9(K:Xf)(n:Nat)(t:Pf):TG:=λv σ H Q=>∃a xs,v=.ref a/\eY K H a xs/\xs.length=n/\t xs σ H Q
theorem A5(hc:X.calm=Λ)(h:Sr X es t)(hn:(ab8 es X.env).length=n:=by rfl)(qg:(ab8 es X.env).findIdx? (·.1)=Θ:=by rfl):PG X (.Tuple es k pos) (T9 X.K n t):=by intro η s σ H v u Q I r hw;obtain⟨a,xs,e1,hq,hl,hw⟩:=hw;subst e1;cases r;obtain⟨its,rv,ht,hz⟩:=I.tuple hq;refine assign_Tuple_tuple (I.ok.hd hc) ht (by simp[hn,<-hl,rv.length]) qg λh' hx=>?_;have I1:Inv X η σ H {s with heap:=h'}:=I.kept (t':=s.toks) λb o e=>hx b o (XD (Xl e)) e;exact h η _ σ H xs _ Q I1 (by simpa using rv) hw
def Ua(te:TE)(g:TG):TS:=λD σ H=>te σ H λx H1=>g x σ H1 D.nx
theorem E1(hN:X.N.Nodup)(hi:X.N[i]?=Δ x)(hx:Loc X.env.scope x)(he:PE X e te)(hs:aao e (Δ (.Name x pos')) pos.line X.env=pure Ξ:=by rfl)(hf:X.fn x=Λ\/X.env.scope.names.lookup x=Δ .local:=by first|exact .inl rfl|exact .inr rfl|assumption):
  PS X (.Assign [.Name x pos'] e pos) (Ua te (su i)):=by
 intro η s σ H D I h;refine wpAny_Assign_Name (bR (he η s σ H _ I h) λv s1 ⟨y,H1,I1,r1,q1⟩=>?_) hs;exact nj I1 hN hi hx r1 (λs2 I2=>⟨_,H1,I2,q1⟩) hf
end
section
variable{X:Cx}{pos:Pos}
noncomputable def LI(c:TT)(tb:TS):TS:=λD σ H=>∃W:Nat->St->Hp->Prop,(∃m,W m σ H)/\∀m σ H,W m σ H->
 c σ H λb H1=>if b=Λ then ∃N:St->Hp->Prop,(∀cX H',N cX H'->∃m',m' < m/\W m' cX H')/\tb {D with nx:=N,ct:=N,bk:=D.nx} σ H1 else D.nx σ H1
theorem E2(hp:PassesOwn (model X.prog X.w) X.A X.env X.xe)(hc:PT X c tc)(hb:mq X body tb):PS X (.While c body [] pos) (LI tc tb):=by
 intro η s σ H D I h;obtain⟨W,⟨m0,w0⟩,turn⟩:=h;refine wpAny_While (codeAny_whileLoop (λn s'=>∃cX H',Inv X η cX H' s'/\W n cX H') ?_ m0 ⟨σ,H,I,w0⟩);rintro n s1 ⟨OB,H1,I1,w1⟩;refine ZL hp (bR (hc η s1 OB H1 _ I1 (turn n OB H1 w1)) λb s2 ⟨H2,I2,q2⟩=>?_);cases b with
 |true=>obtain⟨N,hN,q2⟩:=q2;rw[if_pos rfl];refine ZL hp (bR (hb η s2 OB H2 _ I2 q2) λf s3 q3=>?_);cases f with|next=>obtain⟨E3,H3,I3,n3⟩:=q3;obtain⟨m',hm,w3⟩:=hN E3 H3 n3;exact⟨m',hm,E3,H3,I3,w3⟩|cont=>obtain⟨E3,H3,I3,n3⟩:=q3;obtain⟨m',hm,w3⟩:=hN E3 H3 n3;exact⟨m',hm,E3,H3,I3,w3⟩|brk=>exact q3|ret v=>exact q3
 |false=>rw[if_neg X8];exact ace ⟨OB,H2,I2,q2⟩
end
structure It where
 go:Nat->Hp->Prop
 Pj:Nat->Hp->V->Hp->Prop
 stop:Nat->Hp->Prop
noncomputable def mr(X:Cx)(η:List (Addr×Obj))(H:Hp)(b:Addr):Prop:=
 H b=Θ/\b≠X.env.locals/\b∉X.fs/\(b∈X.ex\/X.gO.heap.objs.size<=b)/\(∀x c,X.env.cells.lookup x=Δ c->c≠b)/\∀p∈X.pn++η,p.1≠b
theorem Inv.xj(I:Inv X η σ H s)(hb:s.heap.objs.size<=b)(hn:H' b=Θ):mr X η H' b:=by
 refine⟨hn,Yk (Xx I.lt hb),I.TQ hb,.inr (XW I.sz hb),λx c e z=>?_,λp hp z=>?_⟩;·obtain⟨v,q⟩:=I.cell x c e;exact absurd (Xx q.lt (by rw[z];exact hb)) (YX _)
 ·exact absurd (Xx (Xl (I.pin p hp).1) (by rw[z];exact hb)) (YX _)
structure Turn(P:Yb)(w:World)(K:Xf)(tg:Expr)(J:It)(fp:List Addr)(it:Addr)(tn:Nat->Heap->Prop):Prop where
 mem:it∈fp
 obj:∀i h,tn i h->∀b∈fp,∃o,h.get? b=Δ o/\∀v,o.data≠.cell v
 keep:∀i h h',tn i h->(∀b∈fp,∀o,h.get? b=Δ o->h'.get? b=Δ o)->tn i h'
 item:∀(X:Cx),X.prog=P->X.w=w->X.K=K->X.calm=Λ->∀(i:Nat) (η:List (Addr×Obj)) (s:Xp) (σ:St) (H:Hp) (E:Value->Xp->Prop),Inv X η σ H s->(∀b∈fp,mr X η H b)->tn i s.heap->J.go i H->
  wpAny (model P w) X.A (abN (.ref it)) (λr s1=>∃u,r=Δ u/\
   wpAny (model P w) X.A (abg tg (.ref it) u) (λ_ s2=>∃x H',Inv X η σ H' s2/\RelV x u/\J.Pj i H x H'/\tn (i+1) s2.heap/\∀b∈fp,H' b=Θ) E s1) E s
 done:∀(X:Cx),X.prog=P->X.w=w->X.K=K->X.calm=Λ->∀(i:Nat) (η:List (Addr×Obj)) (s:Xp) (σ:St) (H:Hp) (E:Value->Xp->Prop),Inv X η σ H s->(∀b∈fp,mr X η H b)->tn i s.heap->J.stop i H->
  wpAny (model P w) X.A (abN (.ref it)) (λr s1=>r=Θ/\Inv X η σ H s1) E s
 self:∀(A:YF) (i:Nat) (s:Xp) (Q:Value->Xp->Prop) (E:Value->Xp->Prop),tn i s.heap->Q (.ref it) s->wpAny (model P w) A (pyIter (.ref it)) Q E s
abbrev TI:=St->Hp->(It->Hp->Prop)->Prop
def PIE(X:Cx)(η:List (Addr×Obj))(σ:St)(tg:Expr)(R:It->Hp->Prop)(Ss:Value)(s2:Xp):Prop:=
 ∃(it:Addr) (fp:List Addr) (tn:Nat->Heap->Prop) (J:It) (H':Hp),Ss=.ref it/\Inv X η σ H' s2/\Turn X.prog X.w X.K tg J fp it tn/\tn 0 s2.heap/\(∀b∈fp,mr X η H' b)/\R J H'
def PI(X:Cx)(tg iter:Expr)(wi:TI):Prop:=
 ∀(η:List (Addr×Obj)) (s:Xp) (σ:St) (H:Hp) (R:It->Hp->Prop),Inv X η σ H s->wi σ H R->
  wpAny (model X.prog X.w) X.A (eval iter X.env) (λv s1=>wpAny (model X.prog X.w) X.A (pyIter v) (PIE X η σ tg R) X.xe s1) X.xe s
theorem E4(ho:s.heap.get? it=Δ o)(hc:o.cls=.type n)(hd:o.data=.fields vs)(hn:["enumerate","zip","dict_itemiterator","dict_reverseitemiterator","odict_iterator","itertools.zip_longest","itertools.pairwise"].contains n=Ξ)(hQ:Q () s):wpAny M A (abg tg (.ref it) u) Q E s:=by
 unfold abg;cases tg<;>first
  |exact Xe hQ
  |(cases u<;>first
    |exact Xe hQ
    |(refine W2 (wpAny_load ho ?_)
      rw[hc,hd];show wpAny M A (if(["enumerate","zip","dict_itemiterator","dict_reverseitemiterator","odict_iterator","itertools.zip_longest","itertools.pairwise"].contains n&&vs[0]?==Δ (Zj _))=Λ then _ else _) Q E s;rw[if_neg (by intro h;rw[hn,aaV] at h;cases h)];exact Xe hQ))
def Ub(K:Xf)(a:Addr):It:=
 ⟨λi H=>∃xs x,kC K H a xs/\xs[i]?=Δ x,λi H x H'=>H'=H/\∀xs,kC K H a xs->xs[i]?=Δ x,λi H=>∃xs,kC K H a xs/\xs.length<=i⟩
def Uc(K:Xf)(a:Addr):It:=
 ⟨λi H=>∃xs x,eY K H a xs/\xs[i]?=Δ x,λi H x H'=>H'=H/\∀xs,eY K H a xs->xs[i]?=Δ x,λi H=>∃xs,eY K H a xs/\xs.length<=i⟩
noncomputable def LJ(lo:Int)(n:Nat):It:=⟨λi _=>i < n,λi H x H'=>H'=H/\x=.int (lo+i),λi _=>n<=i⟩
theorem Ds{P:Yb}{w:World}{K:Xf}{tg:Expr}(a it:Addr):Turn P w K tg (Ub K a) [it] it (λi h=>h.IsListIter it a i) where
 mem:=by simp
 obj:=λi h st b hb=>by
  have e:b=it:=by simpa using hb
  subst e;obtain⟨o,e,c,d⟩:=st;exact⟨o,e,λv z=>by rw[d] at z;cases z⟩
 keep:=λi h h' st k=>st.at λo e=>k it (by simp) o e
 item:=by intro X hP hw hK hc i η s σ H E I hf st hg;subst hP hw hK;obtain⟨xs,x,hq,hx⟩:=hg;obtain⟨its,rv,p,hz⟩:=I.list hq;obtain⟨u,hu,ru⟩:=rv.get hx;obtain⟨f0,f1,f2,f3,f4,f5⟩:=hf it (by simp);refine wpAny_pyNext_list_item st p.isList (x:=u) (by simpa using hu) λh' aM sb=>?_;have I1:Inv X η σ H {s with heap:=h'}:=I.turned (t':=s.toks) (λb o hb e=>(sb.2 b hb).trans e) f0 f1 f3 f4 f5;obtain⟨o,e,c,d⟩:=id aM;exact⟨u,rfl,E4 (s:={s with heap:=h'}) e c d (by decide) ⟨x,H,I1,ru,⟨rfl,λys hy=>by rw[I.yP hy hq];exact hx⟩,aM,λb hb=>(hf b hb).1⟩⟩
 done:=by intro X hP hw hK hc i η s σ H E I hf st hg;subst hP hw hK;obtain⟨xs,hq,hx⟩:=hg;obtain⟨its,rv,p,hz⟩:=I.list hq;obtain⟨f0,f1,f2,f3,f4,f5⟩:=hf it (by simp);have hl:=rv.length;exact wpAny_pyNext_list_end (I.ok.hd hc) st p.isList (by simp;lia) λh' eb=>⟨rfl,I.turned (t':=s.toks) (λb o hb e=>eb b o hb e) f0 f1 f3 f4 f5⟩
 self:=λ_ _ _ _ _ st h=>wpAny_pyIter_listiter st h
theorem A6{P:Yb}{w:World}{K:Xf}{tg:Expr}(a it:Addr):Turn P w K tg (Uc K a) [it] it (λi h=>h.IsTupleIter it a i) where
 mem:=by simp
 obj:=λi h st b hb=>by
  have e:b=it:=by simpa using hb
  subst e;obtain⟨o,e,c,d⟩:=st;exact⟨o,e,λv z=>by rw[d] at z;cases z⟩
 keep:=λi h h' st k=>st.at λo e=>k it (by simp) o e
 item:=by intro X hP hw hK hc i η s σ H E I hf st hg;subst hP hw hK;obtain⟨xs,x,hq,hx⟩:=hg;obtain⟨its,rv,p,hz⟩:=I.tuple hq;obtain⟨u,hu,ru⟩:=rv.get hx;obtain⟨f0,f1,f2,f3,f4,f5⟩:=hf it (by simp);refine wpAny_pyNext_tuple_item st (show s.heap.IsTuple a its.toArray from p) (x:=u) (by simpa using hu) λh' aM sb=>?_;have I1:Inv X η σ H {s with heap:=h'}:=I.turned (t':=s.toks) (λb o hb e=>(sb.2 b hb).trans e) f0 f1 f3 f4 f5;obtain⟨o,e,c,d⟩:=id aM;exact⟨u,rfl,E4 (s:={s with heap:=h'}) e c d (by decide) ⟨x,H,I1,ru,⟨rfl,λys hy=>by rw[I.vQ hy hq];exact hx⟩,aM,λb hb=>(hf b hb).1⟩⟩
 done:=by intro X hP hw hK hc i η s σ H E I hf st hg;subst hP hw hK;obtain⟨xs,hq,hx⟩:=hg;obtain⟨its,rv,p,hz⟩:=I.tuple hq;obtain⟨f0,f1,f2,f3,f4,f5⟩:=hf it (by simp);have hl:=rv.length;exact wpAny_pyNext_tuple_end (I.ok.hd hc) st (show s.heap.IsTuple a its.toArray from p) (by simp;lia) λh' eb=>⟨rfl,I.turned (t':=s.toks) (λb o hb e=>eb b o hb e) f0 f1 f3 f4 f5⟩
 self:=λ_ _ _ _ _ st h=>wpAny_pyIter_tupleiter st h
theorem A7{P:Yb}{w:World}{K:Xf}{tg:Expr}(it:Addr)(lo:Int)(n:Nat):Turn P w K tg (LJ lo n) [it] it (λi h=>IsRangeIter h it (lo+(i:Nat)*1) ((n:Int) - (i:Nat)) 1) where
 mem:=by simp
 obj:=λi h st b hb=>by
  have e:b=it:=by simpa using hb
  subst e;exact⟨_,st,λv z=>by have z':Data.fields _=Data.cell v:=z;cases z'⟩
 keep:=λi h h' st k=>k it (by simp) _ st
 item:=by intro X hP hw hK hc i η s σ H E I hf st hg;subst hP hw hK;obtain⟨f0,f1,f2,f3,f4,f5⟩:=hf it (by simp);have W:=Walks.range (prog:=X.prog) (w:=X.w) (I.ok.hd hc) it lo 1 n;refine W.item i s _ _ hg st λv h' tk hv aM kk=>?_;obtain⟨t,rfl⟩:=hv;have I1:Inv X η σ H {s with heap:=h',toks:=tk}:=I.turned (λb o hb e=>kk b o (by simpa using hb) e) f0 f1 f3 f4 f5;refine⟨_,rfl,E4 (s:={s with heap:=h',toks:=tk}) (n:="range_iterator") aM rfl rfl (by decide) ⟨.int (lo+i),H,I1,⟨t,?_⟩,⟨rfl,rfl⟩,aM,λb hb=>(hf b hb).1⟩⟩;rw[Int.mul_one]
 done:=by intro X hP hw hK hc i η s σ H E I hf st hg;subst hP hw hK;obtain⟨f0,f1,f2,f3,f4,f5⟩:=hf it (by simp);exact wpAny_pyNext_range_end (I.ok.hd hc) st (by have:n<=i:=hg;lia) λh' eb=>⟨rfl,I.turned (t':=s.toks) (λb o hb e=>eb b o hb e) f0 f1 f3 f4 f5⟩
 self:=λ_ _ _ _ _ st h=>wpAny_pyIter_rangeiter st h
section
variable{X:Cx}{tg:Expr}
def Kz(K:Xf)(tl:TE):TI:=λσ H R=>tl σ H λx H1=>∃a,x=.ref a/\(∃xs,kC K H1 a xs)/\R (Ub K a) H1
def Ud(K:Xf)(tl:TE):TI:=λσ H R=>tl σ H λx H1=>∃a,x=.ref a/\(∃xs,eY K H1 a xs)/\R (Uc K a) H1
theorem rK(hl:PE X l tl):PI X tg l (Kz X.K tl):=by
 intro η s σ H R I h;refine bR (hl η s σ H _ I h) λv s1 ⟨x,H1,I1,r1,q1⟩=>?_;obtain⟨a,e,⟨xs,hq⟩,q⟩:=q1;subst e;cases r1;obtain⟨its,rv,p,hz⟩:=I1.list hq;refine abz p.isList ?_;refine⟨s1.heap.objs.size,[s1.heap.objs.size],_,_,H1,rfl,I1.kept (t':=s1.toks) λb o e=>W4 _ e,Ds a _,⟨_,Xj _ rfl,rfl,rfl⟩,λb hb=>?_,q⟩;have e:b=s1.heap.objs.size:=by simpa using hb
 subst e;exact I1.xj (Xd _) (I1.aL.fresh (Xd _))
theorem LK(hl:PE X l tl):PI X tg l (Ud X.K tl):=by
 intro η s σ H R I h;refine bR (hl η s σ H _ I h) λv s1 ⟨x,H1,I1,r1,q1⟩=>?_;obtain⟨a,e,⟨xs,hq⟩,q⟩:=q1;subst e;cases r1;obtain⟨its,rv,p,hz⟩:=I1.tuple hq;refine ZC (show s1.heap.IsTuple a its.toArray from p) ?_;refine⟨s1.heap.objs.size,[s1.heap.objs.size],_,_,H1,rfl,I1.kept (t':=s1.toks) λb o e=>W4 _ e,A6 a _,⟨_,Xj _ rfl,rfl,rfl⟩,λb hb=>?_,q⟩;have e:b=s1.heap.objs.size:=by simpa using hb
 subst e;exact I1.xj (Xd _) (I1.aL.fresh (Xd _))
theorem yQ{lo hi:Int}(I:Inv X η σ H s)(h1: -(2 ^ 62)<=lo)(h2:lo < 2 ^ 62)(h3: -(2 ^ 62)<=hi)(h4:hi < 2 ^ 62)(q:R (LJ lo (hi - lo).toNat) H):wpAny (model X.prog X.w) X.A (pyIter (.ref s.heap.objs.size)) (PIE X η σ tg R) E {s with heap:=s.heap.push {cls:=.type "range",data:=.fields #[.int lo t,.int hi u,.int 1 v]},toks:=tk}:=by
 refine wpAny_pyIter_range (IsRange.new ..) (small_one h1 h2 h3 h4) ?_;have I1:Inv X η σ H {s with heap:=s.heap.push {cls:=.type "range",data:=.fields #[.int lo t,.int hi u,.int 1 v]},toks:=tk}:=I.kept λb o e=>W4 _ e;refine⟨(s.heap.push {cls:=.type "range",data:=.fields #[.int lo t,.int hi u,.int 1 v]}).objs.size,[(s.heap.push {cls:=.type "range",data:=.fields #[.int lo t,.int hi u,.int 1 v]}).objs.size],_,_,H,rfl,
  I1.kept (t':=tk) λb o e=>W4 _ e,A7 _ lo (hi - lo).toNat,?_,λb hb=>?_,q⟩
 ·have e1:lo+((0:Nat):Int)*1=lo:=by simp
  have e2:(((hi - lo).toNat:Nat):Int) - ((0:Nat):Int)=aba.Range.rangeSize lo hi 1:=by rw[rangeSize_one];split<;>lia
  show IsRangeIter _ _ (lo+((0:Nat):Int)*1) ((((hi - lo).toNat:Nat):Int) - ((0:Nat):Int)) 1;rw[e1,e2];exact Xj _ rfl
 ·have e:b=(s.heap.push {cls:=.type "range",data:=.fields #[.int lo t,.int hi u,.int 1 v]}).objs.size:=by simpa using hb
  subst e;exact I1.xj (Xd _) (I1.aL.fresh (Xd _))
def Pk(ta:TA):TI:=λσ H R=>ta σ H λvs H1=>∃j:Int,vs=[.int j]/\ -(2 ^ 62)<=j/\j < 2 ^ 62/\R (LJ 0 j.toNat) H1
def Pm(ta:TA):TI:=λσ H R=>ta σ H λvs H1=>∃i j:Int,vs=[.int i,.int j]/\(-(2 ^ 62)<=i/\i < 2 ^ 62/\ -(2 ^ 62)<=j/\j < 2 ^ 62)/\R (LJ i (j - i).toNat) H1
theorem Dt(hg:Gl X "range")(hm:X.mg "range"=Θ)(ha:PA X [a] ta)(hs:XG [a] X.env=[(Ξ,eval a X.env)]:=by rfl):PI X tg (.Call (.Name "range" p) [a] [] pos) (Pk ta):=by intro η s σ H R I h;refine Call_ (jG I hg hm boot_range (Yh (bR (ha pos η s σ H _ I h) λus s1 ⟨vs,H1,I1,r1,q1⟩=>?_) hs rfl));obtain⟨j,e,q1,q2,q⟩:=q1;subst e;cases r1 with|cons r rr=>cases rr;obtain⟨t,rfl⟩:=r;exact call_range_1 (yQ I1 (by lia) (by lia) q1 q2 (by simpa using q))
theorem Du(hg:Gl X "range")(hm:X.mg "range"=Θ)(ha:PA X [a,b] ta)(hs:XG [a,b] X.env=[(Ξ,eval a X.env),(Ξ,eval b X.env)]:=by rfl)(sv:XG [b] X.env=[(Ξ,eval b X.env)]:=by rfl):
  PI X tg (.Call (.Name "range" p) [a,b] [] pos) (Pm ta):=by
 intro η s σ H R I h;refine Call_ (jG I hg hm boot_range (Yh (bR (ha pos η s σ H _ I h) λus s1 ⟨vs,H1,I1,r1,q1⟩=>?_) (by rw[hs,sv]) (by rw[sv];rfl)));obtain⟨i,j,e,⟨q1,q2,q3,q4⟩,q⟩:=q1;subst e;cases r1 with|cons r rr=>cases rr with|cons r' rr=>cases rr;obtain⟨t,rfl⟩:=r;obtain⟨t',rfl⟩:=r';exact call_range_2 (yQ I1 q1 q2 q3 q4 q)
noncomputable def Ue(wi:TI)(g:TG)(tb:TS):TS:=λD σ H=>wi σ H λJ H1=>∃W:Nat->Nat->St->Hp->Prop,(∃m,W 0 m σ H1)/\∀i m σ H,W i m σ H->
 (J.stop i H/\D.nx σ H)\/(J.go i H/\∃N:St->Hp->Prop,(∀cX H',N cX H'->∃m',m' < m/\W (i+1) m' cX H')/\∀x H',J.Pj i H x H'->g x σ H' λOC H2=>tb {D with nx:=N,ct:=N,bk:=D.nx} OC H2)
noncomputable def oT(fp:List Addr)(h:Heap):List (Addr×Obj):=fp.filterMap λb=>(h.get? b).map λo=>(b,o)
theorem eI(hb:b∈fp)(e:h.get? b=Δ o):(b,o)∈oT fp h:=List.mem_filterMap.mpr ⟨b,hb,by rw[e];rfl⟩
theorem Dv(hp:p∈oT fp h):p.1∈fp/\h.get? p.1=Δ p.2:=by obtain⟨b,hb,e⟩:=List.mem_filterMap.mp hp;cases q:h.get? b with|none=>rw[q] at e;cases e|some o=>rw[q] at e;have e':(b,o)=p:=XJ e;subst e';exact⟨hb,q⟩
theorem Inv.pinned(I:Inv X η σ H s)(hf:∀b∈fp,mr X η H b)(ho:∀b∈fp,∃o,s.heap.get? b=Δ o/\∀v,o.data≠.cell v):Inv X (η++oT fp s.heap) σ H s:=
 I.Cm λp hp=>(aaA.mp hp).elim (λz=>I.pin p (XF _ z)) λz=>by obtain⟨hb,e⟩:=Dv z;obtain⟨f0,f1,f2,_⟩:=hf p.1 hb;obtain⟨o,e',d⟩:=ho p.1 hb;rw[e] at e';cases e';exact⟨e,f0,f1,f2,d⟩
theorem Inv.jg(I:Inv X (η++pl) σ H s):Inv X η σ H s:=I.Cm λp hp=>I.pin p (XF _ (Yo _ hp))
theorem xk(hp:PassesOwn (model X.prog X.w) X.A X.env X.xe)(hc:X.calm=Λ)(hi:PI X tg iter wi)(hg:PG X tg g)(hb:mq X body tb)(hs:∀x,abB iter X.env x=pure x:=by intro _;rfl):PS X (.For tg iter body [] pos) (Ue wi g tb):=by
 intro η s σ H D I h;refine wpAny_For (bR (hi η s σ H _ I h) λv s1 h1=>bR h1 λSs s2 h2=>?_) hs;obtain⟨it,fp,tn,J,H2,e,I2,T,st2,f2,W,⟨m0,w0⟩,turn⟩:=h2;subst e;have sx:∀{H':Hp},(∀b∈fp,H' b=Θ)->∀b∈fp,mr X η H' b:=λhn b hb=>⟨hn b hb,(f2 b hb).2⟩;refine codeAny_forLoop_any (λn s'=>∃i cX H',Inv X η cX H' s'/\tn i s'.heap/\(∀b∈fp,H' b=Θ)/\W i n cX H') ?_ m0 ⟨0,σ,H2,I2,st2,λb hb=>(f2 b hb).1,w0⟩;rintro n s3 ⟨i,E3,H3,I3,st3,fr3,w3⟩;rcases turn i n E3 H3 w3 with ⟨stop,qn⟩|⟨go,N,hN,step⟩
 ·refine ZL hp (bR (T.done X rfl rfl rfl hc i η s3 E3 H3 X.xe I3 (sx fr3) st3 stop) λr s4 ⟨hr,I4⟩=>?_);subst hr;exact ace ⟨E3,H3,I4,qn⟩
 ·refine ZL hp (bR (T.item X rfl rfl rfl hc i η s3 E3 H3 X.xe I3 (sx fr3) st3 go) λr s4 ⟨u,hr,h4⟩=>?_);subst hr;refine ZL hp (bR h4 λ_ s5 ⟨x,H5,I5,r5,y5,A8,LL⟩=>?_);have I5':=I5.pinned (sx LL) (T.obj _ _ A8);refine ZL hp (bR (hg _ s5 E3 H5 x u _ I5' r5 (step x H5 y5)) λ_ s6 ⟨σ6,H6,I6,q6⟩=>?_);refine ZL hp (bR (hb _ s6 σ6 H6 _ I6 q6) λf s7 q7=>?_);have again:∀{E5:St} {H7:Hp},Inv X (η++oT fp s5.heap) E5 H7 s7->N E5 H7->∃m,m < n/\∃i cX H',Inv X η cX H' s7/\tn i s7.heap/\(∀b∈fp,H' b=Θ)/\W i m cX H':=λ{E5 H7} I7 n7=>by obtain⟨m',hm,w7⟩:=hN E5 H7 n7;refine⟨m',hm,i+1,E5,H7,I7.jg,T.keep _ _ _ A8 λb hb o e=>(I7.pin (b,o) (XF _ (XF _ (eI hb e)))).1,λb hb=>?_,w7⟩;obtain⟨o,e,d⟩:=T.obj _ _ A8 b hb;exact(I7.pin (b,o) (XF _ (XF _ (eI hb e)))).2.1
  cases f with|next=>obtain⟨E5,H7,I7,n7⟩:=q7;exact again I7 n7|cont=>obtain⟨E5,H7,I7,n7⟩:=q7;exact again I7 n7|brk=>obtain⟨E5,H7,I7,q7⟩:=q7;exact⟨E5,H7,I7.jg,q7⟩|ret v=>obtain⟨x7,E5,H7,I7,r7,q7⟩:=q7;exact⟨x7,E5,H7,I7.jg,r7,q7⟩
end
abbrev R2:=V->V->Hp->VK->Prop
def kg(X:Cx)(f:Value->Value->Sem Value)(r:R2):Prop:=
 ∀(η:List (Addr×Obj)) (s:Xp) (σ:St) (H:Hp) (x y:V) (v u:Value) (Q:VK),Inv X η σ H s->RelV x v->RelV y u->r x y H Q->
  wpAny (model X.prog X.w) X.A (f v u) (EP X η σ Q) X.xe s
def Ug(X:Cx)(f:Value->Sem Value)(r:V->Hp->VK->Prop):Prop:=
 ∀(η:List (Addr×Obj)) (s:Xp) (σ:St) (H:Hp) (x:V) (v:Value) (Q:VK),Inv X η σ H s->RelV x v->r x H Q->
  wpAny (model X.prog X.w) X.A (f v) (EP X η σ Q) X.xe s
def eO(X:Cx)(f:Value)(r:List V->Hp->VK->Prop):Prop:=
 ∀(η:List (Addr×Obj)) (s:Xp) (σ:St) (H:Hp) (xs:List V) (us:List Value) (Q:VK),Inv X η σ H s->aS xs us->r xs H Q->
  wpAny (model X.prog X.w) X.A (call f us) (EP X η σ Q) X.xe s
def Uh(X:Cx)(r:V->Hp->(Bool->Hp->Prop)->Prop):Prop:=
 ∀(η:List (Addr×Obj)) (s:Xp) (σ:St) (H:Hp) (x:V) (v:Value) (Q:Bool->Hp->Prop),Inv X η σ H s->RelV x v->r x H Q->
  wpAny (model X.prog X.w) X.A (truthy v) (TP X η σ Q) X.xe s
noncomputable def Pn(r:R2)(ta tb:TE):TE:=λσ H Q=>ta σ H λx H1=>tb σ H1 λy H2=>r x y H2 Q
def tUn(r:V->Hp->VK->Prop)(ta:TE):TE:=λσ H Q=>ta σ H λx H1=>r x H1 Q
noncomputable def rI(C:Int->Int->Prop)(g:Int->Int->V):R2:=λx y H Q=>∃i j,x=.int i/\y=.int j/\C i j/\Q (g i j) H
noncomputable def Cp(g:Int->Int->V):R2:=λx y H Q=>∃i j,x=.int i/\y=.int j/\Q (g i j) H
def rU(g:Int->V):V->Hp->VK->Prop:=λx H Q=>∃i,x=.int i/\Q (g i) H
section
variable{X:Cx}{a b c:Expr}{ta tb tc:TE}{pos:Pos}
theorem LM(ha:PE X a ta)(hb:PE X b tb){R:V->V->Hp->Prop}(I:Inv X η σ H s)(h:ta σ H λx H1=>tb σ H1 λy H2=>R x y H2){f:Value->Value->Sem Value}(hf:∀v u s2 x y H2,Inv X η σ H2 s2->RelV x v->RelV y u->R x y H2->wpAny (model X.prog X.w) X.A (f v u) Q X.xe s2):
  wpAny (model X.prog X.w) X.A (eval a X.env) (λv bA=>wpAny (model X.prog X.w) X.A (eval b X.env) (λu vd=>wpAny (model X.prog X.w) X.A (f v u) Q X.xe vd) X.xe bA) X.xe s:=by
 refine bR (ha η s σ H _ I h) λv s1 ⟨x,H1,I1,r1,q1⟩=>?_;refine bR (hb η s1 σ H1 _ I1 q1) λu s2 ⟨y,H2,I2,r2,q2⟩=>?_;exact hf v u s2 x y H2 I2 r1 r2 q2
theorem Po(ho:kg X (ZD op) r)(ha:PE X a ta)(hb:PE X b tb):PE X (.BinOp a op b pos) (Pn r ta tb):=by intro η s σ H Q I h;exact wpAny_BinOp (LM ha hb I h λv u s2 x y H2 I2 rx ry q=>ho η s2 σ H2 x y v u Q I2 rx ry q)
theorem KA(ho:Ug X (unaryOp op) r)(ha:PE X a ta):PE X (.UnaryOp op a pos) (tUn r ta):=by intro η s σ H Q I h;exact UnaryOp_ (bR (ha η s σ H _ I h) λv s1 ⟨x,H1,I1,r1,q1⟩=>ho η s1 σ H1 x v Q I1 r1 q1)
theorem kh{g:Int->Int->Int}(rule:∀(i j:Int) (t u:Tok) (s:Xp) (Q:Value->Xp->Prop) (E:Value->Xp->Prop),C i j->Q (.int (g i j) s.toks) {s with toks:=s.toks+1}->wpAny (model X.prog X.w) X.A (f (.int i t) (.int j u)) Q E s):
  kg X f (rI C λi j=>.int (g i j)):=by
 intro η s σ H x y v u Q I rx ry h;obtain⟨i,j,rfl,rfl,hc,q⟩:=h;obtain⟨t,rfl⟩:=rx;obtain⟨t',rfl⟩:=ry;exact rule i j t t' s _ _ hc ⟨.int (g i j),H,I.tok _,⟨_,rfl⟩,q⟩
theorem Pp{g:Int->Int->Int}(rule:∀(i j:Int) (t u:Tok) (s:Xp) (Q:Value->Xp->Prop) (E:Value->Xp->Prop),Q (.int (g i j) s.toks) {s with toks:=s.toks+1}->wpAny (model X.prog X.w) X.A (f (.int i t) (.int j u)) Q E s):
  kg X f (Cp λi j=>.int (g i j)):=by
 intro η s σ H x y v u Q I rx ry h;obtain⟨i,j,rfl,rfl,q⟩:=h;obtain⟨t,rfl⟩:=rx;obtain⟨t',rfl⟩:=ry;exact rule i j t t' s _ _ ⟨.int (g i j),H,I.tok _,⟨_,rfl⟩,q⟩
theorem HY{g:Int->Int->Bool}(rule:∀(i j:Int) (t u:Tok) (s:Xp) (Q:Value->Xp->Prop) (E:Value->Xp->Prop),Q (.bool (g i j)) s->wpAny (model X.prog X.w) X.A (f (.int i t) (.int j u)) Q E s):
  kg X f (Cp λi j=>.bl (g i j)):=by
 intro η s σ H x y v u Q I rx ry h;obtain⟨i,j,rfl,rfl,q⟩:=h;obtain⟨t,rfl⟩:=rx;obtain⟨t',rfl⟩:=ry;exact rule i j t t' s _ _ ⟨.bl (g i j),H,I,rfl,q⟩
def Pq(i j:Int):Prop:=0 < j/\j < 1073741824
noncomputable def HZ(i j:Int):Prop:=(-(2 ^ 64) < i/\i < 2 ^ 64)\/(-(2 ^ 64) < j/\j < 2 ^ 64)
theorem HZ.ok(h:HZ i j):IntMulOk i j:=by
 rcases h with ⟨h1,h2⟩|⟨h1,h2⟩
 ·exact .of_left (intBits_le_64 h1 h2)
 ·exact .of_right (intBits_le_64 h1 h2)
theorem LN:kg X (ZD .Add) (Cp λi j=>.int (i+j)):=Pp λ_ _ _ _ _ _ _ q=>add_int q
theorem LO:kg X (ZD .Sub) (Cp λi j=>.int (i - j)):=Pp λ_ _ _ _ _ _ _ q=>sub_int q
theorem LP:kg X (ZD .Mult) (rI HZ λi j=>.int (i*j)):=kh λ_ _ _ _ _ _ _ hc q=>mul_int q hc.ok
theorem Ia:kg X (ZD .FloorDiv) (rI Pq λi j=>.int (i / j)):=kh λi j _ _ _ _ _ hc q=>by have h1:(0:Int) < j:=hc.1;have h2:j < 1073741824:=hc.2;exact floordiv_int (by lia) (by rw[Int.fdiv_eq_ediv_of_nonneg i (by lia)];exact q) (.inl (PyProof.noPylong_small (by lia)))
theorem LR:kg X (ZD .Mod) (rI (λ_ j=>0 < j) λi j=>.int (i % j)):=kh λi j _ _ _ _ _ hc q=>by have h1:(0:Int) < j:=hc;exact mod_int' (by lia) (by rw[Int.fmod_eq_emod_of_nonneg i (by lia)];exact q)
theorem unI{g:Int->Int}(rule:∀(i:Int) (t:Tok) (s:Xp) (Q:Value->Xp->Prop) (E:Value->Xp->Prop),Q (.int (g i) s.toks) {s with toks:=s.toks+1}->wpAny (model X.prog X.w) X.A (f (.int i t)) Q E s):
  Ug X f (rU λi=>.int (g i)):=by
 intro η s σ H x v Q I rx h;obtain⟨i,rfl,q⟩:=h;obtain⟨t,rfl⟩:=rx;exact rule i t s _ _ ⟨.int (g i),H,I.tok _,⟨_,rfl⟩,q⟩
theorem E6:Ug X (unaryOp .USub) (rU λi=>.int (-i)):=unI λ_ _ _ _ _ q=>neg_int q
end
section
variable{X:Cx}{a b c:Expr}{ta tb tc:TE}{pos:Pos}
theorem Pr:kg X (Yw .Lt) (Cp λi j=>.bl (decide (i < j))):=HY λ_ _ _ _ _ _ _ q=>lt_int q
theorem Pt:kg X (Yw .LtE) (Cp λi j=>.bl (decide (i<=j))):=HY λ_ _ _ _ _ _ _ q=>le_int q
theorem Pu:kg X (Yw .Gt) (Cp λi j=>.bl (decide (j < i))):=HY λ_ _ _ _ _ _ _ q=>gt_int q
theorem Pw:kg X (Yw .GtE) (Cp λi j=>.bl (decide (j<=i))):=HY λ_ _ _ _ _ _ _ q=>ge_int q
theorem kg.or(h:kg X f r)(h':kg X f r'):kg X f (λx y H Q=>r x y H Q\/r' x y H Q):=by
 intro η s σ H x y v u Q I rx ry q;rcases q with q|q;·exact h η s σ H x y v u Q I rx ry q
 ·exact h' η s σ H x y v u Q I rx ry q
theorem Ib(ho:kg X (Yw op) r)(ha:PE X a ta)(hb:PE X b tb)(hm:acz op b=Ξ):PE X (.Compare a [op] [b] pos) (Pn r ta tb):=by intro η s σ H Q I h;exact wpAny_Compare1 (LM ha hb I h λv u s2 x y H2 I2 rx ry q=>ho η s2 σ H2 x y v u Q I2 rx ry q) hm
def KC(t:TE):TT:=λσ H Q=>t σ H λx H'=>∃k,x=.bl k/\Q k H'
theorem Ic(ho:kg X (Yw op) r)(ha:PE X a ta)(hb:PE X b tb)(hm:acz op b=Ξ):PT X (.Compare a [op] [b] pos) (KC (Pn r ta tb)):=by intro η s σ H Q I h;refine wpAny_isTrue_Compare1 (bR (ha η s σ H _ I h) λv s1 ⟨x,H1,I1,r1,q1⟩=>bR (hb η s1 σ H1 _ I1 q1) λu s2 ⟨y,H2,I2,r2,q2⟩=>bR (ho η s2 σ H2 x y v u _ I2 r1 r2 q2) λc s3 ⟨z,H3,I3,r3,k,e,q3⟩=>?_) hm;subst e;cases r3;exact YI ⟨H3,I3,q3⟩
noncomputable def A9(r r':R2)(ta tb tc:TE):TE:=λσ H Q=>ta σ H λx H1=>tb σ H1 λy H2=>r x y H2 λz H3=>∃k,z=.bl k/\
 (if k=Λ then tc σ H3 λw' H4=>r' y w' H4 Q else Q (.bl Ξ) H3)
theorem E7(ho:kg X (Yw op) r)(oR:kg X (Yw Px) r')(ha:PE X a ta)(hb:PE X b tb)(hc:PE X c tc)(hm:lastMarks [op,Px] [b,c]=Ξ:=by with_unfolding_all rfl):PE X (.Compare a [op,Px] [b,c] pos) (A9 r r' ta tb tc):=by intro η s σ H Q I h;refine Compare_chain (bR (ha η s σ H _ I h) λv s1 ⟨x,H1,I1,r1,q1⟩=>chain_link (bR (hb η s1 σ H1 _ I1 q1) λu s2 ⟨y,H2,I2,r2,q2⟩=>bR (ho η s2 σ H2 x y v u _ I2 r1 r2 q2) λd s3 ⟨z,H3,I3,r3,k,e,q3⟩=>?_)) hm;subst e;cases r3;refine YI ?_;cases k with|false=>exact ite_ff ⟨.bl Ξ,H3,I3,rfl,q3⟩|true=>exact ite_tt (chain_last (bR (hc η s3 σ H3 _ I3 q3) λw' s4 ⟨z',H4,I4,r4,q4⟩=>oR η s4 σ H4 y z' u w' Q I4 r2 r4 q4))
theorem E8(ho:kg X (Yw op) r)(oR:kg X (Yw Px) r')(ha:PE X a ta)(hb:PE X b tb)(hc:PE X c tc)(hm:lastMarks [op,Px] [b,c]=Ξ:=by with_unfolding_all rfl):PT X (.Compare a [op,Px] [b,c] pos) (KC (A9 r r' ta tb tc)):=by intro η s σ H Q I h;refine isTrue_chain (bR (ha η s σ H _ I h) λv s1 ⟨x,H1,I1,r1,q1⟩=>test_link (bR (hb η s1 σ H1 _ I1 q1) λu s2 ⟨y,H2,I2,r2,q2⟩=>bR (ho η s2 σ H2 x y v u _ I2 r1 r2 q2) λd s3 ⟨z,H3,I3,r3,k,e,q3⟩=>?_)) hm;subst e;cases r3;refine YI ?_;cases k with|false=>obtain⟨k',e',q'⟩:=q3;cases e';exact ite_ff ⟨H3,I3,q'⟩|true=>refine ite_tt (test_last (bR (hc η s3 σ H3 _ I3 q3) λw' s4 ⟨z',H4,I4,r4,q4⟩=>bR (oR η s4 σ H4 y z' u w' _ I4 r2 r4 q4) λd' s5 ⟨z2,H5,I5,r5,k2,e2,q5⟩=>?_));subst e2;cases r5;exact YI ⟨H5,I5,q5⟩
def Dw(K:Xf)(x:V)(H:Hp)(k:Bool):Prop:=
 match x with|.bu=>k=Ξ|.bl b=>k=b|.int i=>k=(i !=0)|.str y=>y.length<=Xv/\k=((y.length:Int)!=0)|.Oz y=>y.size<=Xv/\k=((y.size:Int)!=0)|.ref p=>(∃xs,kC K H p xs/\k=!xs.isEmpty)\/(∃xs,eY K H p xs/\k=!xs.isEmpty)\/∃kvs,H p=Δ (.dK kvs)/\k=!kvs.isEmpty|_=>False
theorem Ba(r:KV kvs vs):(!vs.isEmpty)=!kvs.isEmpty:=by cases r<;>rfl
theorem sA(r:aS xs its):(!its.toArray.isEmpty)=!xs.isEmpty:=by cases r<;>simp
theorem oU:(Xv:Nat) < 2 ^ 63:=by rw[YJ];decide
theorem E9:Uh X (λx H Q=>∃k,Dw X.K x H k/\Q k H):=by
 intro η s σ H x v Q I rx h;obtain⟨k,e,q⟩:=h;have hl:=oU;have hs:Xv=16777216:=YJ;cases x with
 |bu=>cases rx;have e':k=Ξ:=e;subst e';exact truthy_none ⟨H,I,q⟩|bl b=>cases rx;have e':k=b:=e;subst e';exact YI ⟨H,I,q⟩|int i=>obtain⟨t,rfl⟩:=rx;have e':k=(i !=0):=e;subst e';exact PySem.P.truthy_int ⟨H,I,q⟩|str y=>obtain⟨t,rfl⟩:=rx;obtain⟨hy,e'⟩:y.length<=Xv/\k=((y.length:Int)!=0):=e;subst e';exact PySem.P.truthy_str (by lia) ⟨H,I.tok _,q⟩|Oz y=>obtain⟨t,rfl⟩:=rx;obtain⟨hy,e'⟩:y.size<=Xv/\k=((y.size:Int)!=0):=e;subst e';exact PySem.W.truthy_bytes (by lia) ⟨H,I.tok _,q⟩|ref p=>
  cases rx;have e':(∃xs,kC X.K H p xs/\k=!xs.isEmpty)\/(∃xs,eY X.K H p xs/\k=!xs.isEmpty)\/∃kvs,H p=Δ (.dK kvs)/\k=!kvs.isEmpty:=e;rcases e' with ⟨xs,hx,e'⟩|⟨xs,hx,e'⟩|⟨kvs,hx,e'⟩
  ·subst e';obtain⟨its,r,pl,hz⟩:=I.list hx;have hlen:=r.length;exact wpAny_truthy_list pl.isList (by simp only[Xh];lia) ⟨H,I.tok _,by rw[sA r];exact q⟩
  ·subst e';obtain⟨its,r,pl,hz⟩:=I.tuple hx;have hlen:=r.length;exact truthy_tuple pl (by simp only[Xh];lia) ⟨H,I.tok _,by rw[sA r];exact q⟩
  ·subst e';obtain⟨hz,hS,vs,r,m⟩:kvs.length<=Xv/\(p==YZ)=Ξ/\∃vs,KV kvs vs/\s.heap.DictOf (be X.prog X.w) p vs:=I.aL p _ hx;have hlen:kvs.length=vs.length:=abP r;exact wpAny_truthy_dict hS m (by lia) ⟨H,I.tok _,by rw[Ba r];exact q⟩
 |_=>exact(show False from e).elim
theorem Fb(ha:PE X a ta)(he:∀whole,acL a X.env whole=(do let v<-whole;ab5 a.pos;acp [v] (truthy v))):
  PT X a (λσ H Q=>ta σ H λx H'=>∃k,Dw X.K x H' k/\Q k H'):=by
 intro η s σ H Q I h;exact isTrue_plain (bR (ha η s σ H _ I h) λv s1 ⟨x,H1,I1,r1,q1⟩=>E9 η s1 σ H1 x v Q I1 r1 q1) (he _)
theorem Bb:kg X (ZD .Add) (λx y H Q=>∃i j,x=.str i/\y=.str j/\i.length+j.length<=Xv/\Q (.str (i++j)) H):=by intro η s σ H x y v u Q I rx ry h;obtain⟨i,j,rfl,rfl,hz,q⟩:=h;obtain⟨t,rfl⟩:=rx;obtain⟨t',rfl⟩:=ry;exact add_str (λt' tk=>⟨.str (i++j),H,I.tok _,⟨_,rfl⟩,q⟩) hz
theorem vals1(r:aS [x] us):∃u,us=[u]/\RelV x u:=by cases r with|cons r1 r2=>cases r2;exact⟨_,rfl,r1⟩
theorem vals2(r:aS [x,y] us):∃u w',us=[u,w']/\RelV x u/\RelV y w':=by cases r with|cons r1 r2=>cases r2 with|cons r3 r4=>cases r4;exact⟨_,_,rfl,r1,r3⟩
theorem Dx(hc:X.calm=Λ):eO X (.builtin "max") (λxs H Q=>∃i j,xs=[.int i,.int j]/\Q (.int (if j > i then j else i)) H):=by
 intro η s σ H xs us Q I r h;obtain⟨i,j,rfl,q⟩:=h;obtain⟨u,w',rfl,⟨t,rfl⟩,⟨t',rfl⟩⟩:=vals2 r;refine max_two_ints (I.ok.hd hc) λh' tk k=>⟨_,H,I.kept k,?_,q⟩;by_cases hj:j > i;·rw[if_pos hj,if_pos hj];exact⟨_,rfl⟩
 ·rw[if_neg hj,if_neg hj];exact⟨_,rfl⟩
theorem Dy(hc:X.calm=Λ):eO X (.builtin "min") (λxs H Q=>∃i j,xs=[.int i,.int j]/\Q (.int (if j < i then j else i)) H):=by
 intro η s σ H xs us Q I r h;obtain⟨i,j,rfl,q⟩:=h;obtain⟨u,w',rfl,⟨t,rfl⟩,⟨t',rfl⟩⟩:=vals2 r;refine min_two_ints (I.ok.hd hc) λh' tk k=>⟨_,H,I.kept k,?_,q⟩;by_cases hj:j < i;·rw[if_pos hj,if_pos hj];exact⟨_,rfl⟩
 ·rw[if_neg hj,if_neg hj];exact⟨_,rfl⟩
theorem xl:eO X (.type "str") (λxs H Q=>∃i,xs=[.int i]/\i.natAbs.log2 < 1920/\Q (.str (toString i)) H):=by intro η s σ H xs us Q I r h;obtain⟨i,rfl,hz,q⟩:=h;obtain⟨u,rfl,t,rfl⟩:=vals1 r;exact PySem.P.str_of_int hz ⟨.str _,H,I.tok _,⟨_,rfl⟩,q⟩
end
structure Bc(h:Heap)(x dx C:Addr)(mA:Str->Option Value):Prop where
 obj:h.get? x=Δ (Zm C dx)
 ns:h.Ns1 dx mA
 ne:dx≠x
theorem Dz{h:Heap}(n:h.Ns1 dx mA):∃od,h.get? dx=Δ od/\∀name,abu name od=Δ (mA name):=by
 obtain⟨o,es,ep,ho,hd,hk,_,hm⟩:=n;refine⟨o,ho,λname=>?_⟩;have e:=hm name;unfold nsFind findBy at e;rw[<-Array.find?_toList] at e;unfold abu;rw[hd];dsimp only;split;·rename_i y q;rw[q] at e;exact congrArg Δ e
 ·rename_i q;rw[q] at e;have a:es.toList.any (·.refKey)=Ξ:=by rw[abI];intro y hy;obtain⟨z,t,Ui⟩:=hk y (Array.mem_toList_iff.mp hy);simp[DictEntry.refKey,Ui]
  have a':¬es.toList.any (·.refKey)=Λ:=by rw[a];exact X8
  rw[if_neg a'];exact congrArg Δ e
theorem Bc.look(I:Bc h x dx C mA):∃od,PySem.W.InstAt h x (Zm C dx) C (Δ od)/\∀name,abu name od=Δ (mA name):=
 let ⟨od,ho,hl⟩:=Dz I.ns
 ⟨od,⟨I.obj,rfl,rfl,ho⟩,hl⟩
section
variable{prog:Yb}{w:World}{A:YF}{E:Value->Xp->Prop}{s:Xp}{K:Xf}{x dx C f:Addr}{mA:Str->Option Value}{name:Str}{v:Value}
theorem get_map(X:K.In s.heap)(I:Bc s.heap x dx C mA)(hg:aaq K C name=Λ)(hh:aaM K C=Λ)(ha:XT K (.ref C) name=Δ Θ)(hv:mA name=Δ v)(Su:PySem.W.handedIn v=Λ)(h:Q v {s with toks:=s.toks+1}):
  wpAny (model prog w) A (getAttr (.ref x) name expr) Q E s:=by
 obtain⟨od,J,hl⟩:=I.look;exact PySem.W.get_value X J (abj hg).1 (PySem.W.findObj_own hh ha rfl (by rw[hl,hv])) Su h
theorem Fc(X:K.In s.heap)(I:Bc s.heap x dx C mA)(hg:aaq K C name=Λ)(hf:XT K (.ref C) name=Δ (Δ (.ref f)))(ht:Z9 K (.ref f)=Λ)(hv:mA name=Θ)(h:Q (.ref f,[.ref x]) s):
  wpAny (model prog w) A (abU (.ref x) name pl) Q E s:=by
 obtain⟨od,J,hl⟩:=I.look;exact PySem.W.method_fn X J (abj hg).1 (abj hg).2 hf (beq_iff_eq.mp ht) (by show(abu name od).map (·.isSome)=Δ Ξ;rw[hl,hv];rfl) h
theorem Ie(X:K.In s.heap)(I:Bc s.heap x dx C mA)(hs:XT K (.ref C) "__setattr__"=Δ (Δ (.builtin "object.__setattr__")))(hp:abC K C=Λ)(ht:acf K C name=Δ Θ)(hh:aaM K C=Λ)(hw:acF mA ns)(hsz:ns.length<=Xv)(h:∀h',Bc h' x dx C (λy=>if y=name then Δ v else mA y)->ZU dx s.heap h'->Q () {s with heap:=h',toks:=s.toks+2}):
  wpAny (model prog w) A (setAttr (.ref x) name v) Q E s:=by
 obtain⟨od,J,hl⟩:=I.look;refine PySem.W.set_plain X J hs (PySem.W.osa_open (s:={s with toks:=s.toks+1}) (r:=Θ) X J hp ht λb=>?_);obtain⟨cd,hc,Ck⟩:=PySem.W.any_some hh;have hx:s.heap.get? x=Δ ⟨.ref C,Δ dx,.plain,#[]⟩:=I.obj;refine W2 (Xe (W2 (W2 (wpAny_loadPart hx (W2 (PySem.W.Looks.here (s:={s with toks:=s.toks+1}) (PySem.W.looks_clsIn X hc) ?_))))));rw[Ck];refine Xe (a:=Δ dx) (W2 (Xe (W2 ?_)));refine wpAny_nsSet1 (s:={s with toks:=s.toks+1}) I.ns λh' Sv sv=>?_;obtain⟨oD,esD,epD,hoD,hdD,hcD⟩:=Sv.count (acF.cons name v hw);refine W2 (wpAny_lookBehind hoD (by rw[hdD];exact pastItsLine_dict (XW hcD (by rw[Xq];lia))) ?_);exact Xe (h _ ⟨(sv.2 _ (Yc I.ne)).trans I.obj,Sv,I.ne⟩ sv)
theorem Fd(X:K.In s.heap)(hm:acg K C=Λ)(hi:XT K (.ref C) "__init__"=Δ (Δ (.ref f)))(hf:PySem.W.typeIn K (.ref f)=Δ (.type "function"))(h:aa9 (model prog w) (A.under (.builtin "type.__call__" ⟨.ref C::vs,kw⟩)) (.call (.ref f) ⟨.ref (s.heap.objs.size+1)::vs,kw⟩) (PySem.W.InitBack (s.heap.objs.size+1) R)
   {s with heap:=(s.heap.push YK).push (Zm C s.heap.objs.size)}):
  aa9 (model prog w) A (.call (.ref C) ⟨vs,kw⟩) R s:=by
 obtain⟨hh,g,d,t,os⟩:=s;exact PySem.W.make_core (PySem.W.makes_of X hm) (PySem.W.looks_findIn X hi) (λself=>PySem.W.bind_fn X self hf) (.inl rfl) h
end
noncomputable def jI(f:Str)(v:V):List (Str×V)->List (Str×V)
 |[]=>[(f,v)]|(g,x)::r=>if g=f then(g,v)::r else(g,x)::jI f v r
theorem qh f g v:∀fs:List (Str×V),(jI f v fs).lookup g=if g=f then Δ v else fs.lookup g
 |[]=>by
  show Y7 g [(f,v)]=_;by_cases h:g=f;·have hb:(g==f)=Λ:=beq_iff_eq.mpr h;simp only[Y7,hb,if_pos h]
  ·have hb:(g==f)=Ξ:=beq_eq_false_iff_ne.mpr h;simp only[Y7,hb,if_neg h]
 |(k,x)::r=>by
  have ih:=qh f g v r;rw[show jI f v ((k,x)::r)=(if k=f then(k,v)::r else(k,x)::jI f v r) from rfl];by_cases hk:k=f
  ·rw[if_pos hk];by_cases h:g=k;·have hb:(g==k)=Λ:=beq_iff_eq.mpr h;simp only[Y7,hb,if_pos (h.trans hk)]
   ·have hb:(g==k)=Ξ:=beq_eq_false_iff_ne.mpr h;simp only[Y7,hb,if_neg (λe:g=f=>h (e.trans hk.symm))]
  ·rw[if_neg hk];by_cases h:g=k;·have hb:(g==k)=Λ:=beq_iff_eq.mpr h;simp only[Y7,hb,if_neg (λe:g=f=>hk (h.symm.trans e))]
   ·have hb:(g==k)=Ξ:=beq_eq_false_iff_ne.mpr h;simp only[Y7,hb];exact ih
theorem oV f v:∀fs:List (Str×V),f∈(jI f v fs).map (·.1)/\∀g,g∈fs.map (·.1)->g∈(jI f v fs).map (·.1)
 |[]=>⟨by simp[jI],λg h=>by simp at h⟩|(k,x)::r=>by
  obtain⟨i1,i2⟩:=oV f v r;rw[show jI f v ((k,x)::r)=(if k=f then(k,v)::r else(k,x)::jI f v r) from rfl];by_cases hk:k=f;·rw[if_pos hk];subst hk;exact⟨by simp,λg h=>by simpa using h⟩
  ·rw[if_neg hk];refine⟨?_,λg h=>?_⟩;·rw[Xi];exact W5 _ i1
   ·rw[Xi] at h ⊢;rcases Zy.mp h with e|e;·exact Zy.mpr (.inl e)
    ·exact W5 _ (i2 g e)
theorem qi f v:∀fs:List (Str×V),(jI f v fs).length<=fs.length+1
 |[]=>by simp[jI]|(k,x)::r=>by
  have ih:=qi f v r;rw[show jI f v ((k,x)::r)=(if k=f then(k,v)::r else(k,x)::jI f v r) from rfl];by_cases hk:k=f;·rw[if_pos hk,Xq,Xq];lia
  ·rw[if_neg hk,Xq,Xq];lia
theorem kz.some_of(r:kz (Δ v) o):∃u,o=Δ u/\RelV v u:=by cases o with|none=>exact(show False from r).elim|some u=>exact⟨u,rfl,r⟩
theorem kz.none_of(r:kz Θ o):o=Θ:=by cases o with|none=>rfl|some u=>exact(show False from r).elim
theorem DA(r:RelV v u):PySem.W.handedIn u=Λ:=by cases v with|bu=>cases (show u=Zd from r);rfl|bl b=>cases (show u=Z8 b from r);rfl|int i=>obtain⟨t,e⟩:=(show ∃t,u=aa5 i t from r);cases e;rfl|str x=>obtain⟨t,e⟩:=(show ∃t,u=aa4 x t from r);cases e;rfl|Oz b=>obtain⟨t,e⟩:=(show ∃t,u=Value.bytes b t from r);cases e;rfl|Ly b=>obtain⟨t,e⟩:=(show ∃t,u=acO b t from r);cases e;rfl|ref a=>cases (show u=XC a from r);rfl|ty n=>cases (show u=Z7 n from r);rfl
section
variable{P:Yb}{w:World}{H H':Hp}{h h':Heap}{a C dx:Addr}{fs fs':List (Str×V)}
theorem rL(aL:kA P w H h)(e:H a=Δ (.ins C dx fs)):∃mA,Bc h a dx C mA/\(∀f,kz (fs.lookup f) (mA f))/\acF mA (fs.map (·.1))/\fs.length<=1000/\H dx=Δ (.own a):=by obtain⟨d,z,ne,ob,mA,n,r,q⟩:=(show bI P w H h a (.ins C dx fs) from aL a _ e);exact⟨mA,⟨ob,n,ne⟩,r,q,z,d⟩
end
structure AY(K:Xf)(C:Addr):Prop where
 pg:aaq K C Str.empty=Λ
 hd:aaM K C=Λ
 po:abC K C=Λ
 sa:XT K (.ref C) "__setattr__"=Δ (Δ (.builtin "object.__setattr__"))
theorem AY.get{K:Xf}(c:AY K C)f:aaq K C f=Λ:=c.pg
noncomputable def jJ(K:Xf)(C:Addr)(f:Str):Prop:=XT K (.ref C) f=Δ Θ
theorem jJ.Py{K:Xf}(n:jJ K C f):acf K C f=Δ Θ:=by unfold acf;rw[show XT K (.ref C) f=Δ Θ from n];rfl
structure Bd(K:Xf)(C:Addr)(m:Str)(f:Addr):Prop where
 at_:XT K (.ref C) m=Δ (Δ (.ref f))
 fn:Z9 K (.ref f)=Λ
 kp:ZE K (.ref f)=Λ
section
variable{X:Cx}{η:List (Addr×Obj)}{σ:St}{H:Hp}{s:Xp}{a C dx:Addr}{fs:List (Str×V)}{f:Str}{v:V}{A:YF}{E:Value->Xp->Prop}
theorem Be(I:Inv X η σ H s)(e:H a=Δ (.ins C dx fs))(c:AY X.K C)(n:jJ X.K C f)(l:fs.lookup f=Δ v)(h:∀u s',Inv X η σ H s'->RelV v u->Q u s'):wpAny (model X.prog X.w) A (getAttr (.ref a) f b) Q E s:=by obtain⟨mA,O,r,_,_,_⟩:=rL I.aL e;obtain⟨u,hu,ru⟩:=kz.some_of (v:=v) (o:=mA f) (by rw[<-l];exact r f);exact get_map I.nh O (c.get f) c.hd n hu (DA ru) (h u _ (I.tok _) ru)
theorem mv(I:Inv X η σ H s)(e:H a=Δ (.ins C dx fs))(c:AY X.K C)(k:Bd X.K C m g)(l:fs.lookup m=Θ)(h:Q (.ref g,[.ref a]) s):wpAny (model X.prog X.w) A (abU (.ref a) m pl) Q E s:=by obtain⟨mA,O,r,_,_,_⟩:=rL I.aL e;have hn:mA m=Θ:=kz.none_of (by rw[<-l];exact r m);exact Fc I.nh O (c.get m) k.at_ k.fn hn h
theorem Bg(I:Inv X η σ H s)(e:H a=Δ (.ins C dx fs))(c:AY X.K C)(n:jJ X.K C f)(hl:fs.length < 1000)(ry:RelV y u)(h:∀s',Inv X η σ (upd H a (.ins C dx (jI f y fs))) s'->Q () s'):wpAny (model X.prog X.w) A (setAttr (.ref a) f u) Q E s:=by
 obtain⟨mA,O,r,wi,_,ho⟩:=rL I.aL e;have hz:(fs.map (·.1)).length<=Xv:=by rw[Xc,YJ];lia
 refine Ie I.nh O c.sa c.po n.Py c.hd wi hz λh' O' sb=>h _ ?_;have hd:∃o,h'.get? dx=Δ o:=let ⟨o,_,_,e',_⟩:=O'.ns;⟨o,e'⟩
 refine I.write (x:=a) (e:=dx) (by rw[e];exact YH) (.inr ho) (λb q hb z=>(sb.2 b hb).trans z) hd ?_;refine⟨by rw[ax O.ne];exact ho,?_,O.ne,O'.obj,_,O'.ns,λg=>?_,λg hg=>?_⟩;·have:=qi f y fs;lia
 ·show kz ((jI f y fs).lookup g) (if g=f then Δ u else mA g);rw[qh];by_cases q:g=f;·rw[if_pos q,if_pos q];exact ry
  ·rw[if_neg q,if_neg q];exact r g
 ·by_cases q:g=f;·rw[q];exact(oV f y fs).1
  ·refine(oV f y fs).2 g (wi g λz=>hg ?_);show(if g=f then Δ u else mA g)=Θ;rw[if_neg q];exact z
theorem Inv.made(I:Inv X η σ H s):Inv X η σ (upd (upd H s.heap.objs.size (.own (s.heap.objs.size+1))) (s.heap.objs.size+1) (.ins C s.heap.objs.size []))
  {s with heap:=(s.heap.push YK).push (Zm C s.heap.objs.size)}:=by
 have e1:(s.heap.push YK).get? s.heap.objs.size=Δ YK:=Xj s.heap rfl;have e2:((s.heap.push YK).push (Zm C s.heap.objs.size)).get? (s.heap.objs.size+1)=Δ (Zm C s.heap.objs.size):=by have:=Xj (s.heap.push YK) (o:=Zm C s.heap.objs.size) rfl;rwa [YA] at this
 have e3:(s.heap.push YK).Ns s.heap.objs.size (λ_=>Θ):=⟨YK,#[],_,e1,rfl,(λe he=>absurd he (by simp)),λ_=>rfl⟩;have I1:=I.laid (a:=s.heap.objs.size) (o:=.own (s.heap.objs.size+1)) (h':=s.heap.push YK) (t':=s.toks) (λb u q=>W4 _ q) (Xd _) ⟨_,e1⟩;refine I1.laid (a:=s.heap.objs.size+1) (o:=.ins C s.heap.objs.size []) (t':=s.toks) (λb u q=>W4 _ q) (abo (YA _ _)) ?_;have ne:s.heap.objs.size≠s.heap.objs.size+1:=XD (YT _);refine⟨by rw[ax ne,aD],Yj _,ne,e2,λ_=>Θ,(Heap.Ns1.of_empty e3).at λo q=>W4 _ q,λ_=>YH,λy hy=>absurd rfl hy⟩
theorem Ig(hb:ZV e f env (eval e env)=eval e env)(h:wpAny (model prog w) A (eval e env) (λo bA=>wpAny (model prog w) A (getAttr o f Λ) Q E bA) E s):wpAny (model prog w) A (eval (.Attribute e f pos) env) Q E s:=
 Attribute_any_ h (by rw[arm_eval_Attribute,hb])
end
def Uj(K:Xf)(ta:TE)(f:Str):TE:=λσ H Q=>ta σ H λx H1=>∃a C dx fs v,x=.ref a/\H1 a=Δ (.ins C dx fs)/\AY K C/\jJ K C f/\fs.lookup f=Δ v/\Q v H1
def Uk(K:Xf)(ta tv:TE)(f:Str):TS:=λD σ H=>tv σ H λy H1=>ta σ H1 λx H2=>∃a C dx fs,x=.ref a/\H2 a=Δ (.ins C dx fs)/\AY K C/\jJ K C f/\fs.length < 1000/\
 D.nx σ (upd H2 a (.ins C dx (jI f y fs)))
section
variable{X:Cx}{o e value:Expr}{f:Str}{pos pos' Ul:Pos}{ta tv:TE}
theorem LS(he:PE X e ta)(hb:ZV e f X.env (eval e X.env)=eval e X.env):PE X (.Attribute e f pos) (Uj X.K ta f):=by intro η s σ H Q I h;refine Ig hb (bR (he η s σ H _ I h) λu s1 ⟨x,H1,I1,rx,a,C,dx,fs,v,ex,ea,c,n,l,q⟩=>?_);subst ex;obtain rfl:u=XC a:=rx;exact Be I1 ea c n l λu' s2 I2 ru=>⟨v,H1,I2,ru,q⟩
theorem LU(ha:PE X o ta)(hv:PE X value tv)(hs:aao value (Δ (.Attribute o f pos')) pos.line X.env=pure Ξ):PS X (.Assign [.Attribute o f pos'] value pos) (Uk X.K ta tv f):=by intro η s σ H D I h;refine plainObj_wpAny_Assign_Attribute (bR (hv η s σ H _ I h) λu s1 ⟨y,H1,I1,ry,q⟩=>bR (ha η s1 σ H1 _ I1 q) λov s2 ⟨x,H2,I2,rx,a,C,dx,fs,ex,ea,c,n,l,q2⟩=>?_) hs;subst ex;obtain rfl:ov=XC a:=rx;exact Bg I2 ea c n l ry λs3 I3=>⟨σ,_,I3,q2⟩
theorem KD(he:PE X e te)(I:Inv X η σ H s)(h:te σ H λx H1=>∃a C dx fs g,x=.ref a/\H1 a=Δ (.ins C dx fs)/\AY X.K C/\Bd X.K C m g/\fs.lookup m=Θ/\
   ∀s1,Inv X η σ H1 s1->wpAny (model X.prog X.w) X.A (acE pos (.ref g) [.ref a] (Zk pos (XG args X.env)) (abc pos (Z6 [] X.env))) Q X.xe s1)(ht:eval (.Call (.Attribute e m apos) args [] pos) X.env=(do
   let ov<-eval e X.env
   ab5 apos.atName
   let (f,first)<-acp [ov] (abU ov m pl)
   acE pos f first (Zk pos (XG args X.env)) (abc pos (Z6 [] X.env)))):
  wpAny (model X.prog X.w) X.A (eval (.Call (.Attribute e m apos) args [] pos) X.env) Q X.xe s:=by
 refine aaW (pl:=pl) (bR (he η s σ H _ I h) λu s1 ⟨x,H1,I1,rx,a,C,dx,fs,g,ex,ea,c,k,l,q⟩=>?_) ht;subst ex;obtain rfl:u=XC a:=rx;exact mv I1 ea c k l (q s1 I1)
end
section
variable{X:Cx}{η:List (Addr×Obj)}{σ:St}{H:Hp}{s:Xp}{A:YF}{E:Value->Xp->Prop}{Q:Value->Xp->Prop}{c:Value}{b:Bool}
inductive mw (K:Xf) (H:Hp):V->Value->Prop where
 |bu:mw K H .bu (.type "NoneType")
 |bl (x:Bool):mw K H (.bl x) (.type "bool")
 |int (i:Int):mw K H (.int i) (.type "int")
 |str (x:Str):mw K H (.str x) (.type "str")
 |Ly (x:UInt64):mw K H (.Ly x) (.type "float")
 |lst {a:Addr} {xs:List V} (e:H a=Δ (.lst xs)):mw K H (.ref a) (.type "list")
 |dz {a:Addr} {o:Obj} {xs:List V} (e:H a=Δ (.dz o (.lst xs))):mw K H (.ref a) (.type "list")
 |tup {a:Addr} {xs:List V} (e:H a=Δ (.tup xs)):mw K H (.ref a) (.type "tuple")
 |dK {a:Addr} {kvs:List (Key×V)} (e:H a=Δ (.dK kvs)):mw K H (.ref a) (.type "dict")
 |dT {a:Addr} {kvs:List (List Key×V)} (e:H a=Δ (.dT kvs)):mw K H (.ref a) (.type "dict")
 |ins {a C dx:Addr} {fs:List (Str×V)} (e:H a=Δ (.ins C dx fs)) (cl:AY K C) (ha:XT K (.ref C) "__class__"=Δ (Δ (.builtin "object.__class__")))
   (hn:PySem.W.specialIn K (.builtin "object.__class__") "__get__"=Δ (Δ (.builtin "getset_descriptor.__get__"))) (htk:PySem.W.takesIn K (.builtin "object.__class__")=Δ Λ)
   (hm:PySem.W.mroIn K C (.type "object")=Δ Λ):mw K H (.ref a) (.ref C)
theorem oW(I:Inv X η σ H s)(rx:RelV x u)(ty:mw X.K H x t)(e:acn X.K t c=Δ b)(h:∀tk,Q (.bool b) {s with toks:=tk}):
  wpAny (model X.prog X.w) A (call (.builtin "isinstance") [u,c]) Q E s:=by
 cases ty with
 |bu=>cases (show u=Zd from rx);exact Yt PySem.W.kitx_none I.nh YH e (λz=>nomatch z) h|bl y=>cases (show u=Z8 y from rx);exact Yt PySem.W.kitx_bool I.nh YH e (λz=>nomatch z) h|int i=>obtain⟨t,q⟩:=(show ∃t,u=aa5 i t from rx);cases q;exact Yt PySem.W.kitx_int I.nh YH e (λz=>nomatch z) h|str y=>obtain⟨t,q⟩:=(show ∃t,u=aa4 y t from rx);cases q;exact Yt PySem.W.kitx_str I.nh YH e (λz=>nomatch z) h|Ly y=>obtain⟨t,q⟩:=(show ∃t,u=acO y t from rx);cases q;exact Yt PySem.W.kitx_float I.nh YH e (λz=>nomatch z) h|@lst a xs ea=>cases (show u=XC a from rx);obtain⟨_,_,n,_,h1⟩:=(show bI X.prog X.w H s.heap a (.lst xs) from I.aL a _ ea);exact Yt PySem.W.kitx_list I.nh ⟨_,h1,rfl⟩ e (λz=>nomatch z) h
 |@dz a ob xs ea=>cases (show u=XC a from rx);obtain⟨_,_,_,n,_,h1⟩:=(show bI X.prog X.w H s.heap a (.dz ob (.lst xs)) from I.aL a _ ea);exact Yt PySem.W.kitx_list I.nh ⟨_,h1,rfl⟩ e (λz=>nomatch z) h|@tup a xs ea=>cases (show u=XC a from rx);obtain⟨_,_,_,p⟩:=(show bI X.prog X.w H s.heap a (.tup xs) from I.aL a _ ea);obtain⟨o,h1,h2,_⟩:=p;exact Yt PySem.W.kitx_tuple I.nh ⟨o,h1,h2⟩ e (λz=>nomatch z) h|@dK a kvs ea=>cases (show u=XC a from rx);obtain⟨_,_,vs,_,p⟩:=(show bI X.prog X.w H s.heap a (.dK kvs) from I.aL a _ ea);obtain⟨o,es,ep,h1,h2,_⟩:=p;exact Yt PySem.W.kitx_dict I.nh ⟨o,h1,h2.1⟩ e (λz=>nomatch z) h|@dT a kvs ea=>cases (show u=XC a from rx);obtain⟨_,_,xs,_,o,es,ep,h1,h2,_⟩:=(show bI X.prog X.w H s.heap a (.dT kvs) from I.aL a _ ea);exact Yt PySem.W.kitx_dict I.nh ⟨o,h1,h2.1⟩ e (λz=>nomatch z) h|@ins a C dx fs ea cl ha hn htk hm=>cases (show u=XC a from rx);obtain⟨mA,O,_⟩:=rL I.aL ea;obtain⟨od,J,_⟩:=O.look;exact Yt (PySem.W.kitx_own (cl.get _) cl.hd ha hn htk hm) I.nh J e (λz=>nomatch z) h
end
structure de(k:Nat)(A:YF):Prop where
 hd:A.handled=Θ
 dp:A.depth+3*k+5 < recursionLimit
 un:A.units+16*k+200 < cLine
theorem de.mono(r:de k A)(h:j<=k):de j A:=⟨r.hd,by have:=r.dp;lia,by have:=r.un;lia⟩
theorem de.deeper(r:de (k+1) A)env:de k (A.deeper env):=
 ⟨r.hd,by have:=r.dp;show A.depth+1+3*k+5 < _;lia,by have:=r.un;show A.units+3+16*k+200 < _;lia⟩
theorem Bh{A:YF}:(A.under (.builtin "type.__call__" ⟨.ref C::us,kw⟩)).depth=A.depth+1:=by first|rfl|simp[acJ,Code.weight,Code.isCreation,Code.isGuard,Code.isCaller,Code.frames,acI,guardIds]
theorem Bi{A:YF}:(A.under (.builtin "type.__call__" ⟨.ref C::us,kw⟩)).units=A.units+1:=by first|rfl|simp[acJ,Code.cUnits,Code.frames,acI]
theorem de.make(r:de (k+1) A)C us kw:de k (A.under (.builtin "type.__call__" ⟨.ref C::us,kw⟩)):=
 ⟨r.hd,by have:=r.dp;rw[Bh];lia,by have:=r.un;rw[Bi];lia⟩
theorem de.depth(r:de k A):A.depth < recursionLimit:=by have:=r.dp;lia
def LV:TA:=λ_ H Q=>Q [] H
def Pz(ta:TE)(tr:TA):TA:=λσ H Q=>ta σ H λx H1=>tr σ H1 λxs H2=>Q (x::xs) H2
section
variable{X:Cx}{e:Expr}{es:List Expr}{te:TE}{t:TA}{pos:Pos}
theorem Bj:PA X [] LV:=λ_ _ _ _ H Q I h=>aaU ⟨[],H,I,.nil,h⟩
theorem rM(ha:PE X e te)(hr:PA X es t)(hs:XG (e::es) X.env=(Ξ,eval e X.env)::XG es X.env:=by rfl):PA X (e::es) (Pz te t):=by intro pos η s σ H Q I h;rw[hs];show wpAny _ _ (spliced ((Ξ,eval e X.env)::Zk pos (XG es X.env))) _ _ s;refine aab (bR (ha η s σ H _ I h) λu s1 ⟨x,H1,I1,r1,q1⟩=>?_);exact bR (hr pos η s1 σ H1 _ I1 q1) λus s2 ⟨xs,H2,I2,r2,q2⟩=>⟨x::xs,H2,I2,.cons r1 r2,q2⟩
def Um(t:TA):TE:=λσ H Q=>t σ H λxs H1=>xs.length<=Xv/\∀p,H1 p=Θ->Q (.ref p) (upd H1 p (.tup xs))
def Uo(t:TA):TE:=λσ H Q=>t σ H λxs H1=>xs.length<=Xv/\∀p,H1 p=Θ->Q (.ref p) (upd H1 p (.lst xs))
theorem LW{x1}(h:PA X es t):PE X (.Tuple es x1 pos) (Um t):=by intro η s σ H Q I hq;refine wpAny_Tuple_spliced (bR (h pos η s σ H _ I hq) λus s1 ⟨xs,H1,I1,r,z,q⟩=>⟨by rw[<-r.length];exact z,?_⟩);have hf:H1 s1.heap.objs.size=Θ:=I1.aL.fresh (Xd _);refine⟨.ref s1.heap.objs.size,upd H1 s1.heap.objs.size (.tup xs),I1.laid (t':=s1.toks) (λb u e=>W4 _ e) (Xd _) ?_,rfl,q _ hf⟩;exact⟨z,us,r,⟨_,Xj _ rfl,rfl,_,rfl⟩⟩
theorem LX(h:PA X es t):PE X (.List es pos) (Uo t):=by intro η s σ H Q I hq;refine wpAny_List_spliced (bR (h pos η s σ H _ I hq) λus s1 ⟨xs,H1,I1,r,z,q⟩=>⟨by rw[<-r.length];exact z,?_⟩);have hf:H1 s1.heap.objs.size=Θ:=I1.aL.fresh (Xd _);refine⟨.ref s1.heap.objs.size,upd H1 s1.heap.objs.size (.lst xs),I1.laid (t':=s1.toks) (λb u e=>W4 _ e) (Xd _) ?_,rfl,q _ hf⟩;exact⟨z,us,0,r,Xj _ rfl⟩
end
abbrev Sp:=List V->Hp->VK->XK->Prop
abbrev HC:=List Env->Hp->Xp->XK->Value->Xp->Prop
structure xm(P:Yb)(w:World)(K:Xf)(mg:Str->Option Value)(base:Heap)(A:YF)(outer:List Env)(s:Xp)(H:Hp):Prop where
 frames:A.frames=Δ outer
 mod:Mod K mg base
 bs:∀b o,base.get? b=Δ o->s.heap.get? b=Δ o/\H b=Θ
 EJ:base.objs.size<=s.heap.objs.size
 mo:s.heap.FunFrames base outer
 HQ:∀b∈jF outer,H b=Θ
 aL:kA P w H s.heap
 bare:abK s.gens
def CE(outer:List Env)(P:Yb)(w:World)(H:Hp)(s:Xp)(Q:VK)(u:Value)(s':Xp):Prop:=
 ∃v H',s'.os=s.os/\abK s'.gens/\Un (jF outer) [] H H' s.heap s'.heap/\kA P w H' s'.heap/\RelV v u/\Q v H'
def CR(CX:HC)(outer:List Env)(P:Yb)(w:World)(H:Hp)(s:Xp)(Q:VK)(E:XK)(r:Result)(s':Xp):Prop:=
 match r with|.ok (.ret u)=>CE outer P w H s Q u s'|.ok _=>False|.error e=>CX outer H s E e s'
structure gp(P:Yb)(w:World)(K:Xf)(mg:Str->Option Value)(base:Heap)(CX:HC)(k:Nat)(f:Addr)(fd:Zb)(ps:List Str)(sp:Sp):Prop where
 len:∀vs H Q E,sp vs H Q E->vs.length=ps.length
 run:∀(A:YF) (outer:List Env) (s:Xp) (H:Hp) (args:Args) (us:List Value) (vs:List V) (Q:VK) (E:XK),de k A->xm P w K mg base A outer s H->acb s fd args (ps.zip us)->aS vs us->sp vs H Q E->
  aa9 (model P w) A (.call (.ref f) args) (CR CX outer P w H s Q E) s
theorem xm.make{K:Xf}(e:xm P w K mg base A outer s H)C us kw:
  xm P w K mg base (A.under (.builtin "type.__call__" ⟨.ref C::us,kw⟩)) outer s H:=⟨by first|exact e.frames|(simpa[acJ,Code.envs,acI,pushEnvs] using e.frames),e.mod,e.bs,e.EJ,e.mo,e.HQ,e.aL,e.bare⟩
section
variable{X:Cx}{η:List (Addr×Obj)}{σ:St}{H:Hp}{s s':Xp}
theorem Inv.PB(I:Inv X η σ H s):xm X.prog X.w X.K X.mg X.base X.A X.stack s H:=
 ⟨I.ok.frames,I.ok.mod,I.bs,XW I.ok.EJ I.sz,I.stack,I.ni,I.aL,I.bare⟩
theorem Inv.after(I:Inv X η σ H s)(h:CE X.stack X.prog X.w H s Q u s'):EP X η σ Q u s':=by obtain⟨v,H',os,bare,un,aL,r,q⟩:=h;obtain⟨hh,g,d,t,os'⟩:=s';obtain rfl:os'=s.os:=os;exact⟨v,H',I.call (h':=hh) (g':=g) (d':=d) (t':=t) (ch:=[]) un aL bare (λb z=>absurd z (by simp)),r,q⟩
end
noncomputable def Fe(sp:Sp)(dvs:List V)(E:XK)(t:TA):TE:=λσ H Q=>t σ H λvs H1=>sp (vs++dvs) H1 Q E
noncomputable def Cq(C:Addr)(m:Str)(sp:Sp)(dvs:List V)(E:XK)(ta:TE)(t:TA):TE:=λσ H Q=>ta σ H λx H1=>∃a dx fs,x=.ref a/\H1 a=Δ (.ins C dx fs)/\fs.lookup m=Θ/\
 t σ H1 λvs H2=>sp (x::(vs++dvs)) H2 Q E
def PC(C:Addr)(sp:Sp)(dvs:List V)(E:XK)(t:TA):TE:=λσ H Q=>t σ H λvs H1=>∀x dx,H1 x=Θ->H1 dx=Θ->dx≠x->
 sp (.ref x::(vs++dvs)) (upd (upd H1 dx (.own x)) x (.ins C dx [])) (λv H2=>v=.bu/\Q (.ref x) H2) E
noncomputable def Binds(K:Xf)(fd:Zb)(ps:List Str)(ds:List Value):Prop:=
 ∀(s:Xp) (us:List Value),K.In s.heap->(us++ds).length=ps.length->acb s fd ⟨us,[]⟩ (ps.zip (us++ds))
theorem Binds.all{K:Xf}(h:∀us:List Value,us.length=ps.length->acU fd ⟨us,[]⟩=pure (ps.zip us)):Binds K fd ps []:=λs us _ hl=>by rw[Ya] at hl ⊢;exact .of_eq (h us hl)
noncomputable def kD(CX:HC)(X:Cx)(E:XK):Prop:=∀(η:List (Addr×Obj)) (σ:St) (H:Hp) (s:Xp) (e:Value) (s':Xp),Inv X η σ H s->CX X.stack H s E e s'->X.xe e s'
section
variable{X:Cx}{CX:HC}{k:Nat}{f C:Addr}{fd:Zb}{ps:List Str}{sp:Sp}{dvs:List V}{ds:List Value}{E:XK}{x m:Str}{p pos apos:Pos}{e o:Expr}{es:List Expr}{ta:TE}{t:TA}
theorem sC(F:gp X.prog X.w X.K X.mg X.base CX k f fd ps sp)(hr:de k X.A)(hb:Binds X.K fd ps ds)(hd:aS dvs ds)(hx:kD CX X E)(I:Inv X η σ H s)(r:aS vs us)(h:sp (vs++dvs) H Q E):wpAny (model X.prog X.w) X.A (call (.ref f) us) (EP X η σ Q) X.xe s:=by
 have r2:aS (vs++dvs) (us++ds):=r.append hd;have hl:(us++ds).length=ps.length:=by rw[<-r2.length];exact F.len _ _ _ _ h
 refine acR (abm (F.run X.A X.stack s H ⟨us,[]⟩ (us++ds) (vs++dvs) Q E hr I.PB (hb s us I.nh hl) r2 h) λr s' hq=>?_);cases r with|error e=>exact hx η σ H s e s' I hq|ok fl=>cases fl with|ret u=>exact I.after hq|next=>exact Ys hq|brk=>exact Ys hq|cont=>exact Ys hq
theorem Ih(F:gp X.prog X.w X.K X.mg X.base CX k f fd ps sp)(hr:de k X.A)(hg:Gl X x)(hm:X.mg x=Δ (.ref f))(hk:ZE X.K (.ref f)=Λ)(hb:Binds X.K fd ps ds)(hd:aS dvs ds)(hx:kD CX X E)
  (ha:PA X (e::es) t) (Ii:(x==("__debug__":Str))=Ξ:=by decide) (he:XG (e::es) X.env=(Ξ,eval e X.env)::XG es X.env:=by rfl) (yD:(Zk pos (XG es X.env)).any (·.1)=Ξ:=by rfl):
  PE X (.Call (.Name x p) (e::es) [] pos) (Fe sp dvs E t):=by
 intro η s σ H Q I h;refine Yx (nq I hg hm ?_ Ii);refine aaD (h₀:=X.base) I.ok.mod.LB hk (bR (ha pos η s σ H _ I h) λus s1 ⟨vs,H1,I1,r,q⟩=>⟨I1.nh,?_⟩) he yD;exact sC F hr hb hd hx I1 r q
theorem Ff(F:gp X.prog X.w X.K X.mg X.base CX k f fd ps sp)(hr:de k X.A)(hg:Gl X x)(hm:X.mg x=Δ (.ref f))(hk:ZE X.K (.ref f)=Λ)(hb:Binds X.K fd ps ds)(hd:aS dvs ds)(hx:kD CX X E)
  (Ii:(x==("__debug__":Str))=Ξ:=by decide):PE X (.Call (.Name x p) [] [] pos) (Fe sp dvs E LV):=by
 intro η s σ H Q I h;refine Yx (nq I hg hm ?_ Ii);exact PySem.W.callWith_K0 I.nh hk (sC (us:=[]) F hr hb hd hx I .nil h)
theorem Ij(he:PE X o ta)(c:AY X.K C)(hm:Bd X.K C m f)(F:gp X.prog X.w X.K X.mg X.base CX k f fd ps sp)(hr:de k X.A)(hb:Binds X.K fd ps ds)(hd:aS dvs ds)(hx:kD CX X E)(ha:PA X (e::es) t)(qg:XG (e::es) X.env=(Ξ,eval e X.env)::XG es X.env:=by rfl)(yD:(Zk pos (XG es X.env)).any (·.1)=Ξ:=by rfl)(ht:eval (.Call (.Attribute o m apos) (e::es) [] pos) X.env=(do
   let ov<-eval o X.env
   ab5 apos.atName
   let (f,first)<-acp [ov] (abU ov m pl)
   acE pos f first (Zk pos (XG (e::es) X.env)) (abc pos (Z6 [] X.env))):=by rfl):
  PE X (.Call (.Attribute o m apos) (e::es) [] pos) (Cq C m sp dvs E ta t):=by
 intro η s σ H Q I h;refine aaW (pl:=pl) (bR (he η s σ H _ I h) λu s1 ⟨x,H1,I1,rx,a,dx,fs,ex,ea,l,q⟩=>?_) ht;subst ex;obtain rfl:u=XC a:=rx;refine mv I1 ea c hm l ?_;refine aaD (first:=[.ref a]) (h₀:=X.base) I.ok.mod.LB hm.kp (bR (ha pos η s1 σ H1 _ I1 q) λus s2 ⟨vs,H2,I2,r,q2⟩=>⟨I2.nh,?_⟩) qg yD;exact sC (us:=.ref a::us) (vs:=.ref a::vs) F hr hb hd hx I2 (.cons rfl r) q2
theorem Fg(he:PE X o ta)(c:AY X.K C)(hm:Bd X.K C m f)(F:gp X.prog X.w X.K X.mg X.base CX k f fd ps sp)(hr:de k X.A)(hb:Binds X.K fd ps ds)(hd:aS dvs ds)(hx:kD CX X E)(ht:eval (.Call (.Attribute o m apos) [] [] pos) X.env=(do
   let ov<-eval o X.env
   ab5 apos.atName
   let (f,first)<-acp [ov] (abU ov m pl)
   acE pos f first (Zk pos (XG [] X.env)) (abc pos (Z6 [] X.env))):=by rfl):
  PE X (.Call (.Attribute o m apos) [] [] pos) (Cq C m sp dvs E ta LV):=by
 intro η s σ H Q I h;refine aaW (pl:=pl) (bR (he η s σ H _ I h) λu s1 ⟨x,H1,I1,rx,a,dx,fs,ex,ea,l,q⟩=>?_) ht;subst ex;obtain rfl:u=XC a:=rx;refine mv I1 ea c hm l ?_;exact PySem.W.callWith_K0 (first:=[.ref a]) I1.nh hm.kp (sC (us:=[.ref a]) (vs:=[.ref a]) F hr hb hd hx I1 (.cons rfl .nil) q)
structure Mk(K:Xf)(C f:Addr):Prop where
 makes:acg K C=Λ
 init:XT K (.ref C) "__init__"=Δ (Δ (.ref f))
 fn:Z9 K (.ref f)=Λ
 kp:ZE K (.ref C)=Λ
theorem Fh(M:Mk X.K C f)(F:gp X.prog X.w X.K X.mg X.base CX k f fd ps sp)(hr:de (k+1) X.A)(hb:Binds X.K fd ps ds)(hd:aS dvs ds)(hx:kD CX X E)(I:Inv X η σ H s)(r:aS vs us)(h:∀x dx,H x=Θ->H dx=Θ->dx≠x->sp (.ref x::(vs++dvs)) (upd (upd H dx (.own x)) x (.ins C dx [])) (λv H2=>v=.bu/\Q (.ref x) H2) E):
  wpAny (model X.prog X.w) X.A (call (.ref C) us) (EP X η σ Q) X.xe s:=by
 have hq:=h (s.heap.objs.size+1) s.heap.objs.size (I.aL.fresh (Y6 _)) (I.aL.fresh (Xd _)) (XD (YT _));have I2:=Inv.made (C:=C) I;have r2:aS (V.ref (s.heap.objs.size+1)::(vs++dvs)) (XC (s.heap.objs.size+1)::(us++ds)):=.cons rfl (r.append hd);have hl:(XC (s.heap.objs.size+1)::us++ds).length=ps.length:=by have e:=r2.length;rw[F.len _ _ _ _ hq] at e;exact e.symm
 refine acR (Fd (f:=f) I.nh M.makes M.init (beq_iff_eq.mp M.fn) (abm (F.run _ X.stack _ _ ⟨XC (s.heap.objs.size+1)::us,[]⟩ (XC (s.heap.objs.size+1)::(us++ds)) _ _ E (hr.make C us [])
  (I2.PB.make C us []) (hb _ (XC (s.heap.objs.size+1)::us) I2.nh hl) r2 hq) λr s' yR=>?_))
 cases r with|error e=>exact hx η σ _ _ e s' I2 yR|ok fl=>cases fl with|ret u=>obtain⟨v,H',I3,rv,ev,q3⟩:=I2.after yR;subst ev;exact⟨rv,⟨V.ref (s.heap.objs.size+1),H',I3,rfl,q3⟩⟩|next=>exact Ys yR|brk=>exact Ys yR|cont=>exact Ys yR
theorem Ik(M:Mk X.K C f)(F:gp X.prog X.w X.K X.mg X.base CX k f fd ps sp)(hr:de (k+1) X.A)(hg:Gl X x)(hm:X.mg x=Δ (.ref C))(hb:Binds X.K fd ps ds)(hd:aS dvs ds)(hx:kD CX X E)
  (ha:PA X (e::es) t) (Ii:(x==("__debug__":Str))=Ξ:=by decide) (he:XG (e::es) X.env=(Ξ,eval e X.env)::XG es X.env:=by rfl) (yD:(Zk pos (XG es X.env)).any (·.1)=Ξ:=by rfl):
  PE X (.Call (.Name x p) (e::es) [] pos) (PC C sp dvs E t):=by
 intro η s σ H Q I h;refine Yx (nq I hg hm ?_ Ii);refine aaD (h₀:=X.base) I.ok.mod.LB M.kp (bR (ha pos η s σ H _ I h) λus s1 ⟨vs,H1,I1,r,q⟩=>⟨I1.nh,?_⟩) he yD;exact Fh M F hr hb hd hx I1 r q
end
section
variable{X:Cx}{CX:HC}{k:Nat}{f C:Addr}{fd:Zb}{ps ks:List Str}{sp:Sp}{E:XK}{x m:Str}{p pos apos kpos:Pos}{e o:Expr}{es:List Expr}{iE:List abJ}{te ta:TE}{t tk:TA}{nm:Option Str}
variable{g:List Value->List Value->List Value}{gV:List V->List V->List V}
end
structure nr(N P:List Str)(sc:Scope):Prop where
 kind:sc.kind=.function
 co:sc.isCoroutine=Ξ
 gen:sc.isGenerator=Ξ
 nd:N.Nodup
 pre:N.take P.length=P
 par:∀x∈P,sc.names.lookup x=Δ .local\/sc.names.lookup x=Δ .cell
 LY:∀y∈sc.names,y.2≠.free
theorem vR{aa3:Str->Option ZS}:∀{binds} {m},(∀v,(x,v)∉binds)->bindL aa3 binds m x=m x
 |[],_,_=>rfl|(n,v)::r,m,h=>by
  unfold bindL;rw[vR λw hw=>h w (W5 _ hw)];split
  ·have:x≠n:=by rintro rfl;exact h v W8
   simp[this]
  ·rfl
theorem vS{aa3:Str->Option ZS}:∀{binds} {m},(∀v,(x,v)∉binds)->bindC aa3 binds m x=m x
 |[],_,_=>rfl|(n,v)::r,m,h=>by
  unfold bindC;rw[vS λw hw=>h w (W5 _ hw)];split;·rfl
  ·have:x≠n:=by rintro rfl;exact h v W8
   simp[this]
theorem vT{aa3:Str->Option ZS}:∀{P:List Str} {vs} {i:Nat} {m},P.Nodup->P[i]?=Δ x->vs[i]?=Δ v->aa3 x=Δ .local->
  bindL aa3 (P.zip vs) m x=Δ v
 |[],_,_,_,_,h,_,_=>by simp at h|_::_,[],_,_,_,_,h,_=>by simp at h|p::P,w::vs,0,m,nd,h1,h2,hk=>by simp at h1 h2;subst h1;subst h2;show bindL aa3 ((p,w)::P.zip vs) m p=_;unfold bindL;rw[vR λv hv=>(YC.mp nd).1 (aac hv).1,if_pos hk];simp
 |p::P,w::vs,i+1,m,nd,h1,h2,hk=>by show bindL aa3 ((p,w)::P.zip vs) m x=_;unfold bindL;exact vT (i:=i) (YC.mp nd).2 (by simpa using h1) (by simpa using h2) hk
theorem vU{aa3:Str->Option ZS}:∀{P:List Str} {vs} {i:Nat} {m},P.Nodup->P[i]?=Δ x->vs[i]?=Δ v->aa3 x≠Δ .local->
  bindC aa3 (P.zip vs) m x=Δ v
 |[],_,_,_,_,h,_,_=>by simp at h|_::_,[],_,_,_,_,h,_=>by simp at h|p::P,w::vs,0,m,nd,h1,h2,hk=>by simp at h1 h2;subst h1;subst h2;show bindC aa3 ((p,w)::P.zip vs) m p=_;unfold bindC;rw[vS λv hv=>(YC.mp nd).1 (aac hv).1,if_neg hk];simp
 |p::P,w::vs,i+1,m,nd,h1,h2,hk=>by show bindC aa3 ((p,w)::P.zip vs) m x=_;unfold bindC;exact vU (i:=i) (YC.mp nd).2 (by simpa using h1) (by simpa using h2) hk
noncomputable def start(N:List Str)(vs:List V):St:=vs.map Δ++Yy (N.length - vs.length) Θ
noncomputable def xn(CX:HC)(P:Yb)(w:World)(K:Xf)(mg:Str->Option Value)(base:Heap)(N:List Str)(qual:Str)(scope:Scope)(f:Addr)(cd:Value)(A:YF)(outer:List Env)(s:Xp)(H:Hp)(E:XK):Cx where
 prog:=P
 w:=w
 K:=K
 mg:=mg
 base:=base
 A:=A.deeper (ab6 qual scope s.heap.objs.size f cd)
 N:=N
 gO:=s
 yN:=H
 env:=ab6 qual scope s.heap.objs.size f cd
 outer:=outer
 stack:=ab6 qual scope s.heap.objs.size f cd::outer
 ex:=[]
 calm:=Λ
 fn:=λ_=>Λ
 pn:=[]
 xe:=λe s'=>wpAny (model P w) (A.deeper (ab6 qual scope s.heap.objs.size f cd)) (leaving (ab6 qual scope s.heap.objs.size f cd) e) (λ_ LZ=>CX outer H s E e LZ) (λe' LZ=>CX outer H s E e' LZ) s'
theorem sD{sc:Scope}(h:sc.names.lookup x=Δ .cell):∃c,(cellsFrom n sc.names []).lookup x=Δ c:=by have q:=PySem.W.cellsFrom_some sc.names n [] (.inl h);exact Option.isSome_iff_exists.mp q
theorem DB{K:Xf}(S:nr N ps scope)(hd:A.handled=Θ)(e0:xm P w K mg base A outer s H)(hl:vs.length=ps.length)(r:aS vs us)(x:InCallC s s.heap.objs.size (bindL (ab6 qual scope s.heap.objs.size f cd).kindOf (ps.zip us) λ_=>Θ) (cellsFrom (s.heap.objs.size+1) scope.names []) (bindC (ab6 qual scope s.heap.objs.size f cd).kindOf (ps.zip us) λ_=>Θ) s1):
  Inv (xn CX P w K mg base N qual scope f cd A outer s H E) [] (start N vs) H s1:=by
 have yD:ps.length<=N.length:=by have:=congrArg abF S.pre;rw[Zg] at this;lia
 obtain⟨h1,tk,rfl,hk⟩:=x.done;have HD:∀b:Addr,b∉(xn CX P w K mg base N qual scope f cd A outer s H E).ex:=λb z=>absurd (show b∈([]:List Addr) from z) (by simp);refine⟨⟨e0.mod,S.kind,rfl,rfl,Xd _,λy z c h1 h2=>?_,λy hy=>?_,λy c _ h=>?_,λ_=>hd,YF.frames_deeper e0.frames,.inr ⟨rfl,rfl⟩,λb z=>absurd z (HD b),e0.bs,e0.EJ,λb _ _=>HD b,λb z=>absurd z (HD b),e0.mo,e0.HQ⟩,
  rfl,e0.bare,Un.kept hk,⟨_,x.toInCall.ns,λi y v h1 h2 h3=>?_⟩,λy c h=>⟨_,x.cell y c h⟩,e0.aL.fresh (Xd _),λy c h=>?_,λp hp=>absurd (show p∈([]:List (Addr×Obj)) from hp) (by simp),e0.aL.kept hk,?_⟩
 ·exact name_of_addr x.apart (XZ h1) (XZ h2)
 ·have hy:scope.names.lookup y=Δ .cell\/scope.names.lookup y=Δ .free:=hy;rcases hy with hy|hy;·exact sD hy
  ·exact absurd rfl (S.LY _ (XZ hy))
 ·exact aar (x.above y c (XZ h))
 ·have hi:i < vs.length:=by
   unfold start at h2;by_cases hi:i < vs.length;·exact hi
   ·rw[Xu (by simpa using hi)] at h2;rw[Z5] at h2;split at h2<;>cases h2
  have ha:vs[i]?=Δ v:=by unfold start at h2;rw[Xb (by simpa using hi),Xg] at h2;cases e:vs[i]? with|none=>rw[e] at h2;cases h2|some a=>rw[e] at h2;cases h2;rfl
  obtain⟨u,hu,rv⟩:=r.get ha;have hp:ps[i]?=Δ y:=by rw[<-S.pre,List.getElem?_take_of_lt (by lia)];exact h1
  have Sw:ps.Nodup:=by rw[<-S.pre];exact S.nd.sublist (List.take_sublist _ _)
  refine⟨u,rv,?_⟩;rcases S.par y (Xw hp) with k|k;·exact .inl ⟨k,vT Sw hp hu k⟩
  ·obtain⟨c,e⟩:=sD (n:=s.heap.objs.size+1) k;refine .inr ⟨.inl k,c,e,?_⟩;have q:=x.cell y c e;rw[vU Sw hp hu (by show scope.names.lookup y≠_;rw[k];decide)] at q;exact q
 ·exact e0.aL.fresh (aar (x.above y c (XZ h)))
 ·unfold start;show _=N.length;rw[Xs,Xc,aag]
  lia
theorem PD{K:Xf}{dV kV doc pm ky ct oc:Value}(lk:K.lookup f=Δ ⟨oc,od,.func (aaN name qual params body scope dV kV doc pm an ky ct),Il⟩)(qf:aco K ky qual=Λ)(S:nr N ps scope)(len:∀vs H Q E,sp vs H Q E->vs.length=ps.length)(sE:∀(A:YF) (outer:List Env) (s:Xp) (H:Hp) (vs:List V) (Q:VK) (E:XK),de k (A.deeper (ab6 qual scope s.heap.objs.size f ky))->sp vs H Q E->
   ∃t,mq (xn CX P w K mg base N qual scope f ky A outer s H E) body t/\t {nx:=λ_ H'=>Q .bu H',rt:=Q} (start N vs) H):
  gp P w K mg base CX (k+1) f (aaN name qual params body scope dV kV doc pm an ky ct) ps sp:=by
 refine⟨len,λA outer s H args us vs Q E hr e0 hb r xo=>?_⟩;have hl:=len _ _ _ _ xo;have KX:K.In s.heap:=e0.mod.LB.keeps λb o e=>(e0.bs b o e).1;have lim:s.heap.NoLimit:=e0.mod.nolimit.keeps λb o e=>(e0.bs b o e).1;have Fi:∀y∈ps.zip us,scope.names.lookup y.1=Δ .local\/(scope.names.lookup y.1=Δ .cell/\((cellsFrom (s.heap.objs.size+1) scope.names []).lookup y.1).isSome=Λ):=λ⟨n,v⟩ hy=>by
  rcases S.par n (aac hy).1 with q|q;·exact .inl q
  ·exact .inr ⟨q,PySem.W.cellsFrom_some _ _ _ (.inl q)⟩
 refine codeAny_call_function hr.depth (KX _ _ lk) rfl S.co S.gen rfl (PySem.W.codeRec_of KX qf) (hb _ _ _ _ ?_);refine wpAny_newFunctionEnv_cells S.kind Fi λenv he s1 x=>?_;subst he;refine⟨lim.keeps x.toInCall.keep,codeAny_func ?_⟩;obtain⟨t,ht,hq⟩:=sE A outer s H vs Q E (hr.deeper _) xo;have I:Inv (xn CX P w K mg base N qual scope f ky A outer s H E) [] (start N vs) H s1:=DB S hr.hd e0 hl r x;refine YS (ht [] s1 (start N vs) H _ I hq) (λfl s' hs=>?_) λe s' hs=>hs;have fin:∀{cX:St} {H':Hp} {v:V} {u:Value},Inv (xn CX P w K mg base N qual scope f ky A outer s H E) [] cX H' s'->RelV v u->Q v H'->CE outer P w H s Q u s':=
  λ{cX H' v u} J rv q=>⟨v,H',J.os,J.bare,J.base,J.aL,rv,q⟩
 cases fl with|ret u=>obtain⟨v,cX,H',J,rv,q⟩:=hs;exact fin J rv q|next=>obtain⟨cX,H',J,q⟩:=hs;exact fin (v:=V.bu) (u:=Zd) J rfl q|brk=>obtain⟨_,_,_,q⟩:=hs;exact Ys q|cont=>obtain⟨_,_,_,q⟩:=hs;exact Ys q
section
variable{X:Cx}{x:Str}{p pos:Pos}{e:Expr}{es:List Expr}{t:TA}{id T:String}{r:List V->Hp->VK->Prop}
noncomputable def Up(r:List V->Hp->VK->Prop)(t:TA):TE:=λσ H Q=>t σ H λvs H1=>r vs H1 Q
theorem jh(hc:eO X (.builtin id) r)(hg:Gl X x)(hm:X.mg x=Θ)(hv:aap x=Δ (.builtin id))(ha:PA X (e::es) t)(hn:x≠"__name__":=by decide)(Ii:(x==("__debug__":Str))=Ξ:=by decide)
  (he:XG (e::es) X.env=(Ξ,eval e X.env)::XG es X.env:=by rfl) (yD:(Zk pos (XG es X.env)).any (·.1)=Ξ:=by rfl):PE X (.Call (.Name x p) (e::es) [] pos) (Up r t):=by
 intro η s σ H Q I h;refine Yx (jG I hg hm hv ?_ hn Ii);exact PyProof.Rows.callWith_builtin1 (bR (ha pos η s σ H _ I h) λus s1 ⟨vs,H1,I1,r1,q1⟩=>hc η s1 σ H1 vs us Q I1 r1 q1) he yD
theorem gX(hc:eO X (.type T) r)(hg:Gl X x)(hm:X.mg x=Θ)(hv:aap x=Δ (.type T))(ha:PA X (e::es) t)(hn:x≠"__name__":=by decide)(Ii:(x==("__debug__":Str))=Ξ:=by decide)
  (he:XG (e::es) X.env=(Ξ,eval e X.env)::XG es X.env:=by rfl) (yD:(Zk pos (XG es X.env)).any (·.1)=Ξ:=by rfl):PE X (.Call (.Name x p) (e::es) [] pos) (Up r t):=by
 intro η s σ H Q I h;refine Yx (jG I hg hm hv ?_ hn Ii);exact Yh (bR (ha pos η s σ H _ I h) λus s1 ⟨vs,H1,I1,r1,q1⟩=>hc η s1 σ H1 vs us Q I1 r1 q1) he yD
end
end L2
namespace HT
open PySem PyProof.Rows
section
open PySem.SeqAt
open PySem.AutoSeq1 (wpAny_loadPart')
open PySem.MeetsSeq PySem.MeetsSeq2 PySem.MeetsSeq3
end
section
variable{prog:Yb}{w:World}{A:YF}{E:Value->Xp->Prop}{s:Xp}
theorem Im(ht:IsTup s.heap t vs.toArray)(hb:IsTup s.heap b ws.toArray)(hv:vs≠[])(h1:ws=[]->Q (.ref t) s)(h2:ws≠[]->Q (.ref s.heap.objs.size) {s with heap:=s.heap.push {cls:=.type "tuple",data:=.seq (vs++ws).toArray}})(hsz:vs.length+ws.length<=Xv):wpAny (model prog w) A (ZD .Add (.ref t) (.ref b)) Q E s:=by
 obtain⟨⟨cls,dd,data,sl⟩,ho,hc,n,hd⟩:=id ht;obtain⟨⟨Uq,Sx,data2,Sy⟩,HE,L0,n2,hd2⟩:=id hb;simp only at hc hd L0 hd2;subst hc hd L0 hd2;have e:vs.toArray++ws.toArray=(vs++ws).toArray:=by simp
 by_cases hw:ws=[]
 ·exact acD ⟨_,ho,rfl⟩ ⟨_,HE,rfl⟩ abT acx aaP aaI (aaw _ _)
   (tuple_addW1 t b vs.toArray ws.toArray n n2 dd Sx sl Sy (by simpa using hv) (by simp[hw])) ⟨ho,HE,h1 hw⟩
 ·refine acD ⟨_,ho,rfl⟩ ⟨_,HE,rfl⟩ abT acx aaP aaI (aaw _ _)
   (tuple_addW2 t b vs.toArray ws.toArray n n2 dd Sx sl Sy (by simpa using hv) (by simpa using hw) (by rw[Xh,Xh];exact hsz)) ⟨ho,HE,?_⟩
  rw[e];exact h2 hw
noncomputable def dc(n d:Nat):Option Int->Nat
 |none=>d|some v=>if v < 0 then(v+(n:Int)).toNat else min v.toNat n
theorem L6 n d(hd:d<=n)o:dc n d o<=n:=by
 cases o with
 |none=>exact hd|some v=>
  show(if v < 0 then(v+(n:Int)).toNat else min v.toNat n)<=n;by_cases hv:v < 0;·rw[if_pos hv];lia
  ·rw[if_neg hv];exact Z4 _ _
theorem Cr v(n d:Nat):(if v < 0 then max (v+(n:Int)) 0 else min v (n:Int))=((dc n d (Δ v):Nat):Int):=by
 show(if v < 0 then max (v+(n:Int)) 0 else min v (n:Int))=(((if v < 0 then(v+(n:Int)).toNat else min v.toNat n):Nat):Int);by_cases hv:v < 0;·simp only[if_pos hv];lia
 ·simp only[if_neg hv];lia
theorem Bk lo hi(n:Nat):YG lo hi 1 (n:Int)=(((dc n 0 lo:Nat):Int),((dc n n hi:Nat):Int)):=by
 have h1:¬((1:Int) < 0):=by lia
 unfold YG;simp only[h1,if_false];refine acX ?_ ?_;·cases lo with|none=>rfl|some v=>exact Cr v n 0
 ·cases hi with|none=>rfl|some v=>exact Cr v n n
theorem Bl(i j:Nat):Yd (i:Int) (j) 1=j - i:=by
 unfold Yd;have h1:(1:Int) > 0:=by lia
 simp only[h1,if_true,Int.ediv_one];split<;>lia
theorem sG(p:aca v o)(h:Q o s):wpAny (model prog w) A (aba.Slice.slicePartIndex v) Q E s:=by cases p with|none=>exact abq h|int i t=>exact slicePart_int h
theorem ji{vl vu:Value}{lo hi:Option Int}{n:Nat}{Q:Int×Int×Nat->Xp->Prop}(hs:s.heap.IsSliceOf sl vl vu .none)(pl:aca vl lo)(pu:aca vu hi)(h:Q (((dc n 0 lo:Nat):Int),1,dc n n hi - dc n 0 lo) s):wpAny (model prog w) A (ZH (.ref sl) (pure (n:Int))) Q E s:=by obtain⟨os,DC,L7,HF⟩:=id hs;unfold ZH aba.Slice.sliceFields;refine W2 (W2 (Yf DC HF (x:=vl) rfl (W2 (Yf DC HF (x:=vu) rfl (W2 (Yf DC HF (x:=.none) rfl (Xe ?_)))))));refine W2 (abq ?_);show wpAny _ _ (if((1:Int)==0)=Λ then _ else _) _ _ s;rw[if_neg (by decide)];refine W2 (sG pl (W2 (sG pu (W2 (Xe ?_)))));show wpAny _ _ (match YG lo hi 1 (n:Int) with|(lo,hi)=>pure (lo,(1:Int),Yd lo hi 1)) _ _ s;rw[Bk lo hi n];show wpAny _ _ (pure (((dc n 0 lo:Nat):Int),(1:Int),Yd ((dc n 0 lo:Nat):Int) ((dc n n hi:Nat):Int) 1)) _ _ s;rw[Bl];exact Xe h
theorem Fj(xs:Array Value)(i k:Nat):((W7 k).filterMap λ(m:Nat)=>xs[((i:Int)+(m:Int)*1).toNat]?).toArray=((xs.toList.drop i).take k).toArray:=by
 have e:(λ(m:Nat)=>xs[((i:Int)+(m:Int)*1).toNat]?)=λm=>xs[i+m]?:=by
  funext m;have:((i:Int)+(m:Int)*1).toNat=i+m:=by lia
  rw[this]
 rw[e];have:=pick_run xs i k;rw[List.filterMap_map] at this;have e2:((λx=>xs[x]?)∘λx=>i+x)=λm=>xs[i+m]?:=rfl;rw[e2] at this;rw[this]
theorem nu{lo hi:Option Int}(ht:IsTup s.heap t items)(hs:s.heap.IsSliceOf sl vl vu .none)(pl:aca vl lo)(pu:aca vu hi)(hw:¬(dc items.size 0 lo=0/\dc items.size items.size hi=items.size))(h:Q (.ref s.heap.objs.size) {s with heap:=s.heap.push {cls:=.type "tuple",data:=.seq ((items.toList.drop (dc items.size 0 lo)).take (dc items.size items.size hi - dc items.size 0 lo)).toArray}})(hsz:items.size<=Xv):wpAny (model prog w) A (aay (.ref t) (.ref sl)) Q E s:=by
 have nv:sizeOk (.seq ((items.toList.drop (dc items.size 0 lo)).take (dc items.size items.size hi - dc items.size 0 lo)).toArray):=by
  show((items.toList.drop (dc items.size 0 lo)).take (dc items.size items.size hi - dc items.size 0 lo)).toArray.size<=Xv;rw[Xh,Zg,abY,Y5]
  lia
 have hj:dc items.size items.size hi<=items.size:=L6 _ _ (Xd _) hi;obtain⟨os,DC,L7,HF⟩:=id hs;have PF:s.TypeIs (.ref sl) "slice":=⟨os,DC,L7⟩;unfold aay;try with_reducible refine Zw ?_
 first|refine W2 (Xe ?_)|skip
 refine W2 (aby ht.typeIs (by decide) ?_);refine W2 (X4 (name:=XY "__getitem__") ht.typeIs Yi
  (Yv Yi ht.typeIs abi ?_ (abt _ _)))
 show wpAny _ _ (aan (.ref t) >>=_) _ _ s;refine W2 (acw ht ?_);refine W2 (abl PF ?_);rw[if_pos (by decide)];refine W2 (ji hs pl pu ?_);have PH:¬((((dc items.size 0 lo:Nat):Int)==0&&(1:Int)==1&&(dc items.size items.size hi - dc items.size 0 lo)==items.size)=Λ):=by intro q;rw[W3,W3] at q;have q1:((dc items.size 0 lo:Nat):Int)=0:=eq_of_beq q.1.1;have q2:dc items.size items.size hi - dc items.size 0 lo=items.size:=eq_of_beq q.2;exact hw ⟨by lia,by lia⟩
 show wpAny _ _ (if(((dc items.size 0 lo:Nat):Int)==0&&(1:Int)==1&&(dc items.size items.size hi - dc items.size 0 lo)==items.size)=Λ then _ else _) _ _ s;rw[if_neg PH,Fj];first
  |exact W2 (m:=XO _) (X3 (Xe ⟨_,rfl,Xe h⟩) nv)
  |exact W2 (m:=XO _) (X3 (W2 (Xe (Xe ⟨_,rfl,Xe h⟩))) nv)
  |exact W2 (W2 (m:=XO _) (X3 (Xe (Xe ⟨_,rfl,Xe h⟩)) nv))
  |exact W2 (W2 (m:=XO _) (X3 (Xe ⟨_,rfl,Xe h⟩) nv))
end
end HT
namespace L2
open PySem PySem.Spec PyProof.Rows
abbrev TO:=St->Hp->(Option Int->Hp->Prop)->Prop
noncomputable def PO(X:Cx)(e:Option Expr)(t:TO):Prop:=
 ∀(η:List (Addr×Obj)) (s:Xp) (σ:St) (H:Hp) (Q:Option Int->Hp->Prop),Inv X η σ H s->t σ H Q->
  wpAny (model X.prog X.w) X.A (evalPart e X.env) (λu s'=>∃o H',Inv X η σ H' s'/\aca u o/\Q o H') X.xe s
def Io:TO:=λ_ H Q=>Q Θ H
def PJ(t:TE):TO:=λσ H Q=>t σ H λx H1=>∃i,x=.int i/\Q (Δ i) H1
section
variable{X:Cx}{e:Expr}{te:TE}{lo hi:Option Expr}{tl th:TO}{pos p2:Pos}
theorem Ip:PO X Θ Io:=by intro η s σ H Q I h;rw[acy];exact Xe ⟨Θ,H,I,.none,h⟩
theorem Iq(h:PE X e te):PO X (Δ e) (PJ te):=by intro η s σ H Q I hw;rw[evalPart_some];refine bR (h η s σ H _ I hw) λu s1 ⟨x,H1,I1,r1,q1⟩=>?_;obtain⟨i,rfl,q⟩:=q1;obtain⟨t,rfl⟩:=r1;exact⟨Δ i,H1,I1,.int i t,q⟩
def KE(X:Cx)(r:V->Option Int->Option Int->Hp->VK->Prop):Prop:=
 ∀(η:List (Addr×Obj)) (s:Xp) (σ:St) (H:Hp) (x:V) (v vl vu:Value) (lo hi:Option Int) (sl:Addr) (Q:VK),Inv X η σ H s->RelV x v->s.heap.IsSliceOf sl vl vu .none->aca vl lo->aca vu hi->r x lo hi H Q->
  ∃T id,acT (.type T) "__getitem__"=pure (Δ (.builtin id))/\s.TypeIs v T/\wpAny (model X.prog X.w) X.A (aay v (.ref sl)) (EP X η σ Q) X.xe s
theorem KE.or(h:KE X r)(h':KE X r'):KE X (λx lo hi H Q=>r x lo hi H Q\/r' x lo hi H Q):=by
 intro η s σ H x v vl vu lo hi sl Q I rx hs pl pu q;rcases q with q|q;·exact h η s σ H x v vl vu lo hi sl Q I rx hs pl pu q
 ·exact h' η s σ H x v vl vu lo hi sl Q I rx hs pl pu q
noncomputable def tSl(r:V->Option Int->Option Int->Hp->VK->Prop)(te:TE)(tl th:TO):TE:=λσ H Q=>te σ H λx H1=>tl σ H1 λl H2=>th σ H2 λu H3=>r x l u H3 Q
theorem Fm(hr:KE X r)(he:PE X e te)(hl:PO X lo tl)(hu:PO X hi th):PE X (.Subscript e (.Slice lo hi Θ p2) pos) (tSl r te tl th):=by intro η s σ H Q I h;refine Subscript_ (bR (he η s σ H _ I h) λv s1 ⟨x,H1,I1,r1,q1⟩=>?_);refine wpAny_Slice (bR (hl η s1 σ H1 _ I1 q1) λvl s2 ⟨l,H2,I2,pl,q2⟩=>bR (hu η s2 σ H2 _ I2 q2) λvu s3 ⟨u,H3,I3,pu,q3⟩=>?_);rw[acy];refine Xe ?_;have I4:Inv X η σ H3 {s3 with heap:=s3.heap.push {cls:=.type "slice",data:=.fields #[vl,vu,.none]}}:=I3.kept (t':=s3.toks) λb ob q=>W4 _ q;obtain⟨T,id,hT,ht,hg⟩:=hr η {s3 with heap:=s3.heap.push {cls:=.type "slice",data:=.fields #[vl,vu,.none]}} σ H3 x v vl vu l u s3.heap.objs.size Q I4 r1 (Heap.IsSliceOf.new ..) pl pu q3;show wpAny (model X.prog X.w) X.A (aa8 e (.Slice lo hi Θ p2) v (.ref s3.heap.objs.size)) (EP X η σ Q) X.xe {s3 with heap:=s3.heap.push {cls:=.type "slice",data:=.fields #[vl,vu,.none]}};exact tail_any (ops:=[.ref s3.heap.objs.size,v]) ht hT hg (by with_unfolding_all rfl)
def oX(xs:List V)(lo hi:Option Int):List V:=(xs.drop (HT.dc xs.length 0 lo)).take (HT.dc xs.length xs.length hi - HT.dc xs.length 0 lo)
theorem qj xs lo hi:(oX xs lo hi).length<=xs.length:=by
 unfold oX;rw[Zg,abY]
 lia
def Ur(K:Xf):V->Option Int->Option Int->Hp->VK->Prop:=λx lo hi H Q=>∃a xs,x=.ref a/\eY K H a xs/\
 ¬(HT.dc xs.length 0 lo=0/\HT.dc xs.length xs.length hi=xs.length)/\∀p,H p=Θ->Q (.ref p) (upd H p (.tup (oX xs lo hi)))
theorem L8:KE X (Ur X.K):=by
 intro η s σ H x v vl vu lo hi sl Q I rx hs pl pu h;obtain⟨a,xs,rfl,hx,hw,q⟩:=h;cases rx;obtain⟨its,r,ht,hz⟩:=I.tuple hx;have hlen:its.toArray.size=xs.length:=by rw[Xh];exact r.length.symm
 refine⟨"tuple",_,Yi.lookup,ht.typeIs,?_⟩;refine HT.nu ht hs pl pu (by rw[hlen];exact hw) ?_ (by rw[hlen];exact hz);rw[hlen];refine⟨.ref s.heap.objs.size,_,I.laid (t':=s.toks) (o:=.tup (oX xs lo hi)) (λb ob q=>W4 _ q) (Xd _) ?_,rfl,q _ (I.aL.fresh (Xd _))⟩;exact⟨XW (qj xs lo hi) hz,_,(r.drop (HT.dc xs.length 0 lo)).take (HT.dc xs.length xs.length hi - HT.dc xs.length 0 lo),ab1 _ _⟩
def PK(K:Xf):R2:=λx y H Q=>∃a b xs ys,x=.ref a/\y=.ref b/\eY K H a xs/\eY K H b ys/\xs≠[]/\xs.length+ys.length<=Xv/\
 (ys=[]->Q (.ref a) H)/\(ys≠[]->∀p,H p=Θ->Q (.ref p) (upd H p (.tup (xs++ys))))
theorem aS.ny(r:aS xs us):us=[]↔xs=[]:=by cases r with|nil=>simp|cons _ _=>simp
theorem Ir:kg X (ZD .Add) (PK X.K):=by intro η s σ H x y v u Q I rx ry h;obtain⟨a,b,xs,ys,rfl,rfl,ha,hb,hx,hz,q1,q2⟩:=h;cases rx;cases ry;obtain⟨its,r1,p1,_⟩:=I.tuple ha;obtain⟨Fo,r2,p2,_⟩:=I.tuple hb;refine HT.Im p1 p2 (λz=>hx (r1.ny.mp z)) (λz=>⟨.ref a,H,I,rfl,q1 (r2.ny.mp z)⟩) (λz=>?_) (by rw[<-r1.length,<-r2.length];exact hz);refine⟨.ref s.heap.objs.size,_,I.laid (t':=s.toks) (o:=.tup (xs++ys)) (λb ob q=>W4 _ q) (Xd _) ?_,rfl,q2 (λw=>z (r2.ny.mpr w)) _ (I.aL.fresh (Xd _))⟩;exact⟨by rw[Xs];exact hz,_,r1.append r2,ab1 _ _⟩
end
noncomputable def Bm(n:Nat)(i:Int):Option Nat:=if 0<=i then(if i < n then Δ i.toNat else Θ) else if -(n:Int)<=i then Δ (i+n).toNat else Θ
def oY{α:Type}(xs:List α)(i:Int):Option α:=(Bm xs.length i).bind λj=>xs[j]?
theorem Cs(h:Bm n i=Δ j):seqIndex? i n=Δ j/\j < n/\ -(n:Int)<=i/\i < n:=by
 unfold Bm at h;by_cases h0:0<=i
 ·rw[if_pos h0] at h;by_cases h1:i < n;·rw[if_pos h1] at h;have e:i.toNat=j:=XJ h;exact⟨by rw[acN h0 h1,e],by lia,by lia,h1⟩
  ·rw[if_neg h1] at h;cases h
 ·rw[if_neg h0] at h;by_cases h1: -(n:Int)<=i;·rw[if_pos h1] at h;have e:(i+n).toNat=j:=XJ h;exact⟨by rw[acC (by lia) h1,e],by lia,h1,by lia⟩
  ·rw[if_neg h1] at h;cases h
theorem Ct(h:oY xs i=Δ v):∃j,seqIndex? i xs.length=Δ j/\xs[j]?=Δ v/\j < xs.length/\ -(xs.length:Int)<=i/\i < xs.length:=by unfold oY at h;cases e:Bm xs.length i with|none=>rw[e] at h;cases h|some j=>rw[e] at h;obtain⟨h1,h2,h3,h4⟩:=Cs e;exact⟨j,h1,h,h2,h3,h4⟩
def Cu(b:Expr):Prop:=∀o i,acj b Ξ o i=operate [o,i] (aay o i)
def KG(X:Cx)(r:R2):Prop:=
 ∀(value slice:Expr) (η:List (Addr×Obj)) (s:Xp) (σ:St) (H:Hp) (x y:V) (v u:Value) (Q:VK),Inv X η σ H s->RelV x v->RelV y u->r x y H Q->
  acj slice Ξ v u=operate [v,u] (aay v u)->wpAny (model X.prog X.w) X.A (aa8 value slice v u) (EP X η σ Q) X.xe s
def MtR(X:Cx)(id:String)(r:V->List V->Hp->VK->Prop):Prop:=
 ∀(η:List (Addr×Obj)) (s:Xp) (σ:St) (H:Hp) (x:V) (xs:List V) (v:Value) (us:List Value) (Q:VK),Inv X η σ H s->RelV x v->aS xs us->r x xs H Q->
  wpAny (model X.prog X.w) X.A (call (.builtin id) (v::us)) (EP X η σ Q) X.xe s
section
variable{X:Cx}{a b:Expr}{ta tb:TE}{pos:Pos}
theorem KG.or(h:KG X r)(h':KG X r'):KG X (λx y H Q=>r x y H Q\/r' x y H Q):=by
 intro value slice η s σ H x y v u Q I rx ry q hs;rcases q with q|q;·exact h value slice η s σ H x y v u Q I rx ry q hs
 ·exact h' value slice η s σ H x y v u Q I rx ry q hs
theorem PL(hr:KG X r)(ha:PE X a ta)(hb:PE X b tb)(hs:Cu b):PE X (.Subscript a b pos) (Pn r ta tb):=by intro η s σ H Q I h;exact Subscript_ (LM ha hb I h λv u s2 x y H2 I2 rx ry q=>hr a b η s2 σ H2 x y v u Q I2 rx ry q (hs _ _))
def Us(K:Xf):R2:=λx y H Q=>∃p xs i v,x=.ref p/\y=.int i/\kC K H p xs/\oY xs i=Δ v/\Q v H
def Ut(K:Xf):R2:=λx y H Q=>∃p xs i v,x=.ref p/\y=.int i/\eY K H p xs/\oY xs i=Δ v/\Q v H
theorem Iu:KG X (Us X.K):=by
 intro value slice η s σ H x y v u Q I rx ry h hs;obtain⟨p,xs,i,z,rfl,rfl,hq,he,q⟩:=h;cases rx;obtain⟨t,rfl⟩:=ry;obtain⟨its,r,pl,hz⟩:=I.list hq;obtain⟨j,h1,h2,h3,h4,h5⟩:=Ct he;obtain⟨w,ew,mx⟩:=r.get h2;have hl:=r.length;have hn:=oU;have fin:EP X η σ Q w s:=⟨z,H,I,mx,q⟩;by_cases h0:0<=i
 ·have hj:i.toNat=j:=by rw[acN h0 h5] at h1;exact XJ h1
  exact item_listR pl.isList h0 (by lia) (by rw[hj];simpa using ew) fin hs
 ·have hj:(i+(its.toArray.size:Int)).toNat=j:=by rw[acC (by lia) h4] at h1;rw[Xh,<-hl];exact XJ h1
  exact subscriptTail_builtinR (x:=w) pl.isList.typeIs slot_list_getitem.lookup
   (wpAny_getItem_list_neg (Q:=λr s'=>r=w/\EP X η σ Q r s') pl.isList (by lia) (by rw[Xh]<;>lia) (by lia) (by rw[hj];simpa using ew) ⟨rfl,fin⟩) hs
theorem L9:KG X (Ut X.K):=by
 intro value slice η s σ H x y v u Q I rx ry h hs;obtain⟨p,xs,i,z,rfl,rfl,hq,he,q⟩:=h;cases rx;obtain⟨t,rfl⟩:=ry;obtain⟨its,r,pl,hz⟩:=I.tuple hq;obtain⟨j,h1,h2,h3,h4,h5⟩:=Ct he;obtain⟨w,ew,mx⟩:=r.get h2;have hl:=r.length;have hn:=oU;have fin:EP X η σ Q w s:=⟨z,H,I,mx,q⟩;exact subscriptTail_builtinR (x:=w) pl.typeIs slot_tuple_getitem.lookup
  (getItem_tuple (j:=j) (Q:=λr s'=>r=w/\EP X η σ Q r s') pl (by lia) (by lia) (by rw[Xh,<-hl];exact h1) (by simpa using ew) ⟨rfl,fin⟩) hs
theorem Bn(its:List Value)n j u:ZW (·.setIfInBounds j u) {cls:=.type "list",data:=.seq its.toArray n}={cls:=.type "list",data:=.seq (its.set j u).toArray n}:=by simp[ZW]
theorem Inv.lst(I:Inv X η σ H s)(h:H p=Δ (.lst xs)):
  ∃(its:List Value) (n:Nat),aS xs its/\s.heap.get? p=Δ {cls:=.type "list",data:=.seq its.toArray n}/\xs.length<=Xv:=by
 obtain⟨z,its,n,r,e⟩:=I.aL p _ h;exact⟨its,n,r,e,z⟩
theorem Inv.Ma{its its':List Value}(I:Inv X η σ H s)(h:H p=Δ (.lst xs))(ho:s.heap.get? p=Δ {cls:=.type "list",data:=.seq its.toArray n})(hf:f {cls:=.type "list",data:=.seq its.toArray n}={cls:=.type "list",data:=.seq its'.toArray n'})(r:aS ys its')(hz:ys.length<=Xv)t:
  Inv X η σ (upd H p (.lst ys)) {s with heap:=s.heap.update p f,toks:=t}:=by
 have e:(s.heap.update p f).get? p=Δ {cls:=.type "list",data:=.seq its'.toArray n'}:=by rw[Za f ho (by rw[hf]<;>rfl),hf]
 refine I.write (x:=p) (e:=p) (by rw[h];trivial) (.inl rfl) (λb u hb q=>(Yr _ _ (Yc hb)).trans q) ⟨_,e⟩ ?_;exact⟨hz,its',n',r,e⟩
def PM:V->V->V->Hp->(Hp->Prop)->Prop:=λo i v H Q=>∃p xs k j,o=.ref p/\i=.int k/\H p=Δ (.lst xs)/\Bm xs.length k=Δ j/\Q (upd H p (.lst (xs.set j v)))
theorem set_list:Dr X PM:=by
 intro η s σ H o i v ov iv u Q I ro ri rv h;obtain⟨p,xs,k,j,rfl,rfl,hp,hj,q⟩:=h;cases ro;obtain⟨t,rfl⟩:=ri;obtain⟨its,n,r,ho,hz⟩:=I.lst hp;obtain⟨h1,h2,h3,h4⟩:=Cs hj;have hl:=r.length;have hn:=oU;have I':Inv X η σ (upd H p (.lst (xs.set j v))) {s with heap:=s.heap.update p (ZW (·.setIfInBounds j u))}:=
  I.Ma hp ho (Bn its n j u) (r.set rv j) (by rw[YD];exact hz) s.toks
 by_cases h0:0<=k
 ·have hk:k.toNat=j:=by rw[acN h0 h4] at h1;exact XJ h1
  exact PySem.W.ki_setAt ho h0 (by lia) (by rw[Xh,<-hl];exact h4) (by rw[hk];exact⟨_,I',q⟩)
 ·have hk:(k+(its.toArray.size:Int)).toNat=j:=by rw[acC (by lia) h3] at h1;rw[Xh,<-hl];exact XJ h1
  exact PySem.W.ki_setBack ho (by lia) (by rw[Xh,<-hl];exact h3) (by lia) (by rw[hk];exact⟨_,I',q⟩)
theorem xp lo hi n:(aaF lo hi Θ n).1=((HT.dc n 0 lo:Nat):Int)/\(aaF lo hi Θ n).2.1=((HT.dc n n hi:Nat):Int)/\(aaF lo hi Θ n).2.2=1:=by
 refine⟨?_,?_,rfl⟩
 ·cases lo with
  |none=>simp[aaF,HT.dc]|some i=>
   simp only[aaF,HT.dc,abV,show(1:Int) > 0 by decide,if_true];by_cases h:i < 0;·simp only[h,if_true]<;>lia
   ·simp only[h,if_false]<;>lia
 ·cases hi with
  |none=>simp[aaF,HT.dc]|some i=>
   simp only[aaF,HT.dc,abV,show(1:Int) > 0 by decide,if_true];by_cases h:i < 0;·simp only[h,if_true]<;>lia
   ·simp only[h,if_false]<;>lia
theorem ve(its:List Value)lo hi:slicePick its.toArray lo hi Θ=((its.drop (HT.dc its.length 0 lo)).take (HT.dc its.length its.length hi - HT.dc its.length 0 lo)).toArray:=by obtain⟨h1,h2,h3⟩:=xp lo hi its.toArray.size;unfold slicePick;rw[h1,h2,h3];simp only[sliceRange_one,pick_run,Xh]<;>rfl
def PN(K:Xf):V->Option Int->Option Int->Hp->VK->Prop:=λx lo hi H Q=>∃a xs,x=.ref a/\kC K H a xs/\∀p,H p=Θ->Q (.ref p) (upd H p (.lst (oX xs lo hi)))
theorem Iv:KE X (PN X.K):=by intro η s σ H x v vl vu lo hi sl Q I rx hs pl pu h;obtain⟨a,xs,rfl,hx,q⟩:=h;cases rx;obtain⟨its,r,ht,hz⟩:=I.list hx;have hlen:=r.length;refine⟨"list",_,slot_list_getitem.lookup,ht.isList.typeIs,?_⟩;refine wpAny_getItem_list_slice ht.isList hs pl pu .none (by simp) ?_ (by rw[Xh]<;>lia);rw[ve,<-hlen];refine⟨.ref s.heap.objs.size,_,I.laid (t':=s.toks) (o:=.lst (oX xs lo hi)) (λb ob q=>W4 _ q) (Xd _) ?_,rfl,q _ (I.aL.fresh (Xd _))⟩;exact⟨XW (qj xs lo hi) hz,_,0,(r.drop (HT.dc xs.length 0 lo)).take (HT.dc xs.length xs.length hi - HT.dc xs.length 0 lo),Xj _ rfl⟩
def lY:V->Bool
 |.bu=>Λ|.bl _=>Λ|.int _=>Λ|.str _=>Λ|_=>Ξ
noncomputable def Iw:V->V->Bool
 |.bu,.bu=>Λ|.bl a,.bl b=>a==b|.bl a,.int b=>(if a then 1 else 0)==b|.int a,.bl b=>a==(if b then 1 else 0)|.int a,.int b=>a==b|.str a,.str b=>a==b|_,_=>Ξ
theorem Mb(ry:RelV y u)(rx:RelV x v)(fy:lY y=Λ)(fx:lY x=Λ):SeqAt.EqAt A s u v (Iw y x):=by
 cases y with
 |bu=>cases ry;cases x with|bu=>cases rx;exact SeqAt.EqAt.same _|bl b=>cases rx;exact SeqAt.EqAt.none_bool b|int b=>obtain⟨t,rfl⟩:=rx;exact SeqAt.EqAt.none_int b t|str b=>obtain⟨t,rfl⟩:=rx;exact SeqAt.EqAt.none_str b t|_=>exact absurd (show Ξ=Λ from fx) X8
 |bl a=>cases ry;cases x with|bu=>cases rx;exact SeqAt.EqAt.bool_none a|bl b=>cases rx;exact SeqAt.EqAt.bool_bool a b|int b=>obtain⟨t,rfl⟩:=rx;exact SeqAt.EqAt.bool_int a b t|str b=>obtain⟨t,rfl⟩:=rx;exact SeqAt.EqAt.bool_str a b t|_=>exact absurd (show Ξ=Λ from fx) X8
 |int a=>obtain⟨t',rfl⟩:=ry;cases x with|bu=>cases rx;exact SeqAt.EqAt.int_none a t'|bl b=>cases rx;exact SeqAt.EqAt.int_bool a t' b|int b=>obtain⟨t,rfl⟩:=rx;exact SeqAt.EqAt.int_int a t' b t|str b=>obtain⟨t,rfl⟩:=rx;exact SeqAt.EqAt.int_str a t' b t|_=>exact absurd (show Ξ=Λ from fx) X8
 |str a=>obtain⟨t',rfl⟩:=ry;cases x with|bu=>cases rx;exact SeqAt.EqAt.str_none a t'|bl b=>cases rx;exact SeqAt.EqAt.str_bool a t' b|int b=>obtain⟨t,rfl⟩:=rx;exact SeqAt.EqAt.str_int a t' b t|str b=>obtain⟨t,rfl⟩:=rx;exact SeqAt.EqAt.str_str a t' b t|_=>exact absurd (show Ξ=Λ from fx) X8
 |_=>exact absurd (show Ξ=Λ from fy) X8
def Bo(x:V)(u:Value):Bool:=match u with|.none=>Iw .bu x|.bool b=>Iw (.bl b) x|.int i _=>Iw (.int i) x|.str z _=>Iw (.str z) x|_=>Ξ
theorem Fp(r:RelV y u)(f:lY y=Λ):Bo x u=Iw y x:=by cases y with|bu=>cases r;rfl|bl b=>cases r;rfl|int i=>obtain⟨t,rfl⟩:=r;rfl|str z=>obtain⟨t,rfl⟩:=r;rfl|_=>exact absurd (show Ξ=Λ from f) X8
theorem nz:∀{xs} {us},aS xs us->xs.all lY=Λ->us.any (Bo x)=xs.any λy=>Iw y x
 |_,_,.nil,_=>rfl|y::xs,u::us,.cons r t,f=>by rw[YY,W3] at f;rw[Zz,Zz,Fp r f.1,nz t f.2]
theorem kE(rx:RelV x v)(fx:lY x=Λ):∀{xs} {us},aS xs us->xs.all lY=Λ->∀u∈us,SeqAt.EqAt A s u v (Bo x u)
 |_,_,.nil,_=>λu hu=>by cases hu|y::xs,u::us,.cons r t,f=>λu' hu=>by
  rw[YY,W3] at f;rcases Zy.mp hu with rfl|hu;·rw[Fp r f.1];exact Mb r rx f.1 fx
  ·exact kE rx fx t f.2 u' hu
def Sz(x:V)(xs:List V):Bool:=xs.any λy=>Iw y x
def PQ(K:Xf)(neg:Bool):R2:=λx y H Q=>∃p xs,y=.ref p/\(kC K H p xs\/eY K H p xs)/\lY x=Λ/\xs.all lY=Λ/\Q (.bl (if neg then !Sz x xs else Sz x xs)) H
theorem DD:kg X (Yw .In) (PQ X.K Ξ):=by
 intro η s σ H x y v u Q I rx ry h;obtain⟨p,xs,rfl,hq,fx,fs,q⟩:=h;cases ry;rcases hq with hq|hq;·obtain⟨its,r,pl,hz⟩:=I.list hq;refine SeqAt.in_listAt (Bo x) pl.isList (λw hw=>kE rx fx r fs w (by simpa using hw)) ⟨.bl _,H,I,rfl,?_⟩;rw[show its.toArray.any (Bo x)=its.any (Bo x) by simp,nz r fs];exact q
 ·obtain⟨its,r,pl,hz⟩:=I.tuple hq;refine SeqAt.in_tupleAt (Bo x) pl (λw hw=>kE rx fx r fs w (by simpa using hw)) ⟨.bl _,H,I,rfl,?_⟩;rw[show its.toArray.any (Bo x)=its.any (Bo x) by simp,nz r fs];exact q
theorem xq:kg X (Yw .NotIn) (PQ X.K Λ):=by
 intro η s σ H x y v u Q I rx ry h;obtain⟨p,xs,rfl,hq,fx,fs,q⟩:=h;cases ry;rcases hq with hq|hq;·obtain⟨its,r,pl,hz⟩:=I.list hq;refine SeqAt.notIn_listAt (Bo x) pl.isList (λw hw=>kE rx fx r fs w (by simpa using hw)) ⟨.bl _,H,I,rfl,?_⟩;rw[show its.toArray.any (Bo x)=its.any (Bo x) by simp,nz r fs];exact q
 ·obtain⟨its,r,pl,hz⟩:=I.tuple hq;refine SeqAt.notIn_tupleAt (Bo x) pl (λw hw=>kE rx fx r fs w (by simpa using hw)) ⟨.bl _,H,I,rfl,?_⟩;rw[show its.toArray.any (Bo x)=its.any (Bo x) by simp,nz r fs];exact q
theorem xt:eO X (.builtin "len") (λxs H Q=>∃p ys,xs=[.ref p]/\(kC X.K H p ys\/eY X.K H p ys)/\Q (.int ys.length) H):=by
 intro η s σ H xs us Q I r h;obtain⟨p,ys,rfl,hq,q⟩:=h;obtain⟨u,rfl,rx⟩:=vals1 r;cases rx;have hn:=oU;rcases hq with hq|hq;·obtain⟨its,r',pl,hz⟩:=I.list hq;have hlen:=r'.length;exact Calls.call_len_list pl.isList (by simp only[Xh]<;>lia) ⟨.int ys.length,H,I.tok _,⟨s.toks+1,by rw[Xh,hlen]⟩,q⟩
 ·obtain⟨its,r',pl,hz⟩:=I.tuple hq;have hlen:=r'.length;exact len_tuple pl (by simp only[Xh]<;>lia) ⟨.int ys.length,H,I.tok _,⟨s.toks+1,by rw[Xh,hlen]⟩,q⟩
theorem xu:eO X (.builtin "len") (λxs H Q=>∃z,xs=[.str z]/\z.length<=Xv/\Q (.int z.length) H):=by intro η s σ H xs us Q I r h;obtain⟨z,rfl,hz,q⟩:=h;obtain⟨u,rfl,t,rfl⟩:=vals1 r;have hn:=oU;exact len_str (by lia) ⟨.int z.length,H,I.tok _,⟨_,rfl⟩,q⟩
theorem xw:eO X (.type "list") (λxs H Q=>∃p ys,xs=[.ref p]/\(kC X.K H p ys\/eY X.K H p ys)/\∀l,H l=Θ->Q (.ref l) (upd H l (.lst ys))):=by
 intro η s σ H xs us Q I r h;obtain⟨p,ys,rfl,hq,q⟩:=h;obtain⟨u,rfl,rx⟩:=vals1 r;cases rx;have fin:∀(its:List Value),aS ys its->ys.length<=Xv->∀(h':Heap) (c':Nat),(∀b o',s.heap.get? b=Δ o'->h'.get? b=Δ o')->
   h'.get? s.heap.objs.size=Δ {cls:=.type "list",dict:=Θ,data:=.seq its.toArray c',slots:=#[]}->EP X η σ Q (.ref s.heap.objs.size) {s with heap:=h'}:=λits r' hz h' c' kp e=>
  ⟨.ref s.heap.objs.size,_,I.laid (t':=s.toks) kp (Xd _) (show bI X.prog X.w _ h' _ (.lst ys) from⟨hz,its,c',r',e⟩),rfl,q _ (I.aL.fresh (Xd _))⟩
 rcases hq with hq|hq;·obtain⟨its,r',pl,hz⟩:=I.list hq;have hlen:=r'.length;obtain⟨o,ho,hc,n,hd⟩:=pl.isList;exact call_list_seq p (.inl rfl) ho hc hd (λh' c' kp e=>fin its r' hz h' c' kp e) (by simp only[Xh]<;>lia)
 ·obtain⟨its,r',pl,hz⟩:=I.tuple hq;have hlen:=r'.length;obtain⟨o,ho,hc,n,hd⟩:=pl;exact call_list_seq p (.inr rfl) ho hc hd (λh' c' kp e=>fin its r' hz h' c' kp e) (by simp only[Xh]<;>lia)
theorem vf:eO X (.type "tuple") (λxs H Q=>∃p ys,xs=[.ref p]/\((kC X.K H p ys/\∀l,H l=Θ->Q (.ref l) (upd H l (.tup ys)))\/(eY X.K H p ys/\Q (.ref p) H))):=by
 intro η s σ H xs us Q I r h;obtain⟨p,ys,rfl,h⟩:=h;obtain⟨u,rfl,rx⟩:=vals1 r;cases rx;rcases h with ⟨hq,q⟩|⟨hq,q⟩
 ·obtain⟨its,r',pl,hz⟩:=I.list hq;have hlen:=r'.length;refine call_tuple_list pl.isList (λh' kp=>?_) (by simp only[Xh]<;>lia);have I1:Inv X η σ H {s with heap:=h'}:=I.kept (t':=s.toks) kp;have I2:Inv X η σ (upd H h'.objs.size (.tup ys)) {s with heap:=h'.push {cls:=.type "tuple",data:=.seq its.toArray}}:=
   I1.laid (t':=s.toks) (λb o e=>W4 _ e) (Xd _) (show bI X.prog X.w _ _ _ (.tup ys) from⟨hz,its,r',ab1 _ _⟩)
  exact⟨.ref h'.objs.size,_,I2,rfl,q _ (I1.aL.fresh (Xd _))⟩
 ·obtain⟨its,r',pl,hz⟩:=I.tuple hq;exact call_tuple_same pl ⟨.ref p,H,I,rfl,q⟩
def Uu(K:Xf)(T:String)(x:V)(H:Hp):Prop:=match x with
 |.str _=>T="str"|.int _=>T="int"
 |.ref p=>(T="list"/\∃xs,kC K H p xs)\/(T="tuple"/\∃o,K.lookup p=Δ o/\o.cls=.type "tuple"/\o.dict=Θ)\/
   (T="dict"/\((∃kvs,H p=Δ (.dK kvs))\/∃kvs,H p=Δ (.dT kvs)))\/(T="set"/\∃S n,H p=Δ (.set S n))
 |_=>False
theorem Fq(I:Inv X η σ H s)(r:RelV x v)(ty:Uu X.K T x H):
  s.TypeIs v T/\∀a,v=.ref a->∃ob,s.heap.get? a=Δ ob/\ob.dict=Θ:=by
 cases x with
 |str z=>obtain⟨t,rfl⟩:=r;cases (show T="str" from ty);exact⟨typeIs_str s z t,λ_ e=>nomatch e⟩|int i=>obtain⟨t,rfl⟩:=r;cases (show T="int" from ty);exact⟨aa1 s i t,λ_ e=>nomatch e⟩|ref p=>
  cases r;rcases ty with ⟨rfl,xs,hq⟩|⟨rfl,o,hk,hc,hd⟩|⟨rfl,hk⟩|⟨rfl,S,n,hk⟩
  ·obtain⟨its,_,pl,_⟩:=I.list hq;refine⟨pl.isList.typeIs,λa e=>?_⟩;cases e;obtain⟨o,n,e,c,hd,_⟩:=pl;exact⟨o,e,hd⟩
  ·refine⟨⟨o,I.nh p o hk,hc⟩,λa e=>?_⟩;cases e;exact⟨o,I.nh _ o hk,hd⟩
  ·have z:∃o,s.heap.get? p=Δ o/\o.ExactDict:=by
    rcases hk with ⟨kvs,hk⟩|⟨kvs,hk⟩
    ·obtain⟨_,_,_,_,o,_,_,e,ex,_⟩:=I.aL p _ hk;exact⟨o,e,ex⟩
    ·obtain⟨_,_,_,_,o,_,_,e,ex,_⟩:=I.aL p _ hk;exact⟨o,e,ex⟩
   obtain⟨o,e,ex⟩:=z;refine⟨⟨o,e,ex.1⟩,λa e2=>?_⟩;cases e2;exact⟨o,e,ex.2.1⟩
  ·obtain⟨o,_,_,_,e,ex,_⟩:=I.aL p _ hk;refine⟨⟨o,e,ex.1⟩,λa e2=>?_⟩;cases e2;exact⟨o,e,ex.2.1⟩
 |_=>exact Ys ty
def Uv(K:Xf)(T:String)(r:V->List V->Hp->VK->Prop)(to:TE):TE:=λσ H Q=>to σ H λx H1=>Uu K T x H1/\r x [] H1 Q
def tBM(K:Xf)(T:String)(r:V->List V->Hp->VK->Prop)(to:TE)(t:TA):TE:=λσ H Q=>to σ H λx H1=>Uu K T x H1/\t σ H1 λxs H2=>r x xs H2 Q
variable{o e:Expr}{es:List Expr}{to:TE}{t:TA}{name:Str}{apos fE:Pos}{T id:String}{r:V->List V->Hp->VK->Prop}
theorem Mc(pa:PlainAttrs T)(slot:Slot T name id)(Uw:typeOf (.builtin id)=pure (.type "method_descriptor"))(hm:MtR X id r)(ho:PE X o to)
  (yS:ZV o name X.env (eval o X.env)=eval o X.env:=by rfl) (lZ:(apos.endLine==fE.line)=Λ:=by rfl):PE X (.Call (.Attribute o name apos) [] [] fE) (Uv X.K T r to):=by
 intro η s σ H Q I h;refine wpAny_Call_method0_late yS lZ (bR (ho η s σ H _ I h) λv s1 ⟨x,H1,I1,r1,ty,q1⟩=>?_);obtain⟨h1,h2⟩:=Fq I1 r1 ty;exact⟨T,id,pa,slot,Uw,h1,h2,Zu rfl (PySem.evalArgs_none (hm η s1 σ H1 x [] v [] Q I1 r1 .nil q1))⟩
theorem PR(pa:PlainAttrs T)(slot:Slot T name id)(Uw:typeOf (.builtin id)=pure (.type "method_descriptor"))(hm:MtR X id r)(ho:PE X o to)(ha:PA X (e::es) t)
  (yS:ZV o name X.env (eval o X.env)=eval o X.env:=by rfl)
  (Ux:((Zk fE (XG (e::es) X.env)).all (λx=>!x.1)&&(abc fE (Z6 [] X.env)).all (λx=>x.1.isSome)
   &&decide ((e::es).length+([]:List abJ).length+(if([]:List abJ).isEmpty then 0 else 1) < 30))=Λ:=by rfl)
  (lZ:(apos.endLine==fE.line)=Λ:=by rfl) (hs:XG (e::es) X.env=(Ξ,eval e X.env)::XG es X.env:=by rfl) (Md:(Zk fE (XG es X.env)).any (·.1)=Ξ:=by rfl):
  PE X (.Call (.Attribute o name apos) (e::es) [] fE) (tBM X.K T r to t):=by
 intro η s σ H Q I h;refine wpAny_Call_method_late yS Ux lZ rfl (bR (ho η s σ H _ I h) λv s1 ⟨x,H1,I1,r1,ty,q1⟩=>?_);obtain⟨h1,h2⟩:=Fq I1 r1 ty;refine⟨T,id,pa,slot,Uw,h1,h2,?_⟩;have hA:=ha fE η s1 σ H1 _ I1 q1;rw[hs] at hA ⊢;refine Zu (by show(Ξ||(Zk fE (XG es X.env)).any (·.1))=Ξ;rw[Md]<;>rfl) (abe ?_);exact bR hA λus s2 ⟨vs,H2,I2,r2,q2⟩=>hm η s2 σ H2 x vs v us Q I2 r1 r2 q2
end
def MtM(X:Cx)(id:String)(r:V->List V->Hp->VK->Prop):Prop:=
 ∀(η:List (Addr×Obj)) (s:Xp) (σ:St) (H:Hp) (x:V) (xs:List V) (v:Value) (us:List Value) (Q:VK),Inv X η σ H s->RelV x v->aS xs us->r x xs H Q->
  wpAny (model X.prog X.w) X.A (call (.builtin id) (v::us)) (EP X η σ Q) X.xe s
theorem aS.one:∀{x} {us},aS [x] us->∃u,us=[u]/\RelV x u:=by intro x us h;cases h with|cons r t=>cases t with|nil=>exact⟨_,rfl,r⟩
theorem aS.zero:∀{us},aS [] us->us=[]
 |_,.nil=>rfl
theorem aS.dropLast(h:aS xs us):aS xs.dropLast us.dropLast:=by induction h with|nil=>exact .nil|cons r t ih=>cases t with|nil=>exact .nil|cons q t'=>exact .cons r ih
theorem aS.reverse(h:aS xs us):aS xs.reverse us.reverse:=by induction h with|nil=>exact .nil|cons r t ih=>rw[aaS,aaS];exact aS.append ih (.cons r .nil)
theorem Bp{α:Type}(l:List α):l.eraseIdx (l.length - 1)=l.dropLast:=by
 induction l with
 |nil=>rfl|cons a r ih=>
  cases r with
  |nil=>rfl|cons b r=>
   have e:(a::b::r).length - 1=((b::r).length - 1)+1:=by
    have h1:(a::b::r).length=r.length+2:=rfl;have h2:(b::r).length=r.length+1:=rfl
    lia
   rw[e,List.eraseIdx_cons_succ,ih];all_goals rfl
section
variable{X:Cx}{η:List (Addr×Obj)}{σ:St}{H:Hp}{s:Xp}{l b:Addr}{xs ys zs:List V}
theorem Inv.PU{its its':List Value}(I:Inv X η σ H s)(hH:H l=Δ (.lst xs))(e:s.heap.get? l=Δ {cls:=.type "list",data:=.seq its.toArray n})(hf:f its.toArray=its'.toArray)(hv:aS ys its')(hz:ys.length<=Xv):
  Inv X η σ (upd H l (.lst ys)) {s with heap:=s.heap.update l (ZW f),toks:=t'}:=by
 have q:=PySem.IsL.update e f;rw[hf] at q;refine I.write (x:=l) (e:=l) (by rw[hH];exact trivial) (.inl rfl) (λb' u hb hu=>(Yr s.heap (ZW f) (Yc hb)).trans hu) ⟨_,q⟩ ?_;exact⟨hz,its',_,hv,q⟩
theorem Inv.Uy(I:Inv X η σ H s)(hv:aS ys its)(hz:ys.length<=Xv):
  Inv X η σ (upd H s.heap.objs.size (.lst ys)) {s with heap:=s.heap.push {cls:=.type "list",data:=.seq its.toArray},toks:=t'}:=
 I.laid (λ_ _ q=>W4 _ q) (Xd _) ⟨hz,its,0,hv,Xj _ rfl⟩
theorem Inv.fresh(I:Inv X η σ H s):H s.heap.objs.size=Θ:=I.aL.fresh (Xd _)
theorem Inv.PV(I:Inv X η σ H s)(hH:H l=Δ (.lst xs)):xs.length<=Xv/\∃(its:List Value) (n:Nat),aS xs its/\xs.length=its.length/\s.heap.get? l=Δ {cls:=.type "list",data:=.seq its.toArray n}:=by obtain⟨z,its,n,r,e⟩:=I.aL l _ hH;exact⟨z,its,n,r,r.length,e⟩
end
section
variable{X:Cx}
def Iy:V->List V->Hp->VK->Prop:=λx vs H Q=>∃l xs y,x=.ref l/\vs=[y]/\H l=Δ (.lst xs)/\xs.length < Xv/\Q .bu (upd H l (.lst (xs++[y])))
theorem oZ:MtM X "list.append" Iy:=by
 intro η s σ H x vs v us Q I rx rv h;obtain⟨l,xs,y,rfl,rfl,hH,hz,q⟩:=h;cases rx;obtain⟨u,rfl,ru⟩:=rv.one;obtain⟨z,its,n,r,hl,e⟩:=I.PV hH;refine aaC F.slot_list_append ⟨_,e,rfl⟩ F.entry_list_append (F.args_list_append_2 _ _) (PySem.list_append l its.toArray n u (by rw[Xh];lia)) ⟨e,?_⟩;refine⟨.bu,_,I.PU (its':=its++[u]) hH e (by simp) (r.append (.cons ru .nil)) ?_,rfl,q⟩;rw[Xs,List.length_singleton]
 lia
def Uz:V->List V->Hp->VK->Prop:=λx vs H Q=>∃l xs y,x=.ref l/\vs=[]/\H l=Δ (.lst xs)/\xs[xs.length - 1]?=Δ y/\Q y (upd H l (.lst xs.dropLast))
theorem Me:MtM X "list.pop" Uz:=by
 intro η s σ H x vs v us Q I rx rv h;obtain⟨l,xs,y,rfl,rfl,hH,hy,q⟩:=h;cases rx;have hus:=rv.zero;subst hus;obtain⟨z,its,n,r,hl,e⟩:=I.PV hH;obtain⟨u,hu,ru⟩:=r.get hy;have hy':its.toArray[its.toArray.size - 1]?=Δ u:=by show its.toArray[its.length - 1]?=Δ u;rw[<-aaZ,<-hl];exact hu
 refine aaC F.slot_list_pop ⟨_,e,rfl⟩ F.entry_list_pop (F.args_list_pop_1 _) (MeetsSeq.list_pop_last l its.toArray n u hy' (by rw[Xh];lia)) ⟨e,?_⟩;refine⟨y,_,I.PU (its':=its.dropLast) hH e ?_ r.dropLast ?_,ru,q⟩;·show its.toArray.eraseIdxIfInBounds (its.toArray.size - 1)=its.dropLast.toArray;rw[Xh,List.eraseIdxIfInBounds_toArray,Bp]
 ·rw[List.length_dropLast]
  lia
end
section
variable{prog:Yb}{w:World}{A:YF}{E:Value->Xp->Prop}{s:Xp}
end
section
variable{X:Cx}
end
section
variable{κ:Type}[DecidableEq κ]
noncomputable def fu(kvs:List (κ×V))(k:κ):Option V:=(kvs.find? λkv=>decide (kv.1=k)).map (·.2)
noncomputable def putK(kvs:List (κ×V))(k:κ)(v:V):List (κ×V):=
 if(kvs.any λkv=>decide (kv.1=k))=Λ then kvs.map (λkv=>if kv.1=k then(kv.1,v) else kv) else kvs++[(k,v)]
noncomputable def nA(kvs:List (κ×V))(k:κ):List (κ×V):=kvs.filter λkv=>decide (kv.1≠k)
theorem nB{r:List (κ×V)}{k:κ}(e:p.1=k):fu (p::r) k=Δ p.2:=by simp[fu,Yu,e]
theorem nC{r:List (κ×V)}{k:κ}(e:¬p.1=k):fu (p::r) k=fu r k:=by simp[fu,Yu,e]
theorem sH(k:κ):∀kvs:List (κ×V),(kvs.any λkv=>decide (kv.1=k))=(fu kvs k).isSome
 |[]=>rfl|p::r=>by
  rw[Zz];by_cases e:p.1=k;·simp only[nB e,decide_eq_true e,Bool.true_or,Option.isSome_some]
  ·rw[nC e,decide_eq_false e,Bool.false_or];exact sH k r
theorem iK kvs(k:κ)v:(putK kvs k v).length<=kvs.length+1:=by
 unfold putK;split;·rw[Xc];lia
 ·rw[Xs,Xq,Y8];lia
theorem kz.gY(r:kz o u):o.isSome=u.isSome:=by
 cases o with
 |none=>cases u with|none=>rfl|some _=>exact(show False from r).elim
 |some _=>cases u with|none=>exact(show False from r).elim|some _=>rfl
theorem KV.val(r:KV kvs vs)(k:κ):kz (fu kvs k) (ab4 vs k):=by
 unfold KV at r;induction r with
 |nil=>exact YH|@cons p q ps qs h t ih=>
  obtain⟨h1,h2⟩:=h;by_cases e:p.1=k
  ·have e':q.1=k:=h1.symm.trans e;have b:ab4 (q::qs) k=Δ q.2:=by simp[ab4,Yu,e']
   rw[nB e,b];exact h2
  ·have e':¬q.1=k:=λz=>e (h1.trans z);have b:ab4 (q::qs) k=ab4 qs k:=by simp[ab4,Yu,e']
   rw[nC e,b];exact ih
theorem KV.any(r:KV kvs vs)(k:κ):(kvs.any λkv=>decide (kv.1=k))=vs.any λkv=>decide (kv.1=k):=by unfold KV at r;induction r with|nil=>rfl|cons h t ih=>rw[Zz,Zz,ih,h.1]
theorem KV.DE(r:KV kvs vs)(k:κ)(ry:RelV y u):
  KV (kvs.map λkv=>if kv.1=k then(kv.1,y) else kv) (vs.map λkv=>if kv.1=k then(kv.1,u) else kv):=by
 unfold KV at r ⊢;induction r with
 |nil=>exact .nil|@cons p q ps qs h t ih=>
  rw[Xi,Xi];refine .cons ?_ ih;obtain⟨h1,h2⟩:=h;by_cases e:p.1=k;·rw[if_pos e,if_pos (h1.symm.trans e)];exact⟨h1,ry⟩
  ·rw[if_neg e,if_neg (λz=>e (h1.trans z))];exact⟨h1,h2⟩
theorem KV.put(r:KV kvs vs)(k:κ)(ry:RelV y u):KV (putK kvs k y) (stored vs k u):=by
 unfold putK stored;rw[r.any k];by_cases e:(vs.any λkv=>decide (kv.1=k))=Λ;·rw[if_pos e,if_pos e];exact r.DE k ry
 ·rw[if_neg e,if_neg e];exact acB.snoc r ⟨rfl,ry⟩
theorem KV.drop(r:KV kvs vs)(k:κ):KV (nA kvs k) (without vs k):=by
 unfold KV at r ⊢;unfold nA without;induction r with
 |nil=>exact .nil|@cons p q ps qs h t ih=>
  obtain⟨h1,h2⟩:=h;rw[List.filter_cons,List.filter_cons];by_cases e:p.1=k
  ·have a:¬decide (p.1≠k)=Λ:=by simp[e]
   have b:¬decide (q.1≠k)=Λ:=by simp[h1.symm.trans e]
   rw[if_neg a,if_neg b];exact ih
  ·have e':¬q.1=k:=λz=>e (h1.trans z);have a:decide (p.1≠k)=Λ:=by simp[e]
   have b:decide (q.1≠k)=Λ:=by simp[e']
   rw[if_pos a,if_pos b];exact .cons ⟨h1,h2⟩ ih
theorem KV.length{vs:List (κ×Value)}(r:KV kvs vs):kvs.length=vs.length:=abP r
theorem yT kvs(k:κ):(nA kvs k).length<=kvs.length:=ZJ _ _
end
theorem nE(r:RelV (kV k) u):(be P w).is k u=Λ:=by cases k with|inl i=>obtain⟨t,e⟩:=(show ∃t,u=aa5 i t from r);subst e;exact yK P w i t|inr x=>obtain⟨t,e⟩:=(show ∃t,u=aa4 x t from r);subst e;exact yL P w x t
theorem vV:∀{ks} {us},aS (ks.map kV) us->ItemsAre (be P w) ks us
 |[],_,r=>by rw[Zs] at r;cases r;exact .nil|k::ks,_,r=>by rw[Xi] at r;cases r with|cons h t=>exact .cons (nE h) (vV t)
abbrev KT(H:Hp):List (List Key×V)->List (List Key×Addr×Value)->Prop:=acB λp q=>p.1=q.1/\H q.2.1=Δ (.tup (p.1.map kV))/\RelV p.2 q.2.2
theorem KT.val(r:KT H kvs xs)k:kz (fu kvs k) ((atKey xs k).map (·.2)):=by
 induction r with
 |nil=>exact YH|@cons p q ps qs h t ih=>
  obtain⟨h1,_,h2⟩:=h;by_cases e:p.1=k
  ·have e':q.1=k:=h1.symm.trans e;have b:atKey (q::qs) k=Δ q.2:=by simp[atKey,Yu,e']
   rw[nB e,b];exact h2
  ·have e':¬q.1=k:=λz=>e (h1.trans z);have b:atKey (q::qs) k=atKey qs k:=by simp[atKey,Yu,e']
   rw[nC e,b];exact ih
theorem KT.DE(r:KT H kvs xs)k(ry:RelV y u):
  KT H (kvs.map λkv=>if kv.1=k then(kv.1,y) else kv) (xs.map (putAt k u)):=by
 induction r with
 |nil=>exact .nil|@cons p q ps qs h t ih=>
  rw[Xi,Xi];refine .cons ?_ ih;obtain⟨h1,h2,h3⟩:=h;unfold putAt;by_cases e:p.1=k;·rw[if_pos e,if_pos (h1.symm.trans e)];exact⟨h1,h2,ry⟩
  ·rw[if_neg e,if_neg (λz=>e (h1.trans z))];exact⟨h1,h2,h3⟩
theorem KT.put(r:KT H kvs xs)k(hb:H b=Δ (.tup (k.map kV)))(ry:RelV y u):
  KT H (putK kvs k y) (storedH xs k b u):=by
 have e:(kvs.any λkv=>decide (kv.1=k))=(atKey xs k).isSome:=by rw[sH,(r.val k).gY,aah]
 unfold putK storedH;rw[e];by_cases q:(atKey xs k).isSome=Λ;·rw[if_pos q,if_pos q];exact r.DE k ry
 ·rw[if_neg q,if_neg q];exact acB.snoc r ⟨rfl,hb,ry⟩
theorem KT.keeps(r:KT H kvs xs)(ht:∀b ys,H b=Δ (.tup ys)->H' b=Δ (.tup ys)):KT H' kvs xs:=
 acB.Lz r λ_ _ z=>⟨z.1,ht _ _ z.2.1,z.2.2⟩
section
variable{P:Yb}{w:World}{H:Hp}{h:Heap}{a:Addr}
theorem KH(ok:kA P w H h)(e:Rd H a u):bI P w H h a u:=e.ok ok
theorem qk(ok:kA P w H h)(e:Rd H a (.dK kvs)):kvs.length<=Xv/\(a==YZ)=Ξ/\∃vs,KV kvs vs/\h.DictOf (be P w) a vs:=
 show bI P w H h a (.dK kvs) from KH ok e
theorem vW(ok:kA P w H h)(e:H a=Δ (.dK kvs)):kvs.length<=Xv/\(a==YZ)=Ξ/\∃vs,KV kvs vs/\h.DictOf (be P w) a vs:=qk ok (.inl e)
theorem o4(ok:kA P w H h)(e:H a=Δ (.tup (ks.map kV))):(abS (be P w)).is h ks a:=by obtain⟨_,its,r,o,h1,h2,n,h3⟩:=(show bI P w H h a (.tup (ks.map kV)) from ok a _ e);exact⟨o,its.toArray,n,h1,h2,h3,by simpa using vV r⟩
theorem qm(ok:kA P w H h)(e:Rd H a (.dT kvs)):kvs.length<=Xv/\(a==YZ)=Ξ/\
  ∃xs,KT H kvs xs/\h.DictOfH (abS (be P w)) a xs:=by
 obtain⟨z,y,xs,r,o,es,ep,h1,h2,h3,h4,h5⟩:=(show bI P w H h a (.dT kvs) from KH ok e);refine⟨z,y,xs,r,o,es,ep,h1,h2,h3,h4,λx hx=>?_,h5⟩;have all:∀{l:List (List Key×V)} {m:List (List Key×Addr×Value)},KT H l m->∀x∈m,(abS (be P w)).is h x.1 x.2.1:=by
  intro l m q;induction q with
  |nil=>intro x hx;exact nomatch hx|@cons p q ps qs hq t ih=>
   intro x hx;rcases Zy.mp hx with e|hx;·subst e;exact o4 ok (by rw[<-hq.1];exact hq.2.1)
   ·exact ih x hx
 exact all r x hx
theorem KJ(ok:kA P w H h)(e:H a=Δ (.dT kvs)):kvs.length<=Xv/\(a==YZ)=Ξ/\
  ∃xs,KT H kvs xs/\h.DictOfH (abS (be P w)) a xs:=qm ok (.inl e)
end
def nF(H:Hp)(a:Addr)(y:V)(r:Option V):Prop:=
 (∃kvs k,Rd H a (.dK kvs)/\y=kV k/\r=fu kvs k)\/∃kvs k b,Rd H a (.dT kvs)/\y=.ref b/\H b=Δ (.tup (k.map kV))/\r=fu kvs k
def yU(H:Hp)(a:Addr)(y v:V)(H':Hp):Prop:=
 (∃kvs k,H a=Δ (.dK kvs)/\y=kV k/\kvs.length < Xv/\H'=upd H a (.dK (putK kvs k v)))\/
 ∃kvs k b,H a=Δ (.dT kvs)/\y=.ref b/\H b=Δ (.tup (k.map kV))/\kvs.length < Xv/\H'=upd H a (.dT (putK kvs k v))
theorem nF.k{k:Key}(e:H a=Δ (.dK kvs)):nF H a (kV k) (fu kvs k):=.inl ⟨kvs,k,.inl e,rfl,rfl⟩
theorem nF.t{k:List Key}(e:H a=Δ (.dT kvs))(eb:H b=Δ (.tup (k.map kV))):nF H a (.ref b) (fu kvs k):=.inr ⟨kvs,k,b,.inl e,rfl,eb,rfl⟩
theorem yU.k{k:Key}(e:H a=Δ (.dK kvs))(hl:kvs.length < Xv):yU H a (kV k) v (upd H a (.dK (putK kvs k v))):=.inl ⟨kvs,k,e,rfl,hl,rfl⟩
theorem yU.t{k:List Key}(e:H a=Δ (.dT kvs))(eb:H b=Δ (.tup (k.map kV)))(hl:kvs.length < Xv):
  yU H a (.ref b) v (upd H a (.dT (putK kvs k v))):=.inr ⟨kvs,k,b,e,rfl,eb,hl,rfl⟩
section
variable{X:Cx}{η:List (Addr×Obj)}{σ:St}{H:Hp}{s:Xp}{a:Addr}{y v:V}{u r:Value}{o:Option V}{A:YF}{E:Value->Xp->Prop}
theorem Inv.SA(I:Inv X η σ H s):YZ < s.heap.objs.size:=by have h:Xk < s.heap.objs.size:=(I.mod.glob.keeps I.bk).lt;exact aaR (by decide) h
theorem DF(hu:A.units+1 < cLine)(I:Inv X η σ H s)(g:nF H a y (Δ v))(ry:RelV y u)(h:∀w' s',Inv X η σ H s'->RelV v w'->Q w' s'):
  wpAny (model X.prog X.w) A (aay (.ref a) u) Q E s:=by
 rcases g with ⟨kvs,k,e,ey,l⟩|⟨kvs,k,b,e,ey,eb,l⟩
 ·subst ey;obtain⟨z,hd,vs,rel,dd⟩:=qk I.aL e;obtain⟨w',hw,mx⟩:=kz.some_of (v:=v) (o:=ab4 vs k) (by rw[l];exact rel.val k);exact wpAny_getItem_of (nE ry) dd.mapOf hw (h w' _ (I.tok _) mx)
 ·subst ey;cases (show u=XC b from ry);obtain⟨z,hd,xs,rel,dd⟩:=qm I.aL e;obtain⟨w',hw,mx⟩:=kz.some_of (v:=v) (o:=(atKey xs k).map (·.2)) (by rw[l];exact rel.val k);obtain⟨p,hp,hp2⟩:=Option.map_eq_some_iff.mp hw;refine wpAny_getItem_heap (aaB hu) (o4 I.aL eb) dd hp ?_;rw[hp2];exact h w' _ (I.tok _) mx
theorem UA(hu:A.units+1 < cLine)(I:Inv X η σ H s)(g:nF H a y o)(ry:RelV y u)(h:∀s',Inv X η σ H s'->Q (.bool o.isSome) s'):
  wpAny (model X.prog X.w) A (Yw .In u (.ref a)) Q E s:=by
 rcases g with ⟨kvs,k,e,ey,l⟩|⟨kvs,k,b,e,ey,eb,l⟩
 ·subst ey;obtain⟨z,hd,vs,rel,dd⟩:=qk I.aL e;refine wpAny_in_of (nE ry) hd dd.mapOf ?_;rw[<-(rel.val k).gY,<-l];exact h _ (I.tok _)
 ·subst ey;cases (show u=XC b from ry);obtain⟨z,hd,xs,rel,dd⟩:=qm I.aL e;refine wpAny_in_heap (aaB hu) (o4 I.aL eb) hd dd ?_;have q:=(rel.val k).gY;rw[aah] at q;rw[<-q,<-l];exact h _ (I.tok _)
theorem Iz(hu:A.units+1 < cLine)(I:Inv X η σ H s)(g:nF H a y o)(ry:RelV y u)(h:∀s',Inv X η σ H s'->Q (.bool (!o.isSome)) s'):
  wpAny (model X.prog X.w) A (Yw .NotIn u (.ref a)) Q E s:=by
 rcases g with ⟨kvs,k,e,ey,l⟩|⟨kvs,k,b,e,ey,eb,l⟩
 ·subst ey;obtain⟨z,hd,vs,rel,dd⟩:=qk I.aL e;refine wpAny_notIn_of (nE ry) hd dd.mapOf ?_;rw[<-(rel.val k).gY,<-l];exact h _ (I.tok _)
 ·subst ey;cases (show u=XC b from ry);obtain⟨z,hd,xs,rel,dd⟩:=qm I.aL e;refine wpAny_notIn_heap (aaB hu) (o4 I.aL eb) hd dd ?_;have q:=(rel.val k).gY;rw[aah] at q;rw[<-q,<-l];exact h _ (I.tok _)
theorem jK(I:Inv X η σ H s)(mu:O2 (H a))(hs:ZU a s.heap h')(he:∃q,h'.get? a=Δ q)(new:bI X.prog X.w (upd H a ob) h' a ob):
  Inv X η σ (upd H a ob) {s with heap:=h',toks:=t'}:=
 I.write (x:=a) (e:=a) mu (.inl rfl) (λb q hb z=>(hs.2 b hb).trans z) he new
theorem sI(z:kvs.length<=Xv)(hd:(a==YZ)=Ξ)(rel:KV kvs vs)(dd:h'.DictOf (be P w) a vs):
  bI P w H' h' a (.dK kvs):=⟨z,hd,vs,rel,dd⟩
theorem DG(hu:A.units+1 < cLine)(I:Inv X η σ H s)(g:yU H a y v H')(ry:RelV y u)(rv:RelV v r)(h:∀s',Inv X η σ H' s'->Q () s'):
  wpAny (model X.prog X.w) A (setItem (.ref a) u r) Q E s:=by
 rcases g with ⟨kvs,k,e,ey,l,eH⟩|⟨kvs,k,b,e,ey,eb,l,eH⟩
 ·subst ey eH;obtain⟨z,hd,vs,rel,dd⟩:=vW I.aL e;have hz:vs.length<=Xv:=by rw[<-rel.length];exact z
  have hl:(putK kvs k v).length<=Xv:=by have:=iK kvs k v;lia
  refine wpAny_setItem_pairs (hsz:=hz) (nE ry) dd λh' yE hs=>h _ ?_;have he:∃q,h'.get? a=Δ q:=let ⟨q,_,_,hq,_⟩:=yE;⟨q,hq⟩
  exact jK I (by rw[e];exact YH) hs he (sI hl hd (rel.put k rv) yE)
 ·subst ey eH;cases (show u=XC b from ry);obtain⟨z,hd,xs,rel,dd⟩:=KJ I.aL e;have hz:xs.length<=Xv:=by rw[<-abP rel];exact z
  have hl:(putK kvs k v).length<=Xv:=by have:=iK kvs k v;lia
  refine wpAny_setItem_heap (hsz:=hz) (aaB hu) (o4 I.aL eb) dd λh' yE hs=>h _ ?_;obtain⟨q,es,ep,hq,h2,h3,h4,_,h5⟩:=yE;refine jK I (by rw[e];exact YH) hs ⟨q,hq⟩ ⟨hl,hd,_,(rel.put k eb rv).keeps λc ys ec=>?_,q,es,ep,hq,h2,h3,h4,h5⟩;rw[ax (Kw ec e (λz=>nomatch z))];exact ec
end
section
variable{X:Cx}{η:List (Addr×Obj)}{σ:St}{H:Hp}{s:Xp}{a:Addr}{kvs:List (Key×V)}{k:Key}{u:Value}{A:YF}{E:Value->Xp->Prop}
theorem OD(I:Inv X η σ H s)(e:H a=Δ (.dK kvs))(ry:RelV (kV k) u)(l:(fu kvs k).isSome=Λ)(h:∀s',Inv X η σ (upd H a (.dK (nA kvs k))) s'->Q () s'):
  wpAny (model X.prog X.w) A (delItem (.ref a) u) Q E s:=by
 obtain⟨z,hd,vs,rel,dd⟩:=vW I.aL e;refine wpAny_delItem_slot dd.typeIs (by decide) PySem.F.slot_dict_delitem
  (abn PySem.F.slot_dict_delitem dd.typeIs PySem.F.entry_dict_delitem (PySem.F.args_dict_delitem_2 _ _) (meets_dict_delitem_pairs (be X.prog X.w) a (nE ry)) ⟨vs,dd,by rw[<-rel.length];exact z,by rw[<-(rel.val k).gY];exact l,λh' yE hs=>h _ ?_⟩)
 have he:∃q,h'.get? a=Δ q:=let ⟨q,_,_,hq,_⟩:=yE;⟨q,hq⟩
 exact jK I (by rw[e];exact YH) hs he (sI (XW (yT kvs k) z) hd (rel.drop k) yE)
theorem PX(I:Inv X η σ H s)(e:H a=Δ (.dK kvs))(ry:RelV (kV k) u)(l:fu kvs k=Δ v)(hm:more=[]\/∃x,more=[x])(h:∀w' s',Inv X η σ (upd H a (.dK (nA kvs k))) s'->RelV v w'->Q w' s'):wpAny (model X.prog X.w) A (call (.builtin "dict.pop") (.ref a::u::more)) Q E s:=by
 obtain⟨z,hd,vs,rel,dd⟩:=vW I.aL e;obtain⟨w',hw,mx⟩:=kz.some_of (v:=v) (o:=ab4 vs k) (by rw[<-l];exact rel.val k);have hp:(keyPart u).isSome=Λ:=by cases k with|inl i=>obtain⟨t,q⟩:=(show ∃t,u=aa5 i t from ry);subst q;rfl|inr x=>obtain⟨t,q⟩:=(show ∃t,u=aa4 x t from ry);subst q;rfl
 have ha:argsOk "dict.pop" ⟨.ref a::u::more,[]⟩:=by
  rcases hm with q|⟨x,q⟩;·subst q;exact PySem.F.args_dict_pop_2 _ _
  ·subst q;exact PySem.F.args_dict_pop_3 _ _ _
 refine abn PySem.F.slot_dict_pop dd.typeIs PySem.F.entry_dict_pop ha (meets_dict_pop_there (be X.prog X.w) a (nE ry) more hm hp)
  ⟨vs,w',dd,by rw[<-rel.length];exact z,hw,λh' yE hs=>h w' _ ?_ mx⟩
 have he:∃q,h'.get? a=Δ q:=let ⟨q,_,_,hq,_⟩:=yE;⟨q,hq⟩
 exact jK I (by rw[e];exact YH) hs he (sI (XW (yT kvs k) z) hd (rel.drop k) yE)
theorem PY(I:Inv X η σ H s)(e:Rd H a (.dK kvs))(h:∀t s',Inv X η σ H s'->Q (.int kvs.length t) s'):wpAny (model X.prog X.w) A (call (.builtin "len") [.ref a]) Q E s:=by obtain⟨z,hd,vs,rel,dd⟩:=qk I.aL e;refine call_len_dict hd dd (by rw[<-rel.length];rw[YJ] at z;lia) ?_;rw[<-rel.length];exact h _ _ (I.tok _)
end
theorem yV(I:Inv X η σ H s)(g:nF H a y o):s.TypeIs (.ref a) "dict":=by
 rcases g with ⟨kvs,k,e,_,_⟩|⟨kvs,k,b,e,_,_,_⟩
 ·obtain⟨_,_,vs,_,dd⟩:=qk I.aL e;exact dd.typeIs
 ·obtain⟨_,_,xs,_,dd⟩:=qm I.aL e;exact dd.typeIs
theorem yW(I:Inv X η σ H s)(g:nF H a y o):
  ∀b,XC a=.ref b->∃ob,s.heap.get? b=Δ ob/\ob.dict=Θ:=λb q=>by
 cases q;rcases g with ⟨kvs,k,e,_,_⟩|⟨kvs,k,b,e,_,_,_⟩
 ·obtain⟨_,_,vs,_,ob,_,_,h1,h2,_⟩:=qk I.aL e;exact⟨ob,h1,h2.2.1⟩
 ·obtain⟨_,_,xs,_,ob,_,_,h1,h2,_⟩:=qm I.aL e;exact⟨ob,h1,h2.2.1⟩
section
variable{X:Cx}{o i e value:Expr}{pos pos' Ul:Pos}{td ty tv:TE}
end
theorem yX(h:Heap)(hb:YZ < h.objs.size):bI P w H (h.push {cls:=.type "dict",data:=.dict #[]}) h.objs.size (.dK []):=
 ⟨Yj _,beq_eq_false_iff_ne.mpr (Yc (XD hb)),[],.nil,Heap.DictOf.new h⟩
theorem yY(h:Heap)(hb:YZ < h.objs.size):bI P w H (h.push {cls:=.type "dict",data:=.dict #[]}) h.objs.size (.dT []):=
 ⟨Yj _,beq_eq_false_iff_ne.mpr (Yc (XD hb)),[],.nil,_,#[],0,Xj _ rfl,⟨rfl,rfl,rfl⟩,rfl,rfl,List.nodup_nil⟩
def Mf:TE:=λ_ H Q=>∀p,H p=Θ->Q (.ref p) (upd H p (.dK []))
def Mg:TE:=λ_ H Q=>∀p,H p=Θ->Q (.ref p) (upd H p (.dT []))
section
variable{X:Cx}{pos:Pos}
theorem Ft:PE X (.Dict [] [] pos) Mf:=λη s σ H Q I h=>wpAny_Dict_empty ⟨.ref s.heap.objs.size,_,I.laid (a:=s.heap.objs.size) (o:=.dK []) (t':=s.toks) (λ_ _ q=>W4 _ q) (Xd _) (yX s.heap I.SA),rfl,h _ (I.aL.fresh (Xd _))⟩
theorem Fu:PE X (.Dict [] [] pos) Mg:=λη s σ H Q I h=>wpAny_Dict_empty ⟨.ref s.heap.objs.size,_,I.laid (a:=s.heap.objs.size) (o:=.dT []) (t':=s.toks) (λ_ _ q=>W4 _ q) (Xd _) (yY s.heap I.SA),rfl,h _ (I.aL.fresh (Xd _))⟩
end
noncomputable def Bq:List (TE×TE)->St->Hp->(List (V×V)->Hp->Prop)->Prop
 |[],_,H,Q=>Q [] H|(tk,tv)::r,σ,H,Q=>tk σ H λx H1=>tv σ H1 λy H2=>Bq r σ H2 λps H3=>Q ((x,y)::ps) H3
abbrev VV:List (V×V)->List (Value×Value)->Prop:=acB λp q=>RelV p.1 q.1/\RelV p.2 q.2
def SD(X:Cx)(pos:Pos)(keys:List (Option Expr))(values:List Expr)(Mh:List (TE×TE)):Prop:=
 ∀(η:List (Addr×Obj)) (s:Xp) (σ:St) (H:Hp) (Q:List (V×V)->Hp->Prop),Inv X η σ H s->Bq Mh σ H Q->
  wpAny (model X.prog X.w) X.A (evalPairs (pairTrees keys values X.env pos)) (λvs s'=>∃ps H',Inv X η σ H' s'/\VV ps vs/\Q ps H') X.xe s
theorem Cv:SD X pos [] [] []:=λη s σ H Q I h=>pairTrees_nil_walk ⟨[],H,I,.nil,h⟩
theorem yZ(hk:PE X k tk)(hv:PE X v tv)(hr:SD X pos ks vs Mh):
  SD X pos (Δ k::ks) (v::vs) ((tk,tv)::Mh):=λη s σ H Q I h=>
 pairTrees_cons_walk (bR (hk η s σ H _ I h) λu s1 ⟨x,H1,I1,rx,q1⟩=>bR (hv η s1 σ H1 _ I1 q1) λw2 s2 ⟨y,H2,I2,ry,q2⟩=>bR (hr η s2 σ H2 _ I2 q2) λws s3 ⟨ps,H3,I3,rel,q3⟩=>⟨(x,y)::ps,H3,I3,.cons ⟨rx,ry⟩ rel,q3⟩)
def o5(kvs more:List (Key×V)):List (Key×V):=more.foldl (λacc kv=>putK acc kv.1 kv.2) kvs
theorem KV.merge:∀{more} {rs} {kvs} {vs},KV more rs->KV kvs vs->KV (o5 kvs more) (merged vs rs):=by
 intro more rs kvs vs r;unfold KV at r;induction r generalizing kvs vs with
 |nil=>intro q;exact q|@cons p q ps qs h t ih=>
  intro r0;have e:KV (putK kvs p.1 p.2) (stored vs q.1 q.2):=by have:=r0.put p.1 h.2;rw[<-h.1];exact this
  exact ih e
theorem l4:∀(more kvs),(o5 kvs more).length<=kvs.length+more.length
 |[],kvs=>by show kvs.length<=kvs.length+0;lia|p::r,kvs=>by have h1:=l4 r (putK kvs p.1 p.2);have h2:=iK kvs p.1 p.2;show(o5 (putK kvs p.1 p.2) r).length<=_;rw[Xq];lia
theorem sJ:∀{kvs} {ws},VV (kvs.map λkv=>(kV kv.1,kv.2)) ws->∃rs,Carries (be P w) ws rs/\KV kvs rs
 |[],_,r=>by rw[Zs] at r;cases r;exact⟨[],YH,.nil⟩|p::kvs,_,r=>by rw[Xi] at r;cases r with|@cons a b as bs h t=>obtain⟨rs,c,q⟩:=sJ (P:=P) (w:=w) t;obtain⟨b1,b2⟩:=b;exact⟨(p.1,b2)::rs,⟨nE h.1,rfl,c⟩,.cons ⟨rfl,h.2⟩ q⟩
def PZ(Mh:List (TE×TE)):TE:=λσ H Q=>∀p,H p=Θ->Bq Mh σ (upd H p (.dK [])) λps H2=>H2 p=Δ (.dK [])/\∃kvs:List (Key×V),ps=kvs.map (λkv=>(kV kv.1,kv.2))/\kvs.length<=15/\Q (.ref p) (upd H2 p (.dK (o5 [] kvs)))
theorem IA(h:SD X pos keys values Mh)(Br:keys.all (·.isSome)=Λ)(hl:keys.length=values.length)(h0:keys≠[])(h15:keys.length<=15):PE X (.Dict keys values pos) (PZ Mh):=by
 intro η s σ H Q I q;have hn:=I.aL.fresh (Xd s.heap.objs.size);have I1:=I.laid (a:=s.heap.objs.size) (o:=.dK []) (h':=s.heap.push {cls:=.type "dict",data:=.dict #[]}) (t':=s.toks) (λ_ _ q=>W4 _ q) (Xd _) (yX s.heap I.SA);refine wpAny_Dict_walk (knd:=be X.prog X.w) Br hl h0 h15 (bR (h η _ σ _ _ I1 (q _ hn)) λws s2 ⟨ps,H2,I2,rel,e,kvs,ep,lk,q2⟩=>?_);subst ep;obtain⟨rs,c,rk⟩:=sJ (P:=X.prog) (w:=X.w) rel;obtain⟨z,hd,vs0,r0,dd⟩:=vW I2.aL e;cases r0;refine⟨rs,c,dd,λh' yE hs=>⟨.ref s.heap.objs.size,_,?_,rfl,q2⟩⟩;have hz:(o5 [] kvs).length<=Xv:=by have h1:=l4 kvs [];rw[Y8] at h1;rw[YJ];lia
 have he:∃q,h'.get? s.heap.objs.size=Δ q:=let ⟨q,_,_,hq,_⟩:=yE;⟨q,hq⟩
 exact jK I2 (by rw[e];exact YH) hs he (sI hz hd (rk.merge .nil) yE)
structure M1(X:Cx)(o:Expr)(m:Str)(apos:Pos)(e:Expr)(fE:Pos):Prop where
 base:ZV o m X.env (eval o X.env)=eval o X.env
 UB:((Zk fE (XG [e] X.env)).all (λx=>!x.1)&&(abc fE (Z6 [] X.env)).all (λx=>x.1.isSome)
  &&decide (([e]:List Expr).length+([]:List abJ).length+(if([]:List abJ).isEmpty then 0 else 1) < 30))=Λ
 line:(apos.endLine==fE.line)=Λ
 trees:Zk fE (XG [e] X.env)=[(Ξ,eval e X.env)]
structure M2(X:Cx)(o:Expr)(m:Str)(apos:Pos)(e f:Expr)(fE:Pos):Prop where
 base:ZV o m X.env (eval o X.env)=eval o X.env
 UB:((Zk fE (XG [e,f] X.env)).all (λx=>!x.1)&&(abc fE (Z6 [] X.env)).all (λx=>x.1.isSome)
  &&decide (([e,f]:List Expr).length+([]:List abJ).length+(if([]:List abJ).isEmpty then 0 else 1) < 30))=Λ
 line:(apos.endLine==fE.line)=Λ
 trees:Zk fE (XG [e,f] X.env)=[(Ξ,eval e X.env),(Ξ,eval f X.env)]
def SF(H:Hp)(a:Addr):Prop:=(∃kvs,Rd H a (.dK kvs))\/∃kvs,Rd H a (.dT kvs)
theorem Bs(I:Inv X η σ H s)(d:SF H a):
  s.TypeIs (.ref a) "dict"/\(∀b,XC a=.ref b->∃ob,s.heap.get? b=Δ ob/\ob.dict=Θ)/\(a==YZ)=Ξ:=by
 rcases d with ⟨kvs,e⟩|⟨kvs,e⟩
 ·obtain⟨_,hd,vs,_,dd⟩:=qk I.aL e;refine⟨dd.typeIs,λb q=>?_,hd⟩;cases q;obtain⟨ob,_,_,h1,h2,_⟩:=dd;exact⟨ob,h1,h2.2.1⟩
 ·obtain⟨_,hd,xs,_,dd⟩:=qm I.aL e;refine⟨dd.typeIs,λb q=>?_,hd⟩;cases q;obtain⟨ob,_,_,h1,h2,_⟩:=dd;exact⟨ob,h1,h2.2.1⟩
section
variable{X:Cx}{η:List (Addr×Obj)}{σ:St}{H:Hp}{s:Xp}{a:Addr}{y d:V}{u r:Value}{o:Option V}{A:YF}{E:Value->Xp->Prop}
end
def Mi(td ty:TE):TE:=λσ H Q=>td σ H λx H1=>∃a,x=.ref a/\SF H1 a/\ty σ H1 λy H2=>∃kvs k v,H2 a=Δ (.dK kvs)/\y=kV k/\fu kvs k=Δ v/\Q v (upd H2 a (.dK (nA kvs k)))
section
variable{X:Cx}{o e f:Expr}{apos fE:Pos}{td ty tx:TE}
theorem Fv(ho:PE X o td)(he:PE X e ty)(m:M1 X o "pop" apos e fE):PE X (.Call (.Attribute o "pop" apos) [e] [] fE) (Mi td ty):=by intro η s σ H Q I h;refine wpAny_Call_method m.base m.UB m.line aaG PySem.F.slot_dict_pop PySem.F.type_dict_pop (bR (ho η s σ H _ I h) λu s1 ⟨x,H1,I1,rx,a,ex,d,q1⟩=>?_);subst ex;obtain rfl:u=XC a:=rx;obtain⟨t1,t2,_⟩:=Bs I1 d;refine⟨t1,t2,?_⟩;rw[m.trees];refine Zu rfl (abe (aab (bR (he η s1 σ H1 _ I1 q1) λiv s2 ⟨y,H2,I2,ry,kvs,k,v,ea,ey,l,q2⟩=>aaU ?_)));subst ey;exact PX I2 ea ry l (.inl rfl) λw' s3 I3 mx=>⟨v,_,I3,mx,q2⟩
end
section
variable{X:Cx}{η:List (Addr×Obj)}{σ:St}{H:Hp}{s:Xp}{a:Addr}{kvs:List (Key×V)}{A:YF}{E:Value->Xp->Prop}
end
section
variable{X:Cx}{η:List (Addr×Obj)}{σ:St}{H:Hp}{s:Xp}{a:Addr}{y:V}{u:Value}{A:YF}{E:Value->Xp->Prop}
end
end L2
namespace Att
open PySem PySem.W PySem.Calls PyProof.Rows
theorem qT:∀(ns) (vs),WellAll P h vs (ns.map WData.int)->IntsAre vs ns:=by intro ns;induction ns with|nil=>intro vs w;rw[Zs] at w;cases w;exact .nil|cons n ns ih=>intro vs w;rw[Xi] at w;cases w with|cons a b=>cases a;exact .cons _ _ (ih _ b)
theorem DH{l:OpenLaw}(hn:l.most=Δ n)(IC:l.row.toRowW.claim.pre args=Λ)(SG:WellAll P h vals args):
  ∃a vs ns,vals=[XC a]/\args=[WData.list (ns.map WData.int)]/\h.get? a=Δ {cls:=.type "list",data:=.seq vs.toArray}/\IntsAre vs ns/\ns.length<=n:=by
 have Cw:WShape.hasAll [] args [.list .int]=Λ:=(pre_splitW IC).1;have hc:l.pre.holds [] {args:=args}=Λ:=(pre_splitW IC).2;obtain⟨d,r,rfl,h1,h2⟩:=hasAllW_cons Cw;obtain rfl:=hasAllW_nil h2;obtain⟨xs,rfl,h3⟩:=hasW_list h1;obtain⟨ns,rfl⟩:=items_int h3;have hlen:ns.length<=n:=by
  unfold OpenLaw.pre at hc;have h4:(WTm.not (.lt (.lit (.int (n:Int))) (.len (.arg 0)))).holds [] {args:=[.list (ns.map .int)]}=Λ:=by have h4:=(holds_andW hc).1;rw[hn] at h4;exact h4
  have h5:=condW_of h4 (w_not (w_lt w_lit (w_len_list (w_arg rfl))));rw[Xc] at h5;refine Nat.le_of_not_lt λq=>?_;have q':(n:Int) < ((ns.length:Nat):Int):=by lia
  first
   |(rw[decide_eq_true q'] at h5;exact absurd h5 (by decide))
   |(simp at h5;lia)
 cases SG with|cons w1 w2=>cases w2;cases w1 with|list ho Br=>exact⟨_,_,ns,rfl,rfl,ho,qT ns _ Br,hlen⟩
theorem DI(l:OpenLaw)args:l.row.toRowW.claim.post args (.bool Λ) args=Λ:=
 postW_of (r:=l.row.toRowW) (X:=(Λ==Λ))
  (show WShape.has [] (.bool Λ) .bool=Λ by first|rfl|decide|simp[WShape.has,WShape.arms,WShape.armsAll])
  (show(WTm.eq .res (.lit (.bool Λ))).value [] {args:=args,res:=Δ (.bool Λ),after:=args}=Δ (.bool (Λ==Λ)) from w_eq_bool (w_res rfl) w_lit) rfl
theorem y9{l:OpenLaw}(hn:l.most=Δ n)(P0:d.params.defaults=[])(call:∀(w:World) (gO bA:Xp) (mg mb:Str->Option Value) (fa:Addr) (o:Obj) (pm cd doc:Value) (a:Addr) (vs:List Value) (ns:List Int),
   Ground q loose [] XP w gO mg mb bA.heap->YP w bA.heap->
   bA.heap.get? fa=Δ o->o.data=.func (docDef d.name d.params d.body d.scope pm cd doc)->bA.heap.CodeRec cd d.name->mg d.name=Δ (.ref fa)->
   bA.heap.get? a=Δ {cls:=.type "list",data:=.seq vs.toArray}->IntsAre vs ns->ns.length<=n->bA.gens=#[]->
   aa9 (model l.prog w) acq (.call (.ref fa) ⟨[.ref a],[]⟩) (λr s'=>r=.ok (.ret (.bool Λ))/\OldK bA.heap s'.heap/\s'.os=bA.os/\abK s'.gens) bA):
  WalkO q loose XP YP l.row.toRowW d [] (λf vs=>acW f vs):=by
 intro w gO bA mg mb G Y fa o pm cd doc dV kV ho hd qf hD P4 hg args vals as IC hlay hrd SG hlo;obtain rfl:dV=.none:=Dflts.none hD P0;obtain rfl:kV=.none:=Dflts.noKw hD;obtain⟨a,vs,ns,rfl,rfl,DJ,hints,hlen⟩:=DH hn IC SG;refine enter_call (abm (call w gO bA mg mb fa o pm cd doc a vs ns G Y ho (fd_plain hd) qf P4 DJ hints hlen hg) λr s' hq=>?_);obtain⟨rfl,h2,h3,h4⟩:=hq;exact⟨.inl ⟨.bool Λ,.bool Λ,[],rfl,λ_=>rfl,.bool Λ,DI l _,λ_=>⟨List.Pairwise.nil,λ_ hm=>(nomatch hm)⟩⟩,h2,h3,h4⟩
section
variable{prog:Yb}{w:World}{A:YF}{E:Value->Xp->Prop}{s:Xp}{K:Frag}
end
end Att
namespace L2
open PySem PySem.Spec PyProof.Rows
theorem vX:∀{vs} {ns},IntsAre vs ns->aS (ns.map V.int) vs
 |_,_,.nil=>.nil|_,_,.cons n t h=>.cons ⟨t,rfl⟩ (vX h)
noncomputable def rN(s:Stmt):ZQ:=match s with|.FunctionDef _ a _ _ _ _ _ _ _ _=>a|_=>{posonlyargs:=[],args:=[],vararg:=Θ,kwonlyargs:=[],kw_defaults:=[],kwarg:=Θ,defaults:=[]}
noncomputable def lD(s:Stmt):List Stmt:=match s with|.FunctionDef _ _ b _ _ _ _ _ _ _=>b|_=>[]
noncomputable def aG(s:Stmt):Scope:=match s with|.FunctionDef _ _ _ _ _ _ sc _ _ _=>sc|_=>{kind:=.function,names:=[],isGenerator:=Ξ,isCoroutine:=Ξ}
abbrev u0:HC:=λ_ _ _ _ _ _=>False
abbrev E0:XK:=λ_ _ _=>False
theorem zc:kD u0 X E0:=λ_ _ _ _ _ _ _ h=>h.elim
structure my(K:Xf)(x qual:Str)(st:Stmt)(f:Addr)(fd:Zb):Prop where
 ex:∃(oc:Value) (od:Option Addr) (kV doc pm:Value) (an:Option Addr) (ky ct:Value) (Il:Array (Option Value)),
  fd=aaN x qual (rN st) (lD st) (aG st) .none kV doc pm an ky ct/\K.lookup f=Δ ⟨oc,od,.func fd,Il⟩/\aco K ky qual=Λ
 kp:ZE K (.ref f)=Λ
section
variable{P:Yb}{w:World}{K:Xf}{mg:Str->Option Value}{base:Heap}
theorem my.binds{st:Stmt}(F:my K x qual st f fd)(h:∀(kV doc pm:Value) (an:Option Addr) (ky ct:Value) (us:List Value),us.length=ps.length->acU (aaN x qual (rN st) (lD st) (aG st) .none kV doc pm an ky ct) ⟨us,[]⟩=pure (ps.zip us)):Binds K fd ps []:=by obtain⟨oc,od,kV,doc,pm,an,ky,ct,Il,rfl,lk,qf⟩:=F.ex;exact .all (h kV doc pm an ky ct)
theorem Mj{st:Stmt}{kV doc pm ky ct:Value}(l:K.lookup f=Δ ⟨oc,od,.func (aaN x qual (rN st) (lD st) (aG st) .none kV doc pm an ky ct),Il⟩)(c:aco K ky qual=Λ)(k:ZE K (.ref f)=Λ):my K x qual st f (aaN x qual (rN st) (lD st) (aG st) .none kV doc pm an ky ct):=⟨⟨oc,od,kV,doc,pm,an,ky,ct,Il,rfl,l,c⟩,k⟩
end
section
variable{X:Cx}
end
def jj(H H':Hp):Prop:=∀b o,H b=Δ o->H' b=Δ o
theorem jj.refl H:jj H H:=λ_ _ h=>h
section
variable{κ:Type}[DecidableEq κ]
end
noncomputable def dG(env:Env):List (Str×ZS)->List (Str×Addr)->List (Str×Addr)
 |[],cs=>cs|(n,k)::r,cs=>dG env r (if(k==Xt)=Λ then(n,(env.cells.lookup n).getD 0)::cs else cs)
theorem sL(h:∀x∈sc.names,x.2=.free->∃c,env.cells.lookup x.1=Δ c):abr sc env=pure (dG env sc.names []):=by
 have go:∀(l:List (Str×ZS)) (cs:List (Str×Addr)),(∀x∈l,x.2=.free->∃c,env.cells.lookup x.1=Δ c)->
   (forIn l cs (λ(x:Str×ZS) (r:List (Str×Addr))=>if(x.2==Xt)=Λ then do let a<-acM env x.1;pure (YR ((x.1,a)::r)) else pure (YR r)):Sem (List (Str×Addr)))=pure (dG env l cs):=by
  intro l;induction l with
  |nil=>intro cs _;rfl|cons x r ih=>
   intro cs hx;obtain⟨n,k⟩:=x;have hr:∀y∈r,y.2=.free->∃c,env.cells.lookup y.1=Δ c:=λy hy=>hx y (W5 _ hy);rw[ZN];by_cases hk:(k==Xt)=Λ
   ·obtain⟨c,hc⟩:=hx (n,k) W8 (by simpa using hk);have e:acM env n=pure c:=by unfold acM;simp only at hc;rw[hc]
    simp only[hk,if_true,e];show _=pure (dG env r (if(k==Xt)=Λ then(n,(env.cells.lookup n).getD 0)::cs else cs));rw[if_pos hk];simp only at hc;rw[hc];exact ih _ hr
   ·simp only[hk];show _=pure (dG env r (if(k==Xt)=Λ then(n,(env.cells.lookup n).getD 0)::cs else cs));rw[if_neg hk];exact ih _ hr
 have q:=go sc.names [] h;unfold abr;show((forIn sc.names [] (λ(x:Str×ZS) (r:List (Str×Addr))=>if(x.2==Xt)=Λ then do let a<-acM env x.1;pure (YR ((x.1,a)::r)) else pure (YR r)):Sem (List (Str×Addr))) >>=λcs=>pure cs)=_;rw[q];rfl
theorem kF:∀{l} {cs},((x,Xt)∈l\/∃c,cs.lookup x=Δ c)->∃c,(dG env l cs).lookup x=Δ c
 |[],cs,h=>by
  rcases h with h|h;·exact nomatch h
  ·exact h
 |(n,k)::r,cs,h=>by
  show ∃c,(dG env r (if(k==Xt)=Λ then(n,(env.cells.lookup n).getD 0)::cs else cs)).lookup x=Δ c;refine kF ?_;rcases h with h|⟨c,h⟩
  ·rcases Zy.mp h with e|e;·injection e with e1 e2;subst e1 e2;right;rw[if_pos (by rfl)];exact⟨_,by rw[XB];simp;rfl⟩
   ·exact .inl e
  ·right;by_cases hk:(k==Xt)=Λ
   ·rw[if_pos hk,XB];split;·exact⟨_,rfl⟩
    ·exact⟨c,h⟩
   ·rw[if_neg hk];exact⟨c,h⟩
theorem qo:∀{l} {cs},(∀y∈l,y.2=.free->∃d,env.cells.lookup y.1=Δ d)->
  (dG env l cs).lookup x=Δ c->cs.lookup x=Δ c\/((x,Xt)∈l/\env.cells.lookup x=Δ c)
 |[],cs,_,h=>.inl h|(n,k)::r,cs,hx,h=>by
  have h':(dG env r (if(k==Xt)=Λ then(n,(env.cells.lookup n).getD 0)::cs else cs)).lookup x=Δ c:=h;rcases qo (λy hy=>hx y (W5 _ hy)) h' with q|⟨q1,q2⟩
  ·by_cases hk:(k==Xt)=Λ
   ·rw[if_pos hk,XB] at q;split at q
    ·rename_i e;have e':x=n:=by simpa using e
     subst e';have P5:k=.free:=by simpa using hk
     subst P5;obtain⟨d,hd⟩:=hx (x,.free) W8 rfl;simp only at hd;rw[hd] at q;simp only[Option.getD_some] at q;exact .inr ⟨W8,by rw[hd];exact q⟩
    ·exact .inl q
   ·rw[if_neg hk] at q;exact .inl q
  ·exact .inr ⟨W5 _ q1,q2⟩
section
variable{prog:Yb}{w:World}{A:YF}{R:Result->Xp->Prop}{s:Xp}
theorem vY(I:Nat->Xp->Prop)(turn:∀n s,I n s->wpAny (model prog w) A (abN it) (λr bA=>match r with
   |none=>R (.ok .next) bA
   |some v=>wpAny (model prog w) A (abg target it v) (λ_ KL=>wpAny (model prog w) A (acV target env v) (λ_ vd=>
     wpAny (model prog w) A (forIn ifs Λ λc r=>if r=Λ then do let ok<-acL c env (eval c env);pure (YR ok) else pure (YR r)) (λok DK=>
      if ok=Λ then wpAny (model prog w) A (eval elt env) (λx P6=>wpAny (model prog w) A (call (.builtin "list.append") [acc,x]) (λ_ P7=>∃m,m < n/\I m P7) (λ_ _=>False) P6) (λ_ _=>False) DK
      else ∃m,m < n/\I m DK) (λ_ _=>False) vd) (λ_ _=>False) KL) (λ_ _=>False) bA) (λ_ _=>False) s)n(h:I n s):
  aa9 (model prog w) A (.compLoop (.ListComp elt [⟨target,iter,ifs,0⟩] scope pos) 0 it acc env) R s:=by
 refine codeAny_loop rfl I (λn s hI=>?_) n h;show wpAny _ A ((compTurn (.ListComp elt [⟨target,iter,ifs,0⟩] scope pos) 0 it acc env).onRaise (λx=>do noteFrame x env;theTreesLotGoes x)) _ _ s;refine wpAny_noted ?_;rw[compTurn_list];refine W2 (acv (W2 (YS (turn n s hI) (λr bA dA=>?_) λ_ _ h'=>h'.elim)));cases r with|none=>exact Xe dA|some v=>refine W2 (YS dA (λ_ KL P8=>?_) λ_ _ h'=>h'.elim);refine W2 (YS P8 (λ_ vd kH=>W2 (YS kH (λok DK i9=>?_) λ_ _ h'=>h'.elim)) λ_ _ h'=>h'.elim);cases ok with|false=>exact Xe ⟨rfl,i9⟩|true=>exact W2 (W2 (YS i9 (λx P6 DL=>W2 (YS DL (λ_ P7 lQ=>Xe (Xe ⟨rfl,lQ⟩)) λ_ _ h'=>h'.elim)) λ_ _ h'=>h'.elim))
end
theorem jL{env:Env}:∀{names:List (Str×ZS)} {x},names.lookup x=Δ .free->
  (names.map λ(n,k)=>if(k==Xt&&env.scope.kind==.function&&env.kindOf n==Δ .cell) then(n,YL) else(n,k)).lookup x=Δ .cell\/
  (names.map λ(n,k)=>if(k==Xt&&env.scope.kind==.function&&env.kindOf n==Δ .cell) then(n,YL) else(n,k)).lookup x=Δ .free
 |[],_,h=>by simp at h|(n,k)::r,x,h=>by
  have ih:=@jL env r x;show Y7 x ((if(k==Xt&&env.scope.kind==.function&&env.kindOf n==Δ .cell)=Λ then(n,YL) else(n,k))::_)=_\/Y7 x ((if(k==Xt&&env.scope.kind==.function&&env.kindOf n==Δ .cell)=Λ then(n,YL) else(n,k))::_)=_;cases hx:x==n with
  |true=>
   simp only[XB,hx] at h;cases h;by_cases hc:(Xt==Xt&&env.scope.kind==.function&&env.kindOf n==Δ .cell)=Λ;·rw[if_pos hc];simp[XB,hx]
   ·rw[if_neg hc];simp[XB,hx]
  |false=>
   simp only[XB,hx] at h;by_cases hc:(k==Xt&&env.scope.kind==.function&&env.kindOf n==Δ .cell)=Λ;·rw[if_pos hc];simp only[XB,hx];exact ih h
   ·rw[if_neg hc];simp only[XB,hx];exact ih h
theorem qp{env:Env}:∀{names:List (Str×ZS)} {x} {q},q=.cell\/q=.free->
  (names.map λ(n,k)=>if(k==Xt&&env.scope.kind==.function&&env.kindOf n==Δ .cell) then(n,YL) else(n,k)).lookup x=Δ q->∃k,(x,k)∈names/\(k=.free\/k=.cell)
 |[],_,_,_,h=>by simp at h|(n,k)::r,x,q,hq,h=>by
  have h':Y7 x ((if(k==Xt&&env.scope.kind==.function&&env.kindOf n==Δ .cell)=Λ then(n,YL) else(n,k))::(r.map λ(n,k)=>if(k==Xt&&env.scope.kind==.function&&env.kindOf n==Δ .cell) then(n,YL) else(n,k)))=Δ q:=h;cases hx:x==n with
  |true=>
   have e:x=n:=by simpa using hx
   by_cases hc:(k==Xt&&env.scope.kind==.function&&env.kindOf n==Δ .cell)=Λ
   ·have hk:k=.free:=by simp only[W3] at hc;simpa using hc.1.1
    exact⟨k,by rw[e];exact W8,.inl hk⟩
   ·rw[if_neg hc] at h';simp only[XB,hx] at h';cases h';exact⟨k,by rw[e];exact W8,hq.symm⟩
  |false=>
   have h2:Y7 x (r.map λ(n,k)=>if(k==Xt&&env.scope.kind==.function&&env.kindOf n==Δ .cell) then(n,YL) else(n,k))=Δ q:=by
    by_cases hc:(k==Xt&&env.scope.kind==.function&&env.kindOf n==Δ .cell)=Λ;·rw[if_pos hc] at h';simpa only[XB,hx] using h'
    ·rw[if_neg hc] at h';simpa only[XB,hx] using h'
   obtain⟨k',m,z⟩:=qp hq h2;exact⟨k',W5 _ m,z⟩
def mz(X:Cx)(η:List (Addr×Obj))(N:List Str)(sc:Scope)(fp:List Addr)(C:Addr)(s:Xp)(H:Hp):Cx where
 prog:=X.prog
 w:=X.w
 K:=X.K
 mg:=X.mg
 base:=X.base
 A:=X.A
 N:=N
 gO:=s
 yN:=H
 env:=compEnvC sc (dG X.env sc.names []) C X.env
 outer:=X.stack
 stack:=X.stack
 ex:=fp
 calm:=X.calm
 fn:=λ_=>Ξ
 pn:=X.pn++η
 xe:=λ_ _=>False
structure jM(X:Cx)(N:List Str)(ts:Nat)(js:List Nat)(sc:Scope):Prop where
 kind:sc.kind=.function
 len:N.length=ts+js.length
 fF:∀x∈sc.names,x.2≠.cell
 names:∀x∈sc.names,x.2=.local->sc.names.lookup x.1=Δ .local
 frees:∀x∈sc.names,x.2=.free->X.env.kindOf x.1=Δ .cell\/X.env.kindOf x.1=Δ .free
 slots:∀(i:Nat) (y:Str) (j:Nat),N[ts+i]?=Δ y->js[i]?=Δ j->X.N[j]?=Δ y/\sc.names.lookup y=Δ .free
def iL(ts:Nat)(js:List Nat)(σ:St):St:=Yy ts Θ++js.map λj=>(σ[j]?).join
section
variable{X:Cx}{η:List (Addr×Obj)}{σ:St}{H:Hp}{s:Xp}{N:List Str}{ts:Nat}{js:List Nat}{sc:Scope}{fp:List Addr}
theorem jM.cl(B:jM X N ts js sc)(ok:X.Ok):∀x∈sc.names,x.2=.free->∃c,X.env.cells.lookup x.1=Δ c:=λx hx hk=>ok.has x.1 (B.frees x hx hk)
theorem jM.get(B:jM X N ts js sc)(ok:X.Ok)(h:(dG X.env sc.names []).lookup x=Δ c):X.env.cells.lookup x=Δ c:=by
 rcases qo (B.cl ok) h with q|⟨_,q⟩;·cases q
 ·exact q
theorem Inv.UC(I:Inv X η σ H s)(f:mr X η H b):b∉jF X.stack:=λz=>by
 rcases Zy.mp (I.oS b z) with e|e;·exact f.2.1 e
 ·exact f.2.2.1 e
theorem Inv.okB(I:Inv X η σ H s)(B:jM X N ts js sc)(hf:∀b∈fp,mr X η H b)(ho:∀b∈fp,b < s.heap.objs.size):(mz X η N sc fp s.heap.objs.size s H).Ok where
 mod:=I.ok.mod
 kind:=B.kind
 glob:=I.ok.glob
 blt:=I.ok.blt
 above:=Xd _
 inj:=λx y c h1 h2=>I.ok.inj x y c (B.get I.ok h1) (B.get I.ok h2)
 has:=λx hx=>by
  have yF:∃q,(q=YL\/q=.free)/\(sc.names.map λ(n,k)=>if(k==Xt&&X.env.scope.kind==.function&&X.env.kindOf n==Δ .cell) then(n,YL) else(n,k)).lookup x=Δ q:=by
   rcases hx with h|h;·exact⟨_,.inl rfl,h⟩
   ·exact⟨_,.inr rfl,h⟩
  obtain⟨q,hq,hl⟩:=yF;obtain⟨k,hm,hk⟩:=qp hq hl;have P5:k=.free:=hk.resolve_right (B.fF _ hm);subst P5;exact kF (.inl hm)
 LC:=λx c h=>absurd (show Ξ=Λ from h) X8
 hd:=I.ok.hd
 frames:=I.ok.frames
 O5:=.inl rfl
 TN:=λb hb=>⟨XD (ho b hb),λx c h=>(hf b hb).2.2.2.2.1 x c (B.get I.ok h)⟩
 bs:=I.bs
 EJ:=XW I.ok.EJ I.sz
 Dp:=λb o e hb=>by
  rcases(hf b hb).2.2.2.1 with z|z;·exact I.ok.Dp b o e z
  ·exact absurd (Xx (Xl e) (XW I.ok.EJ z)) (YX _)
 ES:=λb hb=>I.UC (hf b hb)
 mo:=I.stack
 HQ:=I.ni
theorem Inv.block(I:Inv X η σ H s)(B:jM X N ts js sc)(hf:∀b∈fp,mr X η H b)(ho:∀b∈fp,b < s.heap.objs.size)(hn:h'.Ns s.heap.objs.size m)(k:∀b o,s.heap.get? b=Δ o->h'.get? b=Δ o):Inv (mz X η N sc fp s.heap.objs.size s H) [] (iL ts js σ) H {s with heap:=h',toks:=tk}:=by
 refine⟨I.okB B hf ho,rfl,I.bare,Un.kept k,⟨m,hn,λi y v h1 h2 h3=>?_⟩,λx c h=>?_,I.aL.fresh (Xd _),λx c h=>I.kf x c (B.get I.ok h),λp hp=>?_,I.aL.kept k,?_⟩
 ·have hi:ts<=i:=by
   by_cases hi:ts<=i;·exact hi
   ·unfold iL at h2;rw[Xb (by simpa using hi),Z5] at h2;split at h2<;>cases h2
  obtain⟨d,rfl⟩:∃d,i=ts+d:=⟨i - ts,by lia⟩;have qr:(js.map λj=>(σ[j]?).join)[d]?=Δ (Δ v):=by unfold iL at h2;rw[Xu (by simp)] at h2;simpa using h2
  rw[Xg] at qr;cases ej:js[d]? with
  |none=>rw[ej] at qr;cases qr|some j=>
   rw[ej] at qr;have h4:(σ[j]?).join=Δ v:=by simpa using qr
   have h5:σ[j]?=Δ (Δ v):=by cases e:σ[j]? with|none=>rw[e] at h4;cases h4|some o=>rw[e] at h4;simp at h4;rw[h4]
   obtain⟨g1,g2⟩:=B.slots d y j h1 ej;have hm:(y,Xt)∈sc.names:=XZ g2;have hk:=B.frees _ hm rfl;obtain⟨m0,hn0,hl0⟩:=I.loc;have hv:O4 X.env.scope y:=by
    rcases hk with z|z;·exact .inr (.inl z)
    ·exact .inr (.inr z)
   obtain⟨u,ru,lk⟩:=hl0 j y v g1 h5 hv;refine⟨u,ru,.inr ⟨jL g2,?_⟩⟩;rcases lk with ⟨z,_⟩|⟨_,c,hc,nk⟩
   ·rcases hk with z'|z'<;>(rw[z] at z';cases z')
   ·obtain⟨c',Cn⟩:=kF (env:=X.env) (l:=sc.names) (cs:=[]) (.inl hm);have e:=B.get I.ok Cn;rw[hc] at e;cases e;obtain⟨o,oR,Ck⟩:=nk;exact⟨c,Cn,o,k _ _ oR,Ck⟩
 ·obtain⟨v,o,oR,Ck⟩:=I.cell x c (B.get I.ok h);exact⟨v,o,k _ _ oR,Ck⟩
 ·have Fw:p∈X.pn++η:=by simpa[mz] using hp
  obtain⟨e,n,ne,nf,d⟩:=I.pin p Fw;refine⟨k _ _ e,n,XD (Xl e),λz=>?_,d⟩;rcases Zy.mp (I.oS p.1 z) with q|q;·exact ne q
  ·exact nf q
 ·show(iL ts js σ).length=N.length;unfold iL;rw[Xs,aag,Xc,B.len]
end
noncomputable def Fx(X:Cx)(ifs:List Expr)(t:TT):Prop:=
 ∀(η:List (Addr×Obj)) (s:Xp) (σ:St) (H:Hp) (Q:Bool->Hp->Prop),Inv X η σ H s->t σ H Q->
  wpAny (model X.prog X.w) X.A (forIn ifs Λ λc r=>if r=Λ then do let ok<-acL c X.env (eval c X.env);pure (YR ok) else pure (YR r)) (TP X η σ Q) X.xe s
def UD:TT:=λ_ H Q=>Q Λ H
theorem ID:Fx X [] UD:=λ_ _ _ H _ I h=>wpAny_tests_nil ⟨H,I,h⟩
theorem IE(h:PT X c t):Fx X [c] t:=λη s σ H Q I q=>wpAny_tests_one (h η s σ H Q I q)
def zd(wi:TI)(g:TG)(tc:TT)(te:TE)(ts:Nat)(js:List Nat):TE:=λσ H Q=>wi σ H λJ H1=>∀acc,H1 acc=Θ->
 ∃W:Nat->Nat->St->Hp->Prop,(∃m,W 0 m (iL ts js σ) (upd H1 acc (.lst [])))/\∀i m τ H,W i m τ H->
  (J.stop i H/\Q (.ref acc) H)\/(J.go i H/\∀x H',J.Pj i H x H'->g x τ H' λSH H2=>tc SH H2 λb H3=>
   if b=Λ then te SH H3 λy H4=>∃ys,H4 acc=Δ (.lst ys)/\ys.length < Xv/\∃m',m' < m/\W (i+1) m' SH (upd H4 acc (.lst (ys++[y])))
   else ∃m',m' < m/\W (i+1) m' SH H3)
section
variable{X:Cx}{elt iter tg:Expr}{ifs:List Expr}{sc:Scope}{pos:Pos}{N:List Str}{ts:Nat}{js:List Nat}{wi:TI}{g:TG}{tc:TT}{te:TE}
theorem Inv.ze(I:Inv X η σ H s)(hf:∀b∈fp,mr X η H b)(J:Inv (mz X η N sc fp s.heap.objs.size s H) [] τ H' s')(sb:ZU s.heap.objs.size s'.heap h''):Inv X η σ H' {s' with heap:=h''}:=by
 have hC:H' s.heap.objs.size=Θ:=J.free;have k:∀b o,b≠s.heap.objs.size->s'.heap.get? b=Δ o->h''.get? b=Δ o:=λb o hb e=>sb.extBut b o hb e;have ne:∀b o,s.heap.get? b=Δ o->b≠s.heap.objs.size:=λb o e=>XD (Xl e);have u:Un (jF X.stack) fp H H' s.heap h'':=
  ⟨λb o e n hb hx=>k b o (ne b o e) (J.base.keep b o e n hb hx),
   λb o e n hb hx=>by
   obtain⟨sl,q⟩:=J.base.slot b o e n hb hx;exact⟨sl,k b _ (ne b o e) q⟩,
   J.base.free,
   λb o e hx=>by
   obtain⟨o',q⟩:=J.base.there b o e hx;exact⟨o',k b _ (ne b o e) q⟩,
   J.base.so,J.base.oQ,J.base.qQ⟩
 have aL:kA X.prog X.w H' h'':=λb ob e=>by
  refine(J.aL b ob e).ng (λc v hc q=>k c v ?_ q) (λ_ q=>q) λ_ _ q=>q;rintro rfl;rcases hc with z|z;·rw[z] at hC;rw[hC] at e;cases e
  ·rw[hC] at z;cases z
 exact I.EV (s':={s' with heap:=h''}) (ch:=fp) J.os u aL J.bare λb hb=>⟨(hf b hb).2.2.2.1,(hf b hb).2.1,(hf b hb).2.2.2.2.1,(hf b hb).2.2.2.2.2⟩
theorem Cy(hc:X.calm=Λ)(B:jM X N ts js sc)(hi:PI X tg iter wi)
  (hg:∀η fp C s H,PG (mz X η N sc fp C s H) tg g) (ht:∀η fp C s H,Fx (mz X η N sc fp C s H) ifs tc) (he:∀η fp C s H,PE (mz X η N sc fp C s H) elt te)
  (hs:∀x,abB iter X.env x=pure x:=by intro _;rfl):PE X (.ListComp elt [⟨tg,iter,ifs,0⟩] sc pos) (zd wi g tc te ts js):=by
 intro η s σ H Q I h;rw[eval_ListComp];refine wpAny_comprehension_free (use:=Θ) rfl hs (sL (B.cl I.ok)) B.kind B.names (bR (hi η s σ H _ I h) λv s1 h1=>bR h1 λSs s2 h2=>?_);obtain⟨it,fp,tn,J,H2,e,I2,T,st2,f2,qr⟩:=h2;subst e;have DM:H2 s2.heap.objs.size=Θ:=I2.aL.fresh (Xd _);obtain⟨W,⟨m0,w0⟩,turn⟩:=qr s2.heap.objs.size DM;refine X3 (aai B.fF (by intro y hy;simp at hy) (λdA Bt Bu=>?_) B.kind);obtain⟨s3,IF⟩:∃s3:Xp,({s2 with heap:=s2.heap.push {cls:=.type "list",dict:=Θ,data:=.seq ([]:List Value).toArray}}:Xp)=s3:=⟨_,rfl⟩;have e3:s3.heap=s2.heap.push {cls:=.type "list",dict:=Θ,data:=.seq ([]:List Value).toArray}:=by rw[<-IF]
 have Bv:dA.Ns s3.heap.objs.size λx=>([]:List (Str×Value)).reverse.lookup x:=by rw[e3];exact Bt
 have Bw:ZU s3.heap.objs.size (s3.heap.push {cls:=.type (if(Δ X.env).isSome then "dict" else "frame"),data:=.dict #[]}) dA:=by rw[e3];exact Bu
 have I3:Inv X η σ (upd H2 s2.heap.objs.size (.lst [])) s3:=by rw[<-IF];exact I2.laid (t':=s2.toks) (λb u e=>W4 _ e) (Xd _) ⟨Yj _,[],0,.nil,Xj _ rfl⟩
 have P9:∀b∈fp,b < s2.heap.objs.size:=λb hb=>by obtain⟨o,e,_⟩:=T.obj _ _ st2 b hb;exact Xl e
 have f3:∀b∈fp,mr X η (upd H2 s2.heap.objs.size (.lst [])) b:=λb hb=>⟨by rw[ax (XD (P9 b hb))];exact(f2 b hb).1,(f2 b hb).2⟩;have UE:s2.heap.objs.size < s3.heap.objs.size:=by rw[e3,YA];exact YT _
 have Qa:∀b∈fp,b < s3.heap.objs.size:=λb hb=>aaR (P9 b hb) UE;have k1:∀b o,s3.heap.get? b=Δ o->dA.get? b=Δ o:=λb o e=>Bw.extBut b o (XD (Xl e)) (W4 _ e);have IB:=I3.block (tk:=s3.toks+([]:List (Str×Value)).length) (N:=N) B f3 Qa Bv k1;have l6:tn 0 dA:=T.keep _ _ _ st2 λb hb o e=>k1 b o (by rw[e3];exact W4 _ e);have sx:∀{H':Hp},(∀b∈fp,H' b=Θ)->∀b∈fp,mr (mz X η N sc fp s3.heap.objs.size s3 (upd H2 s2.heap.objs.size (.lst []))) [] H' b:=λhn b hb=>⟨hn b hb,XD (Qa b hb),I3.UC (f3 b hb),.inl hb,λx c h=>(f3 b hb).2.2.2.2.1 x c (B.get I3.ok h),λp hp=>(f3 b hb).2.2.2.2.2 p (by simpa[mz] using hp)⟩;have loop:aa9 (model X.prog X.w) X.A (.compLoop (.ListComp elt [⟨tg,iter,ifs,0⟩] sc pos) 0 (.ref it) (.ref s2.heap.objs.size) (compEnvC sc (dG X.env sc.names []) s3.heap.objs.size X.env))
   (compPost (model X.prog X.w) X.A X.xe Θ (EP X η σ Q) (.ref s2.heap.objs.size) s3.heap.objs.size) {s3 with heap:=dA,toks:=s3.toks+([]:List (Str×Value)).length}:=by
  refine vY (λn s'=>∃i τ H',Inv (mz X η N sc fp s3.heap.objs.size s3 (upd H2 s2.heap.objs.size (.lst []))) [] τ H' s'/\tn i s'.heap/\(∀b∈fp,H' b=Θ)/\W i n τ H') ?_ m0
   ⟨0,iL ts js σ,_,IB,l6,λb hb=>(f3 b hb).1,w0⟩
  rintro n s5 ⟨i,τ,H5,I5,A8,LL,w5⟩;rcases turn i n τ H5 w5 with ⟨stop,qn⟩|⟨go,step⟩
  ·refine bR (T.done (mz X η N sc fp s3.heap.objs.size s3 (upd H2 s2.heap.objs.size (.lst []))) rfl rfl rfl hc i [] s5 τ H5 (λ_ _=>False) I5 (sx LL) A8 stop) λr s6 ⟨hr,I6⟩=>?_;subst hr;obtain⟨m,hn,_⟩:=I6.loc;exact⟨m,hn,λh' sM=>⟨.ref s2.heap.objs.size,H5,I3.ze f3 I6 sM,rfl,qn⟩⟩
  ·refine bR (T.item (mz X η N sc fp s3.heap.objs.size s3 (upd H2 s2.heap.objs.size (.lst []))) rfl rfl rfl hc i [] s5 τ H5 (λ_ _=>False) I5 (sx LL) A8 go) λr s6 ⟨u,hr,h6⟩=>?_;subst hr;refine bR h6 λ_ s7 ⟨x,H7,I7,r7,y7,Ml,UG⟩=>?_;have UH:=I7.pinned (sx UG) (T.obj _ _ Ml);refine bR (hg _ _ _ _ _ _ s7 τ H7 x u _ UH r7 (step x H7 y7)) λ_ s8 ⟨IG,H8,I8,q8⟩=>?_;refine bR (ht _ _ _ _ _ _ s8 IG H8 _ I8 q8) λok s9 ⟨H9,I9,q9⟩=>?_;have again:∀{s':Xp} {IH:St} {H':Hp},Inv (mz X η N sc fp s3.heap.objs.size s3 (upd H2 s2.heap.objs.size (.lst []))) ([]++oT fp s7.heap) IH H' s'->(∃m',m' < n/\W (i+1) m' IH H')->
     ∃m,m < n/\∃i τ H',Inv (mz X η N sc fp s3.heap.objs.size s3 (upd H2 s2.heap.objs.size (.lst []))) [] τ H' s'/\tn i s'.heap/\(∀b∈fp,H' b=Θ)/\W i m τ H':=λ{s' IH H'} I' ⟨m',hm,w'⟩=>by
    refine⟨m',hm,i+1,IH,H',I'.jg,T.keep _ _ _ Ml λb hb o e=>(I'.pin (b,o) (XF _ (XF _ (eI hb e)))).1,λb hb=>?_,w'⟩;obtain⟨o,e,d⟩:=T.obj _ _ Ml b hb;exact(I'.pin (b,o) (XF _ (XF _ (eI hb e)))).2.1
   cases ok with|false=>exact again I9 q9|true=>refine bR (he _ _ _ _ _ _ s9 IG H9 _ I9 q9) λxv Qb ⟨y,UI,UJ,UK,ys,ha,hz,UL⟩=>?_;refine bR (oZ _ Qb IG UI (.ref s2.heap.objs.size) [y] (.ref s2.heap.objs.size) [xv] (λ_ H'=>∃m',m' < n/\W (i+1) m' IG H') UJ rfl (.cons UK .nil) ⟨_,ys,y,rfl,rfl,ha,hz,UL⟩) λ_ s11 ⟨_,H11,UM,_,UN⟩=>?_;exact again UM UN
 subst IF;exact codeAny_compStart_list loop (T.self _ 0 _ _ _ l6 loop)
end
end L2
namespace L2
open PySem
end L2
namespace L2
open PySem PySem.Spec PyProof.Rows PySem.SeqAt
open PySem.AutoSeq1 (wpAny_loadPart')
def bB(t T:String):Bool:=t==T||(t=="bool"&&T=="int")
noncomputable def Qc(H:Hp):V->Option String
 |.bu=>Δ "NoneType"|.bl _=>Δ "bool"|.int _=>Δ "int"|.str _=>Δ "str"|.ref a=>match H a with|some (.lst _)=>Δ "list"|some (.tup _)=>Δ "tuple"|_=>Θ
 |_=>Θ
theorem Mm(h:Qc H v=Δ t):t="NoneType"\/t="bool"\/t="int"\/t="str"\/t="list"\/t="tuple":=by
 cases v with
 |ref a=>
  unfold Qc at h;simp only at h;split at h<;>first
   |(cases h;simp)
   |cases h
 |_=>first
  |(cases h;simp)
  |cases h
theorem II{K:Xf}(h:Qc H v=Δ t):mw K H v (.type t):=by
 cases v with
 |bu=>cases h;exact .bu|bl b=>cases h;exact .bl b|int i=>cases h;exact .int i|str x=>cases h;exact .str x|ref a=>
  unfold Qc at h;simp only at h;split at h;·rename_i xs e;cases h;exact .lst e
  ·rename_i xs e;cases h;exact .tup e
  ·cases h
 |_=>cases h
theorem rO K(ht:t="NoneType"\/t="bool"\/t="int"\/t="str"\/t="list"\/t="tuple")(hT:T="int"\/T="bool"\/T="tuple"\/T="str"\/T="list"):
  acn K (.type t) (.type T)=Δ (bB t T):=by
 rcases ht with rfl|rfl|rfl|rfl|rfl|rfl<;>rcases hT with rfl|rfl|rfl|rfl|rfl<;>first
  |rfl
  |kernel_rfl
section
variable{X:Cx}
theorem all_range(bs:List Bool):(W7 bs.length).all (λi=>bs.getD i Λ)=bs.all id:=by
 rw[Zp];simp only[YE,Ym,id];constructor;·intro h b hb;obtain⟨i,hi,e⟩:=List.mem_iff_getElem.mp hb;have q:=h i hi;rw[Xa,W6 hi] at q;simpa[e] using q
 ·intro h i hi;rw[Xa,W6 hi];exact h _ (X6 hi)
theorem DN(hc:X.calm=Λ):eO X (.builtin "all") (λxs H Q=>∃(p:Addr) (bs:List Bool),xs=[.ref p]/\kC X.K H p (bs.map V.bl)/\Q (.bl (bs.all id)) H):=by
 intro η s σ H xs us Q I r h;obtain⟨p,bs,rfl,hq,q⟩:=h;obtain⟨u,rfl,rx⟩:=vals1 r;cases rx;obtain⟨its,rv,pl,hz⟩:=I.list hq;have hl:=rv.length;rw[Xc] at hl;have fm:p < s.heap.objs.size:=by obtain⟨o,n,e,_⟩:=pl;exact Xl e
 refine call_all_walk (abz pl.isList ?_);refine⟨s.heap.objs.size,_,_,its.toArray.size,_,_,λi=>bs.getD i Λ,rfl,Walks.list (A:=X.A.in1) (show X.A.in1.handled=Θ from I.ok.hd hc) s.heap.objs.size p (XD fm) its.toArray,⟨⟨_,Xj _ rfl,rfl,rfl⟩,?_⟩,?_,?_⟩;·obtain⟨o,e,c⟩:=pl.isList;exact⟨o,W4 _ e,c⟩
 ·intro i v s' Q' E' hP hQ;have Qd:its[i]?=Δ v:=by simpa using hP
  have hi:i < its.length:=(qqz Qd).1;have hb:(bs.map V.bl)[i]?=Δ (V.bl (bs.getD i Λ)):=by rw[Xg,W6 (by lia),Xa,W6 (by lia)];rfl
  obtain⟨u,hu,ru⟩:=rv.get hb;rw[Qd] at hu;cases hu;cases ru;exact YI hQ
 ·intro h' tk hk;refine⟨.bl (bs.all id),H,I.kept (t':=tk) (λb o e=>hk b o (by simpa using XD (Xl e)) (W4 _ e)),?_,q⟩;show Z8 _=Z8 _;rw[Xh,<-hl,all_range]
theorem aZ(h:H p=Θ)o:jj H (upd H p o):=λb u q=>by rw[ax (aO q h)];exact q
def KN:R2:=λx y H Q=>∃a b xs ys,x=.ref a/\y=.ref b/\H a=Δ (.tup xs)/\H b=Δ (.tup ys)/\xs.length+ys.length<=Xv/\∀r H',jj H H'->H' r=Δ (.tup (xs++ys))->Q (.ref r) H'
theorem IJ:kg X (ZD .Add) KN:=by
 intro η s σ H x y v u Q I rx ry h;obtain⟨a,b,xs,ys,rfl,rfl,ha,hb,hz,q⟩:=h;cases rx;cases ry;obtain⟨its,r1,p1,_⟩:=I.tuple (eY.of ha);obtain⟨Fo,r2,p2,_⟩:=I.tuple (eY.of hb);by_cases hx:xs=[]
 ·subst hx;cases r1;obtain⟨⟨cls,dd,data,sl⟩,ho,hc,n,hd⟩:=id p1;obtain⟨⟨Uq,Sx,data2,Sy⟩,HE,L0,n2,hd2⟩:=id p2;simp only at hc hd L0 hd2;subst hc hd L0 hd2;exact acD ⟨_,ho,rfl⟩ ⟨_,HE,rfl⟩ abT acx aaP aaI (aaw _ _)
   (tuple_addW0 a b ([]:List Value).toArray Fo.toArray n n2 dd Sx sl Sy (by simp)) ⟨ho,HE,⟨.ref b,H,I,rfl,q b H (jj.refl H) hb⟩⟩
 ·refine Ir η s σ H (.ref a) (.ref b) _ _ Q I rfl rfl ⟨a,b,xs,ys,rfl,rfl,eY.of ha,eY.of hb,hx,hz,λe=>?_,λe p hp=>?_⟩;·subst e;exact q a H (jj.refl H) (by rw[Ya];exact ha)
  ·exact q p _ (aZ hp _) aD
theorem lR{lo hi:Option Int}(ht:IsTup s.heap t items)(hs:s.heap.IsSliceOf sl vl vu .none)(pl:aca vl lo)(pu:aca vu hi)(hw:HT.dc items.size 0 lo=0/\HT.dc items.size items.size hi=items.size)(h:Q (.ref t) s):wpAny (model prog w) A (aay (.ref t) (.ref sl)) Q E s:=by
 obtain⟨os,DC,L7,HF⟩:=id hs;have PF:s.TypeIs (.ref sl) "slice":=⟨os,DC,L7⟩;unfold aay;try with_reducible refine Zw ?_
 first|refine W2 (Xe ?_)|skip
 refine W2 (aby ht.typeIs (by decide) ?_);refine W2 (X4 (name:=XY "__getitem__") ht.typeIs Yi
  (Yv Yi ht.typeIs abi ?_ (abt _ _)))
 show wpAny _ _ (aan (.ref t) >>=_) _ _ s;refine W2 (acw ht ?_);refine W2 (abl PF ?_);rw[if_pos (by decide)];refine W2 (HT.ji hs pl pu ?_);have UO:(((HT.dc items.size 0 lo:Nat):Int)==0&&(1:Int)==1&&(HT.dc items.size items.size hi - HT.dc items.size 0 lo)==items.size)=Λ:=by rw[hw.1,hw.2];simp
 show wpAny _ _ (if(((HT.dc items.size 0 lo:Nat):Int)==0&&(1:Int)==1&&(HT.dc items.size items.size hi - HT.dc items.size 0 lo)==items.size)=Λ then _ else _) _ _ s;rw[if_pos UO];refine W2 ?_;unfold aba.Tuple.tupleIsExact;refine W2 (abl ht.typeIs (Xe ?_));rw[if_pos (by decide)];first
  |exact W2 (aa0 (W2 (Xe (Xe ⟨_,rfl,Xe h⟩))))
  |exact W2 (aa0 (Xe ⟨_,rfl,Xe h⟩))
  |exact W2 (aa0 (Xe (Xe ⟨_,rfl,Xe h⟩)))
def Qe:V->Option Int->Option Int->Hp->VK->Prop:=λx lo hi H Q=>∃a xs,x=.ref a/\H a=Δ (.tup xs)/\∀r H',jj H H'->H' r=Δ (.tup (oX xs lo hi))->Q (.ref r) H'
theorem IK:KE X Qe:=by
 intro η s σ H x v vl vu lo hi sl Q I rx hs pl pu h;obtain⟨a,xs,rfl,ha,q⟩:=h;cases rx;by_cases hw:HT.dc xs.length 0 lo=0/\HT.dc xs.length xs.length hi=xs.length
 ·obtain⟨its,r,ht,hz⟩:=I.tuple (eY.of ha);have hlen:its.toArray.size=xs.length:=by rw[Xh];exact r.length.symm
  refine⟨"tuple",_,Yi.lookup,ht.typeIs,?_⟩;refine lR ht hs pl pu (by rw[hlen];exact hw) ⟨.ref a,H,I,rfl,q a H (jj.refl H) ?_⟩;have e:oX xs lo hi=xs:=by unfold oX;rw[hw.1,hw.2];simp
  rw[e];exact ha
 ·exact L8 η s σ H (.ref a) _ vl vu lo hi sl Q I rfl hs pl pu ⟨a,xs,rfl,eY.of ha,hw,λp hp=>q p _ (aZ hp _) aD⟩
theorem o6{n:Nat}(hs:s.heap.IsSliceOf sl .none .none (.int (-1) tk))(h:Q ((n:Int) - 1, -1,n) s):wpAny (model prog w) A (ZH (.ref sl) (pure (n:Int))) Q E s:=by
 obtain⟨os,DC,L7,HF⟩:=id hs;unfold ZH aba.Slice.sliceFields;refine W2 (W2 (Yf DC HF (x:=.none) rfl (W2 (Yf DC HF (x:=.none) rfl (W2 (Yf DC HF (x:=.int (-1) tk) rfl (Xe ?_)))))));refine W2 (slicePart_int ?_);show wpAny _ _ (if((-1:Int)==0)=Λ then _ else _) _ _ s;rw[if_neg (by decide)];refine W2 (abq (W2 (abq (W2 (Xe ?_)))));have e1:YG Θ Θ (-1) (n:Int)=((n:Int) - 1, -1):=by unfold YG;simp
 have e2:Yd ((n:Int) - 1) (-1) (-1)=n:=by
  unfold Yd;have h1:¬((-1:Int) > 0):=by decide
  simp only[h1,if_false];have h2:(-(-1):Int)=1:=by decide
  rw[h2,Int.ediv_one];split<;>lia
 show wpAny _ _ (match YG Θ Θ (-1) (n:Int) with|(lo,hi)=>pure (lo,(-1:Int),Yd lo hi (-1))) _ _ s;rw[e1];show wpAny _ _ (pure ((n:Int) - 1,(-1:Int),Yd ((n:Int) - 1) (-1) (-1))) _ _ s;rw[e2];exact Xe h
theorem zf{α β:Type}{f g:α->Option β}:∀{l:List α},(∀x∈l,f x=g x)->l.filterMap f=l.filterMap g
 |[],_=>rfl|a::r,h=>by rw[Y4,Y4,h a W8,zf λx hx=>h x (W5 _ hx)]
theorem Fy(xs:Array Value):((W7 xs.size).filterMap λ(m:Nat)=>xs[((xs.size:Int) - 1+(m:Int)*(-1)).toNat]?).toArray=xs.toList.reverse.toArray:=by
 congr 1;have e:((W7 xs.size).filterMap λ(m:Nat)=>xs[((xs.size:Int) - 1+(m:Int)*(-1)).toNat]?)=((W7 xs.size).map λk=>xs.size - 1 - k).filterMap λm=>xs[m]?:=by
  rw[List.filterMap_map];refine zf λm hm=>?_;have hm':=Ym.mp hm;have:((xs.size:Int) - 1+(m:Int)*(-1)).toNat=xs.size - 1 - m:=by lia
  rw[this];rfl
 rw[e,PySem.W.krv_range,List.filterMap_reverse,PySem.W.krv_all]
theorem nG(ht:IsTup s.heap t items)(hs:s.heap.IsSliceOf sl .none .none (.int (-1) tk))(hsz:items.size<=Xv)(h:Q (.ref s.heap.objs.size) {s with heap:=s.heap.push {cls:=.type "tuple",data:=.seq items.toList.reverse.toArray}}):wpAny (model prog w) A (aay (.ref t) (.ref sl)) Q E s:=by
 have nv:sizeOk (.seq items.toList.reverse.toArray):=by show items.toList.reverse.toArray.size<=Xv;rw[Xh,List.length_reverse,Y5];exact hsz
 obtain⟨os,DC,L7,HF⟩:=id hs;have PF:s.TypeIs (.ref sl) "slice":=⟨os,DC,L7⟩;unfold aay;try with_reducible refine Zw ?_
 first|refine W2 (Xe ?_)|skip
 refine W2 (aby ht.typeIs (by decide) ?_);refine W2 (X4 (name:=XY "__getitem__") ht.typeIs Yi
  (Yv Yi ht.typeIs abi ?_ (abt _ _)))
 show wpAny _ _ (aan (.ref t) >>=_) _ _ s;refine W2 (acw ht ?_);refine W2 (abl PF ?_);rw[if_pos (by decide)];refine W2 (o6 hs ?_);show wpAny _ _ (if((((items.size:Nat):Int) - 1)==0&&(-1:Int)==1&&items.size==items.size)=Λ then _ else _) _ _ s;rw[if_neg (by simp),Fy];first
  |exact W2 (m:=XO _) (X3 (Xe ⟨_,rfl,Xe h⟩) nv)
  |exact W2 (m:=XO _) (X3 (W2 (Xe (Xe ⟨_,rfl,Xe h⟩))) nv)
  |exact W2 (W2 (m:=XO _) (X3 (Xe (Xe ⟨_,rfl,Xe h⟩)) nv))
  |exact W2 (W2 (m:=XO _) (X3 (Xe ⟨_,rfl,Xe h⟩) nv))
def UP(te tk:TE):TE:=λσ H Q=>te σ H λx H1=>tk σ H1 λk H2=>∃a xs,x=.ref a/\k=.int (-1)/\H2 a=Δ (.tup xs)/\∀p,H2 p=Θ->Q (.ref p) (upd H2 p (.tup xs.reverse))
theorem IL{e st:Expr}(he:PE X e te)(hk:PE X st tk):PE X (.Subscript e (.Slice Θ Θ (Δ st) p2) pos) (UP te tk):=by
 intro η s σ H Q I h;refine Subscript_ (bR (he η s σ H _ I h) λv s1 ⟨x,H1,I1,r1,q1⟩=>?_);refine wpAny_Slice ?_;rw[acy,evalPart_some];refine Xe (Xe (bR (hk η s1 σ H1 _ I1 q1) λkv s3 ⟨k,H3,I3,rk,a,xs,ex,ek,ha,q⟩=>?_));subst ex ek;obtain⟨SI,rfl⟩:=rk;cases r1;have I4:Inv X η σ H3 {s3 with heap:=s3.heap.push {cls:=.type "slice",data:=.fields #[.none,.none,.int (-1) SI]}}:=I3.kept (t':=s3.toks) λb ob q=>W4 _ q;obtain⟨its,r,ht,hz⟩:=I4.tuple (eY.of ha);have hlen:its.toArray.size=xs.length:=by rw[Xh];exact r.length.symm
 show wpAny (model X.prog X.w) X.A (aa8 e (.Slice Θ Θ (Δ st) p2) (.ref a) (.ref s3.heap.objs.size)) (EP X η σ Q) X.xe {s3 with heap:=s3.heap.push {cls:=.type "slice",data:=.fields #[.none,.none,.int (-1) SI]}};refine tail_any (ops:=[.ref a,.ref s3.heap.objs.size]) ht.typeIs Yi.lookup (nG ht (Heap.IsSliceOf.new ..) (by rw[hlen];exact hz) ?_) (by with_unfolding_all rfl);refine⟨.ref _,_,I4.laid (t':=s3.toks) (o:=.tup xs.reverse) (λb ob q=>W4 _ q) (Xd _) ?_,rfl,q _ (I4.aL.fresh (Xd _))⟩;exact⟨by rw[List.length_reverse];exact hz,_,r.reverse,ab1 _ _⟩
theorem fG:fillsNumberSlot (.type "tuple") "mul"=pure Ξ:=
 PySem.fillsNumberSlot_seq (id:="tuple.__mul__") (r:=Δ (.builtin "tuple.__rmul__")) aaO.lookup (by decide+kernel) PySem.F.slot_tuple_rmul.lookup (by decide+kernel)
theorem jN:seqRepeat? (.type "tuple")=pure (Δ (.builtin "tuple.__mul__")):=by unfold seqRepeat?;rw[PySem.seqSlot_of (T:="tuple") (name:="__mul__") (id:="tuple.__mul__") aaO.lookup (by decide+kernel),PySem.seqSlot_of (T:="tuple") (name:="__rmul__") (id:="tuple.__rmul__") PySem.F.slot_tuple_rmul.lookup (by decide+kernel)];rfl
theorem g6 a t l items n d sl:
  Meets (aba.«int.__rmul__» ⟨[.int a t,.ref l],[]⟩) (λ_ R s=>s.heap.get? l=Δ {cls:=.type "tuple",dict:=d,data:=.seq items n,slots:=sl}/\R (.ok (.ret Value.notImplemented)) s):=
 .of_wp λprog w A R s h=>by obtain⟨hp,g,d,tk,os⟩:=s;obtain⟨hl,h⟩:=h;wp_walk;exact⟨_,rfl,h⟩
theorem Bx l items n d sl u(fH:¬items.isEmpty=Λ)(hz:items.size*2<=1000000):
  Meets (aba.«tuple.__mul__» ⟨[.ref l,.int 2 u],[]⟩) (λ_ R s=>s.heap.get? l=Δ {cls:=.type "tuple",dict:=d,data:=.seq items n,slots:=sl}/\
   R (.ok (.ret (XC s.heap.objs.size))) {s with heap:=s.heap.push {cls:=Z7 "tuple",data:=Data.seq (#[]++items++items)},toks:=s.toks}):=
 .of_wp λprog w A R s h=>by
  obtain⟨hp,g,dr,tk,os⟩:=s;obtain⟨hl,h⟩:=h;have f1:=ab3;have h1:¬((items.size:Int)*2 > (2 ^ 63 - 1) / 8):=by lia
  have h2:¬YB ((items.size:Int)*2)=Λ:=by
   unfold YB;simp[Xv]
   lia
  have h3:(items.isEmpty||(2:Int)==1)=Ξ:=by simpa using fH
  have h4:((2:Int)<=0||items.isEmpty)=Ξ:=by simpa using fH
  wp_walk using YN hl
  rw[if_neg h1];show wpAny _ _ (if YB ((items.size:Int)*2)=Λ then _ else _) _ _ _;rw[if_neg h2];have hsz:sizeOk (.seq (abw (λx1 x2=>x1++x2) #[] (Yy (ab2 2) items))):=by
   show(abw (λx1 x2=>x1++x2) #[] (Yy (ab2 2) items)).size<=Xv;show(#[]++items++items).size<=Xv;simp[Xv]
   lia
  show wpAny _ _ (XO (abw (λx1 x2=>x1++x2) #[] (Yy (ab2 2) items)) >>=λv=>ret v) _ _ _;exact W2 (m:=XO _) (X3 (Xe ⟨_,rfl,h⟩) hsz)
def KO:R2:=λx y H Q=>∃a xs,x=.ref a/\y=.int 2/\H a=Δ (.tup xs)/\xs≠[]/\xs.length<=100000/\∀p,H p=Θ->Q (.ref p) (upd H p (.tup (xs++xs)))
theorem Fz:kg X (ZD .Mult) KO:=by
 intro η s σ H x y v u Q I rx ry h;obtain⟨a,xs,rfl,rfl,ha,fH,hz,q⟩:=h;cases rx;obtain⟨t,rfl⟩:=ry;obtain⟨its,r,ht,IM⟩:=I.tuple (eY.of ha);have hl:=r.length;obtain⟨⟨cls,dd,data,sl⟩,ho,hc,n,hd⟩:=id ht;simp only at hc hd;subst hc hd;have xx:¬its.toArray.isEmpty=Λ:=by
  intro z;have:its=[]:=by simpa using z
  exact fH (r.ny.mp this)
 refine aat (T:="tuple") (U:="int") (by decide) ⟨_,ho,rfl⟩ (λs'=>aa1 s' 2 t) fG aaX Y9 jN PySem.F.slot_int_index.lookup
  (aaC Y9 (aa1 s 2 t) aaQ (aaJ _ _) (g6 2 t a its.toArray n dd sl)
   ⟨ho,rfl,⟨_,ho,rfl⟩,aaC aaO ⟨_,ho,rfl⟩ aaH (aav _ _)
    (Bx a its.toArray n dd sl t xx (by rw[Xh];lia)) ⟨ho,?_⟩⟩)
 refine⟨.ref s.heap.objs.size,_,I.laid (t':=s.toks) (o:=.tup (xs++xs)) (λb ob q=>W4 _ q) (Xd _) ?_,rfl,q _ (I.aL.fresh (Xd _))⟩;refine⟨by rw[Xs,YJ];lia,its++its,r.append r,?_⟩;have e:(#[]++its.toArray++its.toArray:Array Value)=(its++its).toArray:=by simp
 rw[e];exact ab1 _ _
noncomputable def KP:List DictEntry->Option (List (Str×Int))
 |[]=>Δ []|⟨_,.str x _,.int i _⟩::r=>(KP r).map λD=>(x,i)::D|_=>Θ
def UQ(o:Obj):Option (List (Str×Int)):=match o with|⟨.type t,Θ,.dict es _,sl⟩=>if t="dict"/\sl=#[] then KP es.toList else Θ|_=>Θ
open PyProof.Rows.KTD in
structure Qf(K:Xf)(a:Addr)(D:List (Str×Int)):Prop where
 low:(a==YZ)=Ξ
 at_:∃o,K.lookup a=Δ o/\UQ o=Δ D
end
end L2
namespace L2
open PySem PySem.Spec PyProof.Rows PySem.SeqAt
open PySem.AutoSeq1 (wpAny_loadPart')
section
variable{X:Cx}
theorem any_range(bs:List Bool):(W7 bs.length).any (λi=>bs.getD i Λ)=bs.any id:=by
 rw[Zp];simp only[YV,Ym,id];constructor;·rintro⟨i,hi,h⟩;rw[Xa,W6 hi] at h;exact⟨bs[i],X6 hi,by simpa using h⟩
 ·rintro⟨b,hb,h⟩;obtain⟨i,hi,e⟩:=List.mem_iff_getElem.mp hb;refine⟨i,hi,?_⟩;rw[Xa,W6 hi];simpa[e] using h
theorem DO(hc:X.calm=Λ):eO X (.builtin "any") (λxs H Q=>∃(p:Addr) (bs:List Bool),xs=[.ref p]/\kC X.K H p (bs.map V.bl)/\Q (.bl (bs.any id)) H):=by
 intro η s σ H xs us Q I r h;obtain⟨p,bs,rfl,hq,q⟩:=h;obtain⟨u,rfl,rx⟩:=vals1 r;cases rx;obtain⟨its,rv,pl,hz⟩:=I.list hq;have hl:=rv.length;rw[Xc] at hl;have fm:p < s.heap.objs.size:=by obtain⟨o,n,e,_⟩:=pl;exact Xl e
 refine call_any_walk (abz pl.isList ?_);refine⟨s.heap.objs.size,_,_,its.toArray.size,_,_,λi=>bs.getD i Λ,rfl,Walks.list (A:=X.A.in1) (show X.A.in1.handled=Θ from I.ok.hd hc) s.heap.objs.size p (XD fm) its.toArray,⟨⟨_,Xj _ rfl,rfl,rfl⟩,?_⟩,?_,?_⟩;·obtain⟨o,e,c⟩:=pl.isList;exact⟨o,W4 _ e,c⟩
 ·intro i v s' Q' E' hP hQ;have Qd:its[i]?=Δ v:=by simpa using hP
  have hi:i < its.length:=(qqz Qd).1;have hb:(bs.map V.bl)[i]?=Δ (V.bl (bs.getD i Λ)):=by rw[Xg,W6 (by lia),Xa,W6 (by lia)];rfl
  obtain⟨u,hu,ru⟩:=rv.get hb;rw[Qd] at hu;cases hu;cases ru;exact YI hQ
 ·intro h' tk hk;refine⟨.bl (bs.any id),H,I.kept (t':=tk) (λb o e=>hk b o (by simpa using XD (Xl e)) (W4 _ e)),?_,q⟩;show Z8 _=Z8 _;rw[Xh,<-hl,any_range]
theorem qU(hd:(d==YZ)=Ξ)(ho:∀s:Xp,s.heap.get? d=Δ o->True):
  MeetsIn prog w (aba.«dict.__len__» ⟨[.ref d],[]⟩) (λ_ R s=>(s.heap.get? d=Δ o/\o.ExactDict/\o.data=.dict es ep)/\R (.ok (.ret (.int es.size s.toks))) {s with toks:=s.toks+1}):=
 .of_wp λA R s ⟨⟨ho,hc,Mn⟩,h⟩=>by show wpAny _ _ (dictSize d >>=_) _ _ s;unfold dictSize;refine W2 (W2 (wpAny_dictEntries ho Mn (Xe ?_)));show wpAny _ _ (aba.Dict.pendingCount d >>=_) _ _ s;refine W2 (wpAny_pendingCount_other hd ?_);refine wpAny_ret_mkInt ?_;rw[Nat.add_zero];exact h
theorem xy(hd:(d==YZ)=Ξ)(ho:s.heap.get? d=Δ o)(hc:o.ExactDict)(Mn:o.data=.dict es ep)(hfit:(es.size:Int) < 2 ^ 63)(h:Q (.int es.size (s.toks+1)) {s with toks:=s.toks+1+1}):wpAny (model prog w) A (call (.builtin "len") [.ref d]) Q E s:=by
 have hT:s.TypeIs (.ref d) "dict":=⟨o,ho,hc.1⟩;refine Calls.call_function_entry kind_len plain_len entry_len (args_len1 _) ?_;unfold aba.«len»;refine W2 (m:=oneArg "len" _) (Xe ?_);refine W2 (m:=callSpecial? (.ref d) (XY "__len__")) (X4 (name:=XY "__len__") hT F.slot_dict_len
  (abn F.slot_dict_len hT F.entry_dict_len (F.args_dict_len_1 _) (qU (o:=o) (es:=es) (ep:=ep) hd λ_ _=>trivial) ⟨⟨ho,hc,Mn⟩,?_⟩))
 show wpAny _ _ _ _ _ {s with toks:=s.toks+1};refine W2 (Zw (Xe ?_));refine W2 (abA ?_);show wpAny _ _ (if((es.size:Nat):Int) < 0 then _ else _) _ _ _;rw[if_neg (by lia)];show wpAny _ _ (if((es.size:Nat):Int)>=2 ^ 63 then _ else _) _ _ _;rw[if_neg (by lia)];exact W2 (wpAny_mkInt (Xe ⟨_,rfl,h⟩))
def Qg(H:Hp)(a:Addr)(n:Nat):Prop:=(∃kvs,Rd H a (.dK kvs)/\kvs.length=n)\/∃kvs,Rd H a (.dT kvs)/\kvs.length=n
theorem xA:eO X (.builtin "len") (λxs H Q=>∃p n,xs=[.ref p]/\Qg H p n/\Q (.int n) H):=by
 intro η s σ H xs us Q I r h;obtain⟨p,n,rfl,hd,q⟩:=h;obtain⟨u,rfl,rx⟩:=vals1 r;cases rx;rcases hd with ⟨kvs,e,rfl⟩|⟨kvs,e,rfl⟩
 ·exact PY I e λt s' I'=>⟨.int kvs.length,H,I',⟨t,rfl⟩,q⟩
 ·obtain⟨z,hd,xs,rel,o,es,ep,h1,h2,h3,h4,_⟩:=qm I.aL e;have hl:es.size=kvs.length:=by
   have:es.toList.length=xs.length:=by rw[h4,Xc]
   rw[<-Y5,this,<-rel.length]
  refine xy hd h1 h2 h3 (by rw[YJ] at z;lia) ?_;rw[hl];exact⟨.int kvs.length,H,I.tok _,⟨_,rfl⟩,q⟩
theorem nH(hT:vd.TypeIs o "dict")(kH:wpAny (model prog w) A (aay o i) Q E vd)(hs:acj slice Ξ o i=operate [o,i] (aay o i)):wpAny (model prog w) A (aa8 value slice o i) Q E vd:=by
 unfold aa8;refine W2 ?_;rw[getitemInPython_of_ne hT.not_modules];refine W2 (acd hT PySem.F.slot_dict_getitem.lookup ?_);have fin:wpAny (model prog w) A (acj slice Ξ o i) (λr DK=>wpAny (model prog w) A (letTemporaryGo value o r >>=λ_=>pure r) Q E DK) E vd:=by rw[hs];exact wpAny_operating (YS kH (λr DK i9=>W2 (wpAny_letTemporaryGo (Xe i9))) λ_ _ x=>x)
 first
  |exact Xe (W2 fin)
  |exact W2 (Xe (W2 fin))
  |exact W2 fin
theorem zg:eO X (.type "range") (λxs H Q=>∃lo hi,(xs=[.int lo,.int hi]\/(lo=0/\xs=[.int hi]))/\∀p,H p=Θ->Q (.ref p) (upd H p (.iB lo hi))):=by
 intro η s σ H xs us Q I r h;obtain⟨lo,hi,hx,q⟩:=h;rcases hx with rfl|⟨rfl,rfl⟩;·obtain⟨u,w',rfl,rx,ry⟩:=vals2 r;obtain⟨t,rfl⟩:=rx;obtain⟨t',rfl⟩:=ry;refine call_range_2 ⟨.ref s.heap.objs.size,_,I.laid (a:=s.heap.objs.size) (o:=.iB lo hi) (λb o e=>W4 _ e) (Xd _) ⟨_,_,_,Xj _ rfl⟩,rfl,q _ (I.aL.fresh (Xd _))⟩
 ·obtain⟨u,rfl,rx⟩:=vals1 r;obtain⟨t,rfl⟩:=rx;refine call_range_1 ⟨.ref s.heap.objs.size,_,I.laid (a:=s.heap.objs.size) (o:=.iB 0 hi) (λb o e=>W4 _ e) (Xd _) ⟨_,_,_,Xj _ rfl⟩,rfl,q _ (I.aL.fresh (Xd _))⟩
def By(lo:Int)(n:Nat):List V:=(W7 n).map λk=>.int (lo+(k:Nat))
theorem FA{lo:Int}:∀{acc} {n},acc.length=n->(∀(j:Nat) v,acc[j]?=Δ v->∃t,v=.int (lo+j*1) t)->aS (By lo n) acc:=by
 intro acc n hl h
 suffices ∀(k:Nat) (gP:List Value),gP.length+k=n->(∀(j:Nat) v,gP[j]?=Δ v->∃t,v=.int (lo+((k+j:Nat):Int)) t)->aS ((List.range' k gP.length).map λi=>V.int (lo+(i:Nat))) gP by
  have q:=this 0 acc (by lia) λj v hj=>by obtain⟨t,e⟩:=h j v hj;exact⟨t,by rw[e];congr 1<;>simp⟩
  unfold By;rw[List.range_eq_range',<-hl];exact q
 intro k gP;induction gP generalizing k with
 |nil=>intro _ _;exact .nil|cons x xs ih=>
  intro hn hx;rw[Xq,List.range'_succ,Xi];refine .cons ?_ ?_;·obtain⟨t,e⟩:=hx 0 x rfl;exact⟨t,by rw[e];simp⟩
  ·refine ih (k+1) (by rw[Xq] at hn;lia) λj v hj=>?_;obtain⟨t,e⟩:=hx (j+1) v (by simpa using hj);exact⟨t,by rw[e];congr 1;lia⟩
theorem vg(hc:X.calm=Λ):eO X (.type "list") (λxs H Q=>∃p lo hi,xs=[.ref p]/\H p=Δ (.iB lo hi)/\(-(2 ^ 62)<=lo/\lo < 2 ^ 62/\ -(2 ^ 62)<=hi/\hi < 2 ^ 62)/\(hi - lo).toNat<=Xv/\
  ∀l,H l=Θ->Q (.ref l) (upd H l (.lst (By lo (hi - lo).toNat)))):=by
 intro η s σ H xs us Q I r h;obtain⟨p,lo,hi,rfl,hp,⟨h1,h2,h3,h4⟩,hz,q⟩:=h;obtain⟨u,rfl,rx⟩:=vals1 r;cases rx;obtain⟨t,u,v,e⟩:=(show bI X.prog X.w H s.heap p (.iB lo hi) from I.aL p _ hp);refine call_list_range (n:=(hi - lo).toNat) (I.ok.hd hc) (show IsRange s.heap p lo hi 1 t u v from e) (small_one h1 h2 h3 h4) (by rw[rangeSize_one];split<;>lia) (by rw[YJ] at hz;lia) λh' tk gP c' hk hS vZ=>?_;obtain⟨i1,i2⟩:=vZ;have hv:aS (By lo (hi - lo).toNat) gP.toList:=FA (by rw[Y5];exact i1) λj v hj=>i2 j v (by simpa using hj);have hlen:=hv.length;refine⟨.ref s.heap.objs.size,_,I.laid (a:=s.heap.objs.size) (o:=.lst (By lo (hi - lo).toNat)) (t':=tk) hk (Xd _) ⟨by unfold By;rw[Xc,XX];exact hz,gP.toList,c',hv,by simpa using hS⟩,rfl,q _ (I.aL.fresh (Xd _))⟩
theorem Bz l items n d sl u(fH:¬items.isEmpty=Λ)(hz:items.size*3<=1000000):
  Meets (aba.«tuple.__mul__» ⟨[.ref l,.int 3 u],[]⟩) (λ_ R s=>s.heap.get? l=Δ {cls:=.type "tuple",dict:=d,data:=.seq items n,slots:=sl}/\
   R (.ok (.ret (XC s.heap.objs.size))) {s with heap:=s.heap.push {cls:=Z7 "tuple",data:=Data.seq (#[]++items++items++items)},toks:=s.toks}):=
 .of_wp λprog w A R s h=>by
  obtain⟨hp,g,dr,tk,os⟩:=s;obtain⟨hl,h⟩:=h;have f1:=ab3;have h1:¬((items.size:Int)*3 > (2 ^ 63 - 1) / 8):=by lia
  have h2:¬YB ((items.size:Int)*3)=Λ:=by
   unfold YB;simp[Xv]
   lia
  have h3:(items.isEmpty||(3:Int)==1)=Ξ:=by simpa using fH
  have h4:((3:Int)<=0||items.isEmpty)=Ξ:=by simpa using fH
  wp_walk using YN hl
  rw[if_neg h1];show wpAny _ _ (if YB ((items.size:Int)*3)=Λ then _ else _) _ _ _;rw[if_neg h2];have hsz:sizeOk (.seq (abw (λx1 x2=>x1++x2) #[] (Yy (ab2 3) items))):=by
   show(abw (λx1 x2=>x1++x2) #[] (Yy (ab2 3) items)).size<=Xv;show(#[]++items++items++items).size<=Xv;simp[Xv]
   lia
  show wpAny _ _ (XO (abw (λx1 x2=>x1++x2) #[] (Yy (ab2 3) items)) >>=λv=>ret v) _ _ _;exact W2 (m:=XO _) (X3 (Xe ⟨_,rfl,h⟩) hsz)
def KQ:R2:=λx y H Q=>∃a xs,x=.ref a/\y=.int 3/\H a=Δ (.tup xs)/\xs≠[]/\xs.length<=100000/\∀p,H p=Θ->Q (.ref p) (upd H p (.tup (xs++xs++xs)))
theorem FC:kg X (ZD .Mult) KQ:=by
 intro η s σ H x y v u Q I rx ry h;obtain⟨a,xs,rfl,rfl,ha,fH,hz,q⟩:=h;cases rx;obtain⟨t,rfl⟩:=ry;obtain⟨its,r,ht,IM⟩:=I.tuple (eY.of ha);have hl:=r.length;obtain⟨⟨cls,dd,data,sl⟩,ho,hc,n,hd⟩:=id ht;simp only at hc hd;subst hc hd;have xx:¬its.toArray.isEmpty=Λ:=by
  intro z;have:its=[]:=by simpa using z
  exact fH (r.ny.mp this)
 refine aat (T:="tuple") (U:="int") (by decide) ⟨_,ho,rfl⟩ (λs'=>aa1 s' 3 t) fG aaX Y9 jN PySem.F.slot_int_index.lookup
  (aaC Y9 (aa1 s 3 t) aaQ (aaJ _ _) (g6 3 t a its.toArray n dd sl)
   ⟨ho,rfl,⟨_,ho,rfl⟩,aaC aaO ⟨_,ho,rfl⟩ aaH (aav _ _)
    (Bz a its.toArray n dd sl t xx (by rw[Xh];lia)) ⟨ho,?_⟩⟩)
 refine⟨.ref s.heap.objs.size,_,I.laid (t':=s.toks) (o:=.tup (xs++xs++xs)) (λb ob q=>W4 _ q) (Xd _) ?_,rfl,q _ (I.aL.fresh (Xd _))⟩;refine⟨by rw[Xs,Xs,YJ];lia,its++its++its,(r.append r).append r,?_⟩;have e:(#[]++its.toArray++its.toArray++its.toArray:Array Value)=(its++its++its).toArray:=by simp
 rw[e];exact ab1 _ _
theorem BA l items n d sl u:
  Meets (aba.«tuple.__mul__» ⟨[.ref l,.int 1 u],[]⟩) (λ_ R s=>s.heap.get? l=Δ {cls:=.type "tuple",dict:=d,data:=.seq items n,slots:=sl}/\R (.ok (.ret (XC l))) s):=
 .of_wp λprog w A R s h=>by
  obtain⟨hp,g,dr,tk,os⟩:=s;obtain⟨hl,h⟩:=h;have f1:=ab3;have h3:(items.isEmpty||(1:Int)==1)=Λ:=by simp
  wp_walk using YN hl
  all_goals exact⟨_,rfl,h⟩
def KR:R2:=λx y H Q=>∃a xs,x=.ref a/\y=.int 1/\H a=Δ (.tup xs)/\Q (.ref a) H
theorem FD:kg X (ZD .Mult) KR:=by
 intro η s σ H x y v u Q I rx ry h;obtain⟨a,xs,rfl,rfl,ha,q⟩:=h;cases rx;obtain⟨t,rfl⟩:=ry;obtain⟨its,r,ht,IM⟩:=I.tuple (eY.of ha);obtain⟨⟨cls,dd,data,sl⟩,ho,hc,n,hd⟩:=id ht;simp only at hc hd;subst hc hd;refine aat (T:="tuple") (U:="int") (by decide) ⟨_,ho,rfl⟩ (λs'=>aa1 s' 1 t) fG aaX Y9 jN PySem.F.slot_int_index.lookup
  (aaC Y9 (aa1 s 1 t) aaQ (aaJ _ _) (g6 1 t a its.toArray n dd sl)
   ⟨ho,rfl,⟨_,ho,rfl⟩,aaC aaO ⟨_,ho,rfl⟩ aaH (aav _ _)
    (BA a its.toArray n dd sl t) ⟨ho,?_⟩⟩)
 exact⟨.ref a,H,I,rfl,q⟩
end
end L2
namespace L2
open PySem PySem.Spec PyProof.Rows
section
variable{X:Cx}{elt iter tg:Expr}{ifs:List Expr}{sc:Scope}{pos:Pos}{N:List Str}{ts:Nat}{js:List Nat}{wi:TI}{g:TG}{tc:TT}{te:TE}
theorem sN(hc:X.calm=Λ)(B:jM X N ts js sc)(hi:PI X tg iter wi)(hg:∀η fp C s H,PG (mz X η N sc fp C s H) tg g)(ht:∀η fp C s H,Fx (mz X η N sc fp C s H) ifs tc)(he:∀η fp C s H,PE (mz X η N sc fp C s H) elt te)(hs:∀x,abB iter X.env x=pure x)(hsw:X.Ok->aao (.ListComp elt [⟨tg,iter,ifs,0⟩] sc pos) (Δ (.Name y py)) UR.line X.env=pure Λ)(hgt:PG X (.Name y py) gt):
  PS X (.Assign [.Name y py] (.ListComp elt [⟨tg,iter,ifs,0⟩] sc pos) UR) (λD σ H=>zd wi g tc te ts js σ H λv H1=>gt v σ H1 D.nx):=by
 intro η s σ H D I h;rw[exec_Assign_Name_used _ _ _ _ (hsw I.ok)];refine W2 (acv (W2 ?_));show wpAny _ X.A (do let _<-comprehension (.ListComp elt [⟨tg,iter,ifs,0⟩] sc pos) sc X.env _ (newList []) Ξ (eval iter X.env) (Δ (acV (.Name y py) X.env))) _ _ s;refine W2 (YS (wpAny_comprehension_free (use:=Δ (acV (.Name y py) X.env)) (Q:=λ_ s'=>SP X η D .next s') rfl hs (sL (B.cl I.ok)) B.kind B.names
  (bR (hi η s σ H _ I h) λv s1 h1=>bR h1 λSs s2 h2=>?_)) (λ_ s' hq=>Xe (Xe hq)) λ_ _ e=>e)
 obtain⟨it,fp,tn,J,H2,e,I2,T,st2,f2,qr⟩:=h2;subst e;have DM:H2 s2.heap.objs.size=Θ:=I2.aL.fresh (Xd _);obtain⟨W,⟨m0,w0⟩,turn⟩:=qr s2.heap.objs.size DM;refine X3 (aai B.fF (by intro y hy;simp at hy) (λdA Bt Bu=>?_) B.kind);obtain⟨s3,IF⟩:∃s3:Xp,({s2 with heap:=s2.heap.push {cls:=.type "list",dict:=Θ,data:=.seq ([]:List Value).toArray}}:Xp)=s3:=⟨_,rfl⟩;have e3:s3.heap=s2.heap.push {cls:=.type "list",dict:=Θ,data:=.seq ([]:List Value).toArray}:=by rw[<-IF]
 have Bv:dA.Ns s3.heap.objs.size λx=>([]:List (Str×Value)).reverse.lookup x:=by rw[e3];exact Bt
 have Bw:ZU s3.heap.objs.size (s3.heap.push {cls:=.type (if(Δ X.env).isSome then "dict" else "frame"),data:=.dict #[]}) dA:=by rw[e3];exact Bu
 have I3:Inv X η σ (upd H2 s2.heap.objs.size (.lst [])) s3:=by rw[<-IF];exact I2.laid (t':=s2.toks) (λb u e=>W4 _ e) (Xd _) ⟨Yj _,[],0,.nil,Xj _ rfl⟩
 have P9:∀b∈fp,b < s2.heap.objs.size:=λb hb=>by obtain⟨o,e,_⟩:=T.obj _ _ st2 b hb;exact Xl e
 have f3:∀b∈fp,mr X η (upd H2 s2.heap.objs.size (.lst [])) b:=λb hb=>⟨by rw[ax (XD (P9 b hb))];exact(f2 b hb).1,(f2 b hb).2⟩;have UE:s2.heap.objs.size < s3.heap.objs.size:=by rw[e3,YA];exact YT _
 have Qa:∀b∈fp,b < s3.heap.objs.size:=λb hb=>aaR (P9 b hb) UE;have k1:∀b o,s3.heap.get? b=Δ o->dA.get? b=Δ o:=λb o e=>Bw.extBut b o (XD (Xl e)) (W4 _ e);have IB:=I3.block (tk:=s3.toks+([]:List (Str×Value)).length) (N:=N) B f3 Qa Bv k1;have l6:tn 0 dA:=T.keep _ _ _ st2 λb hb o e=>k1 b o (by rw[e3];exact W4 _ e);have sx:∀{H':Hp},(∀b∈fp,H' b=Θ)->∀b∈fp,mr (mz X η N sc fp s3.heap.objs.size s3 (upd H2 s2.heap.objs.size (.lst []))) [] H' b:=λhn b hb=>⟨hn b hb,XD (Qa b hb),I3.UC (f3 b hb),.inl hb,λx c h=>(f3 b hb).2.2.2.2.1 x c (B.get I3.ok h),λp hp=>(f3 b hb).2.2.2.2.2 p (by simpa[mz] using hp)⟩;have loop:aa9 (model X.prog X.w) X.A (.compLoop (.ListComp elt [⟨tg,iter,ifs,0⟩] sc pos) 0 (.ref it) (.ref s2.heap.objs.size) (compEnvC sc (dG X.env sc.names []) s3.heap.objs.size X.env))
   (compPost (model X.prog X.w) X.A X.xe (Δ (acV (.Name y py) X.env)) (λ_ s'=>SP X η D .next s') (.ref s2.heap.objs.size) s3.heap.objs.size) {s3 with heap:=dA,toks:=s3.toks+([]:List (Str×Value)).length}:=by
  refine vY (λn s'=>∃i τ H',Inv (mz X η N sc fp s3.heap.objs.size s3 (upd H2 s2.heap.objs.size (.lst []))) [] τ H' s'/\tn i s'.heap/\(∀b∈fp,H' b=Θ)/\W i n τ H') ?_ m0
   ⟨0,iL ts js σ,_,IB,l6,λb hb=>(f3 b hb).1,w0⟩
  rintro n s5 ⟨i,τ,H5,I5,A8,LL,w5⟩;rcases turn i n τ H5 w5 with ⟨stop,qn⟩|⟨go,step⟩
  ·refine bR (T.done (mz X η N sc fp s3.heap.objs.size s3 (upd H2 s2.heap.objs.size (.lst []))) rfl rfl rfl hc i [] s5 τ H5 (λ_ _=>False) I5 (sx LL) A8 stop) λr s6 ⟨hr,I6⟩=>?_;subst hr;obtain⟨m,hn,_⟩:=I6.loc;have IO:Inv X η σ H5 s6:=I3.ze (h'':=s6.heap) f3 I6 ⟨rfl,λ_ _=>rfl⟩;have fC:mr X η H5 s3.heap.objs.size:=I3.xj (Xd _) I6.free;obtain⟨oC,esC,epC,eC,dC,rC⟩:=id hn;have IOp:=IO.pinned (fp:=[s3.heap.objs.size]) (λb hb=>by rw[Yz.mp hb];exact fC) λb hb=>by rw[Yz.mp hb];exact⟨oC,eC,λv z=>by rw[dC] at z;cases z⟩
   refine bR (hgt _ s6 σ H5 (.ref s2.heap.objs.size) (.ref s2.heap.objs.size) D.nx IOp rfl qn) λ_ s8 ⟨σ8,H8,I8,q8⟩=>?_;obtain⟨pC,fC8,_⟩:=I8.pin (s3.heap.objs.size,oC) (XF _ (XF _ (eI (by simp) eC)));refine⟨m,hn.at' λo e=>?_,λh' sM=>⟨σ8,H8,?_,q8⟩⟩;·rw[eC] at e;cases e;exact pC
   ·exact(I8.jg).turned (it:=s3.heap.objs.size) (t':=s8.toks) (λb o hb e=>sM.extBut b o hb e) fC8 fC.2.1 fC.2.2.2.1 fC.2.2.2.2.1 fC.2.2.2.2.2
  ·refine bR (T.item (mz X η N sc fp s3.heap.objs.size s3 (upd H2 s2.heap.objs.size (.lst []))) rfl rfl rfl hc i [] s5 τ H5 (λ_ _=>False) I5 (sx LL) A8 go) λr s6 ⟨u,hr,h6⟩=>?_;subst hr;refine bR h6 λ_ s7 ⟨x,H7,I7,r7,y7,Ml,UG⟩=>?_;have UH:=I7.pinned (sx UG) (T.obj _ _ Ml);refine bR (hg _ _ _ _ _ _ s7 τ H7 x u _ UH r7 (step x H7 y7)) λ_ s8 ⟨IG,H8,I8,q8⟩=>?_;refine bR (ht _ _ _ _ _ _ s8 IG H8 _ I8 q8) λok s9 ⟨H9,I9,q9⟩=>?_;have again:∀{s':Xp} {IH:St} {H':Hp},Inv (mz X η N sc fp s3.heap.objs.size s3 (upd H2 s2.heap.objs.size (.lst []))) ([]++oT fp s7.heap) IH H' s'->(∃m',m' < n/\W (i+1) m' IH H')->
     ∃m,m < n/\∃i τ H',Inv (mz X η N sc fp s3.heap.objs.size s3 (upd H2 s2.heap.objs.size (.lst []))) [] τ H' s'/\tn i s'.heap/\(∀b∈fp,H' b=Θ)/\W i m τ H':=λ{s' IH H'} I' ⟨m',hm,w'⟩=>by
    refine⟨m',hm,i+1,IH,H',I'.jg,T.keep _ _ _ Ml λb hb o e=>(I'.pin (b,o) (XF _ (XF _ (eI hb e)))).1,λb hb=>?_,w'⟩;obtain⟨o,e,d⟩:=T.obj _ _ Ml b hb;exact(I'.pin (b,o) (XF _ (XF _ (eI hb e)))).2.1
   cases ok with|false=>exact again I9 q9|true=>refine bR (he _ _ _ _ _ _ s9 IG H9 _ I9 q9) λxv Qb ⟨y,UI,UJ,UK,ys,ha,hz,UL⟩=>?_;refine bR (oZ _ Qb IG UI (.ref s2.heap.objs.size) [y] (.ref s2.heap.objs.size) [xv] (λ_ H'=>∃m',m' < n/\W (i+1) m' IG H') UJ rfl (.cons UK .nil) ⟨_,ys,y,rfl,rfl,ha,hz,UL⟩) λ_ s11 ⟨_,H11,UM,_,UN⟩=>?_;exact again UM UN
 subst IF;exact codeAny_compStart_list loop (T.self _ 0 _ _ _ l6 loop)
end
section
variable{prog:Yb}{w:World}{A:YF}{E:Value->Xp->Prop}{s:Xp}
theorem nI{items}(hit:s.heap.IsTupleIter it t i)(ht:s.heap.IsTuple t items)(hx:items[i]?=Δ x)(hQ:∀h',h'.IsTupleIter it t (i+1)->ZU it s.heap h'->Q x {s with heap:=h'}):
  wpAny (model prog w) A (XN (.ref it)) Q E s:=by
 obtain⟨o,ho,hc,hd⟩:=id hit;obtain⟨ol,US,_,nl,Mo⟩:=ht;unfold XN;refine W2 (X4 (name:=XY "__next__") hit.typeIs Y0
  (Yv Y0 hit.typeIs PySem.F.entry_tuple_iterator_next ?_ (PySem.F.args_tuple_iterator_next_1 _)))
 show wpAny _ _ (field (.ref it) 0 >>=_) _ _ s;refine W2 (Yf ho hd (x:=.ref t) rfl ?_);show wpAny _ _ (if(XC t==Zd)=Λ then _ else _) _ _ s;rw[if_neg (show ¬((XC t==Zd)=Λ) from X8)];show wpAny _ _ (field (.ref it) 1 >>=_) _ _ s;refine W2 (Yf ho hd (x:=.int i 0) rfl ?_);show wpAny _ _ (seqItems? (.ref t) >>=_) _ _ s;refine W2 (Zi US Mo ?_);simp only[Int.toNat_natCast,hx];refine W2 (wpAny_setField ho hd (by simp) (Xe ⟨x,rfl,Xe (hQ _ ?_ (ZU.update ..))⟩));exact⟨_,Za _ ho (Obj.isFreed_of_fields (Obj.data_mapFields hd _)),(Obj.cls_mapFields ..).trans hc,by rw[Obj.data_mapFields hd];simp[Zj]⟩
theorem jk{items}(hh:A.handled=Θ)(hit:s.heap.IsTupleIter it t i)(ht:s.heap.IsTuple t items)(hx:items[i]?=Θ)(hE:∀h' e,Heap.ExtBut it s.heap h'->(∃o,h'.get? e=Δ o/\o.cls=.type "StopIteration")->E (.ref e) {s with heap:=h'}):
  wpAny (model prog w) A (XN (.ref it)) Q E s:=by
 obtain⟨o,ho,hc,hd⟩:=id hit;obtain⟨ol,US,_,nl,Mo⟩:=ht;unfold XN;refine W2 (X4 (name:=XY "__next__") hit.typeIs Y0
  (Yv Y0 hit.typeIs PySem.F.entry_tuple_iterator_next ?_ (PySem.F.args_tuple_iterator_next_1 _)))
 show wpAny _ _ (field (.ref it) 0 >>=_) _ _ s;refine W2 (Yf ho hd (x:=.ref t) rfl ?_);show wpAny _ _ (if(XC t==Zd)=Λ then _ else _) _ _ s;rw[if_neg (show ¬((XC t==Zd)=Λ) from X8)];show wpAny _ _ (field (.ref it) 1 >>=_) _ _ s;refine W2 (Yf ho hd (x:=.int i 0) rfl ?_);show wpAny _ _ (seqItems? (.ref t) >>=_) _ _ s;refine W2 (Zi US Mo ?_);simp only[Int.toNat_natCast,hx];refine W2 (aa0 (W2 (wpAny_setField ho hd (by simp) ?_)));show wpAny _ _ (newExc (.type "StopIteration") [] >>=_) _ _ _;refine W2 ?_;simp only[newExc,newTuple];refine W2 (X3 ?_ (by size_fits));refine W2 (m:=firstArgMember _ _) (wpAny_of_eq (a:=Zd) (by first|rfl|(simp only[firstArgMember];rfl)) ?_);refine X3 ?_ (by size_fits);simp only[raiseNew];refine W2 (wpAny_handled ?_);first|rw[show A.in1.handled=Θ from hh]|rw[hh]
 refine W2 (Xe (wpAny_throw ?_));exact hE _ _ (((ZU.update ..).extBut.push _).push _) ⟨_,Xj _ rfl,rfl⟩
end
theorem kI{prog:Yb}{w:World}{A:YF}(hh:A.handled=Θ)(it l:Addr)(fH:l≠it)(items:Array Value):
  Draws prog w A it [it,l] items.size (λi v=>items[i]?=Δ v) (λi h=>h.IsTupleIter it l i/\h.IsTuple l items) where
 live:=λ_ _ st=>let ⟨o,ho,_⟩:=st.1;⟨o,ho⟩
 frame:=λ_ _ _ st hk=>⟨st.1.at λo e=>hk it (by simp) o e,let ⟨o,ho,r⟩:=st.2;⟨o,hk l (by simp) o ho,r⟩⟩
 item:=λi s Q E hi st hQ=>by refine nI st.1 st.2 (x:=items[i]) (by simp[hi]) λh' UT sM=>?_;exact hQ _ h' s.toks (by simp[hi]) ⟨UT,st.2.extBut sM.extBut fH⟩ sM
 done:=λs Q E st hE=>jk hh st.1 st.2 (by simp) hE
abbrev yG(h:Heap)(z TI TO:Addr)(f0 f1:Value):Prop:=
 h.get? z=Δ {cls:=.type "zip",dict:=Θ,data:=.fields #[f0,f1,.bool Ξ,.ref TI,.ref TO],slots:=#[]}
noncomputable def ZF(f0 f1:Value):Prop:=(f0=.none\/∃(T:Int) (t:Tok),f0=.int T t)/\∃b,f1=.bool b
structure IP(z TI TO i1 i2:Addr)(o7 o8:List Addr):Prop where
 TIz:TI≠z
 TOz:TO≠z
 i1z:i1≠z
 i2z:i2≠z
 TITO:TI≠TO
 TIi1:TI≠i1
 TIi2:TI≠i2
 TOi1:TO≠i1
 TOi2:TO≠i2
 i12:i1≠i2
 z1:z∉o7
 z2:z∉o8
 T1:TO∉o7
 T2:TO∉o8
 x1:i2∉o7
 x2:i1∉o8
section
variable{prog:Yb}{w:World}{A:YF}{E:Value->Xp->Prop}{s:Xp}{z TI TO i1 i2:Addr}{o7 o8:List Addr}{n1 n2:Nat}{P1 P2:Nat->Value->Prop}{vh vi:Nat->Heap->Prop}
theorem zh(h:Q (s.heap.get? a) s):wpAny M A (loadIfAlive a) Q E s:=λΓ p _=>by unfold loadIfAlive;rw[Sem.wp_loadIfAlive];exact Xe (M:=M) (A:=A) (E:=E) (Q:=Q) h Γ p (by assumption)
theorem KS(hf:ZF f0 f1)(hz:yG s.heap z TI TO f0 f1)(h1:Q Λ s)(h2:∀h',yG h' z TI TO f0 (.bool Λ)->ZU z s.heap h'->Q Ξ {s with heap:=h'}):
  wpAny (model prog w) A (YM (.ref z)) Q E s:=by
 unfold YM;refine W2 (Yf hz rfl (x:=f0) rfl ?_);obtain⟨hf0,b,rfl⟩:=hf;rcases hf0 with rfl|⟨T,t,rfl⟩;·exact Xe h1
 ·dsimp only;refine W2 (zh ?_);cases s.heap.get? T.toNat with|none=>exact Xe h1|some o=>show wpAny _ _ (field (.ref z) 1 >>=_) _ _ _;refine W2 (Yf hz rfl (x:=.bool b) rfl ?_);cases b with|true=>exact Xe (h2 s.heap hz ⟨rfl,λ_ _=>rfl⟩)|false=>show wpAny _ _ (setField (.ref z) 1 (.bool Λ) >>=_) _ _ _;exact W2 (Zc hz (by simp) λdA jm dN=>Xe (h2 dA jm dN))
theorem FE(D1:Draws prog w A i1 o7 n1 P1 vh)(D2:Draws prog w A i2 o8 n2 P2 vi)(ap:IP z TI TO i1 i2 o7 o8){Q:Value->Xp->Prop}(hf:ZF f0 f1)(hz:yG s.heap z TI TO f0 f1)(Mp:ZG s.heap TI (.ref i1) (.ref i2))(KU:ZG s.heap TO a b)(vk:k < n1)(v5:k < n2)(h1:vh k s.heap)(h2:vi k s.heap)(hQ:∀h' tk T x y f0 f1 a b,ZF f0 f1->yG h' z TI TO f0 f1->ZG h' TO a b->vh (k+1) h'->vi (k+1) h'->P1 k x->P2 k y->s.heap.objs.size<=T->ZG h' T x y->
   (∀c o,c≠z->c≠TO->c≠i1->c≠i2->s.heap.get? c=Δ o->h'.get? c=Δ o)->Q (.ref T) {s with heap:=h',toks:=tk}):
  wpAny (model prog w) A (aba.«zip.__next__» ⟨[.ref z],[]⟩) (λfin s'=>∃v,fin=.done (.ret v)/\Q v s') E s:=by
 show wpAny _ _ (field (.ref z) 2 >>=_) _ _ _;refine W2 (Yf hz rfl (x:=.bool Ξ) rfl ?_);show wpAny _ _ (field (.ref z) 3 >>=_) _ _ _;refine W2 (Yf hz rfl (x:=.ref TI) rfl ?_);refine W2 (Zi Mp rfl ?_);show wpAny _ _ (YM (.ref z) >>=_) _ _ _;refine W2 (KS hf hz ?_ ?_)
 ·simp only[if_true];refine W2 (aa0 ?_);refine W2 (Yf hz rfl (x:=.ref TO) rfl ?_);refine W2 (Zc hz (by simp) λdA jm dN=>?_);replace jm:yG dA z TI TO .ellipsis f1:=jm;refine W2 ?_;simp only[abW,List.zipIdx_nil,ZN,aal];refine W2 (W2 (abL ?_));show wpAny _ _ (XN (.ref i1) >>=_) _ _ _;refine W2 (D1.item k _ _ _ vk (D1.frame k _ dA h1 λc hc o e=>dN.extBut _ _ (λx=>ap.z1 (x▸hc)) e) λx kH Qh px zi dP=>Xe ?_);have sP:ZG kH TO a b:=dP.extBut _ _ ap.TOi1 (dN.extBut _ _ ap.TOz KU);refine W2 (Zi sP rfl ?_);refine W2 (abb sP λi9 xB fw=>?_);replace xB:ZG i9 TO x b:=xB;refine W2 (abA (Xe ?_));refine W2 (W2 (abL ?_));show wpAny _ _ (XN (.ref i2) >>=_) _ _ _;have k3:∀c o,c≠z->c≠TO->c≠i1->s.heap.get? c=Δ o->i9.get? c=Δ o:=λc o c1 c2 c3 e=>fw.extBut _ _ c2 (dP.extBut _ _ c3 (dN.extBut _ _ c1 e));refine W2 (D2.item k _ _ _ v5 (D2.frame k _ i9 h2 λc hc o e=>k3 c o (λx=>ap.z2 (x▸hc)) (λx=>ap.T2 (x▸hc)) (λx=>ap.x2 (x▸hc)) e) λy DL tk4 py Qi qt=>Xe ?_);have FF:ZG DL TO x b:=qt.extBut _ _ ap.TOi2 xB;refine W2 (Zi FF rfl ?_);refine W2 (abb FF λlQ xC qu=>?_);replace xC:ZG lQ TO x y:=xC;refine W2 (abA (Xe (Xe ?_)));refine W2 (Zi xC rfl ?_);refine W2 (wpAny_newTuple ?_);have hsz:lQ.objs.size=s.heap.objs.size:=by rw[qu.1,qt.1,fw.1,dP.1,dN.1]
  have KW:yG lQ z TI TO .ellipsis f1:=qu.extBut _ _ ap.TOz.symm (qt.extBut _ _ ap.i2z.symm (fw.extBut _ _ ap.TOz.symm (dP.extBut _ _ ap.i1z.symm jm)));have Qj:∀c o,c≠z->c≠TO->c≠i1->c≠i2->s.heap.get? c=Δ o->lQ.get? c=Δ o:=λc o c1 c2 c3 c4 e=>qu.extBut _ _ c2 (qt.extBut _ _ c4 (k3 c o c1 c2 c3 e));have Qk:z < lQ.objs.size:=Xl KW;show wpAny _ _ (aba.SmallTypes.ownedTupleHandOut (.ref z) (.ref lQ.objs.size) >>=_) _ _ _;refine W2 ?_;unfold aba.SmallTypes.ownedTupleHandOut;have Ql:yG (lQ.push {cls:=.type "tuple",data:=.seq #[x,y]}) z TI TO .ellipsis f1:=W4 _ KW;refine W2 (Zc Ql (by simp) λUU FG KY=>?_);replace FG:yG UU z TI TO (Zj lQ.objs.size) f1:=FG;refine Zc FG (by simp) λDP FH KZ=>?_;replace FH:yG DP z TI TO (Zj lQ.objs.size) (.bool Ξ):=FH;have up:∀c o,c≠z->lQ.get? c=Δ o->DP.get? c=Δ o:=λc o c1 e=>KZ.extBut _ _ c1 (KY.extBut _ _ c1 (W4 _ e));have Qm:ZG DP lQ.objs.size x y:=KZ.extBut _ _ (Yk Qk) (KY.extBut _ _ (Yk Qk) (Xj _ rfl));refine Xe ⟨_,rfl,?_⟩;refine hQ DP _ lQ.objs.size x y _ _ x y ⟨.inr ⟨_,_,rfl⟩,Ξ,rfl⟩ FH (up _ _ ap.TOz xC) (D1.frame _ kH DP zi λc hc o e=>?_) (D2.frame _ DL DP Qi λc hc o e=>?_) px py (by rw[hsz];exact Xd _) Qm λc o c1 c2 c3 c4 e=>up c o c1 (Qj c o c1 c2 c3 c4 e);·exact up c o (λx=>ap.z1 (x▸hc)) (qu.extBut _ _ (λx=>ap.T1 (x▸hc)) (qt.extBut _ _ (λx=>ap.x1 (x▸hc)) (fw.extBut _ _ (λx=>ap.T1 (x▸hc)) e)))
  ·exact up c o (λx=>ap.z2 (x▸hc)) (qu.extBut _ _ (λx=>ap.T2 (x▸hc)) e)
 ·intro dA jm dN;simp only[XR,if_false,List.forIn_toArray,ZN,aal];refine W2 ?_;refine W2 ?_;refine W2 ?_;refine Zw ?_;show wpAny _ _ (XN (.ref i1) >>=_) _ _ _;refine W2 (D1.item k _ _ _ vk (D1.frame k _ dA h1 λc hc o e=>dN.extBut _ _ (λx=>ap.z1 (x▸hc)) e) λx kH Qh px zi dP=>Xe ?_);refine Xe ?_;refine W2 ?_;refine W2 ?_;refine Zw ?_;show wpAny _ _ (XN (.ref i2) >>=_) _ _ _;refine W2 (D2.item k _ _ _ v5 (D2.frame k _ kH h2 λc hc o e=>dP.extBut _ _ (λx=>ap.x2 (x▸hc)) (dN.extBut _ _ (λx=>ap.z2 (x▸hc)) e)) λy i9 tk3 py Qn fw=>Xe ?_);refine Xe ?_;refine Xe ?_;show wpAny _ _ (newTuple [x,y] >>=_) _ _ _;refine W2 (wpAny_newTuple (items:=[x,y]) ?_);have hsz:i9.objs.size=s.heap.objs.size:=by rw[fw.1,dP.1,dN.1]
  have up:∀c o,i9.get? c=Δ o->(i9.push {cls:=.type "tuple",data:=.seq #[x,y]}).get? c=Δ o:=λc o e=>W4 _ e;refine Xe ⟨_,rfl,?_⟩;refine hQ _ _ i9.objs.size x y f0 (.bool Λ) a b ⟨hf.1,Λ,rfl⟩ (up _ _ (fw.extBut _ _ ap.i2z.symm (dP.extBut _ _ ap.i1z.symm jm))) (up _ _ (fw.extBut _ _ ap.TOi2 (dP.extBut _ _ ap.TOi1 (dN.extBut _ _ ap.TOz KU))))
   (D1.frame _ kH _ zi λc hc o e=>up _ _ (fw.extBut _ _ (λx=>ap.x1 (x▸hc)) e)) (D2.frame _ i9 _ Qn λc hc o e=>up _ _ e) px py (by rw[hsz];exact Xd _) (Xj _ rfl) λc o c1 c2 c3 c4 e=>up _ _ (fw.extBut _ _ c4 (dP.extBut _ _ c3 (dN.extBut _ _ c1 e)))
theorem FI(D1:Draws prog w A i1 o7 n1 P1 vh)(D2:Draws prog w A i2 o8 n2 P2 vi)(ap:IP z TI TO i1 i2 o7 o8)(hf:ZF f0 f1)(hz:yG s.heap z TI TO f0 f1)(Mp:ZG s.heap TI (.ref i1) (.ref i2))(KU:ZG s.heap TO a b)(hk:k=n1\/(k < n1/\k=n2))(h1:vh k s.heap)(h2:vi k s.heap)(hE:∀h' tk e,(∀c o,c≠z->c≠TO->c≠i1->c≠i2->s.heap.get? c=Δ o->h'.get? c=Δ o)->(∃o,h'.get? e=Δ o/\o.cls=.type "StopIteration")->E (.ref e) {s with heap:=h',toks:=tk}):
  wpAny (model prog w) A (aba.«zip.__next__» ⟨[.ref z],[]⟩) Q E s:=by
 show wpAny _ _ (field (.ref z) 2 >>=_) _ _ _;refine W2 (Yf hz rfl (x:=.bool Ξ) rfl ?_);show wpAny _ _ (field (.ref z) 3 >>=_) _ _ _;refine W2 (Yf hz rfl (x:=.ref TI) rfl ?_);refine W2 (Zi Mp rfl ?_);show wpAny _ _ (YM (.ref z) >>=_) _ _ _;refine W2 (KS hf hz ?_ ?_)
 ·simp only[if_true];refine W2 (aa0 ?_);refine W2 (Yf hz rfl (x:=.ref TO) rfl ?_);refine W2 (Zc hz (by simp) λdA jm dN=>?_);replace jm:yG dA z TI TO .ellipsis f1:=jm;refine W2 ?_;simp only[abW,List.zipIdx_nil,ZN,aal];refine W2 (W2 (abL ?_));show wpAny _ _ (XN (.ref i1) >>=_) _ _ _;have zj:=D1.frame k _ dA h1 λc hc o e=>dN.extBut _ _ (λx=>ap.z1 (x▸hc)) e;rcases hk with rfl|⟨hk,rfl⟩
  ·refine W2 (D1.done _ _ _ zj λkH e dP he=>?_);obtain⟨oe,Mq,Qo⟩:=he;have K0:yG kH z TI TO .ellipsis f1:=dP _ _ ap.i1z.symm jm;have UW:e≠z:=λx=>by subst x;rw[K0] at Mq;cases Mq;simp at Qo
   exact Zc K0 (by simp) λi9 _ fw=>hE i9 s.toks e (λc o c1 _ c3 _ x=>fw.extBut _ _ c1 (dP _ _ c3 (dN.extBut _ _ c1 x))) ⟨oe,fw.extBut _ _ UW Mq,Qo⟩
  ·refine W2 (D1.item k _ _ _ hk zj λx kH Qh px zi dP=>Xe ?_);have sP:ZG kH TO a b:=dP.extBut _ _ ap.TOi1 (dN.extBut _ _ ap.TOz KU);refine W2 (Zi sP rfl ?_);refine W2 (abb sP λi9 xB fw=>?_);refine W2 (abA (Xe ?_));refine W2 (W2 (abL ?_));show wpAny _ _ (XN (.ref i2) >>=_) _ _ _;have k3:∀c o,c≠z->c≠TO->c≠i1->s.heap.get? c=Δ o->i9.get? c=Δ o:=λc o c1 c2 c3 e=>fw.extBut _ _ c2 (dP.extBut _ _ c3 (dN.extBut _ _ c1 e));refine W2 (D2.done _ _ _ (D2.frame k _ i9 h2 λc hc o e=>k3 c o (λx=>ap.z2 (x▸hc)) (λx=>ap.T2 (x▸hc)) (λx=>ap.x2 (x▸hc)) e) λDL e qt he=>?_);obtain⟨oe,Mq,Qo⟩:=he;have K3:yG DL z TI TO .ellipsis f1:=qt _ _ ap.i2z.symm (fw.extBut _ _ ap.TOz.symm (dP.extBut _ _ ap.i1z.symm jm));have UW:e≠z:=λx=>by subst x;rw[K3] at Mq;cases Mq;simp at Qo
   exact Zc K3 (by simp) λlQ _ qu=>hE lQ Qh e (λc o c1 c2 c3 c4 x=>qu.extBut _ _ c1 (qt _ _ c4 (k3 c o c1 c2 c3 x))) ⟨oe,qu.extBut _ _ UW Mq,Qo⟩
 ·intro dA jm dN;simp only[XR,if_false,List.forIn_toArray,ZN,aal];refine W2 ?_;refine W2 ?_;refine W2 ?_;refine Zw ?_;show wpAny _ _ (XN (.ref i1) >>=_) _ _ _;have zj:=D1.frame k _ dA h1 λc hc o e=>dN.extBut _ _ (λx=>ap.z1 (x▸hc)) e;rcases hk with rfl|⟨hk,rfl⟩;·exact W2 (D1.done _ _ _ zj λkH e dP he=>hE kH s.toks e (λc o c1 _ c3 _ x=>dP _ _ c3 (dN.extBut _ _ c1 x)) he)
  ·refine W2 (D1.item k _ _ _ hk zj λx kH Qh px zi dP=>Xe ?_);refine Xe ?_;refine W2 ?_;refine W2 ?_;refine Zw ?_;show wpAny _ _ (XN (.ref i2) >>=_) _ _ _;exact W2 (D2.done _ _ _ (D2.frame k _ kH h2 λc hc o e=>dP.extBut _ _ (λx=>ap.x2 (x▸hc)) (dN.extBut _ _ (λx=>ap.z2 (x▸hc)) e)) λi9 e fw he=>hE i9 Qh e (λc o c1 _ c3 c4 x=>fw _ _ c4 (dP.extBut _ _ c3 (dN.extBut _ _ c1 x))) he)
theorem qV(D1:Draws prog w A.in1 i1 o7 n1 P1 vh)(D2:Draws prog w A.in1 i2 o8 n2 P2 vi)(ap:IP z TI TO i1 i2 o7 o8)(hf:ZF f0 f1)(hz:yG s.heap z TI TO f0 f1)(Mp:ZG s.heap TI (.ref i1) (.ref i2))(KU:ZG s.heap TO a b)(vk:k < n1)(v5:k < n2)(h1:vh k s.heap)(h2:vi k s.heap)(hQ:∀h' tk T x y f0 f1 a b,ZF f0 f1->yG h' z TI TO f0 f1->ZG h' TO a b->vh (k+1) h'->vi (k+1) h'->P1 k x->P2 k y->s.heap.objs.size<=T->ZG h' T x y->
   (∀c o,c≠z->c≠TO->c≠i1->c≠i2->s.heap.get? c=Δ o->h'.get? c=Δ o)->Q (Δ (.ref T)) {s with heap:=h',toks:=tk}):wpAny (model prog w) A (abN (.ref z)) Q E s:=by
 have hT:s.TypeIs (.ref z) "zip":=⟨_,hz,rfl⟩;unfold abN;exact W2 (abM (X4 (name:=XY "__next__") hT aad
  (Yv aad hT PySem.F.entry_zip_next
   (FE D1 D2 ap hf hz Mp KU vk v5 h1 h2 λh' tk T x y f0 f1 a b c1 c2 c3 c4 c5 c6 c7 c8 c9 c10=>Xe (hQ h' tk T x y f0 f1 a b c1 c2 c3 c4 c5 c6 c7 c8 c9 c10)) (PySem.F.args_zip_next_1 _))))
theorem qW(D1:Draws prog w A.in1 i1 o7 n1 P1 vh)(D2:Draws prog w A.in1 i2 o8 n2 P2 vi)(ap:IP z TI TO i1 i2 o7 o8)(hf:ZF f0 f1)(hz:yG s.heap z TI TO f0 f1)(Mp:ZG s.heap TI (.ref i1) (.ref i2))(KU:ZG s.heap TO a b)(hk:k=n1\/(k < n1/\k=n2))(h1:vh k s.heap)(h2:vi k s.heap)(hQ:∀h' tk,(∀c o,c≠z->c≠TO->c≠i1->c≠i2->s.heap.get? c=Δ o->h'.get? c=Δ o)->Q Θ {s with heap:=h',toks:=tk}):wpAny (model prog w) A (abN (.ref z)) Q E s:=by
 have hT:s.TypeIs (.ref z) "zip":=⟨_,hz,rfl⟩;unfold abN;refine W2 (abM (X4 (name:=XY "__next__") hT aad
  (Yv aad hT PySem.F.entry_zip_next (FI D1 D2 ap hf hz Mp KU hk h1 h2 λh' tk e DQ he=>?_) (PySem.F.args_zip_next_1 _))))
 obtain⟨o,ho,hc⟩:=he;refine W2 (abR (T:="StopIteration") (b:=Λ) ⟨o,ho,hc⟩ ack ?_);exact Xe (hQ _ _ DQ)
def ZI(z TI TO i1 i2:Addr)(vh vi:Nat->Heap->Prop)(k:Nat)(h:Heap):Prop:=∃f0 f1 a b,ZF f0 f1/\yG h z TI TO f0 f1/\ZG h TI (.ref i1) (.ref i2)/\ZG h TO a b/\vh k h/\vi k h
theorem ZI.frame(ap:IP z TI TO i1 i2 o7 o8)(D1:Draws prog w A i1 o7 n1 P1 vh)(D2:Draws prog w A i2 o8 n2 P2 vi)(x:ZI z TI TO i1 i2 vh vi k h)(hk:∀b,(b=z\/b=TI\/b=TO\/b∈o7\/b∈o8)->∀o,h.get? b=Δ o->h'.get? b=Δ o):ZI z TI TO i1 i2 vh vi k h':=by obtain⟨f0,f1,a,b,c1,c2,c3,c4,c5,c6⟩:=x;exact⟨f0,f1,a,b,c1,hk _ (.inl rfl) _ c2,hk _ (.inr (.inl rfl)) _ c3,hk _ (.inr (.inr (.inl rfl))) _ c4,D1.frame _ _ _ c5 λb hb=>hk b (.inr (.inr (.inr (.inl hb)))),D2.frame _ _ _ c6 λb hb=>hk b (.inr (.inr (.inr (.inr hb))))⟩
noncomputable def ZP(B:Nat)(bad:List Addr)(P1 P2:Nat->Value->Prop)(acc:Array Value)(k:Nat)(h:Heap):Prop:=acc.size=k/\(∀j v,acc[j]?=Δ v->∃T x y,v=.ref T/\B<=T/\T∉bad/\ZG h T x y/\P1 j x/\P2 j y)/\∀(i j:Nat) (v:Value),acc[i]?=Δ v->acc[j]?=Δ v->i=j
theorem ZP.frame(x:ZP B bad P1 P2 acc k h)(hk:∀b o,b∉bad->h.get? b=Δ o->h'.get? b=Δ o):ZP B bad P1 P2 acc k h':=by refine⟨x.1,λj v hj=>?_,x.2.2⟩;obtain⟨T,a,b,e,c1,c2,c3,c4,c5⟩:=x.2.1 j v hj;exact⟨T,a,b,e,c1,c2,hk _ _ c2 c3,c4,c5⟩
theorem ZP.push(x:ZP B bad P1 P2 acc k h)(c1:B<=T)(c2:T∉bad)(c3:ZG h T a b)(c4:P1 k a)(c5:P2 k b)(c6:∀j:Nat,acc[j]?≠Δ (XC T)):ZP B bad P1 P2 (acc.push (.ref T)) (k+1) h:=by
 refine⟨by rw[Array.size_push,x.1],λj v hj=>?_,λi j v hi hj=>?_⟩
 ·rw[Array.getElem?_push] at hj;split at hj;·rename_i e;rw[x.1] at e;cases hj;exact⟨T,a,b,rfl,c1,c2,c3,by rw[e];exact c4,by rw[e];exact c5⟩
  ·exact x.2.1 j v hj
 ·rw[Array.getElem?_push] at hi hj;split at hi
  ·split at hj
   ·lia
   ·cases hi;exact absurd hj (c6 j)
  ·split at hj;·cases hj;exact absurd hi (c6 i)
   ·exact x.2.2 i j v hi hj
theorem BB(ap:IP z TI TO i1 i2 o7 o8)(D1:Draws prog w A.in1.in1 i1 o7 n1 P1 vh)(D2:Draws prog w A.in1.in1 i2 o8 n2 P2 vi)(hn:n1<=Xv)(xD:S≠z/\S≠TI/\S≠TO/\S∉o7/\S∉o8)(Qp:i1∈o7)(DR:i2∈o8):
  ∀(m k) (s) (acc) (c),min n1 n2 - k=m->k<=n1->k<=n2->B<=s.heap.objs.size->ZI z TI TO i1 i2 vh vi k s.heap->s.heap.get? S=Δ {cls:=.type "list",dict:=Θ,data:=.seq acc c,slots:=#[]}->
  ZP B [z,TO,i1,i2,S] P1 P2 acc k s.heap->
  (∀h' tk gP c',(∀b o,b∉[z,TO,i1,i2,S]->s.heap.get? b=Δ o->h'.get? b=Δ o)->h'.get? S=Δ {cls:=.type "list",dict:=Θ,data:=.seq gP c',slots:=#[]}->ZP B [z,TO,i1,i2,S] P1 P2 gP (min n1 n2) h'->
   R (.ok (.ret res)) {s with heap:=h',toks:=tk})->
  aa9 (model prog w) A (.builtin "list.extend.loop" ⟨[.ref S,.ref z,res],[]⟩) R s:=by
 have Qq:S≠i1:=λe=>xD.2.2.2.1 (e▸Qp);have Qr:S≠i2:=λe=>xD.2.2.2.2 (e▸DR);intro m;induction m with
 |zero=>
  intro k s acc c hm vk v5 hB K4 hS eX hR;refine codeAny_builtin PySem.F.entry_extend_loop ?_;rw[YF.under_plainId ZK _];show wpAny _ A.in1 (abN (.ref z) >>=_) _ _ s;obtain⟨f0,f1,a,b,c1,c2,c3,c4,c5,c6⟩:=K4;have UX:min n1 n2=k:=by lia
  refine W2 (qW D1 D2 ap c1 c2 c3 c4 (k:=k) (by lia) c5 c6 λh' tk hk=>Xe ?_);refine hR h' tk acc c (λb o hb e=>hk b o (λx=>hb (by simp[x])) (λx=>hb (by simp[x])) (λx=>hb (by simp[x])) (λx=>hb (by simp[x])) e) (hk _ _ xD.1 xD.2.2.1 Qq Qr hS) ?_;rw[UX];exact eX.frame λb o hb e=>hk b o (λx=>hb (by simp[x])) (λx=>hb (by simp[x])) (λx=>hb (by simp[x])) (λx=>hb (by simp[x])) e
 |succ m ih=>
  intro k s acc c hm vk v5 hB K4 hS eX hR;refine codeAny_builtin PySem.F.entry_extend_loop ?_;rw[YF.under_plainId ZK _];show wpAny _ A.in1 (abN (.ref z) >>=_) _ _ s;obtain⟨f0,f1,a,b,c1,c2,c3,c4,c5,c6⟩:=K4;refine W2 (qV D1 D2 ap c1 c2 c3 c4 (k:=k) (Xx (aae hm) (aaz ..)) (Xx (aae hm) (Z4 ..)) c5 c6 λh' tk T x y g0 g1 a' b' d1 d2 d3 d4 d5 px py hT hp hk=>?_);have kk:∀b o,b∉[z,TO,i1,i2,S]->s.heap.get? b=Δ o->h'.get? b=Δ o:=λb o hb e=>hk b o (λx=>hb (by simp[x])) (λx=>hb (by simp[x])) (λx=>hb (by simp[x])) (λx=>hb (by simp[x])) e;have OE:=hk _ _ xD.1 xD.2.2.1 Qq Qr hS;have UY:=hk _ _ ap.TIz ap.TITO ap.TIi1 ap.TIi2 c3;have lt:∀{b o},s.heap.get? b=Δ o->T≠b:=λe=>Yk (Xx (Xl e) hT);have Qs:T∉[z,TO,i1,i2,S]:=by obtain⟨o1,e1⟩:=D1.live _ _ c5;obtain⟨o2,e2⟩:=D2.live _ _ c6;simp only[Zy,Ze,or_false,not_or];exact⟨lt c2,lt c4,lt e1,lt e2,lt hS⟩
  show wpAny _ A.in1 (acK S (·.push (.ref T)) >>=_) _ _ _;refine W2 ?_;refine abf OE rfl (Xe ⟨plainId_quiet ZK _,ih (k+1) _ (acc.push (.ref T)) _ (by rw[Nat.sub_succ,hm];rfl) (Xx (aae hm) (aaz ..)) (Xx (aae hm) (Z4 ..)) ?_ ?_ (Za _ OE rfl) ?_ λh'' SI gP c' UZ U0 Qt=>?_⟩)
   (by rw[eX.1];lia) (by show(acc.push (XC T)).size<=Xv+1;rw[Array.size_push,eX.1];lia)
  ·show B<=(h'.update S _).objs.size;rw[aa7];exact XW hB (XW hT (aar (Xl hp)))
  ·refine ZI.frame ap D1 D2 ⟨g0,g1,a',b',d1,d2,UY,d3,d4,d5⟩ λb hb o e=>(Yr _ _ (λh:S=b=>?_)).trans e;subst h;rcases hb with h|h|h|h|h;·exact xD.1 h
   ·exact xD.2.1 h
   ·exact xD.2.2.1 h
   ·exact xD.2.2.2.1 h
   ·exact xD.2.2.2.2 h
  ·refine ZP.frame ((eX.frame kk).push (XW hB hT) Qs hp px py λj hj=>by obtain⟨T',_,_,e,_,_,c3',_⟩:=eX.2.1 j _ hj;cases e;exact lt c3' rfl) λb o hb e=>(Yr _ _ (λh:S=b=>hb (by simp[h]))).trans e
  ·refine hR h'' SI gP c' (λb o hb e=>UZ b o hb ((Yr _ _ (λh:S=b=>hb (by simp[h]))).trans (kk b o hb e))) U0 Qt
theorem BC:acT (.type "zip") "__len__"=pure Θ:=by rw[typeLookup_type,builtinLookup_eq_fast];kernel_rfl
theorem zk:acT (.type "zip") "__length_hint__"=pure Θ:=by rw[typeLookup_type,builtinLookup_eq_fast];kernel_rfl
theorem sQ(ap:IP z TI TO i1 i2 o7 o8)(D1:Draws prog w A.in1.in1 i1 o7 n1 P1 vh)(D2:Draws prog w A.in1.in1 i2 o8 n2 P2 vi)(hn:n1<=Xv)(xD:S≠z/\S≠TI/\S≠TO/\S∉o7/\S∉o8)(Qp:i1∈o7)(DR:i2∈o8)(hB:B<=s.heap.objs.size)(K4:ZI z TI TO i1 i2 vh vi 0 s.heap)(hS:s.heap.get? S=Δ {cls:=.type "list",data:=.seq #[] c₀})(hR:∀h' tk gP c',(∀b o,b∉[z,TO,i1,i2,S]->s.heap.get? b=Δ o->h'.get? b=Δ o)->h'.get? S=Δ {cls:=.type "list",dict:=Θ,data:=.seq gP c',slots:=#[]}->ZP B [z,TO,i1,i2,S] P1 P2 gP (min n1 n2) h'->
   R (.ok (.ret res)) {s with heap:=h',toks:=tk}):
  wpAny (model prog w) A.in1 (Zv (.ref S) (.ref z) res)
   (λfin s'=>match fin with|.done f=>R (.ok f) s'|.again c'=>c'.quiet=Λ/\aa9 (model prog w) A c' R s') (λe s'=>R (.error e) s') s:=by
 obtain⟨f0,f1,a,b,c1,c2,c3,c4,c5,c6⟩:=id K4;have hT:s.TypeIs (.ref z) "zip":=⟨_,c2,rfl⟩;unfold Zv;refine W2 (abl hT ?_);have h1:aba.List.listSameRef (.ref S) (.ref z)=Ξ:=by simp[aba.List.listSameRef,xD.1]
 have h2:(Z7 "zip"==Z7 "list")=Ξ:=by decide
 have h3:(Z7 "zip"==Z7 "tuple")=Ξ:=by decide
 simp only[h1,h2,h3,Bool.or_false,XR,if_false];refine W2 (wpAny_pyIter_slot hT PySem.F.slot_zip_iter (Yv PySem.F.slot_zip_iter hT PySem.F.entry_zip_iter ?_ (PySem.F.args_zip_iter_1 _)));show wpAny _ _ (ret (.ref z)) _ _ s;refine Xe ⟨_,rfl,"zip",_,hT,aad.lookup,?_⟩;refine W2 (Zw ?_);unfold aba.List.listLengthHint;refine W2 (acd hT BC ?_);show wpAny _ A.in1 (specialOf (XC z) (XY "__length_hint__") >>=_) _ _ _;refine W2 (acd hT zk ?_);refine Xe ?_;show wpAny _ A.in1 (rule "list.extend.makes-room" >>=λ_=>aba.List.listTouch (.ref S) >>=λ_=>again (.builtin "list.extend.loop" ⟨[.ref S,.ref z,res],[]⟩)) _ _ _;refine W2 (aa0 ?_);refine W2 ?_;show wpAny _ A.in1 (acK S (·.push .none) >>=λ_=>acK S (·.pop)) _ _ _;refine W2 (abf hS rfl ?_);have Cz:=Za (ZW (·.push Zd)) hS rfl;refine abf (hz:=by seq_fits) Cz rfl ?_;have Qu:=Za (ZW (·.pop)) Cz rfl;have IQ:∀b o,b≠S->s.heap.get? b=Δ o->((s.heap.update S (ZW (·.push Zd))).update S (ZW (·.pop))).get? b=Δ o:=
  λb o hb e=>(Yr _ _ (Yc hb)).trans ((Yr _ _ (Yc hb)).trans e)
 refine Xe ⟨plainId_quiet ZK _,BB ap D1 D2 (B:=B) hn xD Qp DR _ 0 _ _ _ rfl (Yj _) (Yj _) ?_ (ZI.frame ap D1 D2 K4 λb hb o e=>IQ b o (λh=>?_) e) Qu ⟨rfl,(λj v hj=>by simp at hj),(λi j v hi _=>by simp at hi)⟩ λh' tk gP c' hk OE eX=>?_⟩;·show B<=((s.heap.update S _).update S _).objs.size;rw[aa7,aa7];exact hB
 ·subst h;rcases hb with h|h|h|h|h;·exact xD.1 h
  ·exact xD.2.1 h
  ·exact xD.2.2.1 h
  ·exact xD.2.2.2.1 h
  ·exact xD.2.2.2.2 h
 ·exact hR h' tk gP c' (λb o hb e=>hk b o hb (IQ b o (λh=>hb (by simp[h])) e)) OE eX
theorem vm(ap:IP z TI TO i1 i2 o7 o8)(D1:Draws prog w A.in1.in1.in1 i1 o7 n1 P1 vh)(D2:Draws prog w A.in1.in1.in1 i2 o8 n2 P2 vi)(hn:n1<=Xv)(fm:z < s.heap.objs.size/\TI < s.heap.objs.size/\TO < s.heap.objs.size/\(∀b∈o7,b < s.heap.objs.size)/\∀b∈o8,b < s.heap.objs.size)(Qp:i1∈o7)(DR:i2∈o8)(hB:B<=s.heap.objs.size)(K4:ZI z TI TO i1 i2 vh vi 0 s.heap)(hQ:∀h' tk gP c',(∀b o,b∉[z,TO,i1,i2]->s.heap.get? b=Δ o->h'.get? b=Δ o)->h'.get? s.heap.objs.size=Δ {cls:=.type "list",dict:=Θ,data:=.seq gP c',slots:=#[]}->ZP B [z,TO,i1,i2,s.heap.objs.size] P1 P2 gP (min n1 n2) h'->
   Q (.ref s.heap.objs.size) {s with heap:=h',toks:=tk}):
  wpAny (model prog w) A (call (.type "list") [.ref z]) Q E s:=by
 refine callType_codes (Q₁:=λobj bA=>obj=.ref s.heap.objs.size/\bA={s with heap:=s.heap.push {cls:=.type "list",data:=.seq #[]}}) PySem.F.called_list (PySem.F.typeCall_list_1 _) PySem.F.entry_list_init
  (code_list_new _ ⟨rfl,rfl⟩) λobj bA dA=>?_
 obtain⟨rfl,rfl⟩:=dA;have hS:(s.heap.push {cls:=.type "list",data:=.seq #[]}).get? s.heap.objs.size=Δ {cls:=.type "list",data:=.seq #[]}:=Xj _ rfl;refine⟨⟨_,hS,rfl⟩,PySem.F.args_list_init_2 _ _,?_⟩;show wpAny _ A.in1.in1 (do let old<-aba.List.listItems (.ref s.heap.objs.size);aba.List.listUpdate (.ref s.heap.objs.size) (λ_=>#[]);letGo old.toList.reverse;Zv (.ref s.heap.objs.size) (.ref z) .none) _ _ _;refine W2 ?_;unfold aba.List.listItems;refine W2 (Zi hS rfl (Xe ?_));show wpAny _ _ (acK s.heap.objs.size (λ_=>#[]) >>=λ_=>letGo (#[]:Array Value).toList.reverse >>=λ_=>Zv (.ref s.heap.objs.size) (.ref z) .none) _ _ _;refine W2 (abf hS rfl ?_);have Cz:=Za (ZW (λ_=>(#[]:Array Value))) hS rfl;have IQ:∀b o,s.heap.get? b=Δ o->((s.heap.push {cls:=.type "list",data:=.seq #[]}).update s.heap.objs.size (ZW (λ_=>(#[]:Array Value)))).get? b=Δ o:=
  λb o e=>(Yr _ _ (Yk (Xl e))).trans (W4 _ e)
 refine W2 (abA ?_);refine sQ ap D1 D2 (B:=B) hn ⟨Yk fm.1,Yk fm.2.1,Yk fm.2.2.1,λh=>YX _ (fm.2.2.2.1 _ h),λh=>YX _ (fm.2.2.2.2 _ h)⟩ Qp DR ?_ (ZI.frame ap D1 D2 K4 λb _ o e=>IQ b o e) Cz λh' tk gP c' hk OE eX=>?_
 ·show B<=((s.heap.push _).update _ _).objs.size;rw[aa7,YA]
  lia
 ·refine⟨rfl,hQ h' tk gP c' (λb o hb e=>hk b o ?_ (IQ b o e)) OE eX⟩;intro hm;simp only[Zy,Ze,or_false] at hm hb;rcases hm with h|h|h|h|h;·exact hb (.inl h)
  ·exact hb (.inr (.inl h))
  ·exact hb (.inr (.inr (.inl h)))
  ·exact hb (.inr (.inr (.inr h)))
  ·exact absurd (Xl e) (by rw[h];exact YX _)
abbrev SJ(h:Heap)(l1:Addr):Heap:=h.push {cls:=.type "tuple_iterator",data:=.fields #[.ref l1,.int 0 0]}
abbrev SK(h:Heap)(l1 l2:Addr):Heap:=(SJ h l1).push {cls:=.type "tuple_iterator",data:=.fields #[.ref l2,.int 0 0]}
abbrev SN(h:Heap)(l1 l2:Addr):Heap:=(SK h l1 l2).push {cls:=.type "tuple",data:=.seq #[.ref h.objs.size,.ref (SJ h l1).objs.size]}
abbrev SO(h:Heap)(l1 l2:Addr):Heap:=(SN h l1 l2).push {cls:=.type "tuple",data:=.seq #[.none,.none]}
abbrev Mr(h:Heap)(l1 l2:Addr):Heap:=(SO h l1 l2).push {cls:=.type "zip",data:=.fields #[.none,.bool Ξ,.bool Ξ,.ref (SK h l1 l2).objs.size,.ref (SN h l1 l2).objs.size]}
theorem sR l1 l2 xs ys:
  Meets (aba.«zip.__new__» ⟨[.type "zip",.ref l1,.ref l2],[]⟩) (λ_ R s=>s.heap.IsTuple l1 xs/\s.heap.IsTuple l2 ys/\
   R (.ok (.ret (.ref (SO s.heap l1 l2).objs.size))) {s with heap:=Mr s.heap l1 l2}):=
 .of_wp λprog w A R s h=>by
  obtain⟨hp,g,d,tk,os⟩:=s;obtain⟨U1,rP,h⟩:=h;have Ms:=sub_zip;have hL1:acH (acP ⟨hp,g,d,tk,os⟩) l1 xs:=U1;have hL2:acH (acP ⟨hp.push {cls:=.type "tuple_iterator",data:=.fields #[.ref l1,.int 0 0]},g,d,tk,os⟩) l2 ys:=acH.push rP _
  wp_walk using ZC hL1,ZC hL2
  exact⟨_,rfl,h⟩
theorem BD(U1:s.heap.IsTuple l1 xs)(rP:s.heap.IsTuple l2 ys)(h:∀h',yG h' (s.heap.objs.size+4) (s.heap.objs.size+2) (s.heap.objs.size+3) .none (.bool Ξ)->ZG h' (s.heap.objs.size+2) (.ref s.heap.objs.size) (.ref (s.heap.objs.size+1))->
   ZG h' (s.heap.objs.size+3) .none .none->h'.IsTupleIter s.heap.objs.size l1 0->h'.IsTupleIter (s.heap.objs.size+1) l2 0->h'.objs.size=s.heap.objs.size+5->
   (∀c o,s.heap.get? c=Δ o->h'.get? c=Δ o)->Q (.ref (s.heap.objs.size+4)) {s with heap:=h'}):
  wpAny (model prog w) A (call (.type "zip") [.ref l1,.ref l2]) Q E s:=by
 refine callType_new PySem.F.called_zip (by decide) (PySem.F.typeCall_zip_2 _ _) (PySem.F.newCall_zip_2 _ _) (λobj=>PySem.F.args_object_init_3 obj _ _) PySem.F.entry_zip_new
  (sR l1 l2 xs ys) ⟨U1,rP,?_⟩
 have z1:(SJ s.heap l1).objs.size=s.heap.objs.size+1:=YA ..;have z2:(SK s.heap l1 l2).objs.size=s.heap.objs.size+2:=by rw[YA,z1]
 have z3:(SN s.heap l1 l2).objs.size=s.heap.objs.size+3:=by rw[YA,z2]
 have z4:(SO s.heap l1 l2).objs.size=s.heap.objs.size+4:=by rw[YA,z3]
 have z5:(Mr s.heap l1 l2).objs.size=s.heap.objs.size+5:=by rw[YA,z4]
 have g5:(Mr s.heap l1 l2).get? (SO s.heap l1 l2).objs.size=Δ _:=Xj _ rfl;have g4:(Mr s.heap l1 l2).get? (SN s.heap l1 l2).objs.size=Δ _:=W4 _ (Xj _ rfl);have g3:(Mr s.heap l1 l2).get? (SK s.heap l1 l2).objs.size=Δ _:=W4 _ (W4 _ (Xj _ rfl));have g2:(Mr s.heap l1 l2).get? (SJ s.heap l1).objs.size=Δ _:=W4 _ (W4 _ (W4 _ (Xj _ rfl)));have g1:(Mr s.heap l1 l2).get? s.heap.objs.size=Δ _:=W4 _ (W4 _ (W4 _ (W4 _ (Xj _ rfl))));show _/\_;rw[z2,z3,z4] at g5;rw[z1,z2] at g3;rw[z3] at g4;rw[z1] at g2;rw[z4];exact⟨⟨_,g5,rfl⟩,h _ g5 g3 g4 ⟨_,g1,rfl,rfl⟩ ⟨_,g2,rfl,rfl⟩ z5 λc o x=>W4 _ (W4 _ (W4 _ (W4 _ (W4 _ x))))⟩
theorem Inv.U2(I:Inv X η σ H s)(k:∀b u,s.heap.get? b=Δ u->h'.get? b=Δ u)(hs:jj H H')(DM:∀b o,H' b=Δ o->H b=Δ o\/(s.heap.objs.size<=b/\bI X.prog X.w H' h' b o)):Inv X η σ H' {s with heap:=h',toks:=t'}:=by
 refine I.un ⟨λb u q _ _ _=>k b u q,λb u q _ _ _=>⟨u.slots,k b u q⟩,λb u q n _=>?_,λb u q _=>⟨u,k b u q⟩,λb xs q=>hs _ _ q,λb u xs q=>hs _ _ q,λb ps q=>⟨#[],by rw[hs _ _ q];simp⟩⟩ λb o e=>?_
 ·cases e:H' b with
  |none=>rfl|some o=>
   rcases DM b o e with z|⟨z,_⟩;·rw[n] at z;cases z
   ·exact absurd (Xl q) (Nat.not_lt.mpr z)
 ·rcases DM b o e with z|⟨_,z⟩;·exact(I.aL b o z).ng (λc v _ q=>k c v q) (λc q=>hs _ _ q) λc xs q=>hs _ _ q
  ·exact z
noncomputable def Mt(H:Hp)(us ws ts:List V):Prop:=ts.length=min us.length ws.length/\∀(j:Nat) t,ts[j]?=Δ t->∃T u w,t=.ref T/\H T=Δ (.tup [u,w])/\us[j]?=Δ u/\ws[j]?=Δ w
def FJ:Value->V
 |.ref a=>.ref a|_=>.bu
theorem v7:∀{l},(∀v∈l,∃T,v=XC T)->aS (l.map FJ) l
 |[],_=>.nil|v::l,h=>by obtain⟨T,rfl⟩:=h v W8;exact .cons rfl (v7 λv hv=>h v (W5 _ hv))
theorem U3(h:a=c)(k:b=d):(Δ (HO.tup [a,b]):Option HO)=Δ (HO.tup [c,d]):=by rw[h,k]
theorem IS(N a b:Nat)(la:a < N)(lb:b < N):IP (N+4) (N+2) (N+3) N (N+1) [N,a] [N+1,b]:=by
 have e2:∀{x y z:Nat},x≠y->x≠z->x∉[y,z]:=λh1 h2 h=>by
  rcases Zy.mp h with h|h;·exact h1 h
  ·exact h2 (by simpa using h)
 have ne:∀{x y:Nat},x < y\/y < x->x≠y:=λh=>by lia
 exact⟨ne (by lia),ne (by lia),ne (by lia),ne (by lia),ne (by lia),ne (by lia),ne (by lia),ne (by lia),ne (by lia),ne (by lia),e2 (by lia) (by lia),e2 (by lia) (by lia),e2 (by lia) (by lia),e2 (by lia) (by lia),e2 (by lia) (by lia),e2 (by lia) (by lia)⟩
theorem FK(la:a < N)(hc:c∈[N+k,a])(hk:k < 5):c < N+5:=by simp at hc;rcases hc with rfl|rfl<;>lia
open Classical in
theorem zl(hc:X.calm=Λ)(hgL:Gl X "list")(hmL:X.mg "list"=Θ)(hgZ:Gl X "zip")(hmZ:X.mg "zip"=Θ)(ha:PA X [x1,x2] t)(he:XG [x1,x2] X.env=(Ξ,eval x1 X.env)::XG [x2] X.env)(yD:(Zk pos (XG [x2] X.env)).any (·.1)=Ξ):
  PE X (.Call (.Name "list" p2) [.Call (.Name "zip" p) [x1,x2] [] pos] [] IT) (λσ H Q=>t σ H λvs H1=>∃a b us ws,vs=[.ref a,.ref b]/\eY X.K H1 a us/\eY X.K H1 b ws/\
   ∀l H' ts,jj H1 H'->H1 l=Θ->H' l=Δ (.lst ts)->Mt H' us ws ts->Q (.ref l) H'):=by
 intro η s σ H Q I h;refine Yx (jG I hgL hmL acr ?_ (by decide+kernel) (by decide+kernel));refine Yh ?_ rfl rfl;show wpAny _ _ (spliced [(Ξ,eval (.Call (.Name "zip" p) [x1,x2] [] pos) X.env)]) _ _ s;refine aab ?_;refine Yx (jG I hgZ hmZ PyProof.Rows.boot_zip ?_ (by decide+kernel) (by decide+kernel));refine Yh (bR (ha pos η s σ H _ I h) λus s1 ⟨vs,H1,I1,r1,q1⟩=>?_) he yD;obtain⟨a,b,ua,ub,rfl,ta,tb,q⟩:=q1;obtain⟨va,vb,rfl,ra,rb⟩:=vals2 r1;cases ra;cases rb;obtain⟨ia,U4,pa,za⟩:=I1.tuple ta;obtain⟨ib,rvb,pb,zb⟩:=I1.tuple tb;have U5:s1.heap.IsTuple a ia.toArray:=pa;have U6:s1.heap.IsTuple b ib.toArray:=pb;obtain⟨N,hN⟩:∃N:Nat,N=s1.heap.objs.size:=⟨_,rfl⟩;have la:(a:Nat) < s1.heap.objs.size:=by obtain⟨o,e,_⟩:=U5;exact Xl e
 have lb:(b:Nat) < s1.heap.objs.size:=by obtain⟨o,e,_⟩:=U6;exact Xl e
 refine BD U5 U6 λh2 g1 g2 g3 g4 g5 hsz hk=>?_;refine aaU ?_;have hh:X.A.in1.in1.in1.handled=Θ:=I1.ok.hd hc;have IU:({s1 with heap:=h2}:Xp).heap.objs.size=s1.heap.objs.size+5:=hsz;have up:∀{c:Addr} {items:Array Value},s1.heap.IsTuple c items->h2.IsTuple c items:=λ{c items} x=>let ⟨o,e,r⟩:=x;⟨o,hk _ _ e,r⟩
 have ap:=IS s1.heap.objs.size a b la lb;have SQ:∀k:Nat,k < 5->s1.heap.objs.size+k < ({s1 with heap:=h2}:Xp).heap.objs.size:=λk hk=>by rw[IU];exact Nat.add_lt_add_left hk _
 refine vm (s:={s1 with heap:=h2}) ap (kI hh s1.heap.objs.size a (XD la) ia.toArray) (kI hh (s1.heap.objs.size+1) b (XD (Nat.lt_succ_of_lt lb)) ib.toArray) (B:=s1.heap.objs.size) (by rw[Xh,<-U4.length];exact za)
  ⟨SQ 4 (by decide),SQ 2 (by decide),SQ 3 (by decide),λc hc=>?_,λc hc=>?_⟩ (by simp) (by simp) (aar (SQ 0 (by decide))) ⟨.none,.bool Ξ,.none,.none,⟨.inl rfl,Ξ,rfl⟩,g1,g2,g3,⟨g4,up U5⟩,⟨g5,up U6⟩⟩ λh' tk acc c' P5 hS eX=>?_
 ·rw[IU];exact FK (k:=0) la hc (by decide)
 ·rw[IU];exact FK (k:=1) lb hc (by decide)
 rw[IU] at hS eX ⊢;obtain⟨a1,a2,a3⟩:=eX;have n5:∀b o,s1.heap.get? b=Δ o->h'.get? b=Δ o:=λb o e=>by
  have hb:(b:Nat) < s1.heap.objs.size:=Xl e;refine P5 b o (λhm=>?_) (hk b o e);simp only[Zy,Ze,or_false] at hm;have:(b:Nat)>=s1.heap.objs.size:=by
   rcases hm with h|h|h|h;·exact h▸ZA _ _
   ·exact h▸ZA _ _
   ·exact h▸Xd _
   ·exact h▸ZA _ _
  exact absurd hb (Nat.not_lt.mpr this)
 have hrefs:∀v∈acc.toList,∃T,v=XC T:=λv hv=>by obtain⟨j,hj,e⟩:=List.mem_iff_getElem.mp hv;obtain⟨T,_,_,e',_⟩:=a2 j v (by rw[<-aaZ,W6 hj,e]);exact⟨T,e'⟩
 have hV:=v7 hrefs
 let H2:Hp:=λc=>if c=s1.heap.objs.size+5 then Δ (.lst (acc.toList.map FJ)) else
  if hj:∃(j:Nat) (u w':V),acc[j]?=Δ (XC c)/\ua[j]?=Δ u/\ub[j]?=Δ w' then Δ (.tup [hj.choose_spec.choose,hj.choose_spec.choose_spec.choose]) else H1 c
 have fr:∀c,s1.heap.objs.size<=c->H1 c=Θ:=λc hc=>I1.aL.fresh hc;have U7:∀(j:Nat) T,acc[j]?=Δ (XC T)->T≠s1.heap.objs.size+5:=λj T e z=>by obtain⟨T',_,_,e',_,hb,_⟩:=a2 j _ e;cases e';exact hb (by rw[z];simp)
 have U8:∀(j:Nat) T,acc[j]?=Δ (XC T)->s1.heap.objs.size<=T:=λj T e=>by obtain⟨T',_,_,e',h1,_⟩:=a2 j _ e;cases e';exact h1
 have atT:∀(j:Nat) T u w',acc[j]?=Δ (XC T)->ua[j]?=Δ u->ub[j]?=Δ w'->H2 T=Δ (.tup [u,w']):=λj T u w' e1 e2 e3=>by have hj:∃(j:Nat) (u w':V),acc[j]?=Δ (XC T)/\ua[j]?=Δ u/\ub[j]?=Δ w':=⟨j,u,w',e1,e2,e3⟩;show(if T=s1.heap.objs.size+5 then _ else if hj:_ then _ else _)=_;rw[if_neg (U7 j T e1),dif_pos hj];obtain⟨c1,c2,c3⟩:=hj.choose_spec.choose_spec.choose_spec;have ej:=a3 _ _ _ c1 e1;have q1:=XJ (c2.symm.trans (show ua[hj.choose]?=Δ u by rw[ej];exact e2));have q2:=XJ (c3.symm.trans (show ub[hj.choose]?=Δ w' by rw[ej];exact e3));exact U3 q1 q2
 have hS2:H2 (s1.heap.objs.size+5)=Δ (.lst (acc.toList.map FJ)):=if_pos rfl;have sm:jj H1 H2:=λc o e=>by
  show(if c=s1.heap.objs.size+5 then _ else if hj:_ then _ else _)=_;rw[if_neg,dif_neg];·exact e
  ·rintro⟨j,u,w',e1,_⟩;rw[fr c (U8 j c e1)] at e;cases e
  ·rintro rfl;rw[fr _ (ZA _ _)] at e;cases e
 have hlen:acc.toList.length=min ua.length ub.length:=by rw[Y5,a1,Xh,Xh,<-U4.length,<-rvb.length]
 have I2:Inv X η σ H2 {s1 with heap:=h',toks:=tk}:=by
  refine I1.U2 n5 sm λc o e=>?_;have e':(if c=s1.heap.objs.size+5 then Δ (HO.lst (acc.toList.map FJ)) else
   if hj:∃(j:Nat) (u w':V),acc[j]?=Δ (XC c)/\ua[j]?=Δ u/\ub[j]?=Δ w' then Δ (.tup [hj.choose_spec.choose,hj.choose_spec.choose_spec.choose]) else H1 c)=Δ o:=e
  split at e';·rename_i hc;cases e';refine .inr ⟨by rw[hc];exact ZA _ _,?_⟩;rw[hc];refine⟨?_,acc.toList,c',hV,by simpa using hS⟩;rw[Xc,hlen];exact XW (aaz _ _) za
  ·split at e'
   ·rename_i hj;cases e';obtain⟨c1,c2,c3⟩:=hj.choose_spec.choose_spec.choose_spec;obtain⟨T,x,y,eT,b1,b2,b3,b4,b5⟩:=a2 _ _ c1;cases eT;refine .inr ⟨b1,?_,[x,y],?_,⟨_,b3,rfl,_,rfl⟩⟩;·rw[YJ];simp
    ·obtain⟨x',ex,rx⟩:=U4.get c2;obtain⟨y',ey,ry⟩:=rvb.get c3;have e1:ia[hj.choose]?=Δ x:=by simpa using b4
     have e2:ib[hj.choose]?=Δ y:=by simpa using b5
     rw[ex] at e1;rw[ey] at e2;cases e1;cases e2;exact .cons rx (.cons ry .nil)
   ·exact .inl e'
 refine⟨.ref (s1.heap.objs.size+5),H2,I2,rfl,q _ H2 _ sm (fr _ (ZA _ _)) hS2 ⟨by rw[Xc,hlen],λj t ht=>?_⟩⟩;rw[Xg] at ht;obtain⟨v,hv,rfl⟩:∃v,acc.toList[j]?=Δ v/\FJ v=t:=by cases hq:acc.toList[j]? with|none=>rw[hq] at ht;cases ht|some v=>rw[hq] at ht;exact⟨v,rfl,by simpa using ht⟩
 have SR:j < min ua.length ub.length:=by rw[<-hlen];exact(qqz hv).1
 have Su:acc[j]?=Δ v:=by rw[<-aaZ];exact hv
 obtain⟨T,x,y,rfl,_⟩:=a2 j v Su;have l1:j < ua.length:=Xx SR (aaz _ _);have l2:j < ub.length:=Xx SR (Z4 _ _);exact⟨T,ua[j],ub[j],rfl,atT j T _ _ Su (W6 l1) (W6 l2),W6 l1,W6 l2⟩
end
theorem kJ l items o(ht:o.cls=.type "tuple")n(hd:o.data=.seq items n):
  Meets (aba.«enumerate.__new__» ⟨[.type "enumerate",.ref l],[]⟩) (λ_ R s=>s.heap.get? l=Δ o/\
   R (.ok (.ret (.ref (s.heap.push {cls:=.type "tuple_iterator",data:=.fields #[.ref l,.int 0 0]}).objs.size)))
    {s with heap:=(s.heap.push {cls:=.type "tuple_iterator",data:=.fields #[.ref l,.int 0 0]}).push {cls:=.type "enumerate",data:=.fields #[.none,.bool Ξ,.ref s.heap.objs.size,Zj 0,.none,.none]}}):=
 .of_wp λprog w A R s h=>by
  obtain⟨hp,g,d,tk,os⟩:=s;obtain⟨hl,h⟩:=h;have Ms:=sub_enumerate;have hL:acH (acP ⟨hp,g,d,tk,os⟩) l items:=⟨_,hl,ht,n,hd⟩
  wp_walk using YN hl
  refine wpAny_stack_any λst=>Xe ?_;split
  ·rename_i c _ _ _ _ _;cases (c==Z7 "enumerate")
   ·wp_walk using YN hl,ZC hL
    exact⟨_,rfl,h⟩
   ·wp_walk using YN hl,ZC hL
    exact⟨_,rfl,h⟩
  ·wp_walk using YN hl,ZC hL
   exact⟨_,rfl,h⟩
section
variable{prog:Yb}{w:World}{A:YF}{E:Value->Xp->Prop}{s:Xp}
theorem o9(hl:s.heap.IsTuple l items)(h:∀h',IsEnum h' (s.heap.objs.size+1) s.heap.objs.size 0 .none->h'.IsTupleIter s.heap.objs.size l 0->h'.objs.size=s.heap.objs.size+2->
   (∀b o,s.heap.get? b=Δ o->h'.get? b=Δ o)->Q (.ref (s.heap.objs.size+1)) {s with heap:=h'}):
  wpAny (model prog w) A (call (.type "enumerate") [.ref l]) Q E s:=by
 obtain⟨o,ho,hc,n,hd⟩:=hl;refine callType_new PySem.F.called_enumerate (by decide) (PySem.F.typeCall_enumerate_1 _) (PySem.F.newCall_enumerate_1 _) (λobj=>PySem.F.args_object_init_2 obj _) PySem.F.entry_enumerate_new
  (kJ l items o hc n hd) ⟨ho,?_⟩
 have hz:(s.heap.push {cls:=.type "tuple_iterator",data:=.fields #[.ref l,.int 0 0]}).objs.size=s.heap.objs.size+1:=YA ..;show _/\_;rw[hz];have he:IsEnum ((s.heap.push {cls:=.type "tuple_iterator",data:=.fields #[.ref l,.int 0 0]}).push
   {cls:=.type "enumerate",data:=.fields #[.none,.bool Ξ,.ref s.heap.objs.size,Zj 0,.none,.none]}) (s.heap.objs.size+1) s.heap.objs.size 0 .none:=by
  have:=Xj (s.heap.push {cls:=.type "tuple_iterator",data:=.fields #[.ref l,.int 0 0]})
   (o:={cls:=.type "enumerate",data:=.fields #[.none,.bool Ξ,.ref s.heap.objs.size,Zj 0,.none,.none]}) rfl
  rw[hz] at this;exact this
 refine⟨⟨_,he,rfl⟩,h _ he ⟨_,W4 _ (Xj _ rfl),rfl,rfl⟩ (by rw[YA,hz]) λb o x=>W4 _ (W4 _ x)⟩
end
def U9(K:Xf)(a:Addr):It:=
 ⟨λi H=>∃xs x,eY K H a xs/\xs[i]?=Δ x,λi H x H'=>∃T v,H T=Θ/\H'=upd H T (.tup [.int i,v])/\x=.ref T/\∀xs,eY K H a xs->xs[i]?=Δ v,λi H=>∃xs,eY K H a xs/\xs.length<=i⟩
theorem BE{P:Yb}{w:World}{K:Xf}{elts:List Expr}{kk:Nat}{pos:Pos}(a it e:Addr)(OF:e≠it):Turn P w K (.Tuple elts kk pos) (U9 K a) [e,it] e (λi h=>(∃old,IsEnum h e it i old)/\h.IsTupleIter it a i) where
 mem:=by simp
 obj:=λi h st b hb=>by
  obtain⟨⟨old,he⟩,o,eo,c,d⟩:=st;have iM:b=e\/b=it:=by simpa using hb
  rcases iM with z|z;·rw[z];exact⟨_,he,λv z=>nomatch z⟩
  ·rw[z];exact⟨o,eo,λv z=>by rw[d] at z;cases z⟩
 keep:=λi h h' st k=>⟨let ⟨old,he⟩:=st.1;⟨old,k e (by simp) _ he⟩,st.2.at λo x=>k it (by simp) o x⟩
 item:=by
  intro X hP hw hK hc i η s σ H E I hf st hg;subst hP hw hK;obtain⟨xs,x,hq,hx⟩:=hg;obtain⟨its,rv,p,hz⟩:=I.tuple hq;have p':s.heap.IsTuple a its.toArray:=p;obtain⟨u,hu,ru⟩:=rv.get hx;obtain⟨f0,f1,f2,f3,f4,f5⟩:=hf it (by simp);obtain⟨g0,g1,g2,g3,g4,g5⟩:=hf e (by simp);obtain⟨⟨old,he⟩,hit⟩:=st;have hai:a≠it:=λz=>by obtain⟨o1,e1,c1,_⟩:=p';obtain⟨o2,e2,c2,_⟩:=id hit;rw[z,e2] at e1;cases e1;rw[c1] at c2;simp at c2
  have hae:a≠e:=λz=>by obtain⟨o1,e1,c1,_⟩:=p';rw[z,he] at e1;cases e1;simp at c1
  have fm:i < its.toArray.size:=by have:=(qqz hu).1;simpa using this
  refine wpAny_pyNext_enum_itemD (kI (A:=X.A.in1) (I.ok.hd hc) it a hai its.toArray) he ⟨hit,p'⟩ fm OF (by simp[OF,Yc hae]) λx1 h' tk px ho sM hT hsz hk=>?_;have ex1:x1=u:=by
   have:its[i]?=Δ x1:=by simpa using px
   rw[hu] at this;cases this;rfl
  subst ex1;refine⟨_,rfl,?_⟩;refine wpAny_letOwnedTupleGo_enum ho λh2 K5 HG=>?_;have Qv:s.heap.objs.size≠e:=Yk (Xl he);have OG:s.heap.objs.size≠it:=by obtain⟨o,eo,_⟩:=hit;exact Yk (Xl eo)
  have zo:∀b o,b≠e->b≠it->s.heap.get? b=Δ o->h2.get? b=Δ o:=λb o h1 h3 q=>HG.extBut b o h1 (hk b o h1 h3 q);have hn:H s.heap.objs.size=Θ:=I.aL.fresh (Xd _);have ET:∀b v,H b=Δ v->b≠e/\b≠it:=λb v q=>⟨(λz=>by rw[z,g0] at q;cases q),(λz=>by rw[z,f0] at q;cases q)⟩;have Qw:h2.get? s.heap.objs.size=Δ {cls:=.type "tuple",data:=.seq #[.int i tk,x1]}:=HG.extBut _ _ Qv hT;have I1:Inv X η σ (upd H s.heap.objs.size (.tup [.int i,x])) {s with heap:=h2,toks:=tk+1}:=by
   refine I.step (g':=s.gens) (d':=s.drawn) (ch:=[e,it]) (λb hb=>?_) (λb o _ _ hc q _=>zo b o (λz=>hc (by simp[z])) (λz=>hc (by simp[z])) q) (λb o _ _ hc q _=>⟨o.slots,zo b o (λz=>hc (by simp[z])) (λz=>hc (by simp[z])) q⟩)
    (λb o _ q n=>by rw[ax (XD (Xl q))];exact n) (λb o hc q=>⟨o,zo b o (λz=>hc (by simp[z])) (λz=>hc (by simp[z])) q⟩) (λb xs q=>by rw[ax (aO q hn)];exact q) (λb o v q=>by rw[ax (aO q hn)];exact q)
    (λb ps q=>⟨#[],by rw[ax (aO q hn),q];simp⟩) (λm hm=>?_) (λb v q=>?_) I.bare
   ·have iM:b=e\/b=it:=by simpa using hb
    rcases iM with z|z;·rw[z];exact⟨g3,g1,g4,g5⟩
    ·rw[z];exact⟨f3,f1,f4,f5⟩
   ·obtain⟨o,es,ep,oR,r⟩:=hm;exact⟨o,es,ep,zo _ o (Yc g1) (Yc f1) oR,r⟩
   ·by_cases hb:b=s.heap.objs.size;·rw[hb,aD] at q;cases q;rw[hb];exact⟨by rw[YJ];simp,[.int i tk,x1],.cons ⟨tk,rfl⟩ (.cons ru .nil),⟨_,Qw,rfl,_,rfl⟩⟩
    ·rw[ax hb] at q;refine(I.aL b v q).ng (λc y hc qq=>?_) (λc qq=>by rw[ax (aO qq hn)];exact qq) λc xs qq=>by rw[ax (aO qq hn)];exact qq
     have:c≠e/\c≠it:=by
      rcases hc with z|z;·rw[z];exact ET b v q
      ·exact ET c _ z
     exact zo c y this.1 this.2 qq
  refine⟨.ref s.heap.objs.size,_,I1,rfl,⟨s.heap.objs.size,x,hn,rfl,rfl,λys hy=>by rw[I.vQ hy hq];exact hx⟩,⟨⟨x1,by simpa using K5⟩,sM.1.at λo q=>HG.extBut _ _ (Yc OF) q⟩,λb hb=>?_⟩;have iM:b=e\/b=it:=by simpa using hb
  rcases iM with z|z;·rw[z,ax (Yc Qv)];exact g0
  ·rw[z,ax (Yc OG)];exact f0
 done:=by
  intro X hP hw hK hc i η s σ H E I hf st hg;subst hP hw hK;obtain⟨xs,hq,hx⟩:=hg;obtain⟨its,rv,p,hz⟩:=I.tuple hq;obtain⟨f0,f1,f2,f3,f4,f5⟩:=hf it (by simp);obtain⟨⟨old,he⟩,hit⟩:=st;have hl:=rv.length;have hT:s.TypeIs (.ref e) "enumerate":=⟨_,he,rfl⟩;unfold abN;refine W2 (abM (X4 (name:=XY "__next__") hT Zr
   (Yv Zr hT PySem.F.entry_enumerate_next ?_ (PySem.F.args_enumerate_next_1 _))))
  show wpAny _ _ (field (.ref e) 2 >>=_) _ _ _;refine W2 (Yf he rfl (x:=.ref it) rfl ?_);refine W2 (jk (I.ok.hd hc) hit (show s.heap.IsTuple a its.toArray from p) (by simp;lia) λh' y Va yF=>?_);obtain⟨o,ho,xE⟩:=yF;refine W2 (abR (T:="StopIteration") (b:=Λ) ⟨o,ho,xE⟩ ack ?_);exact Xe ⟨rfl,I.turned (t':=s.toks) (λb o hb q=>Va b o hb q) f0 f1 f3 f4 f5⟩
 self:=λ_ _ _ _ _ st h=>let ⟨old,he⟩:=st.1;aaK he h
section
variable{X:Cx}
def Qx(K:Xf)(ta:TA):TI:=λσ H R=>ta σ H λvs H1=>∃a,vs=[.ref a]/\(∃xs,eY K H1 a xs)/\R (U9 K a) H1
theorem FO(hg:Gl X "enumerate")(hm:X.mg "enumerate"=Θ)(ha:PA X [x] ta)(hs:XG [x] X.env=[(Ξ,eval x X.env)]):
  PI X (.Tuple elts kk p3) (.Call (.Name "enumerate" p) [x] [] pos) (Qx X.K ta):=by
 intro η s σ H R I h;refine Call_ (jG I hg hm boot_enumerate (Yh (bR (ha pos η s σ H _ I h) λus s1 ⟨vs,H1,I1,r1,q1⟩=>?_) hs rfl) (by decide+kernel) (by decide+kernel));obtain⟨a,rfl,⟨xs,hq⟩,q⟩:=q1;obtain⟨u,rfl,ru⟩:=vals1 r1;cases ru;obtain⟨its,rv,pl,hz⟩:=I1.tuple hq;refine o9 (show s1.heap.IsTuple a its.toArray from pl) λh' he hit hsz hk=>?_;refine aaK he ?_;have I2:Inv X η σ H1 {s1 with heap:=h'}:=I1.kept (t':=s1.toks) hk;refine⟨s1.heap.objs.size+1,[s1.heap.objs.size+1,s1.heap.objs.size],_,_,H1,rfl,I2,BE a _ _ (Nat.succ_ne_self _),⟨⟨_,he⟩,hit⟩,λb hb=>?_,q⟩;have iM:b=s1.heap.objs.size+1\/b=s1.heap.objs.size:=by simpa using hb
 rcases iM with z|z;·rw[z];exact I1.xj (Y6 _) (I1.aL.fresh (Y6 _))
 ·rw[z];exact I1.xj (Xd _) (I1.aL.fresh (Xd _))
end
section
variable{prog:Yb}{w:World}{A:YF}{E:Value->Xp->Prop}{s:Xp}
end
section
variable{X:Cx}
end
def dB(c:Addr)(q:Str):Heap->Prop:=λh=>h.CodeRec (.ref c) q
structure kK(N P F:List Str)(sc:Scope):Prop where
 kind:sc.kind=.function
 co:sc.isCoroutine=Ξ
 gen:sc.isGenerator=Ξ
 nd:N.Nodup
 pre:N.take (P.length+F.length)=P++F
 par:∀x∈P,sc.names.lookup x=Δ .local
 fre:∀x∈F,sc.names.lookup x=Δ .free
 fF:∀y∈sc.names,y.2≠.cell
 Qy:∀y∈sc.names,y.2=.free->y.1∈F
structure HH(B:Heap)(cl:List (Str×Addr))(F:List Str)(bW:List V):Prop where
 inj:∀x y c,cl.lookup x=Δ c->cl.lookup y=Δ c->x=y
 only:∀x c,cl.lookup x=Δ c->x∈F
 at_:∀(i:Nat) (x:Str) (v:V),F[i]?=Δ x->bW[i]?=Δ v->∃c u,cl.lookup x=Δ c/\B.IsCell c (Δ u)/\RelV v u
 len:bW.length=F.length
theorem HH.get(C:HH B cl F bW)(h:x∈F):∃(i:Nat) (v:V) (c:Addr) (u:Value),F[i]?=Δ x/\bW[i]?=Δ v/\cl.lookup x=Δ c/\B.IsCell c (Δ u)/\RelV v u:=by
 obtain⟨i,hi,e⟩:=List.mem_iff_getElem.mp h;have h1:F[i]?=Δ x:=by rw[W6 hi,e]
 have h2:bW[i]?=Δ (bW[i]'(by rw[C.len];exact hi)):=W6 _;obtain⟨c,u,a,b,d⟩:=C.at_ i x _ h1 h2;exact⟨i,_,c,u,h1,h2,a,b,d⟩
abbrev zp(qual:Str)(scope:Scope)(L f:Addr)(cd:Value)(cl:List (Str×Addr)):Env:=PySem.W.envX qual scope L f cd cl
noncomputable def K6(CX:HC)(P:Yb)(w:World)(K:Xf)(mg:Str->Option Value)(base:Heap)(N:List Str)(qual:Str)(scope:Scope)(f:Addr)(cd:Value)(cl:List (Str×Addr))(A:YF)(outer:List Env)(s:Xp)(H:Hp)(E:XK):Cx where
 prog:=P
 w:=w
 K:=K
 mg:=mg
 base:=base
 A:=A.deeper (zp qual scope s.heap.objs.size f cd cl)
 N:=N
 gO:=s
 yN:=H
 env:=zp qual scope s.heap.objs.size f cd cl
 outer:=outer
 stack:=zp qual scope s.heap.objs.size f cd cl::outer
 ex:=[]
 calm:=Λ
 fn:=λ_=>Ξ
 pn:=[]
 xe:=λe s'=>wpAny (model P w) (A.deeper (zp qual scope s.heap.objs.size f cd cl)) (leaving (zp qual scope s.heap.objs.size f cd cl) e) (λ_ LZ=>CX outer H s E e LZ) (λe' LZ=>CX outer H s E e' LZ) s'
theorem FP:∀{ps:List Str} {us} {i:Nat} {y:Str} {u:Value},ps.Nodup->ps[i]?=Δ y->us[i]?=Δ u->(ps.zip us).reverse.lookup y=Δ u:=by
 intro ps us i y u nd h1 h2;have hm:(y,u)∈(ps.zip us).reverse:=by rw[List.mem_reverse];refine List.mem_iff_getElem?.mpr ⟨i,?_⟩;rw[List.getElem?_zip_eq_some];exact⟨h1,h2⟩
 have un:∀u',(y,u')∈(ps.zip us).reverse->u'=u:=λu' h'=>by
  rw[List.mem_reverse] at h';obtain⟨j,hj⟩:=List.mem_iff_getElem?.mp h';rw[List.getElem?_zip_eq_some] at hj;obtain⟨a,b⟩:=hj;have hi:i < ps.length:=(qqz h1).1;have SS:j < ps.length:=(qqz a).1;have e:i=j:=by
   have e1:ps[i]'hi=y:=(qqz h1).2;have e2:ps[j]'SS=y:=(qqz a).2;rcases Nat.lt_trichotomy i j with z|z|z;·exact absurd (e1.trans e2.symm) (List.pairwise_iff_getElem.mp (List.nodup_iff_pairwise_ne.mp nd) i j hi SS z)
   ·exact z
   ·exact absurd (e2.trans e1.symm) (List.pairwise_iff_getElem.mp (List.nodup_iff_pairwise_ne.mp nd) j i SS hi z)
  subst e;rw[h2] at b;exact(XJ b).symm
 cases q:(ps.zip us).reverse.lookup y with
 |none=>
  exfalso;have key:∀(l:List (Str×Value)),(y,u)∈l->l.lookup y≠Θ:=λl=>by
   induction l with
   |nil=>intro h;cases h|cons p l ih=>
    intro h;obtain⟨p1,p2⟩:=p;rw[XB];rcases Zy.mp h with e|e;·injection e with e1 _;rw[<-e1];simp
    ·cases hb:y==p1 with|true=>exact λz=>nomatch z|false=>exact ih e
  exact key _ hm q
 |some u'=>rw[un u' (XZ q)]
theorem CA{K:Xf}(S:kK N ps F scope)(C:HH base cl F bW)(hd:A.handled=Θ)(e0:xm P w K mg base A outer s H)(hl:vs.length=ps.length)(r:aS vs us)(K7:dA.Ns s.heap.objs.size (λx=>(ps.zip us).reverse.lookup x))(hk:∀b o,s.heap.get? b=Δ o->dA.get? b=Δ o):
  Inv (K6 CX P w K mg base N qual scope f cd cl A outer s H E) [] (start N (vs++bW)) H {s with heap:=dA,toks:=tk}:=by
 have yD:ps.length+F.length<=N.length:=by have:=congrArg abF S.pre;rw[Zg,Xs] at this;lia
 have HD:∀b:Addr,b∉(K6 CX P w K mg base N qual scope f cd cl A outer s H E).ex:=λb z=>absurd (show b∈([]:List Addr) from z) (by simp);have old:∀b o,base.get? b=Δ o->dA.get? b=Δ o:=λb o e=>hk b o (e0.bs b o e).1;have HI:∀x c,cl.lookup x=Δ c->∃u,base.IsCell c (Δ u):=λx c h=>by obtain⟨i,v,c',u,_,_,h3,h4,_⟩:=C.get (C.only x c h);rw[h] at h3;cases h3;exact⟨u,h4⟩
 refine⟨⟨e0.mod,S.kind,rfl,rfl,Xd _,λy z c h1 h2=>C.inj y z c h1 h2,λy hy=>?_,(λy c h _=>absurd (show Ξ=Λ from h) (by decide)),λ_=>hd,YF.frames_deeper e0.frames,.inr ⟨rfl,rfl⟩,λb z=>absurd z (HD b),e0.bs,e0.EJ,λb _ _=>HD b,λb z=>absurd z (HD b),e0.mo,e0.HQ⟩,
  rfl,e0.bare,Un.kept hk,⟨_,K7,λi y v h1 h2 h3=>?_⟩,λy c h=>?_,e0.aL.fresh (Xd _),λy c h=>?_,λp hp=>absurd (show p∈([]:List (Addr×Obj)) from hp) (by simp),e0.aL.kept hk,?_⟩
 ·have hy:scope.names.lookup y=Δ .cell\/scope.names.lookup y=Δ .free:=hy;rcases hy with hy|hy;·exact absurd rfl (S.fF _ (XZ hy))
  ·obtain⟨_,_,c,_,_,_,h,_⟩:=C.get (S.Qy _ (XZ hy) rfl);exact⟨c,h⟩
 ·have hlen:(vs++bW).length=ps.length+F.length:=by rw[Xs,hl,C.len]
  have hi:i < (vs++bW).length:=by
   unfold start at h2;by_cases hi:i < (vs++bW).length;·exact hi
   ·rw[Xu (by simpa using hi)] at h2;rw[Z5] at h2;split at h2<;>cases h2
  have ha:(vs++bW)[i]?=Δ v:=by unfold start at h2;rw[Xb (by simpa using hi),Xg] at h2;cases e:(vs++bW)[i]? with|none=>rw[e] at h2;cases h2|some a=>rw[e] at h2;cases h2;rfl
  have hp:(ps++F)[i]?=Δ y:=by rw[<-S.pre,List.getElem?_take_of_lt (by lia)];exact h1
  have Sw:ps.Nodup:=by
   have:(ps++F).Nodup:=by rw[<-S.pre];exact S.nd.sublist (List.take_sublist _ _)
   exact(X5.mp this).1
  by_cases DR:i < vs.length;·rw[Xb DR] at ha;rw[Xb (by lia)] at hp;obtain⟨u,hu,rv⟩:=r.get ha;exact⟨u,rv,.inl ⟨S.par y (Xw hp),FP Sw hp hu⟩⟩
  ·rw[Xu (by lia)] at ha;rw[Xu (by lia),<-hl] at hp;obtain⟨c,u,hc,nk,rv⟩:=C.at_ _ y v hp ha;exact⟨u,rv,.inr ⟨.inr (S.fre y (Xw hp)),c,hc,nk.keeps old⟩⟩
 ·obtain⟨u,hc⟩:=HI y c h;exact⟨_,hc.keeps old⟩
 ·obtain⟨u,o,ho,_⟩:=HI y c h;exact(e0.bs c o ho).2
 ·unfold start;show _=N.length;rw[Xs,Xc,aag,Xs,hl,C.len]
  lia
section
variable{CX:HC}{P:Yb}{w:World}{K:Xf}{mg:Str->Option Value}{base:Heap}{k:Nat}{f:Addr}{name qual:Str}{params:ZQ}{scope:Scope}{cl:List (Str×Addr)}{dV kV doc pm ky ct oc:Value}{an od:Option Addr}
  {Il:Array (Option Value)} {N ps F:List Str} {bW:List V} {sp:Sp}
theorem Mu(lk:base.get? f=Δ ⟨oc,od,.func (acQ name qual params body scope cl dV kV doc pm an ky ct),Il⟩)(qf:∀vs H Q E,sp vs H Q E->∃c,ky=.ref c/\H c=Δ (.ext (dB c qual)))(S:kK N ps F scope)(C:HH base cl F bW)(len:∀vs H Q E,sp vs H Q E->vs.length=ps.length)(sE:∀(A:YF) (outer:List Env) (s:Xp) (H:Hp) (vs:List V) (Q:VK) (E:XK),de k (A.deeper (zp qual scope s.heap.objs.size f ky cl))->sp vs H Q E->
   ∃t,mq (K6 CX P w K mg base N qual scope f ky cl A outer s H E) body t/\t {nx:=λ_ H'=>Q .bu H',rt:=Q} (start N (vs++bW)) H):
  gp P w K mg base CX (k+1) f (acQ name qual params body scope cl dV kV doc pm an ky ct) ps sp:=by
 refine⟨len,λA outer s H args us vs Q E hr e0 hb r xo=>?_⟩;have hl:=len _ _ _ _ xo;have old:∀b o,base.get? b=Δ o->s.heap.get? b=Δ o:=λb o e=>(e0.bs b o e).1;have lim:s.heap.NoLimit:=e0.mod.nolimit.keeps old;have Mv:s.heap.CodeRec ky qual:=by obtain⟨c,rfl,hc⟩:=qf _ _ _ _ xo;exact(e0.aL c _ hc).1
 have FQ:∀y∈ps.zip us,scope.names.lookup y.1=Δ .local:=λ⟨n,v⟩ hy=>S.par n (aac hy).1;refine codeAny_call_function hr.depth (old _ _ lk) rfl S.co S.gen rfl Mv (hb _ _ _ _ ?_);refine aai S.fF FQ (λdA K7 Qz=>⟨lim.fresh _ Qz,codeAny_func ?_⟩) S.kind;have hk:∀b o,s.heap.get? b=Δ o->dA.get? b=Δ o:=λb o e=>Qz.extBut b o (XD (Xl e)) (W4 _ e);obtain⟨t,ht,hq⟩:=sE A outer s H vs Q E (hr.deeper _) xo;have I:=CA (CX:=CX) (qual:=qual) (f:=f) (cd:=ky) (tk:=s.toks+(ps.zip us).length) (E:=E) S C hr.hd e0 hl r K7 hk;refine YS (ht [] _ (start N (vs++bW)) H _ I hq) (λfl s' hs=>?_) λe s' hs=>hs;have fin:∀{cX:St} {H':Hp} {v:V} {u:Value},Inv (K6 CX P w K mg base N qual scope f ky cl A outer s H E) [] cX H' s'->RelV v u->Q v H'->CE outer P w H s Q u s':=
  λ{cX H' v u} J rv q=>⟨v,H',J.os,J.bare,J.base,J.aL,rv,q⟩
 cases fl with|ret u=>obtain⟨v,cX,H',J,rv,q⟩:=hs;exact fin J rv q|next=>obtain⟨cX,H',J,q⟩:=hs;exact fin (v:=V.bu) (u:=Zd) J rfl q|brk=>obtain⟨_,_,_,q⟩:=hs;exact Ys q|cont=>obtain⟨_,_,_,q⟩:=hs;exact Ys q
theorem Mw(lk:base.get? f=Δ ⟨oc,od,.func (acm name qual params body scope cl pm ky ct),Il⟩)(qf:∀vs H Q E,sp vs H Q E->∃c,ky=.ref c/\H c=Δ (.ext (dB c qual)))(S:kK N ps F scope)(C:HH base cl F bW)(len:∀vs H Q E,sp vs H Q E->vs.length=ps.length)(sE:∀(A:YF) (outer:List Env) (s:Xp) (H:Hp) (vs:List V) (Q:VK) (E:XK),de k (A.deeper (zp qual scope s.heap.objs.size f ky cl))->sp vs H Q E->
   ∃t,PE (K6 CX P w K mg base N qual scope f ky cl A outer s H E) body t/\t (start N (vs++bW)) H Q):
  gp P w K mg base CX (k+1) f (acm name qual params body scope cl pm ky ct) ps sp:=by
 refine⟨len,λA outer s H args us vs Q E hr e0 hb r xo=>?_⟩;have hl:=len _ _ _ _ xo;have old:∀b o,base.get? b=Δ o->s.heap.get? b=Δ o:=λb o e=>(e0.bs b o e).1;have lim:s.heap.NoLimit:=e0.mod.nolimit.keeps old;have Mv:s.heap.CodeRec ky qual:=by obtain⟨c,rfl,hc⟩:=qf _ _ _ _ xo;exact(e0.aL c _ hc).1
 have FQ:∀y∈ps.zip us,scope.names.lookup y.1=Δ .local:=λ⟨n,v⟩ hy=>S.par n (aac hy).1;refine PySem.W.kla_callFunE hr.depth (old _ _ lk) rfl S.co S.gen rfl Mv (hb _ _ _ _ ?_);refine aai S.fF FQ (λdA K7 Qz=>⟨lim.fresh _ Qz,PySem.W.kla_codeExpr ?_⟩) S.kind;have hk:∀b o,s.heap.get? b=Δ o->dA.get? b=Δ o:=λb o e=>Qz.extBut b o (XD (Xl e)) (W4 _ e);obtain⟨t,ht,hq⟩:=sE A outer s H vs Q E (hr.deeper _) xo;have I:=CA (CX:=CX) (qual:=qual) (f:=f) (cd:=ky) (tk:=s.toks+(ps.zip us).length) (E:=E) S C hr.hd e0 hl r K7 hk;refine YS (ht [] _ (start N (vs++bW)) H _ I hq) (λu s' hs=>?_) λe s' hs=>hs;obtain⟨v,H',J,rv,q⟩:=hs;exact⟨v,H',J.os,J.bare,J.base,J.aL,rv,q⟩
end
open Classical in
noncomputable def gk(H:Hp):Hp:=λb=>match H b with|some (.ext φ)=>if ∃q,φ=dB b q then Δ (.ext φ) else Θ|o=>o
open Classical in
noncomputable def zq(H H2:Hp):Hp:=λb=>match H b with|some (.ext φ)=>if ∃q,φ=dB b q then H2 b else Δ (.ext φ)|_=>H2 b
def BF(b:Addr)(φ:Heap->Prop):Prop:=∀q,φ≠dB b q
theorem jO(h:H b=Θ):gk H b=Θ:=by unfold gk;rw[h]
theorem xF(h:H b=Δ (.ext φ))(hf:BF b φ):gk H b=Θ:=by unfold gk;rw[h];exact if_neg λ⟨q,e⟩=>hf q e
theorem fW(h:H b=Δ (.ext (dB b q))):gk H b=Δ (.ext (dB b q)):=by unfold gk;rw[h];exact if_pos ⟨q,rfl⟩
theorem kL(h:gk H b=Δ o):H b=Δ o/\∀φ,o=.ext φ->¬BF b φ:=by
 unfold gk at h;split at h
 ·rename_i φ e;split at h;·rename_i hq;cases h;obtain⟨q,hq⟩:=hq;exact⟨e,λψ z hf=>by cases z;exact hf q hq⟩
  ·cases h
 ·rename_i fH;exact⟨h,λφ z=>absurd (h.trans (by rw[z])) (fH φ)⟩
theorem bp(h:H b=Δ o)(fH:∀φ,o≠.ext φ):gk H b=Δ o:=by unfold gk;rw[h];cases o with|ext φ=>exact absurd rfl (fH φ)|_=>rfl
theorem CB(h:H b=Δ (.ext φ))(hf:BF b φ):zq H H2 b=Δ (.ext φ):=by unfold zq;rw[h];exact if_neg λ⟨q,e⟩=>hf q e
theorem sT(h:∀φ,H b=Δ (.ext φ)->¬BF b φ):zq H H2 b=H2 b:=by
 unfold zq;split;·rename_i φ q;have:∃q,φ=dB b q:=Xz λz=>h φ q λq' e=>z ⟨q',e⟩;exact if_pos this
 ·rfl
noncomputable def qX(h:Heap)(H:Hp)(fs:List Addr):Heap:=PySem.W.hideAll (qS h (gk H)) fs
theorem FR h H fs:(qX h H fs).objs.size=h.objs.size:=(PySem.W.hideAll_size _ _).trans (vP _ _)
theorem xG(e:h.get? b=Δ o)(n:gk H b=Θ)(hb:b∉fs):(qX h H fs).get? b=Δ o:=PySem.W.hideAll_get _ (yM e n) hb
theorem Mx(e:(qX h H fs).get? b=Δ o):h.get? b=Δ o/\gk H b=Θ:=Cj (PySem.W.of_hideAll _ e)
theorem FT(hb:b∈fs):(qX h H fs).get? b=Θ:=PySem.W.hideAll_none _ hb
theorem kA.gk{P:Yb}{w:World}{H:Hp}{h:Heap}(x:kA P w H h):kA P w (gk H) h:=λa o e=>by obtain⟨e1,_⟩:=kL e;exact(x a o e1).ng (λ_ _ _ z=>z) (λb z=>bp z (λ_ q=>nomatch q)) λb xs z=>bp z (λ_ q=>nomatch q)
theorem funFrames_base{h base zr:Heap}:∀{l},(∀b∈jF l,zr.get? b=Θ)->h.FunFrames base l->h.FunFrames zr l
 |[],_,_=>trivial|env::r,hb,⟨hk,⟨L,o,hf,hn,ho,hd⟩,hr⟩=>by
  have e:jF (env::r)=L::jF r:=by unfold jF;rw[Y4,hf]
  rw[e] at hb;exact⟨hk,⟨L,o,hf,hb L W8,ho,hd⟩,funFrames_base (λb z=>hb b (W5 _ z)) hr⟩
section
variable{X:Cx}{η:List (Addr×Obj)}{σ:St}{H:Hp}{s s':Xp}
theorem Inv.FU(I:Inv X η σ H s)(e:X.base.get? b=Δ o):(qX s.heap H (jF X.stack)).get? b=Δ o:=by
 obtain⟨h1,h2⟩:=I.bs b o e;refine xG h1 (jO h2) λz=>?_;rcases Zy.mp (I.oS b z) with q|q;·have l1:=Xl e;have l2:=I.ok.EJ;have l3:=I.ok.above;exact YX _ (Xx l1 (XW l2 (by rw[q];exact l3)))
 ·exact I.ok.HR e q
theorem Inv.Vb(I:Inv X η σ H s):Mod X.K X.mg (qX s.heap H (jF X.stack)):=by have k:∀b o,X.base.get? b=Δ o->(qX s.heap H (jF X.stack)).get? b=Δ o:=λb o e=>I.FU e;obtain⟨mb,h1,h2⟩:=I.mod.blt;exact⟨I.mod.LB.keeps k,I.mod.glob.keeps k,⟨mb,h1.keeps k,h2⟩,I.mod.nolimit.keeps k⟩
theorem Inv.QA(I:Inv X η σ H s):xm X.prog X.w X.K X.mg (qX s.heap H (jF X.stack)) X.A X.stack s (gk H):=
 ⟨I.ok.frames,I.Vb,λb o e=>Mx e,abo (FR _ _ _),funFrames_base (λb hb=>FT hb) I.stack,λb hb=>jO (I.ni b hb),I.aL.gk,I.bare⟩
theorem Inv.My(I:Inv X η σ H s)(h:CE X.stack X.prog X.w (gk H) s Q u s'):EP X η σ (λv H3=>∃H2,H3=zq H H2/\(∀b φ,H b=Δ (.ext φ)->BF b φ->H2 b=Θ)/\Q v H2) u s':=by
 obtain⟨v,H2,os,bare,un,aL,r,q⟩:=h;have HR:∀b φ,H b=Δ (.ext φ)->b∉jF X.stack:=λb φ e z=>by rw[I.ni b z] at e;cases e
 have kept:∀b φ,H b=Δ (.ext φ)->BF b φ->H2 b=Θ/\φ s'.heap/\∃o,s'.heap.get? b=Δ o:=λb φ e hf=>by obtain⟨p1,⟨o,p2⟩,p3⟩:=I.aL b _ e;have k1:=un.keep b o p2 (xF e hf) (HR b φ e) (by simp);exact⟨un.free b o p2 (xF e hf) (by simp),p3 _ _ p1 (λo' oR=>by rw[p2] at oR;cases oR;exact k1),o,k1⟩
 have mono:∀b o,H2 b=Δ o->zq H H2 b=Δ o:=λb o e=>by rw[sT λφ z hf=>by rw[(kept b φ z hf).1] at e;cases e];exact e
 refine I.after ⟨v,zq H H2,os,bare,⟨λb o e n hb hx=>un.keep b o e (jO n) hb hx,λb o e n hb hx=>un.slot b o e (jO n) hb hx,λb o e n hx=>?_,λb o e hx=>un.there b o e hx,λb xs e=>?_,λb o x e=>?_,λb ps e=>?_⟩,λb o e=>?_,r,H2,rfl,λb φ e hf=>(kept b φ e hf).1,q⟩;·rw[sT λφ z _=>by rw[n] at z;cases z];exact un.free b o e (jO n) hx
 ·exact mono _ _ (un.so b xs (bp e (λ_ z=>nomatch z)))
 ·exact mono _ _ (un.oQ b o x (bp e (λ_ z=>nomatch z)))
 ·obtain⟨more,e2⟩:=un.qQ b ps (bp e (λ_ z=>nomatch z));exact⟨more,mono _ _ e2⟩
 ·by_cases c:∃φ,H b=Δ (.ext φ)/\BF b φ;·obtain⟨φ,c,hf⟩:=c;rw[CB c hf] at e;cases e;obtain⟨_,_,p3⟩:=I.aL b _ c;obtain⟨_,k2,k3⟩:=kept b φ c hf;exact⟨k2,k3,p3⟩
  ·rw[sT λφ z hf=>c ⟨φ,z,hf⟩] at e;exact(aL b o e).ng (λ_ _ _ z=>z) (λb' z=>mono _ _ z) λb' xs z=>mono _ _ z
theorem IV(I:Inv X η σ H s)(F:gp X.prog X.w X.K X.mg (qX s.heap H (jF X.stack)) u0 k f fd ps sp)(hr:de k X.A)(hb:acb s fd ⟨us,[]⟩ (ps.zip us))(r:aS vs us)(h:sp vs (gk H) Q E0):wpAny (model X.prog X.w) X.A (call (.ref f) us) (EP X η σ (λv H3=>∃H2,H3=zq H H2/\(∀b φ,H b=Δ (.ext φ)->BF b φ->H2 b=Θ)/\Q v H2)) X.xe s:=by refine acR (abm (F.run X.A X.stack s (gk H) ⟨us,[]⟩ us vs Q E0 hr I.QA hb r h) λr s' hq=>?_);cases r with|error e=>exact Ys hq|ok fl=>cases fl with|ret u=>exact I.My hq|next=>exact Ys hq|brk=>exact Ys hq|cont=>exact Ys hq
def Mz(X:Cx)(i:Nat)(t:TA):TE:=λσ H Q=>∃a,σ[i]?=Δ (Δ (.ref a))/\(∃oc od fd sl,X.base.get? a=Δ ⟨oc,od,.func fd,sl⟩)/\t σ H λvs H1=>∃k fd ps sp,gp X.prog X.w X.K X.mg X.base u0 k a fd ps sp/\de k X.A/\Binds X.K fd ps []/\sp vs H1 Q E0
theorem FV(hN:X.N[i]?=Δ x)(hv:O4 X.env.scope x)(ha:PA X (e::es) t)(hd:(x==("__debug__":Str))=Ξ:=by decide)(qf:(x==("__classdict__":Str))=Ξ:=by decide)(he:XG (e::es) X.env=(Ξ,eval e X.env)::XG es X.env:=by rfl)(yD:(Zk pos (XG es X.env)).any (·.1)=Ξ:=by rfl):
  PE X (.Call (.Name x p) (e::es) [] pos) (Mz X i t):=by
 intro η s σ H Q I h;obtain⟨a,ea,⟨oc,od,fd0,sl,eo⟩,h⟩:=h;refine Yx (YS (A3 (pos:=p) hN hv hd qf η s σ H (λv H'=>v=.ref a/\H'=H) I ⟨_,ea,rfl,rfl⟩) (λu s0 ⟨v,H0,I0,rv,ev,eH⟩=>?_) λ_ _ z=>z);subst ev;subst eH;obtain rfl:u=XC a:=rv;have QB:∀{η:List (Addr×Obj)} {σ:St} {H:Hp} {s:Xp},Inv X η σ H s->PySem.W.FnAt a s.heap:=λJ=>⟨oc,od,fd0,sl,J.bk _ _ eo⟩;refine PySem.W.callWith_F (QB I0) (bR (ha pos η s0 σ H0 _ I0 h) λus s1 ⟨vs,H1,I1,r,k,fd,ps,sp,F,hr,hb,q⟩=>⟨QB I1,?_⟩) he yD;exact sC F hr hb (dvs:=[]) (ds:=[]) (E:=E0) .nil (λ_ _ _ _ _ _ _ z=>z.elim) I1 r (by rw[Ya];exact q)
end
def fz(H:Hp)(bU:List (Pos×Str))(ps:Array Value):Prop:=abp ps.toList/\∀p∈bU,∀cv,ZZ p.1 ps.toList=Δ cv->∃c,cv=.ref c/\H c=Δ (.ext (dB c p.2))
noncomputable def BMain(mg:Str->Option Value)(B:Heap):Prop:=∃bm ob,mg "__builtins__"=Δ (.ref bm)/\bm≠ab7/\B.get? bm=Δ ob/\ob.cls=.type "module"/\ob.dict=Δ ab7/\ob.data=.plain
structure Made(H H':Hp)(P f c:Addr)(bU:List (Pos×Str))(q:Str)(φ:Heap->Prop):Prop where
 fresh:H f=Θ
 fn:H' f=Δ (.ext φ)
 code:H' c=Δ (.ext (dB c q))
 tab:∃ps,H' P=Δ (.fk ps)/\fz H' bU ps
 keep:∀b u,H b=Δ u->b≠P->H' b=Δ u
 grow:∀ps,H P=Δ (.fk ps)->∃more,H' P=Δ (.fk (ps++more))
 new:∀b,H b=Θ->H' b=Θ\/∃ψ,H' b=Δ (.ext ψ)
theorem nJ:∀(l),abp l->abp (l++[.int i ti,.int j tj,c])
 |[],_=>trivial|.int _ _::.int _ _::_::rest,h=>nJ rest h
theorem l7{pos p:Pos}(fH:¬(p.line=pos.line/\p.col=pos.col)):∀(l),abp l->ZZ pos (l++[Zj p.line,Zj p.col,c])=ZZ pos l
 |[],_=>by show(if((p.line:Int)==(pos.line:Int)&&(p.col:Int)==(pos.col:Int))=Λ then Δ c else Θ)=Θ;rw[if_neg];rw[W3,beq_iff_eq,beq_iff_eq];rintro⟨a,b⟩;exact fH ⟨by lia,by lia⟩
 |.int a ta::.int b tb::d::rest,h=>by have ih:=l7 (c:=c) fH rest h;simp only[YU,ZZ];rw[ih]
theorem qY l(h:abp l)(hn:ZZ p l=Θ):ZZ p (l++[Zj p.line,Zj p.col,c])=Δ c:=codeAmong_snoc l h hn
theorem zu{p:Pos}(h:abp l):abp (l++[Zj p.line,Zj p.col,c]):=nJ l h
def Apart(bU:List (Pos×Str)):Prop:=∀p∈bU,∀q∈bU,p.1.line=q.1.line/\p.1.col=q.1.col->p=q
section
variable{X:Cx}{η:List (Addr×Obj)}{σ:St}{H:Hp}{s:Xp}
theorem Inv.zv(Vc:fo.isFreed=Ξ)(I:Inv X η σ H s)(hP:H P=Δ (.fk ps))(tb:fz H bU ps)(hs:(pos,q)∈bU)(ap:Apart bU)(hnf:ZZ pos ps.toList=Θ)(hx:Heap.ExtBut P s.heap h')(MA:s.heap.objs.size<=c')(fm:c' < h'.objs.size)(xH:h'.CodeRec (.ref c') q)(OH:h'.get? P=Δ (Z3 (ps++#[Zj pos.line,Zj pos.col,.ref c'])))(hf:f=h'.objs.size)φ(h1:φ (h'.push fo))(h2:∀g1 g2:Heap,φ g1->(∀o,g1.get? f=Δ o->g2.get? f=Δ o)->φ g2):
  ∃H',Inv X η σ H' {s with heap:=h'.push fo,toks:=tk}/\Made H H' P f c' bU q φ:=by
 have MB:s.heap.get? P=Δ (Z3 ps):=I.aL P _ hP;have lP:P < s.heap.objs.size:=Xl MB;have fr:∀b,s.heap.objs.size<=b->H b=Θ:=λb hb=>I.aL.fresh hb;have lcf:c' < f:=by rw[hf];exact fm
 have MC:s.heap.objs.size < f:=abv MA lcf;have nPc:c'≠P:=Yk (Xx lP MA);have nPf:f≠P:=Yk (aaR lP MC);have ncf:f≠c':=Yk lcf;have SU:∀b,b < s.heap.objs.size->b≠c'/\b≠f:=λb hb=>⟨XD (Xx hb MA),XD (aaR hb MC)⟩;obtain⟨cc,oc,vs,tt,ecc,LD,hd,hv⟩:=xH;cases ecc
 let H':Hp:=upd (upd (upd H P (.fk (ps++#[Zj pos.line,Zj pos.col,.ref c']))) c' (.ext (dB c' q))) f (.ext φ)
 have eP:H' P=Δ (.fk (ps++#[Zj pos.line,Zj pos.col,.ref c'])):=by show upd _ _ _ P=_;rw[ax (Yc nPf),ax (Yc nPc),aD]
 have ec:H' c'=Δ (.ext (dB c' q)):=by show upd _ _ _ c'=_;rw[ax (Yc ncf),aD]
 have ef:H' f=Δ (.ext φ):=aD;have eo:∀b,b≠P->b≠c'->b≠f->H' b=H b:=λb n1 n2 n3=>by show upd _ _ _ b=_;rw[ax n3,ax n2,ax n1]
 have hsf:s.heap.objs.size<=f:=aar MC;have hold:∀b u,H b=Δ u->b≠P->H' b=Δ u:=λb u e n=>by
  have hb:b < s.heap.objs.size:=by
   rcases Nat.lt_or_ge b s.heap.objs.size with z|z;·exact z
   ·rw[fr b z] at e;cases e
  rw[eo b n (SU b hb).1 (SU b hb).2];exact e
 have kp:∀b o,b≠P->s.heap.get? b=Δ o->(h'.push fo).get? b=Δ o:=λb o n e=>W4 _ (hx b o n e);refine⟨H',I.EV (ch:=[]) rfl ⟨λb o e n _ _=>?_,λb o e n _ _=>⟨o.slots,?_⟩,λb o e n _=>?_,λb o e _=>?_,λb xs e=>?_,λb o x e=>?_,λb qs e=>?_⟩ (λb o e=>?_) I.bare (λb z=>absurd z (by simp)),⟨fr f hsf,ef,ec,⟨_,eP,?_,?_⟩,hold,λqs e=>⟨#[Zj pos.line,Zj pos.col,.ref c'],?_⟩,λb n=>?_⟩⟩;·exact kp b o (λz=>by rw[z,hP] at n;cases n) e
 ·exact kp b o (λz=>by rw[z,hP] at n;cases n) e
 ·have lb:=Xl e;rw[eo b (λz=>by rw[z,hP] at n;cases n) (SU b lb).1 (SU b lb).2];exact n
 ·by_cases z:b=P;·subst z;exact⟨_,W4 _ OH⟩
  ·exact⟨o,kp b o z e⟩
 ·exact hold b _ e λz=>by rw[z,hP] at e;cases e
 ·exact hold b _ e λz=>by rw[z,hP] at e;cases e
 ·by_cases z:b=P;·subst z;rw[hP] at e;cases e;exact⟨_,eP⟩
  ·exact⟨#[],by rw[hold b _ e z];simp⟩
 ·by_cases z1:b=f;·subst z1;rw[ef] at e;cases e;exact⟨h1,⟨fo,by rw[hf];exact Xj _ Vc⟩,h2⟩
  ·by_cases z2:b=c';·subst z2;rw[ec] at e;cases e;refine⟨⟨b,oc,vs,tt,rfl,W4 _ LD,hd,hv⟩,⟨oc,W4 _ LD⟩,λg1 g2 ⟨c2,o2,v2,t2,e2,a2,r2⟩ k=>?_⟩;cases e2;exact⟨b,o2,v2,t2,rfl,k _ a2,r2⟩
   ·by_cases z3:b=P;·subst z3;rw[eP] at e;cases e;exact W4 _ OH
    ·rw[eo b z3 z2 z1] at e;refine(I.aL b o e).ng (λb' u iM eu=>?_) (λb' z=>hold b' _ z λy=>by rw[y,hP] at z;cases z) λb' xs z=>hold b' _ z λy=>by rw[y,hP] at z;cases z
     refine kp b' u (λy=>?_) eu;rcases iM with w1|w1;·exact z3 (w1▸y)
     ·rw[y,hP] at w1;cases w1
 ·rw[Array.toList_append];exact zu tb.1
 ·intro p hp cv AZ;rw[Array.toList_append] at AZ;by_cases z:pos.line=p.1.line/\pos.col=p.1.col;·have e:=ap (pos,q) hs p hp z;subst e;have:ZZ pos (ps.toList++[Zj pos.line,Zj pos.col,.ref c'])=Δ (.ref c'):=qY _ tb.1 hnf;have QC:ZZ pos (ps.toList++[Zj pos.line,Zj pos.col,.ref c'])=Δ cv:=AZ;rw[this] at QC;cases QC;exact⟨c',rfl,ec⟩
  ·have:ZZ p.1 (ps.toList++[Zj pos.line,Zj pos.col,.ref c'])=Δ cv:=AZ;rw[l7 z _ tb.1] at this;obtain⟨c,e1,e2⟩:=tb.2 p hp cv this;exact⟨c,e1,hold c _ e2 λy=>by rw[y,hP] at e2;cases e2⟩
 ·rw[hP] at e;cases e;exact eP
 ·by_cases z1:b=f;·subst z1;exact .inr ⟨_,ef⟩
  ·by_cases z2:b=c';·subst z2;exact .inr ⟨_,ec⟩
   ·have z3:b≠P:=λy=>by rw[y,hP] at n;cases n
    rw[eo b z3 z2 z1];exact .inl n
theorem Inv.zw{h':Heap}(Vc:fo.isFreed=Ξ)(I:Inv X η σ H s)(hP:H P=Δ (.fk ps))(tb:fz H bU ps)(qf:H c'=Δ (.ext (dB c' q)))(hk:∀b o,s.heap.get? b=Δ o->h'.get? b=Δ o)(hsz:s.heap.objs.size<=h'.objs.size)(hf:f=h'.objs.size)φ(h1:φ (h'.push fo))(h2:∀g1 g2:Heap,φ g1->(∀o,g1.get? f=Δ o->g2.get? f=Δ o)->φ g2):
  ∃H',Inv X η σ H' {s with heap:=h'.push fo,toks:=tk}/\Made H H' P f c' bU q φ:=by
 have MC:s.heap.objs.size<=f:=by rw[hf];exact hsz
 have hn:H f=Θ:=I.aL.fresh MC;have kp:∀b o,s.heap.get? b=Δ o->(h'.push fo).get? b=Δ o:=λb o e=>W4 _ (hk b o e);have hold:∀b u,H b=Δ u->upd H f (.ext φ) b=Δ u:=λb u e=>by rw[ax (aO e hn)];exact e
 refine⟨upd H f (.ext φ),I.EV (ch:=[]) rfl (Un.laid kp MC hn) (I.aL.laid kp MC ⟨h1,⟨fo,by rw[hf];exact Xj _ Vc⟩,h2⟩) I.bare (λb z=>absurd z (by simp)),⟨hn,aD,hold _ _ qf,⟨ps,hold _ _ hP,tb.1,λp hp cv AZ=>?_⟩,λb u e _=>hold b u e,λqs e=>⟨#[],by rw[hold _ _ e];simp⟩,λb n=>?_⟩⟩;·obtain⟨c,e1,e2⟩:=tb.2 p hp cv AZ;exact⟨c,e1,hold _ _ e2⟩
 ·by_cases z:b=f;·subst z;exact .inr ⟨_,aD⟩
  ·rw[ax z];exact .inl n
structure Maker(X:Cx)(c P:Addr)(bU:List (Pos×Str)):Prop where
 code:X.env.code=.ref c
 hd:Zl X.base c P
 bm:BMain X.mg X.base
 ap:Apart bU
theorem Maker.bt(M:Maker X c P bU)(I:Inv X η σ H s)(hP:H P=Δ (.fk ps)):Xk≠P/\s.heap.BuiltinsAt X.mg P:=by
 obtain⟨bm,ob,b1,b2,b3,b4,b5,b6⟩:=M.bm;obtain⟨og,es,ep,g1,g2,_⟩:=I.mod.glob;have n1:Xk≠P:=λz=>by have:=(I.bs _ _ g1).2;rw[z,hP] at this;cases this
 have n2:bm≠P:=λz=>by have:=(I.bs _ _ b3).2;rw[z,hP] at this;cases this
 have n3:bm≠Xk:=λz=>by rw[z,g1] at b3;cases b3;rw[g2] at b6;cases b6
 exact⟨n1,bm,ob,b1,b2,n3,n2,I.bk _ _ b3,b4,b5,b6⟩
noncomputable def Vd(f:Addr)(qual:Str)(params:ZQ)(body:Expr)(scope:Scope)(BG:List (Str×Addr))(pm:Value)(c:Addr)(ct:Value):Heap->Prop:=λh=>h.get? f=Δ (PySem.W.kla_obj "<lambda>" qual params body scope BG pm c ct)
def Ve(X:Cx)(P:Addr)(bU:List (Pos×Str))(qual:Str)(φ:Addr->Addr->Value->Heap->Prop):TE:=λσ H Q=>∃ps,H P=Δ (.fk ps)/\fz H bU ps/\
 ∀f c ct H',Made H H' P f c bU qual (φ f c ct)->Q (.ref f) H'
theorem MD(M:Maker X c P bU)(hs:(pos,X.env.qual++"<lambda>")∈bU)(Vf:defaultsOf params X.env=([],[]))(xE:abr scope X.env=pure BG)(h1:∀f c ct h,Vd f (X.env.qual++"<lambda>") params body scope BG ((X.mg "__name__").getD .none) c ct h->φ f c ct h)(h2:∀f c ct (g1 g2:Heap),φ f c ct g1->(∀o,g1.get? f=Δ o->g2.get? f=Δ o)->φ f c ct g2):
  PE X (.Lambda params body scope pos) (Ve X P bU (X.env.qual++"<lambda>") φ):=by
 intro η s σ H Q I h;obtain⟨ps,hP,tb,h⟩:=h;have MB:s.heap.get? P=Δ (Z3 ps):=I.aL P _ hP;obtain⟨Vg,hb⟩:=M.bt I hP;have hg:s.heap.Ns Xk X.mg:=I.mod.glob.keeps I.bk;refine PySem.W.kla_eval Vf ?_;cases hf:ZZ pos ps.toList with|none=>refine PySem.W.kla_makeFunction xE I.ok.glob hg M.code (M.hd.keeps I.bk) MB tb.1 hf Vg hb λc' ME h' tk hx MA fm xH OH=>?_;obtain⟨H',I',md⟩:=Inv.zv rfl I (f:=h'.objs.size) (tk:=tk) hP tb hs M.ap hf hx MA fm xH OH rfl (φ h'.objs.size c' ME) (h1 _ _ _ _ (Xj _ rfl)) (h2 _ _ _);exact⟨.ref h'.objs.size,H',I',rfl,h _ _ _ _ md⟩|some cv=>obtain⟨c',rfl,qf⟩:=tb.2 _ hs cv hf;refine PySem.W.kla_makeFunctionHit xE I.ok.glob hg M.code (M.hd.keeps I.bk) MB tb.1 hf hb λME h' tk hk hsz=>?_;obtain⟨H',I',md⟩:=Inv.zw rfl I (f:=h'.objs.size) (tk:=tk) hP tb qf hk hsz rfl (φ h'.objs.size c' ME) (h1 _ _ _ _ (Xj _ rfl)) (h2 _ _ _);exact⟨.ref h'.objs.size,H',I',rfl,h _ _ _ _ md⟩
noncomputable def Vh(f:Addr)(name qual:Str)(params:ZQ)(body:List Stmt)(scope:Scope)(BG:List (Str×Addr))(doc pm:Value)(c:Addr)(ct:Value):Heap->Prop:=λh=>h.get? f=Δ (PySem.W.fnMade name qual params body scope BG doc pm c ct)
def Vi(X:Cx)(i:Nat)(P:Addr)(bU:List (Pos×Str))(qual:Str)(φ:Addr->Addr->Value->Heap->Prop):TS:=λD σ H=>∃ps,H P=Δ (.fk ps)/\fz H bU ps/\
 ∀f c ct H',Made H H' P f c bU qual (φ f c ct)->D.nx (σ.set i (Δ (.ref f))) H'
theorem MF(M:Maker X c P bU)(hs:(pos,aa2 X.env name name)∈bU)(hd0:params.defaults=[])(QD:params.kw_defaults=[])(ha:annTrees params Θ X.env=[])(xE:abr scope X.env=pure BG)(hN:X.N.Nodup)(hi:X.N[i]?=Δ name)(hx:Loc X.env.scope name)(EK:X.fn name=Λ\/X.env.scope.names.lookup name=Δ .local)(h1:∀f c ct doc h,Vh f name (aa2 X.env name name) params body scope BG doc ((X.mg "__name__").getD .none) c ct h->φ f c ct h)(h2:∀f c ct (g1 g2:Heap),φ f c ct g1->(∀o,g1.get? f=Δ o->g2.get? f=Δ o)->φ f c ct g2):
  PS X (.FunctionDef name params body [] Θ [] scope Θ name pos) (Vi X i P bU (aa2 X.env name name) φ):=by
 intro η s σ H D I h;obtain⟨ps,hP,tb,h⟩:=h;have MB:s.heap.get? P=Δ (Z3 ps):=I.aL P _ hP;obtain⟨Vg,hb⟩:=M.bt I hP;have hg:s.heap.Ns Xk X.mg:=I.mod.glob.keeps I.bk;refine PySem.W.nestDef_K hd0 QD ha ?_;cases hf:ZZ pos ps.toList with|none=>refine PySem.W.makeFunction_K xE I.ok.glob hg M.code (M.hd.keeps I.bk) MB tb.1 hf Vg hb λc' ME doc h' tk yF MA fm xH OH=>?_;obtain⟨H',I',md⟩:=Inv.zv rfl I (f:=h'.objs.size) (tk:=tk) hP tb hs M.ap hf yF MA fm xH OH rfl (φ h'.objs.size c' ME) (h1 _ _ _ doc _ (Xj _ rfl)) (h2 _ _ _);exact nj I' hN hi hx (v:=.ref h'.objs.size) rfl (λs' I2=>⟨_,H',I2,h _ _ _ _ md⟩) EK|some cv=>obtain⟨c',rfl,qf⟩:=tb.2 _ hs cv hf;refine PySem.W.makeFunction_hit xE I.ok.glob hg M.code (M.hd.keeps I.bk) MB tb.1 hf hb λME doc h' tk hk hsz=>?_;obtain⟨H',I',md⟩:=Inv.zw rfl I (f:=h'.objs.size) (tk:=tk) hP tb qf hk hsz rfl (φ h'.objs.size c' ME) (h1 _ _ _ doc _ (Xj _ rfl)) (h2 _ _ _);exact nj I' hN hi hx (v:=.ref h'.objs.size) rfl (λs' I2=>⟨_,H',I2,h _ _ _ _ md⟩) EK
end
def CC(tabs:List (Addr×Addr))(H:Hp):Prop:=(∀b,H b=Θ\/(∃o xs,H b=Δ (.dz o (.lst xs)))\/(H b=Δ (.fk #[])/\b∈tabs.map (·.2)))/\∀q∈tabs,H q.2=Δ (.fk #[])
theorem DS{K:Xf}{sp:Heap->Sp}(KX:K.In bA.heap)(K7:bA.heap.Ns Xk mg)(hb:bA.heap.Ns ab7 mb)(hbb:∀x:Str,x≠"__name__"->mb x=aap x)(Vj:bA.heap.NoLimit)(hg:bA.gens=#[])(hT:PySem.W.TabsAt tabs bA.heap)(Vk:tabs≠[]->aaL K=Λ)(hbm:BMain mg bA.heap)(ha:bA.heap.get? a=Δ {cls:=.type "list",data:=.seq vs.toArray})(hi:IntsAre vs ns)(hl:ns.length<=Xv)(hr:de k acq)(F:∀base:Heap,K.In base->base.Ns Xk mg->(∀q∈tabs,Zl base q.1 q.2)->BMain mg base->gp P w K mg base CX k fa fd [x] (sp base))(FW:∀(s:Xp) (u:Value),acb s fd ⟨[u],[]⟩ [(x,u)])(xo:∀(base:Heap) (H:Hp),(∀q∈tabs,Zl base q.1 q.2)->BMain mg base->CC tabs H->kC K H a (ns.map V.int)->sp base [.ref a] H (λv _=>v=.bl Λ) λ_ _ _=>False)(Vl:∀H e s',CX [] H bA (λ_ _ _=>False) e s'->False):
  aa9 (model P w) acq (.call (.ref fa) ⟨[.ref a],[]⟩) (λr s'=>r=.ok (.ret (.bool Λ))/\OldK bA.heap s'.heap/\s'.os=bA.os/\abK s'.gens) bA:=by
 have rv:=vX hi;have Vm:=hi.length;have DT:∀b,b∈tabs.map (·.2)->bA.heap.get? b=Δ (Z3 #[]):=λb hb=>by obtain⟨q,hq,rfl⟩:=YQ.mp hb;exact(hT q hq).2
 have aT:a∉tabs.map (·.2):=λz=>by have:=DT a z;rw[ha] at this;cases this
 have core:∀H:Hp,CC tabs H->kC K H a (ns.map V.int)->kA P w H bA.heap->(∀b,H b≠Θ->b=a\/b∈tabs.map (·.2))->(H a≠Θ->K.lookup a=Θ)->
   aa9 (model P w) acq (.call (.ref fa) ⟨[.ref a],[]⟩) (λr s'=>r=.ok (.ret (.bool Λ))/\OldK bA.heap s'.heap/\s'.os=bA.os/\abK s'.gens) bA:=by
  intro H hO hS aL hA hK;have rQ:∀{b:Addr} {o:Obj},bA.heap.get? b=Δ o->H b=Θ->(qS bA.heap H).get? b=Δ o:=λe n=>yM e n;have HD:∀{b:Addr} {o:Obj},bA.heap.get? b=Δ o->o.cls≠.none->(∀its n,o.data≠.seq its n)->H b=Θ:=λ{b o} e d1 d2=>by
   cases q:H b with
   |none=>rfl|some u=>
    rcases hA b (by rw[q];simp) with e'|e';·subst e';rw[ha] at e;cases e;exact absurd rfl (d2 _ _)
    ·rw[DT b e'] at e;cases e;exact absurd rfl d1
  have noD:∀{b:Addr} {o:Obj} {es:Array DictEntry} {ep:Nat},bA.heap.get? b=Δ o->o.data=.dict es ep->H b=Θ:=λ{b o es ep} e d=>by
   cases q:H b with
   |none=>rfl|some u=>
    rcases hA b (by rw[q];simp) with e'|e';·subst e';rw[ha] at e;cases e;cases d
    ·rw[DT b e'] at e;cases e;cases d
  have SV:∀{b:Addr} {m:Str->Option Value},bA.heap.Ns b m->(qS bA.heap H).Ns b m:=λ{b m} ⟨o,es,ep,e,d,r⟩=>⟨o,es,ep,rQ e (noD e d),d,r⟩;have hKb:K.In (qS bA.heap H):=λb o e=>rQ (KX b o e) (by
   cases q:H b with
   |none=>rfl|some u=>
    rcases hA b (by rw[q];simp) with e'|e';·subst e';rw[hK (by rw[q];simp)] at e;cases e
    ·have e2:=KX b o e;rw[DT b e'] at e2;cases e2;have h2:=YE.mp (Vk λz=>by rw[z] at e';cases e') _ (PySem.W.mem_of_lookupK e);exact absurd (show Ξ=Λ from h2) X8)
  have hM:Mod K mg (qS bA.heap H):=⟨hKb,SV K7,⟨mb,SV hb,hbb⟩,let ⟨mc,h1,h2⟩:=Vj;⟨mc,SV h1,h2⟩⟩;have e0:xm P w K mg (qS bA.heap H) acq [] bA H:=⟨rfl,hM,λb o e=>Cj e,abo (vP _ _),trivial,λb hb=>absurd (show b∈([]:List Addr) from hb) (by simp),aL,.of_eq hg⟩;have qf:∀q∈tabs,Zl (qS bA.heap H) q.1 q.2:=λq hq=>by obtain⟨o,us,file,tf,flags,tg,inF,text,tt,e1,r1,r2,r⟩:=(hT q hq).1;exact⟨o,us,file,tf,flags,tg,inF,text,tt,rQ e1 (HD e1 (by rw[r1];nofun) (by rw[r2];nofun)),r1,r2,r⟩
  have QE:BMain mg (qS bA.heap H):=by obtain⟨bm,ob,b1,b2,b3,b4,b5,b6⟩:=hbm;exact⟨bm,ob,b1,b2,rQ b3 (HD b3 (by rw[b4];nofun) (by rw[b6];nofun)),b4,b5,b6⟩
  refine abm ((F _ hKb (SV K7) qf QE).run acq [] bA H ⟨[.ref a],[]⟩ [.ref a] [.ref a] _ _ hr e0 (FW bA (.ref a)) (.cons rfl .nil) (xo _ H qf QE hO hS)) λr s' h=>?_;cases r with
  |error e=>exact(Vl H e s' h).elim|ok fl=>
   cases fl with
   |next=>exact Ys h|brk=>exact Ys h|cont=>exact Ys h|ret u=>
    obtain⟨v,H',os,bare,un,QF,r',q⟩:=h;have q':v=.bl Λ:=q;subst q';obtain rfl:u=Z8 Λ:=r';have way:∀b o,bA.heap.get? b=Δ o->s'.heap.get? b=Δ o\/(isCodeTable bA.heap b/\o=Z3 #[]/\∃ps,s'.heap.get? b=Δ (Z3 ps)):=λb o e=>by
     rcases hO.1 b with z|⟨ob,xs,z⟩|⟨z,zt⟩;·exact .inl (un.keep b o e z (by intro z;exact absurd (show b∈([]:List Addr) from z) (by simp)) (by simp))
     ·have z2:=un.oQ b ob _ z;obtain⟨e1,_⟩:=aL b _ z;obtain⟨e2,_⟩:=QF b _ z2;rw[e] at e1;cases e1;exact .inl e2
     ·obtain⟨more,z2⟩:=un.qQ b _ z;have e2:=QF b _ z2;have e3:=DT b zt;rw[e] at e3;obtain⟨q,hq,rfl⟩:=YQ.mp zt;exact .inr ⟨((hT q hq).1.tab (hT q hq).2).isCodeTable,XJ e3,_,e2⟩
    refine⟨rfl,⟨λb o e=>?_,λb o e=>?_⟩,os,bare⟩
    ·rcases way b o e with z|⟨z1,rfl,ps,z2⟩;·exact .inl z
     ·exact .inr (.inl ⟨z1,rfl,#[],ps,rfl,by rw[Array.empty_append];exact z2⟩)
    ·rcases way b o e with z|⟨_,_,ps,z2⟩;·exact⟨o,z⟩
     ·exact⟨_,z2⟩
 have tb:∀(b:Addr) (u:HO),u=.fk #[]->b∈tabs.map (·.2)->∀H:Hp,bI P w H bA.heap b u:=λb u e hb H=>by rw[e];exact DT b hb
 let H0:Hp:=λb=>if b∈tabs.map (·.2) then Δ (.fk #[]) else Θ
 cases hk:K.lookup a with
 |some o=>
  have e:=KX a o hk;rw[ha] at e;cases e;refine core H0 ⟨λb=>?_,λq hq=>if_pos (aau hq)⟩ (.inr ⟨_,vs.toArray,_,hk,rfl,rfl,rfl,by rw[Xh,Vm];exact hl,by simpa using rv⟩) (λb u z=>?_) (λb z=>.inr ?_) λz=>absurd (if_neg aT) z
  ·by_cases hb:b∈tabs.map (·.2);·exact .inr (.inr ⟨if_pos hb,hb⟩)
   ·exact .inl (if_neg hb)
  ·by_cases hb:b∈tabs.map (·.2);·have z':=(if_pos hb).symm.trans z;exact tb b u (XJ z').symm hb _
   ·have z':=(if_neg hb).symm.trans z;cases z'
  ·by_cases hb:b∈tabs.map (·.2);·exact hb
   ·exact absurd (if_neg hb) z
 |none=>
  let H1:Hp:=λb=>if b=a then Δ (.dz {cls:=.type "list",data:=.seq vs.toArray} (.lst (ns.map V.int))) else H0 b
  have SX:∀b,b≠a->H1 b=H0 b:=λb hb=>if_neg hb;refine core H1 ⟨λb=>?_,λq hq=>?_⟩ (.inl (.inr ⟨{cls:=.type "list",data:=.seq vs.toArray},if_pos rfl⟩)) (λb u z=>?_) (λb z=>?_) λ_=>hk
  ·by_cases hb:b=a;·exact .inr (.inl ⟨_,_,if_pos hb⟩)
   ·rw[SX b hb];by_cases u5:b∈tabs.map (·.2);·exact .inr (.inr ⟨if_pos u5,u5⟩)
    ·exact .inl (if_neg u5)
  ·rw[SX q.2 λz=>aT (z▸aau hq)];exact if_pos (aau hq)
  ·by_cases hb:b=a;·have z':=(if_pos hb).symm.trans z;cases z';subst hb;exact⟨ha,by rw[Xc];exact hl,vs,_,rv,ha⟩
   ·rw[SX b hb] at z;by_cases u5:b∈tabs.map (·.2);·have z':=(if_pos u5).symm.trans z;exact tb b u (XJ z').symm u5 _
    ·have z':=(if_neg u5).symm.trans z;cases z'
  ·by_cases hb:b=a;·exact .inl hb
   ·rw[SX b hb] at z;by_cases u5:b∈tabs.map (·.2);·exact .inr u5
    ·exact absurd (if_neg u5) z
theorem FX{l:ach}{K:Params->Xf}{CX:World->HC}{sp:World->(Str->Option Value)->List (Addr×Addr)->Heap->Sp}xs(hn:l.most=Δ n)(Sv:n<=Xv)(P0:d.params.defaults=[])(hr:de k acq)(hY:∀(w:World) (h:Heap),YP w h->(K w.params).In h)(xH:∀y∈xs,∃dr,(recsOf q).find? (λe=>e.name==y)=Δ dr)(F:∀(w:World) (mg:Str->Option Value) (fa:Addr) (h:Heap),(K w.params).In h->h.Ns Xk mg->mg d.name=Δ (.ref fa)->
   (xs≠[]->aaL (K w.params)=Λ)/\∃(tabs:List (Addr×Addr)) (fd:Zb),xs.map (Zx (K w.params))=tabs.map Δ/\(∀(s:Xp) (u:Value),acb s fd ⟨[u],[]⟩ [(x,u)])/\
    (∀base:Heap,(K w.params).In base->base.Ns Xk mg->(∀q∈tabs,Zl base q.1 q.2)->BMain mg base->gp l.prog w (K w.params) mg base (CX w) k fa fd [x] (sp w mg tabs base))/\
    ∀(base:Heap) (H:Hp) (a:Addr) (ns:List Int),ns.length<=n->(∀q∈tabs,Zl base q.1 q.2)->BMain mg base->CC tabs H->kC (K w.params) H a (ns.map V.int)->sp w mg tabs base [.ref a] H (λv _=>v=.bl Λ) λ_ _ _=>False)(Vl:∀(w:World) (H:Hp) (s:Xp) (e:Value) (s':Xp),CX w [] H s (λ_ _ _=>False) e s'->False):
  PySem.W.WalkO q loose XP YP l.row.toRowW d [] (λf vs=>acW f vs):=by
 refine Att.y9 hn P0 λw gO bA mg mb fa o pm cd doc a vs ns G Y ho hd qf P4 DJ hints hlen hg=>?_;have KX:=hY w _ Y;obtain⟨Vk,tabs,fd,MG,hb,hF,xo⟩:=F w mg fa _ KX G.T.g P4;have hT:PySem.W.TabsAt tabs bA.heap:=λt ht=>by
  have hm:Δ t∈xs.map (Zx (K w.params)):=by rw[MG];exact aau ht
  obtain⟨y,hy,e⟩:=YQ.mp hm;obtain⟨dr,hdr⟩:=xH y hy;exact PySem.W.tab_of G.T KX hdr e
 exact DS KX G.T.g G.T.b G.T.builtins G.T.nolimit hg hT (λz=>Vk λy=>z (by rw[y] at MG;exact List.map_eq_nil_iff.mp MG.symm)) G.T.bmain DJ hints (XW hlen Sv) hr hF hb (λbase H h1 h2 h3 h4=>xo base H a ns hlen h1 h2 h3 h4) λH e s'=>Vl w H bA e s'
noncomputable def eQ(a:ZQ)(ps:List Str):Bool:=a.posonlyargs.isEmpty&&a.vararg.isNone&&a.kwonlyargs.isEmpty&&a.kw_defaults.isEmpty&&a.kwarg.isNone&&a.defaults.isEmpty&&decide (a.args.map (·.arg)=ps)&&decide ps.Nodup&&a.args.all λx=>x.annotation.isNone
theorem sU:∀{ps:List Str} {us:List Value},us.length=ps.length->∀n∈ps,((ps.zip us).lookup n).isSome=Λ
 |[],_,_,n,h=>by cases h|p::ps,[],hl,_,_=>by simp at hl|p::ps,u::us,hl,n,h=>by
  rw[aaE,XB];cases hb:n==p with
  |true=>rfl|false=>
   rcases Zy.mp h with e|e;·rw[e] at hb;simp at hb
   ·exact sU (by simpa using hl) n e
theorem l8:∀{ps:List Str} {us} {l:List (Str×Value)},us.length=ps.length->ps.Nodup->(∀n∈ps,l.lookup n=(ps.zip us).lookup n)->ps.filterMap (λn=>(l.lookup n).map λv=>(n,v))=ps.zip us
 |[],us,l,_,_,_=>by simp|p::ps,[],l,hl,_,_=>by simp at hl|p::ps,u::us,l,hl,nd,h=>by
  rw[YC] at nd;have h0:=h p W8;rw[aaE,XB,beq_self_eq_true] at h0;have h0':l.lookup p=Δ u:=h0;rw[Y4,h0',aaE];show(p,u)::_=_;congr 1;refine l8 (by simpa using hl) nd.2 λn hn=>?_;have:=h n (W5 _ hn);rw[aaE,XB] at this;have hb:(n==p)=Ξ:=by rw[beq_eq_false_iff_ne];exact λz=>nd.1 (z▸hn)
  rw[hb] at this;exact this
theorem iN(ha:eQ fd.params ps=Λ)(hd:fd.defaults=.none)(hl:us.length=ps.length):acU fd ⟨us,[]⟩=pure (ps.zip us):=by
 obtain⟨fname,fq,Vn,fbody,fsc,fgl,fcl,nK,fkw,fdoc,fpm,fan,fcd,fct,fbi⟩:=fd;obtain⟨po,as,va,ko,kd,ka,df⟩:=Vn;dsimp only at ha hd;unfold eQ at ha;simp only[W3,Xo,Yp,qqq] at ha;obtain⟨⟨⟨⟨⟨⟨⟨⟨rfl,rfl⟩,rfl⟩,rfl⟩,rfl⟩,rfl⟩,e⟩,nd⟩,_⟩:=ha;have q:seqItems? Zd=pure Θ:=rfl;have m0:((as.map (·.arg)).take (as.map (·.arg)).length).filter (λn=>(((as.map (·.arg)).zip us).lookup n).isNone)=[]:=by rw[Zt];intro n hn hc;have EU:n∈as.map (·.arg):=List.mem_of_mem_take hn;have:=sU (us:=us) (by rw[e];exact hl) n EU;cases hx:((as.map (·.arg)).zip us).lookup n with|none=>rw[hx] at this;cases this|some v=>rw[hx] at hc;cases hc
 have g0:¬(us.length > (as.map (·.arg)).length):=by rw[e];lia
 have z0:(as.map (·.arg)).filterMap (λn=>(((as.map (·.arg)).zip us).lookup n).map λv=>(n,v))=(as.map (·.arg)).zip us:=l8 (by rw[e];exact hl) (by rw[e];exact nd) λ_ _=>rfl;unfold acU;simp only[hd,q,Zs,Zn,aal,pure_bind,abV,Y8,Nat.sub_zero,List.drop_nil,Nat.zero_sub,m0,List.isEmpty_nil,Bool.not_true,XR,if_false,List.zip_nil_right,Ya,z0];have g1:(decide (us.length > (as.map (·.arg)).length)&&(Θ:Option Arg).isNone)=Ξ:=by rw[decide_eq_false g0];rfl
 simp[g0,m0,z0,e];intro h
 lia
noncomputable def iO(cells:List (Str×Addr)):List (Str×ZS)->List (Str×Addr)->List (Str×Addr)
 |[],acc=>acc|(x,k)::r,acc=>if k=.free then iO cells r ((x,(cells.lookup x).getD 0)::acc) else iO cells r acc
theorem mB:∀{names} {acc},(∀x,(x,Xt)∈names->∃c,env.cells.lookup x=Δ c)->
  (forIn names acc λ(p:Str×ZS) (cs:List (Str×Addr))=>(match p with|(name,kind)=>if(kind==Xt)=Λ then do {let c<-acM env name;pure (YR ((name,c)::cs))} else pure (YR cs):Sem (ForInStep (List (Str×Addr)))))=pure (iO env.cells names acc)
 |[],acc,_=>rfl|(x,k)::r,acc,h=>by
  rw[ZN];by_cases hk:k=.free
  ·subst hk;obtain⟨c,hc⟩:=h x W8;have e:acM env x=pure c:=by unfold acM;rw[hc]
   simp only[beq_self_eq_true,if_true,e,pure_bind];rw[mB λy hy=>h y (W5 _ hy)];simp only[iO,if_true,hc,Option.getD_some]
  ·have hb:(k==Xt)=Ξ:=by rw[beq_eq_false_iff_ne];exact hk
   simp only[hb,XR,if_false,pure_bind];rw[mB λy hy=>h y (W5 _ hy)];simp only[iO,if_neg hk]
theorem l9(h:∀x,(x,Xt)∈scope.names->∃c,env.cells.lookup x=Δ c):abr scope env=pure (iO env.cells scope.names []):=by unfold abr;have:=mB (acc:=[]) h;simp only[bind_pure];exact this
theorem jP:∀{names} {acc},(∀y,(y,Xt)∈names->∃c,cells.lookup y=Δ c)->
  ((x,Xt)∈names->(iO cells names acc).lookup x=cells.lookup x)/\((x,Xt)∉names->(iO cells names acc).lookup x=acc.lookup x)
 |[],acc,_=>⟨(λh=>nomatch h),λ_=>rfl⟩|(y,k)::r,acc,h=>by
  have hr:∀z,(z,Xt)∈r->∃c,cells.lookup z=Δ c:=λz hz=>h z (W5 _ hz);by_cases hk:k=.free
  ·subst hk;simp only[iO,if_true];obtain⟨i1,i2⟩:=jP (x:=x) (acc:=(y,(cells.lookup y).getD 0)::acc) hr;by_cases hx:(x,Xt)∈r;·exact⟨λ_=>i1 hx,λz=>absurd (W5 _ hx) z⟩
   ·by_cases Vo:x=y;·subst Vo;obtain⟨c,hc⟩:=h x W8;refine⟨λ_=>?_,λz=>absurd W8 z⟩;rw[i2 hx,XB,beq_self_eq_true,hc];rfl
    ·have hb:(x==y)=Ξ:=by rw[beq_eq_false_iff_ne];exact Vo
     refine⟨λz=>?_,λ_=>?_⟩
     ·rcases Zy.mp z with z|z;·injection z with z1 _;exact absurd z1 Vo
      ·exact absurd z hx
     ·rw[i2 hx,XB,hb]
  ·simp only[iO,if_neg hk];obtain⟨i1,i2⟩:=jP (x:=x) (acc:=acc) hr;refine⟨λz=>?_,λz=>i2 λy=>z (W5 _ y)⟩;rcases Zy.mp z with z|z;·injection z with _ z2;exact absurd z2.symm hk
   ·exact i1 z
theorem kM(h:eQ a ps=Λ)env:defaultsOf a env=([],[])/\a.defaults=[]/\a.kw_defaults=[]:=by obtain⟨po,as,va,ko,kd,ka,df⟩:=a;unfold eQ at h;simp only[W3,Xo,Yp,qqq] at h;obtain⟨⟨⟨⟨⟨⟨⟨⟨rfl,rfl⟩,rfl⟩,rfl⟩,rfl⟩,rfl⟩,e⟩,nd⟩,_⟩:=h;exact⟨rfl,rfl,rfl⟩
theorem zx:∀{as},(as.all λx=>x.annotation.isNone)=Λ->abO as env=[]
 |[],_=>by unfold abO;rfl|⟨x,an,p⟩::r,h=>by
  rw[YY,W3] at h;have e:an=Θ:=Yp.mp h.1;subst e;have ih:=zx (env:=env) h.2;first
   |(unfold abO;exact ih)
   |(simp only[abO,ih])
theorem DU(h:eQ a ps=Λ)env:annTrees a Θ env=[]:=by obtain⟨po,as,va,ko,kd,ka,df⟩:=a;unfold eQ at h;simp only[W3,Xo,Yp,qqq] at h;obtain⟨⟨⟨⟨⟨⟨⟨⟨rfl,rfl⟩,rfl⟩,rfl⟩,rfl⟩,rfl⟩,e⟩,nd⟩,an⟩:=h;unfold annTrees;simp only[Ya,Option.toList_none];rw[zx an];rfl
section
variable{X:Cx}{η:List (Addr×Obj)}{σ:St}{H:Hp}{s:Xp}{a:Addr}{kvs:List (Key×V)}{k:Key}{u r:Value}{z:V}{A:YF}{E:Value->Xp->Prop}
theorem FY(I:Inv X η σ H s)(e:H a=Δ (.dK kvs))(ry:RelV (kV k) u)(rz:RelV z r)(hl:kvs.length < Xv)(h1:∀v w' s',fu kvs k=Δ v->Inv X η σ H s'->RelV v w'->Q w' s')(h2:fu kvs k=Θ->∀s',Inv X η σ (upd H a (.dK (putK kvs k z))) s'->Q r s'):
  wpAny (model X.prog X.w) A (call (.builtin "dict.setdefault") [.ref a,u,r]) Q E s:=by
 obtain⟨zz,hd,vs,rel,dd⟩:=vW I.aL e;refine abn PySem.F.slot_dict_setdefault dd.typeIs PySem.F.entry_dict_setdefault (PySem.F.args_dict_setdefault_3 _ _ _) (kt_meets_setdefault (be X.prog X.w) a (nE ry) hd r)
  ⟨vs,dd,by rw[<-rel.length];exact zz,λw' hw=>?_,λhn h' yE hs=>?_⟩
 ·have rr:=rel.val k;rw[hw] at rr;cases hv:fu kvs k with|none=>rw[hv] at rr;exact(show False from rr).elim|some v=>rw[hv] at rr;exact h1 v w' _ hv (I.tok _) rr
 ·have rr:=rel.val k;rw[hn] at rr;cases hv:fu kvs k with
  |some v=>rw[hv] at rr;exact(show False from rr).elim|none=>
   have he:∃q,h'.get? a=Δ q:=let ⟨q,_,_,hq,_⟩:=yE;⟨q,hq⟩
   have m9:(putK kvs k z).length<=Xv:=by have:=iK kvs k z;lia
   exact h2 hv _ (jK I (by rw[e];exact YH) hs he (sI m9 hd (rel.put k rz) yE))
end
def MH(td ty tx:TE):TE:=λσ H Q=>td σ H λx H1=>∃a,x=.ref a/\SF H1 a/\ty σ H1 λy H2=>tx σ H2 λz H3=>∃kvs k,H3 a=Δ (.dK kvs)/\y=kV k/\kvs.length < Xv/\
 (∀v,fu kvs k=Δ v->Q v H3)/\(fu kvs k=Θ->Q z (upd H3 a (.dK (putK kvs k z))))
section
variable{X:Cx}{o e f:Expr}{apos fE:Pos}{td ty tx:TE}
theorem FZ(ho:PE X o td)(he:PE X e ty)(hf:PE X f tx)(m:M2 X o "setdefault" apos e f fE):PE X (.Call (.Attribute o "setdefault" apos) [e,f] [] fE) (MH td ty tx):=by intro η s σ H Q I h;refine wpAny_Call_method m.base m.UB m.line aaG PySem.F.slot_dict_setdefault PySem.F.type_dict_setdefault (bR (ho η s σ H _ I h) λu s1 ⟨x,H1,I1,rx,a,ex,d,q1⟩=>?_);subst ex;obtain rfl:u=XC a:=rx;obtain⟨t1,t2,_⟩:=Bs I1 d;refine⟨t1,t2,?_⟩;rw[m.trees];refine Zu rfl (abe (aab (bR (he η s1 σ H1 _ I1 q1) λiv s2 ⟨y,H2,I2,ry,q2⟩=>aab (bR (hf η s2 σ H2 _ I2 q2) λfv s3 ⟨z,H3,I3,rz,kvs,k,ea,ey,hl,q3,q4⟩=>aaU ?_))));subst ey;exact FY I3 ea ry rz hl (λv w' s4 hv I4 mx=>⟨v,H3,I4,mx,q3 v hv⟩) λhn s4 I4=>⟨z,_,I4,rz,q4 hn⟩
end
def QG(K:Xf)(a:Addr):It:=
 ⟨λi H=>∃xs x,kC K H a xs/\xs[i]?=Δ x,λi H x H'=>∃T v,H T=Θ/\H'=upd H T (.tup [.int i,v])/\x=.ref T/\∀xs,kC K H a xs->xs[i]?=Δ v,λi H=>∃xs,kC K H a xs/\xs.length<=i⟩
theorem BH{P:Yb}{w:World}{K:Xf}{elts:List Expr}{kk:Nat}{pos:Pos}(a it e:Addr)(OF:e≠it):Turn P w K (.Tuple elts kk pos) (QG K a) [e,it] e (λi h=>(∃old,IsEnum h e it i old)/\h.IsListIter it a i) where
 mem:=by simp
 obj:=λi h st b hb=>by
  obtain⟨⟨old,he⟩,o,eo,c,d⟩:=st;have iM:b=e\/b=it:=by simpa using hb
  rcases iM with z|z;·rw[z];exact⟨_,he,λv z=>nomatch z⟩
  ·rw[z];exact⟨o,eo,λv z=>by rw[d] at z;cases z⟩
 keep:=λi h h' st k=>⟨let ⟨old,he⟩:=st.1;⟨old,k e (by simp) _ he⟩,st.2.at λo x=>k it (by simp) o x⟩
 item:=by
  intro X hP hw hK hc i η s σ H E I hf st hg;subst hP hw hK;obtain⟨xs,x,hq,hx⟩:=hg;obtain⟨its,rv,p,hz⟩:=I.list hq;have p':s.heap.IsList a its.toArray:=p.isList;obtain⟨u,hu,ru⟩:=rv.get hx;obtain⟨f0,f1,f2,f3,f4,f5⟩:=hf it (by simp);obtain⟨g0,g1,g2,g3,g4,g5⟩:=hf e (by simp);obtain⟨⟨old,he⟩,hit⟩:=st;refine wpAny_pyNext_enum_item he hit p' (x:=u) (by simpa using hu) OF λh' ho sM hT hsz hk=>?_;refine⟨_,rfl,?_⟩;refine wpAny_letOwnedTupleGo_enum ho λh2 K5 HG=>?_;have Qv:s.heap.objs.size≠e:=Yk (Xl he);have OG:s.heap.objs.size≠it:=by obtain⟨o,eo,_⟩:=hit;exact Yk (Xl eo)
  have zo:∀b o,b≠e->b≠it->s.heap.get? b=Δ o->h2.get? b=Δ o:=λb o h1 h3 q=>HG.extBut b o h1 (hk b o h1 h3 q);have hn:H s.heap.objs.size=Θ:=I.aL.fresh (Xd _);have ET:∀b v,H b=Δ v->b≠e/\b≠it:=λb v q=>⟨(λz=>by rw[z,g0] at q;cases q),(λz=>by rw[z,f0] at q;cases q)⟩;have Qw:h2.get? s.heap.objs.size=Δ {cls:=.type "tuple",data:=.seq #[.int i s.toks,u]}:=HG.extBut _ _ Qv hT;have I1:Inv X η σ (upd H s.heap.objs.size (.tup [.int i,x])) {s with heap:=h2,toks:=s.toks+1}:=by
   refine I.step (g':=s.gens) (d':=s.drawn) (ch:=[e,it]) (λb hb=>?_) (λb o _ _ hc q _=>zo b o (λz=>hc (by simp[z])) (λz=>hc (by simp[z])) q) (λb o _ _ hc q _=>⟨o.slots,zo b o (λz=>hc (by simp[z])) (λz=>hc (by simp[z])) q⟩)
    (λb o _ q n=>by rw[ax (XD (Xl q))];exact n) (λb o hc q=>⟨o,zo b o (λz=>hc (by simp[z])) (λz=>hc (by simp[z])) q⟩) (λb xs q=>by rw[ax (aO q hn)];exact q) (λb o v q=>by rw[ax (aO q hn)];exact q)
    (λb ps q=>⟨#[],by rw[ax (aO q hn),q];simp⟩) (λm hm=>?_) (λb v q=>?_) I.bare
   ·have iM:b=e\/b=it:=by simpa using hb
    rcases iM with z|z;·rw[z];exact⟨g3,g1,g4,g5⟩
    ·rw[z];exact⟨f3,f1,f4,f5⟩
   ·obtain⟨o,es,ep,oR,r⟩:=hm;exact⟨o,es,ep,zo _ o (Yc g1) (Yc f1) oR,r⟩
   ·by_cases hb:b=s.heap.objs.size;·rw[hb,aD] at q;cases q;rw[hb];exact⟨by rw[YJ];simp,[.int i s.toks,u],.cons ⟨_,rfl⟩ (.cons ru .nil),⟨_,Qw,rfl,_,rfl⟩⟩
    ·rw[ax hb] at q;refine(I.aL b v q).ng (λc y hc qq=>?_) (λc qq=>by rw[ax (aO qq hn)];exact qq) λc xs qq=>by rw[ax (aO qq hn)];exact qq
     have:c≠e/\c≠it:=by
      rcases hc with z|z;·rw[z];exact ET b v q
      ·exact ET c _ z
     exact zo c y this.1 this.2 qq
  refine⟨.ref s.heap.objs.size,_,I1,rfl,⟨s.heap.objs.size,x,hn,rfl,rfl,λys hy=>by rw[I.yP hy hq];exact hx⟩,⟨⟨u,by simpa using K5⟩,sM.at λo q=>HG.extBut _ _ (Yc OF) q⟩,λb hb=>?_⟩;have iM:b=e\/b=it:=by simpa using hb
  rcases iM with z|z;·rw[z,ax (Yc Qv)];exact g0
  ·rw[z,ax (Yc OG)];exact f0
 done:=by
  intro X hP hw hK hc i η s σ H E I hf st hg;subst hP hw hK;obtain⟨xs,hq,hx⟩:=hg;obtain⟨its,rv,p,hz⟩:=I.list hq;obtain⟨f0,f1,f2,f3,f4,f5⟩:=hf it (by simp);obtain⟨⟨old,he⟩,hit⟩:=st;have hl:=rv.length;have hT:s.TypeIs (.ref e) "enumerate":=⟨_,he,rfl⟩;unfold abN;refine W2 (abM (X4 (name:=XY "__next__") hT Zr
   (Yv Zr hT PySem.F.entry_enumerate_next ?_ (PySem.F.args_enumerate_next_1 _))))
  show wpAny _ _ (field (.ref e) 2 >>=_) _ _ _;refine W2 (Yf he rfl (x:=.ref it) rfl ?_);refine W2 (wpAny_nextOf_list_end (I.ok.hd hc) hit p.isList (by simp;lia) λh' y Va yF=>?_);obtain⟨o,ho,xE⟩:=yF;refine W2 (abR (T:="StopIteration") (b:=Λ) ⟨o,ho,xE⟩ ack ?_);exact Xe ⟨rfl,I.turned (t':=s.toks) (λb o hb q=>Va b o hb q) f0 f1 f3 f4 f5⟩
 self:=λ_ _ _ _ _ st h=>let ⟨old,he⟩:=st.1;aaK he h
section
variable{X:Cx}
def MI(K:Xf)(ta:TA):TI:=λσ H R=>ta σ H λvs H1=>∃a,vs=[.ref a]/\(∃xs,kC K H1 a xs)/\R (QG K a) H1
theorem Ga(hg:Gl X "enumerate")(hm:X.mg "enumerate"=Θ)(ha:PA X [x] ta)(hs:XG [x] X.env=[(Ξ,eval x X.env)]):
  PI X (.Tuple elts kk p3) (.Call (.Name "enumerate" p) [x] [] pos) (MI X.K ta):=by
 intro η s σ H R I h;refine Call_ (jG I hg hm boot_enumerate (Yh (bR (ha pos η s σ H _ I h) λus s1 ⟨vs,H1,I1,r1,q1⟩=>?_) hs rfl) (by decide+kernel) (by decide+kernel));obtain⟨a,rfl,⟨xs,hq⟩,q⟩:=q1;obtain⟨u,rfl,ru⟩:=vals1 r1;cases ru;obtain⟨its,rv,pl,hz⟩:=I1.list hq;refine call_enumerate_list pl.isList λh' he hit hsz hk=>?_;refine aaK he ?_;have I2:Inv X η σ H1 {s1 with heap:=h'}:=I1.kept (t':=s1.toks) hk;refine⟨s1.heap.objs.size+1,[s1.heap.objs.size+1,s1.heap.objs.size],_,_,H1,rfl,I2,BH a _ _ (Nat.succ_ne_self _),⟨⟨_,he⟩,hit⟩,λb hb=>?_,q⟩;have iM:b=s1.heap.objs.size+1\/b=s1.heap.objs.size:=by simpa using hb
 rcases iM with z|z;·rw[z];exact I1.xj (Y6 _) (I1.aL.fresh (Y6 _))
 ·rw[z];exact I1.xj (Xd _) (I1.aL.fresh (Xd _))
end
theorem acB.get'{α β:Type}{F:α->β->Prop}{EO:List α}{ER:List β}(r:acB F EO ER):∀{i:Nat} {x},EO[i]?=Δ x->∃u,ER[i]?=Δ u/\F x u:=by induction r with|nil=>intro i x e;simp at e|@cons a b as bs h t ih=>intro i x e;cases i with|zero=>simp at e;subst e;exact⟨b,rfl,h⟩|succ i=>simpa using ih (by simpa using e)
def Iti(d:Addr)(o:Obj)(kvs:List (Key×V)):It:=
 ⟨λi H=>H d=Δ (.dz o (.dK kvs))/\i < kvs.length,λi H x H'=>∃T k v,kvs[i]?=Δ (k,v)/\H T=Θ/\H'=upd H T (.tup [kV k,v])/\x=.ref T,λi H=>H d=Δ (.dz o (.dK kvs))/\kvs.length<=i⟩
theorem Gb(ok:kA P w H h)(e:H d=Δ (.dz o (.dK kvs)))(ho:o.data=.dict es ep):
  ∃vs,KV kvs vs/\Heap.DictAt (be P w) h d vs ep:=by
 obtain⟨h1,z,hs,vs,r,o',Sn,So,h2,h3,h4,h5⟩:=(show bI P w H h d (.dz o (.dK kvs)) from ok d _ e);rw[h1] at h2;cases h2;rw[ho] at h4;cases h4;exact⟨vs,r,o,es,h1,h3,ho,h5⟩
theorem Gc(h:(be P w).is k u=Λ):RelV (kV k) u:=by
 rcases b8 h with ⟨i,t,rfl,rfl⟩|⟨x,t,rfl,rfl⟩
 ·exact⟨t,rfl⟩
 ·exact⟨t,rfl⟩
theorem lS:entryFor table "dict_itemiterator.__iter__"=Δ aba.«dict_keyiterator.__iter__»:=
 entryFor_alias (id':="dict_keyiterator.__iter__") (by kernel_rfl) rfl (by decide+kernel) (by kernel_rfl)
theorem vn(hit:IsItemIter s.heap it d i n ep ok ov)(h:Q (.ref it) s):wpAny (model prog w) A (pyIter (.ref it)) Q E s:=by have ht:s.TypeIs (.ref it) "dict_itemiterator":=⟨_,hit,rfl⟩;refine wpAny_pyIter_slot ht F.slot_dict_itemiterator_iter (Yv F.slot_dict_itemiterator_iter ht lS ?_ (F.args_dict_itemiterator_iter_1 _));show wpAny _ _ (ret (.ref it)) _ _ s;exact Xe ⟨_,rfl,"dict_itemiterator",_,ht,F.slot_dict_itemiterator_next.lookup,h⟩
theorem BI{P:Yb}{w:World}{K:Xf}{elts:List Expr}{kk:Nat}{pos:Pos}(d it:Addr)(o:Obj)(kvs:List (Key×V))(es:Array DictEntry)(ep:Nat)(ho:o.data=.dict es ep):
  Turn P w K (.Tuple elts kk pos) (Iti d o kvs) [it] it (λi h=>∃ok ov,IsItemIter h it d i kvs.length ep ok ov) where
 mem:=by simp
 obj:=λi h st b hb=>by
  obtain⟨ok,ov,he⟩:=st;have iM:b=it:=by simpa using hb
  rw[iM];exact⟨_,he,λv z=>nomatch z⟩
 keep:=λi h h' st k=>let ⟨ok,ov,he⟩:=st;⟨ok,ov,k it (by simp) _ he⟩
 item:=by
  intro X hP hw hK hc i η s σ H E I hf st hg;subst hP hw hK;obtain⟨hd,hi⟩:=hg;obtain⟨ok,ov,hit⟩:=st;obtain⟨vs,rel,da⟩:=Gb I.aL hd ho;have hlen:kvs.length=vs.length:=rel.length;obtain⟨f0,f1,f2,f3,f4,f5⟩:=hf it (by simp);obtain⟨⟨k,v⟩,qv⟩:∃p,kvs[i]?=Δ p:=⟨kvs[i],W6 hi⟩;obtain⟨⟨k',u⟩,hu,ek,ru⟩:=acB.get' rel qv;cases (show k=k' from ek);rw[hlen] at hit;refine wpAny_pyNext_items_item hit da hu λkey h' hk out hT hsz DQ=>?_;refine⟨_,rfl,?_⟩;refine wpAny_letOwnedTupleGo_items out λh2 K5 HG=>?_;have OG:s.heap.objs.size≠it:=Yk (Xl hit);have zo:∀b o,b≠it->s.heap.get? b=Δ o->h2.get? b=Δ o:=λb o h1 q=>HG.extBut b o h1 (DQ b o h1 q);have hn:H s.heap.objs.size=Θ:=I.aL.fresh (Xd _);have ET:∀b v,H b=Δ v->b≠it:=λb v q z=>by rw[z,f0] at q;cases q
  have Qw:h2.get? s.heap.objs.size=Δ {cls:=.type "tuple",data:=.seq #[key,u]}:=HG.extBut _ _ OG hT;have I1:Inv X η σ (upd H s.heap.objs.size (.tup [kV k,v])) {s with heap:=h2}:=by
   refine I.step (g':=s.gens) (d':=s.drawn) (t':=s.toks) (ch:=[it]) (λb hb=>?_) (λb o _ _ hc q _=>zo b o (λz=>hc (by simp[z])) q) (λb o _ _ hc q _=>⟨o.slots,zo b o (λz=>hc (by simp[z])) q⟩)
    (λb o _ q n=>by rw[ax (XD (Xl q))];exact n) (λb o hc q=>⟨o,zo b o (λz=>hc (by simp[z])) q⟩) (λb xs q=>by rw[ax (aO q hn)];exact q) (λb o v q=>by rw[ax (aO q hn)];exact q)
    (λb ps q=>⟨#[],by rw[ax (aO q hn),q];simp⟩) (λm hm=>?_) (λb v' q=>?_) I.bare
   ·have iM:b=it:=by simpa using hb
    rw[iM];exact⟨f3,f1,f4,f5⟩
   ·obtain⟨o,es,ep,oR,r⟩:=hm;exact⟨o,es,ep,zo _ o (Yc f1) oR,r⟩
   ·by_cases hb:b=s.heap.objs.size;·rw[hb,aD] at q;cases q;rw[hb];exact⟨by rw[YJ];simp,[key,u],.cons (Gc hk) (.cons ru .nil),⟨_,Qw,rfl,_,rfl⟩⟩
    ·rw[ax hb] at q;refine(I.aL b v' q).ng (λc y hc qq=>?_) (λc qq=>by rw[ax (aO qq hn)];exact qq) λc xs qq=>by rw[ax (aO qq hn)];exact qq
     have:c≠it:=by
      rcases hc with z|z;·rw[z];exact ET b v' q
      ·exact ET c _ z
     exact zo c y this qq
  refine⟨.ref s.heap.objs.size,_,I1,rfl,⟨s.heap.objs.size,k,v,qv,hn,rfl,rfl⟩,⟨key,u,by rw[hlen];exact K5⟩,λb hb=>?_⟩;have iM:b=it:=by simpa using hb
  rw[iM,ax (Yc OG)];exact f0
 done:=by intro X hP hw hK hc i η s σ H E I hf st hg;subst hP hw hK;obtain⟨hd,hi⟩:=hg;obtain⟨ok,ov,hit⟩:=st;obtain⟨vs,rel,da⟩:=Gb I.aL hd ho;have hlen:kvs.length=vs.length:=rel.length;obtain⟨f0,f1,f2,f3,f4,f5⟩:=hf it (by simp);rw[hlen] at hit;exact wpAny_pyNext_items_end (I.ok.hd hc) hit da (XI (by lia)) λh' eb=>⟨rfl,I.turned (t':=s.toks) (λb o hb q=>eb b o hb q) f0 f1 f3 f4 f5⟩
 self:=λA i s Q E st h=>by obtain⟨ok,ov,he⟩:=st;exact vn he h
section
variable{X:Cx}{η:List (Addr×Obj)}{σ:St}{H:Hp}{s:Xp}
theorem Inv.re(I:Inv X η σ H s)(e:H d=Δ u)(h1:∀xs,u≠.tup xs)(h2:∀ps,u≠.fk ps)(h3:∀b,u≠.own b)(hf:∀o v,X.yN d=Δ (.dz o v)->u'=.dz o v)(new:bI X.prog X.w H s.heap d u'):Inv X η σ (upd H d u') s:=by
 have st:∀{b:Addr} {v:HO},bI X.prog X.w H s.heap b v->bI X.prog X.w (upd H d u') s.heap b v:=λx=>x.ng (λ_ _ _ q=>q) (λc q=>by
  rw[ax (λz=>by rw[z,e] at q;exact h3 _ (XJ q))];exact q) λc xs q=>by
  rw[ax (λz=>by rw[z,e] at q;exact h1 _ (XJ q))];exact q
 have nn:∀{b:Addr},H b=Θ->upd H d u' b=Θ:=λ{b} q=>by rw[ax (λz=>by rw[z,e] at q;cases q)];exact q
 refine⟨I.ok,I.os,I.bare,⟨I.base.keep,I.base.slot,λb o q n hx=>nn (I.base.free b o q n hx),I.base.there,λb xs q=>?_,λb o v q=>?_,λb ps q=>?_⟩,I.loc,I.cell,nn I.free,λx c q=>nn (I.kf x c q),λp hp=>?_,λb v q=>?_,I.len⟩;·have:=I.base.so b xs q;rw[ax (λz=>by rw[z,e] at this;exact h1 _ (XJ this))];exact this
 ·by_cases z:b=d;·rw[z] at q ⊢;rw[aD,hf o v q]
  ·rw[ax z];exact I.base.oQ b o v q
 ·obtain⟨more,this⟩:=I.base.qQ b ps q;exact⟨more,by rw[ax (λz=>by rw[z,e] at this;exact h2 _ (XJ this))];exact this⟩
 ·obtain⟨q1,q2,q3⟩:=I.pin p hp;exact⟨q1,nn q2,q3⟩
 ·by_cases z:b=d;·rw[z,aD] at q;cases q;rw[z];exact st new
  ·rw[ax z] at q;exact st (I.aL b v q)
def NF(X:Cx)(d:Addr):Prop:=∀o v,X.yN d≠Δ (.dz o v)
theorem Inv.hold(I:Inv X η σ H s)(e:H d=Δ (.dK kvs)):∃o es ep,s.heap.get? d=Δ o/\o.data=.dict es ep/\NF X d/\Inv X η σ (upd H d (.dz o (.dK kvs))) s:=by
 have ok:bI X.prog X.w H s.heap d (.dK kvs):=I.aL d _ e;obtain⟨z,hs,vs,r,o,es,ep,h2,h3,h4,h5⟩:=id ok;have nf:NF X d:=λo' v q=>by have:=I.base.oQ d o' v q;rw[e] at this;cases this
 exact⟨o,es,ep,h2,h4,nf,I.re e (λ_ z=>nomatch z) (λ_ z=>nomatch z) (λ_ z=>nomatch z) (λo' v q=>absurd q (nf o' v)) ⟨h2,ok⟩⟩
theorem Inv.DV(I:Inv X η σ H s)(e:H d=Δ (.dz o u))(nf:NF X d):Inv X η σ (upd H d u) s:=by obtain⟨h1,h2⟩:=(show bI X.prog X.w H s.heap d (.dz o u) from I.aL d _ e);exact I.re e (λ_ z=>nomatch z) (λ_ z=>nomatch z) (λ_ z=>nomatch z) (λo' v q=>absurd q (nf o' v)) h2
def v8(X:Cx)(D:Ends):Ends where
 nx:=λσ H=>∃d o u,H d=Δ (.dz o u)/\NF X d/\D.nx σ (upd H d u)
 rt:=λv H=>∃d o u,H d=Δ (.dz o u)/\NF X d/\D.rt v (upd H d u)
 bk:=λσ H=>∃d o u,H d=Δ (.dz o u)/\NF X d/\D.bk σ (upd H d u)
 ct:=λσ H=>∃d o u,H d=Δ (.dz o u)/\NF X d/\D.ct σ (upd H d u)
theorem IW{st:Stmt}(h:PS X st t):PS X st (λD σ H=>t (v8 X D) σ H):=by intro η s σ H D I q;refine bR (h η s σ H _ I q) λf s1 q1=>?_;cases f with|next=>obtain⟨cX,H',I',d,o,u,e,nf,q'⟩:=q1;exact⟨cX,_,I'.DV e nf,q'⟩|brk=>obtain⟨cX,H',I',d,o,u,e,nf,q'⟩:=q1;exact⟨cX,_,I'.DV e nf,q'⟩|cont=>obtain⟨cX,H',I',d,o,u,e,nf,q'⟩:=q1;exact⟨cX,_,I'.DV e nf,q'⟩|ret w'=>obtain⟨v,cX,H',I',r,d,o,u,e,nf,q'⟩:=q1;exact⟨v,cX,_,I'.DV e nf,r,q'⟩
end
section
variable{X:Cx}
def MJ(X:Cx)(td:TE):TI:=λσ H R=>td σ H λx H1=>∃d kvs,x=.ref d/\H1 d=Δ (.dK kvs)/\∀o,NF X d->R (Iti d o kvs) (upd H1 d (.dz o (.dK kvs)))
theorem Gd(ho:PE X x td)(yS:ZV x "items" X.env (eval x X.env)=eval x X.env)(lZ:(apos.endLine==fE.line)=Λ):
  PI X (.Tuple elts kk p3) (.Call (.Attribute x "items" apos) [] [] fE) (MJ X td):=by
 intro η s σ H R I h;refine wpAny_Call_method0_late yS lZ (bR (ho η s σ H _ I h) λv s1 ⟨y,H1,I1,r1,d,kvs,ey,ed,q1⟩=>?_);subst ey;cases r1;obtain⟨t1,t2,DW⟩:=Bs I1 (.inl ⟨kvs,.inl ed⟩);refine⟨"dict","dict.items",aaG,PySem.F.slot_dict_items,PySem.F.type_dict_items,t1,t2,Zu rfl (PySem.evalArgs_none ?_)⟩;obtain⟨o,es,ep,oR,Ck,nf,I2⟩:=I1.hold ed;obtain⟨vs,rel,da⟩:=Gb I2.aL aD Ck;have dd:Heap.DictOf (be X.prog X.w) s1.heap d vs:=da.dictOf;refine abn PySem.F.slot_dict_items dd.typeIs PySem.F.entry_dict_items (PySem.F.args_dict_items_1 _) (meets_dict_items (be X.prog X.w) d DW) ⟨⟨vs,dd⟩,?_⟩;have hv:Heap.IsItemsView (s1.heap.push {cls:=.type "dict_items",data:=.fields #[.ref d]}) s1.heap.objs.size d:=⟨_,Xj _ rfl,rfl,rfl⟩;refine wpAny_pyIter_items (knd:=be X.prog X.w) (ep:=ep) (kvs:=vs) hv (da.at' λo' q=>W4 _ q) ?_;have hlen:kvs.length=vs.length:=rel.length;have I3:Inv X η σ (upd H1 d (.dz o (.dK kvs))) {s1 with heap:=s1.heap.push {cls:=.type "dict_items",data:=.fields #[.ref d]}}:=I2.kept (t':=s1.toks) λb o' q=>W4 _ q;refine⟨_,[_],_,_,_,rfl,I3.kept (t':=s1.toks) λb o' q=>W4 _ q,BI d _ o kvs es ep Ck,⟨.none,.none,?_⟩,λb hb=>?_,q1 o nf⟩;·rw[hlen];exact Xj _ rfl
 ·have iM:b=(s1.heap.push {cls:=.type "dict_items",data:=.fields #[.ref d]}).objs.size:=by simpa using hb
  rw[iM];exact I3.xj (Xd _) (I3.aL.fresh (Xd _))
theorem DX(rel:KV kvs vs):∀{us},us.length=vs.length->(∀(j:Nat) (v),us[j]?=Δ v->∃k x,vs[j]?=Δ (k,x)/\(be P w).is k v=Λ)->aS (kvs.map λkv=>kV kv.1) us:=by
 unfold KV at rel;induction rel with
 |nil=>intro us hl h;cases us with|nil=>exact .nil|cons _ _=>simp at hl
 |@cons p q ps qs e t ih=>
  intro us hl h;cases us with
  |nil=>simp at hl|cons v us=>
   refine .cons ?_ (ih (by simpa using hl) λj v' hv=>h (j+1) v' (by simpa using hv));obtain⟨k,x,hk,hi⟩:=h 0 v rfl;simp at hk;have e1:p.1=k:=by rw[e.1,hk]
   show RelV (kV p.1) v;rw[e1];exact Gc hi
theorem vo(hc:X.calm=Λ):eO X (.type "list") (λxs H Q=>∃p kvs,xs=[.ref p]/\H p=Δ (.dK kvs)/\∀l,H l=Θ->Q (.ref l) (upd H l (.lst (kvs.map λkv=>kV kv.1)))):=by intro η s σ H xs us Q I r h;obtain⟨p,kvs,rfl,hq,q⟩:=h;obtain⟨u,rfl,rx⟩:=vals1 r;cases rx;obtain⟨z,DW,vs,rel,dd⟩:=vW I.aL hq;have hlen:kvs.length=vs.length:=rel.length;obtain⟨ep,da⟩:=dd.dictAt;refine PySem.W.kdl_call (PySem.W.kdl_dict (knd:=be X.prog X.w) (kvs:=vs) (ep:=ep) DW) (I.ok.hd hc) da (by lia) λh' tk acc c' kp e io=>?_;obtain⟨hsz,hit⟩:=io;have rv:aS (kvs.map λkv=>kV kv.1) acc.toList:=DX rel (by simpa using hsz) λj v hv=>hit j v (by simpa using hv);refine⟨.ref s.heap.objs.size,_,I.laid (t':=tk) kp (Xd _) (show bI X.prog X.w _ h' _ (.lst (kvs.map λkv=>kV kv.1)) from⟨by simpa using z,acc.toList,c',rv,by simpa using e⟩),rfl,q _ (I.aL.fresh (Xd _))⟩
end
def MK(tk tv:TE):TE:=λσ H Q=>∀p,H p=Θ->tk σ (upd H p (.dT [])) λx H1=>tv σ H1 λy H2=>H2 p=Δ (.dT [])/\∃ks b,x=.ref b/\H2 b=Δ (.tup (ks.map kV))/\Q (.ref p) (upd H2 p (.dT [(ks,y)]))
theorem Ge(hu:X.A.units+1 < cLine)(hk:PE X k tk)(hv:PE X v tv):PE X (.Dict [Δ k] [v] pos) (MK tk tv):=by
 intro η s σ H Q I q;have hn:=I.aL.fresh (Xd s.heap.objs.size);have I1:=I.laid (a:=s.heap.objs.size) (o:=.dT []) (h':=s.heap.push {cls:=.type "dict",data:=.dict #[]}) (t':=s.toks) (λ_ _ q=>W4 _ q) (Xd _) (yY s.heap I.SA);rw[arm_eval_Dict];have e0:(evalEachOpt [Δ k] X.env).zip (aak (λv=>do let x<-v;ab5 pos;pure x) (evalEach [v] X.env))=aak (λp=>(Δ p.1,p.2)) (pairTrees [Δ k] [v] X.env pos):=by rfl
 rw[e0,dictDisplay_pairs (pairTrees [Δ k] [v] X.env pos) (List.cons_ne_nil _ _) (Nat.le_of_ble_eq_true rfl)];refine W2 (acv (W2 (wpAny_subDict_any (Nat.le_of_ble_eq_true rfl) (bR ((yZ hk hv Cv) η _ σ _ (λps H2=>match ps with
  |[(x,y)]=>H2 s.heap.objs.size=Δ (.dT [])/\∃ks b,x=.ref b/\H2 b=Δ (.tup (ks.map kV))/\Q (.ref s.heap.objs.size) (upd H2 s.heap.objs.size (.dT [(ks,y)]))
  |_=>False) I1 (q _ hn)) λws s2 ⟨ps,H2,I2,rel,h⟩=>?_))))
 cases rel with
 |nil=>exact h.elim|@cons p1 q1 ps1 qs1 r rs=>
  cases rs with
  |cons _ _=>exact h.elim|nil=>
  obtain⟨x,y⟩:=p1;obtain⟨w1,w2⟩:=q1;obtain⟨e,ks,b,ex,eb,q2⟩:=h;subst ex;cases (show w1=XC b from r.1);obtain⟨z,hd,xs,rl,dd⟩:=KJ I2.aL e;cases rl;unfold storeAll;rw[ZN];have room:(abS (be X.prog X.w)).room X.A:=by
   show X.A.units < cLine
   lia
  refine W2 (W2 (wpAny_dictSet_heap room (o4 I2.aL eb) dd (λh' yE hs=>Xe ?_) (by simp)));dsimp only;rw[aal];refine Xe (Xe ?_);obtain⟨qq,es,ep,hq,h2,h3,h4,_,h5⟩:=yE;refine⟨.ref s.heap.objs.size,_,jK (ob:=.dT [(ks,y)]) I2 (by rw[e];exact YH) hs ⟨qq,hq⟩ ⟨by simp[YJ],hd,_,(KT.put (H:=H2) .nil ks eb r.2).keeps λc ys ec=>?_,qq,es,ep,hq,h2,h3,h4,h5⟩,rfl,q2⟩;rw[ax (Kw ec e (λz=>nomatch z))];exact ec
end L2
namespace Y
open PySem
inductive D where
 |bu|bl (b:Bool)|int (i:Int)|str (x:Str)|tup (xs:List D)|pl (xs:List D)
inductive P where
 |d (x:D)|obj (n:Nat)|gq (ns:List Int)
 |fn (k:Nat) (bq:List P)|lf (k:Nat)
inductive O where
 |lst (xs:List P)|dK (kvs:List (Sum Int Str×P))|dT (kvs:List (List (Sum Int Str)×P))|ins (c:Str) (fs:List (Str×P))
 |vp
abbrev aN:=List O
abbrev b9:=List (Option P)
inductive R (α:Type) where
 |ok (a:α) (st:aN)|ex (x:Str) (st:aN)|no
noncomputable def R.bind{α β:Type}(r:R α)(k:α->aN->R β):R β:=match r with|.ok a st=>k a st|.ex x st=>.ex x st|.no=>.no
noncomputable def R.of{α:Type}(o:Option α)(st:aN):R α:=match o with|some a=>.ok a st|none=>.no
@[simp] theorem ae{α β:Type}(a:α)st(k:α->aN->R β):(R.ok a st).bind k=k a st:=rfl
@[simp] theorem SY{α β:Type}x st(k:α->aN->R β):(R.ex x st:R α).bind k=.ex x st:=rfl
@[simp] theorem nL{α β:Type}(k:α->aN->R β):(R.no:R α).bind k=.no:=rfl
@[simp] theorem az{α:Type}(a:α)st:R.of (Δ a) st=.ok a st:=rfl
@[simp] theorem of_none{α:Type}st:R.of (Θ:Option α) st=.no:=rfl
inductive QH where|add|sub|mul|mod|fdiv
inductive K8 where|lt|le|gt|ge|eq|ne|isin|nM
inductive Bf where|len|min2|max2|all|any|str|tuple
mutual
inductive E where
 |var (i:Nat)
 |cst (x:D)
 |op (o:QH) (a b:E)
 |neg (a:E)
 |not (a:E)
 |cmp (o:K8) (a b:E)
 |chain (o o':K8) (a b c:E)
 |and (es:List E)
 |or (es:List E)
 |tup (es:List E)
 |lst (m:Bool) (l:L)
 |call (f:Nat) (es:List E)
 |sV (a:E) (T:String)
 |bf (f:Bf) (es:List E)
 |ix (a b:E)
 |slice (a:E) (lo hi:Option E)
 |rev (a:E)
 |pd (t:Bool)
 |nN (i:Nat) (es:List E)
 |iP (f:Nat) (es:List E) (ls:List (Nat×List Nat))
 |ja (i:Nat) (es:List E) (ls:List (Nat×List Nat))
 |lam (k:Nat)
 |attr (c f:Str) (i:Nat)
 |pf (k:Nat) (c m:Str) (i:Nat) (es:List E)
 |make (k:Nat) (c:Str) (es:List E)
 |DY (a b:E)
 |DZ (a:E)
 |sW (a b c:E)
 |D3 (k:E) (x:D)
inductive L where
 |e7 (es:List E)
 |comp (it:W) (ts:Nat) (js:List Nat) (c:Option E) (e:E)
 |list (e:E)
 |iB (es:List E)
 |zip (a b:E)
 |cw (e:E) (js:List Nat) (c:Option E) (ee:E)
 |keys (e:E)
inductive W where
 |ex (e:E)
 |iB (es:List E)
 |enum (e:E)
end
inductive Tg where
 |nm (i:Nat)
 |tup (is:List Nat)
 |two (i j:Nat)
inductive S where
 |ret (e:E)
 |D4
 |set (i:Nat) (e:E)
 |ifs (c:E) (a b:List S)
 |iF (t:Tg) (w:W) (b:List S)
 |kN (c:E) (b:List S)
 |iG (t:Tg) (e:E) (b:List S)
 |BJ (i j:Nat) (e:E) (b:List S)
 |jb (i j:Nat) (e:E) (b:List S)
 |expr (e:E)
 |nK (i k:Nat)
 |lT (c f:Str) (i:Nat) (e:E)
 |app (a e:E)
 |put (a i e:E)
inductive Fl where
 |nx (r:b9)|bk (r:b9)|ct (r:b9)|rt (v:P)
def aw:Nat:=16777216
noncomputable def mC:Int:=18446744073709551616
def mE:Int:=4611686018427387904
def kh(o:QH)(i j:Int):Option Int:=match o with|.add=>Δ (i+j)|.sub=>Δ (i - j)|.mul=>if(-mC < i/\i < mC)\/(-mC < j/\j < mC) then Δ (i*j) else Θ|.mod=>if 0 < j then Δ (i % j) else Θ|.fdiv=>if 0 < j/\j < 1073741824 then Δ (i / j) else Θ
def Gf:P->Option D
 |.d x=>Δ x|_=>Θ
def ba:List P->Option (List D)
 |[]=>Δ []|p::r=>(Gf p).bind λx=>(ba r).map λxs=>x::xs
def bY(st:aN):P->Option (List P)
 |.d (.pl xs)=>Δ (xs.map .d)|.obj n=>match st[n]? with|some (.lst xs)=>Δ xs|_=>Θ
 |_=>Θ
def Gg(o:QH)(a b:P)(st:aN):Option P:=match o,a,b with|o,.d (.int i),.d (.int j)=>(kh o i j).map λk=>.d (.int k)|.add,.d (.str x),.d (.str y)=>if x.length+y.length<=aw then Δ (.d (.str (x++y))) else Θ|.add,.d (.tup xs),.d (.tup ys)=>if xs.length+ys.length<=aw then Δ (.d (.tup (xs++ys))) else Θ|.mul,.d (.tup xs),.d (.int k)=>if k=1 then Δ (.d (.tup xs)) else if k=2/\0 < xs.length/\xs.length<=100000 then Δ (.d (.tup (xs++xs))) else if k=3/\0 < xs.length/\xs.length<=100000 then Δ (.d (.tup (xs++xs++xs))) else Θ|.add,a,b=>(bY st a).bind λxs=>(bY st b).bind λys=>(ba (xs++ys)).bind λzs=>if zs.length<=aw then Δ (.d (.pl zs)) else Θ|_,_,_=>Θ
mutual
def u6:D->D->Bool
 |.bu,.bu=>Λ|.bl a,.bl b=>a==b|.bl a,.int j=>(if a then 1 else 0)==j|.int i,.bl b=>i==(if b then 1 else 0)|.int i,.int j=>i==j|.str x,.str y=>x==y|.tup xs,.tup ys=>fI xs ys|.pl xs,.pl ys=>fI xs ys|_,_=>Ξ
def fI:List D->List D->Bool
 |[],[]=>Λ|x::xs,y::ys=>u6 x y&&fI xs ys|_,_=>Ξ
end
mutual
def lU:D->Nat
 |.tup xs=>ki xs+1|.pl xs=>ki xs+1|_=>0
def ki:List D->Nat
 |[]=>0|x::xs=>max (lU x) (ki xs)
end
theorem Gh:u6 (.int i) (.int j)=(i==j):=rfl
theorem IX:fI (x::xs) (y::ys)=(u6 x y&&fI xs ys):=rfl
theorem ML:lU (.tup xs)=ki xs+1:=rfl
theorem xI:ki (x::xs)=max (lU x) (ki xs):=rfl
def rR(x y:D):Option Bool:=if min (lU x) (lU y)<=100 then Δ (u6 x y) else Θ
def qw:D->Bool
 |.tup _=>Ξ|.pl _=>Ξ|_=>Λ
noncomputable def QI(o:K8)(i j:Int):Option Bool:=match o with|.lt=>Δ (decide (i < j))|.le=>Δ (decide (i<=j))|.gt=>Δ (decide (j < i))|.ge=>Δ (decide (j<=i))|_=>Θ
def cY(st:aN):P->Option (List P)
 |.d (.tup xs)=>Δ (xs.map .d)|.gq ns=>Δ (ns.map λi=>.d (.int i))|p=>bY st p
def jQ(st:aN):P->Option D
 |.d x=>Δ x|.obj n=>match st[n]? with|some (.lst xs)=>(ba xs).map .pl|_=>Θ
 |_=>Θ
mutual
noncomputable def cz:P->Bool
 |.d _=>Λ|.fn _ bq=>cC bq|_=>Ξ
noncomputable def cC:List P->Bool
 |[]=>Λ|p::r=>cz p&&cC r
end
def xJ(st:aN):P->Option P
 |.gq ns=>Δ (.gq ns)|.fn k bq=>if cC bq then Δ (.fn k bq) else Θ|p=>(jQ st p).map .d
def gH(st:aN):List P->Option (List P)
 |[]=>Δ []|p::r=>(xJ st p).bind λx=>(gH st r).map λxs=>x::xs
noncomputable def keyOf:P->Option (Sum Int Str)
 |.d (.int i)=>Δ (.inl i)|.d (.str x)=>Δ (.inr x)|_=>Θ
def keysOf:List D->Option (List (Sum Int Str))
 |[]=>Δ []|x::r=>(keyOf (.d x)).bind λk=>(keysOf r).map λks=>k::ks
def mF:P->Option (List (Sum Int Str))
 |.d (.tup xs)=>keysOf xs|_=>Θ
noncomputable def e8{κ:Type}[DecidableEq κ](kvs:List (κ×P))(k:κ):Option P:=(kvs.find? λkv=>decide (kv.1=k)).map (·.2)
noncomputable def lV{κ:Type}[DecidableEq κ](kvs:List (κ×P))(k:κ)(v:P):List (κ×P):=
 if(kvs.any λkv=>decide (kv.1=k))=Λ then kvs.map (λkv=>if kv.1=k then(kv.1,v) else kv) else kvs++[(k,v)]
def nO(o:O)(k:P):Option (Option P):=match o with|.lst _=>Θ|.ins _ _=>Θ|.vp=>Θ|.dK kvs=>(keyOf k).map λk=>e8 kvs k|.dT kvs=>(mF k).map λk=>e8 kvs k
def jn:O->Bool
 |.lst _=>Ξ|.ins _ _=>Ξ|.vp=>Ξ|_=>Λ
def D5(st:aN):P->Option O
 |.obj n=>st[n]?|_=>Θ
def bE(st:aN)(p:P):Option O:=(D5 st p).bind λo=>if jn o then Δ o else Θ
def Gi:O->Nat
 |.lst xs=>xs.length|.ins _ _=>0|.vp=>0|.dK kvs=>kvs.length|.dT kvs=>kvs.length
def CD(o:O)(k v:P):Option O:=match o with|.lst _=>Θ|.ins _ _=>Θ|.vp=>Θ|.dK kvs=>if kvs.length < aw then(keyOf k).map λk=>.dK (lV kvs k v) else Θ|.dT kvs=>if kvs.length < aw then(mF k).map λk=>.dT (lV kvs k v) else Θ
def MM(o:K8)(a b:P):Option Bool:=match a,b with|.d (.int i),.d (.int j)=>QI o i j|_,_=>Θ
def Gj(a b:P)(st:aN):Option Bool:=match bE st b with|some o=>(nO o a).map λr=>r.isSome|none=>(Gf a).bind λx=>(cY st b).bind λps=>(ba ps).bind λys=>if qw x&&ys.all qw then Δ (ys.any λy=>u6 y x) else Θ
def jo(o:K8)(a b:P)(st:aN):Option Bool:=match o with|.eq=>(jQ st a).bind λx=>(jQ st b).bind λy=>rR x y|.ne=>(jQ st a).bind λx=>(jQ st b).bind λy=>(rR x y).map not|.isin=>Gj a b st|.nM=>(Gj a b st).map not|_=>MM o a b
def xK(st:aN):P->Option Bool
 |.d .bu=>Δ Ξ|.d (.bl b)=>Δ b|.d (.int i)=>Δ (i !=0)|.d (.str x)=>if x.length<=aw then Δ ((x.length:Int)!=0) else Θ|.d (.tup xs)=>Δ (!xs.isEmpty)|p=>(bY st p).map λxs=>!xs.isEmpty
noncomputable def IY:P->aN->Option String
 |.d .bu,_=>Δ "NoneType"|.d (.bl _),_=>Δ "bool"|.d (.int _),_=>Δ "int"|.d (.str _),_=>Δ "str"|.d (.tup _),_=>Δ "tuple"|.d (.pl _),_=>Δ "list"|.obj n,st=>match st[n]? with|some (.lst _)=>Δ "list"|_=>Θ
 |_,_=>Θ
def bB(t T:String):Bool:=t==T||(t=="bool"&&T=="int")
noncomputable def Bm(n:Nat)(i:Int):Option Nat:=if 0<=i then(if i < n then Δ i.toNat else Θ) else if -(n:Int)<=i then Δ (i+n).toNat else Θ
def oY{α:Type}(xs:List α)(i:Int):Option α:=(Bm xs.length i).bind λj=>xs[j]?
def dc(n d:Nat):Option Int->Nat
 |none=>d|some i=>if i < 0 then(i+n).toNat else min i.toNat n
def g7{α:Type}(xs:List α)(lo hi:Option Int):List α:=(xs.drop (dc xs.length 0 lo)).take (dc xs.length xs.length hi - dc xs.length 0 lo)
noncomputable def nP:Option P->Option (Option Int)
 |none=>Δ Θ|some (.d (.int i))=>Δ (Δ i)|_=>Θ
def mG(a:P)(lo hi:Option P)(st:aN):Option P:=
 (nP lo).bind λl=>(nP hi).bind λh=>match a with|.d (.tup xs)=>Δ (.d (.tup (g7 xs l h)))|p=>(bY st p).bind λxs=>(ba (g7 xs l h)).map λys=>.d (.pl ys)
def Vp(a b:P)(st:aN):Option P:=match b with|.d (.int i)=>(cY st a).bind λxs=>oY xs i|_=>Θ
def A0(a b:P)(st:aN):Option P:=match bE st a with|some o=>(nO o b).bind id|none=>Vp a b st
def xM(a v:P)(st:aN):Option aN:=match a with
 |.obj n=>match st[n]? with|some (.lst xs)=>if xs.length < aw then Δ (st.set n (.lst (xs++[v]))) else Θ|_=>Θ
 |_=>Θ
def zy(o:O)(k v:P):Option O:=match o with
 |.lst xs=>match k with|.d (.int i)=>(Bm xs.length i).map λj=>.lst (xs.set j v)|_=>Θ
 |o=>CD o k v
def nQ(a k v:P)(st:aN):Option aN:=match a with|.obj n=>(st[n]?).bind λo=>(zy o k v).map λo'=>st.set n o'|_=>Θ
noncomputable def boolsOf:List P->Option (List Bool)
 |[]=>Δ []|.d (.bl b)::r=>(boolsOf r).map λbs=>b::bs|_=>Θ
noncomputable def intsOf:List P->Option (List Int)
 |[]=>Δ []|.d (.int b)::r=>(intsOf r).map λbs=>b::bs|_=>Θ
noncomputable def v9{κ:Type}[DecidableEq κ](kvs:List (κ×P))(k:κ):List (κ×P):=kvs.filter λkv=>decide (kv.1≠k)
def Gk(x y:P)(st:aN):Option (P×aN):=match x with
 |.obj n=>match st[n]? with|some (.dK kvs)=>(keyOf y).bind λk=>(e8 kvs k).map λv=>(v,st.set n (.dK (v9 kvs k)))|_=>Θ
 |_=>Θ
def Gm(x:P)(st:aN):Option (P×aN):=match x with
 |.obj n=>match st[n]? with|some (.lst xs)=>(xs[xs.length - 1]?).map λv=>(v,st.set n (.lst xs.dropLast))|_=>Θ
 |_=>Θ
def qx(x y z:P)(st:aN):Option (P×aN):=match x with
 |.obj n=>match st[n]? with
  |some (.dK kvs)=>if kvs.length < aw then(keyOf y).map λk=>match e8 kvs k with|some v=>(v,st)|none=>(z,st.set n (.dK (lV kvs k z)))
   else Θ
  |_=>Θ
 |_=>Θ
def xN:Sum Int Str->P
 |.inl i=>.d (.int i)|.inr x=>.d (.str x)
def IZ(x y:P):Option O:=match keyOf x with|some k=>Δ (.dK [(k,y)])|none=>(mF x).map λk=>.dT [(k,y)]
noncomputable def sX(st:aN):P->Option (Nat×List (Sum Int Str×P))
 |.obj n=>match st[n]? with|some (.dK kvs)=>Δ (n,kvs)|_=>Θ
 |_=>Θ
noncomputable def ph(c:Str)(st:aN):P->Option (Nat×List (Str×P))
 |.obj n=>match st[n]? with|some (.ins c' fs)=>if c'=c then Δ (n,fs) else Θ|_=>Θ
 |_=>Θ
noncomputable def vq(f:Str)(v:P):List (Str×P)->List (Str×P)
 |[]=>[(f,v)]|(g,x)::r=>if g=f then(g,v)::r else(g,x)::vq f v r
def conv(ls:List (Nat×List Nat))(r:b9):Nat->P->Option P
 |0,_=>Θ|n+1,p=>match p with|.d x=>Δ (.d x)|.gq ns=>Δ (.gq ns)|.fn k bq=>if cC bq then Δ (.fn k bq) else Θ|.lf k=>(ls.lookup k).bind λjs=>(js.mapM λj=>((r[j]?).join).bind (conv ls r n)).map λbq=>.fn k bq|.obj _=>Θ
section
variable(C:Nat->List P->aN->R P)
def kr(r:b9)(i:Nat):Option P:=(r[i]?).join
def oP(f:Bf)(ps:List P)(st:aN):Option P:=match f,ps with
 |.len,[p]=>match p with|.d (.str x)=>if x.length<=aw then Δ (.d (.int x.length)) else Θ|p=>match bE st p with|some o=>Δ (.d (.int (Gi o)))|none=>(cY st p).map λxs=>.d (.int xs.length)
 |.min2,[.d (.int i),.d (.int j)]=>Δ (.d (.int (min i j)))|.max2,[.d (.int i),.d (.int j)]=>Δ (.d (.int (max i j)))|.all,[p]=>(bY st p).bind λxs=>(boolsOf xs).map λbs=>.d (.bl (bs.all id))|.any,[p]=>(bY st p).bind λxs=>(boolsOf xs).map λbs=>.d (.bl (bs.any id))|.str,[.d (.int i)]=>if i.natAbs.log2 < 1920 then Δ (.d (.str (XY (toString i)))) else Θ|.tuple,[p]=>(cY st p).bind λxs=>(ba xs).map λys=>.d (.tup ys)|_,_=>Θ
def pw:P->Option (List P)
 |.d (.tup xs)=>Δ (xs.map .d)|.d (.pl xs)=>Δ (xs.map .d)|_=>Θ
noncomputable def Gn(lo hi:Int):List P:=(W7 (hi - lo).toNat).map λk=>.d (.int (lo+(k:Nat)))
def qZ:List P->Option (List P)
 |[.d (.int j)]=>if -mE<=j/\j < mE then Δ (Gn 0 j) else Θ|[.d (.int i),.d (.int j)]=>if -mE<=i/\i < mE/\ -mE<=j/\j < mE then Δ (Gn i j) else Θ|_=>Θ
def dS:Nat->List D->List P
 |_,[]=>[]|k,x::xs=>.d (.tup [.int k,x])::dS (k+1) xs
def Vq(a b:P)(st:aN):Option P:=match b with|.d (.int i)=>(bY st a).bind λxs=>(intsOf xs).bind λns=>if i∈ns then Δ (.d (.int (ns.idxOf i:Nat))) else Θ|_=>Θ
def D6:P->P->Option (List D)
 |.d (.tup xs),.d (.tup ys)=>Δ ((xs.zip ys).map λp=>.tup [p.1,p.2])|_,_=>Θ
def cN(g:P->b9)(c:b9->aN->R Bool)(e:b9->aN->R P):List P->aN->R (List P)
 |[],st=>.ok [] st|p::r,st=>(c (g p) st).bind λb st1=>if b then(e (g p) st1).bind λy st2=>(cN g c e r st2).bind λys st3=>.ok (y::ys) st3 else cN g c e r st1
def wa(n:Nat)(st:aN)(i:Nat):Option (Option P):=match st[n]? with|some (.lst xs)=>Δ xs[i]?|_=>Θ
def cw(n:Nat)(g:P->b9)(c:b9->aN->R Bool)(e:b9->aN->R P):Nat->Nat->aN->R (List P)
 |0,_,_=>.no|k+1,i,st=>match wa n st i with|none=>.no|some Θ=>.ok [] st|some (Δ p)=>(c (g p) st).bind λb st1=>if b then(e (g p) st1).bind λy st2=>(cw n g c e k (i+1) st2).bind λys st3=>.ok (y::ys) st3 else cw n g c e k (i+1) st1
def ma(c:List P->aN->R P)(o:Option (List P))(st:aN):R P:=match o,st with
 |some qs,[]=>(c qs []).bind λp st2=>match p,st2 with|.d x,[]=>.ok (.d x) []|_,_=>.no
 |_,_=>.no
def bO(js:List Nat)(r:b9):b9:=js.map λj=>(r[j]?).join
def isPr:P->Bool
 |.d (.tup [_,_])=>Λ|_=>Ξ
mutual
def aa:E->b9->aN->R P
 |.var i,r,st=>R.of (kr r i) st|.cst x,_,st=>.ok (.d x) st|.op o a b,r,st=>(aa a r st).bind λx st1=>(aa b r st1).bind λy st2=>R.of (Gg o x y st2) st2|.neg a,r,st=>(aa a r st).bind λx st1=>match x with|.d (.int i)=>.ok (.d (.int (-i))) st1|_=>.no
 |.not a,r,st=>(aa a r st).bind λx st1=>(R.of (xK st1 x) st1).bind λb st2=>.ok (.d (.bl (!b))) st2|.cmp o a b,r,st=>(aa a r st).bind λx st1=>(aa b r st1).bind λy st2=>(R.of (jo o x y st2) st2).bind λb st3=>.ok (.d (.bl b)) st3|.chain o o' a b c,r,st=>(aa a r st).bind λx st1=>(aa b r st1).bind λy st2=>(R.of (jo o x y st2) st2).bind λk st3=>if k then(aa c r st3).bind λz l6=>(R.of (jo o' y z l6) l6).bind λb A8=>.ok (.d (.bl b)) A8 else .ok (.d (.bl Ξ)) st3
 |.and es,r,st=>fX es r st|.or es,r,st=>fY es r st|.tup es,r,st=>(aF es r st).bind λps st1=>if ps.length<=aw then(R.of (ba ps) st1).bind λxs st2=>.ok (.d (.tup xs)) st2 else .no|.lst m l,r,st=>(aX l r st).bind λps st1=>if m then .ok (.obj st1.length) (st1++[.lst ps]) else(R.of (ba ps) st1).bind λxs st2=>.ok (.d (.pl xs)) st2|.call f es,r,st=>(aF es r st).bind λps st1=>C f ps st1|.sV a T,r,st=>(aa a r st).bind λx st1=>(R.of (IY x st1) st1).bind λt st2=>.ok (.d (.bl (bB t T))) st2|.bf f es,r,st=>(aF es r st).bind λps st1=>R.of (oP f ps st1) st1|.ix a b,r,st=>(aa a r st).bind λx st1=>(aa b r st1).bind λy st2=>R.of (A0 x y st2) st2|.slice a lo hi,r,st=>(aa a r st).bind λx st1=>(g8 lo r st1).bind λl st2=>(g8 hi r st2).bind λh st3=>R.of (mG x l h st3) st3|.rev a,r,st=>(aa a r st).bind λx st1=>match x with|.d (.tup xs)=>.ok (.d (.tup xs.reverse)) st1|_=>.no
 |.pd t,r,st=>.ok (.obj st.length) (st++[if t then .dT [] else .dK []])|.nN i es,r,st=>(R.of (kr r i) st).bind λp bJ=>(aF es r bJ).bind λps st1=>match p with|.fn k bq=>C k (ps++bq) st1|_=>.no
 |.iP f es ls,r,st=>(aF es r st).bind λps st1=>ma (C f) (ps.mapM (conv ls r 3)) st1|.ja i es ls,r,st=>(R.of (kr r i) st).bind λp bJ=>(aF es r bJ).bind λps st1=>match conv ls r 3 p with|some (.fn k bq)=>ma (C k) ((ps.mapM (conv ls r 3)).map λqs=>qs++bq) st1|_=>.no
 |.lam k,_,st=>.ok (.lf k) st|.attr c f i,r,st=>(R.of (kr r i) st).bind λx st1=>R.of ((ph c st1 x).bind λq=>q.2.lookup f) st1|.pf k c m i es,r,st=>(R.of (kr r i) st).bind λx bJ=>(R.of ((ph c bJ x).bind λq=>if(q.2.lookup m).isNone then Δ () else Θ) bJ).bind λ_ bJ=>(aF es r bJ).bind λps st1=>C k (x::ps) st1|.DY a b,r,st=>(aa a r st).bind λx st1=>(R.of (bE st1 x) st1).bind λ_ st1=>(aa b r st1).bind λy st2=>(R.of (Gk x y st2) st2).bind λq _=>.ok q.1 q.2|.sW a b c,r,st=>(aa a r st).bind λx st1=>(R.of (bE st1 x) st1).bind λ_ st1=>(aa b r st1).bind λy st2=>(aa c r st2).bind λz st3=>(R.of (qx x y z st3) st3).bind λq _=>.ok q.1 q.2|.D3 k x,r,st=>(aa k r st).bind λy st1=>(R.of (IZ y (.d x)) st1).bind λo st2=>.ok (.obj st2.length) (st2++[o])|.DZ a,r,st=>(aa a r st).bind λx st1=>(R.of (Gm x st1) st1).bind λq _=>.ok q.1 q.2|.make k c es,r,st=>(aF es r st).bind λps st1=>(C k (.obj st1.length::ps) (st1++[.ins c []])).bind λv st2=>match v with|.d .bu=>.ok (.obj st1.length) st2|_=>.no
def g8:Option E->b9->aN->R (Option P)
 |none,_,st=>.ok Θ st|some e,r,st=>(aa e r st).bind λx st1=>.ok (Δ x) st1
def aF:List E->b9->aN->R (List P)
 |[],_,st=>.ok [] st|e::es,r,st=>(aa e r st).bind λx st1=>(aF es r st1).bind λxs st2=>.ok (x::xs) st2
def fX:List E->b9->aN->R P
 |[],_,_=>.no|[e],r,st=>aa e r st|e::e'::es,r,st=>(aa e r st).bind λx st1=>match x with|.d (.bl b)=>if b then fX (e'::es) r st1 else .ok (.d (.bl Ξ)) st1|_=>.no
def fY:List E->b9->aN->R P
 |[],_,_=>.no|[e],r,st=>aa e r st|e::e'::es,r,st=>(aa e r st).bind λx st1=>match x with|.d (.bl b)=>if b then .ok (.d (.bl Λ)) st1 else fY (e'::es) r st1|_=>.no
def aX:L->b9->aN->R (List P)
 |.e7 es,r,st=>(aF es r st).bind λps st1=>if ps.length<=aw then .ok ps st1 else .no|.comp w ts js c e,r,st=>(cx w r st).bind λps st1=>if ts=1/\ps.length<=aw then cN (λp=>Δ p::bO js r) (bC c) (λr' aM=>aa e r' aM) ps st1 else .no|.list e,r,st=>(aa e r st).bind λx st1=>R.of (cY st1 x) st1|.iB es,r,st=>(aF es r st).bind λps st1=>(R.of (qZ ps) st1).bind λqs st2=>if qs.length<=aw then .ok qs st2 else .no|.zip a b,r,st=>(aa a r st).bind λx st1=>(aa b r st1).bind λy st2=>(R.of (D6 x y) st2).bind λzs st3=>.ok (zs.map .d) st3|.cw e js c ee,r,st=>(aa e r st).bind λx st1=>match x with|.obj n=>cw n (λp=>Δ p::bO js r) (bC c) (λr' aM=>aa ee r' aM) aw 0 st1|_=>.no
 |.keys e,r,st=>(aa e r st).bind λx st1=>(R.of (sX st1 x) st1).bind λq st2=>.ok (q.2.map λkv=>xN kv.1) st2
def bC:Option E->b9->aN->R Bool
 |none,_,st=>.ok Λ st|some c,r,st=>(aa c r st).bind λx st2=>R.of (xK st2 x) st2
def cx:W->b9->aN->R (List P)
 |.ex e,r,st=>(aa e r st).bind λx st1=>R.of (pw x) st1|.iB es,r,st=>(aF es r st).bind λps st1=>R.of (qZ ps) st1|.enum e,r,st=>(aa e r st).bind λx st1=>match x with|.d (.tup xs)=>.ok (dS 0 xs) st1|_=>.no
end
noncomputable def je:Tg->P->b9->Option b9
 |.nm i,p,r=>Δ (r.set i (Δ p))|.tup _,_,_=>Θ|.two i j,p,r=>match p with|.d (.tup [x,y])=>Δ ((r.set i (Δ (.d x))).set j (Δ (.d y)))|_=>Θ
def forL(g:P->b9->Option b9)(b:b9->aN->R Fl):List P->b9->aN->R Fl
 |[],r,st=>.ok (.nx r) st|p::ps,r,st=>(R.of (g p r) st).bind λr1 bJ=>(b r1 bJ).bind λf st1=>match f with|.nx r2=>forL g b ps r2 st1|.ct r2=>forL g b ps r2 st1|.bk r2=>.ok (.nx r2) st1|.rt v=>.ok (.rt v) st1
def iG(n:Nat)(g:P->b9->Option b9)(b:b9->aN->R Fl):Nat->Nat->b9->aN->R Fl
 |0,_,_,_=>.no|k+1,i,r,st=>match wa n st i with|none=>.no|some Θ=>.ok (.nx r) st|some (Δ p)=>(R.of (g p r) st).bind λr1 bJ=>(b r1 bJ).bind λf st1=>match f with|.nx r2=>iG n g b k (i+1) r2 st1|.ct r2=>iG n g b k (i+1) r2 st1|.bk r2=>.ok (.nx r2) st1|.rt v=>.ok (.rt v) st1
def mH(i j:Nat)(b:b9->aN->R Fl):List (Sum Int Str×P)->b9->aN->R Fl
 |[],r,st=>.ok (.nx r) st|kv::ps,r,st=>(b ((r.set i (Δ (xN kv.1))).set j (Δ kv.2)) st).bind λf st1=>match f with|.nx r2=>mH i j b ps r2 st1|.ct r2=>mH i j b ps r2 st1|.bk r2=>.ok (.nx r2) st1|.rt v=>.ok (.rt v) st1
def jb(n i j:Nat)(b:b9->aN->R Fl):Nat->Nat->b9->aN->R Fl
 |0,_,_,_=>.no|k+1,q,r,st=>match wa n st q with|none=>.no|some Θ=>.ok (.nx r) st|some (Δ p)=>(b ((r.set i (Δ (.d (.int q)))).set j (Δ p)) st).bind λf st1=>match f with|.nx r2=>jb n i j b k (q+1) r2 st1|.ct r2=>jb n i j b k (q+1) r2 st1|.bk r2=>.ok (.nx r2) st1|.rt v=>.ok (.rt v) st1
def gu(c:b9->aN->R Bool)(b:b9->aN->R Fl):Nat->b9->aN->R Fl
 |0,_,_=>.no|n+1,r,st=>(c r st).bind λk st1=>if k then(b r st1).bind λf st2=>match f with|.nx r2=>gu c b n r2 st2|.ct r2=>gu c b n r2 st2|.bk r2=>.ok (.nx r2) st2|.rt v=>.ok (.rt v) st2 else .ok (.nx r) st1
def cg(d:b9->aN->R P)(r:b9)(st:aN):R Bool:=(d r st).bind λx st1=>R.of (xK st1 x) st1
def dQ:Nat:=1000000
mutual
def aP:S->b9->aN->R Fl
 |.ret e,r,st=>(aa C e r st).bind λv st1=>.ok (.rt v) st1|.D4,r,st=>.ok (.rt (.d .bu)) st|.set i e,r,st=>(aa C e r st).bind λv st1=>.ok (.nx (r.set i (Δ v))) st1|.ifs c a b,r,st=>(cg (aa C c) r st).bind λk st1=>if k then aj a r st1 else aj b r st1|.iF t w b,r,st=>(cx C w r st).bind λps st1=>forL (je t) (aj b) ps r st1|.kN c b,r,st=>gu (cg (aa C c)) (aj b) dQ r st|.iG t e b,r,st=>(aa C e r st).bind λx st1=>match x with|.obj n=>iG n (je t) (aj b) dQ 0 r st1|_=>.no
 |.BJ i j e b,r,st=>(aa C e r st).bind λx st1=>(R.of (sX st1 x) st1).bind λq st1=>(mH i j (aj b) q.2 r (st1.set q.1 .vp)).bind λf st2=>.ok f (st2.set q.1 (.dK q.2))|.jb i j e b,r,st=>(aa C e r st).bind λx st1=>match x with|.obj n=>jb n i j (aj b) dQ 0 r st1|_=>.no
 |.expr e,r,st=>(aa C e r st).bind λ_ st1=>.ok (.nx r) st1|.nK i k,r,st=>.ok (.nx (r.set i (Δ (.lf k)))) st|.lT c f i e,r,st=>(aa C e r st).bind λv st1=>(R.of (kr r i) st1).bind λx st2=>(R.of ((ph c st2 x).bind λq=>if q.2.length < 1000 then Δ (st2.set q.1 (.ins c (vq f v q.2))) else Θ) st2).bind λst3 _=>.ok (.nx r) st3|.app a e,r,st=>(aa C a r st).bind λx st1=>(R.of (bY st1 x) st1).bind λ_ st1=>(aa C e r st1).bind λv st2=>(R.of (xM x v st2) st2).bind λst3 _=>.ok (.nx r) st3|.put a i e,r,st=>(aa C e r st).bind λv st1=>(aa C a r st1).bind λx st2=>(aa C i r st2).bind λk st3=>(R.of (nQ x k v st3) st3).bind λl6 _=>.ok (.nx r) l6
def aj:List S->b9->aN->R Fl
 |[],r,st=>.ok (.nx r) st|s::rest,r,st=>(aP s r st).bind λf st1=>match f with|.nx r1=>aj rest r1 st1|.bk r1=>.ok (.bk r1) st1|.ct r1=>.ok (.ct r1) st1|.rt v=>.ok (.rt v) st1
end
variable{C}
theorem lE{i}:aa C (.var i) r st=R.of (kr r i) st:=rfl
@[simp]theorem cO{x}:aa C (.cst x) r st=.ok (.d x) st:=rfl
theorem jq{o a b}:aa C (.op o a b) r st=(aa C a r st).bind λx st1=>(aa C b r st1).bind λy st2=>R.of (Gg o x y st2) st2:=rfl
theorem pz{a}:aa C (.neg a) r st=(aa C a r st).bind λx st1=>match x with|.d (.int i)=>.ok (.d (.int (-i))) st1|_=>.no:=rfl
theorem wb{a}:aa C (.not a) r st=(aa C a r st).bind λx st1=>(R.of (xK st1 x) st1).bind λb st2=>.ok (.d (.bl (!b))) st2:=rfl
theorem cj{o a b}:aa C (.cmp o a b) r st=(aa C a r st).bind λx st1=>(aa C b r st1).bind λy st2=>(R.of (jo o x y st2) st2).bind λb st3=>.ok (.d (.bl b)) st3:=rfl
theorem qy{o o' a b c}:aa C (.chain o o' a b c) r st=(aa C a r st).bind λx st1=>(aa C b r st1).bind λy st2=>(R.of (jo o x y st2) st2).bind λk st3=>if k then(aa C c r st3).bind λz l6=>(R.of (jo o' y z l6) l6).bind λb A8=>.ok (.d (.bl b)) A8 else .ok (.d (.bl Ξ)) st3:=rfl
@[simp]theorem D7{es}:aa C (.and es) r st=fX C es r st:=rfl
@[simp]theorem sY{es}:aa C (.or es) r st=fY C es r st:=rfl
theorem wc{es}:aa C (.tup es) r st=(aF C es r st).bind λps st1=>if ps.length<=aw then(R.of (ba ps) st1).bind λxs st2=>.ok (.d (.tup xs)) st2 else .no:=rfl
theorem D8{m l}:aa C (.lst m l) r st=(aX C l r st).bind λps st1=>if m then .ok (.obj st1.length) (st1++[.lst ps]) else(R.of (ba ps) st1).bind λxs st2=>.ok (.d (.pl xs)) st2:=rfl
theorem jR{f es}:aa C (.call f es) r st=(aF C es r st).bind λps st1=>C f ps st1:=rfl
theorem D9{a T}:aa C (.sV a T) r st=(aa C a r st).bind λx st1=>(R.of (IY x st1) st1).bind λt st2=>.ok (.d (.bl (bB t T))) st2:=rfl
theorem cD{f es}:aa C (.bf f es) r st=(aF C es r st).bind λps st1=>R.of (oP f ps st1) st1:=rfl
theorem bx{a b}:aa C (.ix a b) r st=(aa C a r st).bind λx st1=>(aa C b r st1).bind λy st2=>R.of (A0 x y st2) st2:=rfl
theorem qz{a lo hi}:aa C (.slice a lo hi) r st=(aa C a r st).bind λx st1=>(g8 C lo r st1).bind λl st2=>(g8 C hi r st2).bind λh st3=>R.of (mG x l h st3) st3:=rfl
theorem wd{a}:aa C (.rev a) r st=(aa C a r st).bind λx st1=>match x with|.d (.tup xs)=>.ok (.d (.tup xs.reverse)) st1|_=>.no:=rfl
@[simp]theorem g9{t}:aa C (.pd t) r st=.ok (.obj st.length) (st++[if t then .dT [] else .dK []]):=rfl
theorem zA{i es}:aa C (.nN i es) r st=(R.of (kr r i) st).bind λp bJ=>(aF C es r bJ).bind λps st1=>match p with|.fn k bq=>C k (ps++bq) st1|_=>.no:=rfl
theorem kO{f es ls}:aa C (.iP f es ls) r st=(aF C es r st).bind λps st1=>ma (C f) (ps.mapM (conv ls r 3)) st1:=rfl
@[simp]theorem pA{k}:aa C (.lam k) r st=.ok (.lf k) st:=rfl
theorem BK{c f i}:aa C (.attr c f i) r st=(R.of (kr r i) st).bind λx st1=>R.of ((ph c st1 x).bind λq=>q.2.lookup f) st1:=rfl
theorem BL{k c m i es}:aa C (.pf k c m i es) r st=(R.of (kr r i) st).bind λx bJ=>(R.of ((ph c bJ x).bind λq=>if(q.2.lookup m).isNone then Δ () else Θ) bJ).bind λ_ bJ=>(aF C es r bJ).bind λps st1=>C k (x::ps) st1:=rfl
theorem sZ{a b}:aa C (.DY a b) r st=(aa C a r st).bind λx st1=>(R.of (bE st1 x) st1).bind λ_ st1=>(aa C b r st1).bind λy st2=>(R.of (Gk x y st2) st2).bind λq _=>.ok q.1 q.2:=rfl
theorem kP{a b c}:aa C (.sW a b c) r st=(aa C a r st).bind λx st1=>(R.of (bE st1 x) st1).bind λ_ st1=>(aa C b r st1).bind λy st2=>(aa C c r st2).bind λz st3=>(R.of (qx x y z st3) st3).bind λq _=>.ok q.1 q.2:=rfl
theorem tm{k x}:aa C (.D3 k x) r st=(aa C k r st).bind λy st1=>(R.of (IZ y (.d x)) st1).bind λo st2=>.ok (.obj st2.length) (st2++[o]):=rfl
theorem tp{a}:aa C (.DZ a) r st=(aa C a r st).bind λx st1=>(R.of (Gm x st1) st1).bind λq _=>.ok q.1 q.2:=rfl
theorem tq{k c es}:aa C (.make k c es) r st=(aF C es r st).bind λps st1=>(C k (.obj st1.length::ps) (st1++[.ins c []])).bind λv st2=>match v with|.d .bu=>.ok (.obj st1.length) st2|_=>.no:=rfl
@[simp]theorem mI:g8 C Θ r st=.ok Θ st:=rfl
theorem tu{e}:g8 C (Δ e) r st=(aa C e r st).bind λx st1=>.ok (Δ x) st1:=rfl
@[simp]theorem aE:aF C [] r st=.ok [] st:=rfl
theorem ay{e es}:aF C (e::es) r st=(aa C e r st).bind λx st1=>(aF C es r st1).bind λxs st2=>.ok (x::xs) st2:=rfl
@[simp]theorem Ea{e}:fX C [e] r st=aa C e r st:=rfl
theorem we{e e' es}:fX C (e::e'::es) r st=(aa C e r st).bind λx st1=>match x with|.d (.bl b)=>if b then fX C (e'::es) r st1 else .ok (.d (.bl Ξ)) st1|_=>.no:=rfl
@[simp]theorem Eb{e}:fY C [e] r st=aa C e r st:=rfl
theorem lF{e e' es}:fY C (e::e'::es) r st=(aa C e r st).bind λx st1=>match x with|.d (.bl b)=>if b then .ok (.d (.bl Λ)) st1 else fY C (e'::es) r st1|_=>.no:=rfl
theorem eJ{es}:aX C (.e7 es) r st=(aF C es r st).bind λps st1=>if ps.length<=aw then .ok ps st1 else .no:=rfl
theorem hU{w ts js c e}:aX C (.comp w ts js c e) r st=(cx C w r st).bind λps st1=>if ts=1/\ps.length<=aw then cN (λp=>Δ p::bO js r) (bC C c) (λr' aM=>aa C e r' aM) ps st1 else .no:=rfl
theorem tw{e}:aX C (.list e) r st=(aa C e r st).bind λx st1=>R.of (cY st1 x) st1:=rfl
theorem wj{es}:aX C (.iB es) r st=(aF C es r st).bind λps st1=>(R.of (qZ ps) st1).bind λqs st2=>if qs.length<=aw then .ok qs st2 else .no:=rfl
theorem wm{a b}:aX C (.zip a b) r st=(aa C a r st).bind λx st1=>(aa C b r st1).bind λy st2=>(R.of (D6 x y) st2).bind λzs st3=>.ok (zs.map .d) st3:=rfl
theorem qA{e js c ee}:aX C (.cw e js c ee) r st=(aa C e r st).bind λx st1=>match x with|.obj n=>cw n (λp=>Δ p::bO js r) (bC C c) (λr' aM=>aa C ee r' aM) aw 0 st1|_=>.no:=rfl
theorem tz{e}:aX C (.keys e) r st=(aa C e r st).bind λx st1=>(R.of (sX st1 x) st1).bind λq st2=>.ok (q.2.map λkv=>xN kv.1) st2:=rfl
@[simp]theorem mJ:bC C Θ r st=.ok Λ st:=rfl
theorem tB{c}:bC C (Δ c) r st=(aa C c r st).bind λx st2=>R.of (xK st2 x) st2:=rfl
theorem zB{e}:cx C (.ex e) r st=(aa C e r st).bind λx st1=>R.of (pw x) st1:=rfl
theorem wo{es}:cx C (.iB es) r st=(aF C es r st).bind λps st1=>R.of (qZ ps) st1:=rfl
theorem BM{e}:cx C (.enum e) r st=(aa C e r st).bind λx st1=>match x with|.d (.tup xs)=>.ok (dS 0 xs) st1|_=>.no:=rfl
theorem pB{e}:aP C (.ret e) r st=(aa C e r st).bind λv st1=>.ok (.rt v) st1:=rfl
theorem tD:aP C .D4 r st=.ok (.rt (.d .bu)) st:=rfl
theorem pD{i e}:aP C (.set i e) r st=(aa C e r st).bind λv st1=>.ok (.nx (r.set i (Δ v))) st1:=rfl
theorem pE{c a b}:aP C (.ifs c a b) r st=(cg (aa C c) r st).bind λk st1=>if k then aj C a r st1 else aj C b r st1:=rfl
theorem tF{t w b}:aP C (.iF t w b) r st=(cx C w r st).bind λps st1=>forL (je t) (aj C b) ps r st1:=rfl
theorem nR{c b}:aP C (.kN c b) r st=gu (cg (aa C c)) (aj C b) dQ r st:=rfl
theorem tG{t e b}:aP C (.iG t e b) r st=(aa C e r st).bind λx st1=>match x with|.obj n=>iG n (je t) (aj C b) dQ 0 r st1|_=>.no:=rfl
theorem tH{i j e b}:aP C (.BJ i j e b) r st=(aa C e r st).bind λx st1=>(R.of (sX st1 x) st1).bind λq st1=>(mH i j (aj C b) q.2 r (st1.set q.1 .vp)).bind λf st2=>.ok f (st2.set q.1 (.dK q.2)):=rfl
theorem tI{i j e b}:aP C (.jb i j e b) r st=(aa C e r st).bind λx st1=>match x with|.obj n=>jb n i j (aj C b) dQ 0 r st1|_=>.no:=rfl
theorem tJ{e}:aP C (.expr e) r st=(aa C e r st).bind λ_ st1=>.ok (.nx r) st1:=rfl
theorem tK{i k}:aP C (.nK i k) r st=.ok (.nx (r.set i (Δ (.lf k)))) st:=rfl
theorem tM{c f i e}:aP C (.lT c f i e) r st=(aa C e r st).bind λv st1=>(R.of (kr r i) st1).bind λx st2=>(R.of ((ph c st2 x).bind λq=>if q.2.length < 1000 then Δ (st2.set q.1 (.ins c (vq f v q.2))) else Θ) st2).bind λst3 _=>.ok (.nx r) st3:=rfl
theorem wq{a e}:aP C (.app a e) r st=(aa C a r st).bind λx st1=>(R.of (bY st1 x) st1).bind λ_ st1=>(aa C e r st1).bind λv st2=>(R.of (xM x v st2) st2).bind λst3 _=>.ok (.nx r) st3:=rfl
theorem wu{a i e}:aP C (.put a i e) r st=(aa C e r st).bind λv st1=>(aa C a r st1).bind λx st2=>(aa C i r st2).bind λk st3=>(R.of (nQ x k v st3) st3).bind λl6 _=>.ok (.nx r) l6:=rfl
theorem tN:aj C [] r st=.ok (.nx r) st:=rfl
theorem iQ{s rest}:aj C (s::rest) r st=(aP C s r st).bind λf st1=>match f with|.nx r1=>aj C rest r1 st1|.bk r1=>.ok (.bk r1) st1|.ct r1=>.ok (.ct r1) st1|.rt v=>.ok (.rt v) st1:=rfl
end
theorem Gp:forL g b [] r st=.ok (.nx r) st:=rfl
theorem pF:forL g b (p::ps) r st=(R.of (g p r) st).bind λr1 bJ=>(b r1 bJ).bind λf st1=>match f with|.nx r2=>forL g b ps r2 st1|.ct r2=>forL g b ps r2 st1|.bk r2=>.ok (.nx r2) st1|.rt v=>.ok (.rt v) st1:=rfl
theorem pH:iG n g b (k+1) i r st=match wa n st i with|none=>.no|some Θ=>.ok (.nx r) st|some (Δ p)=>(R.of (g p r) st).bind λr1 bJ=>(b r1 bJ).bind λf st1=>match f with|.nx r2=>iG n g b k (i+1) r2 st1|.ct r2=>iG n g b k (i+1) r2 st1|.bk r2=>.ok (.nx r2) st1|.rt v=>.ok (.rt v) st1:=rfl
theorem pI:jb n i j b (k+1) q r st=match wa n st q with|none=>.no|some Θ=>.ok (.nx r) st|some (Δ p)=>(b ((r.set i (Δ (.d (.int q)))).set j (Δ p)) st).bind λf st1=>match f with|.nx r2=>jb n i j b k (q+1) r2 st1|.ct r2=>jb n i j b k (q+1) r2 st1|.bk r2=>.ok (.nx r2) st1|.rt v=>.ok (.rt v) st1:=rfl
theorem Gq:mH i j b [] r st=.ok (.nx r) st:=rfl
theorem wy:mH i j b (kv::ps) r st=(b ((r.set i (Δ (xN kv.1))).set j (Δ kv.2)) st).bind λf st1=>match f with|.nx r2=>mH i j b ps r2 st1|.ct r2=>mH i j b ps r2 st1|.bk r2=>.ok (.nx r2) st1|.rt v=>.ok (.rt v) st1:=rfl
theorem kQ:gu c b (n+1) r st=(c r st).bind λk st1=>if k then(b r st1).bind λf st2=>match f with|.nx r2=>gu c b n r2 st2|.ct r2=>gu c b n r2 st2|.bk r2=>.ok (.nx r2) st2|.rt v=>.ok (.rt v) st2 else .ok (.nx r) st1:=rfl
theorem wz:cN g c e [] st=.ok [] st:=rfl
theorem fJ:cN g c e (p::r) st=(c (g p) st).bind λb st1=>if b then(e (g p) st1).bind λy st2=>(cN g c e r st2).bind λys st3=>.ok (y::ys) st3 else cN g c e r st1:=rfl
theorem mK:cw n g c e (k+1) i st=match wa n st i with|none=>.no|some Θ=>.ok [] st|some (Δ p)=>(c (g p) st).bind λb st1=>if b then(e (g p) st1).bind λy st2=>(cw n g c e k (i+1) st2).bind λys st3=>.ok (y::ys) st3 else cw n g c e k (i+1) st1:=rfl
structure Fn where
 np:Nat
 nn:Nat
 body:List S
 sh:Bool:=Ξ
mutual
def nS:D->Bool
 |.pl _=>Ξ|.tup xs=>CF xs|_=>Λ
def CF:List D->Bool
 |[]=>Λ|x::xs=>nS x&&CF xs
end
def isObj:P->Bool
 |.obj _=>Λ|_=>Ξ
def outF(r:R Fl):Option D:=match r with|.ok (.rt p) st=>jQ st p|.ok (.nx _) _=>Δ .bu|_=>Θ
def ai(nn:Nat)(ps:List P):b9:=ps.map Δ++Yy (nn - ps.length) Θ
def vt(C:Nat->List P->aN->R P)(F:Fn)(ps:List P):Option D:=if ps.length=F.np then outF (aj C F.body (ai F.nn ps) []) else Θ
def tP(ps:List P)(d:D)(st:aN):R P:=if ps.any isObj&&!nS d then .no else .ok (.d d) st
noncomputable def Ja(r:R Fl):R P:=match r with|.ok (.rt p) st=>.ok p st|.ok (.nx _) st=>.ok (.d .bu) st|_=>.no
def wA(Fs:List Fn):Nat->Nat->List P->aN->R P
 |0,_,_,_=>.no|n+1,f,ps,st=>match Fs[f]? with|none=>.no|some F=>if F.sh then(if ps.length=F.np then Ja (aj (wA Fs n) F.body (ai F.nn ps) st) else .no) else match gH st ps with|none=>.no|some qs=>match vt (wA Fs n) F qs with|none=>.no|some d=>tP ps d st
theorem Gr:∃f:List Fn->Nat->Nat->List P->aN->R P,f=wA:=⟨wA,rfl⟩
noncomputable def callC:List Fn->Nat->Nat->List P->aN->R P:=Classical.choose Gr
theorem zC:callC=wA:=Classical.choose_spec Gr
theorem tQ Fs f ps st:callC Fs 0 f ps st=.no:=by rw[zC];rfl
theorem hW(Fs:List Fn)(n f:Nat)(ps:List P)(st:aN):callC Fs (n+1) f ps st=match Fs[f]? with|none=>.no|some F=>if F.sh then(if ps.length=F.np then Ja (aj (callC Fs n) F.body (ai F.nn ps) st) else .no) else match gH st ps with|none=>.no|some qs=>match vt (callC Fs n) F qs with|none=>.no|some d=>tP ps d st:=by rw[zC,wA]
end Y
namespace Y
open PySem L2
structure KB where
 K:Xf
 B:Heap
 tabs:List (Addr×List (Pos×Str))
 qB:Nat->Addr->Addr->List V->Prop
 HJ:Nat->Addr->Addr->Value->Heap->Prop
 zD:Nat->Str
structure KT where
 tabs:List (Addr×List (Pos×Str)):=[]
 qB:Nat->Addr->Addr->List V->Prop:=λ_ _ _ _=>False
 HJ:Nat->Addr->Addr->Value->Heap->Prop:=λ_ _ _ _ _=>False
 zD:Nat->Str:=λ_=>""
abbrev af(X:Cx)(t:KT):KB:=⟨X.K,X.base,t.tabs,t.qB,t.HJ,t.zD⟩
mutual
def aH(K:KB)(H:Hp)(m Z:List Addr):D->V->Prop
 |.bu,v=>v=.bu|.bl b,v=>v=.bl b|.int i,v=>v=.int i|.str x,v=>v=.str x|.tup xs,v=>∃a us,v=.ref a/\H a=Δ (.tup us)/\aq K H m Z xs us|.pl xs,v=>∃a us,v=.ref a/\Rd H a (.lst us)/\a∉m/\a∉Z/\aq K H m Z xs us
def aq(K:KB)(H:Hp)(m Z:List Addr):List D->List V->Prop
 |[],us=>us=[]|x::xs,us=>∃v vs,us=v::vs/\aH K H m Z x v/\aq K H m Z xs vs
end
noncomputable def MN(K:Xf)(H:Hp)(a:Addr)(us:List V):Prop:=(∃o,H a=Δ (.dz o (.lst us)))\/
 ∃(o:Obj) (its:Array Value) (n:Nat),K.lookup a=Δ o/\o.cls=.type "list"/\o.dict=Θ/\o.data=.seq its n/\its.size<=Xv/\aS us its.toList
theorem MN.sq(h:MN K H a us):kC K H a us:=by
 rcases h with h|h;·exact .inl (.inr h)
 ·exact .inr h
mutual
def ak(K:KB)(H:Hp)(m Z:List Addr):P->V->Prop
 |.d x,v=>aH K H m Z x v|.obj n,v=>∃a,m[n]?=Δ a/\v=.ref a|.gq ns,v=>∃a,v=.ref a/\MN K.K H a (ns.map V.int)|.fn k bq,v=>∃a c bW,v=.ref a/\K.qB k a c bW/\H c=Δ (.ext (dB c (K.zD k)))/\ah K H m Z bq bW|.lf k,v=>∃a c ct,v=.ref a/\H a=Δ (.ext (K.HJ k a c ct))/\H c=Δ (.ext (dB c (K.zD k)))
def ah(K:KB)(H:Hp)(m Z:List Addr):List P->List V->Prop
 |[],us=>us=[]|x::xs,us=>∃v vs,us=v::vs/\ak K H m Z x v/\ah K H m Z xs vs
end
def aQ{κ:Type}(K:KB)(H:Hp)(m Z:List Addr):List (κ×P)->List (κ×V)->Prop
 |[],us=>us=[]|x::xs,us=>∃v vs,us=(x.1,v)::vs/\ak K H m Z x.2 v/\aQ K H m Z xs vs
def rf(K:KB)(H:Hp)(m Z:List Addr)(a:Addr):O->Prop
 |.lst ps=>∃us,H a=Δ (.lst us)/\ah K H m Z ps us|.dK kvs=>∃us,H a=Δ (.dK us)/\aQ K H m Z kvs us|.dT kvs=>∃us,H a=Δ (.dT us)/\aQ K H m Z kvs us|.ins c fs=>∃C dx us,Xr K.K Xk c=Δ (Δ (.ref C))/\H a=Δ (.ins C dx us)/\H dx=Δ (.own a)/\aQ K H m Z fs us|.vp=>∃o us,H a=Δ (.dz o (.dK us))
theorem ah.mono(f:∀p v,ak K H m Z p v->ak K H' m' Z' p v):∀{xs} {us},ah K H m Z xs us->ah K H' m' Z' xs us
 |[],_,h=>h|x::xs,us,h=>by rw[ah] at h ⊢;obtain⟨v,vs,e,r,rs⟩:=h;exact⟨v,vs,e,f _ _ r,ah.mono f rs⟩
theorem aQ.mono{κ:Type}{H H':Hp}{m m' Z Z':List Addr}(f:∀p v,ak K H m Z p v->ak K H' m' Z' p v):∀{xs:List (κ×P)} {us:List (κ×V)},aQ K H m Z xs us->aQ K H' m' Z' xs us
 |[],_,h=>h|x::xs,us,h=>by obtain⟨v,vs,e,r,rs⟩:=(show ∃v vs,us=(x.1,v)::vs/\ak K H m Z x.2 v/\aQ K H m Z xs vs from h);exact⟨v,vs,e,f _ _ r,aQ.mono f rs⟩
theorem rf.mono(he:∀b u,(b=a\/H b=Δ (.own a))->H b=Δ u->H' b=Δ u)(f:∀p v,ak K H m Z p v->ak K H' m' Z' p v)(h:rf K H m Z a o):rf K H' m' Z' a o:=by cases o with|lst ps=>obtain⟨us,e,r⟩:=h;exact⟨us,he _ _ (.inl rfl) e,r.mono f⟩|dK ps=>obtain⟨us,e,r⟩:=h;exact⟨us,he _ _ (.inl rfl) e,r.mono f⟩|dT ps=>obtain⟨us,e,r⟩:=h;exact⟨us,he _ _ (.inl rfl) e,r.mono f⟩|ins c fs=>obtain⟨C,dx,us,n,e,e2,r⟩:=h;exact⟨C,dx,us,n,he _ _ (.inl rfl) e,he _ _ (.inr e2) e2,r.mono f⟩|vp=>obtain⟨o,us,e⟩:=h;exact⟨o,us,he _ _ (.inl rfl) e⟩
theorem rf.qR(h:rf K H m Z a o):H a≠Θ/\(∀us,H a≠Δ (.tup us))/\(o≠.vp->∀o' u,H a≠Δ (.dz o' u))/\(∀φ,H a≠Δ (.ext φ))/\(∀ps,H a≠Δ (.fk ps))/\∀b,H a≠Δ (.own b):=by cases o with|lst ps=>obtain⟨us,e,r⟩:=h;rw[e];exact⟨(λz=>nomatch z),(λ_ z=>nomatch z),(λ_ _ _ z=>nomatch z),(λ_ z=>nomatch z),(λ_ z=>nomatch z),(λ_ z=>nomatch z)⟩|dK ps=>obtain⟨us,e,r⟩:=h;rw[e];exact⟨(λz=>nomatch z),(λ_ z=>nomatch z),(λ_ _ _ z=>nomatch z),(λ_ z=>nomatch z),(λ_ z=>nomatch z),(λ_ z=>nomatch z)⟩|dT ps=>obtain⟨us,e,r⟩:=h;rw[e];exact⟨(λz=>nomatch z),(λ_ z=>nomatch z),(λ_ _ _ z=>nomatch z),(λ_ z=>nomatch z),(λ_ z=>nomatch z),(λ_ z=>nomatch z)⟩|ins c fs=>obtain⟨C,dx,us,n,e,e2,r⟩:=h;rw[e];exact⟨(λz=>nomatch z),(λ_ z=>nomatch z),(λ_ _ _ z=>nomatch z),(λ_ z=>nomatch z),(λ_ z=>nomatch z),(λ_ z=>nomatch z)⟩|vp=>obtain⟨o,us,e⟩:=h;rw[e];exact⟨(λz=>nomatch z),(λ_ z=>nomatch z),(λz=>absurd rfl z),(λ_ z=>nomatch z),(λ_ z=>nomatch z),(λ_ z=>nomatch z)⟩
structure aB(K:KB)(H:Hp)(m Z:List Addr)(st:aN):Prop where
 len:m.length=st.length
 nd:m.Nodup
 at_:∀(n:Nat) (o:O),st[n]?=Δ o->∃a,m[n]?=Δ a/\rf K H m Z a o
 zt:∀a∈Z,gk H a≠Θ
 zm:∀a∈Z,a∉m
 tab:∀t∈K.tabs,∃ps,H t.1=Δ (.fk ps)/\fz H t.2 ps
structure cA(K:KB)(H:Hp)(m Z:List Addr)(r:b9)(σ:St):Prop where
 len:r.length=σ.length
 at_:∀(i:Nat) (p:P),r[i]?=Δ (Δ p)->∃v,σ[i]?=Δ (Δ v)/\ak K H m Z p v
structure Le(K:KB)(m:List Addr)(H:Hp)(m':List Addr)(H':Hp):Prop where
 pre:∃t,m'=m++t
 tup:∀a xs,H a=Δ (.tup xs)->H' a=Δ (.tup xs)
 keep:∀a u,H a=Δ u->a∉m->(∀ps,u≠.fk ps)->H' a=Δ u
 new:∀a∈m',a∈m\/H a=Θ
 qR:∀a,H a≠Θ->H' a≠Θ
 CG:∀a,gk H a≠Θ->gk H' a≠Θ
 dz:∀a o u,H a=Δ (.dz o u)->H' a=Δ (.dz o u)
 ext:∀a φ,H a=Δ (.ext φ)->H' a=Δ (.ext φ)
 fk:∀a ps,H a=Δ (.fk ps)->∃more,H' a=Δ (.fk (ps++more))
section
variable{K:KB}{H H' H1 H2:Hp}{m m' m1 m2 Z:List Addr}{α β:Type}
theorem Gs(h:Rd H a u):H a≠Θ:=by rcases h with h|⟨o,h⟩<;>(rw[h];exact λz=>nomatch z)
theorem Le.refl:Le K m H m H:=⟨⟨[],by simp⟩,λ_ _ h=>h,λ_ _ h _ _=>h,λ_ h=>.inl h,λ_ h=>h,λ_ h=>h,λ_ _ _ h=>h,λ_ _ h=>h,λ_ ps h=>⟨#[],by rw[h];simp⟩⟩
theorem Le.trans(a:Le K m H m1 H1)(b:Le K m1 H1 m2 H2):Le K m H m2 H2 where
 pre:=by obtain⟨t,e⟩:=a.pre;obtain⟨u,e'⟩:=b.pre;exact⟨t++u,by rw[e',e,X7]⟩
 tup:=λc xs h=>b.tup c xs (a.tup c xs h)
 keep:=λc u h hc hu=>b.keep c u (a.keep c u h hc hu) (λz=>by
  rcases a.new c z with q|q;·exact hc q
  ·rw[h] at q;cases q) hu
 new:=λc hc=>by
  rcases b.new c hc with q|q;·exact a.new c q
  ·cases e:H c with|none=>exact .inr rfl|some o=>exact absurd q (a.qR c (by rw[e];exact λz=>nomatch z))
 qR:=λc h=>b.qR c (a.qR c h)
 CG:=λc h=>b.CG c (a.CG c h)
 dz:=λc o u h=>b.dz c o u (a.dz c o u h)
 ext:=λc φ h=>b.ext c φ (a.ext c φ h)
 fk:=λc ps h=>by obtain⟨m1,e1⟩:=a.fk c ps h;obtain⟨m2,e2⟩:=b.fk c _ e1;exact⟨m1++m2,by rw[e2,Array.append_assoc]⟩
theorem Jb(e:jj H H')(h:H a≠Θ):H' a≠Θ:=by cases q:H a with|none=>exact absurd q h|some o=>rw[e _ _ q];exact λz=>nomatch z
theorem tR(e:jj H H')(h:gk H a≠Θ):gk H' a≠Θ:=by cases q:gk H a with|none=>exact absurd q h|some o=>obtain⟨h1,h2⟩:=kL q;have h3:=e _ _ h1;cases o with|ext φ=>have:∃q,φ=dB a q:=Xz λz=>h2 φ rfl λq' e'=>z ⟨q',e'⟩;obtain⟨q',rfl⟩:=this;rw[fW h3];exact λz=>nomatch z|_=>rw[bp h3 (λ_ z=>nomatch z)];exact λz=>nomatch z
theorem Le.same(e:jj H H'):Le K m H m H':=⟨⟨[],by simp⟩,λ_ _ h=>e _ _ h,λ_ _ h _ _=>e _ _ h,λ_ h=>.inl h,λ_ h=>Jb e h,λ_ h=>tR e h,λ_ _ _ h=>e _ _ h,λ_ _ h=>e _ _ h,λ_ ps h=>⟨#[],by rw[e _ _ h];simp⟩⟩
theorem Le.rd(le:Le K m H m' H')(h:Rd H a (.lst us))(hm:a∉m):Rd H' a (.lst us):=by
 rcases h with h|⟨o,h⟩;·exact .inl (le.keep _ _ h hm (λ_ z=>nomatch z))
 ·exact .inr ⟨o,le.keep _ _ h hm (λ_ z=>nomatch z)⟩
mutual
theorem aH.le(le:Le K m H m' H'):∀{x:D} {v:V},aH K H m Z x v->aH K H' m' Z x v
 |.bu,_,h=>h|.bl _,_,h=>h|.int _,_,h=>h|.str _,_,h=>h|.tup xs,v,h=>by obtain⟨a,us,e,q,r⟩:=(show ∃a us,v=.ref a/\H a=Δ (.tup us)/\aq K H m Z xs us from h);exact⟨a,us,e,le.tup _ _ q,aq.le le r⟩
 |.pl xs,v,h=>by
  obtain⟨a,us,e,q,hm,hz,r⟩:=(show ∃a us,v=.ref a/\Rd H a (.lst us)/\a∉m/\a∉Z/\aq K H m Z xs us from h);refine⟨a,us,e,le.rd q hm,λz=>?_,hz,aq.le le r⟩;rcases le.new a z with y|y;·exact hm y
  ·exact Gs q y
theorem aq.le(le:Le K m H m' H'):∀{xs:List D} {us:List V},aq K H m Z xs us->aq K H' m' Z xs us
 |[],_,h=>h|x::xs,us,h=>by obtain⟨v,vs,e,r,rs⟩:=(show ∃v vs,us=v::vs/\aH K H m Z x v/\aq K H m Z xs vs from h);exact⟨v,vs,e,aH.le le r,aq.le le rs⟩
end
mutual
theorem ak.le(le:Le K m H m' H'):∀{x:P} {v:V},ak K H m Z x v->ak K H' m' Z x v
 |.d _,_,h=>by rw[ak] at h ⊢;exact aH.le le h|.obj n,v,h=>by rw[ak] at h ⊢;obtain⟨a,e,r⟩:=h;obtain⟨t,q⟩:=le.pre;refine⟨a,?_,r⟩;rw[q,Xb (qqz e).1];exact e
 |.gq ns,v,h=>by
  rw[ak] at h ⊢;obtain⟨a,e,r⟩:=h;refine⟨a,e,?_⟩;rcases r with ⟨o,r⟩|r
  ·exact .inl ⟨o,le.dz _ _ _ r⟩
  ·exact .inr r
 |.fn k bq,v,h=>by rw[ak] at h ⊢;obtain⟨a,c,bW,e,q,hc,r⟩:=h;exact⟨a,c,bW,e,q,le.ext _ _ hc,ah.le le r⟩|.lf k,v,h=>by rw[ak] at h ⊢;obtain⟨a,c,ct,e,q,r⟩:=h;exact⟨a,c,ct,e,le.ext _ _ q,le.ext _ _ r⟩
theorem ah.le(le:Le K m H m' H'):∀{xs:List P} {us:List V},ah K H m Z xs us->ah K H' m' Z xs us
 |[],_,h=>h|x::xs,us,h=>by obtain⟨v,vs,e,r,rs⟩:=(show ∃v vs,us=v::vs/\ak K H m Z x v/\ah K H m Z xs vs by rw[ah] at h;exact h);rw[ah];exact⟨v,vs,e,ak.le le r,ah.le le rs⟩
end
theorem cA.le(A:cA K H m Z r σ)(le:Le K m H m' H'):cA K H' m' Z r σ:=⟨A.len,λi p h=>by obtain⟨v,e,q⟩:=A.at_ i p h;exact⟨v,e,q.le le⟩⟩
theorem fz.same(e:∀a φ,H a=Δ (.ext φ)->H' a=Δ (.ext φ))(h:fz H bU ps):fz H' bU ps:=
 ⟨h.1,λp hp cv AZ=>by obtain⟨c,e1,e2⟩:=h.2 p hp cv AZ;exact⟨c,e1,e _ _ e2⟩⟩
theorem aB.same(A:aB K H m Z st)(e:jj H H'):aB K H' m Z st:=by
 refine⟨A.len,A.nd,λn o h=>?_,λa h=>tR e (A.zt a h),A.zm,λt ht=>?_⟩;·obtain⟨a,q,r⟩:=A.at_ n o h;exact⟨a,q,r.mono (λb u _ hu=>e _ _ hu) λp v z=>z.le (Le.same e)⟩
 ·obtain⟨ps,h1,h2⟩:=A.tab t ht;exact⟨ps,e _ _ h1,fz.same (λa φ z=>e _ _ z) h2⟩
noncomputable def Ok(K:KB)(Z:List Addr)(r:R α)(m:List Addr)(H:Hp)(Q:α->aN->List Addr->Hp->Prop):Prop:=match r with|.ok a aM=>∀m' H',Le K m H m' H'->aB K H' m' Z aM->Q a aM m' H'|_=>False
theorem Ok.le(h:Ok K Z r m H Q)(le:Le K m H m' H'):Ok K Z r m' H' Q:=by cases r with|ok a aM=>exact λm2 H2 l2 a2=>h m2 H2 (le.trans l2) a2|ex x aM=>exact h|no=>exact h
theorem Ok.bind(h:Ok K Z (r.bind k) m H Q):Ok K Z r m H (λa aM m' H'=>Ok K Z (k a aM) m' H' Q):=by cases r with|ok a aM=>exact λm' H' le _=>Ok.le (r:=k a aM) h le|ex x aM=>exact h|no=>exact h
theorem Ok.nL{r:R α}{Q:β->aN->List Addr->Hp->Prop}(hk:∀a st,k a st=.no)(h:Ok K Z (r.bind k) m H Q):False:=by cases r with|ok a aM=>rw[ae,hk] at h;exact h|ex x aM=>exact h|no=>exact h
theorem Ok.mono(h:Ok K Z r m H Q)(f:∀a aM m' H',Le K m H m' H'->aB K H' m' Z aM->Q a aM m' H'->Q' a aM m' H'):Ok K Z r m H Q':=by cases r with|ok a aM=>exact λm' H' le as=>f a aM m' H' le as (h m' H' le as)|ex x aM=>exact h|no=>exact h
theorem Ok.wB(h:Ok K Z r m H Q)(f:∀a aM m' H',r=.ok a aM->Le K m H m' H'->aB K H' m' Z aM->Q a aM m' H'->Q' a aM m' H'):Ok K Z r m H Q':=by cases r with|ok a aM=>exact λm' H' le as=>f a aM m' H' rfl le as (h m' H' le as)|ex x aM=>exact h|no=>exact h
theorem Ok.of(h:Ok K Z (R.of o st) m H Q)(as:aB K H m Z st):∃a,o=Δ a/\Q a st m H/\∀m' H',Le K m H m' H'->aB K H' m' Z st->Q a st m' H':=by cases o with|none=>exact(show False from h).elim|some a=>exact⟨a,rfl,h m H Le.refl as,h⟩
theorem Ok.here(h:Ok K Z (R.ok a st) m H Q)(as:aB K H m Z st):Q a st m H:=h m H Le.refl as
inductive tE (K:KB) (Z:List Addr) (d:b9->aN->R P) (σ:St) (H:Hp) (Q:VK):Prop
 |mk (m:List Addr) (r:b9) (st:aN) (a:cA K H m Z r σ) (b:aB K H m Z st) (c:Ok K Z (d r st) m H (λp _ m' H'=>∀v,ak K H' m' Z p v->Q v H')):tE K Z d σ H Q
inductive tT (K:KB) (Z:List Addr) (d:b9->aN->R Bool) (σ:St) (H:Hp) (Q:Bool->Hp->Prop):Prop
 |mk (m:List Addr) (r:b9) (st:aN) (a:cA K H m Z r σ) (b:aB K H m Z st) (c:Ok K Z (d r st) m H (λb _ _ H'=>Q b H')):tT K Z d σ H Q
inductive tA (K:KB) (Z:List Addr) (d:b9->aN->R (List P)) (σ:St) (H:Hp) (Q:List V->Hp->Prop):Prop
 |mk (m:List Addr) (r:b9) (st:aN) (a:cA K H m Z r σ) (b:aB K H m Z st) (c:Ok K Z (d r st) m H (λps _ m' H'=>∀vs,ah K H' m' Z ps vs->Q vs H')):tA K Z d σ H Q
def LQ(K:KB)(Z:List Addr)(r:R (List P))(m:List Addr)(H:Hp)(Q:VK):Prop:=match r with|.ok ps aM=>∀m' H' a vs,Le K m H m' H'->H a=Θ->a∉m'->H' a=Δ (.lst vs)->aB K H' m' (a::Z) aM->ah K H' m' (a::Z) ps vs->Q (.ref a) H'|_=>False
inductive tL (K:KB) (Z:List Addr) (d:b9->aN->R (List P)) (σ:St) (H:Hp) (Q:VK):Prop
 |mk (m:List Addr) (r:b9) (st:aN) (a:cA K H m Z r σ) (b:aB K H m Z st) (c:LQ K Z (d r st) m H Q):tL K Z d σ H Q
def qC(K:KB)(Z:List Addr)(D:Ends):Fl->aN->List Addr->Hp->Prop:=λf _ m' H'=>match f with|.nx r=>∀σ,cA K H' m' Z r σ->D.nx σ H'|.bk r=>∀σ,cA K H' m' Z r σ->D.bk σ H'|.ct r=>∀σ,cA K H' m' Z r σ->D.ct σ H'|.rt p=>∀v,ak K H' m' Z p v->D.rt v H'
mutual
theorem aH.sub{Z':List Addr}(sm:∀a∈m',a∈m)(s:∀a∈Z,a∈Z'):∀{x:D} {v:V},aH K H m Z' x v->aH K H m' Z x v
 |.bu,_,h=>h|.bl _,_,h=>h|.int _,_,h=>h|.str _,_,h=>h|.tup xs,v,h=>by obtain⟨a,us,e,q,r⟩:=(show ∃a us,v=.ref a/\H a=Δ (.tup us)/\aq K H m Z' xs us from h);exact⟨a,us,e,q,aq.sub sm s r⟩
 |.pl xs,v,h=>by obtain⟨a,us,e,q,hm,hz,r⟩:=(show ∃a us,v=.ref a/\Rd H a (.lst us)/\a∉m/\a∉Z'/\aq K H m Z' xs us from h);exact⟨a,us,e,q,λz=>hm (sm a z),λz=>hz (s a z),aq.sub sm s r⟩
theorem aq.sub{Z':List Addr}(sm:∀a∈m',a∈m)(s:∀a∈Z,a∈Z'):∀{xs:List D} {us:List V},aq K H m Z' xs us->aq K H m' Z xs us
 |[],_,h=>h|x::xs,us,h=>by obtain⟨v,vs,e,r,rs⟩:=(show ∃v vs,us=v::vs/\aH K H m Z' x v/\aq K H m Z' xs vs from h);exact⟨v,vs,e,aH.sub sm s r,aq.sub sm s rs⟩
end
theorem aH.vz(s:∀a∈Z,a∈Z')(h:aH K H m Z' x v):aH K H m Z x v:=aH.sub (λ_ h=>h) s h
theorem aH.bare(h:aH K H m Z x v):aH K H [] [] x v:=aH.sub (λ_ h=>by cases h) (λ_ h=>by cases h) h
theorem aq.bare(h:aq K H m Z x v):aq K H [] [] x v:=aq.sub (λ_ h=>by cases h) (λ_ h=>by cases h) h
mutual
theorem ak.vz{Z':List Addr}(s:∀a∈Z,a∈Z'):∀{x:P} {v:V},ak K H m Z' x v->ak K H m Z x v
 |.d _,_,h=>by rw[ak] at h ⊢;exact aH.vz s h|.obj _,_,h=>by rw[ak] at h ⊢;exact h|.gq _,_,h=>by rw[ak] at h ⊢;exact h|.fn k bq,v,h=>by rw[ak] at h ⊢;obtain⟨a,c,bW,e,q,hc,r⟩:=h;exact⟨a,c,bW,e,q,hc,ah.vz s r⟩
 |.lf k,v,h=>by rw[ak] at h ⊢;exact h
theorem ah.vz{Z':List Addr}(s:∀a∈Z,a∈Z'):∀{xs:List P} {us:List V},ah K H m Z' xs us->ah K H m Z xs us
 |[],_,h=>h|x::xs,us,h=>by rw[ah] at h ⊢;obtain⟨v,vs,e,r,rs⟩:=h;exact⟨v,vs,e,ak.vz s r,ah.vz s rs⟩
end
mutual
theorem aH.kR{b:Addr}(hb:H b=Θ):∀{x:D} {v:V},aH K H m Z x v->aH K H m (b::Z) x v
 |.bu,_,h=>h|.bl _,_,h=>h|.int _,_,h=>h|.str _,_,h=>h|.tup xs,v,h=>by obtain⟨a,us,e,q,r⟩:=(show ∃a us,v=.ref a/\H a=Δ (.tup us)/\aq K H m Z xs us from h);exact⟨a,us,e,q,aq.kR hb r⟩
 |.pl xs,v,h=>by
  obtain⟨a,us,e,q,hm,hz,r⟩:=(show ∃a us,v=.ref a/\Rd H a (.lst us)/\a∉m/\a∉Z/\aq K H m Z xs us from h);refine⟨a,us,e,q,hm,λz=>?_,aq.kR hb r⟩;rcases Zy.mp z with z|z;·rw[z] at q;exact Gs q hb
  ·exact hz z
theorem aq.kR{b:Addr}(hb:H b=Θ):∀{xs:List D} {us:List V},aq K H m Z xs us->aq K H m (b::Z) xs us
 |[],_,h=>h|x::xs,us,h=>by obtain⟨v,vs,e,r,rs⟩:=(show ∃v vs,us=v::vs/\aH K H m Z x v/\aq K H m Z xs vs from h);exact⟨v,vs,e,aH.kR hb r,aq.kR hb rs⟩
end
mutual
theorem ak.kR{b:Addr}(hb:H b=Θ):∀{x:P} {v:V},ak K H m Z x v->ak K H m (b::Z) x v
 |.d _,_,h=>by rw[ak] at h ⊢;exact aH.kR hb h|.obj _,_,h=>by rw[ak] at h ⊢;exact h|.gq _,_,h=>by rw[ak] at h ⊢;exact h|.fn k bq,v,h=>by rw[ak] at h ⊢;obtain⟨a,c,bW,e,q,hc,r⟩:=h;exact⟨a,c,bW,e,q,hc,ah.kR hb r⟩
 |.lf k,v,h=>by rw[ak] at h ⊢;exact h
theorem ah.kR{b:Addr}(hb:H b=Θ):∀{xs:List P} {us:List V},ah K H m Z xs us->ah K H m (b::Z) xs us
 |[],_,h=>h|x::xs,us,h=>by rw[ah] at h ⊢;obtain⟨v,vs,e,r,rs⟩:=h;exact⟨v,vs,e,ak.kR hb r,ah.kR hb rs⟩
end
theorem aB.QJ(A:aB K H m Z st)(h:a∈m):H a≠Θ:=by
 obtain⟨n,hn,e⟩:=List.mem_iff_getElem.mp h;have EU:n < st.length:=by rw[<-A.len];exact hn
 obtain⟨a',e',r⟩:=A.at_ n st[n] (W6 EU);rw[W6 hn,e] at e';cases e';exact r.qR.1
theorem aB.fresh(A:aB K H m Z st)(h:H a=Θ):a∉m/\a∉Z:=⟨λz=>A.QJ z h,λz=>A.zt a z (jO h)⟩
theorem lG(hx:∀φ,o≠.ext φ)(h:gk H b≠Θ):gk (upd H a o) b≠Θ:=by
 by_cases hb:b=a;·rw[hb,bp aD hx];exact λz=>nomatch z
 ·unfold gk at h ⊢;rw[ax hb];exact h
theorem aB.laid(A:aB K H m Z st)(h:H a=Θ)o(hx:∀φ,o≠.ext φ:=by exact λ_ z=>nomatch z):aB K (upd H a o) m (a::Z) st:=by
 have e:jj H (upd H a o):=aZ h o;have A':=A.same e;refine⟨A.len,A.nd,λn ob hn=>?_,λb hb=>?_,λb hb=>?_,A'.tab⟩;·obtain⟨c,q,r⟩:=A.at_ n ob hn;exact⟨c,q,r.mono (λb u _ hu=>e _ _ hu) λp v z=>(z.kR h).le (Le.same e)⟩
 ·rcases Zy.mp hb with z|z;·rw[z,bp aD hx];exact λz=>nomatch z
  ·exact A'.zt b z
 ·rcases Zy.mp hb with z|z;·rw[z];exact(A.fresh h).1
  ·exact A.zm b z
theorem aB.QK(A:aB K H m Z st)(h:H a=Θ)(e:jj H H')(h':gk H' a≠Θ):aB K H' m (a::Z) st:=by
 refine⟨A.len,A.nd,λn ob hn=>?_,λb hb=>?_,λb hb=>?_,(A.same e).tab⟩;·obtain⟨c,q,r⟩:=A.at_ n ob hn;exact⟨c,q,r.mono (λb u _ hu=>e _ _ hu) λp v z=>(z.kR h).le (Le.same e)⟩
 ·rcases Zy.mp hb with z|z;·rw[z];exact h'
  ·exact tR e (A.zt b z)
 ·rcases Zy.mp hb with z|z;·rw[z];exact(A.fresh h).1
  ·exact A.zm b z
theorem aB.vz(A:aB K H m Z' st)(s:∀a∈Z,a∈Z'):aB K H m Z st:=
 ⟨A.len,A.nd,λn o h=>by obtain⟨a,q,r⟩:=A.at_ n o h;exact⟨a,q,r.mono (λb u _ hu=>hu) λp v z=>z.vz s⟩,λa h=>A.zt a (s a h),λa h=>A.zm a (s a h),A.tab⟩
mutual
theorem aH.adopt{b:Addr}:∀{x:D} {v:V},aH K H m (b::Z) x v->aH K H (m++[b]) Z x v
 |.bu,_,h=>h|.bl _,_,h=>h|.int _,_,h=>h|.str _,_,h=>h|.tup xs,v,h=>by obtain⟨a,us,e,q,r⟩:=(show ∃a us,v=.ref a/\H a=Δ (.tup us)/\aq K H m (b::Z) xs us from h);exact⟨a,us,e,q,aq.adopt r⟩
 |.pl xs,v,h=>by
  obtain⟨a,us,e,q,hm,hz,r⟩:=(show ∃a us,v=.ref a/\Rd H a (.lst us)/\a∉m/\a∉b::Z/\aq K H m (b::Z) xs us from h);refine⟨a,us,e,q,λz=>?_,λz=>hz (W5 _ z),aq.adopt r⟩;rcases aaA.mp z with z|z;·exact hm z
  ·exact hz (by simp at z;rw[z];exact W8)
theorem aq.adopt{b:Addr}:∀{xs:List D} {us:List V},aq K H m (b::Z) xs us->aq K H (m++[b]) Z xs us
 |[],_,h=>h|x::xs,us,h=>by obtain⟨v,vs,e,r,rs⟩:=(show ∃v vs,us=v::vs/\aH K H m (b::Z) x v/\aq K H m (b::Z) xs vs from h);exact⟨v,vs,e,aH.adopt r,aq.adopt rs⟩
end
mutual
theorem ak.adopt{b:Addr}:∀{x:P} {v:V},ak K H m (b::Z) x v->ak K H (m++[b]) Z x v
 |.d _,_,h=>by rw[ak] at h ⊢;exact aH.adopt h|.obj n,v,h=>by rw[ak] at h ⊢;obtain⟨a,e,r⟩:=h;exact⟨a,by rw[Xb (qqz e).1];exact e,r⟩
 |.gq _,_,h=>by rw[ak] at h ⊢;exact h|.fn k bq,v,h=>by rw[ak] at h ⊢;obtain⟨a,c,bW,e,q,hc,r⟩:=h;exact⟨a,c,bW,e,q,hc,ah.adopt r⟩
 |.lf k,v,h=>by rw[ak] at h ⊢;exact h
theorem ah.adopt{b:Addr}:∀{xs:List P} {us:List V},ah K H m (b::Z) xs us->ah K H (m++[b]) Z xs us
 |[],_,h=>h|x::xs,us,h=>by rw[ah] at h ⊢;obtain⟨v,vs,e,r,rs⟩:=h;exact⟨v,vs,e,ak.adopt r,ah.adopt rs⟩
end
theorem kB{l:List Addr}(nd:l.Nodup)(hi:i < l.length)(hj:j < l.length)(h:l[i]=l[j]):i=j:=by
 rcases Nat.lt_trichotomy i j with z|z|z;·exact absurd h (List.pairwise_iff_getElem.mp nd i j hi hj z)
 ·exact z
 ·exact absurd h.symm (List.pairwise_iff_getElem.mp nd j i hj hi z)
theorem aB.tU(A:aB K H m (a::Z) st)(hz:a∉Z)(r:rf K H m (a::Z) a ob):aB K H (m++[a]) Z (st++[ob]):=by
 refine⟨by rw[Xs,Xs,A.len];rfl,?_,λn o h=>?_,λb h=>A.zt b (W5 _ h),λb h z=>?_,A.tab⟩
 ·refine X5.mpr ⟨A.nd,by simp,λx hx y hy=>?_⟩;have e:y=a:=by simpa using hy
  rw[e];rintro rfl;exact A.zm x W8 hx
 ·by_cases hn:n < st.length;·rw[Xb hn] at h;obtain⟨b,q,rr⟩:=A.at_ n o h;exact⟨b,by rw[Xb (by rw[A.len];exact hn)];exact q,rr.mono (λb u _ hu=>hu) λp v z=>z.adopt⟩
  ·rw[Xu (by lia)] at h;have S0:n - st.length=0:=by
    have:=(qqz h).1;simp at this
    lia
   rw[S0] at h;cases h;refine⟨a,?_,r.mono (λb u _ hu=>hu) λp v z=>z.adopt⟩;rw[Xu (by rw[A.len];lia),A.len,S0];rfl
 ·rcases aaA.mp z with z|z;·exact A.zm b (W5 _ h) z
  ·have e:b=a:=by simpa using z
   rw[e] at h;exact hz h
theorem aB.adopt(A:aB K H m (a::Z) st)(hz:a∉Z)(ha:H a=Δ (.lst vs))(r:ah K H m (a::Z) ps vs):aB K H (m++[a]) Z (st++[.lst ps]):=A.tU hz ⟨vs,ha,r⟩
theorem aB.write(A:aB K H m Z st)(hn:st[n]?=Δ o)(ha:m[n]?=Δ a)(oR:∀H',H' a=Δ ho->(∀b u,b≠a->H b=Δ u->H' b=Δ u)->(∀p v,ak K H m Z p v->ak K H' m Z p v)->rf K H' m Z a o')(hx:∀φ,ho≠.ext φ:=by exact λ_ z=>nomatch z)(hl:o≠.vp:=by exact λz=>nomatch z):
  Le K m H m (upd H a ho)/\aB K (upd H a ho) m Z (st.set n o'):=by
 obtain⟨a',e,r⟩:=A.at_ n o hn;rw[ha] at e;cases e;obtain⟨t1,t2,t3,t4,t5,t6⟩:=r.qR;replace t3:=t3 hl;have le:Le K m H m (upd H a ho):=by
  refine⟨⟨[],by simp⟩,λb xs h=>?_,λb u h hb _=>?_,λb h=>.inl h,λb h=>?_,λb h=>lG hx h,λb o u h=>?_,λb φ h=>?_,λb ps h=>⟨#[],?_⟩⟩;·rw[ax (λz=>t2 xs (by rw[<-z];exact h))];exact h
  ·rw[ax (λz=>hb (by rw[z];exact Xw ha))];exact h
  ·by_cases MO:b=a;·rw[MO,aD];exact λz=>nomatch z
   ·rw[ax MO];exact h
  ·rw[ax (λz=>t3 o u (by rw[<-z];exact h))];exact h
  ·rw[ax (λz=>t4 φ (by rw[<-z];exact h))];exact h
  ·rw[ax (λz=>t5 ps (by rw[<-z];exact h)),h];simp
 refine⟨le,⟨by rw[YD];exact A.len,A.nd,λk ob hk=>?_,λb hb=>le.CG b (A.zt b hb),A.zm,λt ht=>?_⟩⟩
 rotate_left
 ·obtain⟨ps,h1,h2⟩:=A.tab t ht;exact⟨ps,by rw[ax (λz=>t5 ps (by rw[<-z];exact h1))];exact h1,fz.same le.ext h2⟩
 by_cases MP:n=k;·subst MP;have fm:=(qqz hn).1;rw[Xy fm] at hk;cases hk;exact⟨a,ha,oR _ aD (λb u hb hu=>by rw[ax hb];exact hu) λp v z=>z.le le⟩
 ·rw[W9 MP] at hk;obtain⟨b,q,rr⟩:=A.at_ k ob hk;have MO:b≠a:=by rintro rfl;have h1:=(qqz ha);have h2:=(qqz q);obtain⟨l1,e1⟩:=h1;obtain⟨l2,e2⟩:=h2;exact MP (kB A.nd l1 l2 (e1.trans e2.symm))
  exact⟨b,q,rr.mono (λb' u iM hu=>by
   rw[ax (λz=>by
    rcases iM with w1|w1;·exact MO (w1▸z)
    ·exact t6 b (by rw[<-z];exact w1))]
   exact hu) λp v z=>z.le le⟩
end
mutual
def RH(h:Heap):D->Value->Prop
 |.bu,u=>u=.none|.bl b,u=>u=.bool b|.int i,u=>∃t,u=.int i t|.str x,u=>∃t,u=.str x t|.tup xs,u=>∃a its,u=.ref a/\h.IsTuple a its.toArray/\u7 h xs its|.pl xs,u=>∃a its,u=.ref a/\h.IsList a its.toArray/\u7 h xs its
def u7(h:Heap):List D->List Value->Prop
 |[],us=>us=[]|x::xs,us=>∃u r,us=u::r/\RH h x u/\u7 h xs r
end
section
variable{h:Heap}
theorem u7.length:∀{xs} {us},u7 h xs us->us.length=xs.length
 |[],us,r=>by cases (show us=[] from r);rfl|x::xs,us,r=>by obtain⟨u,q,rfl,_,rs⟩:=(show ∃u r,us=u::r/\RH h x u/\u7 h xs r from r);rw[Xq,Xq,u7.length rs]
theorem qD(p:h.IsTuple a x)(q:h.IsTuple a y):x=y:=by obtain⟨o,e,_,n,d⟩:=p;obtain⟨o',e',_,n',d'⟩:=q;rw[e] at e';cases e';rw[d] at d';cases d';rfl
theorem tV(p:h.IsList a x)(q:h.IsList a y):x=y:=by obtain⟨o,e,_,n,d⟩:=p;obtain⟨o',e',_,n',d'⟩:=q;rw[e] at e';cases e';rw[d] at d';cases d';rfl
theorem zE(p:h.IsTuple a x)(q:h.IsList a y):False:=by obtain⟨o,e,c,_⟩:=p;obtain⟨o',e',c',_⟩:=q;rw[e] at e';cases e';rw[c] at c';exact absurd c' (by decide+kernel)
mutual
theorem RH.self:∀{x y:D} {u:Value},RH h x u->RH h y u->u6 x y=Λ
 |.bu,y,u,p,q=>by cases (show u=.none from p);cases y with|bu=>rfl|bl b=>exact nomatch (show Zd=.bool b from q)|int i=>obtain⟨t,e⟩:=q;exact nomatch e|str i=>obtain⟨t,e⟩:=q;exact nomatch e|tup i=>obtain⟨t,_,e,_⟩:=q;exact nomatch e|pl i=>obtain⟨t,_,e,_⟩:=q;exact nomatch e
 |.bl b,y,u,p,q=>by cases (show u=.bool b from p);cases y with|bu=>exact nomatch (show Z8 b=.none from q)|bl c=>cases (show Z8 b=.bool c from q);simp[u6]|int i=>obtain⟨t,e⟩:=q;exact nomatch e|str i=>obtain⟨t,e⟩:=q;exact nomatch e|tup i=>obtain⟨t,_,e,_⟩:=q;exact nomatch e|pl i=>obtain⟨t,_,e,_⟩:=q;exact nomatch e
 |.int b,y,u,p,q=>by obtain⟨t0,rfl⟩:=p;cases y with|bu=>exact nomatch (show aa5 b t0=.none from q)|bl c=>exact nomatch (show aa5 b t0=.bool c from q)|int i=>obtain⟨t,e⟩:=q;cases e;simp[u6]|str i=>obtain⟨t,e⟩:=q;exact nomatch e|tup i=>obtain⟨t,_,e,_⟩:=q;exact nomatch e|pl i=>obtain⟨t,_,e,_⟩:=q;exact nomatch e
 |.str b,y,u,p,q=>by obtain⟨t0,rfl⟩:=p;cases y with|bu=>exact nomatch (show aa4 b t0=.none from q)|bl c=>exact nomatch (show aa4 b t0=.bool c from q)|int i=>obtain⟨t,e⟩:=q;exact nomatch e|str i=>obtain⟨t,e⟩:=q;cases e;simp[u6]|tup i=>obtain⟨t,_,e,_⟩:=q;exact nomatch e|pl i=>obtain⟨t,_,e,_⟩:=q;exact nomatch e
 |.tup xs,y,u,p,q=>by
  obtain⟨a,its,rfl,ht,rs⟩:=p;cases y with
  |bu=>exact nomatch (show XC a=.none from q)|bl c=>exact nomatch (show XC a=.bool c from q)|int i=>obtain⟨t,e⟩:=q;exact nomatch e|str i=>obtain⟨t,e⟩:=q;exact nomatch e|tup ys=>
   obtain⟨b,its',e,wC,xO⟩:=q;cases e;have e2:its=its':=by simpa using qD ht wC
   subst e2;show fI xs ys=Λ;exact u7.self rs xO
  |pl ys=>obtain⟨b,its',e,wC,xO⟩:=q;cases e;exact(zE ht wC).elim
 |.pl xs,y,u,p,q=>by
  obtain⟨a,its,rfl,ht,rs⟩:=p;cases y with
  |bu=>exact nomatch (show XC a=.none from q)|bl c=>exact nomatch (show XC a=.bool c from q)|int i=>obtain⟨t,e⟩:=q;exact nomatch e|str i=>obtain⟨t,e⟩:=q;exact nomatch e|tup ys=>obtain⟨b,its',e,wC,xO⟩:=q;cases e;exact(zE wC ht).elim
  |pl ys=>
   obtain⟨b,its',e,wC,xO⟩:=q;cases e;have e2:its=its':=by simpa using tV ht wC
   subst e2;show fI xs ys=Λ;exact u7.self rs xO
theorem u7.self:∀{xs ys:List D} {us:List Value},u7 h xs us->u7 h ys us->fI xs ys=Λ
 |[],ys,us,p,q=>by cases (show us=[] from p);cases ys with|nil=>rfl|cons y ys=>obtain⟨u,r,e,_⟩:=q;exact nomatch e
 |x::xs,ys,us,p,q=>by obtain⟨u,r,rfl,p1,p2⟩:=(show ∃u r,us=u::r/\RH h x u/\u7 h xs r from p);cases ys with|nil=>exact nomatch (show u::r=[] from q)|cons y ys=>obtain⟨u',r',e,q1,q2⟩:=(show ∃u' r',u::r=u'::r'/\RH h y u'/\u7 h ys r' from q);cases e;show(u6 x y&&fI xs ys)=Λ;rw[RH.self p1 q1,u7.self p2 q2];rfl
end
def pairD(xs ys:List D)(j:Nat):Bool:=u6 (xs.getD j .bu) (ys.getD j .bu)
theorem nT:∀xs ys,((W7 (min xs.length ys.length)).all (pairD xs ys)&&xs.length==ys.length)=fI xs ys
 |[],[]=>rfl|[],_::_=>by simp[fI]|_::_,[]=>by simp[fI]|x::xs,y::ys=>by
  have ih:=nT xs ys;have e1:min (x::xs).length (y::ys).length=min xs.length ys.length+1:=by simp only[Xq];lia
  have e2:((x::xs).length==(y::ys).length)=(xs.length==ys.length):=by simp
  have e3:(W7 (min xs.length ys.length+1)).all (pairD (x::xs) (y::ys))=(u6 x y&&(W7 (min xs.length ys.length)).all (pairD xs ys)):=by rw[List.range_succ_eq_map,YY,List.all_map];first|rfl|simp[pairD,Yn]
  rw[e1,e2,e3,fI,<-ih,Bool.and_assoc]
theorem zG(h:xs.length=ys.length):(W7 xs.length).all (pairD xs ys)=fI xs ys:=by have:=nT xs ys;rw[<-h,Nat.min_self] at this;simpa using this
theorem tX(h:xs.length≠ys.length):fI xs ys=Ξ:=by rw[<-nT xs ys];simp[h]
open SeqAt
mutual
theorem QL:∀(x y:D) (A:YF) (s:Xp) (u v:Value),RH s.heap x u->RH s.heap y v->A.units+min (lU x) (lU y) < cLine->RcAt A s u v (u6 x y)/\RcNeAt A s u v (!u6 x y)
 |.bu,y,A,s,u,v,p,q,hu=>by cases (show u=.none from p);cases y with|bu=>cases (show v=.none from q);exact⟨RcAt.none_none,RcNeAt.none_none⟩|bl b=>cases (show v=.bool b from q);exact⟨RcAt.none_bool b,RcNeAt.none_bool b⟩|int b=>obtain⟨t,rfl⟩:=q;exact⟨RcAt.none_int b t,RcNeAt.none_int b t⟩|str b=>obtain⟨t,rfl⟩:=q;exact⟨RcAt.none_str b t,RcNeAt.none_str b t⟩|tup ys=>obtain⟨a,its,rfl,hl,_⟩:=q;exact⟨RcAt.none_tuple hl (room_here hu),RcNeAt.none_tuple hl (room_here hu)⟩|pl ys=>obtain⟨a,its,rfl,hl,_⟩:=q;exact⟨RcAt.none_list hl (room_here hu),RcNeAt.none_list hl (room_here hu)⟩
 |.bl x,y,A,s,u,v,p,q,hu=>by cases (show u=.bool x from p);cases y with|bu=>cases (show v=.none from q);exact⟨RcAt.bool_none x,RcNeAt.bool_none x⟩|bl b=>cases (show v=.bool b from q);exact⟨RcAt.bool_bool x b,RcNeAt.bool_bool x b⟩|int b=>obtain⟨t,rfl⟩:=q;exact⟨RcAt.bool_int x b t,RcNeAt.bool_int x b t⟩|str b=>obtain⟨t,rfl⟩:=q;exact⟨RcAt.bool_str x b t,RcNeAt.bool_str x b t⟩|tup ys=>obtain⟨a,its,rfl,hl,_⟩:=q;exact⟨RcAt.bool_tuple x hl (room_here hu),RcNeAt.bool_tuple x hl (room_here hu)⟩|pl ys=>obtain⟨a,its,rfl,hl,_⟩:=q;exact⟨RcAt.bool_list x hl (room_here hu),RcNeAt.bool_list x hl (room_here hu)⟩
 |.int x,y,A,s,u,v,p,q,hu=>by obtain⟨t0,rfl⟩:=p;cases y with|bu=>cases (show v=.none from q);exact⟨RcAt.int_none x t0,RcNeAt.int_none x t0⟩|bl b=>cases (show v=.bool b from q);exact⟨RcAt.int_bool x t0 b,RcNeAt.int_bool x t0 b⟩|int b=>obtain⟨t,rfl⟩:=q;exact⟨RcAt.int_int x t0 b t,RcNeAt.int_int x t0 b t⟩|str b=>obtain⟨t,rfl⟩:=q;exact⟨RcAt.int_str x t0 b t,RcNeAt.int_str x t0 b t⟩|tup ys=>obtain⟨a,its,rfl,hl,_⟩:=q;exact⟨RcAt.int_tuple x t0 hl (room_here hu),RcNeAt.int_tuple x t0 hl (room_here hu)⟩|pl ys=>obtain⟨a,its,rfl,hl,_⟩:=q;exact⟨RcAt.int_list x t0 hl (room_here hu),RcNeAt.int_list x t0 hl (room_here hu)⟩
 |.str x,y,A,s,u,v,p,q,hu=>by obtain⟨t0,rfl⟩:=p;cases y with|bu=>cases (show v=.none from q);exact⟨RcAt.str_none x t0,RcNeAt.str_none x t0⟩|bl b=>cases (show v=.bool b from q);exact⟨RcAt.str_bool x t0 b,RcNeAt.str_bool x t0 b⟩|int b=>obtain⟨t,rfl⟩:=q;exact⟨RcAt.str_int x t0 b t,RcNeAt.str_int x t0 b t⟩|str b=>obtain⟨t,rfl⟩:=q;exact⟨RcAt.str_str x t0 b t,RcNeAt.str_str x t0 b t⟩|tup ys=>obtain⟨a,its,rfl,hl,_⟩:=q;exact⟨RcAt.str_tuple x t0 hl (room_here hu),RcNeAt.str_tuple x t0 hl (room_here hu)⟩|pl ys=>obtain⟨a,its,rfl,hl,_⟩:=q;exact⟨RcAt.str_list x t0 hl (room_here hu),RcNeAt.str_list x t0 hl (room_here hu)⟩
 |.tup xs,y,A,s,u,v,p,q,hu=>by
  obtain⟨a,its,rfl,hl,rs⟩:=p;cases y with
  |bu=>cases (show v=.none from q);exact⟨RcAt.tuple_none hl (room_here hu),RcNeAt.tuple_none hl (room_here hu)⟩|bl b=>cases (show v=.bool b from q);exact⟨RcAt.tuple_bool b hl (room_here hu),RcNeAt.tuple_bool b hl (room_here hu)⟩|int b=>obtain⟨t,rfl⟩:=q;exact⟨RcAt.tuple_int b t hl (room_here hu),RcNeAt.tuple_int b t hl (room_here hu)⟩|str b=>obtain⟨t,rfl⟩:=q;exact⟨RcAt.tuple_str b t hl (room_here hu),RcNeAt.tuple_str b t hl (room_here hu)⟩|pl ys=>obtain⟨b,its',rfl,m9,_⟩:=q;exact⟨RcAt.tuple_list hl m9 (room_here hu),RcNeAt.tuple_list hl m9 (room_here hu)⟩|tup ys=>
   obtain⟨b,its',rfl,m9,xO⟩:=q;have n1:its.toArray.size=xs.length:=by rw[Xh];exact rs.length
   have n2:its'.toArray.size=ys.length:=by rw[Xh];exact xO.length
   have he:∀j (j1:j < its.toArray.size) (j2:j < its'.toArray.size),EqAt A.in1 s its.toArray[j] its'.toArray[j] (pairD xs ys j):=λj j1 j2=>by have:=zH xs ys A.in1 s its its' rs xO (room_in hu) j (by simpa using j1) (by simpa using j2);simpa using this
   show RcAt A s (.ref a) (.ref b) (fI xs ys)/\RcNeAt A s (.ref a) (.ref b) (!fI xs ys);rw[<-nT xs ys,<-n1,<-n2];exact⟨RcAt.tuples hl m9 (room_here hu) he,RcNeAt.tuples hl m9 (room_here hu) he⟩
 |.pl xs,y,A,s,u,v,p,q,hu=>by
  obtain⟨a,its,rfl,hl,rs⟩:=p;cases y with
  |bu=>cases (show v=.none from q);exact⟨RcAt.list_none hl (room_here hu),RcNeAt.list_none hl (room_here hu)⟩|bl b=>cases (show v=.bool b from q);exact⟨RcAt.list_bool b hl (room_here hu),RcNeAt.list_bool b hl (room_here hu)⟩|int b=>obtain⟨t,rfl⟩:=q;exact⟨RcAt.list_int b t hl (room_here hu),RcNeAt.list_int b t hl (room_here hu)⟩|str b=>obtain⟨t,rfl⟩:=q;exact⟨RcAt.list_str b t hl (room_here hu),RcNeAt.list_str b t hl (room_here hu)⟩|tup ys=>obtain⟨b,its',rfl,m9,_⟩:=q;exact⟨RcAt.list_tuple hl m9 (room_here hu),RcNeAt.list_tuple hl m9 (room_here hu)⟩|pl ys=>
   obtain⟨b,its',rfl,m9,xO⟩:=q;have n1:its.toArray.size=xs.length:=by rw[Xh];exact rs.length
   have n2:its'.toArray.size=ys.length:=by rw[Xh];exact xO.length
   have he:∀j (j1:j < its.toArray.size) (j2:j < its'.toArray.size),EqAt A.in1 s its.toArray[j] its'.toArray[j] (pairD xs ys j):=λj j1 j2=>by have:=zH xs ys A.in1 s its its' rs xO (room_in hu) j (by simpa using j1) (by simpa using j2);simpa using this
   show RcAt A s (.ref a) (.ref b) (fI xs ys)/\RcNeAt A s (.ref a) (.ref b) (!fI xs ys);by_cases hsz:its.toArray.size=its'.toArray.size;·rw[<-zG (by lia:xs.length=ys.length),<-n1];exact⟨RcAt.lists hl m9 hsz (room_here hu) he,RcNeAt.lists hl m9 hsz (room_here hu) he⟩
   ·rw[tX (by lia:xs.length≠ys.length)];exact⟨RcAt.lists_lengths hl m9 (by simpa using hsz) (room_here hu),RcNeAt.lists_lengths hl m9 (by simpa using hsz) (room_here hu)⟩
theorem Vr:∀(x y:D) (A:YF) (s:Xp) (u v:Value),RH s.heap x u->RH s.heap y v->A.units+min (lU x) (lU y) < cLine->EqAt A s u v (u6 x y)
 |.bu,y,A,s,u,v,p,q,hu=>by cases (show u=.none from p);cases y with|bu=>cases (show v=.none from q);exact EqAt.same _|bl b=>cases (show v=.bool b from q);exact EqAt.none_bool b|int b=>obtain⟨t,rfl⟩:=q;exact EqAt.none_int b t|str b=>obtain⟨t,rfl⟩:=q;exact EqAt.none_str b t|tup ys=>obtain⟨a,its,rfl,hl,_⟩:=q;exact EqAt.none_tuple hl (room_here hu)|pl ys=>obtain⟨a,its,rfl,hl,_⟩:=q;exact EqAt.none_list hl (room_here hu)
 |.bl x,y,A,s,u,v,p,q,hu=>by cases (show u=.bool x from p);cases y with|bu=>cases (show v=.none from q);exact EqAt.bool_none x|bl b=>cases (show v=.bool b from q);exact EqAt.bool_bool x b|int b=>obtain⟨t,rfl⟩:=q;exact EqAt.bool_int x b t|str b=>obtain⟨t,rfl⟩:=q;exact EqAt.bool_str x b t|tup ys=>obtain⟨a,its,rfl,hl,_⟩:=q;exact EqAt.bool_tuple x hl (room_here hu)|pl ys=>obtain⟨a,its,rfl,hl,_⟩:=q;exact EqAt.bool_list x hl (room_here hu)
 |.int x,y,A,s,u,v,p,q,hu=>by obtain⟨t0,rfl⟩:=p;cases y with|bu=>cases (show v=.none from q);exact EqAt.int_none x t0|bl b=>cases (show v=.bool b from q);exact EqAt.int_bool x t0 b|int b=>obtain⟨t,rfl⟩:=q;exact EqAt.int_int x t0 b t|str b=>obtain⟨t,rfl⟩:=q;exact EqAt.int_str x t0 b t|tup ys=>obtain⟨a,its,rfl,hl,_⟩:=q;exact EqAt.int_tuple x t0 hl (room_here hu)|pl ys=>obtain⟨a,its,rfl,hl,_⟩:=q;exact EqAt.int_list x t0 hl (room_here hu)
 |.str x,y,A,s,u,v,p,q,hu=>by obtain⟨t0,rfl⟩:=p;cases y with|bu=>cases (show v=.none from q);exact EqAt.str_none x t0|bl b=>cases (show v=.bool b from q);exact EqAt.str_bool x t0 b|int b=>obtain⟨t,rfl⟩:=q;exact EqAt.str_int x t0 b t|str b=>obtain⟨t,rfl⟩:=q;exact EqAt.str_str x t0 b t|tup ys=>obtain⟨a,its,rfl,hl,_⟩:=q;exact EqAt.str_tuple x t0 hl (room_here hu)|pl ys=>obtain⟨a,its,rfl,hl,_⟩:=q;exact EqAt.str_list x t0 hl (room_here hu)
 |.tup xs,y,A,s,u,v,p,q,hu=>by
  obtain⟨a,its,rfl,hl,rs⟩:=p;cases y with
  |bu=>cases (show v=.none from q);exact EqAt.tuple_none hl (room_here hu)|bl b=>cases (show v=.bool b from q);exact EqAt.tuple_bool b hl (room_here hu)|int b=>obtain⟨t,rfl⟩:=q;exact EqAt.tuple_int b t hl (room_here hu)|str b=>obtain⟨t,rfl⟩:=q;exact EqAt.tuple_str b t hl (room_here hu)|pl ys=>obtain⟨b,its',rfl,m9,_⟩:=q;exact EqAt.tuple_list hl m9 (room_here hu)|tup ys=>
   obtain⟨b,its',rfl,m9,xO⟩:=q;have n1:its.toArray.size=xs.length:=by rw[Xh];exact rs.length
   have n2:its'.toArray.size=ys.length:=by rw[Xh];exact xO.length
   have he:∀j (j1:j < its.toArray.size) (j2:j < its'.toArray.size),EqAt A.in1 s its.toArray[j] its'.toArray[j] (pairD xs ys j):=λj j1 j2=>by have:=zH xs ys A.in1 s its its' rs xO (room_in hu) j (by simpa using j1) (by simpa using j2);simpa using this
   show EqAt A s (.ref a) (.ref b) (fI xs ys);by_cases MQ:a=b
   ·subst MQ;have e2:its=its':=by simpa using qD hl m9
    subst e2;rw[u7.self rs xO];exact EqAt.same _
   ·rw[<-nT xs ys,<-n1,<-n2];exact EqAt.of_refs MQ (RcAt.tuples hl m9 (room_here hu) he)
 |.pl xs,y,A,s,u,v,p,q,hu=>by
  obtain⟨a,its,rfl,hl,rs⟩:=p;cases y with
  |bu=>cases (show v=.none from q);exact EqAt.list_none hl (room_here hu)|bl b=>cases (show v=.bool b from q);exact EqAt.list_bool b hl (room_here hu)|int b=>obtain⟨t,rfl⟩:=q;exact EqAt.list_int b t hl (room_here hu)|str b=>obtain⟨t,rfl⟩:=q;exact EqAt.list_str b t hl (room_here hu)|tup ys=>obtain⟨b,its',rfl,m9,_⟩:=q;exact EqAt.list_tuple hl m9 (room_here hu)|pl ys=>
   obtain⟨b,its',rfl,m9,xO⟩:=q;have n1:its.toArray.size=xs.length:=by rw[Xh];exact rs.length
   have n2:its'.toArray.size=ys.length:=by rw[Xh];exact xO.length
   have he:∀j (j1:j < its.toArray.size) (j2:j < its'.toArray.size),EqAt A.in1 s its.toArray[j] its'.toArray[j] (pairD xs ys j):=λj j1 j2=>by have:=zH xs ys A.in1 s its its' rs xO (room_in hu) j (by simpa using j1) (by simpa using j2);simpa using this
   show EqAt A s (.ref a) (.ref b) (fI xs ys);by_cases MQ:a=b
   ·subst MQ;have e2:its=its':=by simpa using tV hl m9
    subst e2;rw[u7.self rs xO];exact EqAt.same _
   ·by_cases hsz:its.toArray.size=its'.toArray.size;·rw[<-zG (by lia:xs.length=ys.length),<-n1];exact EqAt.of_refs MQ (RcAt.lists hl m9 hsz (room_here hu) he)
    ·rw[tX (by lia:xs.length≠ys.length)];exact EqAt.of_refs MQ (RcAt.lists_lengths hl m9 (by simpa using hsz) (room_here hu))
theorem zH:∀(xs ys:List D) (A:YF) (s:Xp) (us vs:List Value),u7 s.heap xs us->u7 s.heap ys vs->A.units+min (ki xs) (ki ys) < cLine->
  ∀j (h1:j < us.length) (h2:j < vs.length),EqAt A s us[j] vs[j] (pairD xs ys j)
 |[],_,_,_,us,_,ra,_,_,j,h1,_=>by cases (show us=[] from ra);exact absurd h1 (ZM _)|_::_,[],_,_,_,vs,_,rb,_,j,_,h2=>by cases (show vs=[] from rb);exact absurd h2 (ZM _)|x::xs,y::ys,A,s,us,vs,ra,rb,hu,j,h1,h2=>by obtain⟨u,r,rfl,p1,p2⟩:=(show ∃u r,us=u::r/\RH s.heap x u/\u7 s.heap xs r from ra);obtain⟨v,r',rfl,q1,q2⟩:=(show ∃u r,vs=u::r/\RH s.heap y u/\u7 s.heap ys r from rb);cases j with|zero=>exact Vr x y A s u v p1 q1 (room_head hu)|succ j=>exact zH xs ys A s r r' p2 q2 (room_tail hu) j (Nat.lt_of_succ_lt_succ h1) (Nat.lt_of_succ_lt_succ h2)
end
end
section
variable{X:Cx}{η:List (Addr×Obj)}{σ:St}{H:Hp}{s:Xp}{m Z:List Addr}
mutual
theorem aH.rh(I:Inv X η σ H s):∀{x:D} {v:V} {u:Value},aH (af X kt) H m Z x v->RelV v u->RH s.heap x u
 |.bu,v,u,p,r=>by cases (show v=.bu from p);exact r|.bl b,v,u,p,r=>by cases (show v=.bl b from p);exact r|.int b,v,u,p,r=>by cases (show v=.int b from p);exact r|.str b,v,u,p,r=>by cases (show v=.str b from p);exact r|.tup xs,v,u,p,r=>by obtain⟨a,us,rfl,q,rs⟩:=(show ∃a us,v=.ref a/\H a=Δ (.tup us)/\aq (af X kt) H m Z xs us from p);cases (show u=.ref a from r);obtain⟨its,rv,ht,_⟩:=I.tuple (eY.of q);exact⟨a,its,rfl,ht,aq.rh I rs rv⟩
 |.pl xs,v,u,p,r=>by obtain⟨a,us,rfl,q,_,_,rs⟩:=(show ∃a us,v=.ref a/\Rd H a (.lst us)/\a∉m/\a∉Z/\aq (af X kt) H m Z xs us from p);cases (show u=.ref a from r);obtain⟨its,rv,ht,_⟩:=I.list (.inl q);exact⟨a,its,rfl,ht.isList,aq.rh I rs rv⟩
theorem aq.rh(I:Inv X η σ H s):∀{xs:List D} {vs:List V} {us:List Value},aq (af X kt) H m Z xs vs->aS vs us->u7 s.heap xs us
 |[],vs,us,p,r=>by cases (show vs=[] from p);cases r;rfl|x::xs,vs,us,p,r=>by obtain⟨v,w',rfl,p1,p2⟩:=(show ∃v w',vs=v::w'/\aH (af X kt) H m Z x v/\aq (af X kt) H m Z xs w' from p);cases r with|cons r1 r2=>exact⟨_,_,rfl,aH.rh I p1 r1,aq.rh I p2 r2⟩
end
theorem MR(hu:X.A.units+100 < cLine):kg X (Yw .Eq) (λv u H Q=>∃m Z x y k,aH (af X kt) H m Z x v/\aH (af X kt) H m Z y u/\rR x y=Δ k/\Q (.bl k) H):=by
 intro η s σ H v u a b Q I rx ry h;obtain⟨m,Z,x,y,k,p,q,e,hq⟩:=h;unfold rR at e;split at e;·rename_i hd;cases e;exact(QL x y X.A s a b (p.rh I rx) (q.rh I ry) (by lia)).1 X.prog X.w X.xe _ ⟨.bl (u6 x y),H,I,rfl,hq⟩
 ·cases e
theorem MS(hu:X.A.units+100 < cLine):kg X (Yw .NotEq) (λv u H Q=>∃m Z x y k,aH (af X kt) H m Z x v/\aH (af X kt) H m Z y u/\rR x y=Δ k/\Q (.bl (!k)) H):=by
 intro η s σ H v u a b Q I rx ry h;obtain⟨m,Z,x,y,k,p,q,e,hq⟩:=h;unfold rR at e;split at e;·rename_i hd;cases e;exact(QL x y X.A s a b (p.rh I rx) (q.rh I ry) (by lia)).2 X.prog X.w X.xe _ ⟨.bl (!u6 x y),H,I,rfl,hq⟩
 ·cases e
end
end Y
namespace Y
open PySem L2 PySem.Spec PyProof.Rows
structure G where
 N:List Str
 names:List (Str×ZS)
 fns:List (Str×Nat)
 hZ:List (Str×Int)
 tabs:List (Str×List (Str×Int))
 QM:Nat->ZQ->Expr->Scope->Pos->Bool:=λ_ _ _ _ _=>Ξ
 QN:Nat->Nat->Str->ZQ->List Stmt->Scope->Pos->Bool:=λ_ _ _ _ _ _ _=>Ξ
 K9:Nat->Str->Nat->List (Nat×List Nat)->Bool:=λ_ _ _ _=>Ξ
 QO:Nat->Str->List (Nat×List Nat)->Bool:=λ_ _ _=>Ξ
 yH:Str->Str->Bool:=λ_ _=>Ξ
 A1:Nat->Str->Str->Nat->Bool:=λ_ _ _ _=>Ξ
 A2:Nat->Str->Nat->Bool:=λ_ _ _=>Ξ
 cv:Bool:=Λ
def notStar(e:Expr):Bool:=e.ctorIdx !=22
def G.xP(g:G)(x:Str):Bool:=match g.names.lookup x with|some .local=>Λ|some .cell=>Λ|some .free=>Λ|_=>Ξ
def G.gl(g:G)(x:Str):Bool:=decide (g.names.lookup x=Δ .globalImplicit)
noncomputable def aU(x:Str):Bool:=!(x==("__debug__":Str))&&!(x==("__classdict__":Str))&&!(x==("__name__":Str))
noncomputable def CH:QH->Operator
 |.add=>.Add|.sub=>.Sub|.mul=>.Mult|.mod=>.Mod|.fdiv=>.FloorDiv
noncomputable def kj:K8->CmpOp
 |.lt=>.Lt|.le=>.LtE|.gt=>.Gt|.ge=>.GtE|.eq=>.Eq|.ne=>.NotEq|.isin=>.In|.nM=>.NotIn
noncomputable def xQ:Bf->Str
 |.len=>"len"|.min2=>"min"|.max2=>"max"|.all=>"all"|.any=>"any"|.str=>"str"|.tuple=>"tuple"
def lH:List String:=["int","bool","tuple","str","list"]
def xR(e:Expr):Bool:=e.ctorIdx==26
def mL(e:Expr):Bool:=e.ctorIdx==8||e.ctorIdx==9||e.ctorIdx==10
def cI(e:Expr):Bool:=e.ctorIdx==7
def Jc(g:G)(ts:Nat)(N:List Str)(js:List Nat)(sc:Scope):Bool:=
 decide (sc.kind=.function)&&decide (N.length=ts+js.length)&&
 sc.names.all (λx=>decide (x.2≠.cell)&&(decide (x.2≠.local)||decide (sc.names.lookup x.1=Δ .local))&&(decide (x.2≠.free)||(decide (g.names.lookup x.1=Δ .cell)||decide (g.names.lookup x.1=Δ .free))))&&
 (W7 js.length).all (λi=>match N[ts+i]?,js[i]? with
  |some y,Δ j=>decide (g.N[j]?=Δ y)&&decide (sc.names.lookup y=Δ .free)
  |_,_=>Λ)
def gI(g:G)(x:Str)(js:List Nat):List Str:=x::js.map λj=>(g.N[j]?).getD "?"
def G.inner(g:G)(N:List Str)(sc:Scope):G:={N:=N,names:=sc.names,fns:=g.fns,hZ:=g.hZ,tabs:=g.tabs,cv:=g.cv,yH:=g.yH,A1:=g.A1,A2:=g.A2}
theorem iH{c:Prop}[Decidable c]{a:c->Bool}{g:Prop}(hi:¬c)(h:(if q:c then a q else Ξ)=Λ):g:=by rw[dif_neg hi] at h;exact ft h
noncomputable def bb{α:Type}(l:List α)(k:α->List α->Bool):Bool:=match l with|x::r=>k x r|[]=>Ξ
@[elab_as_elim] theorem aJ{α:Type}{P:List α->Prop}{l:List α}{k:α->List α->Bool}(h:bb l k=Λ)(c:∀x r,k x r=Λ->P (x::r)):P l:=by cases l<;>first|exact c _ _ h|exact ft h
noncomputable def tY{α:Type}(l:Option α)(k:α->Bool):Bool:=match l with|some x=>k x|none=>Ξ
@[elab_as_elim] theorem nU{α:Type}{P:Option α->Prop}{l:Option α}{k:α->Bool}(h:tY l k=Λ)(c:∀x,k x=Λ->P (Δ x)):P l:=by cases l<;>first|exact c _ h|exact ft h
noncomputable def Gu(l:abQ)(k:Expr->Expr->List Expr->Int->Bool):Bool:=k l.target l.iter l.ifs l.is_async
@[elab_as_elim] theorem rS{P:abQ->Prop}{l:abQ}{k:Expr->Expr->List Expr->Int->Bool}(h:Gu l k=Λ)(c:∀a b d e,k a b d e=Λ->P ⟨a,b,d,e⟩):P l:=by cases l;exact c _ _ _ _ h
noncomputable def jr(e:Stmt)(k:(List Expr)->Expr->Pos->Bool):Bool:=if h:e.ctorIdx=5 then @Stmt.Assign.elim (λ_=>Bool) e h k else Ξ
noncomputable def cb(e:Expr)(k:Expr->Str->Pos->Bool):Bool:=if h:e.ctorIdx=20 then @Expr.Attribute.elim (λ_=>Bool) e h k else Ξ
noncomputable def xS(e:Expr)(k:Expr->Operator->Expr->Pos->Bool):Bool:=if h:e.ctorIdx=2 then @Expr.BinOp.elim (λ_=>Bool) e h k else Ξ
noncomputable def nW(e:Expr)(k:BoolOp->(List Expr)->Pos->Bool):Bool:=if h:e.ctorIdx=0 then @Expr.BoolOp.elim (λ_=>Bool) e h k else Ξ
noncomputable def bV(e:Expr)(k:Expr->(List Expr)->(List abJ)->Pos->Bool):Bool:=if h:e.ctorIdx=16 then @Expr.Call.elim (λ_=>Bool) e h k else Ξ
noncomputable def lI(e:Expr)(k:Expr->(List CmpOp)->(List Expr)->Pos->Bool):Bool:=if h:e.ctorIdx=15 then @Expr.Compare.elim (λ_=>Bool) e h k else Ξ
noncomputable def jS(e:Expr)(k:Const->Nat->Pos->Bool):Bool:=if h:e.ctorIdx=19 then @Expr.Constant.elim (λ_=>Bool) e h k else Ξ
noncomputable def xT(e:Expr)(k:(List (Option Expr))->(List Expr)->Pos->Bool):Bool:=if h:e.ctorIdx=6 then @Expr.Dict.elim (λ_=>Bool) e h k else Ξ
noncomputable def rT(e:Stmt)(k:Expr->Pos->Bool):Bool:=if h:e.ctorIdx=24 then @Stmt.Expr.elim (λ_=>Bool) e h k else Ξ
noncomputable def pJ(e:Stmt)(k:Expr->Expr->(List Stmt)->(List Stmt)->Pos->Bool):Bool:=if h:e.ctorIdx=9 then @Stmt.For.elim (λ_=>Bool) e h k else Ξ
noncomputable def ic(e:Stmt)(k:Str->ZQ->(List Stmt)->(List Expr)->(Option Expr)->(List TypeParam)->Scope->(Option Scope)->Str->Pos->Bool):Bool:=if h:e.ctorIdx=0 then @Stmt.FunctionDef.elim (λ_=>Bool) e h k else Ξ
noncomputable def Gv(e:Stmt)(k:Expr->(List Stmt)->(List Stmt)->Pos->Bool):Bool:=if h:e.ctorIdx=12 then @Stmt.If.elim (λ_=>Bool) e h k else Ξ
noncomputable def tZ(e:Expr)(k:ZQ->Expr->Scope->Pos->Bool):Bool:=if h:e.ctorIdx=4 then @Expr.Lambda.elim (λ_=>Bool) e h k else Ξ
noncomputable def BN(e:Expr)(k:(List Expr)->Pos->Bool):Bool:=if h:e.ctorIdx=24 then @Expr.List.elim (λ_=>Bool) e h k else Ξ
noncomputable def jT(e:Expr)(k:Expr->(List abQ)->Scope->Pos->Bool):Bool:=if h:e.ctorIdx=8 then @Expr.ListComp.elim (λ_=>Bool) e h k else Ξ
noncomputable def br(e:Expr)(k:Str->Pos->Bool):Bool:=if h:e.ctorIdx=23 then @Expr.Name.elim (λ_=>Bool) e h k else Ξ
noncomputable def lJ(e:Stmt)(k:(Option Expr)->Pos->Bool):Bool:=if h:e.ctorIdx=3 then @Stmt.Return.elim (λ_=>Bool) e h k else Ξ
noncomputable def rV(e:Expr)(k:(Option Expr)->(Option Expr)->(Option Expr)->Pos->Bool):Bool:=if h:e.ctorIdx=26 then @Expr.Slice.elim (λ_=>Bool) e h k else Ξ
noncomputable def eR(e:Expr)(k:Expr->Expr->Pos->Bool):Bool:=if h:e.ctorIdx=21 then @Expr.Subscript.elim (λ_=>Bool) e h k else Ξ
noncomputable def rW(e:Expr)(k:(List Expr)->Nat->Pos->Bool):Bool:=if h:e.ctorIdx=25 then @Expr.Tuple.elim (λ_=>Bool) e h k else Ξ
noncomputable def jt(e:Expr)(k:UnaryOp->Expr->Pos->Bool):Bool:=if h:e.ctorIdx=3 then @Expr.UnaryOp.elim (λ_=>Bool) e h k else Ξ
noncomputable def t8(e:Stmt)(k:Expr->(List Stmt)->(List Stmt)->Pos->Bool):Bool:=if h:e.ctorIdx=11 then @Stmt.While.elim (λ_=>Bool) e h k else Ξ
section
variable{P:Expr->Prop}{e:Expr}
@[elab_as_elim] theorem cf{k}(h:cb e k=Λ)(c:∀x1 x2 x3,k x1 x2 x3=Λ->P (.Attribute x1 x2 x3)):P e:=if i:e.ctorIdx=20 then @Expr.Attribute.elim (λe=>cb e k=Λ->P e) e i c h else iH i h
@[elab_as_elim] theorem Ec{k}(h:xS e k=Λ)(c:∀x1 x2 x3 x4,k x1 x2 x3 x4=Λ->P (.BinOp x1 x2 x3 x4)):P e:=if i:e.ctorIdx=2 then @Expr.BinOp.elim (λe=>xS e k=Λ->P e) e i c h else iH i h
@[elab_as_elim] theorem t9{k}(h:nW e k=Λ)(c:∀x1 x2 x3,k x1 x2 x3=Λ->P (.BoolOp x1 x2 x3)):P e:=if i:e.ctorIdx=0 then @Expr.BoolOp.elim (λe=>nW e k=Λ->P e) e i c h else iH i h
@[elab_as_elim] theorem aV{k}(h:bV e k=Λ)(c:∀x1 x2 x3 x4,k x1 x2 x3 x4=Λ->P (.Call x1 x2 x3 x4)):P e:=if i:e.ctorIdx=16 then @Expr.Call.elim (λe=>bV e k=Λ->P e) e i c h else iH i h
@[elab_as_elim] theorem qE{k}(h:lI e k=Λ)(c:∀x1 x2 x3 x4,k x1 x2 x3 x4=Λ->P (.Compare x1 x2 x3 x4)):P e:=if i:e.ctorIdx=15 then @Expr.Compare.elim (λe=>lI e k=Λ->P e) e i c h else iH i h
@[elab_as_elim] theorem jU{k}(h:jS e k=Λ)(c:∀x1 x2 x3,k x1 x2 x3=Λ->P (.Constant x1 x2 x3)):P e:=if i:e.ctorIdx=19 then @Expr.Constant.elim (λe=>jS e k=Λ->P e) e i c h else iH i h
@[elab_as_elim] theorem zI{k}(h:xT e k=Λ)(c:∀x1 x2 x3,k x1 x2 x3=Λ->P (.Dict x1 x2 x3)):P e:=if i:e.ctorIdx=6 then @Expr.Dict.elim (λe=>xT e k=Λ->P e) e i c h else iH i h
@[elab_as_elim] theorem BO{k}(h:tZ e k=Λ)(c:∀x1 x2 x3 x4,k x1 x2 x3 x4=Λ->P (.Lambda x1 x2 x3 x4)):P e:=if i:e.ctorIdx=4 then @Expr.Lambda.elim (λe=>tZ e k=Λ->P e) e i c h else iH i h
@[elab_as_elim] theorem zJ{k}(h:BN e k=Λ)(c:∀x1 x2,k x1 x2=Λ->P (.List x1 x2)):P e:=if i:e.ctorIdx=24 then @Expr.List.elim (λe=>BN e k=Λ->P e) e i c h else iH i h
@[elab_as_elim] theorem gQ{k}(h:jT e k=Λ)(c:∀x1 x2 x3 x4,k x1 x2 x3 x4=Λ->P (.ListComp x1 x2 x3 x4)):P e:=if i:e.ctorIdx=8 then @Expr.ListComp.elim (λe=>jT e k=Λ->P e) e i c h else iH i h
@[elab_as_elim] theorem aK{k}(h:br e k=Λ)(c:∀x1 x2,k x1 x2=Λ->P (.Name x1 x2)):P e:=if i:e.ctorIdx=23 then @Expr.Name.elim (λe=>br e k=Λ->P e) e i c h else iH i h
@[elab_as_elim] theorem wF{k}(h:rV e k=Λ)(c:∀x1 x2 x3 x4,k x1 x2 x3 x4=Λ->P (.Slice x1 x2 x3 x4)):P e:=if i:e.ctorIdx=26 then @Expr.Slice.elim (λe=>rV e k=Λ->P e) e i c h else iH i h
@[elab_as_elim] theorem fR{k}(h:eR e k=Λ)(c:∀x1 x2 x3,k x1 x2 x3=Λ->P (.Subscript x1 x2 x3)):P e:=if i:e.ctorIdx=21 then @Expr.Subscript.elim (λe=>eR e k=Λ->P e) e i c h else iH i h
@[elab_as_elim] theorem pK{k}(h:rW e k=Λ)(c:∀x1 x2 x3,k x1 x2 x3=Λ->P (.Tuple x1 x2 x3)):P e:=if i:e.ctorIdx=25 then @Expr.Tuple.elim (λe=>rW e k=Λ->P e) e i c h else iH i h
@[elab_as_elim] theorem kT{k}(h:jt e k=Λ)(c:∀x1 x2 x3,k x1 x2 x3=Λ->P (.UnaryOp x1 x2 x3)):P e:=if i:e.ctorIdx=3 then @Expr.UnaryOp.elim (λe=>jt e k=Λ->P e) e i c h else iH i h
end
section
variable{P:Stmt->Prop}{e:Stmt}
@[elab_as_elim] theorem kU{k}(h:jr e k=Λ)(c:∀x1 x2 x3,k x1 x2 x3=Λ->P (.Assign x1 x2 x3)):P e:=if i:e.ctorIdx=5 then @Stmt.Assign.elim (λe=>jr e k=Λ->P e) e i c h else iH i h
@[elab_as_elim] theorem wG{k}(h:rT e k=Λ)(c:∀x1 x2,k x1 x2=Λ->P (.Expr x1 x2)):P e:=if i:e.ctorIdx=24 then @Stmt.Expr.elim (λe=>rT e k=Λ->P e) e i c h else iH i h
@[elab_as_elim] theorem nX{k}(h:pJ e k=Λ)(c:∀x1 x2 x3 x4 x5,k x1 x2 x3 x4 x5=Λ->P (.For x1 x2 x3 x4 x5)):P e:=if i:e.ctorIdx=9 then @Stmt.For.elim (λe=>pJ e k=Λ->P e) e i c h else iH i h
@[elab_as_elim] theorem pL{k}(h:ic e k=Λ)(c:∀x1 x2 x3 x4 x5 x6 x7 x8 x9 x10,k x1 x2 x3 x4 x5 x6 x7 x8 x9 x10=Λ->P (.FunctionDef x1 x2 x3 x4 x5 x6 x7 x8 x9 x10)):P e:=if i:e.ctorIdx=0 then @Stmt.FunctionDef.elim (λe=>ic e k=Λ->P e) e i c h else iH i h
@[elab_as_elim] theorem Jd{k}(h:Gv e k=Λ)(c:∀x1 x2 x3 x4,k x1 x2 x3 x4=Λ->P (.If x1 x2 x3 x4)):P e:=if i:e.ctorIdx=12 then @Stmt.If.elim (λe=>Gv e k=Λ->P e) e i c h else iH i h
@[elab_as_elim] theorem qF{k}(h:lJ e k=Λ)(c:∀x1 x2,k x1 x2=Λ->P (.Return x1 x2)):P e:=if i:e.ctorIdx=3 then @Stmt.Return.elim (λe=>lJ e k=Λ->P e) e i c h else iH i h
@[elab_as_elim] theorem BP{k}(h:t8 e k=Λ)(c:∀x1 x2 x3 x4,k x1 x2 x3 x4=Λ->P (.While x1 x2 x3 x4)):P e:=if i:e.ctorIdx=11 then @Stmt.While.elim (λe=>t8 e k=Λ->P e) e i c h else iH i h
end
def isCall(e:Expr):Bool:=bV e λf xs ks _=>br f λ_ _=>xs.isEmpty&&ks.isEmpty
def QP(e:Expr):Bool:=jt e λop c _=>jS c λk _ _=>decide (op=.USub)&&decide (k=.int 1)
def BQ:W->Bool
 |.enum _=>Λ|_=>Ξ
noncomputable def Vs:D->Const->Bool
 |.int i,c=>decide (c=.int i)|.bl i,c=>decide (c=.bool i)|.bu,c=>decide (c=.none)|.str i,c=>decide (c=.str i)|_,_=>Ξ
def zK(d:D)(e:Expr):Bool:=jS e λc _ _=>Vs d c
def glB(g:G):D->Str->Bool
 |.int i,x=>g.gl x&&decide (g.hZ.lookup x=Δ i)&&aU x|_,_=>Ξ
def CJ(g:G)(k:E)(e:Expr):Bool:=match k with|.var i=>br e λx _=>decide (g.N[i]?=Δ x)&&g.xP x&&aU x|.cst d=>zK d e|_=>Ξ
mutual
def gv(g:G):E->Expr->Bool
 |.var i=>λe=>br e λx _=>decide (g.N[i]?=Δ x)&&g.xP x&&aU x|.cst d=>λe=>zK d e||br e λx _=>glB g d x
 |.op o a b=>λe=>xS e λx p y _=>decide (p=CH o)&&gv g a x&&gv g b y|.neg a=>λe=>jt e λop x _=>decide (op=.USub)&&gv g a x|.not a=>λe=>jt e λop x _=>decide (op=.Not)&&gv g a x|.cmp o a b=>λe=>lI e λx ops ys _=>bb ops λp r=>bb ys λy s=>r.isEmpty&&s.isEmpty&&decide (p=kj o)&&gv g a x&&gv g b y&&!cI y|.chain o o' a b c=>λe=>lI e λx ops ys _=>bb ops λp r=>bb r λq r'=>bb ys λy s=>bb s λz s'=>r'.isEmpty&&s'.isEmpty&&decide (p=kj o)&&decide (q=kj o')&&gv g a x&&gv g b y&&gv g c z&&!cI y&&!cI z|.and es=>λe=>nW e λop xs _=>decide (op=.And)&&gR g es xs|.or es=>λe=>nW e λop xs _=>decide (op=.Or)&&gR g es xs|.tup es=>λe=>rW e λxs _ _=>gR g es xs|.lst _ l=>λe=>K9 g l e|.call f es=>λe=>bV e λf0 xs iE _=>br f0 λx _=>iE.isEmpty&&decide (g.fns[f]?=Δ (x,es.length))&&g.gl x&&aU x&&gR g es xs|.sV a T=>λe=>bV e λf0 xs iE _=>br f0 λn _=>bb xs λx r=>bb r λt0 r'=>br t0 λt _=>iE.isEmpty&&r'.isEmpty&&decide (n="isinstance")&&g.gl "isinstance"&&decide (t=XY T)&&g.gl (XY T)&&decide (T∈lH)&&gv g a x&&notStar x|.bf f es=>λe=>bV e λf0 xs iE _=>br f0 λn _=>iE.isEmpty&&decide (n=xQ f)&&g.gl (xQ f)&&gR g es xs&&!xs.isEmpty|.ix a b=>λe=>eR e λx y _=>gv g a x&&gv g b y&&!xR y|.slice a lo hi=>λe=>eR e λx sl _=>rV sl λl h s _=>s.isNone&&gv g a x&&Vt g lo l&&Vt g hi h|.rev a=>λe=>eR e λx sl _=>rV sl λl h s _=>tY s λu=>l.isNone&&h.isNone&&QP u&&gv g a x|.pd _=>λe=>xT e λks vs _=>ks.isEmpty&&vs.isEmpty|.nN i es=>λe=>bV e λf0 xs iE _=>br f0 λx _=>iE.isEmpty&&decide (g.N[i]?=Δ x)&&g.xP x&&aU x&&gR g es xs&&!xs.isEmpty&&g.cv|.iP f es ls=>λe=>bV e λf0 xs iE _=>br f0 λx _=>iE.isEmpty&&g.K9 f x es.length ls&&g.gl x&&aU x&&gR g es xs&&!xs.isEmpty|.ja i es ls=>λe=>bV e λf0 xs iE _=>br f0 λx _=>iE.isEmpty&&decide (g.N[i]?=Δ x)&&g.xP x&&aU x&&g.QO i x ls&&gR g es xs&&!xs.isEmpty|.lam k=>λe=>tZ e λparams body scope pos=>g.QM k params body scope pos|.DY a b=>λe=>bV e λf0 xs iE cp=>cb f0 λo n ap=>bb xs λx r=>r.isEmpty&&iE.isEmpty&&(ap.endLine==cp.line)&&decide (n="pop")&&!isCall o&&gv g a o&&gv g b x&&notStar x|.sW a b c=>λe=>bV e λf0 xs iE cp=>cb f0 λo n ap=>bb xs λx r=>bb r λy r'=>r'.isEmpty&&iE.isEmpty&&(ap.endLine==cp.line)&&decide (n="setdefault")&&!isCall o&&gv g a o&&gv g b x&&notStar x&&gv g c y&&notStar y|.D3 k d=>λe=>xT e λks vs _=>bb ks λk0 r=>tY k0 λkx=>bb vs λv0 r'=>r.isEmpty&&r'.isEmpty&&CJ g k kx&&zK d v0|.DZ a=>λe=>bV e λf0 xs iE cp=>cb f0 λo n ap=>xs.isEmpty&&iE.isEmpty&&(ap.endLine==cp.line)&&decide (n="pop")&&!isCall o&&gv g a o|.attr c f i=>λe=>cb e λo m _=>br o λx _=>decide (m=f)&&g.yH c f&&decide (g.N[i]?=Δ x)&&g.xP x&&aU x|.pf k c m i es=>λe=>bV e λf0 xs iE cp=>cb f0 λo mm ap=>br o λx _=>iE.isEmpty&&decide (mm=m)&&g.A1 k c m es.length&&decide (g.N[i]?=Δ x)&&g.xP x&&aU x&&gR g es xs&&(ap.endLine==cp.line)&&decide (xs.length < 30)|.make k c es=>λe=>bV e λf0 xs iE _=>br f0 λx _=>iE.isEmpty&&decide (x=c)&&g.A2 k c es.length&&g.gl x&&aU x&&gR g es xs&&!xs.isEmpty
def Vt(g:G):Option E->Option Expr->Bool
 |none=>λo=>o.isNone|some e=>λo=>tY o λx=>gv g e x
def gR(g:G):List E->List Expr->Bool
 |[]=>λl=>l.isEmpty|e::es=>λl=>bb l λx xs=>gv g e x&&notStar x&&gR g es xs
def Vu(g:G):Option E->List Expr->Bool
 |none=>λl=>l.isEmpty|some c=>λl=>bb l λi r=>r.isEmpty&&gv g c i
def K9(g:G):L->Expr->Bool
 |.e7 es=>λe=>BN e λxs _=>gR g es xs|.comp w ts js c e=>λe0=>jT e0 λelt gens sc _=>bb gens λge r=>Gu ge λtg iter ifs a=>br tg λx _=>r.isEmpty&&decide (ts=1)&&decide (a=0)&&Vv g w iter&&!BQ w&&Jc g 1 (gI g x js) js sc&&decide (sc.names.lookup x=Δ .local)&&decide (gI g x js).Nodup&&Vu (g.inner (gI g x js) sc) c ifs&&gv (g.inner (gI g x js) sc) e elt&&!cI iter|.list e=>λe0=>bV e0 λf0 xs iE _=>br f0 λn _=>bb xs λx r=>r.isEmpty&&iE.isEmpty&&decide (n="list")&&g.gl "list"&&gv g e x&&notStar x|.keys e=>λe0=>bV e0 λf0 xs iE _=>br f0 λn _=>bb xs λx r=>r.isEmpty&&iE.isEmpty&&decide (n="list")&&g.gl "list"&&gv g e x&&notStar x|.iB es=>λe0=>bV e0 λf0 ys iE _=>br f0 λn _=>bb ys λy r=>bV y λf1 xs MT _=>br f1 λn1 _=>r.isEmpty&&iE.isEmpty&&MT.isEmpty&&decide (n="list")&&g.gl "list"&&decide (n1="range")&&g.gl "range"&&gR g es xs|.zip a b=>λe0=>bV e0 λf0 ys iE _=>br f0 λn _=>bb ys λy r=>bV y λf1 xs MT _=>br f1 λn1 _=>bb xs λx1 r1=>bb r1 λx2 r2=>r.isEmpty&&r2.isEmpty&&iE.isEmpty&&MT.isEmpty&&decide (n="list")&&g.gl "list"&&decide (n1="zip")&&g.gl "zip"&&gv g a x1&&notStar x1&&gv g b x2&&notStar x2|.cw e js c ee=>λe0=>jT e0 λelt gens sc _=>bb gens λge r=>Gu ge λtg iter ifs a=>br tg λx _=>r.isEmpty&&decide (a=0)&&gv g e iter&&Jc g 1 (gI g x js) js sc&&decide (sc.names.lookup x=Δ .local)&&decide (gI g x js).Nodup&&Vu (g.inner (gI g x js) sc) c ifs&&gv (g.inner (gI g x js) sc) ee elt&&!cI iter
def Vv(g:G):W->Expr->Bool
 |.ex e=>λx=>gv g e x&&!cI x|.iB es=>λx=>bV x λf0 xs iE _=>br f0 λn _=>iE.isEmpty&&decide (n="range")&&g.gl "range"&&gR g es xs|.enum e=>λx=>bV x λf0 xs iE _=>br f0 λn _=>bb xs λy r=>r.isEmpty&&iE.isEmpty&&decide (n="enumerate")&&g.gl "enumerate"&&gv g e y&&notStar y
end
theorem Je(h:QP e=Λ):∃k p1 p2,e=.UnaryOp .USub (.Constant (.int 1) k p1) p2:=by refine kT h λ_ _ _ h=>?_;refine jU h λ_ _ _ h=>?_;simp only[W3,qqq] at h;obtain⟨rfl,rfl⟩:=h;exact⟨_,_,_,rfl⟩
def BR(K:KB)(c:List P->aN->R P)(n:Nat):Sp:=λvs H Q _=>∃m Z qs st,vs.length=n/\ah K H m Z qs vs/\aB K H m Z st/\Ok K Z (c qs st) m H (λp _ m' H'=>∀v,ak K H' m' Z p v->Q v H')
structure uc(X:Cx)(kt:KT)(c:List P->aN->R P)(x:Str)(n:Nat):Prop where
 ex:∃(k:Nat) (f:Addr) (fd:Zb) (ps:List Str),gp X.prog X.w X.K X.mg X.base u0 k f fd ps (BR (af X kt) c n)/\
  de k X.A/\X.mg x=Δ (.ref f)/\ZE X.K (.ref f)=Λ/\Binds X.K fd ps []
noncomputable def ud:List Str:=["len","min","max","all","any","sum","str","tuple","list","int","bool","isinstance","range","zip","enumerate","sorted"]
def QQ(K:KB)(c:List P->aN->R P)(cd:Addr)(q:Str)(bW:List V):Sp:=λvs H Q _=>H cd=Δ (.ext (dB cd q))/\∃m Z qs bq st,ah K H m Z qs vs/\ah K H m Z bq bW/\aB K H m Z st/\Ok K Z (c (qs++bq) st) m H (λp _ m' H'=>∀v,ak K H' m' Z p v->Q v H')
structure CL(X:Cx)(kt:KT)(C:Nat->List P->aN->R P)(k:Nat)(a c:Addr)(bW:List V):Prop where
 ob:∃oc od fd sl,X.base.get? a=Δ ⟨oc,od,.func fd,sl⟩
 ex:∃(n:Nat) (fd:Zb) (ps:List Str),gp X.prog X.w X.K X.mg X.base u0 n a fd ps (QQ (af X kt) (C k) c (kt.zD k) bW)/\de n X.A/\Binds X.K fd ps []
structure Good(X:Cx)(kt:KT)(g:G)(C:Nat->List P->aN->R P):Prop where
 N:X.N=g.N
 loc:∀x,g.names.lookup x=Δ .local->X.env.scope.names.lookup x=Δ .local
 HI:∀x,(g.names.lookup x=Δ .cell\/g.names.lookup x=Δ .free)->(X.env.scope.names.lookup x=Δ .cell\/X.env.scope.names.lookup x=Δ .free)
 gl:∀x,g.names.lookup x=Δ .globalImplicit->X.env.scope.names.lookup x=Δ .globalImplicit
 calm:X.calm=Λ
 hu:X.A.units+100 < cLine
 bl:∀x∈ud,X.mg x=Θ
 fn:∀(k:Nat) (x:Str) (n:Nat),g.fns[k]?=Δ (x,n)->uc X kt (C k) x n
 cs:∀x i,g.hZ.lookup x=Δ i->∃t,X.mg x=Δ (.int i t)
 tb:∀x t,g.tabs.lookup x=Δ t->∃a,X.mg x=Δ (.ref a)/\Qf X.K a t
 fld:∀c f,g.yH c f=Λ->∃A,Xr X.K Xk c=Δ (Δ (.ref A))/\AY X.K A/\jJ X.K A f
 OI:∀k c m n,g.A1 k c m n=Λ->∃A l fa fd ps,Xr X.K Xk c=Δ (Δ (.ref A))/\AY X.K A/\Bd X.K A m fa/\gp X.prog X.w X.K X.mg X.base u0 l fa fd ps (BR (af X kt) (C k) (n+1))/\de l X.A/\Binds X.K fd ps []
 OJ:∀k c n,g.A2 k c n=Λ->∃A l fa fd ps,X.mg c=Δ (.ref A)/\Xr X.K Xk c=Δ (Δ (.ref A))/\Mk X.K A fa/\gp X.prog X.w X.K X.mg X.base u0 l fa fd ps (BR (af X kt) (C k) (n+1))/\de (l+1) X.A/\Binds X.K fd ps []
 qB:g.cv=Λ->∀k a c bW,kt.qB k a c bW->CL X kt C k a c bW
 lam:∀k params body scope pos,g.QM k params body scope pos=Λ->∀Z,PE X (.Lambda params body scope pos) (tE (af X kt) Z (aa C (.lam k)))
 iP:∀f x n ls,g.K9 f x n ls=Λ->∀(Z:List Addr) (e:Expr) (es:List Expr) (cn:List E) (p pos:Pos),cn.length=n->g.gl x=Λ->aU x=Λ->(∀y∈e::es,notStar y=Λ)->PA X (e::es) (tA (af X kt) Z (aF C cn))->
  PE X (.Call (.Name x p) (e::es) [] pos) (tE (af X kt) Z (aa C (.iP f cn ls)))
 ja:∀i x ls,g.QO i x ls=Λ->∀(Z:List Addr) (e:Expr) (es:List Expr) (cn:List E) (p pos:Pos),g.N[i]?=Δ x->g.xP x=Λ->aU x=Λ->(∀y∈e::es,notStar y=Λ)->PA X (e::es) (tA (af X kt) Z (aF C cn))->
  PE X (.Call (.Name x p) (e::es) [] pos) (tE (af X kt) Z (aa C (.ja i cn ls)))
section
variable{X:Cx}{g:G}{C:Nat->List P->aN->R P}{Z:List Addr}{e:Expr}{es:List Expr}
theorem Good.xP(T:Good X kt g C)(h:g.xP x=Λ):O4 X.env.scope x:=by
 unfold G.xP at h;split at h;·exact .inl (T.loc _ ‹_›)
 ·rcases T.HI x (.inl ‹_›) with q|q;·exact .inr (.inl q)
  ·exact .inr (.inr q)
 ·rcases T.HI x (.inr ‹_›) with q|q;·exact .inr (.inl q)
  ·exact .inr (.inr q)
 ·cases h
theorem Good.glob(T:Good X kt g C)(h:g.gl x=Λ):Gl X x:=T.gl x (of_decide_eq_true h)
theorem PE.imp(h:PE X e t)(i:∀σ H Q,t' σ H Q->t σ H Q):PE X e t':=λη s σ H Q I q=>h η s σ H Q I (i σ H Q q)
theorem PT.imp(h:PT X e t)(i:∀σ H Q,t' σ H Q->t σ H Q):PT X e t':=λη s σ H Q I q=>h η s σ H Q I (i σ H Q q)
theorem PW.imp(h:PW X e t)(i:∀σ H Q,t' σ H Q->t σ H Q):PW X e t':=λwh η s σ H Q I q=>h wh η s σ H Q I (i σ H Q q)
theorem PA.imp(h:PA X es t)(i:∀σ H Q,t' σ H Q->t σ H Q):PA X es t':=λpos η s σ H Q I q=>h pos η s σ H Q I (i σ H Q q)
theorem pn(h:aU x=Λ):(x==("__debug__":Str))=Ξ/\(x==("__classdict__":Str))=Ξ/\x≠"__name__":=by unfold aU at h;simp only[W3,XE] at h;exact⟨h.1.1,h.1.2,λz=>by rw[z] at h;exact absurd h.2 (by simp)⟩
theorem bF(h:notStar e=Λ):XG (e::es) env=(Ξ,eval e env)::XG es env:=by
 cases e<;>first
  |rfl
  |exact absurd (show Ξ=Λ from h) X8
theorem zL(T:Good X kt g C)(h1:g.N[i]?=Δ x)(h2:g.xP x=Λ)(h3:aU x=Λ):PE X (.Name x pos) (tE (af X kt) Z (aa C (.var i))):=by
 refine PE.imp (A3 (i:=i) (by rw[T.N];exact h1) (T.xP h2) (pn h3).1 (pn h3).2.1) ?_;rintro σ H Q ⟨m,r,st,ar,as,h⟩;obtain⟨p,e,q,_⟩:=Ok.of (show Ok (af X kt) Z (R.of (kr r i) st) m H _ from h) as;have e':r[i]?=Δ (Δ p):=by unfold kr at e;cases q:r[i]? with|none=>rw[q] at e;cases e|some o=>rw[q] at e;simp at e;rw[e]
 obtain⟨v,ev,rv⟩:=ar.at_ i p e';exact⟨v,ev,q v rv⟩
theorem zM(h:PE X e (tC v))(hr:∀H m,aH (af X kt) H m Z x v):PE X e (tE (af X kt) Z (aa C (.cst x))):=by refine PE.imp h ?_;rintro σ H Q ⟨m,r,st,ar,as,q⟩;exact Ok.here (show Ok (af X kt) Z (R.ok (P.d x) st) m H _ from q) as v (hr H m)
theorem Gw(h:zK d e=Λ):∃v,PE X e (tC v)/\∀K H m Z,aH K H m Z d v:=by refine jU h λc _ _ h=>?_;cases d with|int i=>obtain rfl:=of_decide_eq_true h;exact⟨_,A4,λ_ _ _ _=>rfl⟩|bl i=>obtain rfl:=of_decide_eq_true h;exact⟨_,Ky,λ_ _ _ _=>rfl⟩|bu=>obtain rfl:=of_decide_eq_true h;exact⟨_,EW,λ_ _ _ _=>rfl⟩|str i=>obtain rfl:=of_decide_eq_true h;exact⟨_,EX,λ_ _ _ _=>rfl⟩|tup _=>exact ft h|pl _=>exact ft h
theorem Jf(T:Good X kt g C)(h:CJ g k e=Λ):∃tk,PE X e tk/\∀{σ} {H} {m} {ρ} {st},cA (af X kt) H m Z ρ σ->aa C k ρ st=.no\/∃y v,aa C k ρ st=.ok y st/\ak (af X kt) H m Z y v/\∀(Q) (H'),Q v H'->tk σ H' Q:=by
 unfold CJ at h;split at h
 ·rename_i i;refine aK h λ_ _ h=>?_
  ·simp only[W3,qqq] at h;refine⟨_,A3 (i:=i) (by rw[T.N];exact h.1.1) (T.xP h.1.2) (pn h.2).1 (pn h.2).2.1,λ{σ H m ρ st} ar=>?_⟩;rw[lE];cases e:kr ρ i with
   |none=>exact .inl rfl|some p=>
    have e':ρ[i]?=Δ (Δ p):=by unfold kr at e;cases q:ρ[i]? with|none=>rw[q] at e;cases e|some o=>rw[q] at e;simp at e;rw[e]
    obtain⟨v,ev,rv⟩:=ar.at_ i p e';exact .inr ⟨p,v,rfl,rv,λQ H' q=>⟨v,ev,q⟩⟩
 ·rename_i d;obtain⟨v,hv,hr⟩:=Gw (X:=X) h;exact⟨_,hv,λ{σ H m ρ st} ar=>.inr ⟨.d d,v,rfl,(show aH (af X kt) H m Z d v from hr _ _ _ _),λQ H' q=>q⟩⟩
 ·cases h
theorem CM{f:Value->Value->Sem Value}{r:R2}{da db:b9->aN->R P}{k:P->P->aN->R P}{σ:L2.St}{H:Hp}{Q:VK}
  (hr:∀(x y:P) (v u:V) (m:List Addr) (H:Hp) (st:aN) (Q:VK),aB (af X kt) H m Z st->ak (af X kt) H m Z x v->ak (af X kt) H m Z y u->Ok (af X kt) Z (k x y st) m H (λp _ m' H'=>∀v,ak (af X kt) H' m' Z p v->Q v H')->r v u H Q)
  (h:tE (af X kt) Z (λρ st=>(da ρ st).bind λx st1=>(db ρ st1).bind λy st2=>k x y st2) σ H Q):Pn r (tE (af X kt) Z da) (tE (af X kt) Z db) σ H Q:=by
 obtain⟨m,ρ,st,ar,as,h⟩:=h;refine⟨m,ρ,st,ar,as,(Ok.bind h).mono λx st1 m1 H1 bN aY h1 v rv=>?_⟩;refine⟨m1,ρ,st1,ar.le bN,aY,(Ok.bind h1).mono λy st2 m2 H2 eK dU h2 u ru=>?_⟩;exact hr x y v u m2 H2 st2 Q dU (rv.le eK) ru h2
theorem aq.map{K:KB}:∀{xs} {us},aq K H m Z xs us->ah K H m Z (xs.map .d) us
 |[],_,h=>h|x::xs,us,h=>by obtain⟨v,vs,e,r,rs⟩:=(show ∃v vs,us=v::vs/\aH K H m Z x v/\aq K H m Z xs vs from h);exact⟨v,vs,e,r,aq.map rs⟩
theorem ah.ba{K:KB}:∀{ps} {xs} {us},ah K H m Z ps us->Y.ba ps=Δ xs->aq K H m Z xs us
 |[],xs,us,h,e=>by cases e;exact h|p::ps,xs,us,h,e=>by obtain⟨v,vs,e1,r,rs⟩:=(show ∃v vs,us=v::vs/\ak K H m Z p v/\ah K H m Z ps vs from h);cases p with|obj n=>cases e|gq n=>cases e|fn k c=>cases e|lf k=>cases e|d x=>have e':(Y.ba ps).map (λxs=>x::xs)=Δ xs:=e;cases q:Y.ba ps with|none=>rw[q] at e';cases e'|some zs=>rw[q] at e';cases e';exact⟨v,vs,e1,r,ah.ba rs q⟩
theorem ah.append{K:KB}:∀{ps qs} {us vs},ah K H m Z ps us->ah K H m Z qs vs->ah K H m Z (ps++qs) (us++vs)
 |[],_,us,_,h,h'=>by cases (show us=[] from h);exact h'|p::ps,qs,us,vs,h,h'=>by obtain⟨v,w',rfl,r,rs⟩:=(show ∃v vs,us=v::vs/\ak K H m Z p v/\ah K H m Z ps vs from h);exact⟨v,w'++vs,rfl,r,ah.append rs h'⟩
theorem aq.append{K:KB}:∀{ps qs} {us vs},aq K H m Z ps us->aq K H m Z qs vs->aq K H m Z (ps++qs) (us++vs)
 |[],_,us,_,h,h'=>by cases (show us=[] from h);exact h'|p::ps,qs,us,vs,h,h'=>by obtain⟨v,w',rfl,r,rs⟩:=(show ∃v vs,us=v::vs/\aH K H m Z p v/\aq K H m Z ps vs from h);exact⟨v,w'++vs,rfl,r,aq.append rs h'⟩
theorem aq.length{K:KB}:∀{ps} {us},aq K H m Z ps us->us.length=ps.length
 |[],us,h=>by cases (show us=[] from h);rfl|p::ps,us,h=>by obtain⟨v,w',rfl,r,rs⟩:=(show ∃v vs,us=v::vs/\aH K H m Z p v/\aq K H m Z ps vs from h);rw[Xq,Xq,aq.length rs]
theorem ah.length{K:KB}:∀{ps} {us},ah K H m Z ps us->us.length=ps.length
 |[],us,h=>by cases (show us=[] from h);rfl|p::ps,us,h=>by obtain⟨v,w',rfl,r,rs⟩:=(show ∃v vs,us=v::vs/\ak K H m Z p v/\ah K H m Z ps vs from h);rw[Xq,Xq,ah.length rs]
theorem ah.get{K:KB}:∀{ps} {us} {i:Nat} {p},ah K H m Z ps us->ps[i]?=Δ p->∃v,us[i]?=Δ v/\ak K H m Z p v
 |[],us,i,p,h,e=>by simp at e|q::ps,us,i,p,h,e=>by obtain⟨v,w',rfl,r,rs⟩:=(show ∃v vs,us=v::vs/\ak K H m Z q v/\ah K H m Z ps vs from h);cases i with|zero=>simp at e;subst e;exact⟨v,by simp,r⟩|succ i=>simpa using ah.get rs (by simpa using e)
theorem ah.drop{K:KB}:∀(n) {ps} {us},ah K H m Z ps us->ah K H m Z (ps.drop n) (us.drop n)
 |0,_,_,h=>h|n+1,[],us,h=>by cases (show us=[] from h);rfl|n+1,p::ps,us,h=>by obtain⟨v,w',rfl,r,rs⟩:=(show ∃v vs,us=v::vs/\ak K H m Z p v/\ah K H m Z ps vs from h);exact ah.drop n rs
theorem ah.take{K:KB}:∀(n) {ps} {us},ah K H m Z ps us->ah K H m Z (ps.take n) (us.take n)
 |0,_,_,_=>by simp[ah]|n+1,[],us,h=>by cases (show us=[] from h);rfl|n+1,p::ps,us,h=>by obtain⟨v,w',rfl,r,rs⟩:=(show ∃v vs,us=v::vs/\ak K H m Z p v/\ah K H m Z ps vs from h);exact⟨v,w'.take n,rfl,r,ah.take n rs⟩
theorem aq.reverse{K:KB}:∀{ps} {us},aq K H m Z ps us->aq K H m Z ps.reverse us.reverse
 |[],us,h=>by cases (show us=[] from h);rfl|p::ps,us,h=>by obtain⟨v,w',rfl,r,rs⟩:=(show ∃v vs,us=v::vs/\aH K H m Z p v/\aq K H m Z ps vs from h);rw[aaS,aaS];exact aq.append (aq.reverse rs) ⟨v,[],rfl,r,rfl⟩
theorem dk{K:KB}{st:aN}(as:aB K H m Z st)(h:bY st p=Δ ps)(r:ak K H m Z p v):∃a us,v=.ref a/\Rd H a (.lst us)/\ah K H m Z ps us:=by
 cases p with
 |d x=>cases x with|pl xs=>have e:Δ (xs.map P.d)=Δ ps:=h;cases e;obtain⟨a,us,e,q,_,_,rs⟩:=r;exact⟨a,us,e,q,rs.map⟩|_=>cases h
 |obj n=>
  obtain⟨a,e,rfl⟩:=r;have h':(match st[n]? with|some (.lst xs)=>Δ xs|_=>Θ)=Δ ps:=h;split at h';·rename_i xs hs;cases h';obtain⟨a',e',o⟩:=as.at_ n _ hs;rw[e] at e';cases e';obtain⟨us,hu,rs⟩:=o;exact⟨a,us,rfl,.inl hu,rs⟩
  ·cases h'
 |gq n=>cases h|fn k c=>cases h|lf k=>cases h
theorem zN{K:KB}:∀ns:List Int,ah K H m Z (ns.map λi=>P.d (.int i)) (ns.map V.int)
 |[]=>rfl|n::ns=>⟨_,_,rfl,rfl,zN ns⟩
theorem ju{K:KB}{st:aN}(as:aB K H m Z st)(h:cY st p=Δ ps)(r:ak K H m Z p v):∃a us,v=.ref a/\(kC K.K H a us\/H a=Δ (.tup us))/\ah K H m Z ps us:=by
 cases p with
 |d x=>cases x with|tup xs=>have e:Δ (xs.map P.d)=Δ ps:=h;cases e;obtain⟨a,us,e,q,rs⟩:=r;exact⟨a,us,e,.inr q,rs.map⟩|pl xs=>obtain⟨a,us,e,q,rs⟩:=dk as (show bY st (.d (.pl xs))=Δ ps from h) r;exact⟨a,us,e,.inl (.inl q),rs⟩|bu=>cases h|bl b=>cases h|int b=>cases h|str b=>cases h
 |obj n=>obtain⟨a,us,e,q,rs⟩:=dk as (show bY st (.obj n)=Δ ps from h) r;exact⟨a,us,e,.inl (.inl q),rs⟩|gq n=>have e:Δ (n.map λi=>P.d (.int i))=Δ ps:=h;cases e;obtain⟨a,e,q⟩:=r;exact⟨a,_,e,.inl q.sq,zN n⟩|fn k c=>cases h|lf k=>cases h
theorem Gx{K:Xf}(h:kC K H a us\/H a=Δ (.tup us)):kC K H a us\/eY K H a us:=h.imp_right eY.of
theorem nY{K:KB}{H:Hp}{m Z:List Addr}{st:aN}{xs:List D}{us:List V}{α:Type}{Q:V->Hp->Prop}(as:aB K H m Z st)(r:aq K H m Z xs us){a:Addr}(ha:H a=Θ)
  (h:Ok K Z (R.ok (P.d (.tup xs)) st) m H (λp _ m' H'=>∀v,ak K H' m' Z p v->Q v H')):Q (.ref a) (upd H a (.tup us)):=by
 have le:Le K m H m (upd H a (.tup us)):=Le.same (aZ ha _);exact h m (upd H a (.tup us)) le (as.same (aZ ha _)) (.ref a) ⟨a,us,rfl,aD,r.le le⟩
theorem Gy{K:KB}{st:aN}{Q:V->Hp->Prop}(as:aB K H m Z st)(r:aq K H m Z xs us)(ha:H a=Θ)(h:Ok K Z (R.ok (P.d (.pl xs)) st) m H (λp _ m' H'=>∀v,ak K H' m' Z p v->Q v H')):Q (.ref a) (upd H a (.lst us)):=by have le:Le K m H m (upd H a (.lst us)):=Le.same (aZ ha _);exact h m (upd H a (.lst us)) le (as.same (aZ ha _)) (.ref a) ⟨a,us,rfl,.inl aD,(as.fresh ha).1,(as.fresh ha).2,r.le le⟩
end
section
variable{X:Cx}{g:G}{C:Nat->List P->aN->R P}{Z:List Addr}{e:Expr}{es:List Expr}
theorem dt:aw=Xv:=by rw[YJ];rfl
theorem CN(h:Rd H a (.lst xs))(I:Inv X η σ H s):
  xs.length<=Xv/\∃(its:List Value) (n:Nat),aS xs its/\s.heap.get? a=Δ {cls:=.type "list",data:=.seq its.toArray n}:=h.ok I.aL
def La:R2:=λx y H Q=>∃l b xs zs,x=.ref l/\y=.ref b/\Rd H l (.lst xs)/\Rd H b (.lst zs)/\xs.length+zs.length<=Xv/\∀p,H p=Θ->Q (.ref p) (upd H p (.lst (xs++zs)))
theorem Jg:kg X (ZD .Add) La:=by
 intro η s σ H x y v u Q I rx ry h;obtain⟨l,b,xs,zs,rfl,rfl,hH,hB,hz,q⟩:=h;cases rx;cases ry;obtain⟨z,its,n,r,e⟩:=CN hH I;obtain⟨z2,Fo,n2,r2,e2⟩:=CN hB I;have hl:=r.length;have rP:=r2.length;refine PySem.P.add_list e e2 ?_ (by rw[Xh,Xh];lia);have ea:its.toArray++Fo.toArray=(its++Fo).toArray:=by simp
 rw[ea];exact⟨.ref _,_,I.Uy (t':=s.toks) (r.append r2) (by rw[Xs];lia),rfl,q _ I.fresh⟩
noncomputable def Vw:R2:=λx y H Q=>∃i j,x=.str i/\y=.str j/\i.length+j.length<=Xv/\Q (.str (i++j)) H
def QR(K:Xf):QH->R2
 |.add=>λv u H Q=>Cp (λi j=>.int (i+j)) v u H Q\/Vw v u H Q\/KN v u H Q\/La v u H Q|.sub=>Cp λi j=>.int (i - j)|.mul=>λv u H Q=>rI HZ (λi j=>.int (i*j)) v u H Q\/KO v u H Q\/KQ v u H Q\/KR v u H Q|.mod=>rI (λ_ j=>0 < j) λi j=>.int (i % j)|.fdiv=>rI Pq λi j=>.int (i / j)
theorem MU:∀o,kg X (ZD (CH o)) (QR X.K o)
 |.add=>LN.or (Bb.or (IJ.or Jg))|.sub=>LO|.mul=>LP.or (Fz.or (FC.or FD))|.mod=>LR|.fdiv=>Ia
theorem MV{K:KB}{st:aN}(as:aB K H m Z st)(rx:ak K H m Z x v)(ry:ak K H m Z y u)(h:Ok K Z (R.of (Gg o x y st) st) m H (λp _ m' H'=>∀v,ak K H' m' Z p v->Q v H')):QR K.K o v u H Q:=by
 obtain⟨p,e,q,qq⟩:=Ok.of h as;unfold Gg at e;split at e
 ·rename_i i j;cases (show v=.int i from rx);cases (show u=.int j from ry);cases o with
  |add=>cases e;exact .inl ⟨i,j,rfl,rfl,q _ rfl⟩|sub=>cases e;exact⟨i,j,rfl,rfl,q _ rfl⟩|mul=>
   unfold kh at e;simp only at e;split at e;·rename_i hc;cases e;exact .inl ⟨i,j,rfl,rfl,hc,q _ rfl⟩
   ·cases e
  |mod=>
   unfold kh at e;simp only at e;split at e;·rename_i hc;cases e;exact⟨i,j,rfl,rfl,hc,q _ rfl⟩
   ·cases e
  |fdiv=>
   unfold kh at e;simp only at e;split at e;·rename_i hc;cases e;exact⟨i,j,rfl,rfl,hc,q _ rfl⟩
   ·cases e
 ·rename_i x y;cases (show v=.str x from rx);cases (show u=.str y from ry);split at e;·rename_i hc;cases e;exact .inr (.inl ⟨x,y,rfl,rfl,by rw[<-dt];exact hc,q _ rfl⟩)
  ·cases e
 ·rename_i xs ys;obtain⟨a,us,rfl,ha,ra⟩:=rx;obtain⟨b,vs,rfl,hb,rb⟩:=ry;split at e;·rename_i hc;cases e;refine .inr (.inr (.inl ⟨a,b,us,vs,rfl,rfl,ha,hb,by rw[ra.length,rb.length,<-dt];exact hc,λr H' sm hr=>?_⟩));have le:Le K m H m H':=Le.same sm;exact qq m H' le (as.same sm) (.ref r) ⟨r,us++vs,rfl,hr,(ra.append rb).le le⟩
  ·cases e
 ·rename_i xs k;obtain⟨a,us,rfl,ha,ra⟩:=rx;cases (show u=.int k from ry);split at e;·rename_i hc;cases e;subst hc;exact .inr (.inr (.inr ⟨a,us,rfl,rfl,ha,q (.ref a) ⟨a,us,rfl,ha,ra⟩⟩))
  split at e
  ·rename_i hc;cases e;obtain⟨rfl,h1,h2⟩:=hc;refine .inr (.inl ⟨a,us,rfl,rfl,ha,λz=>?_,by rw[ra.length];exact h2,λp hp=>?_⟩)
   ·have:=ra.length;rw[z] at this;simp at this
    lia
   ·exact nY (α:=Unit) as (ra.append ra) hp qq
  split at e
  ·rename_i hc;cases e;obtain⟨rfl,h1,h2⟩:=hc;refine .inr (.inr (.inl ⟨a,us,rfl,rfl,ha,λz=>?_,by rw[ra.length];exact h2,λp hp=>?_⟩))
   ·have:=ra.length;rw[z] at this;simp at this
    lia
   ·exact nY (α:=Unit) as ((ra.append ra).append ra) hp qq
  ·cases e
 ·rename_i h1 h2 h3;cases ha:bY st x with
  |none=>rw[ha] at e;cases e|some ps=>
   cases hb:bY st y with
   |none=>rw[ha,hb] at e;cases e|some qs=>
    rw[ha,hb] at e;simp only[Ye] at e;cases hz:ba (ps++qs) with
    |none=>rw[hz] at e;cases e|some zs=>
     rw[hz] at e;simp only[Ye] at e;split at e;·rename_i hc;cases e;obtain⟨c,us,rfl,S2,rc⟩:=dk as ha rx;obtain⟨d,vs,rfl,hd1,rd⟩:=dk as hb ry;have rr:=(rc.append rd).ba hz;have hlen:=rr.length;rw[Xs] at hlen;refine .inr (.inr (.inr ⟨c,d,us,vs,rfl,rfl,S2,hd1,by rw[<-dt];lia,λp hp=>?_⟩));exact Gy as rr hp qq
     ·cases e
 ·cases e
theorem Vx(ha:PE X a (tE (af X kt) Z (aa C ea)))(hb:PE X b (tE (af X kt) Z (aa C eb))):PE X (.BinOp a (CH o) b pos) (tE (af X kt) Z (aa C (.op o ea eb))):=
 PE.imp (Po (MU o) ha hb) λσ H Q h=>CM (f:=ZD (CH o)) (λx y v u m H st Q as rx ry h=>MV as rx ry h) h
theorem cy{α β:Type}{o:Option α}{f:α->Option β}{b:β}(h:o.bind f=Δ b):∃a,o=Δ a/\f a=Δ b:=by cases o with|none=>cases h|some a=>exact⟨a,rfl,h⟩
theorem fZ{α β:Type}{o:Option α}{f:α->β}{b:β}(h:o.map f=Δ b):∃a,o=Δ a/\f a=b:=by cases o with|none=>cases h|some a=>exact⟨a,rfl,by simpa using h⟩
theorem kW{K:KB}{st:aN}(as:aB K H m Z st)(h:jQ st p=Δ x)(r:ak K H m Z p v):aH K H [] [] x v:=by
 cases p with
 |d y=>cases h;exact aH.bare r|obj n=>
  obtain⟨a,e,rfl⟩:=r;have h':(match st[n]? with|some (.lst xs)=>(ba xs).map D.pl|_=>Θ)=Δ x:=h;split at h';·rename_i xs hs;obtain⟨a',e',o⟩:=as.at_ n _ hs;rw[e] at e';cases e';obtain⟨us,hu,rs⟩:=o;cases hd:ba xs with|none=>rw[hd] at h';cases h'|some ys=>rw[hd] at h';cases h';exact⟨a,us,rfl,.inl hu,by simp,by simp,(rs.ba hd).bare⟩
  ·cases h'
 |gq n=>cases h|fn k c=>cases h|lf k=>cases h
theorem ak.key{K:KB}(r:ak K H m Z p v)(e:keyOf p=Δ k):v=kV k:=by
 unfold keyOf at e;split at e;·cases e;exact r
 ·cases e;exact r
 ·cases e
theorem aq.keys{K:KB}:∀{xs} {ks} {us},aq K H m Z xs us->keysOf xs=Δ ks->us=ks.map kV
 |[],ks,us,h,e=>by cases e;exact h|x::xs,ks,us,h,e=>by obtain⟨v,vs,rfl,r,rs⟩:=(show ∃v vs,us=v::vs/\aH K H m Z x v/\aq K H m Z xs vs from h);unfold keysOf at e;cases e1:keyOf (.d x) with|none=>rw[e1] at e;cases e|some k=>rw[e1] at e;cases e2:keysOf xs with|none=>rw[e2] at e;cases e|some k2=>rw[e2] at e;cases e;rw[aq.keys rs e2,ak.key (show ak K H m Z (.d x) v from r) e1];rfl
theorem ak.mF{K:KB}(r:ak K H m Z p v)(e:Y.mF p=Δ k):∃b,v=.ref b/\H b=Δ (.tup (k.map kV)):=by
 unfold Y.mF at e;split at e;·obtain⟨b,us,rfl,h1,rs⟩:=r;exact⟨b,rfl,by rw[<-aq.keys rs e];exact h1⟩
 ·cases e
theorem aQ.val{κ:Type}[DecidableEq κ]{K:KB}{k:κ}:∀{kvs} {us},aQ K H m Z kvs us->(fu us k).isSome=(e8 kvs k).isSome/\∀p,e8 kvs k=Δ p->∃v,fu us k=Δ v/\ak K H m Z p v
 |[],us,h=>by cases (show us=[] from h);exact⟨rfl,λp e=>by cases e⟩|x::xs,us,h=>by
  obtain⟨v,vs,rfl,r,rs⟩:=(show ∃v vs,us=(x.1,v)::vs/\ak K H m Z x.2 v/\aQ K H m Z xs vs from h);obtain⟨i1,i2⟩:=aQ.val (k:=k) rs;by_cases hk:x.1=k
  ·have e1:fu ((x.1,v)::vs) k=Δ v:=nB hk;have e2:e8 (x::xs) k=Δ x.2:=by simp[e8,Yu,hk]
   rw[e1,e2];exact⟨rfl,λp e=>by cases e;exact⟨v,rfl,r⟩⟩
  ·have e1:fu ((x.1,v)::vs) k=fu vs k:=nC hk;have e2:e8 (x::xs) k=e8 xs k:=by simp[e8,Yu,hk]
   rw[e1,e2];exact⟨i1,i2⟩
theorem aQ.length{κ:Type}{K:KB}{m:List Addr}:∀{kvs:List (κ×P)} {us:List (κ×V)},aQ K H m Z kvs us->us.length=kvs.length
 |[],us,h=>by cases (show us=[] from h);rfl|x::xs,us,h=>by obtain⟨v,vs,rfl,r,rs⟩:=(show ∃v vs,us=(x.1,v)::vs/\ak K H m Z x.2 v/\aQ K H m Z xs vs from h);rw[Xq,Xq,aQ.length rs]
theorem aQ.app{κ:Type}{K:KB}{k:κ}(rp:ak K H m Z p v):∀{kvs} {us},aQ K H m Z kvs us->aQ K H m Z (kvs++[(k,p)]) (us++[(k,v)])
 |[],us,h=>by cases (show us=[] from h);exact⟨v,[],rfl,rp,rfl⟩|x::xs,us,h=>by obtain⟨v',vs,rfl,r,rs⟩:=(show ∃v vs,us=(x.1,v)::vs/\ak K H m Z x.2 v/\aQ K H m Z xs vs from h);exact⟨v',vs++[(k,v)],rfl,r,aQ.app rp rs⟩
theorem aQ.DE{κ:Type}[DecidableEq κ]{K:KB}{k:κ}(rp:ak K H m Z p v):∀{kvs} {us},aQ K H m Z kvs us->
  aQ K H m Z (kvs.map λkv=>if kv.1=k then(kv.1,p) else kv) (us.map λkv=>if kv.1=k then(kv.1,v) else kv)
 |[],us,h=>by cases (show us=[] from h);rfl|x::xs,us,h=>by
  obtain⟨v',vs,rfl,r,rs⟩:=(show ∃v vs,us=(x.1,v)::vs/\ak K H m Z x.2 v/\aQ K H m Z xs vs from h);have ih:=aQ.DE (k:=k) rp rs;rw[Xi,Xi];by_cases hk:x.1=k;·rw[if_pos hk,if_pos hk];exact⟨v,_,rfl,rp,ih⟩
  ·rw[if_neg hk,if_neg hk];exact⟨v',_,rfl,r,ih⟩
theorem aQ.put{κ:Type}[DecidableEq κ]{K:KB}{k:κ}{kvs:List (κ×P)}{us:List (κ×V)}(rs:aQ K H m Z kvs us)(rp:ak K H m Z p v):aQ K H m Z (lV kvs k p) (putK us k v):=by
 have e:(us.any λkv=>decide (kv.1=k))=(kvs.any λkv=>decide (kv.1=k)):=by
  have e2:∀kvs:List (κ×P),(kvs.any λkv=>decide (kv.1=k))=(e8 kvs k).isSome:=λkvs=>by
   unfold e8;rw[aah];induction kvs with
   |nil=>rfl|cons x xs ih=>
    rw[Zz,Yu];cases hx:decide (x.1=k);·simpa using ih
    ·rfl
  rw[sH,(rs.val (k:=k)).1,e2]
 unfold lV putK;rw[e];split;·exact rs.DE rp
 ·exact rs.app rp
theorem ue{K:KB}{st:aN}(as:aB K H m Z st)(h:bE st p=Δ o)(r:ak K H m Z p v):∃n a,p=.obj n/\st[n]?=Δ o/\m[n]?=Δ a/\v=.ref a/\rf K H m Z a o/\jn o=Λ:=by
 unfold bE at h;cases p with
 |d x=>cases h|gq x=>cases h|fn k c=>cases h|lf k=>cases h|obj n=>
  obtain⟨a,e,rfl⟩:=r;cases hs:st[n]? with
  |none=>rw[show D5 st (.obj n)=st[n]? from rfl,hs] at h;cases h|some o'=>
   rw[show D5 st (.obj n)=st[n]? from rfl,hs] at h;have h':(if jn o'=Λ then Δ o' else Θ)=Δ o:=h;split at h';·rename_i hd;cases h';obtain⟨a',e',q⟩:=as.at_ n _ hs;rw[e] at e';cases e';exact⟨n,a,rfl,hs,e,rfl,q,hd⟩
   ·cases h'
theorem CO{K:KB}(ao:rf K H m Z a o)(rk:ak K H m Z k y)(h:nO o k=Δ res):∃ov,nF H a y ov/\ov.isSome=res.isSome/\∀p,res=Δ p->∃v,ov=Δ v/\ak K H m Z p v:=by
 cases o with
 |lst xs=>cases h|ins c fs=>cases h|vp=>cases h|dK kvs=>obtain⟨us,hu,rs⟩:=ao;cases hk:keyOf k with|none=>rw[show nO (.dK kvs) k=(keyOf k).map _ from rfl,hk] at h;cases h|some kk=>rw[show nO (.dK kvs) k=(keyOf k).map _ from rfl,hk] at h;cases h;obtain⟨i1,i2⟩:=rs.val (k:=kk);refine⟨fu us kk,?_,i1,λp hp=>i2 p hp⟩;rw[rk.key hk];exact nF.k hu
 |dT kvs=>obtain⟨us,hu,rs⟩:=ao;cases hk:mF k with|none=>rw[show nO (.dT kvs) k=(mF k).map _ from rfl,hk] at h;cases h|some kk=>rw[show nO (.dT kvs) k=(mF k).map _ from rfl,hk] at h;cases h;obtain⟨i1,i2⟩:=rs.val (k:=kk);obtain⟨b,rfl,hb⟩:=rk.mF hk;exact⟨fu us kk,nF.t hu hb,i1,λp hp=>i2 p hp⟩
def Gz(neg:Bool):R2:=λy x H Q=>∃a o,x=.ref a/\nF H a y o/\Q (.bl (if neg then !o.isSome else o.isSome)) H
theorem MW(hu:X.A.units+100 < cLine):kg X (Yw .In) (Gz Ξ):=by intro η s σ H x y v u Q I rx ry h;obtain⟨a,o,rfl,g,q⟩:=h;cases ry;exact UA (by lia) I g rx λs3 I3=>⟨.bl o.isSome,H,I3,rfl,q⟩
theorem Ed(hu:X.A.units+100 < cLine):kg X (Yw .NotIn) (Gz Λ):=by intro η s σ H x y v u Q I rx ry h;obtain⟨a,o,rfl,g,q⟩:=h;cases ry;exact Iz (by lia) I g rx λs3 I3=>⟨.bl (!o.isSome),H,I3,rfl,q⟩
def Jh(K:KB):K8->R2
 |.lt=>Cp λi j=>.bl (decide (i < j))|.le=>Cp λi j=>.bl (decide (i<=j))|.gt=>Cp λi j=>.bl (decide (j < i))|.ge=>Cp λi j=>.bl (decide (j<=i))|.eq=>λv u H Q=>∃m Z x y k,aH K H m Z x v/\aH K H m Z y u/\rR x y=Δ k/\Q (.bl k) H|.ne=>λv u H Q=>∃m Z x y k,aH K H m Z x v/\aH K H m Z y u/\rR x y=Δ k/\Q (.bl (!k)) H|.isin=>λv u H Q=>PQ K.K Ξ v u H Q\/Gz Ξ v u H Q|.nM=>λv u H Q=>PQ K.K Λ v u H Q\/Gz Λ v u H Q
theorem pM(hu:X.A.units+100 < cLine):∀o,kg X (Yw (kj o)) (Jh (af X kt) o)
 |.lt=>Pr|.le=>Pt|.gt=>Pu|.ge=>Pw|.eq=>MR hu|.ne=>MS hu|.isin=>DD.or (MW hu)|.nM=>xq.or (Ed hu)
theorem GA{K:KB}(h:aH K H m Z x v)(f:qw x=Λ):lY v=Λ:=by cases x with|bu=>cases (show v=.bu from h);rfl|bl b=>cases (show v=.bl b from h);rfl|int b=>cases (show v=.int b from h);rfl|str b=>cases (show v=.str b from h);rfl|tup xs=>cases f|pl xs=>cases f
theorem Vy{K:KB}(h:aH K H m Z x v)(h':aH K H m Z y u)(f:qw x=Λ)(f':qw y=Λ):Iw v u=u6 x y:=by
 cases x with
 |tup xs=>cases f|pl xs=>cases f|bu=>cases (show v=.bu from h);cases y with|tup xs=>cases f'|pl xs=>cases f'|bu=>cases (show u=.bu from h');rfl|bl b=>cases (show u=.bl b from h');rfl|int b=>cases (show u=.int b from h');rfl|str b=>cases (show u=.str b from h');rfl
 |bl a=>cases (show v=.bl a from h);cases y with|tup xs=>cases f'|pl xs=>cases f'|bu=>cases (show u=.bu from h');rfl|bl b=>cases (show u=.bl b from h');rfl|int b=>cases (show u=.int b from h');rfl|str b=>cases (show u=.str b from h');rfl
 |int a=>cases (show v=.int a from h);cases y with|tup xs=>cases f'|pl xs=>cases f'|bu=>cases (show u=.bu from h');rfl|bl b=>cases (show u=.bl b from h');rfl|int b=>cases (show u=.int b from h');rfl|str b=>cases (show u=.str b from h');rfl
 |str a=>cases (show v=.str a from h);cases y with|tup xs=>cases f'|pl xs=>cases f'|bu=>cases (show u=.bu from h');rfl|bl b=>cases (show u=.bl b from h');rfl|int b=>cases (show u=.int b from h');rfl|str b=>cases (show u=.str b from h');rfl
theorem Lb{K:KB}(h:aH K H m Z x v)(f:qw x=Λ):∀{ys} {us},aq K H m Z ys us->ys.all qw=Λ->us.all lY=Λ/\Sz v us=ys.any λy=>u6 y x
 |[],us,r,_=>by cases (show us=[] from r);exact⟨rfl,rfl⟩|y::ys,us,r,q=>by obtain⟨w',ws,rfl,r1,r2⟩:=(show ∃v vs,us=v::vs/\aH K H m Z y v/\aq K H m Z ys vs from r);rw[YY,W3] at q;obtain⟨i1,i2⟩:=Lb h f r2 q.2;refine⟨by rw[YY,GA r1 q.1,i1];rfl,?_⟩;unfold Sz at i2 ⊢;rw[Zz,Zz,Vy r1 h q.1 f,i2]
theorem in_of{K:KB}{st:aN}(as:aB K H m Z st)(rx:ak K H m Z x v)(ry:ak K H m Z y u)(e:Gj x y st=Δ k)(q:Q (.bl (if neg then !k else k)) H):PQ K.K neg v u H Q\/Gz neg v u H Q:=by
 unfold Gj at e;split at e;·rename_i o ho;obtain⟨res,e1,rfl⟩:=fZ e;obtain⟨n,a,rfl,hs,hm,rfl,ao,_⟩:=ue as ho ry;obtain⟨ov,hg,h1,_⟩:=CO ao rx e1;refine .inr ⟨a,ov,rfl,hg,?_⟩;rw[h1];exact q
 ·left;obtain⟨xd,e1,e⟩:=cy e;obtain⟨ps,e2,e⟩:=cy e;obtain⟨ys,e3,e9⟩:=cy e;clear e;split at e9;·rename_i hf;rw[W3] at hf;cases x with|obj n=>cases e1|gq n=>cases e1|fn k c=>cases e1|lf k=>cases e1|d x=>cases e1;obtain⟨a,us,rfl,hs,rs⟩:=ju as e2 ry;obtain⟨f1,f2⟩:=Lb rx hf.1 (rs.ba e3) hf.2;refine⟨a,us,rfl,Gx hs,GA rx hf.1,f1,?_⟩;rw[f2];cases e9;cases neg<;>exact q
  ·cases e9
theorem xU{K:KB}{st:aN}(as:aB K H m Z st)(rx:ak K H m Z x v)(ry:ak K H m Z y u)(e:jo o x y st=Δ k)(q:Q (.bl k) H):Jh K o v u H Q:=by
 have Ji:∀{o:K8},MM o x y=Δ k->∃i j,v=.int i/\u=.int j/\QI o i j=Δ k:=λ{o} z=>by
  unfold MM at z;split at z;·exact⟨_,_,rx,ry,z⟩
  ·cases z
 cases o with
 |lt=>obtain⟨i,j,rfl,rfl,z⟩:=Ji e;cases z;exact⟨i,j,rfl,rfl,q⟩|le=>obtain⟨i,j,rfl,rfl,z⟩:=Ji e;cases z;exact⟨i,j,rfl,rfl,q⟩|gt=>obtain⟨i,j,rfl,rfl,z⟩:=Ji e;cases z;exact⟨i,j,rfl,rfl,q⟩|ge=>obtain⟨i,j,rfl,rfl,z⟩:=Ji e;cases z;exact⟨i,j,rfl,rfl,q⟩|eq=>obtain⟨a,e1,e⟩:=cy (show((jQ st x).bind λx=>(jQ st y).bind λy=>rR x y)=Δ k from e);obtain⟨b,e2,e⟩:=cy e;exact⟨[],[],a,b,k,kW as e1 rx,kW as e2 ry,e,q⟩
 |ne=>obtain⟨a,e1,e⟩:=cy (show((jQ st x).bind λx=>(jQ st y).bind λy=>(rR x y).map not)=Δ k from e);obtain⟨b,e2,e⟩:=cy e;obtain⟨c,e3,rfl⟩:=fZ e;exact⟨[],[],a,b,c,kW as e1 rx,kW as e2 ry,e3,q⟩|isin=>exact in_of (neg:=Ξ) as rx ry e q|nM=>obtain⟨k',e',rfl⟩:=fZ (show(Gj x y st).map not=Δ k from e);exact in_of (neg:=Λ) as rx ry e' q
theorem Ok.truth{K:KB}{st:aN}{Q:VK}(as:aB K H m Z st)(h:Ok K Z ((R.of o st).bind λb st3=>R.ok (P.d (.bl b)) st3) m H (λp _ m' H'=>∀v,ak K H' m' Z p v->Q v H')):∃k,o=Δ k/\Q (.bl k) H:=by obtain⟨k,e,q,_⟩:=Ok.of (Ok.bind h) as;exact⟨k,e,Ok.here q as (.bl k) rfl⟩
theorem CP(h:cI b=Ξ):acz op b=Ξ:=by
 cases b<;>first
  |rfl
  |exact absurd (show Λ=Ξ from h) X8.symm
theorem QS(T:Good X kt g C)(ha:PE X a (tE (af X kt) Z (aa C ea)))(hb:PE X b (tE (af X kt) Z (aa C eb)))(hn:cI b=Ξ):
  PE X (.Compare a [kj o] [b] pos) (tE (af X kt) Z (aa C (.cmp o ea eb))):=
 PE.imp (Ib (pM T.hu o) ha hb (CP hn)) λσ H Q h=>CM (f:=Yw (kj o)) (λx y v u m H st Q as rx ry h=>by obtain⟨k,e,q⟩:=Ok.truth as h;exact xU as rx ry e q) h
theorem me{α β:Type}{r:R α}{f:α->aN->R β}{b:β}{st:aN}(h:r.bind f=.ok b st):∃a st1,r=.ok a st1/\f a st1=.ok b st:=by cases r with|ok a st1=>exact⟨a,st1,rfl,h⟩|ex x st1=>cases h|no=>cases h
theorem GB{K:KB}{st:aN}(as:aB K H m Z st)(r:ak K H m Z p v)(e:xK st p=Δ k):Dw K.K v H k:=by
 have lists:(bY st p).map (λxs=>!xs.isEmpty)=Δ k->Dw K.K v H k:=λz=>by obtain⟨ps,e1,rfl⟩:=fZ z;obtain⟨a,us,rfl,hr,rs⟩:=dk as e1 r;refine .inl ⟨us,.inl hr,?_⟩;have:=rs.length;cases ps<;>cases us<;>simp at this ⊢
 cases p with
 |obj n=>exact lists e|gq n=>exact lists e|fn k c=>exact lists e|lf k=>exact lists e|d x=>
  cases x with
  |bu=>cases (show v=.bu from r);cases e;rfl|bl b=>cases (show v=.bl b from r);cases e;rfl|int b=>cases (show v=.int b from r);cases e;rfl|str b=>
   cases (show v=.str b from r);have e':(if b.length<=aw then Δ ((b.length:Int)!=0) else Θ)=Δ k:=e;split at e';·rename_i hc;cases e';exact⟨by rw[<-dt];exact hc,rfl⟩
   ·cases e'
  |tup xs=>obtain⟨a,us,rfl,hs,rs⟩:=r;cases e;refine .inr (.inl ⟨us,eY.of hs,?_⟩);have:=rs.length;cases xs<;>cases us<;>simp at this ⊢|pl xs=>exact lists e
theorem MX(h:tT (af X kt) Z (cg d) σ H Q):tE (af X kt) Z d σ H λx H'=>∃k,Dw X.K x H' k/\Q k H':=by obtain⟨m,r,st,ar,as,h⟩:=h;refine⟨m,r,st,ar,as,(Ok.bind h).mono λp st1 m1 H1 bN aY h1 v rv=>?_⟩;obtain⟨k,e,q,_⟩:=Ok.of h1 aY;exact⟨k,GB aY rv e,q⟩
theorem Jj(ha:PE X e (tE (af X kt) Z d))(he:∀whole,acL e X.env whole=(do let v<-whole;ab5 e.pos;acp [v] (truthy v))):PT X e (tT (af X kt) Z (cg d)):=
 PT.imp (Fb ha he) λσ H Q h=>MX h
theorem CQ(hb:∀r st p st1,d r st=.ok p st1->∃b,p=.d (.bl b))(h:tT (af X kt) Z (cg d) σ H Q):tE (af X kt) Z d σ H λx H'=>∃k,x=.bl k/\Q k H':=by obtain⟨m,r,st,ar,as,h⟩:=h;refine⟨m,r,st,ar,as,(Ok.bind h).wB λp st1 m1 H1 hr bN aY h1 v rv=>?_⟩;obtain⟨b,rfl⟩:=hb r st p st1 hr;obtain⟨k,e,q,_⟩:=Ok.of h1 aY;cases e;cases (show v=.bl b from rv);exact⟨b,rfl,q⟩
theorem GC:∀r st p st1,aa C (.cmp o a b) r st=.ok p st1->∃b,p=.d (.bl b):=λr st p st1 h=>by rw[cj] at h;obtain⟨x,s1,_,h⟩:=me h;obtain⟨y,s2,_,h⟩:=me h;obtain⟨k,s3,_,h⟩:=me h;cases h;exact⟨k,rfl⟩
theorem MY(T:Good X kt g C)(ha:PE X a (tE (af X kt) Z (aa C ea)))(hb:PE X b (tE (af X kt) Z (aa C eb)))(hn:cI b=Ξ):
  PT X (.Compare a [kj o] [b] pos) (tT (af X kt) Z (cg (aa C (.cmp o ea eb)))):=
 PT.imp (Ic (pM T.hu o) ha hb (CP hn)) λσ H Q h=>CM (f:=Yw (kj o)) (λx y v u m H st Q as rx ry h=>by obtain⟨k,e,q⟩:=Ok.truth as h;exact xU as rx ry e q) (CQ GC h)
theorem wH(h:cI b=Ξ)(h':cI c=Ξ):lastMarks [p,q] [b,c]=Ξ:=by
 cases c<;>first
  |rfl
  |exact absurd (show Λ=Ξ from h') X8.symm
theorem zO(h:tE (af X kt) Z (aa C (.chain o o' a b c)) σ H Q):
  A9 (Jh (af X kt) o) (Jh (af X kt) o') (tE (af X kt) Z (aa C a)) (tE (af X kt) Z (aa C b)) (tE (af X kt) Z (aa C c)) σ H Q:=by
 obtain⟨m,ρ,st,ar,as,h⟩:=h;rw[qy] at h;refine⟨m,ρ,st,ar,as,(Ok.bind h).mono λx st1 m1 H1 bN aY h1 v rv=>?_⟩;refine⟨m1,ρ,st1,ar.le bN,aY,(Ok.bind h1).mono λy st2 m2 H2 eK dU h2 u ru=>?_⟩;obtain⟨k,e,h3,_⟩:=Ok.of (Ok.bind h2) dU;refine xU dU (rv.le eK) ru e ⟨k,rfl,?_⟩;cases k with|false=>exact Ok.here h3 dU (.bl Ξ) rfl|true=>refine⟨m2,ρ,st2,(ar.le bN).le eK,dU,(Ok.bind (show Ok (af X kt) Z ((aa C c ρ st2).bind _) m2 H2 _ from h3)).mono λz l6 m4 H4 yI CS h4 w' mx=>?_⟩;obtain⟨k',e',q⟩:=Ok.truth CS h4;exact xU CS (ru.le yI) mx e' q
theorem Jk(T:Good X kt g C)(ha:PE X a (tE (af X kt) Z (aa C ea)))(hb:PE X b (tE (af X kt) Z (aa C eb)))(hc:PE X c (tE (af X kt) Z (aa C ec)))(hn:cI b=Ξ)(EU:cI c=Ξ):
  PE X (.Compare a [kj o,kj o'] [b,c] pos) (tE (af X kt) Z (aa C (.chain o o' ea eb ec))):=
 PE.imp (E7 (pM T.hu o) (pM T.hu o') ha hb hc (wH hn EU)) λσ H Q h=>zO h
theorem BS:∀r st p st1,aa C (.chain o o' a b c) r st=.ok p st1->∃b,p=.d (.bl b):=λr st p st1 h=>by rw[qy] at h;obtain⟨x,s1,_,h⟩:=me h;obtain⟨y,s2,_,h⟩:=me h;obtain⟨k,s3,_,h⟩:=me h;cases k with|false=>cases h;exact⟨Ξ,rfl⟩|true=>obtain⟨z,s4,_,h⟩:=me (show((aa C c r s3).bind _)=_ from h);obtain⟨k',s5,_,h⟩:=me h;cases h;exact⟨k',rfl⟩
theorem GD(T:Good X kt g C)(ha:PE X a (tE (af X kt) Z (aa C ea)))(hb:PE X b (tE (af X kt) Z (aa C eb)))(hc:PE X c (tE (af X kt) Z (aa C ec)))(hn:cI b=Ξ)(EU:cI c=Ξ):
  PT X (.Compare a [kj o,kj o'] [b,c] pos) (tT (af X kt) Z (cg (aa C (.chain o o' ea eb ec)))):=
 PT.imp (E8 (pM T.hu o) (pM T.hu o') ha hb hc (wH hn EU)) λσ H Q h=>zO (CQ BS h)
theorem Jl(ha:PE X a ta):PE X (.UnaryOp .Not a pos) (λσ H Q=>ta σ H λx H1=>∃k,Dw X.K x H1 k/\Q (.bl (!k)) H1):=by intro η s σ H Q I h;refine UnaryOp_ (bR (ha η s σ H _ I h) λv s1 ⟨x,H1,I1,r1,q1⟩=>not_of ?_);exact bR (E9 η s1 σ H1 x v (λk H'=>Q (.bl (!k)) H') I1 r1 q1) λc s2 ⟨H2,I2,q2⟩=>⟨.bl (!c),H2,I2,rfl,q2⟩
theorem QT(ha:PE X a (tE (af X kt) Z (aa C ea))):PE X (.UnaryOp .Not a pos) (tE (af X kt) Z (aa C (.not ea))):=by refine PE.imp (Jl ha) ?_;rintro σ H Q ⟨m,ρ,st,ar,as,h⟩;rw[wb] at h;refine⟨m,ρ,st,ar,as,(Ok.bind h).mono λx st1 m1 H1 bN aY h1 v rv=>?_⟩;obtain⟨k,e,h2,_⟩:=Ok.of (Ok.bind h1) aY;exact⟨k,GB aY rv e,Ok.here h2 aY (.bl (!k)) rfl⟩
theorem MZ(ha:PT X a (tT (af X kt) Z (cg (aa C ea)))):PT X (.UnaryOp .Not a pos) (tT (af X kt) Z (cg (aa C (.not ea)))):=by refine PT.imp (LF ha) ?_;rintro σ H Q ⟨m,ρ,st,ar,as,h⟩;unfold cg at h;rw[wb] at h;refine⟨m,ρ,st,ar,as,?_⟩;unfold cg;cases hr:aa C ea ρ st with|ex x s=>rw[hr] at h;exact h|no=>rw[hr] at h;exact h|ok p s1=>rw[hr] at h;simp only[ae] at h ⊢;cases ht:xK s1 p with|none=>rw[ht] at h;exact h|some k=>rw[ht] at h;exact h
theorem M0(ha:PE X a (tE (af X kt) Z (aa C ea))):PE X (.BoolOp .And [a] pos) (tE (af X kt) Z (fX C [ea])):=EY ha
theorem QU(ha:PE X a (tE (af X kt) Z (aa C ea))):PE X (.BoolOp .Or [a] pos) (tE (af X kt) Z (fY C [ea])):=EY ha
theorem M3{rest:List Expr}(ha:PE X a (tE (af X kt) Z (aa C ea)))(hb:PE X (.BoolOp .And (b::rest) pos) (tE (af X kt) Z (fX C (eb::er)))):
  PE X (.BoolOp .And (a::b::rest) pos) (tE (af X kt) Z (fX C (ea::eb::er))):=by
 refine PE.imp (LG ha hb) ?_;rintro σ H Q ⟨m,ρ,st,ar,as,h⟩;rw[we] at h;refine⟨m,ρ,st,ar,as,(Ok.bind h).mono λx st1 m1 H1 bN aY h1 v rv=>?_⟩;split at h1;·rename_i k;cases (show v=.bl k from rv);refine⟨k,rfl,?_⟩;cases k with|true=>exact⟨m1,ρ,st1,ar.le bN,aY,h1⟩|false=>exact Ok.here h1 aY (.bl Ξ) rfl
 ·exact h1.elim
theorem QV{rest:List Expr}(ha:PE X a (tE (af X kt) Z (aa C ea)))(hb:PE X (.BoolOp .Or (b::rest) pos) (tE (af X kt) Z (fY C (eb::er)))):
  PE X (.BoolOp .Or (a::b::rest) pos) (tE (af X kt) Z (fY C (ea::eb::er))):=by
 refine PE.imp (Pa ha hb) ?_;rintro σ H Q ⟨m,ρ,st,ar,as,h⟩;rw[lF] at h;refine⟨m,ρ,st,ar,as,(Ok.bind h).mono λx st1 m1 H1 bN aY h1 v rv=>?_⟩;split at h1;·rename_i k;cases (show v=.bl k from rv);refine⟨k,rfl,?_⟩;cases k with|false=>exact⟨m1,ρ,st1,ar.le bN,aY,h1⟩|true=>exact Ok.here h1 aY (.bl Λ) rfl
 ·exact h1.elim
theorem Jm(ha:PT X a (tT (af X kt) Z (cg (aa C ea)))):PW X (.BoolOp .And [a] pos) (tT (af X kt) Z (cg (fX C [ea]))):=pw_and1 ha
theorem M4(ha:PT X a (tT (af X kt) Z (cg (aa C ea)))):PW X (.BoolOp .Or [a] pos) (tT (af X kt) Z (cg (fY C [ea]))):=pw_or1 ha
theorem Jn{rest:List Expr}(ha:PT X a (tT (af X kt) Z (cg (aa C ea))))(hb:PW X (.BoolOp .And (b::rest) pos) (tT (af X kt) Z (cg (fX C (eb::er))))):
  PW X (.BoolOp .And (a::b::rest) pos) (tT (af X kt) Z (cg (fX C (ea::eb::er)))):=by
 refine PW.imp (pw_and ha hb) ?_;rintro σ H Q ⟨m,ρ,st,ar,as,h⟩;refine⟨m,ρ,st,ar,as,?_⟩;unfold cg at h ⊢;rw[we] at h;cases hr:aa C ea ρ st with
 |ex x s=>rw[hr] at h;exact h|no=>rw[hr] at h;exact h|ok p s1=>
  rw[hr] at h;simp only[ae] at h ⊢;split at h;·rename_i k;refine λm1 H1 bN aY=>?_;cases k with|true=>exact⟨m1,ρ,s1,ar.le bN,aY,Ok.le h bN⟩|false=>exact h m1 H1 bN aY
  ·exact h.elim
theorem M5{rest:List Expr}(ha:PT X a (tT (af X kt) Z (cg (aa C ea))))(hb:PW X (.BoolOp .Or (b::rest) pos) (tT (af X kt) Z (cg (fY C (eb::er))))):
  PW X (.BoolOp .Or (a::b::rest) pos) (tT (af X kt) Z (cg (fY C (ea::eb::er)))):=by
 refine PW.imp (pw_or ha hb) ?_;rintro σ H Q ⟨m,ρ,st,ar,as,h⟩;refine⟨m,ρ,st,ar,as,?_⟩;unfold cg at h ⊢;rw[lF] at h;cases hr:aa C ea ρ st with
 |ex x s=>rw[hr] at h;exact h|no=>rw[hr] at h;exact h|ok p s1=>
  rw[hr] at h;simp only[ae] at h ⊢;split at h;·rename_i k;refine λm1 H1 bN aY=>?_;cases k with|false=>exact⟨m1,ρ,s1,ar.le bN,aY,Ok.le h bN⟩|true=>exact h m1 H1 bN aY
  ·exact h.elim
end
section
variable{X:Cx}{g:G}{C:Nat->List P->aN->R P}{Z:List Addr}{e:Expr}{es:List Expr}
theorem fK:∀{es} {r} {st st1} {ps},aF C es r st=.ok ps st1->ps.length=es.length
 |[],r,st,st1,ps,h=>by rw[aE] at h;cases h;rfl|e::es,r,st,st1,ps,h=>by rw[ay] at h;obtain⟨x,s1,_,h⟩:=me h;obtain⟨xs,s2,h2,h⟩:=me h;cases h;rw[Xq,Xq,fK h2]
theorem uf:PA X [] (tA (af X kt) Z (aF C [])):=by refine PA.imp Bj ?_;rintro σ H Q ⟨m,ρ,st,ar,as,h⟩;rw[aE] at h;exact Ok.here h as [] rfl
theorem kX(ha:PE X x (tE (af X kt) Z (aa C a)))(hr:PA X xs (tA (af X kt) Z (aF C cn)))(hs:notStar x=Λ):PA X (x::xs) (tA (af X kt) Z (aF C (a::cn))):=by refine PA.imp (rM ha hr (bF hs)) ?_;rintro σ H Q ⟨m,ρ,st,ar,as,h⟩;rw[ay] at h;refine⟨m,ρ,st,ar,as,(Ok.bind h).mono λp st1 m1 H1 bN aY h1 v rv=>?_⟩;refine⟨m1,ρ,st1,ar.le bN,aY,(Ok.bind h1).mono λps st2 m2 H2 eK dU h2 vs iC=>?_⟩;exact Ok.here h2 dU (v::vs) ⟨v,vs,rfl,rv.le eK,iC⟩
theorem fL(h:gR g (a::cn) xs=Λ):∃x ys,xs=x::ys/\gv g a x=Λ/\notStar x=Λ/\gR g cn ys=Λ:=by refine aJ h λx ys h=>?_;simp only[W3] at h;exact⟨x,ys,rfl,h.1.1,h.1.2,h.2⟩
theorem kY(h:gR g [] xs=Λ):xs=[]:=Xo.mp h
theorem cJ:∀{cn} {xs},gR g cn xs=Λ->∀x∈xs,notStar x=Λ
 |[],xs,h=>by rw[kY h];intro x hx;cases hx|a::cn,xs,h=>by
  obtain⟨x,ys,rfl,_,h2,h3⟩:=fL h;intro y hy;rcases Zy.mp hy with z|z;·rw[z];exact h2
  ·exact cJ h3 y z
theorem gb:∀{cn} {xs},gR g cn xs=Λ->xs.length=cn.length
 |[],xs,h=>by rw[kY h];rfl|a::cn,xs,h=>by obtain⟨x,ys,rfl,_,_,h3⟩:=fL h;rw[Xq,Xq,gb h3]
theorem fS:∀{xs},(∀x∈xs,notStar x=Λ)->(Zk pos (XG xs env)).any (·.1)=Ξ
 |[],_=>rfl|x::xs,h=>by rw[bF (h x W8)];show(Ξ||(Zk pos (XG xs env)).any (·.1))=Ξ;rw[fS λy hy=>h y (W5 _ hy)];rfl
theorem QW(h:PA X xs (tA (af X kt) Z (aF C cn))):PE X (.Tuple xs k pos) (tE (af X kt) Z (aa C (.tup cn))):=by
 refine PE.imp (LW h) ?_;rintro σ H Q ⟨m,ρ,st,ar,as,h⟩;rw[wc] at h;refine⟨m,ρ,st,ar,as,(Ok.bind h).mono λps st1 m1 H1 bN aY h1 vs iC=>?_⟩;split at h1;·rename_i hc;obtain⟨xs,e,h2,_⟩:=Ok.of (Ok.bind h1) aY;exact⟨by rw[iC.length,<-dt];exact hc,λp hp=>nY (α:=Unit) aY (iC.ba e) hp h2⟩
 ·exact h1.elim
theorem Le.grow{K:KB}{m m':List Addr}{H H':Hp}{a:Addr}(le:Le K m H m' H')(ha:H a=Θ):Le K m H (m'++[a]) H' where
 pre:=by obtain⟨t,e⟩:=le.pre;exact⟨t++[a],by rw[e,X7]⟩
 tup:=le.tup
 keep:=le.keep
 new:=λb hb=>by
  rcases aaA.mp hb with z|z;·exact le.new b z
  ·have:b=a:=by simpa using z
   rw[this];exact .inr ha
 qR:=le.qR
 CG:=le.CG
 dz:=le.dz
 ext:=le.ext
 fk:=le.fk
theorem xV(h:tE (af X kt) Z (aa C (.lst mu l)) σ H Q):tL (af X kt) Z (aX C l) σ H Q:=by obtain⟨m,ρ,st,ar,as,h⟩:=h;rw[D8] at h;refine⟨m,ρ,st,ar,as,?_⟩;cases hr:aX C l ρ st with|ex x s=>rw[hr] at h;exact h|no=>rw[hr] at h;exact h|ok ps st1=>rw[hr] at h;simp only[ae] at h;intro m' H' a vs le ha hm hH cn rs;have hz:a∉Z:=(as.fresh ha).2;cases mu with|true=>refine h (m'++[a]) H' (le.grow ha) (cn.adopt hz hH rs) (.ref a) ⟨a,?_,rfl⟩;rw[Xu (by rw[cn.len];exact Xd _),cn.len];simp|false=>have dU:=cn.vz (Z:=Z) λb hb=>W5 _ hb;obtain⟨xs,e,h2,_⟩:=Ok.of (Ok.bind (Ok.le (show Ok (af X kt) Z ((R.of (ba ps) st1).bind λxs st2=>R.ok (P.d (.pl xs)) st2) m H _ from h) le)) dU;exact Ok.here h2 dU (.ref a) ⟨a,vs,rfl,.inl hH,hm,hz,(rs.vz λb hb=>W5 _ hb).ba e⟩
theorem QX(h:PE X e (tL (af X kt) Z (aX C l))):PE X e (tE (af X kt) Z (aa C (.lst mu l))):=PE.imp h λσ H Q q=>xV q
theorem Le.CT{K:KB}(le:Le K m H m' H')(ha:H' a=Θ):H a=Θ:=by cases q:H a with|none=>rfl|some o=>exact absurd ha (le.qR a (by rw[q];exact λz=>nomatch z))
theorem nZ{K:KB}(bN:Le K m H m1 H1)(aY:aB K H1 m1 Z st1)(iC:ah K H1 m1 Z ps vs)(ha:H1 a=Θ)(h:LQ K Z (R.ok ps st1) m H Q):Q (.ref a) (upd H1 a (.lst vs)):=
 h m1 (upd H1 a (.lst vs)) a vs (bN.trans (Le.same (aZ ha _))) (bN.CT ha) (aY.fresh ha).1 aD (aY.laid ha _) ((iC.kR ha).le (Le.same (aZ ha _)))
theorem M6(h:PA X xs (tA (af X kt) Z (aF C cn))):PE X (.List xs pos) (tL (af X kt) Z (aX C (.e7 cn))):=by
 refine PE.imp (LX h) ?_;rintro σ H Q ⟨m,ρ,st,ar,as,h⟩;refine⟨m,ρ,st,ar,as,?_⟩;rw[eJ] at h;cases hr:aF C cn ρ st with
 |ex x s=>rw[hr] at h;exact h|no=>rw[hr] at h;exact h|ok ps st1=>
  rw[hr] at h;simp only[ae] at h;split at h;·rename_i hc;intro m1 H1 bN aY vs iC;exact⟨by rw[iC.length,<-dt];exact hc,λa ha=>nZ bN aY iC ha h⟩
  ·exact h.elim
theorem M7(T:Good X kt g C)(hg:g.gl "list"=Λ)(ha:PE X x (tE (af X kt) Z (aa C a)))(hs:notStar x=Λ):PE X (.Call (.Name "list" p) [x] [] pos) (tL (af X kt) Z (aX C (.list a))):=by refine PE.imp (gX xw (T.glob hg) (T.bl _ (by decide+kernel)) acr (kX ha uf hs) (by decide+kernel) (by decide+kernel) (bF hs) rfl) ?_;rintro σ H Q ⟨m,ρ,st,ar,as,h⟩;refine⟨m,ρ,st,ar,as,?_⟩;rw[tw] at h;show Ok (af X kt) Z (aF C [a] ρ st) m H _;simp only[ay,aE];cases hr:aa C a ρ st with|ex x s=>rw[hr] at h;exact h|no=>rw[hr] at h;exact h|ok y st1=>rw[hr] at h;simp only[ae] at h ⊢;intro m1 H1 bN aY vs iC;obtain⟨v,pN,rfl,rv,e⟩:=(show ∃v pN,vs=v::pN/\ak (af X kt) H1 m1 Z y v/\pN=[] from iC);subst e;cases hi:cY st1 y with|none=>rw[hi] at h;exact(show False from h).elim|some ps=>rw[hi] at h;obtain⟨b,us,rfl,hq,rs⟩:=ju aY hi rv;exact⟨b,us,rfl,Gx hq,λl hl=>nZ bN aY rs hl h⟩
theorem aQ.keys{K:KB}:∀{kvs} {us},aQ K H m Z kvs us->ah K H m Z (kvs.map λkv=>xN kv.1) (us.map λkv=>kV kv.1)
 |[],us,h=>by cases (show us=[] from h);exact rfl|(k,p)::kvs,us,h=>by obtain⟨v,vs,rfl,r,rs⟩:=(show ∃v vs,us=(k,v)::vs/\ak K H m Z p v/\aQ K H m Z kvs vs from h);refine⟨kV k,_,rfl,?_,aQ.keys rs⟩;cases k<;>rfl
theorem CU{K:KB}{st:aN}(as:aB K H m Z st)(h:sX st p=Δ q)(r:ak K H m Z p v):∃a us,p=.obj q.1/\st[q.1]?=Δ (.dK q.2)/\m[q.1]?=Δ a/\v=.ref a/\H a=Δ (.dK us)/\aQ K H m Z q.2 us:=by
 unfold sX at h;split at h
 ·rename_i n;split at h;·rename_i kvs hk;cases h;obtain⟨a,ha,rfl⟩:=(show ∃a,m[n]?=Δ a/\v=.ref a from r);obtain⟨a',S3,us,hu,rs⟩:=as.at_ n _ hk;rw[ha] at S3;cases S3;exact⟨a,us,rfl,hk,ha,rfl,hu,rs⟩
  ·cases h
 ·cases h
theorem M8(T:Good X kt g C)(hg:g.gl "list"=Λ)(ha:PE X x (tE (af X kt) Z (aa C a)))(hs:notStar x=Λ):PE X (.Call (.Name "list" p) [x] [] pos) (tL (af X kt) Z (aX C (.keys a))):=by refine PE.imp (gX (vo T.calm) (T.glob hg) (T.bl _ (by decide+kernel)) acr (kX ha uf hs) (by decide+kernel) (by decide+kernel) (bF hs) rfl) ?_;rintro σ H Q ⟨m,ρ,st,ar,as,h⟩;refine⟨m,ρ,st,ar,as,?_⟩;rw[tz] at h;show Ok (af X kt) Z (aF C [a] ρ st) m H _;simp only[ay,aE];cases hr:aa C a ρ st with|ex x s=>rw[hr] at h;exact h|no=>rw[hr] at h;exact h|ok y st1=>rw[hr] at h;simp only[ae] at h ⊢;intro m1 H1 bN aY vs iC;obtain⟨v,pN,rfl,rv,e⟩:=(show ∃v pN,vs=v::pN/\ak (af X kt) H1 m1 Z y v/\pN=[] from iC);subst e;cases hi:sX st1 y with|none=>rw[hi] at h;exact(show False from h).elim|some q=>rw[hi] at h;obtain⟨b,us,rfl,hk,hm,rfl,hu,rs⟩:=CU aY hi rv;exact⟨b,us,rfl,hu,λl hl=>nZ bN aY rs.keys hl h⟩
theorem Jo(T:Good X kt g C)(AZ:g.cv=Λ)(h1:g.N[i]?=Δ x)(h2:g.xP x=Λ)(hp:aU x=Λ)(hs:∀z∈y::ys,notStar z=Λ)(h:PA X (y::ys) (tA (af X kt) Z (aF C cn))):
  PE X (.Call (.Name x p) (y::ys) [] pos) (tE (af X kt) Z (aa C (.nN i cn))):=by
 refine PE.imp (FV (i:=i) (by rw[T.N];exact h1) (T.xP h2) h (pn hp).1 (pn hp).2.1 (bF (hs y W8)) (fS λz hz=>hs z (W5 _ hz))) ?_;rintro σ H Q ⟨m,ρ,st,ar,as,h⟩;rw[zA] at h;obtain⟨q,e,h',_⟩:=Ok.of (Ok.bind h) as;have e':ρ[i]?=Δ (Δ q):=by unfold kr at e;cases z:ρ[i]? with|none=>rw[z] at e;cases e|some o=>rw[z] at e;simp at e;rw[e]
 obtain⟨v,ev,rv⟩:=ar.at_ i q e';cases q with|fn k bq=>rw[ak] at rv;obtain⟨a,c,bW,rfl,hc,Vz,rc⟩:=rv;obtain⟨n,fd,ps,F,hr,hb⟩:=(T.qB AZ k a c bW hc).ex;refine⟨a,ev,(T.qB AZ k a c bW hc).ob,m,ρ,st,ar,as,(Ok.bind h').wB λqs st1 m1 H1 hq bN aY h1 vs iC=>⟨n,fd,ps,_,F,hr,hb,?_⟩⟩;exact⟨bN.ext _ _ Vz,m1,Z,qs,bq,st1,iC,rc.le bN,aY,h1⟩|d x=>exact(Ok.nL (λ_ _=>rfl) h').elim|obj x=>exact(Ok.nL (λ_ _=>rfl) h').elim|gq x=>exact(Ok.nL (λ_ _=>rfl) h').elim|lf x=>exact(Ok.nL (λ_ _=>rfl) h').elim
theorem aQ.look{K:KB}{m:List Addr}{f:Str}:∀{fs:List (Str×P)} {us:List (Str×V)},aQ K H m Z fs us->(∀p,fs.lookup f=Δ p->∃v,us.lookup f=Δ v/\ak K H m Z p v)/\(fs.lookup f=Θ->us.lookup f=Θ)
 |[],us,h=>by cases (show us=[] from h);exact⟨(λp z=>nomatch z),λ_=>rfl⟩|(k,p)::fs,us,h=>by obtain⟨v,vs,rfl,r,rs⟩:=(show ∃v vs,us=(k,v)::vs/\ak K H m Z p v/\aQ K H m Z fs vs from h);obtain⟨i1,i2⟩:=aQ.look (f:=f) rs;rw[XB,XB];cases hb:f==k with|true=>exact⟨λq z=>by cases z;exact⟨v,rfl,r⟩,λz=>nomatch z⟩|false=>exact⟨i1,i2⟩
theorem BU{K:KB}{st:aN}(as:aB K H m Z st)(r:ak K H m Z p v)(h:ph c st p=Δ (n,fs)):
  ∃a A dx us,p=.obj n/\m[n]?=Δ a/\v=.ref a/\st[n]?=Δ (.ins c fs)/\Xr K.K Xk c=Δ (Δ (.ref A))/\H a=Δ (.ins A dx us)/\H dx=Δ (.own a)/\aQ K H m Z fs us:=by
 unfold ph at h;split at h
 ·rename_i n';split at h
  ·rename_i c' fs' hs;split at h;·rename_i hc;cases h;subst hc;rw[ak] at r;obtain⟨a,e,rfl⟩:=r;obtain⟨a',e',ao⟩:=as.at_ n _ hs;rw[e] at e';cases e';obtain⟨A,dx,us,g1,g2,g3,g4⟩:=ao;exact⟨a,A,dx,us,rfl,e,rfl,hs,g1,g2,g3,g4⟩
   ·cases h
  ·cases h
 ·cases h
theorem M9(T:Good X kt g C)(hf:g.yH c f=Λ)(h1:g.N[i]?=Δ x)(h2:g.xP x=Λ)(h3:aU x=Λ):PE X (.Attribute (.Name x p) f pos) (tE (af X kt) Z (aa C (.attr c f i))):=by refine PE.imp (LS (zL (Z:=Z) (kt:=kt) T h1 h2 h3) rfl) ?_;rintro σ H Q ⟨m,ρ,st,ar,as,h⟩;rw[BK] at h;refine⟨m,ρ,st,ar,as,?_⟩;rw[lE];refine(Ok.bind h).mono λq st1 m1 H1 bN aY h1 v rv=>?_;obtain⟨q2,e,h2,_⟩:=Ok.of h1 aY;obtain⟨⟨n,fs⟩,e1,e2⟩:=cy e;obtain⟨a,A,dx,us,rfl,hm,rfl,hs,g1,g2,g3,g4⟩:=BU aY rv e1;obtain⟨A',k1,k2,k3⟩:=T.fld c f hf;rw[show Xr X.K Xk c=Δ (Δ (.ref A)) from g1] at k1;cases k1;obtain⟨w,hw,mx⟩:=(aQ.look (f:=f) g4).1 q2 e2;exact⟨a,A,dx,us,w,rfl,g2,k2,k3,hw,h2 w mx⟩
theorem s_call(T:Good X kt g C)(hf:g.fns[f]?=Δ (x,cn.length))(hg:g.gl x=Λ)(hp:aU x=Λ)(hs:∀x∈xs,notStar x=Λ)(hl:xs.length=cn.length)(h:PA X xs (tA (af X kt) Z (aF C cn))):
  PE X (.Call (.Name x p) xs [] pos) (tE (af X kt) Z (aa C (.call f cn))):=by
 obtain⟨k,fa,fd,ps,F,hr,hm,hk,hb⟩:=(T.fn f x cn.length hf).ex;have red:∀σ H Q,tE (af X kt) Z (aa C (.call f cn)) σ H Q->Fe (BR (af X kt) (C f) cn.length) [] E0 (tA (af X kt) Z (aF C cn)) σ H Q:=by rintro σ H Q ⟨m,ρ,st,ar,as,h⟩;rw[jR] at h;refine⟨m,ρ,st,ar,as,(Ok.bind h).wB λqs st1 m1 H1 hq bN aY h1 vs iC=>?_⟩;show BR (af X kt) (C f) cn.length (vs++[]) H1 Q E0;rw[Ya];exact⟨m1,Z,qs,st1,by rw[iC.length,fK hq],iC,aY,h1⟩
 cases xs with
 |nil=>
  have e:cn=[]:=by cases cn with|nil=>rfl|cons a b=>simp at hl
  subst e;refine PE.imp (Ff F hr (T.glob hg) hm hk hb .nil zc (pn hp).1) λσ H Q h=>?_;obtain⟨m,ρ,st,ar,as,h1⟩:=red σ H Q h;rw[aE] at h1;exact Ok.here h1 as [] rfl
 |cons y ys=>exact PE.imp (Ih F hr (T.glob hg) hm hk hb .nil zc h (pn hp).1 (bF (hs y W8)) (fS λz hz=>hs z (W5 _ hz))) red
theorem BV{E:Value->Xp->Prop}(I:Inv X η σ H s)(q:eY X.K H a xs)(e:acn X.K (.type "tuple") c=Δ b)(h:∀tk,Q (.bool b) {s with toks:=tk}):wpAny (model X.prog X.w) A (call (.builtin "isinstance") [.ref a,c]) Q E s:=by obtain⟨_,_,p,_⟩:=I.tuple q;obtain⟨o,h1,h2,_⟩:=p;exact Yt PySem.W.kitx_tuple I.nh ⟨o,h1,h2⟩ e (λz=>nomatch z) h
theorem GF:eO X (.builtin "isinstance") (λxs H Q=>∃x T,xs=[x,.ty T]/\T∈lH/\((∃t,L2.Qc H x=Δ t/\Q (.bl (L2.bB t T)) H)\/(∃a ys,x=.ref a/\eY X.K H a ys/\Q (.bl (L2.bB "tuple" T)) H)\/(∃a ys,x=.ref a/\Rd H a (.lst ys)/\Q (.bl (L2.bB "list" T)) H))):=by
 intro η s σ H xs us Q I r h;obtain⟨x,T,rfl,hT,h⟩:=h;obtain⟨u,w',rfl,rx,ry⟩:=vals2 r;cases (show w'=Z7 T from ry);have S4:T="int"\/T="bool"\/T="tuple"\/T="str"\/T="list":=by simpa[lH] using hT
 rcases h with ⟨t,ht,q⟩|⟨a,ys,rfl,hq,q⟩|⟨a,ys,rfl,hq,q⟩
 ·exact oW I rx (II ht) (rO X.K (Mm ht) S4) λtk=>⟨.bl (L2.bB t T),H,I.tok _,rfl,q⟩
 ·cases rx;exact BV I hq (rO X.K (by simp) S4) λtk=>⟨.bl (L2.bB "tuple" T),H,I.tok _,rfl,q⟩
 ·rcases hq with hq|⟨o,hq⟩;·exact oW I rx (mw.lst hq) (rO X.K (by simp) S4) λtk=>⟨.bl (L2.bB "list" T),H,I.tok _,rfl,q⟩
  ·exact oW I rx (mw.dz hq) (rO X.K (by simp) S4) λtk=>⟨.bl (L2.bB "list" T),H,I.tok _,rfl,q⟩
theorem Jp(h:T∈lH):aap (XY T)=Δ (.type T)/\XY T∈ud/\XY T≠"__name__"/\(XY T==("__debug__":Str))=Ξ:=by
 have h':T="int"\/T="bool"\/T="tuple"\/T="str"\/T="list":=by simpa[lH] using h
 rcases h' with rfl|rfl|rfl|rfl|rfl;·exact⟨boot_int,by decide+kernel,by decide+kernel,by decide+kernel⟩
 ·exact⟨boot_bool,by decide+kernel,by decide+kernel,by decide+kernel⟩
 ·exact⟨boot_tuple,by decide+kernel,by decide+kernel,by decide+kernel⟩
 ·exact⟨boot_str,by decide+kernel,by decide+kernel,by decide+kernel⟩
 ·exact⟨acr,by decide+kernel,by decide+kernel,by decide+kernel⟩
theorem QY(T:Good X kt g C)(hg:g.gl "isinstance"=Λ)(ht:t∈lH)(Jq:g.gl (XY t)=Λ)(ha:PE X x (tE (af X kt) Z (aa C a)))(hs:notStar x=Λ):
  PE X (.Call (.Name "isinstance" p) [x,.Name (XY t) q] [] pos) (tE (af X kt) Z (aa C (.sV a t))):=by
 obtain⟨b1,b2,b3,b4⟩:=Jp ht;refine PE.imp (jh GF (T.glob hg) (T.bl _ (by decide+kernel)) boot_isinstance (rM ha (rM (HV (v:=.ty t) (T.glob Jq) (T.bl _ b2) b1 rfl b3 b4) Bj) (bF hs)) (by decide+kernel) (by decide+kernel) (bF hs) rfl) ?_;rintro σ H Q ⟨m,ρ,st,ar,as,h⟩;rw[D9] at h;refine⟨m,ρ,st,ar,as,(Ok.bind h).mono λy st1 m1 H1 bN aY h1 v rv=>?_⟩;obtain⟨k,e,h2,_⟩:=Ok.of (Ok.bind h1) aY;have q:=Ok.here h2 aY (.bl (bB k t)) rfl;have eqt:Y.bB k t=L2.bB k t:=rfl;refine⟨v,t,rfl,ht,?_⟩;cases y with
 |d x=>cases x with|bu=>cases (show v=.bu from rv);cases e;exact .inl ⟨_,rfl,q⟩|bl b=>cases (show v=.bl b from rv);cases e;exact .inl ⟨_,rfl,q⟩|int b=>cases (show v=.int b from rv);cases e;exact .inl ⟨_,rfl,q⟩|str b=>cases (show v=.str b from rv);cases e;exact .inl ⟨_,rfl,q⟩|tup xs=>obtain⟨b,us,rfl,hq,_⟩:=rv;cases e;exact .inr (.inl ⟨b,us,rfl,eY.of hq,q⟩)|pl xs=>obtain⟨b,us,rfl,hq,_⟩:=rv;cases e;exact .inr (.inr ⟨b,us,rfl,hq,q⟩)
 |obj n=>
  have e':(match st1[n]? with|some (.lst _)=>Δ "list"|_=>Θ)=Δ k:=e;split at e';·rename_i xs hx;cases e';obtain⟨b,us,rfl,hq,_⟩:=dk aY (show bY st1 (.obj n)=Δ xs by show(match st1[n]? with|some (.lst xs)=>Δ xs|_=>Θ)=Δ xs;rw[hx]) rv;exact .inr (.inr ⟨b,us,rfl,hq,q⟩)
  ·cases e'
 |gq n=>cases e|fn k c=>cases e|lf k=>cases e
end
section
variable{X:Cx}{g:G}{C:Nat->List P->aN->R P}{Z:List Addr}{e:Expr}{es:List Expr}
theorem QZ(ha:PE X a (tE (af X kt) Z (aa C ea))):PE X (.UnaryOp .USub a pos) (tE (af X kt) Z (aa C (.neg ea))):=by
 refine PE.imp (KA E6 ha) ?_;rintro σ H Q ⟨m,ρ,st,ar,as,h⟩;rw[pz] at h;refine⟨m,ρ,st,ar,as,(Ok.bind h).mono λx st1 m1 H1 bN aY h1 v rv=>?_⟩;split at h1;·rename_i i;cases (show v=.int i from rv);exact⟨i,rfl,Ok.here h1 aY (.int (-i)) rfl⟩
 ·exact h1.elim
theorem GG(h:xR y=Ξ):Cu y:=by
 intro o i;cases y<;>first
  |rfl
  |exact absurd (show Λ=Ξ from h) X8.symm
def VA:R2:=λx y H Q=>∃a v,x=.ref a/\nF H a y (Δ v)/\Q v H
theorem BW(hu:X.A.units+100 < cLine):KG X VA:=by intro value slice η s σ H x y v u Q I rx ry h hs;obtain⟨a,w',rfl,g,q⟩:=h;cases rx;obtain⟨ob,h1,h2⟩:=yW I g a rfl;refine nH (yV I g) ?_ hs;exact DF (by lia) I g ry λw2 s3 I3 mx=>⟨w',H,I3,mx,q⟩
theorem VB(hu:X.A.units+100 < cLine)(ha:PE X a (tE (af X kt) Z (aa C ea)))(hb:PE X b (tE (af X kt) Z (aa C eb)))(hs:xR b=Ξ):PE X (.Subscript a b pos) (tE (af X kt) Z (aa C (.ix ea eb))):=by
 refine PE.imp (PL ((Iu.or L9).or (BW hu)) ha hb (GG hs)) λσ H Q h=>CM (f:=λa b=>aay a b) (λx y v u m H st Q as rx ry h=>?_) h;obtain⟨p,e,q,_⟩:=Ok.of h as;unfold A0 at e;split at e;·rename_i o ho;obtain⟨res,e1,e2⟩:=cy e;cases (show res=Δ p from e2);obtain⟨n,a,rfl,hs,hm,rfl,ao,_⟩:=ue as ho rx;obtain⟨ov,hg,h1,h2⟩:=CO ao ry e1;obtain⟨w',rfl,mx⟩:=h2 p rfl;exact .inr ⟨a,w',rfl,hg,q w' mx⟩
 left;unfold Vp at e;split at e
 ·rename_i i;cases (show u=.int i from ry);obtain⟨ps,e1,e2⟩:=cy e;obtain⟨a,us,rfl,hq,rs⟩:=ju as e1 rx;obtain⟨j,e3,e4⟩:=cy (show(Y.Bm ps.length i).bind (λj=>ps[j]?)=Δ p from e2);obtain⟨w',e5,mx⟩:=rs.get e4;have e6:L2.oY us i=Δ w':=by show(L2.Bm us.length i).bind (λj=>us[j]?)=Δ w';rw[rs.length];have:L2.Bm ps.length i=Δ j:=e3;rw[this];exact e5
  rcases hq with hq|hq;·exact .inl ⟨a,us,i,w',rfl,rfl,hq,e6,q w' mx⟩
  ·exact .inr ⟨a,us,i,w',rfl,rfl,eY.of hq,e6,q w' mx⟩
 ·cases e
inductive tO (K:KB) (Z:List Addr) (d:b9->aN->R (Option P)) (σ:L2.St) (H:Hp) (Q:Option Int->Hp->Prop):Prop
 |mk (m:List Addr) (r:b9) (st:aN) (a:cA K H m Z r σ) (b:aB K H m Z st) (c:Ok K Z (d r st) m H (λo _ _ H'=>∃l,nP o=Δ l/\Q l H')):tO K Z d σ H Q
theorem PO.imp(h:PO X x t)(i:∀σ H Q,t' σ H Q->t σ H Q):PO X x t':=λη s σ H Q I q=>h η s σ H Q I (i σ H Q q)
theorem Jr:PO X Θ (tO (af X kt) Z (g8 C Θ)):=by refine PO.imp Ip ?_;rintro σ H Q ⟨m,ρ,st,ar,as,h⟩;rw[mI] at h;obtain⟨l,e,q⟩:=Ok.here h as;cases e;exact q
theorem Js(ha:PE X x (tE (af X kt) Z (aa C a))):PO X (Δ x) (tO (af X kt) Z (g8 C (Δ a))):=by refine PO.imp (Iq ha) ?_;rintro σ H Q ⟨m,ρ,st,ar,as,h⟩;rw[tu] at h;refine⟨m,ρ,st,ar,as,(Ok.bind h).mono λp st1 m1 H1 bN aY h1 v rv=>?_⟩;obtain⟨l,e,q⟩:=Ok.here h1 aY;cases p with|obj n=>cases e|gq n=>cases e|fn k c=>cases e|lf k=>cases e|d y=>cases y with|int i=>cases e;cases (show v=.int i from rv);exact⟨i,rfl,q⟩|_=>cases e
theorem aq.cut{K:KB}(h:aq K H m Z xs us)lo hi:aq K H m Z (g7 xs lo hi) (oX us lo hi):=by
 have r:=h.map;have hl:=h.length;unfold g7 oX;rw[hl];have e:∀(n d:Nat) (o:Option Int),Y.dc n d o=HT.dc n d o:=λn d o=>by cases o<;>rfl
 rw[e,e];have q:=(r.drop (HT.dc xs.length 0 lo)).take (HT.dc xs.length xs.length hi - HT.dc xs.length 0 lo);rw[<-List.map_drop,<-List.map_take] at q;refine ah.ba q ?_;generalize ((xs.drop (HT.dc xs.length 0 lo)).take (HT.dc xs.length xs.length hi - HT.dc xs.length 0 lo))=ys;induction ys with|nil=>rfl|cons y ys ih=>show((ba (ys.map P.d)).map λxs=>y::xs)=_;rw[ih];rfl
theorem ah.cut{K:KB}(r:ah K H m Z xs us)lo hi:ah K H m Z (g7 xs lo hi) (oX us lo hi):=by
 have hl:=r.length;unfold g7 oX;rw[hl];have e:∀(n d:Nat) (o:Option Int),Y.dc n d o=HT.dc n d o:=λn d o=>by cases o<;>rfl
 rw[e,e];exact(r.drop (HT.dc xs.length 0 lo)).take (HT.dc xs.length xs.length hi - HT.dc xs.length 0 lo)
theorem Jt{lo hi:Option Expr}{p2 pos:Pos}(ha:PE X x (tE (af X kt) Z (aa C a)))(hl:PO X lo (tO (af X kt) Z (g8 C l)))(hh:PO X hi (tO (af X kt) Z (g8 C h))):
  PE X (.Subscript x (.Slice lo hi Θ p2) pos) (tE (af X kt) Z (aa C (.slice a l h))):=by
 refine PE.imp (Fm (IK.or Iv) ha hl hh) ?_;rintro σ H Q ⟨m,ρ,st,ar,as,h0⟩;rw[qz] at h0;refine⟨m,ρ,st,ar,as,(Ok.bind h0).mono λy st1 m1 H1 bN aY h1 v rv=>?_⟩;refine⟨m1,ρ,st1,ar.le bN,aY,(Ok.bind h1).mono λol st2 m2 H2 eK dU h2=>?_⟩;cases hr:g8 C h ρ st2 with
 |ex x s=>rw[hr] at h2;exact(show False from h2).elim|no=>rw[hr] at h2;exact(show False from h2).elim|ok oh st3=>
  rw[hr] at h2;simp only[ae] at h2;cases hs:mG y ol oh st3 with
  |none=>rw[hs] at h2;exact(show False from h2).elim|some q=>
   have hs0:=hs;unfold mG at hs;obtain⟨il,e1,hs⟩:=cy hs;obtain⟨ih,e2,hs⟩:=cy hs;refine⟨il,e1,m2,ρ,st2,(ar.le bN).le eK,dU,?_⟩;rw[hr];intro m3 H3 pO qG;refine⟨ih,e2,?_⟩;rw[hs0] at h2;have rv3:=(rv.le eK).le pO;have fin:∀xs,bY st3 y=Δ xs->(ba (g7 xs il ih)).map (λys=>P.d (.pl ys))=Δ q->(Qe v il ih H3 Q\/PN X.K v il ih H3 Q):=λxs hx hz=>by obtain⟨ys,hy,rfl⟩:=fZ hz;obtain⟨b,us,rfl,hq,rs⟩:=dk qG hx rv3;refine .inr ⟨b,us,rfl,.inl hq,λp hp=>?_⟩;exact Gy qG ((rs.cut il ih).ba hy) hp (Ok.le h2 pO)
   split at hs;·rename_i xs;cases hs;obtain⟨b,us,rfl,hq,rs⟩:=rv3;refine .inl ⟨b,us,rfl,hq,λr H' sm hr=>?_⟩;have le:Le (af X kt) m3 H3 m3 H':=Le.same sm;exact h2 m3 H' (pO.trans le) (qG.same sm) (.ref r) ⟨r,_,rfl,hr,(rs.cut il ih).le le⟩
   ·obtain⟨xs,e3,hs⟩:=cy hs;exact fin xs e3 hs
theorem Q0{p1 p2 p3 pos:Pos}(ha:PE X x (tE (af X kt) Z (aa C a))):PE X (.Subscript x (.Slice Θ Θ (Δ (.UnaryOp .USub (.Constant (.int 1) k p1) p2)) p3) pos) (tE (af X kt) Z (aa C (.rev a))):=by
 refine PE.imp (IL ha (KA E6 A4)) ?_;rintro σ H Q ⟨m,ρ,st,ar,as,h0⟩;rw[wd] at h0;refine⟨m,ρ,st,ar,as,(Ok.bind h0).mono λy st1 m1 H1 bN aY h1 v rv=>?_⟩;split at h1;·rename_i xs;obtain⟨b,us,rfl,hq,rs⟩:=rv;exact⟨1,rfl,b,us,rfl,rfl,hq,λp hp=>nY (α:=Unit) aY rs.reverse hp h1⟩
 ·exact h1.elim
theorem vA{K:KB}(h:ah K H m Z [p] vs):∃v,vs=[v]/\ak K H m Z p v:=by obtain⟨v,pN,rfl,rv,e⟩:=(show ∃v pN,vs=v::pN/\ak K H m Z p v/\pN=[] from h);subst e;exact⟨v,rfl,rv⟩
theorem GH{K:KB}(h:ah K H m Z [p,q] vs):∃v u,vs=[v,u]/\ak K H m Z p v/\ak K H m Z q u:=by obtain⟨v,pN,rfl,rv,h'⟩:=(show ∃v pN,vs=v::pN/\ak K H m Z p v/\ah K H m Z [q] pN from h);obtain⟨u,rfl,ru⟩:=vA h';exact⟨v,u,rfl,rv,ru⟩
def VC(K:Xf):Bf->List V->Hp->VK->Prop
 |.any=>λxs H Q=>∃(p:Addr) (bs:List Bool),xs=[.ref p]/\kC K H p (bs.map V.bl)/\Q (.bl (bs.any id)) H|.len=>λxs H Q=>(∃p n,xs=[.ref p]/\Qg H p n/\Q (.int n) H)\/(∃p ys,xs=[.ref p]/\(kC K H p ys\/eY K H p ys)/\Q (.int ys.length) H)\/(∃z,xs=[.str z]/\z.length<=Xv/\Q (.int z.length) H)|.min2=>λxs H Q=>∃i j,xs=[.int i,.int j]/\Q (.int (if j < i then j else i)) H|.max2=>λxs H Q=>∃i j,xs=[.int i,.int j]/\Q (.int (if j > i then j else i)) H|.all=>λxs H Q=>∃(p:Addr) (bs:List Bool),xs=[.ref p]/\kC K H p (bs.map V.bl)/\Q (.bl (bs.all id)) H|.str=>λxs H Q=>∃i,xs=[.int i]/\i.natAbs.log2 < 1920/\Q (.str (toString i)) H|.tuple=>λxs H Q=>∃p ys,xs=[.ref p]/\((kC K H p ys/\∀l,H l=Θ->Q (.ref l) (upd H l (.tup ys)))\/(eY K H p ys/\Q (.ref p) H))
noncomputable def Q1:Bf->Value
 |.len=>.builtin "len"|.min2=>.builtin "min"|.max2=>.builtin "max"|.all=>.builtin "all"|.any=>.builtin "any"|.str=>.type "str"|.tuple=>.type "tuple"
theorem zP(h:eO X f r)(h':eO X f r'):eO X f (λxs H Q=>r xs H Q\/r' xs H Q):=by
 intro η s σ H xs us Q I rv q;rcases q with q|q;·exact h η s σ H xs us Q I rv q
 ·exact h' η s σ H xs us Q I rv q
theorem Ju(hc:X.calm=Λ):∀f,eO X (Q1 f) (VC X.K f)
 |.len=>zP xA (zP xt xu)|.min2=>Dy hc|.max2=>Dx hc|.all=>DN hc|.any=>DO hc|.str=>xl|.tuple=>vf
theorem ug{K:KB}:∀{ps} {bs} {us},ah K H m Z ps us->boolsOf ps=Δ bs->us=bs.map V.bl
 |[],bs,us,h,e=>by cases e;exact h|p::ps,bs,us,h,e=>by
  obtain⟨v,vs,rfl,r,rs⟩:=(show ∃v vs,us=v::vs/\ak K H m Z p v/\ah K H m Z ps vs from h);unfold boolsOf at e;split at e;·rename_i e0;cases e0
  ·rename_i b r' e0;cases e0;obtain⟨cs,e1,rfl⟩:=fZ e;cases (show v=.bl b from r);rw[ug rs e1];rfl
  ·cases e
theorem Q2{K:KB}{st:aN}(as:aB K H m Z st)(rx:ah K H m Z ps vs)(h:Ok K Z (R.of (oP f ps st) st) m H (λp _ m' H'=>∀v,ak K H' m' Z p v->Q v H')):VC K.K f vs H Q:=by
 obtain⟨p,e,q,qq⟩:=Ok.of h as;unfold oP at e;split at e
 ·rename_i p0;obtain⟨v,rfl,rv⟩:=vA rx;split at e
  ·rename_i x;cases (show v=.str x from rv);split at e;·rename_i hc;cases e;exact .inr (.inr ⟨x,rfl,by rw[<-dt];exact hc,q _ rfl⟩)
   ·cases e
  ·split at e
   ·rename_i o ho;cases e;obtain⟨n,a,rfl,hs,hm,rfl,ao,hd⟩:=ue as ho rv;refine .inl ⟨a,Gi o,rfl,?_,q _ rfl⟩;cases o with
    |lst xs=>cases hd|ins c fs=>cases hd|vp=>cases hd|dK kvs=>obtain⟨us,hu,rs⟩:=ao;exact .inl ⟨us,.inl hu,rs.length⟩
    |dT kvs=>obtain⟨us,hu,rs⟩:=ao;exact .inr ⟨us,.inl hu,rs.length⟩
   ·obtain⟨xs,e1,rfl⟩:=fZ e;obtain⟨a,us,rfl,hq,rs⟩:=ju as e1 rv;refine .inr (.inl ⟨a,us,rfl,Gx hq,?_⟩);rw[rs.length];exact q _ rfl
 ·rename_i i j;obtain⟨v,u,rfl,rv,ru⟩:=GH rx;cases (show v=.int i from rv);cases (show u=.int j from ru);cases e;refine⟨i,j,rfl,?_⟩;have:(if j < i then j else i)=min i j:=by split<;>lia
  rw[this];exact q _ rfl
 ·rename_i i j;obtain⟨v,u,rfl,rv,ru⟩:=GH rx;cases (show v=.int i from rv);cases (show u=.int j from ru);cases e;refine⟨i,j,rfl,?_⟩;have:(if j > i then j else i)=max i j:=by split<;>lia
  rw[this];exact q _ rfl
 ·obtain⟨v,rfl,rv⟩:=vA rx;obtain⟨xs,e1,e⟩:=cy e;obtain⟨bs,e2,rfl⟩:=fZ e;obtain⟨a,us,rfl,hq,rs⟩:=dk as e1 rv;have:=ug rs e2;subst this;exact⟨a,bs,rfl,.inl hq,q _ rfl⟩
 ·obtain⟨v,rfl,rv⟩:=vA rx;obtain⟨xs,e1,e⟩:=cy e;obtain⟨bs,e2,rfl⟩:=fZ e;obtain⟨a,us,rfl,hq,rs⟩:=dk as e1 rv;have:=ug rs e2;subst this;exact⟨a,bs,rfl,.inl hq,q _ rfl⟩
 ·rename_i i;obtain⟨v,rfl,rv⟩:=vA rx;cases (show v=.int i from rv);split at e;·rename_i hc;cases e;exact⟨i,rfl,hc,q _ rfl⟩
  ·cases e
 ·obtain⟨v,rfl,rv⟩:=vA rx;obtain⟨xs,e1,e⟩:=cy e;obtain⟨ys,e2,rfl⟩:=fZ e;obtain⟨a,us,rfl,hq,rs⟩:=ju as e1 rv;have rr:=rs.ba e2;rcases hq with hq|hq;·exact⟨a,us,rfl,.inl ⟨hq,λl hl=>nY (α:=Unit) as rr hl qq⟩⟩
  ·exact⟨a,us,rfl,.inr ⟨eY.of hq,q (.ref a) ⟨a,us,rfl,hq,rr⟩⟩⟩
 ·cases e
theorem VD(T:Good X kt g C)(hg:g.gl (xQ f)=Λ)(hs:∀y∈x::xs,notStar y=Λ)(h:PA X (x::xs) (tA (af X kt) Z (aF C cn))):
  PE X (.Call (.Name (xQ f) p) (x::xs) [] pos) (tE (af X kt) Z (aa C (.bf f cn))):=by
 have red:∀σ H Q,tE (af X kt) Z (aa C (.bf f cn)) σ H Q->Up (VC X.K f) (tA (af X kt) Z (aF C cn)) σ H Q:=by rintro σ H Q ⟨m,ρ,st,ar,as,h⟩;rw[cD] at h;exact⟨m,ρ,st,ar,as,(Ok.bind h).mono λqs st1 m1 H1 bN aY h1 vs iC=>Q2 aY iC h1⟩
 have s1:=bF (env:=X.env) (es:=xs) (hs x W8);have s2:(Zk pos (XG xs X.env)).any (·.1)=Ξ:=fS λz hz=>hs z (W5 _ hz);have hc:=Ju (X:=X) T.calm f;cases f with|len=>exact PE.imp (jh (id:="len") hc (T.glob hg) (T.bl _ (by decide+kernel)) PySem.boot_len h (by decide+kernel) (by decide+kernel) s1 s2) red|min2=>exact PE.imp (jh (id:="min") hc (T.glob hg) (T.bl _ (by decide+kernel)) boot_min h (by decide+kernel) (by decide+kernel) s1 s2) red|max2=>exact PE.imp (jh (id:="max") hc (T.glob hg) (T.bl _ (by decide+kernel)) boot_max h (by decide+kernel) (by decide+kernel) s1 s2) red|all=>exact PE.imp (jh (id:="all") hc (T.glob hg) (T.bl _ (by decide+kernel)) boot_all h (by decide+kernel) (by decide+kernel) s1 s2) red|any=>exact PE.imp (jh (id:="any") hc (T.glob hg) (T.bl _ (by decide+kernel)) boot_any h (by decide+kernel) (by decide+kernel) s1 s2) red|str=>exact PE.imp (gX (T:="str") hc (T.glob hg) (T.bl _ (by decide+kernel)) boot_str h (by decide+kernel) (by decide+kernel) s1 s2) red|tuple=>exact PE.imp (gX (T:="tuple") hc (T.glob hg) (T.bl _ (by decide+kernel)) boot_tuple h (by decide+kernel) (by decide+kernel) s1 s2) red
theorem Na:PE X (.Dict [] [] pos) (tE (af X kt) Z (aa C (.pd t))):=by
 have red:∀(ho:HO) (ob:O),(∀H m Z a,H a=Δ ho->rf (af X kt) H m Z a ob)->∀(σ:L2.St) (H:Hp) (Q:VK) m ρ st,cA (af X kt) H m Z ρ σ->aB (af X kt) H m Z st->
   Ok (af X kt) Z (R.ok (P.obj st.length) (st++[ob])) m H (λp _ m' H'=>∀v,ak (af X kt) H' m' Z p v->Q v H')->∀p,H p=Θ->Q (.ref p) (upd H p ho):=by
  intro ho ob Nb σ H Q m ρ st ar as h p hp;have hz:p∉Z:=(as.fresh hp).2;refine h (m++[p]) (upd H p ho) ((Le.same (aZ hp _)).grow hp) ((as.laid hp ho (λφ z=>(Nb (upd H p ho) m Z p aD).qR.2.2.2.1 φ (by rw[aD,z]))).tU hz (Nb _ _ _ _ aD)) (.ref p) ⟨p,?_,rfl⟩;rw[Xu (by rw[as.len];exact Xd _),as.len];simp
 cases t with
 |false=>refine PE.imp Ft ?_;rintro σ H Q ⟨m,ρ,st,ar,as,h⟩;rw[g9] at h;exact red (.dK []) (.dK []) (λH m Z a e=>⟨[],e,rfl⟩) σ H Q m ρ st ar as h
 |true=>refine PE.imp Fu ?_;rintro σ H Q ⟨m,ρ,st,ar,as,h⟩;rw[g9] at h;exact red (.dT []) (.dT []) (λH m Z a e=>⟨[],e,rfl⟩) σ H Q m ρ st ar as h
theorem PE.or(h1:PE X e t1)(h2:PE X e t2):PE X e (λσ H Q=>t1 σ H Q\/t2 σ H Q):=λη s σ H Q I h=>h.elim (h1 η s σ H Q I) (h2 η s σ H Q I)
theorem Nc(T:Good X kt g C)(hk:CJ g k kx=Λ)(hv:zK x vx=Λ):PE X (.Dict [Δ kx] [vx] pos) (tE (af X kt) Z (aa C (.D3 k x))):=by
 obtain⟨v,pv,rv⟩:=Gw (X:=X) hv;obtain⟨tk,pk,rk⟩:=Jf (Z:=Z) T hk;refine PE.imp (PE.or (IA (yZ pk pv Cv) rfl rfl (by simp) (by simp)) (Ge (by have:=T.hu;lia) pk pv)) ?_;rintro σ H Q ⟨m,ρ,st,ar,as,h⟩;rw[tm] at h;rcases rk (st:=st) ar with e|⟨y,u,e,ru,q⟩;·rw[e] at h;exact h.elim
 rw[e,ae] at h;obtain⟨o,eo,h2,dW⟩:=Ok.of (Ok.bind h) as;clear dW;unfold IZ at eo;cases QD:keyOf y with
 |some kk=>rw[QD] at eo;cases eo;cases ru.key QD;refine .inl λp hp=>q _ _ ⟨aD,[(kk,v)],rfl,by simp,?_⟩;rw[Ci];have hz:p∉Z:=(as.fresh hp).2;have ho:upd H p (.dK (o5 [] [(kk,v)]))=upd H p (.dK [(kk,v)]):=rfl;rw[ho];refine h2 (m++[p]) (upd H p (.dK [(kk,v)])) ((Le.same (aZ hp _)).grow hp) ((as.laid hp (HO.dK [(kk,v)]) (λφ z=>nomatch z)).tU hz ⟨[(kk,v)],aD,v,[],rfl,rv _ _ _ _,rfl⟩) (.ref p) ⟨p,?_,rfl⟩;rw[Xu (by rw[as.len];exact Xd _),as.len];simp|none=>
  rw[QD] at eo;obtain⟨kk,DQ,rfl⟩:=fZ (show(mF y).map (λk=>O.dT [(k,P.d x)])=Δ o from eo);obtain⟨b,rfl,hb⟩:=ru.mF DQ;refine .inr λp hp=>q _ _ ⟨aD,kk,b,rfl,?_,?_⟩;·rw[ax (λz=>by rw[z,hp] at hb;cases hb)];exact hb
  rw[Ci];have hz:p∉Z:=(as.fresh hp).2;refine h2 (m++[p]) (upd H p (.dT [(kk,v)])) ((Le.same (aZ hp _)).grow hp) ((as.laid hp (HO.dT [(kk,v)]) (λφ z=>nomatch z)).tU hz ⟨[(kk,v)],aD,v,[],rfl,rv _ _ _ _,rfl⟩) (.ref p) ⟨p,?_,rfl⟩;rw[Xu (by rw[as.len];exact Xd _),as.len];simp
theorem uh(h:isCall o=Ξ):ZV o n env w=w:=by
 cases o with
 |Call f xs ks p=>
  cases f with
  |Name x q=>
   cases xs with
   |nil=>cases ks with|nil=>exact absurd (show Λ=Ξ from h) X8.symm|cons _ _=>rfl
   |cons _ _=>rfl
  |_=>rfl
 |_=>rfl
theorem GI{K:KB}(ao:rf K H m Z a o)(hd:jn o=Λ):SF H a:=by cases o with|lst xs=>cases hd|ins c fs=>cases hd|vp=>cases hd|dK kvs=>obtain⟨us,hu,_⟩:=ao;exact .inl ⟨us,.inl hu⟩|dT kvs=>obtain⟨us,hu,_⟩:=ao;exact .inr ⟨us,.inl hu⟩
noncomputable def WalksU(K:KB)(J:It)(us:List V)(m:List Addr)(H:Hp):Prop:=
 ∀m2 H2,Le K m H m2 H2->∀i:Nat,(i < us.length->J.go i H2/\∀x H3,J.Pj i H2 x H3->H3=H2/\us[i]?=Δ x)/\(us.length<=i->J.stop i H2)
def Walks(K:KB)(Z:List Addr)(J:It)(ps:List P)(m:List Addr)(H:Hp):Prop:=
 ∀m2 H2 Z2,Le K m H m2 H2->(∀a∈Z2,a∈Z\/H a=Θ)->∀i:Nat,(∀p,ps[i]?=Δ p->J.go i H2/\∀x H3,J.Pj i H2 x H3->jj H2 H3/\ak K H3 m2 Z2 p x)/\(i=ps.length->J.stop i H2)
inductive tW (K:KB) (Z:List Addr) (d:b9->aN->R (List P)) (σ:L2.St) (H:Hp) (S:It->Hp->Prop):Prop
 |mk (m:List Addr) (r:b9) (st:aN) (a:cA K H m Z r σ) (b:aB K H m Z st) (c:Ok K Z (d r st) m H (λps _ m' H'=>∀J,Walks K Z J ps m' H'->S J H')):tW K Z d σ H S
mutual
theorem aH.jv{K:KB}{H:Hp}{m Z Z2:List Addr}(hz:∀a∈Z2,a∈Z\/H a=Θ):∀{x:D} {v:V},aH K H m Z x v->aH K H m Z2 x v
 |.bu,_,h=>h|.bl _,_,h=>h|.int _,_,h=>h|.str _,_,h=>h|.tup xs,v,h=>by obtain⟨a,us,e,q,r⟩:=(show ∃a us,v=.ref a/\H a=Δ (.tup us)/\aq K H m Z xs us from h);exact⟨a,us,e,q,aq.jv hz r⟩
 |.pl xs,v,h=>by
  obtain⟨a,us,e,q,hm,hn,r⟩:=(show ∃a us,v=.ref a/\Rd H a (.lst us)/\a∉m/\a∉Z/\aq K H m Z xs us from h);refine⟨a,us,e,q,hm,λz=>?_,aq.jv hz r⟩;rcases hz a z with y|y;·exact hn y
  ·exact Gs q y
theorem aq.jv{K:KB}{H:Hp}{m Z Z2:List Addr}(hz:∀a∈Z2,a∈Z\/H a=Θ):∀{xs:List D} {us:List V},aq K H m Z xs us->aq K H m Z2 xs us
 |[],_,h=>h|x::xs,us,h=>by obtain⟨v,vs,e,r,rs⟩:=(show ∃v vs,us=v::vs/\aH K H m Z x v/\aq K H m Z xs vs from h);exact⟨v,vs,e,aH.jv hz r,aq.jv hz rs⟩
end
mutual
theorem ak.jv{K:KB}{H:Hp}{m Z Z2:List Addr}(hz:∀a∈Z2,a∈Z\/H a=Θ):∀{x:P} {v:V},ak K H m Z x v->ak K H m Z2 x v
 |.d _,_,h=>by rw[ak] at h ⊢;exact aH.jv hz h|.obj _,_,h=>by rw[ak] at h ⊢;exact h|.gq _,_,h=>by rw[ak] at h ⊢;exact h|.fn k bq,v,h=>by rw[ak] at h ⊢;obtain⟨a,c,bW,e,q,hc,r⟩:=h;exact⟨a,c,bW,e,q,hc,ah.jv hz r⟩
 |.lf k,v,h=>by rw[ak] at h ⊢;exact h
theorem ah.jv{K:KB}{H:Hp}{m Z Z2:List Addr}(hz:∀a∈Z2,a∈Z\/H a=Θ):∀{xs:List P} {us:List V},ah K H m Z xs us->ah K H m Z2 xs us
 |[],_,h=>h|x::xs,us,h=>by rw[ah] at h ⊢;obtain⟨v,vs,e,r,rs⟩:=h;exact⟨v,vs,e,ak.jv hz r,ah.jv hz rs⟩
end
theorem WalksU.walks{K:KB}(w:WalksU K J us m H)(r:ah K H m Z ps us):Walks K Z J ps m H:=by intro m2 H2 Z2 le hz i;obtain⟨w1,w2⟩:=w m2 H2 le i;refine⟨λp hp=>?_,λh=>w2 (by rw[r.length];exact abo h.symm)⟩;obtain⟨v,hv,rv⟩:=r.get hp;obtain⟨go,yl⟩:=w1 (qqz hv).1;refine⟨go,λx H3 hy=>?_⟩;obtain⟨rfl,hx⟩:=yl x H3 hy;rw[hv] at hx;cases hx;exact⟨λ_ _ e=>e,(rv.jv hz).le le⟩
theorem PI.imp(h:PI X tg iter t)(i:∀σ H Q,t' σ H Q->t σ H Q):PI X tg iter t':=λη s σ H Q I q=>h η s σ H Q I (i σ H Q q)
theorem Jv{K:KB}(h:H a=Δ (.tup us)):WalksU K (Uc K.K a) us m H:=λm2 H2 le i=>by have h2:eY K.K H2 a us:=eY.of (le.tup _ _ h);refine⟨λhi=>⟨⟨us,us[i],h2,by simp[hi]⟩,λx H3 ⟨e,y⟩=>⟨e,y us h2⟩⟩,λhi=>⟨us,h2,hi⟩⟩
theorem Jw{K:KB}(h:Rd H a (.lst us))(hm:a∉m):WalksU K (Ub K.K a) us m H:=λm2 H2 le i=>by have h2:kC K.K H2 a us:=.inl (le.rd h hm);refine⟨λhi=>⟨⟨us,us[i],h2,by simp[hi]⟩,λx H3 ⟨e,y⟩=>⟨e,y us h2⟩⟩,λhi=>⟨us,h2,hi⟩⟩
theorem CV{K:KB}{lo hi:Int}:WalksU K (LJ lo (hi - lo).toNat) ((W7 (hi - lo).toNat).map λk=>V.int (lo+(k:Nat))) m H:=λm2 H2 le i=>by
 refine⟨λh=>⟨by show i < (hi - lo).toNat;rw[Xc,XX] at h;exact h,λx H3 ⟨e,y⟩=>⟨e,?_⟩⟩,λh=>by show(hi - lo).toNat<=i;rw[Xc,XX] at h;exact h⟩;have h':i < (hi - lo).toNat:=by rw[Xc,XX] at h;exact h
 rw[Xg,Zq h',y];rfl
theorem rX{K:KB}lo:∀l:List Nat,ah K H m Z (l.map λk=>P.d (.int (lo+(k:Nat)))) (l.map λk=>V.int (lo+(k:Nat)))
 |[]=>rfl|k::l=>⟨_,_,rfl,rfl,rX lo l⟩
theorem Q3(ha:PE X x (tE (af X kt) Z (aa C a))):PI X tg x (tW (af X kt) Z (cx C (.ex a))):=by
 intro η s σ H S I h;obtain⟨m,ρ,st,ar,as,h0⟩:=h;rw[zB] at h0;cases hr:aa C a ρ st with
 |ex x s=>rw[hr] at h0;exact(show False from h0).elim|no=>rw[hr] at h0;exact(show False from h0).elim|ok y st1=>
  rw[hr] at h0;simp only[ae] at h0;unfold pw at h0;split at h0;·rename_i xs;refine LK ha η s σ H S I ⟨m,ρ,st,ar,as,?_⟩;rw[hr];intro m1 H1 bN aY v rv;obtain⟨b,us,rfl,hq,rs⟩:=rv;exact⟨b,rfl,⟨us,eY.of hq⟩,h0 m1 H1 bN aY _ ((Jv hq).walks rs.map)⟩
  ·rename_i xs;refine rK ha η s σ H S I ⟨m,ρ,st,ar,as,?_⟩;rw[hr];intro m1 H1 bN aY v rv;obtain⟨b,us,rfl,hq,hm,_,rs⟩:=rv;exact⟨b,rfl,⟨us,.inl hq⟩,h0 m1 H1 bN aY _ ((Jw hq hm).walks rs.map)⟩
  ·exact(show False from h0).elim
theorem Nd(T:Good X kt g C)(hg:g.gl "range"=Λ)(aL:gR g cn xs=Λ)(h:PA X xs (tA (af X kt) Z (aF C cn))):PI X tg (.Call (.Name "range" p) xs [] pos) (tW (af X kt) Z (cx C (.iB cn))):=by
 intro η s σ H S I h1;obtain⟨m,ρ,st,ar,as,h0⟩:=h1;rw[wo] at h0;cases hr:aF C cn ρ st with
 |ex x s=>rw[hr] at h0;exact(show False from h0).elim|no=>rw[hr] at h0;exact(show False from h0).elim|ok ps st1=>
  rw[hr] at h0;simp only[ae] at h0;have hl:=gb aL;have rP:=fK hr;have qg:=cJ aL;unfold qZ at h0;split at h0
  ·rename_i j
   match xs,hl,qg,h with
   |[x],_,qg,h=>
    split at h0;·rename_i hc;refine Dt (T.glob hg) (T.bl _ (by decide+kernel)) h (bF (qg x W8)) η s σ H S I ⟨m,ρ,st,ar,as,?_⟩;rw[hr];intro m1 H1 bN aY vs iC;obtain⟨v,rfl,rv⟩:=vA iC;cases (show v=.int j from rv);have q:=h0 m1 H1 bN aY (LJ 0 (j - 0).toNat) ((CV (lo:=0) (hi:=j)).walks (rX 0 _));rw[Int.sub_zero] at q;exact⟨j,rfl,hc.1,hc.2,q⟩
    ·exact(show False from h0).elim
   |[],hl,_,_=>simp at hl;rw[<-hl] at rP;simp at rP|_::_::_,hl,_,_=>rw[<-rP] at hl;simp at hl
  ·rename_i i j
   match xs,hl,qg,h with
   |[x,y],_,qg,h=>
    split at h0;·rename_i hc;have sy:XG [y] X.env=[(Ξ,eval y X.env)]:=bF (qg y (by simp));refine Du (T.glob hg) (T.bl _ (by decide+kernel)) h (by rw[bF (qg x W8),sy]) sy η s σ H S I ⟨m,ρ,st,ar,as,?_⟩;rw[hr];intro m1 H1 bN aY vs iC;obtain⟨v,u,rfl,rv,ru⟩:=GH iC;cases (show v=.int i from rv);cases (show u=.int j from ru);exact⟨i,j,rfl,hc,h0 m1 H1 bN aY (LJ i (j - i).toNat) ((CV (lo:=i) (hi:=j)).walks (rX i _))⟩
    ·exact(show False from h0).elim
   |[],hl,_,_=>rw[<-rP] at hl;simp at hl|[_],hl,_,_=>rw[<-rP] at hl;simp at hl|_::_::_::_,hl,_,_=>rw[<-rP] at hl;simp at hl
  ·exact(show False from h0).elim
theorem zQ:∀{xs} {k i:Nat} {p:P},(dS k xs)[i]?=Δ p->∃x,xs[i]?=Δ x/\p=.d (.tup [.int (k+i:Nat),x])
 |[],k,i,p,h=>by simp[dS] at h|x::xs,k,i,p,h=>by cases i with|zero=>simp[dS] at h;exact⟨x,rfl,by rw[<-h];simp⟩|succ i=>obtain⟨y,e1,e2⟩:=zQ (xs:=xs) (k:=k+1) (i:=i) (by simpa[dS] using h);exact⟨y,by simpa using e1,by rw[e2];congr 4;lia⟩
theorem zR:∀{xs} {k},(dS k xs).length=xs.length
 |[],_=>rfl|x::xs,k=>by simp[dS,zR (xs:=xs) (k:=k+1)]
theorem Jx{K:KB}(ha:H a=Δ (.tup us))(r:aq K H m Z xs us):Walks K Z (U9 K.K a) (dS 0 xs) m H:=by intro m2 H2 Z2 le hz i;have Nf:=le.tup _ _ ha;refine⟨λp hp=>?_,λh=>⟨us,eY.of Nf,by rw[zR] at h;rw[r.length];exact abo h.symm⟩⟩;obtain⟨x,hx,rfl⟩:=zQ hp;obtain⟨v,hv,rv⟩:=r.map.get (i:=i) (p:=.d x) (by rw[Xg,hx];rfl);refine⟨⟨us,v,eY.of Nf,hv⟩,?_⟩;rintro y H3 ⟨T,v',hT,rfl,rfl,hy⟩;have e:=hy us (eY.of Nf);rw[hv] at e;cases e;have sm:jj H2 (upd H2 T (.tup [.int (i:Nat),v])):=aZ hT _;refine⟨sm,T,[.int (i:Nat),v],rfl,aD,_,_,rfl,?_,v,[],rfl,((aH.jv hz rv).le le).le (Le.same sm),rfl⟩;show V.int (i:Nat)=V.int ((0+i:Nat):Int);rw[Yg]
theorem Jy(T:Good X kt g C)(hg:g.gl "enumerate"=Λ)(ha:PE X x (tE (af X kt) Z (aa C a)))(hs:notStar x=Λ):
  PI X (.Tuple elts kk p3) (.Call (.Name "enumerate" p) [x] [] pos) (tW (af X kt) Z (cx C (.enum a))):=by
 refine PI.imp (FO (T.glob hg) (T.bl _ (by decide+kernel)) (kX ha uf hs) (bF hs)) ?_;rintro σ H S ⟨m,ρ,st,ar,as,h0⟩;rw[BM] at h0;refine⟨m,ρ,st,ar,as,?_⟩;show Ok (af X kt) Z (aF C [a] ρ st) m H _;simp only[ay,aE];cases hr:aa C a ρ st with
 |ex x s=>rw[hr] at h0;exact(show False from h0).elim|no=>rw[hr] at h0;exact(show False from h0).elim|ok y st1=>
  rw[hr] at h0;simp only[ae] at h0 ⊢;intro m1 H1 bN aY vs iC;obtain⟨v,rfl,rv⟩:=vA iC;split at h0;·rename_i xs;obtain⟨b,us,rfl,hq,rs⟩:=rv;exact⟨b,rfl,⟨us,eY.of hq⟩,h0 m1 H1 bN aY _ (Jx hq rs)⟩
  ·exact(show False from h0).elim
theorem Ng(T:Good X kt g C){p pos p2 IT:Pos}(hg:g.gl "range"=Λ)(Jq:g.gl "list"=Λ)(aL:gR g cn xs=Λ)(h:PA X xs (tA (af X kt) Z (aF C cn))):
  PE X (.Call (.Name "list" p2) [.Call (.Name "range" p) xs [] pos] [] IT) (tL (af X kt) Z (aX C (.iB cn))):=by
 have qg:=cJ aL;have hl:=gb aL;cases xs with
 |nil=>rintro η s σ H Q I ⟨m,ρ,st,ar,as,h0⟩;cases cn with|nil=>exact(show False from h0).elim|cons a b=>simp at hl
 |cons x xs=>
  have s1:=bF (env:=X.env) (es:=xs) (qg x W8);have s2:(Zk pos (XG xs X.env)).any (·.1)=Ξ:=fS λz hz=>qg z (W5 _ hz);refine PE.imp (gX (vg T.calm) (T.glob Jq) (T.bl _ (by decide+kernel)) acr (rM (gX zg (T.glob hg) (T.bl _ (by decide+kernel)) boot_range h (by decide+kernel) (by decide+kernel) s1 s2) Bj) (by decide+kernel) (by decide+kernel) rfl rfl) ?_;rintro σ H Q ⟨m,ρ,st,ar,as,h0⟩;refine⟨m,ρ,st,ar,as,?_⟩;rw[wj] at h0;cases hr:aF C cn ρ st with
  |ex x s=>rw[hr] at h0;exact(show False from h0).elim|no=>rw[hr] at h0;exact(show False from h0).elim|ok ps st1=>
   rw[hr] at h0;simp only[ae] at h0;intro m1 H1 bN aY vs iC;have fin:∀lo hi:Int,(-mE<=lo/\lo < mE/\ -mE<=hi/\hi < mE)->LQ (af X kt) Z (R.bind (R.of (Δ (Gn lo hi)) st1) λqs st2=>if qs.length<=aw then R.ok qs st2 else R.no) m H Q->∀q,H1 q=Θ->
     ∃p OK vZ,[V.ref q]=[.ref p]/\upd H1 q (.iB lo hi) p=Δ (.iB OK vZ)/\(-(2 ^ 62)<=OK/\OK < 2 ^ 62/\ -(2 ^ 62)<=vZ/\vZ < 2 ^ 62)/\(vZ - OK).toNat<=Xv/\∀l,upd H1 q (.iB lo hi) l=Θ->Q (.ref l) (upd (upd H1 q (.iB lo hi)) l (.lst (By OK (vZ - OK).toNat))):=by
    intro lo hi hb hQ q hq;simp only[az,ae] at hQ;split at hQ
    ·rename_i hc;refine⟨q,lo,hi,rfl,aD,hb,?_,λl hl=>?_⟩;·unfold Gn at hc;rw[Xc,XX] at hc;rw[<-dt];exact hc
     ·have eK:Le (af X kt) m1 H1 m1 (upd H1 q (.iB lo hi)):=Le.same (aZ hq _);exact nZ (bN.trans eK) (aY.same (aZ hq _)) (rX lo _) hl hQ
    ·exact hQ.elim
   cases hp:qZ ps with
   |none=>rw[hp] at h0;exact(show False from h0).elim|some qs=>
    rw[hp] at h0;unfold qZ at hp;split at hp
    ·rename_i j;split at hp;·rename_i hc;cases hp;obtain⟨v,rfl,rv⟩:=vA iC;cases (show v=.int j from rv);exact⟨0,j,.inr ⟨rfl,rfl⟩,fin 0 j ⟨by unfold mE;lia,by unfold mE;lia,hc.1,hc.2⟩ h0⟩
     ·cases hp
    ·rename_i i j;split at hp;·rename_i hc;cases hp;obtain⟨v,u,rfl,rv,ru⟩:=GH iC;cases (show v=.int i from rv);cases (show u=.int j from ru);exact⟨i,j,.inl rfl,fin i j hc h0⟩
     ·cases hp
    ·cases hp
theorem ah.of_get{K:KB}:∀{ps} {ts},ts.length=ps.length->(∀(j:Nat) p t,ps[j]?=Δ p->ts[j]?=Δ t->ak K H m Z p t)->ah K H m Z ps ts
 |[],ts,hl,_=>by cases ts with|nil=>rfl|cons t ts=>simp at hl
 |p::ps,ts,hl,h=>by cases ts with|nil=>simp at hl|cons t ts=>exact⟨t,ts,rfl,h 0 p t rfl rfl,ah.of_get (by simpa using hl) λj p' t' e e'=>h (j+1) p' t' (by simpa using e) (by simpa using e')⟩
theorem aq.get{K:KB}{j:Nat}(h:aq K H m Z xs us)(e:xs[j]?=Δ x)(e':us[j]?=Δ u):aH K H m Z x u:=by obtain⟨v,ev,rv⟩:=h.map.get (i:=j) (p:=.d x) (by rw[Xg,e];rfl);rw[e'] at ev;cases ev;exact rv
theorem Nh(T:Good X kt g C){p pos p2 IT:Pos}(hg:g.gl "zip"=Λ)(Jq:g.gl "list"=Λ)(ha:PE X x1 (tE (af X kt) Z (aa C a)))(h1:notStar x1=Λ)(hb:PE X x2 (tE (af X kt) Z (aa C b)))(h2:notStar x2=Λ):
  PE X (.Call (.Name "list" p2) [.Call (.Name "zip" p) [x1,x2] [] pos] [] IT) (tL (af X kt) Z (aX C (.zip a b))):=by
 refine PE.imp (zl T.calm (T.glob Jq) (T.bl _ (by decide+kernel)) (T.glob hg) (T.bl _ (by decide+kernel)) (kX ha (kX hb uf h2) h1) (bF h1) (fS λz hz=>?_)) ?_
 ·have:z=x2:=by simpa using hz
  rw[this];exact h2
 rintro σ H Q ⟨m,ρ,st,ar,as,h0⟩;refine⟨m,ρ,st,ar,as,?_⟩;rw[wm] at h0;simp only[ay,aE];cases hr:aa C a ρ st with
 |ex x s=>rw[hr] at h0;exact(show False from h0).elim|no=>rw[hr] at h0;exact(show False from h0).elim|ok x st1=>
  rw[hr] at h0;simp only[ae] at h0 ⊢;cases VE:aa C b ρ st1 with
  |ex x s=>rw[VE] at h0;exact(show False from h0).elim|no=>rw[VE] at h0;exact(show False from h0).elim|ok y st2=>
   rw[VE] at h0;simp only[ae] at h0 ⊢;intro m1 H1 bN aY vs iC;obtain⟨v,u,rfl,rv,ru⟩:=GH iC;unfold D6 at h0;split at h0
   ·rename_i xs ys;obtain⟨va,us,rfl,hva,rx⟩:=rv;obtain⟨vb,ws,rfl,hvb,ry⟩:=ru;refine⟨va,vb,us,ws,rfl,eY.of hva,eY.of hvb,λl H' ts sm hl m9 hp=>?_⟩;simp only[az,ae] at h0;have eK:Le (af X kt) m1 H1 m1 H':=Le.same sm;refine h0 m1 H' l ts (bN.trans eK) (bN.CT hl) (aY.fresh hl).1 m9 (aY.QK hl sm (by rw[bp m9 (λ_ z=>nomatch z)];exact λz=>nomatch z)) (ah.of_get ?_ λj p t e e'=>?_);·rw[hp.1,Xc,Xc,abh,rx.length,ry.length]
    ·obtain⟨Tt,u,w',rfl,e1,e2,e3⟩:=hp.2 j t e';rw[Xg,Xg] at e;cases hz:(xs.zip ys)[j]? with
     |none=>rw[hz] at e;cases e|some q=>
      rw[hz] at e;have e9:P.d (D.tup [q.1,q.2])=p:=by simpa using e
      subst e9;obtain⟨q1,q2⟩:=List.getElem?_zip_eq_some.mp hz;have r1:=(aH.kR hl (rx.get q1 e2)).le eK;have r2:=(aH.kR hl (ry.get q2 e3)).le eK;exact⟨Tt,[u,w'],rfl,e1,u,[w'],rfl,r1,w',[],rfl,r2,rfl⟩
   ·exact(show False from h0).elim
end
section
variable{K:KB}{H H':Hp}{m Z:List Addr}
mutual
theorem aH.congr(ht:∀a us,H a=Δ (.tup us)->H' a=Δ (.tup us))(hl:∀a us,a∉m->a∉Z->Rd H a (.lst us)->Rd H' a (.lst us)):∀{x:D} {v:V},aH K H m Z x v->aH K H' m Z x v
 |.bu,_,h=>h|.bl _,_,h=>h|.int _,_,h=>h|.str _,_,h=>h|.tup xs,v,h=>by obtain⟨a,us,e,q,r⟩:=(show ∃a us,v=.ref a/\H a=Δ (.tup us)/\aq K H m Z xs us from h);exact⟨a,us,e,ht _ _ q,aq.congr ht hl r⟩
 |.pl xs,v,h=>by obtain⟨a,us,e,q,hm,hz,r⟩:=(show ∃a us,v=.ref a/\Rd H a (.lst us)/\a∉m/\a∉Z/\aq K H m Z xs us from h);exact⟨a,us,e,hl _ _ hm hz q,hm,hz,aq.congr ht hl r⟩
theorem aq.congr(ht:∀a us,H a=Δ (.tup us)->H' a=Δ (.tup us))(hl:∀a us,a∉m->a∉Z->Rd H a (.lst us)->Rd H' a (.lst us)):∀{xs:List D} {us:List V},aq K H m Z xs us->aq K H' m Z xs us
 |[],_,h=>h|x::xs,us,h=>by obtain⟨v,vs,e,r,rs⟩:=(show ∃v vs,us=v::vs/\aH K H m Z x v/\aq K H m Z xs vs from h);exact⟨v,vs,e,aH.congr ht hl r,aq.congr ht hl rs⟩
end
mutual
theorem ak.congr(ht:∀a us,H a=Δ (.tup us)->H' a=Δ (.tup us))(hl:∀a us,a∉m->a∉Z->Rd H a (.lst us)->Rd H' a (.lst us))(hf:∀a o u,H a=Δ (.dz o u)->H' a=Δ (.dz o u))(hx:∀a φ,H a=Δ (.ext φ)->H' a=Δ (.ext φ)):∀{x:P} {v:V},ak K H m Z x v->ak K H' m Z x v
 |.d _,_,h=>by rw[ak] at h ⊢;exact aH.congr ht hl h|.obj _,_,h=>by rw[ak] at h ⊢;exact h|.gq ns,v,h=>by
  rw[ak] at h ⊢;obtain⟨a,e,r⟩:=h;refine⟨a,e,?_⟩;rcases r with ⟨o,r⟩|r
  ·exact .inl ⟨o,hf _ _ _ r⟩
  ·exact .inr r
 |.fn k bq,v,h=>by rw[ak] at h ⊢;obtain⟨a,c,bW,e,q,hc,r⟩:=h;exact⟨a,c,bW,e,q,hx _ _ hc,ah.congr ht hl hf hx r⟩|.lf k,v,h=>by rw[ak] at h ⊢;obtain⟨a,c,ct,e,q,r⟩:=h;exact⟨a,c,ct,e,hx _ _ q,hx _ _ r⟩
theorem ah.congr(ht:∀a us,H a=Δ (.tup us)->H' a=Δ (.tup us))(hl:∀a us,a∉m->a∉Z->Rd H a (.lst us)->Rd H' a (.lst us))(hf:∀a o u,H a=Δ (.dz o u)->H' a=Δ (.dz o u))(hx:∀a φ,H a=Δ (.ext φ)->H' a=Δ (.ext φ)):∀{xs:List P} {us:List V},ah K H m Z xs us->ah K H' m Z xs us
 |[],_,h=>h|x::xs,us,h=>by rw[ah] at h ⊢;obtain⟨v,vs,e,r,rs⟩:=h;exact⟨v,vs,e,ak.congr ht hl hf hx r,ah.congr ht hl hf hx rs⟩
end
theorem n4(ha:H a=Δ (.lst ys)):∀b φ,H b=Δ (.ext φ)->upd H a o b=Δ (.ext φ):=λb φ h=>by
 have hb:b≠a:=λz=>by rw[z,ha] at h;cases h
 rw[ax hb];exact h
theorem rY(ha:H a=Δ (.lst ys)):∀b us,H b=Δ (.tup us)->upd H a o b=Δ (.tup us):=λb us h=>by
 have hb:b≠a:=λz=>by rw[z,ha] at h;cases h
 rw[ax hb];exact h
theorem rZ(ha:H a=Δ (.lst ys)):∀b o' u,H b=Δ (.dz o' u)->upd H a o b=Δ (.dz o' u):=λb o' u h=>by
 have hb:b≠a:=λz=>by rw[z,ha] at h;cases h
 rw[ax hb];exact h
theorem BX(hb:b≠a)(h:Rd H b (.lst us)):Rd (upd H a o) b (.lst us):=by
 rcases h with h|⟨o',h⟩;·exact .inl (by rw[ax hb];exact h)
 ·exact .inr ⟨o',by rw[ax hb];exact h⟩
theorem aB.Q4{st:aN}(A:aB K H m (a::Z) st)(ha:H a=Δ (.lst ys)):aB K (upd H a (.lst zs)) m (a::Z) st:=by
 refine⟨A.len,A.nd,λn o h=>?_,λb hb=>?_,A.zm,λt ht=>?_⟩
 ·obtain⟨c,q,r⟩:=A.at_ n o h;have hc:c≠a:=λz=>A.zm a W8 (by rw[<-z];exact Xw q);exact⟨c,q,r.mono (λb u hb hu=>by
   rw[ax (λz=>by
    rcases hb with w1|w1;·exact hc (w1▸z)
    ·rw[z,ha] at w1;cases w1)]
   exact hu) λp v z=>z.congr (rY ha) (λb us _ hz h=>BX (λz=>hz (by rw[z];exact W8)) h) (rZ ha) (n4 ha)⟩
 ·exact lG (o:=.lst zs) (λ_ z=>nomatch z) (A.zt b hb)
 ·obtain⟨ps,h1,h2⟩:=A.tab t ht;exact⟨ps,by rw[ax (λz=>by rw[z,ha] at h1;cases h1)];exact h1,fz.same (n4 ha) h2⟩
theorem Le.Q5{H1:Hp}{m1:List Addr}{a:Addr}{ys zs:List V}(le:Le K m1 H1 m H)(h1:H1 a=Θ)(ha:H a=Δ (.lst ys)):Le K m1 H1 m (upd H a (.lst zs)) where
 pre:=le.pre
 tup:=λb xs h=>rY ha b xs (le.tup b xs h)
 keep:=λb u h hb hu=>by rw[ax (aO h h1)];exact le.keep b u h hb hu
 ext:=λb φ h=>n4 ha b φ (le.ext b φ h)
 CG:=λb h=>lG (o:=.lst zs) (λ_ z=>nomatch z) (le.CG b h)
 fk:=λb ps h=>by obtain⟨more,e⟩:=le.fk b ps h;exact⟨more,by rw[ax (λz=>by rw[z,ha] at e;cases e)];exact e⟩
 new:=le.new
 qR:=λb h=>by
  by_cases MO:b=a;·rw[MO,aD];exact λz=>nomatch z
  ·rw[ax MO];exact le.qR b h
 dz:=λb o u h=>rZ ha b o u (le.dz b o u h)
end
section
variable{X:Cx}{g:G}{C:Nat->List P->aN->R P}{Z:List Addr}{e:Expr}{es:List Expr}
theorem Fx.imp(h:Fx X ifs t)(i:∀σ H Q,t' σ H Q->t σ H Q):Fx X ifs t':=λη s σ H Q I q=>h η s σ H Q I (i σ H Q q)
def OL(K:KB)(d:b9->aN->R Bool):TT:=λσ H Q=>∃Z,tT K Z d σ H Q
def S5(K:KB)(d:b9->aN->R P):TE:=λσ H Q=>∃Z,tE K Z d σ H Q
theorem Ee:Fx X [] (OL (af X kt) (bC C Θ)):=by refine Fx.imp ID ?_;rintro σ H Q ⟨Z,m,ρ,st,ar,as,h⟩;rw[mJ] at h;exact Ok.here h as
theorem Ef(h:∀Z,PT X c (tT (af X kt) Z (cg (aa C ec)))):Fx X [c] (OL (af X kt) (bC C (Δ ec))):=by refine IE λη s σ H Q I q=>?_;obtain⟨Z,q⟩:=q;refine h Z η s σ H Q I ?_;obtain⟨m,ρ,st,ar,as,h⟩:=q;rw[tB] at h;exact⟨m,ρ,st,ar,as,h⟩
theorem Jz(h:∀Z,PE X x (tE (af X kt) Z d)):PE X x (S5 (af X kt) d):=λη s σ H Q I ⟨Z,q⟩=>h Z η s σ H Q I q
theorem ui{K:KB}(ar:cA K H m Z r σ)(eX:H acc=Θ)(le:Le K m H m2 H2):cA K H2 m2 (acc::Z) (bO js r) (js.map λj=>(σ[j]?).join):=by
 refine⟨by unfold bO;simp,λi q h=>?_⟩;unfold bO at h;rw[Xg] at h;cases ej:js[i]? with
 |none=>rw[ej] at h;cases h|some j=>
  rw[ej] at h;have h2:(r[j]?).join=Δ q:=by simpa using h
  have h3:r[j]?=Δ (Δ q):=by cases e:r[j]? with|none=>rw[e] at h2;cases h2|some o=>rw[e] at h2;simp at h2;rw[h2]
  obtain⟨w',e1,r1⟩:=ar.at_ j q h3;refine⟨w',?_,(r1.kR eX).le le⟩;rw[Xg,ej];simp[e1]
theorem cA.cons{K:KB}(ar:cA K H m Z r σ)(rp:ak K H m Z p v):cA K H m Z (Δ p::r) (Δ v::σ):=by refine⟨by simp[ar.len],λi q h=>?_⟩;cases i with|zero=>simp at h;subst h;exact⟨v,by simp,rp⟩|succ i=>exact ar.at_ i q (by simpa using h)
theorem Eg{K:KB}(ar:cA K H m Z r σ)(eX:H acc=Θ)(le:Le K m H m2 H2)(rp:ak K H2 m2 (acc::Z) p v):
  cA K H2 m2 (acc::Z) (Δ p::bO js r) (Δ v::js.map λj=>(σ[j]?).join):=(ui ar eX le).cons rp
theorem Eh{gB:P->b9}(Ni:∀(p:P) (v:V) (m:List Addr) (H:Hp) (Z:List Addr) (us fr:L2.St) (rb:b9) (Q':L2.St->Hp->Prop),okp p=Λ->ak (af X kt) H m Z p v->cA (af X kt) H m Z rb fr->us.length=ts->
   (∀JA:L2.St,JA.length=ts->cA (af X kt) H m Z (gB p++rb) (JA++fr)->Q' (JA++fr) H)->gt v (us++fr) H Q')(h:tL (af X kt) Z (λr st=>(cx C w r st).bind λps st1=>if ps.all okp=Λ/\ps.length<=aw then cN (λp=>gB p++bO js r) (bC C c) (λr' aM=>aa C ee r' aM) ps st1 else .no) σ H Q):
  zd (tW (af X kt) Z (cx C w)) gt (OL (af X kt) (bC C c)) (S5 (af X kt) (aa C ee)) ts js σ H Q:=by
 obtain⟨m0,r,bJ,ar,VF,h⟩:=h;refine⟨m0,r,bJ,ar,VF,?_⟩;cases hw:cx C w r bJ with
 |ex x s=>rw[hw] at h;exact(show False from h).elim|no=>rw[hw] at h;exact(show False from h).elim|ok ps st1=>
  rw[hw] at h;simp only[ae] at h;split at h
  ·rename_i hlen;obtain⟨Br,hlen⟩:=hlen;intro m1 H1 bN aY J wk acc eX
   let G':P->b9:=λp=>gB p++bO js r
   let K':=af X kt
   let fr:L2.St:=js.map λj=>(σ[j]?).join
   let CK:Nat->List P->aN->Prop:=λi qs st=>match cN G' (bC C c) (λr' aM=>aa C ee r' aM) (ps.drop i) st with|.ok rest aM=>LQ (af X kt) Z (.ok (qs++rest) aM) m0 H Q|_=>False
   have S6:CK 0 [] st1:=by show(match cN G' (bC C c) (λr' aM=>aa C ee r' aM) (ps.drop 0) st1 with|.ok rest aM=>LQ (af X kt) Z (.ok ([]++rest) aM) m0 H Q|_=>False);rw[aam];cases hc:cN G' (bC C c) (λr' aM=>aa C ee r' aM) ps st1 with|ok rest aM=>have h':LQ (af X kt) Z (cN G' (bC C c) (λr' aM=>aa C ee r' aM) ps st1) m0 H Q:=h;rw[hc] at h';exact h'|ex x s=>have h':LQ (af X kt) Z (cN G' (bC C c) (λr' aM=>aa C ee r' aM) ps st1) m0 H Q:=h;rw[hc] at h';exact h'|no=>have h':LQ (af X kt) Z (cN G' (bC C c) (λr' aM=>aa C ee r' aM) ps st1) m0 H Q:=h;rw[hc] at h';exact h'
   refine⟨λi k τ H'=>k=ps.length - i/\i<=ps.length/\(∃us:L2.St,us.length=ts/\τ=us++fr)/\∃m st qs ys,Le (af X kt) m1 H1 m H'/\aB (af X kt) H' m (acc::Z) st/\H' acc=Δ (.lst ys)/\ah (af X kt) H' m (acc::Z) qs ys/\qs.length<=i/\CK i qs st,⟨ps.length,by simp,Yj _,⟨Yy ts Θ,aag,rfl⟩,?_⟩,?_⟩;·exact⟨m1,st1,[],[],Le.same (aZ eX _),aY.laid eX _,aD,rfl,Xd _,S6⟩
   ·rintro i k τ H' ⟨rfl,hi,⟨us0,lus,rfl⟩,m,st,qs,ys,le,as,Nj,rq,hql,ck⟩;obtain⟨w1,w2⟩:=wk m H' (acc::Z) le (λa ha=>(Zy.mp ha).elim (λz=>.inr (by rw[z];exact eX)) .inl) i;by_cases fm:i < ps.length
    ·have OM:i < ps.length:=fm;obtain⟨go,yl⟩:=w1 ps[i] (W6 OM);refine .inr ⟨go,λx H2 hy=>?_⟩;obtain⟨sm,rx⟩:=yl x H2 hy;have BY:Le (af X kt) m H' m H2:=Le.same sm;replace le:=le.trans BY;replace as:=as.same sm;replace Nj:=sm _ _ Nj;replace rq:=rq.le BY;have dW:ps.drop i=ps[i]::ps.drop (i+1):=X9 OM;have mM:(match cN G' (bC C c) (λr' aM=>aa C ee r' aM) (ps[i]::ps.drop (i+1)) st with|.ok rest aM=>LQ (af X kt) Z (.ok (qs++rest) aM) m0 H Q|_=>False):=by rw[<-dW];exact ck
     rw[fJ] at mM;refine Ni ps[i] x m H2 (acc::Z) us0 fr (bO js r) _ (YE.mp Br _ (X6 OM)) rx (ui (js:=js) (ar.le bN) eX le) lus λJA Q6 Q7=>?_;refine⟨acc::Z,m,G' ps[i],st,Q7,as,?_⟩;cases hc:bC C c (G' ps[i]) st with
     |ex x s=>rw[hc] at mM;exact mM.elim|no=>rw[hc] at mM;exact mM.elim|ok b st2=>
      rw[hc] at mM;simp only[ae] at mM;intro m2 H2 eK dU;have zS:H2 acc=Δ (.lst ys):=eK.keep acc _ Nj (as.zm acc W8) (λ_ z=>nomatch z);cases b with
      |false=>refine⟨ps.length - (i+1),ZR _ _ fm,rfl,fm,⟨JA,Q6,rfl⟩,m2,st2,qs,ys,le.trans eK,dU,zS,rq.le eK,by lia,?_⟩;exact mM|true=>
       refine⟨acc::Z,m2,G' ps[i],st2,Q7.le eK,dU,?_⟩;have mN:(match (aa C ee (G' ps[i]) st2).bind λy st3=>(cN G' (bC C c) (λr' aM=>aa C ee r' aM) (ps.drop (i+1)) st3).bind λys l6=>R.ok (y::ys) l6 with|.ok rest aM=>LQ (af X kt) Z (.ok (qs++rest) aM) m0 H Q|_=>False):=mM;cases he:aa C ee (G' ps[i]) st2 with
       |ex x s=>rw[he] at mN;exact mN.elim|no=>rw[he] at mN;exact mN.elim|ok y st3=>
        rw[he] at mN;simp only[ae] at mN;intro m3 H3 pO qG v rv;have jw:H3 acc=Δ (.lst ys):=pO.keep acc _ zS (dU.zm acc W8) (λ_ z=>nomatch z);have hyl:ys.length=qs.length:=rq.length;have VG:ah (af X kt) (upd H3 acc (.lst (ys++[v]))) m3 (acc::Z) (qs++[y]) (ys++[v]):=by have q1:ah (af X kt) H3 m3 (acc::Z) (qs++[y]) (ys++[v]):=((rq.le eK).le pO).append ⟨v,[],rfl,rv,rfl⟩;exact q1.congr (rY jw) (λb us _ hz h=>BX (λz=>hz (by rw[z];exact W8)) h) (rZ jw) (n4 jw)
        refine⟨ys,jw,by rw[<-dt];lia,ps.length - (i+1),ZR _ _ fm,rfl,fm,⟨JA,Q6,rfl⟩,m3,st3,qs++[y],ys++[v],?_,qG.Q4 jw,aD,VG,by rw[Xs];simp;lia,?_⟩;·exact Le.Q5 ((le.trans eK).trans pO) eX jw
        ·show(match cN G' (bC C c) (λr' aM=>aa C ee r' aM) (ps.drop (i+1)) st3 with|.ok rest aM=>LQ (af X kt) Z (.ok ((qs++[y])++rest) aM) m0 H Q|_=>False);cases hr:cN G' (bC C c) (λr' aM=>aa C ee r' aM) (ps.drop (i+1)) st3 with|ex x s=>rw[hr] at mN;exact mN|no=>rw[hr] at mN;exact mN|ok rest l6=>rw[hr] at mN;show LQ (af X kt) Z (R.ok ((qs++[y])++rest) l6) m0 H Q;rw[X7];exact mN
    ·have e:i=ps.length:=by lia
     subst e;refine .inl ⟨w2 rfl,?_⟩;have mM:(match cN G' (bC C c) (λr' aM=>aa C ee r' aM) (ps.drop ps.length) st with|.ok rest aM=>LQ (af X kt) Z (.ok (qs++rest) aM) m0 H Q|_=>False):=ck;rw[ab0,wz] at mM;have mN:LQ (af X kt) Z (R.ok (qs++[]) st) m0 H Q:=mM;rw[Ya] at mN;exact mN m H' acc ys (bN.trans le) (bN.CT eX) (as.zm acc W8) Nj as rq
  ·exact(show False from h).elim
theorem zT(h:tL (af X kt) Z (aX C (.comp w 1 js c ee)) σ H Q):
  zd (tW (af X kt) Z (cx C w)) (su 0) (OL (af X kt) (bC C c)) (S5 (af X kt) (aa C ee)) 1 js σ H Q:=by
 refine Eh (okp:=λ_=>Λ) (gB:=λp=>[Δ p]) (λp v m H Z us fr rb Q' _ rp ar lu q=>?_) ?_
 ·match us,lu with|[u],_=>exact q [Δ v] rfl (ar.cons rp)
 ·have e:aX C (.comp w 1 js c ee)=λr st=>(cx C w r st).bind λps st1=>if(ps.all λ_=>Λ)=Λ/\ps.length<=aw then cN (λp=>[Δ p]++bO js r) (bC C c) (λr' aM=>aa C ee r' aM) ps st1 else .no:=by funext r st;rw[hU];simp
  rw[<-e];exact h
theorem pP{K:KB}{st:aN}(as:aB K H m Z st)(ha:m[n]?=Δ a)(h:wa n st i=Δ o):∃us,H a=Δ (.lst us)/\(o=Θ->us.length<=i)/\∀p,o=Δ p->∃v,us[i]?=Δ v/\ak K H m Z p v:=by
 unfold wa at h;split at h;·rename_i xs hs;cases h;obtain⟨a',e,us,hu,rs⟩:=as.at_ n _ hs;rw[ha] at e;cases e;refine⟨us,hu,λz=>?_,λp z=>rs.get z⟩;rw[rs.length];exact List.getElem?_eq_none_iff.mp z
 ·cases h
theorem wI{e:E}(h:tL (af X kt) Z (aX C (.cw e js c ee)) σ H Q):
  zd (Kz X.K (tE (af X kt) Z (aa C e))) (su 0) (OL (af X kt) (bC C c)) (S5 (af X kt) (aa C ee)) 1 js σ H Q:=by
 obtain⟨m0,r,bJ,ar,VF,h⟩:=h;rw[qA] at h;refine⟨m0,r,bJ,ar,VF,?_⟩;cases hw:aa C e r bJ with
 |ex x s=>rw[hw] at h;exact(show False from h).elim|no=>rw[hw] at h;exact(show False from h).elim|ok x0 st1=>
  rw[hw] at h;simp only[ae] at h;split at h
  ·rename_i n;intro m1 H1 bN aY v rv;obtain⟨a,ha,rfl⟩:=rv
   let G':P->b9:=λp=>Δ p::bO js r
   let fr:L2.St:=js.map λj=>(σ[j]?).join
   let CK:Nat->Nat->List P->aN->Prop:=λk i qs st=>match cw n G' (bC C c) (λr' aM=>aa C ee r' aM) k i st with|.ok rest aM=>LQ (af X kt) Z (.ok (qs++rest) aM) m0 H Q|_=>False
   have S6:CK aw 0 [] st1:=by show(match cw n G' (bC C c) (λr' aM=>aa C ee r' aM) aw 0 st1 with|.ok rest aM=>LQ (af X kt) Z (.ok ([]++rest) aM) m0 H Q|_=>False);have h':LQ (af X kt) Z (cw n G' (bC C c) (λr' aM=>aa C ee r' aM) aw 0 st1) m0 H Q:=h;cases hc:cw n G' (bC C c) (λr' aM=>aa C ee r' aM) aw 0 st1 with|ok rest aM=>rw[hc] at h';exact h'|ex x s=>rw[hc] at h';exact h'|no=>rw[hc] at h';exact h'
   have Q8:∃us,H1 a=Δ (.lst us):=by have ck:=S6;have mM:(match cw n G' (bC C c) (λr' aM=>aa C ee r' aM) (16777215+1) 0 st1 with|.ok rest aM=>LQ (af X kt) Z (.ok ([]++rest) aM) m0 H Q|_=>False):=ck;rw[mK] at mM;cases ho:wa n st1 0 with|none=>rw[ho] at mM;exact mM.elim|some o=>obtain⟨us,hu,_⟩:=pP aY ha ho;exact⟨us,hu⟩
   obtain⟨Q9,Ra⟩:=Q8;refine⟨a,rfl,⟨Q9,.inl (.inl Ra)⟩,λacc eX=>?_⟩;refine⟨λi k τ H'=>k+i=aw/\(∃u,τ=u::fr)/\∃m st qs ys,Le (af X kt) m1 H1 m H'/\aB (af X kt) H' m (acc::Z) st/\H' acc=Δ (.lst ys)/\ah (af X kt) H' m (acc::Z) qs ys/\qs.length<=i/\CK k i qs st,⟨aw,rfl,⟨Θ,rfl⟩,?_⟩,?_⟩;·exact⟨m1,st1,[],[],Le.same (aZ eX _),aY.laid eX _,aD,rfl,Xd _,S6⟩
   ·rintro i k τ H' ⟨hk,⟨u,rfl⟩,m,st,qs,ys,le,as,Nj,rq,hql,ck⟩;have Rb:m[n]?=Δ a:=by obtain⟨t,et⟩:=le.pre;rw[et,Xb (qqz ha).1];exact ha
    cases k with
    |zero=>exact(show False from ck).elim|succ k=>
     have mM:(match cw n G' (bC C c) (λr' aM=>aa C ee r' aM) (k+1) i st with|.ok rest aM=>LQ (af X kt) Z (.ok (qs++rest) aM) m0 H Q|_=>False):=ck;rw[mK] at mM;cases ho:wa n st i with
     |none=>rw[ho] at mM;exact mM.elim|some o=>
      rw[ho] at mM;obtain⟨us,hu,q0,q1⟩:=pP as Rb ho;cases o with
      |none=>have mN:LQ (af X kt) Z (R.ok (qs++[]) st) m0 H Q:=mM;rw[Ya] at mN;exact .inl ⟨⟨us,.inl (.inl hu),q0 rfl⟩,mN m H' acc ys (bN.trans le) (bN.CT eX) (as.zm acc W8) Nj as rq⟩|some p=>
       obtain⟨vx,Lc,rx⟩:=q1 p rfl;refine .inr ⟨⟨us,vx,.inl (.inl hu),Lc⟩,λx H2 hy=>?_⟩;obtain⟨rfl,hx⟩:=hy;have yF:=hx us (.inl (.inl hu));rw[Lc] at yF;cases yF;simp only at mM;have Q7:=Eg (js:=js) (ar.le bN) eX le rx;refine⟨acc::Z,m,G' p,st,Q7,as,?_⟩;cases hc:bC C c (G' p) st with
       |ex x s=>rw[hc] at mM;exact mM.elim|no=>rw[hc] at mM;exact mM.elim|ok b st2=>
        rw[hc] at mM;simp only[ae] at mM;intro m2 H2 eK dU;have zS:H2 acc=Δ (.lst ys):=eK.keep acc _ Nj (as.zm acc W8) (λ_ z=>nomatch z);cases b with
        |false=>exact⟨k,YT k,by lia,⟨Δ vx,rfl⟩,m2,st2,qs,ys,le.trans eK,dU,zS,rq.le eK,by lia,mM⟩|true=>
         refine⟨acc::Z,m2,G' p,st2,Q7.le eK,dU,?_⟩;have mN:(match (aa C ee (G' p) st2).bind λy st3=>(cw n G' (bC C c) (λr' aM=>aa C ee r' aM) k (i+1) st3).bind λys l6=>R.ok (y::ys) l6 with|.ok rest aM=>LQ (af X kt) Z (.ok (qs++rest) aM) m0 H Q|_=>False):=mM;cases he:aa C ee (G' p) st2 with
         |ex x s=>rw[he] at mN;exact mN.elim|no=>rw[he] at mN;exact mN.elim|ok y st3=>
          rw[he] at mN;simp only[ae] at mN;intro m3 H3 pO qG v rv;have jw:H3 acc=Δ (.lst ys):=pO.keep acc _ zS (dU.zm acc W8) (λ_ z=>nomatch z);have hyl:ys.length=qs.length:=rq.length;have VG:ah (af X kt) (upd H3 acc (.lst (ys++[v]))) m3 (acc::Z) (qs++[y]) (ys++[v]):=by have q1:ah (af X kt) H3 m3 (acc::Z) (qs++[y]) (ys++[v]):=((rq.le eK).le pO).append ⟨v,[],rfl,rv,rfl⟩;exact q1.congr (rY jw) (λb us _ hz h=>BX (λz=>hz (by rw[z];exact W8)) h) (rZ jw) (n4 jw)
          refine⟨ys,jw,by rw[<-dt];lia,k,YT k,by lia,⟨Δ vx,rfl⟩,m3,st3,qs++[y],ys++[v],?_,qG.Q4 jw,aD,VG,by rw[Xs];simp;lia,?_⟩;·exact Le.Q5 ((le.trans eK).trans pO) eX jw
          ·show(match cw n G' (bC C c) (λr' aM=>aa C ee r' aM) k (i+1) st3 with|.ok rest aM=>LQ (af X kt) Z (.ok ((qs++[y])++rest) aM) m0 H Q|_=>False);cases hr:cw n G' (bC C c) (λr' aM=>aa C ee r' aM) k (i+1) st3 with|ex x s=>rw[hr] at mN;exact mN|no=>rw[hr] at mN;exact mN|ok rest l6=>rw[hr] at mN;show LQ (af X kt) Z (R.ok ((qs++[y])++rest) l6) m0 H Q;rw[X7];exact mN
  ·exact(show False from h).elim
theorem gJ{env:PySem.Env}:∀{names:List (Str×ZS)} {x},names.lookup x=Δ .globalImplicit->
  (names.map λ(n,k)=>if(k==Xt&&env.scope.kind==.function&&env.kindOf n==Δ .cell) then(n,YL) else(n,k)).lookup x=Δ .globalImplicit
 |[],_,h=>by simp at h|(n,k)::r,x,h=>by
  have ih:=@gJ env r x;show Y7 x ((if(k==Xt&&env.scope.kind==.function&&env.kindOf n==Δ .cell)=Λ then(n,YL) else(n,k))::_)=_;cases hx:x==n with
  |true=>simp only[XB,hx] at h;cases h;rw[if_neg (by simp)];simp[XB,hx]|false=>
   simp only[XB,hx] at h;by_cases hc:(k==Xt&&env.scope.kind==.function&&env.kindOf n==Δ .cell)=Λ;·rw[if_pos hc];simp only[XB,hx];exact ih h
   ·rw[if_neg hc];simp only[XB,hx];exact ih h
theorem Good.xW(T:Good X kt g C){N:List Str}(h:Jc g ts N js sc=Λ):jM X N ts js sc:=by unfold Jc at h;simp only[W3,qqq,YE,ZO] at h;obtain⟨⟨⟨h1,h2⟩,h3⟩,h4⟩:=h;refine⟨h1,h2,λx hx=>(h3 x hx).1.1,λx hx hl=>(h3 x hx).1.2.resolve_left λz=>z hl,λx hx hf=>T.HI _ ((h3 x hx).2.resolve_left λz=>z hf),λi y j e1 e2=>?_⟩;have hi:i∈W7 js.length:=Ym.mpr (qqz e2).1;have q:=h4 i hi;rw[e1,e2] at q;rw[T.N];simpa using q
theorem uc.inner(h:uc X kt c x n):uc (mz X η N sc fp Cc s H) kt c x n:=⟨h.ex⟩
theorem CL.inner(h:CL X kt C k a c bW):CL (mz X η N sc fp Cc s H) kt C k a c bW:=⟨h.ob,h.ex⟩
theorem Good.inner(T:Good X kt g C){η:List (Addr×Obj)}{N:List Str}{js:List Nat}{sc:Scope}{fp:List Addr}{Cc:Addr}{s:Xp}{H:Hp}(hnc:∀x∈sc.names,x.2≠.cell):Good (mz X η N sc fp Cc s H) kt (g.inner N sc) C where
 N:=rfl
 loc:=λx h=>lookup_relabel_local h
 HI:=λx h=>by
  rcases h with h|h;·exact absurd rfl (hnc _ (XZ h))
  ·exact jL h
 gl:=λx h=>gJ h
 calm:=T.calm
 hu:=T.hu
 bl:=T.bl
 fn:=λk x n h=>(T.fn k x n h).inner
 cs:=T.cs
 tb:=T.tb
 fld:=T.fld
 OI:=T.OI
 OJ:=T.OJ
 qB:=λhv k a c bW h=>(T.qB hv k a c bW h).inner
 lam:=λk pa bo sc' ps h=>absurd (show Ξ=Λ from h) (by decide)
 iP:=λf x n ls h=>absurd (show Ξ=Λ from h) (by decide)
 ja:=λf x ls h=>absurd (show Ξ=Λ from h) (by decide)
end
section
variable{X:Cx}{kt:KT}{g:G}{C:Nat->List P->aN->R P}{Z:List Addr}
theorem zU(hs:∀z∈xs,notStar z=Λ):(Zk pos (XG xs env)).all (λx=>!x.1)=Λ:=by have h:=fS (env:=env) (pos:=pos) hs;rw[abI] at h;rw[YE];intro x hx;have:=h x hx;revert this;cases x.1<;>simp
theorem wJ(hs:∀z∈xs,notStar z=Λ)(hn:xs.length < 30)(lZ:(apos.endLine==pos.line)=Λ):
  eval (.Call (.Attribute (.Name x p) mm apos) xs [] pos) env=(do
   let ov<-eval (.Name x p) env
   ab5 apos.atName
   let (f,first)<-acp [ov] (abU ov mm (do return (<-importBound (.Name x p) env).getD Λ))
   acE pos f first (Zk pos (XG xs env)) (abc pos (Z6 [] env))):=by
 rw[arm_eval_Call];have Rc:methodCallForm (xs.length+([]:List abJ).length) (Zk pos (XG xs env)) (abc pos (Z6 [] env))=Λ:=by unfold methodCallForm;rw[zU hs];have:xs.length+0+0 < 30:=hn;simp[hn];exact⟨λa b h=>(by cases h),hn⟩
 have JB:methodCallPos Λ (.Name x p) env apos pos=pure pos:=by unfold methodCallPos;simp[lZ]
 unfold methodCall;rw[Rc,JB];rfl
theorem Nk(T:Good X kt g C)(hm:g.A1 k c mm cn.length=Λ)(h1:g.N[i]?=Δ x)(h2:g.xP x=Λ)(h3:aU x=Λ)(hn:xs.length < 30)(lZ:(apos.endLine==pos.line)=Λ)(hs:∀z∈xs,notStar z=Λ)(hl:xs.length=cn.length)(h:PA X xs (tA (af X kt) Z (aF C cn))):
  PE X (.Call (.Attribute (.Name x p) mm apos) xs [] pos) (tE (af X kt) Z (aa C (.pf k c mm i cn))):=by
 obtain⟨A,l,fa,fd,ps,k1,kc,km,F,hr,hb⟩:=T.OI k c mm cn.length hm;have red:∀σ H Q,tE (af X kt) Z (aa C (.pf k c mm i cn)) σ H Q->Cq A mm (BR (af X kt) (C k) (cn.length+1)) [] E0 (tE (af X kt) Z (aa C (.var i))) (tA (af X kt) Z (aF C cn)) σ H Q:=by
  rintro σ H Q ⟨m,ρ,st,ar,as,h⟩;rw[BL] at h;refine⟨m,ρ,st,ar,as,?_⟩;rw[lE];refine(Ok.bind h).mono λq st1 m1 H1 bN aY h1 v rv=>?_;obtain⟨u,e,h2,_⟩:=Ok.of (Ok.bind h1) aY;obtain⟨⟨n,fs⟩,e1,e2⟩:=cy e;obtain⟨a,A',dx,us,rfl,hm',rfl,hs,g1,g2,g3,g4⟩:=BU aY rv e1;rw[show Xr X.K Xk c=Δ (Δ (.ref A')) from g1] at k1;cases k1;have e3:fs.lookup mm=Θ:=by
   by_cases hh:(fs.lookup mm).isNone=Λ;·exact Yp.mp hh
   ·rw[if_neg hh] at e2;cases e2
  refine⟨a,dx,us,rfl,g2,(aQ.look (f:=mm) g4).2 e3,m1,ρ,st1,ar.le bN,aY,(Ok.bind h2).wB λqs st2 m2 H2 hq eK dU h3 vs iC=>?_⟩;show BR (af X kt) (C k) (cn.length+1) (.ref a::(vs++[])) H2 Q E0;rw[Ya];exact⟨m2,Z,.obj n::qs,st2,by rw[Xq,iC.length,fK hq],⟨.ref a,vs,rfl,rv.le eK,iC⟩,dU,h3⟩
 cases xs with
 |nil=>
  have e:cn=[]:=by cases cn with|nil=>rfl|cons a b=>simp at hl
  subst e;refine PE.imp (Fg (zL (Z:=Z) (kt:=kt) T h1 h2 h3) kc km F hr hb .nil zc (wJ hs hn lZ)) λσ H Q h=>?_;have r:=red σ H Q h;unfold Cq at r ⊢;obtain⟨m,ρ,st,ar,as,h1⟩:=r;refine⟨m,ρ,st,ar,as,h1.mono λq st1 m1 H1 bN aY hh v rv=>?_⟩;obtain⟨a,dx,us,e1,e2,e3,m2,ρ2,st2,HK,dU,h4⟩:=hh v rv;rw[aE] at h4;exact⟨a,dx,us,e1,e2,e3,Ok.here h4 dU [] rfl⟩
 |cons y ys=>exact PE.imp (Ij (zL (Z:=Z) (kt:=kt) T h1 h2 h3) kc km F hr hb .nil zc h (bF (hs y W8)) (fS λz hz=>hs z (W5 _ hz)) (wJ hs hn lZ)) red
theorem Nl(T:Good X kt g C)(hm:g.A2 k c cn.length=Λ)(hg:g.gl c=Λ)(h3:aU c=Λ)(hs:∀z∈y::ys,notStar z=Λ)(h:PA X (y::ys) (tA (af X kt) Z (aF C cn))):
  PE X (.Call (.Name c p) (y::ys) [] pos) (tE (af X kt) Z (aa C (.make k c cn))):=by
 obtain⟨A,l,fa,fd,ps,k1,k2,M,F,hr,hb⟩:=T.OJ k c cn.length hm;refine PE.imp (Ik M F hr (T.glob hg) k1 hb .nil zc h (pn h3).1 (bF (hs y W8)) (fS λz hz=>hs z (W5 _ hz))) ?_;rintro σ H Q ⟨m,ρ,st,ar,as,h⟩;rw[tq] at h;refine⟨m,ρ,st,ar,as,(Ok.bind h).wB λqs st1 m1 H1 hq bN aY h1 vs iC=>?_⟩;intro x dx hx hdx fH;rw[Ya];have sm:jj H1 (upd H1 dx (.own x)):=aZ hdx _;have dU:=aY.same sm;have S7:upd H1 dx (.own x) x=Θ:=by rw[ax (Yc fH)];exact hx
 have eK:Le (af X kt) m1 H1 (m1++[x]) (upd (upd H1 dx (.own x)) x (.ins A dx [])):=(Le.same sm).trans ((Le.same (aZ S7 _)).grow S7);have qG:aB (af X kt) (upd (upd H1 dx (.own x)) x (.ins A dx [])) (m1++[x]) Z (st1++[.ins c []]):=(dU.laid S7 (.ins A dx [])).tU (dU.fresh S7).2 ⟨A,dx,[],k2,aD,by rw[ax fH];exact aD,rfl⟩;have hi:(m1++[x])[st1.length]?=Δ x:=by rw[Xu (by rw[aY.len];exact Xd _),aY.len];simp
 refine⟨m1++[x],Z,.obj st1.length::qs,st1++[.ins c []],by rw[Xq,iC.length,fK hq],⟨.ref x,vs,rfl,⟨x,hi,rfl⟩,iC.le eK⟩,qG,?_⟩;refine(Ok.bind (Ok.le h1 eK)).mono λq l6 m4 H4 yI CS h4 v rv=>?_;cases q with
 |d d=>cases d with|bu=>refine⟨rv,Ok.here h4 CS (.ref x) ⟨x,?_,rfl⟩⟩;obtain⟨t,rfl⟩:=yI.pre;rw[Xb (by simp[aY.len])];exact hi|_=>exact(show False from h4).elim
 |_=>exact(show False from h4).elim
theorem ah.dropLast{K:KB}:∀{ps} {us},ah K H m Z ps us->ah K H m Z ps.dropLast us.dropLast
 |[],us,h=>by cases (show us=[] from h);exact h|[p],us,h=>by obtain⟨v,vs,rfl,r,rs⟩:=(show ∃v vs,us=v::vs/\ak K H m Z p v/\ah K H m Z [] vs from h);cases (show vs=[] from rs);exact rfl|p::q::ps,us,h=>by obtain⟨v,vs,rfl,r,rs⟩:=(show ∃v vs,us=v::vs/\ak K H m Z p v/\ah K H m Z (q::ps) vs from h);obtain⟨v2,vs2,rfl,r2,rs2⟩:=(show ∃v pN,vs=v::pN/\ak K H m Z q v/\ah K H m Z ps pN from rs);have:=ah.dropLast rs;rw[List.dropLast_cons₂,List.dropLast_cons₂];exact⟨v,_,rfl,r,this⟩
theorem ah.at_{K:KB}:∀{ps} {us} {i:Nat},ah K H m Z ps us->ps[i]?=Δ p->∃v,us[i]?=Δ v/\ak K H m Z p v
 |[],us,i,h,e=>by simp at e|q::ps,us,i,h,e=>by obtain⟨v,vs,rfl,r,rs⟩:=(show ∃v vs,us=v::vs/\ak K H m Z q v/\ah K H m Z ps vs from h);cases i with|zero=>rw[Xm] at e;cases e;exact⟨v,rfl,r⟩|succ i=>rw[Xn] at e ⊢;exact ah.at_ rs e
theorem aQ.drop{κ:Type}[DecidableEq κ]{K:KB}{k:κ}:∀{kvs} {us},aQ K H m Z kvs us->aQ K H m Z (v9 kvs k) (nA us k)
 |[],us,h=>by cases (show us=[] from h);exact rfl|(q,p)::kvs,us,h=>by
  obtain⟨v,vs,rfl,r,rs⟩:=(show ∃v vs,us=(q,v)::vs/\ak K H m Z p v/\aQ K H m Z kvs vs from h);have ih:=aQ.drop (k:=k) rs;unfold v9 nA at ih ⊢;by_cases hq:q=k;·rw[XU (by simp[hq]),XU (by simp[hq])];exact ih
  ·rw[XH (by simp[hq]),XH (by simp[hq])];exact⟨v,_,rfl,r,ih⟩
theorem Nm(hl:(ap.endLine==cp.line)=Λ)(hc:isCall o=Ξ)(ho:PE X o (tE (af X kt) Z (aa C a))):
  PE X (.Call (.Attribute o "pop" ap) [] [] cp) (tE (af X kt) Z (aa C (.DZ a))):=by
 refine PE.imp (Mc PySem.F.plainAttrs_list PySem.F.slot_list_pop PySem.F.type_list_pop Me ho (uh hc) hl) ?_;rintro σ H Q ⟨m,r,st,ar,as,h⟩;rw[tp] at h;refine⟨m,r,st,ar,as,(Ok.bind h).mono λx st1 m1 H1 bN aY h1 v rv=>?_⟩;obtain⟨⟨p,st2⟩,e1,h2,dW⟩:=Ok.of (Ok.bind h1) aY;clear dW;unfold Gm at e1;split at e1
 ·rename_i n;split at e1;·rename_i xs Rf;obtain⟨w',hw,e⟩:=fZ e1;cases e;obtain⟨b,hb,eb⟩:=(show ∃b,m1[n]?=Δ b/\v=.ref b from rv);cases eb;obtain⟨b',iM,zs,hz,rz⟩:=aY.at_ n _ Rf;rw[hb] at iM;cases iM;obtain⟨u,hu,ru⟩:=rz.at_ hw;obtain⟨pO,qG⟩:=aY.write (ho:=.lst zs.dropLast) (o':=.lst xs.dropLast) Rf hb λH' e _ f=>⟨_,e,(rz.mono f).dropLast⟩;refine⟨.inl ⟨rfl,zs,.inl (.inl hz)⟩,b,zs,u,rfl,rfl,hz,by rw[rz.length];exact hu,?_⟩;exact h2 m1 _ pO qG u (ru.le pO)
  ·cases e1
 ·cases e1
theorem Nn(hl:(ap.endLine==cp.line)=Λ)(hc:isCall o=Ξ)(ho:PE X o (tE (af X kt) Z (aa C a)))(hx:PE X x (tE (af X kt) Z (aa C b)))(hs:notStar x=Λ):
  PE X (.Call (.Attribute o "pop" ap) [x] [] cp) (tE (af X kt) Z (aa C (.DY a b))):=by
 have s1:XG [x] X.env=[(Ξ,eval x X.env)]:=bF hs;refine PE.imp (Fv ho hx ⟨uh hc,by rw[s1];rfl,hl,by rw[s1];rfl⟩) ?_;rintro σ H Q ⟨m,ρ,st,ar,as,h0⟩;rw[sZ] at h0;refine⟨m,ρ,st,ar,as,(Ok.bind h0).mono λy st1 m1 H1 bN aY h1 v rv=>?_⟩;obtain⟨o',e,h2,_⟩:=Ok.of (Ok.bind h1) aY;obtain⟨n,c,rfl,qg,hm,rfl,ao,hd⟩:=ue aY e rv;refine⟨c,rfl,GI ao hd,m1,ρ,st1,ar.le bN,aY,(Ok.bind h2).mono λk st2 m2 H2 eK dU h3 u ru=>?_⟩;obtain⟨⟨p,st3⟩,e2,h4,dW⟩:=Ok.of (Ok.bind h3) dU;clear dW;unfold Gk at e2;dsimp only at e2;split at e2;·rename_i kvs qv;obtain⟨kk,DQ,e3⟩:=cy e2;obtain⟨w',hw,e4⟩:=fZ e3;cases e4;obtain⟨b,hb,eb⟩:=(show ∃b,m2[n]?=Δ b/\V.ref c=.ref b from rv.le eK);cases eb;obtain⟨b',iM,us,hu,rs⟩:=dU.at_ n _ qv;rw[hb] at iM;cases iM;obtain⟨v2,S8,VH⟩:=(rs.val (k:=kk)).2 _ hw;obtain⟨pO,qG⟩:=dU.write (ho:=.dK (nA us kk)) (o':=.dK (v9 kvs kk)) qv hb λH' e _ f=>⟨_,e,(rs.mono f).drop⟩;refine⟨us,kk,v2,hu,ru.key DQ,S8,?_⟩;exact h4 m2 _ pO qG v2 (VH.le pO)
 ·cases e2
theorem JC(hl:(ap.endLine==cp.line)=Λ)(hc:isCall o=Ξ)(ho:PE X o (tE (af X kt) Z (aa C a)))(hx:PE X x (tE (af X kt) Z (aa C b)))(hs:notStar x=Λ)(hy:PE X y (tE (af X kt) Z (aa C c)))(sv:notStar y=Λ):
  PE X (.Call (.Attribute o "setdefault" ap) [x,y] [] cp) (tE (af X kt) Z (aa C (.sW a b c))):=by
 have s1:XG [x,y] X.env=[(Ξ,eval x X.env),(Ξ,eval y X.env)]:=(bF hs).trans (by rw[bF sv];rfl);refine PE.imp (FZ ho hx hy ⟨uh hc,by rw[s1];rfl,hl,by rw[s1];rfl⟩) ?_;rintro σ H Q ⟨m,ρ,st,ar,as,h0⟩;rw[kP] at h0;refine⟨m,ρ,st,ar,as,(Ok.bind h0).mono λy st1 m1 H1 bN aY h1 v rv=>?_⟩;obtain⟨o',e,h2,_⟩:=Ok.of (Ok.bind h1) aY;obtain⟨n,c,rfl,qg,hm,rfl,ao,hd⟩:=ue aY e rv;refine⟨c,rfl,GI ao hd,m1,ρ,st1,ar.le bN,aY,(Ok.bind h2).mono λk st2 m2 H2 eK dU h3 u ru=>?_⟩;refine⟨m2,ρ,st2,(ar.le bN).le eK,dU,(Ok.bind h3).mono λz st3 m3 H3 pO qG h4 w' mx=>?_⟩;obtain⟨⟨p,l6⟩,e2,h5,dW⟩:=Ok.of (Ok.bind h4) qG;clear dW;unfold qx at e2;dsimp only at e2;split at e2
 ·rename_i kvs qv;split at e2
  ·rename_i fm;obtain⟨kk,DQ,e3⟩:=fZ e2;obtain⟨b,hb,eb⟩:=(show ∃b,m3[n]?=Δ b/\V.ref c=.ref b from(rv.le eK).le pO);cases eb;obtain⟨b',iM,us,hu,rs⟩:=qG.at_ n _ qv;rw[hb] at iM;cases iM;have rr:=rs.val (k:=kk);refine⟨us,kk,hu,(ru.le pO).key DQ,by rw[rs.length,<-dt];exact fm,λv2 S8=>?_,λhn=>?_⟩;·cases hv:e8 kvs kk with|none=>rw[hv,S8] at rr;cases rr.1|some w2=>rw[hv] at e3;cases e3;obtain⟨v3,e4,r3⟩:=rr.2 _ hv;rw[S8] at e4;cases e4;exact Ok.here h5 qG v2 r3
   ·cases hv:e8 kvs kk with|some w2=>rw[hv,hn] at rr;cases rr.1|none=>rw[hv] at e3;cases e3;obtain⟨yI,CS⟩:=qG.write (ho:=.dK (putK us kk w')) (o':=.dK (lV kvs kk z)) qv hb λH' e _ f=>⟨_,e,(rs.mono f).put (f _ _ mx)⟩;exact h5 m3 _ yI CS w' (mx.le yI)
  ·cases e2
 ·cases e2
end
section
variable(C:Nat->List P->aN->R P)
def SE(e':E):Prop:=∀(kt:KT) (X:Cx) (g:G) (e:Expr) (Z:List Addr),Good X kt g C->gv g e' e=Λ->PE X e (tE (af X kt) Z (aa C e'))/\PT X e (tT (af X kt) Z (cg (aa C e')))
def SEs(es:List E):Prop:=(∀(kt:KT) (X:Cx) (g:G) (xs:List Expr) (Z:List Addr),Good X kt g C->gR g es xs=Λ->PA X xs (tA (af X kt) Z (aF C es)))/\
 (∀(kt:KT) (X:Cx) (g:G) (xs:List Expr) (Z:List Addr) (pos:Pos),Good X kt g C->gR g es xs=Λ->PE X (.BoolOp .And xs pos) (tE (af X kt) Z (fX C es))/\PW X (.BoolOp .And xs pos) (tT (af X kt) Z (cg (fX C es))))/\
 (∀(kt:KT) (X:Cx) (g:G) (xs:List Expr) (Z:List Addr) (pos:Pos),Good X kt g C->gR g es xs=Λ->PE X (.BoolOp .Or xs pos) (tE (af X kt) Z (fY C es))/\PW X (.BoolOp .Or xs pos) (tT (af X kt) Z (cg (fY C es))))
def SM(o:Option E):Prop:=(∀(kt:KT) (X:Cx) (g:G) (x:Option Expr) (Z:List Addr),Good X kt g C->Vt g o x=Λ->PO X x (tO (af X kt) Z (g8 C o)))/\
 (∀(kt:KT) (X:Cx) (g:G) (ifs:List Expr),Good X kt g C->Vu g o ifs=Λ->Fx X ifs (OL (af X kt) (bC C o)))
def SL(l:L):Prop:=∀(kt:KT) (X:Cx) (g:G) (e:Expr) (Z:List Addr),Good X kt g C->K9 g l e=Λ->PE X e (tL (af X kt) Z (aX C l))
def SW(w:W):Prop:=∀(kt:KT) (X:Cx) (g:G) (e tg:Expr) (Z:List Addr),Good X kt g C->Vv g w e=Λ->(BQ w=Λ->∃es k p,tg=.Tuple es k p)->PI X tg e (tW (af X kt) Z (cx C w))
variable{C}
theorem wK(h:∀r st,d r st=.no):PE X e (tE (af X kt) Z d)/\PT X e (tT (af X kt) Z (cg d)):=by
 constructor;·rintro η s σ H Q I ⟨m,r,st,_,_,q⟩;rw[h] at q;exact(show False from q).elim
 ·rintro η s σ H Q I ⟨m,r,st,_,_,q⟩;unfold cg at q;rw[h] at q;exact(show False from q).elim
theorem pw_no(h:∀r st,d r st=.no):PW X e (tT (af X kt) Z (cg d)):=by rintro wh η s σ H Q I ⟨m,r,st,_,_,q⟩;unfold cg at q;rw[h] at q;exact(show False from q).elim
theorem both(h:PE X e (tE (af X kt) Z d))(he:∀whole,acL e X.env whole=(do let v<-whole;ab5 e.pos;acp [v] (truthy v))):PE X e (tE (af X kt) Z d)/\PT X e (tT (af X kt) Z (cg d)):=⟨h,Jj h he⟩
mutual
theorem aI:∀e':E,SE C e'
 |.var i=>λkt X g e Z T h=>by refine aK h λ_ _ h=>?_;simp only[W3,qqq] at h;exact both (zL T h.1.1 h.1.2 h.2) λ_=>rfl|.cst d=>λkt X g e Z T h=>by
  rcases Bool.or_eq_true_iff.mp h with h|h;·refine jU h λc _ _ h=>?_;cases d with|int i=>obtain rfl:=of_decide_eq_true h;exact both (zM A4 λ_ _=>rfl) λ_=>rfl|bl i=>obtain rfl:=of_decide_eq_true h;exact both (zM Ky λ_ _=>rfl) λ_=>rfl|bu=>obtain rfl:=of_decide_eq_true h;exact both (zM EW λ_ _=>rfl) λ_=>rfl|str i=>obtain rfl:=of_decide_eq_true h;exact both (zM EX λ_ _=>rfl) λ_=>rfl|tup _=>exact ft h|pl _=>exact ft h
  ·refine aK h λx _ h=>?_;cases d with|int i=>have h:=Bool.and_eq_true_iff.mp h;have h':=Bool.and_eq_true_iff.mp h.1;obtain⟨t,ht⟩:=T.cs _ _ (of_decide_eq_true h'.2);exact both (zM (HU (v:=.int _) (T.glob h'.1) ht ⟨t,rfl⟩ (pn h.2).1) λ_ _=>rfl) λ_=>rfl|_=>exact ft h
 |.op o a b=>λkt X g e Z T h=>by refine Ec h λ_ _ _ _ h=>?_;simp only[W3,qqq] at h;obtain⟨⟨rfl,h1⟩,h2⟩:=h;exact both (Vx (aI a kt X g _ Z T h1).1 (aI b kt X g _ Z T h2).1) λ_=>rfl|.neg a=>λkt X g e Z T h=>by refine kT h λ_ _ _ h=>?_;simp only[W3,qqq] at h;obtain⟨rfl,h⟩:=h;exact both (QZ (aI a kt X g _ Z T h).1) λ_=>rfl|.DY a b=>λkt X g e Z T h=>by refine aV h λ_ _ _ _ h=>?_;refine cf h λ_ _ _ h=>?_;refine aJ h λ_ _ h=>?_;simp only[W3,qqq,Xo,XE] at h;obtain⟨⟨⟨⟨⟨⟨⟨rfl,rfl⟩,h0⟩,rfl⟩,h1⟩,h2⟩,h3⟩,h4⟩:=h;exact both (Nn h0 h1 (aI a kt X g _ Z T h2).1 (aI b kt X g _ Z T h3).1 h4) λ_=>rfl|.sW a b c=>λkt X g e Z T h=>by refine aV h λ_ _ _ _ h=>?_;refine cf h λ_ _ _ h=>?_;refine aJ h λ_ _ h=>?_;refine aJ h λ_ _ h=>?_;simp only[W3,qqq,Xo,XE] at h;obtain⟨⟨⟨⟨⟨⟨⟨⟨⟨rfl,rfl⟩,h0⟩,rfl⟩,h1⟩,h2⟩,h3⟩,h4⟩,h5⟩,h6⟩:=h;exact both (JC h0 h1 (aI a kt X g _ Z T h2).1 (aI b kt X g _ Z T h3).1 h4 (aI c kt X g _ Z T h5).1 h6) λ_=>rfl|.DZ a=>λkt X g e Z T h=>by refine aV h λ_ _ _ _ h=>?_;refine cf h λ_ _ _ h=>?_;simp only[W3,qqq,Xo,XE] at h;obtain⟨⟨⟨⟨⟨rfl,rfl⟩,h0⟩,rfl⟩,h1⟩,h2⟩:=h;exact both (Nm h0 h1 (aI a kt X g _ Z T h2).1) λ_=>rfl|.attr c f i=>λkt X g e Z T h=>by refine cf h λ_ _ _ h=>?_;refine aK h λ_ _ h=>?_;simp only[W3,qqq] at h;obtain⟨⟨⟨⟨rfl,h1⟩,h2⟩,h3⟩,h4⟩:=h;exact both (M9 T h1 h2 h3 h4) λ_=>rfl|.pf k c m i es=>λkt X g e Z T h=>by refine aV h λ_ _ _ _ h=>?_;refine cf h λ_ _ _ h=>?_;refine aK h λ_ _ h=>?_;simp only[W3,qqq,Xo] at h;obtain⟨⟨⟨⟨⟨⟨⟨⟨rfl,rfl⟩,h1⟩,h2⟩,h3⟩,h4⟩,h5⟩,h6⟩,h7⟩:=h;exact both (Nk T h1 h2 h3 h4 h7 h6 (cJ h5) (gb h5) ((du es).1 kt X g _ Z T h5)) λ_=>rfl|.make k c es=>λkt X g e Z T h=>by refine aV h λ_ xs iE _ h=>?_;refine aK h λx p h=>?_;cases xs with|nil=>simp at h|cons y ys=>simp only[W3,qqq,Xo] at h;obtain⟨⟨⟨⟨⟨⟨rfl,rfl⟩,h1⟩,h2⟩,h3⟩,h4⟩,_⟩:=h;exact both (Nl T h1 h2 h3 (cJ h4) ((du es).1 kt X g _ Z T h4)) λ_=>rfl
 |.not a=>λkt X g e Z T h=>by refine kT h λ_ _ _ h=>?_;simp only[W3,qqq] at h;obtain⟨rfl,h⟩:=h;exact⟨QT (aI a kt X g _ Z T h).1,MZ (aI a kt X g _ Z T h).2⟩|.cmp o a b=>λkt X g e Z T h=>by refine qE h λ_ _ _ _ h=>?_;refine aJ h λ_ _ h=>?_;refine aJ h λ_ _ h=>?_;simp only[W3,qqq,XE,Xo] at h;obtain⟨⟨⟨⟨⟨rfl,rfl⟩,rfl⟩,h1⟩,h2⟩,h3⟩:=h;exact⟨QS T (aI a kt X g _ Z T h1).1 (aI b kt X g _ Z T h2).1 h3,MY T (aI a kt X g _ Z T h1).1 (aI b kt X g _ Z T h2).1 h3⟩|.chain o o' a b c=>λkt X g e Z T h=>by refine qE h λ_ _ _ _ h=>?_;refine aJ h λ_ _ h=>?_;refine aJ h λ_ _ h=>?_;refine aJ h λ_ _ h=>?_;refine aJ h λ_ _ h=>?_;simp only[W3,qqq,XE,Xo] at h;obtain⟨⟨⟨⟨⟨⟨⟨⟨rfl,rfl⟩,rfl⟩,rfl⟩,h1⟩,h2⟩,h3⟩,h4⟩,h5⟩:=h;exact⟨Jk T (aI a kt X g _ Z T h1).1 (aI b kt X g _ Z T h2).1 (aI c kt X g _ Z T h3).1 h4 h5,GD T (aI a kt X g _ Z T h1).1 (aI b kt X g _ Z T h2).1 (aI c kt X g _ Z T h3).1 h4 h5⟩|.and es=>λkt X g e Z T h=>by refine t9 h λop xs pos h=>?_;simp only[W3,qqq] at h;obtain⟨rfl,h⟩:=h;obtain⟨h1,h2⟩:=(du es).2.1 kt X g xs Z pos T h;have e1:aa C (.and es)=fX C es:=rfl;rw[e1];exact⟨h1,h2.pt⟩|.or es=>λkt X g e Z T h=>by refine t9 h λop xs pos h=>?_;simp only[W3,qqq] at h;obtain⟨rfl,h⟩:=h;obtain⟨h1,h2⟩:=(du es).2.2 kt X g xs Z pos T h;have e1:aa C (.or es)=fY C es:=rfl;rw[e1];exact⟨h1,h2.pt⟩|.tup es=>λkt X g e Z T h=>by refine pK h λ_ _ _ h=>?_;exact both (QW ((du es).1 kt X g _ Z T h)) λ_=>rfl|.lst mu l=>λkt X g e Z T h=>by have h1:=QX (mu:=mu) (Np l kt X g e Z T h);refine both h1 λwhole=>?_;cases l with|e7 es=>exact zJ h λ_ _ _=>rfl|comp w ts js c e=>exact gQ h λ_ _ _ _ _=>rfl|list e=>exact aV h λ_ _ _ _ _=>rfl|iB es=>exact aV h λ_ _ _ _ _=>rfl|zip a b=>exact aV h λ_ _ _ _ _=>rfl|cw e js c ee=>exact gQ h λ_ _ _ _ _=>rfl|keys e=>exact aV h λ_ _ _ _ _=>rfl
 |.call f es=>λkt X g e Z T h=>by refine aV h λ_ _ _ _ h=>?_;refine aK h λ_ _ h=>?_;simp only[W3,qqq,Xo] at h;obtain⟨⟨⟨⟨rfl,h1⟩,h2⟩,h3⟩,h4⟩:=h;exact both (s_call T h1 h2 h3 (cJ h4) (gb h4) ((du es).1 kt X g _ Z T h4)) λ_=>rfl|.sV a t=>λkt X g e Z T h=>by refine aV h λ_ _ _ _ h=>?_;refine aK h λ_ _ h=>?_;refine aJ h λ_ _ h=>?_;refine aJ h λ_ _ h=>?_;refine aK h λ_ _ h=>?_;simp only[W3,qqq,Xo] at h;obtain⟨⟨⟨⟨⟨⟨⟨⟨rfl,rfl⟩,rfl⟩,h1⟩,rfl⟩,h2⟩,h3⟩,h4⟩,h5⟩:=h;exact both (QY T h1 h3 h2 (aI a kt X g _ Z T h4).1 h5) λ_=>rfl|.bf f es=>λkt X g e Z T h=>by refine aV h λf0 xs iE pos h=>?_;refine aK h λ_ _ h=>?_;simp only[W3,qqq,XE,Xo] at h;obtain⟨⟨⟨⟨rfl,rfl⟩,h1⟩,h2⟩,h3⟩:=h;cases xs with|nil=>cases h3|cons x xs=>exact both (VD T h1 (cJ h2) ((du es).1 kt X g _ Z T h2)) λ_=>rfl
 |.ix a b=>λkt X g e Z T h=>by refine fR h λ_ _ _ h=>?_;simp only[W3,XE] at h;exact both (VB T.hu (aI a kt X g _ Z T h.1.1).1 (aI b kt X g _ Z T h.1.2).1 h.2) λ_=>rfl|.slice a lo hi=>λkt X g e Z T h=>by refine fR h λ_ _ _ h=>?_;refine wF h λ_ _ _ _ h=>?_;simp only[W3,Yp] at h;obtain⟨⟨⟨rfl,h1⟩,h2⟩,h3⟩:=h;exact both (Jt (aI a kt X g _ Z T h1).1 ((pQ lo).1 kt X g _ Z T h2) ((pQ hi).1 kt X g _ Z T h3)) λ_=>rfl|.rev a=>λkt X g e Z T h=>by refine fR h λ_ _ _ h=>?_;refine wF h λ_ _ _ _ h=>?_;refine nU h λ_ h=>?_;simp only[W3,Yp] at h;obtain⟨⟨⟨rfl,rfl⟩,h1⟩,h2⟩:=h;obtain⟨k,p1,p2,rfl⟩:=Je h1;exact both (Q0 (aI a kt X g _ Z T h2).1) λ_=>rfl|.D3 k d=>λkt X g e Z T h=>by refine zI h λ_ _ _ h=>?_;refine aJ h λ_ _ h=>?_;refine nU h λ_ h=>?_;refine aJ h λ_ _ h=>?_;simp only[W3,Xo] at h;obtain⟨⟨⟨rfl,rfl⟩,h1⟩,h2⟩:=h;exact both (Nc T h1 h2) λ_=>rfl|.pd t=>λkt X g e Z T h=>by refine zI h λ_ _ _ h=>?_;simp only[W3,Xo] at h;obtain⟨rfl,rfl⟩:=h;exact both Na λ_=>rfl|.nN i es=>λkt X g e Z T h=>by refine aV h λ_ xs iE _ h=>?_;refine aK h λx p h=>?_;cases xs with|nil=>simp at h|cons y ys=>simp only[W3,qqq,Xo] at h;obtain⟨⟨⟨⟨⟨⟨rfl,h1⟩,h2⟩,h3⟩,h4⟩,_⟩,AZ⟩:=h;exact both (Jo T AZ h1 h2 h3 (cJ h4) ((du es).1 kt X g _ Z T h4)) λ_=>rfl
 |.iP f es ls=>λkt X g e Z T h=>by refine aV h λ_ xs iE _ h=>?_;refine aK h λx p h=>?_;cases xs with|nil=>simp at h|cons y ys=>simp only[W3,qqq,Xo] at h;obtain⟨⟨⟨⟨⟨rfl,h1⟩,h2⟩,h3⟩,h4⟩,_⟩:=h;exact both (T.iP f x _ ls h1 Z y ys es p _ rfl h2 h3 (cJ h4) ((du es).1 kt X g _ Z T h4)) λ_=>rfl
 |.ja i es ls=>λkt X g e Z T h=>by refine aV h λ_ xs iE _ h=>?_;refine aK h λx p h=>?_;cases xs with|nil=>simp at h|cons y ys=>simp only[W3,qqq,Xo] at h;obtain⟨⟨⟨⟨⟨⟨rfl,h1⟩,h2⟩,h3⟩,h5⟩,h4⟩,_⟩:=h;exact both (T.ja i x ls h5 Z y ys es p _ h1 h2 h3 (cJ h4) ((du es).1 kt X g _ Z T h4)) λ_=>rfl
 |.lam k=>λkt X g e Z T h=>by refine BO h λ_ _ _ _ h=>?_;exact both (T.lam k _ _ _ _ h Z) λ_=>rfl
theorem du:∀es:List E,SEs C es
 |[]=>⟨λkt X g xs Z T h=>by rw[kY h];exact uf,λkt X g xs Z pos T h=>by exact⟨(wK λr st=>rfl).1,pw_no λr st=>rfl⟩,λkt X g xs Z pos T h=>⟨(wK λr st=>rfl).1,pw_no λr st=>rfl⟩⟩|a::cn=>by
  have ih:=du cn;have ia:=aI a;refine⟨λkt X g xs Z T h=>?_,λkt X g xs Z pos T h=>?_,λkt X g xs Z pos T h=>?_⟩;·obtain⟨x,ys,rfl,h1,h2,h3⟩:=fL h;exact kX (ia kt X g x Z T h1).1 (ih.1 kt X g ys Z T h3) h2
  ·obtain⟨x,ys,rfl,h1,h2,h3⟩:=fL h;cases cn with|nil=>rw[kY h3];exact⟨M0 (ia kt X g x Z T h1).1,Jm (ia kt X g x Z T h1).2⟩|cons b bs=>obtain⟨y,zs,rfl,_,_,_⟩:=fL h3;obtain⟨i1,i2⟩:=ih.2.1 kt X g (y::zs) Z pos T h3;exact⟨M3 (ia kt X g x Z T h1).1 i1,Jn (ia kt X g x Z T h1).2 i2⟩
  ·obtain⟨x,ys,rfl,h1,h2,h3⟩:=fL h;cases cn with|nil=>rw[kY h3];exact⟨QU (ia kt X g x Z T h1).1,M4 (ia kt X g x Z T h1).2⟩|cons b bs=>obtain⟨y,zs,rfl,_,_,_⟩:=fL h3;obtain⟨i1,i2⟩:=ih.2.2 kt X g (y::zs) Z pos T h3;exact⟨QV (ia kt X g x Z T h1).1 i1,M5 (ia kt X g x Z T h1).2 i2⟩
theorem pQ:∀o:Option E,SM C o
 |none=>⟨λkt X g x Z T h=>by
   have:x=Θ:=Yp.mp h;rw[this];exact Jr,λkt X g ifs T h=>by
   have:ifs=[]:=Xo.mp h;rw[this];exact Ee⟩
 |some a=>by
  have ia:=aI a;refine⟨λkt X g x Z T h=>?_,λkt X g ifs T h=>?_⟩;·refine nU h λ_ h=>?_;exact Js (ia kt X g _ Z T h).1
  ·refine aJ h λ_ _ h=>?_;simp only[W3,Xo] at h;obtain⟨rfl,h⟩:=h;exact Ef λZ=>(ia kt X g _ Z T h).2
theorem Np:∀l:L,SL C l
 |.e7 es=>λkt X g e Z T h=>by refine zJ h λ_ _ h=>?_;exact M6 ((du es).1 kt X g _ Z T h)|.comp w ts js c ee=>λkt X g e Z T h=>by
  refine gQ h λelt gens sc pos' h=>?_;refine aJ h λge r h=>?_;refine rS h λtg iter ifs a h=>?_;refine aK h λx pos h=>?_;simp only[W3,qqq,XE,Xo] at h;obtain⟨⟨⟨⟨⟨⟨⟨⟨⟨⟨rfl,rfl⟩,rfl⟩,h1⟩,VI⟩,h2⟩,h3⟩,h4⟩,h5⟩,h6⟩,h7⟩:=h;have B:=T.xW h2;have T':∀η fp Cc s H,Good (mz X η (gI g x js) sc fp Cc s H) kt (g.inner (gI g x js) sc) C:=λη fp Cc s H=>T.inner (js:=js) B.fF;refine PE.imp (Cy T.calm B (xX w kt X g iter (.Name x pos) Z T h1 (λz=>by rw[VI] at z;cases z)) (λη fp Cc s H=>eZ (i:=0) h4 rfl (.inl ((T' η fp Cc s H).loc x h3)) (.inr ((T' η fp Cc s H).loc x h3)))
   (λη fp Cc s H=>(pQ c).2 kt _ _ _ (T' η fp Cc s H) h5) (λη fp Cc s H=>Jz λZ=>(aI ee kt _ _ _ Z (T' η fp Cc s H) h6).1) (λy=>?_)) λσ H Q q=>zT q
  cases iter<;>first
   |rfl
   |exact absurd (show Λ=Ξ from h7) X8.symm
 |.list a=>λkt X g e Z T h=>by refine aV h λ_ _ _ _ h=>?_;refine aK h λ_ _ h=>?_;refine aJ h λ_ _ h=>?_;simp only[W3,qqq,Xo] at h;obtain⟨⟨⟨⟨⟨rfl,rfl⟩,rfl⟩,h1⟩,h2⟩,h3⟩:=h;exact M7 T h1 (aI a kt X g _ Z T h2).1 h3|.keys a=>λkt X g e Z T h=>by refine aV h λ_ _ _ _ h=>?_;refine aK h λ_ _ h=>?_;refine aJ h λ_ _ h=>?_;simp only[W3,qqq,Xo] at h;obtain⟨⟨⟨⟨⟨rfl,rfl⟩,rfl⟩,h1⟩,h2⟩,h3⟩:=h;exact M8 T h1 (aI a kt X g _ Z T h2).1 h3|.iB es=>λkt X g e Z T h=>by refine aV h λ_ _ _ _ h=>?_;refine aK h λ_ _ h=>?_;refine aJ h λ_ _ h=>?_;refine aV h λ_ _ _ _ h=>?_;refine aK h λ_ _ h=>?_;simp only[W3,qqq,Xo] at h;obtain⟨⟨⟨⟨⟨⟨⟨rfl,rfl⟩,rfl⟩,rfl⟩,h1⟩,rfl⟩,h2⟩,h3⟩:=h;exact Ng T h2 h1 h3 ((du es).1 kt X g _ Z T h3)|.zip a b=>λkt X g e Z T h=>by refine aV h λ_ _ _ _ h=>?_;refine aK h λ_ _ h=>?_;refine aJ h λ_ _ h=>?_;refine aV h λ_ _ _ _ h=>?_;refine aK h λ_ _ h=>?_;refine aJ h λ_ _ h=>?_;refine aJ h λ_ _ h=>?_;simp only[W3,qqq,Xo] at h;obtain⟨⟨⟨⟨⟨⟨⟨⟨⟨⟨⟨rfl,rfl⟩,rfl⟩,rfl⟩,rfl⟩,h1⟩,rfl⟩,h2⟩,h3⟩,h4⟩,h5⟩,h6⟩:=h;exact Nh T h2 h1 (aI a kt X g _ Z T h3).1 h4 (aI b kt X g _ Z T h5).1 h6|.cw a js c ee=>λkt X g e Z T h=>by
  refine gQ h λelt gens sc pos' h=>?_;refine aJ h λge r h=>?_;refine rS h λtg iter ifs a h=>?_;refine aK h λx pos h=>?_;simp only[W3,qqq,XE,Xo] at h;obtain⟨⟨⟨⟨⟨⟨⟨⟨rfl,rfl⟩,h1⟩,h2⟩,h3⟩,h4⟩,h5⟩,h6⟩,h7⟩:=h;have B:=T.xW h2;have T':∀η fp Cc s H,Good (mz X η (gI g x js) sc fp Cc s H) kt (g.inner (gI g x js) sc) C:=λη fp Cc s H=>T.inner (js:=js) B.fF;refine PE.imp (Cy T.calm B (rK (aI a kt X g iter Z T h1).1) (λη fp Cc s H=>eZ (i:=0) h4 rfl (.inl ((T' η fp Cc s H).loc x h3)) (.inr ((T' η fp Cc s H).loc x h3)))
   (λη fp Cc s H=>(pQ c).2 kt _ _ _ (T' η fp Cc s H) h5) (λη fp Cc s H=>Jz λZ=>(aI ee kt _ _ _ Z (T' η fp Cc s H) h6).1) (λy=>?_)) λσ H Q q=>wI q
  cases iter<;>first
   |rfl
   |exact absurd (show Λ=Ξ from h7) X8.symm
theorem xX:∀w:W,SW C w
 |.ex a=>λkt X g e tg Z T h _=>by have h:=Bool.and_eq_true_iff.mp h;exact Q3 (aI a kt X g e Z T h.1).1|.iB es=>λkt X g e tg Z T h _=>by refine aV h λ_ _ _ _ h=>?_;refine aK h λ_ _ h=>?_;simp only[W3,qqq,Xo] at h;obtain⟨⟨⟨rfl,rfl⟩,h1⟩,h2⟩:=h;exact Nd T h1 h2 ((du es).1 kt X g _ Z T h2)|.enum a=>λkt X g e tg Z T h ht=>by obtain⟨es,k,p,rfl⟩:=ht rfl;refine aV h λ_ _ _ _ h=>?_;refine aK h λ_ _ h=>?_;refine aJ h λ_ _ h=>?_;simp only[W3,qqq,Xo] at h;obtain⟨⟨⟨⟨⟨rfl,rfl⟩,rfl⟩,h1⟩,h2⟩,h3⟩:=h;exact Jy T h1 (aI a kt X g _ Z T h2).1 h3
end
end
def ie(g:G)(x:Str):Bool:=decide (g.names.lookup x=Δ .local)||decide (g.names.lookup x=Δ .cell)
def Rg(g:G)(t:Tg)(e:Expr):Bool:=match t with|.nm i=>br e λx _=>decide (g.N[i]?=Δ x)&&ie g x|.tup _=>Ξ|.two i j=>rW e λes _ _=>bb es λa r=>br a λx _=>bb r λb r'=>br b λy _=>r'.isEmpty&&decide (g.N[i]?=Δ x)&&ie g x&&decide (g.N[j]?=Δ y)&&ie g y
def GJ:Tg->Bool
 |.two _ _=>Λ|_=>Ξ
def CW(e:Expr):Bool:=e.ctorIdx==9||e.ctorIdx==10
mutual
def n6(g:G):S->Stmt->Bool
 |.ret e=>λs=>lJ s λv _=>tY v λx=>gv g e x|.D4=>λs=>lJ s λv _=>v.isNone|.set i e=>λs=>jr s λts v _=>bb ts λt r=>br t λx _=>r.isEmpty&&decide (g.N[i]?=Δ x)&&ie g x&&gv g e v&&!CW v|.ifs c a b=>λs=>Gv s λx ys zs _=>gv g c x&&uj g a ys&&uj g b zs|.iF t w b=>λs=>pJ s λtg iter body orelse _=>orelse.isEmpty&&Rg g t tg&&Vv g w iter&&uj g b body&&!cI iter&&(!BQ w||GJ t)|.iG t e b=>λs=>pJ s λtg iter body orelse _=>orelse.isEmpty&&Rg g t tg&&gv g e iter&&uj g b body&&!cI iter&&!GJ t|.BJ i j a b=>λs=>pJ s λtg iter body orelse _=>bV iter λf0 xs iE cp=>cb f0 λo n ap=>orelse.isEmpty&&xs.isEmpty&&iE.isEmpty&&Rg g (.two i j) tg&&decide (n="items")&&!isCall o&&(ap.endLine==cp.line)&&gv g a o&&uj g b body|.jb i j a b=>λs=>pJ s λtg iter body orelse _=>bV iter λf0 xs iE cp=>br f0 λn _=>bb xs λo r=>orelse.isEmpty&&r.isEmpty&&iE.isEmpty&&Rg g (.two i j) tg&&decide (n="enumerate")&&g.gl "enumerate"&&notStar o&&gv g a o&&uj g b body|.kN c b=>λs=>t8 s λx body orelse _=>orelse.isEmpty&&gv g c x&&uj g b body|.nK i k=>λs=>ic s λname params body VJ rt tps scope tsc bind pos=>VJ.isEmpty&&rt.isNone&&tps.isEmpty&&tsc.isNone&&decide (bind=name)&&g.QN i k name params body scope pos|.expr e=>λs=>rT s λx _=>gv g e x&&!mL x|.app a e=>λs=>rT s λc _=>bV c λf0 xs iE cp=>cb f0 λo n ap=>bb xs λx r=>r.isEmpty&&iE.isEmpty&&(ap.endLine==cp.line)&&decide (n="append")&&!isCall o&&gv g a o&&gv g e x&&notStar x|.put a i e=>λs=>jr s λts v _=>bb ts λt r=>eR t λo k _=>r.isEmpty&&gv g a o&&gv g i k&&gv g e v&&!mL v|.lT c f i e=>λs=>jr s λts v _=>bb ts λt r=>cb t λo n _=>br o λx _=>r.isEmpty&&decide (n=f)&&g.yH c f&&decide (g.N[i]?=Δ x)&&g.xP x&&aU x&&gv g e v
def uj(g:G):List S->List Stmt->Bool
 |[]=>λl=>l.isEmpty|s::ss=>λl=>bb l λx xs=>n6 g s x&&uj g ss xs
end
inductive tS (K:KB) (Z:List Addr) (d:b9->aN->R Fl) (D:Ends) (σ:L2.St) (H:Hp):Prop
 |mk (m:List Addr) (r:b9) (st:aN) (a:cA K H m Z r σ) (b:aB K H m Z st) (c:Ok K Z (d r st) m H (qC K Z D)):tS K Z d D σ H
structure fA(X:Cx)(kt:KT)(g:G)(C:Nat->List P->aN->R P):Prop extends Good X kt g C where
 cell:∀x,g.names.lookup x=Δ .cell->X.env.scope.names.lookup x=Δ .cell
 nd:g.N.Nodup
 S9:∀x,g.names.lookup x=Δ .cell->X.fn x=Λ
 nK:∀i k name params body scope pos,g.QN i k name params body scope pos=Λ->∀Z,PS X (.FunctionDef name params body [] Θ [] scope Θ name pos) (tS (af X kt) Z (aP C (.nK i k)))
 own:PassesOwn (model X.prog X.w) X.A X.env X.xe
section
variable{X:Cx}{g:G}{C:Nat->List P->aN->R P}{Z:List Addr}
theorem PS.imp{st:Stmt}(h:PS X st t)(i:∀D σ H,t' D σ H->t D σ H):PS X st t':=λη s σ H D I q=>h η s σ H D I (i D σ H q)
theorem mq.imp{st:List Stmt}(h:mq X st t)(i:∀D σ H,t' D σ H->t D σ H):mq X st t':=λη s σ H D I q=>h η s σ H D I (i D σ H q)
theorem fA.xY(T:fA X kt g C)(h:ie g x=Λ):Loc X.env.scope x:=by
 unfold ie at h;simp only[ZO,qqq] at h;rcases h with h|h;·exact .inl (T.loc x h)
 ·exact .inr (T.cell x h)
theorem fA.JD(T:fA X kt g C)(h:ie g x=Λ):X.fn x=Λ\/X.env.scope.names.lookup x=Δ .local:=by
 unfold ie at h;simp only[ZO,qqq] at h;rcases h with h|h;·exact .inr (T.loc x h)
 ·exact .inl (T.S9 x h)
theorem cA.set{K:KB}(A:cA K H m Z r σ)(rv:ak K H m Z p v):cA K H m Z (r.set i (Δ p)) (σ.set i (Δ v)):=by
 refine⟨by rw[YD,YD];exact A.len,λj q h=>?_⟩;by_cases hj:i=j
 ·subst hj;have hi:i < r.length:=by have:=(qqz h).1;rwa [YD] at this
  rw[Xy hi] at h;cases h;exact⟨v,by rw[Xy (by rw[<-A.len];exact hi)],rv⟩
 ·rw[W9 hj] at h;obtain⟨w',e,r'⟩:=A.at_ j q h;exact⟨w',by rw[W9 hj];exact e,r'⟩
theorem Rh(h:PE X x (tE (af X kt) Z (aa C e))):PS X (.Return (Δ x) pos) (tS (af X kt) Z (aP C (.ret e))):=by refine PS.imp (LH h) ?_;rintro D σ H ⟨m,r,st,ar,as,h⟩;rw[pB] at h;exact⟨m,r,st,ar,as,(Ok.bind h).mono λp st1 m1 H1 bN aY h1=>Ok.here h1 aY⟩
theorem Nq:PS X (.Return Θ pos) (tS (af X kt) Z (aP C .D4)):=by refine PS.imp HX ?_;rintro D σ H ⟨m,r,st,ar,as,h⟩;rw[tD] at h;exact Ok.here h as .bu rfl
theorem xZ(h:mL x=Ξ):aao x t line env=pure Ξ:=by
 cases x<;>first
  |rfl
  |exact absurd (show Λ=Ξ from h) X8.symm
theorem Ri(T:fA X kt g C)(hi:g.N[i]?=Δ x)(hl:ie g x=Λ)(hc:mL v=Ξ)(h:PE X v (tE (af X kt) Z (aa C e))):PS X (.Assign [.Name x p] v pos) (tS (af X kt) Z (aP C (.set i e))):=by refine PS.imp (E1 (i:=i) (by rw[T.N];exact T.nd) (by rw[T.N];exact hi) (T.xY hl) h (xZ hc) (T.JD hl)) ?_;rintro D σ H ⟨m,r,st,ar,as,h⟩;rw[pD] at h;refine⟨m,r,st,ar,as,(Ok.bind h).mono λq st1 m1 H1 bN aY h1 v rv=>?_⟩;exact Ok.here h1 aY (σ.set i (Δ v)) ((ar.le bN).set rv)
theorem GK(h:gv g e (.ListComp elt gens sc pos)=Λ):(∃mu w ts js c ee,e=.lst mu (.comp w ts js c ee))\/∃mu a js c ee,e=.lst mu (.cw a js c ee):=by
 cases e with
 |lst mu l=>cases l with|comp w ts js c ee=>exact .inl ⟨mu,w,ts,js,c,ee,rfl⟩|cw a js c ee=>exact .inr ⟨mu,a,js,c,ee,rfl⟩|_=>exact nomatch (show Ξ=Λ from h)
 |_=>exact nomatch (show Ξ=Λ from h)
theorem CY(hk:env.scope.kind=.function):
  aao (.ListComp elt gens sc pos) (Δ (.Name x p)) line env=pure (decide (env.scope.names.lookup x=Δ .local)&&(p.line==pos.line)&&!(sc.names.any λq=>q.1==x&&(q.2==.local||q.2==.cell))):=by
 unfold aao;dsimp only;have h1:env.blockKind=.function:=by unfold PySem.Env.blockKind;rw[hk];rfl
 have h2:(env.kindOf x==Δ .local)=decide (env.scope.names.lookup x=Δ .local):=by
  unfold PySem.Env.kindOf;by_cases h:env.scope.names.lookup x=Δ .local;·rw[h];rfl
  ·rw[decide_eq_false h];exact beq_eq_false_iff_ne.mpr h
 rw[h1,h2];rfl
theorem ya{D:Ends}(h:tS (af X kt) Z (aP C (.set i e)) D σ H):tE (af X kt) Z (aa C e) σ H λv H1=>D.nx (σ.set i (Δ v)) H1:=by obtain⟨m,r,st,ar,as,h⟩:=h;rw[pD] at h;refine⟨m,r,st,ar,as,(Ok.bind h).mono λq st1 m1 H1 bN aY h1 v rv=>?_⟩;exact Ok.here h1 aY (σ.set i (Δ v)) ((ar.le bN).set rv)
theorem GL(T:fA X kt g C)(hi:g.N[i]?=Δ x)(hl:ie g x=Λ)(hc:CW v=Ξ)(h:gv g e v=Λ):PS X (.Assign [.Name x p] v pos) (tS (af X kt) Z (aP C (.set i e))):=by
 have he:=(aI e kt X g v Z T.toGood h).1;by_cases EL:mL v=Ξ;·exact Ri T hi hl EL he
 ·cases v with
  |ListComp elt gens sc Nr=>
   intro η s σ H D I q;have sw:=CY (x:=x) (p:=p) (elt:=elt) (gens:=gens) (sc:=sc) (pos:=Nr) (line:=pos.line) I.ok.kind;cases hb:(decide (X.env.scope.names.lookup x=Δ .local)&&(p.line==Nr.line)&&!(sc.names.any λq=>q.1==x&&(q.2==.local||q.2==.cell))) with
   |false=>rw[hb] at sw;exact PS.imp (E1 (i:=i) (by rw[T.N];exact T.nd) (by rw[T.N];exact hi) (T.xY hl) he sw (T.JD hl)) (λD σ H q=>ya q) η s σ H D I q|true=>
    have sw':X.Ok->aao (.ListComp elt gens sc Nr) (Δ (.Name x p)) pos.line X.env=pure Λ:=λok=>by rw[CY ok.kind,hb]
    rcases GK h with ⟨mu,w,ts,js,c,ee,rfl⟩|⟨mu,a,js,c,ee,rfl⟩
    ·have q1:=xV (ya q);refine aJ (show bb gens _=Λ from h) λge r h=>?_;refine rS h λtg iter ifs a h=>?_;refine aK h λy py h=>?_;simp only[W3,qqq,XE,Xo] at h;obtain⟨⟨⟨⟨⟨⟨⟨⟨⟨⟨rfl,rfl⟩,rfl⟩,h1⟩,VI⟩,h2⟩,h3⟩,h4⟩,h5⟩,h6⟩,h7⟩:=h;have B:=T.toGood.xW h2;have T':∀η fp Cc s H,Good (mz X η (gI g y js) sc fp Cc s H) kt (g.inner (gI g y js) sc) C:=λη fp Cc s H=>T.toGood.inner (js:=js) B.fF;refine sN T.calm B (xX w kt X g iter (.Name y py) Z T.toGood h1 (λz=>by rw[VI] at z;cases z)) (λη fp Cc s H=>eZ (i:=0) h4 rfl (.inl ((T' η fp Cc s H).loc y h3)) (.inr ((T' η fp Cc s H).loc y h3)))
      (λη fp Cc s H=>(pQ c).2 kt _ _ _ (T' η fp Cc s H) h5) (λη fp Cc s H=>Jz λZ=>(aI ee kt _ _ _ Z (T' η fp Cc s H) h6).1) (λy=>?_) sw' (eZ (i:=i) (by rw[T.N];exact T.nd) (by rw[T.N];exact hi) (T.xY hl) (T.JD hl)) η s σ H D I (zT q1)
     cases iter<;>first
      |rfl
      |exact absurd (show Λ=Ξ from h7) X8.symm
    ·have q1:=xV (ya q);refine aJ (show bb gens _=Λ from h) λge r h=>?_;refine rS h λtg iter ifs a9 h=>?_;refine aK h λy py h=>?_;simp only[W3,qqq,XE,Xo] at h;obtain⟨⟨⟨⟨⟨⟨⟨⟨rfl,rfl⟩,h1⟩,h2⟩,h3⟩,h4⟩,h5⟩,h6⟩,h7⟩:=h;have B:=T.toGood.xW h2;have T':∀η fp Cc s H,Good (mz X η (gI g y js) sc fp Cc s H) kt (g.inner (gI g y js) sc) C:=λη fp Cc s H=>T.toGood.inner (js:=js) B.fF;refine sN T.calm B (rK (aI a kt X g iter Z T.toGood h1).1) (λη fp Cc s H=>eZ (i:=0) h4 rfl (.inl ((T' η fp Cc s H).loc y h3)) (.inr ((T' η fp Cc s H).loc y h3)))
      (λη fp Cc s H=>(pQ c).2 kt _ _ _ (T' η fp Cc s H) h5) (λη fp Cc s H=>Jz λZ=>(aI ee kt _ _ _ Z (T' η fp Cc s H) h6).1) (λy=>?_) sw' (eZ (i:=i) (by rw[T.N];exact T.nd) (by rw[T.N];exact hi) (T.xY hl) (T.JD hl)) η s σ H D I (wI q1)
     cases iter<;>first
      |rfl
      |exact absurd (show Λ=Ξ from h7) X8.symm
  |SetComp _ _ _ _=>cases hc|DictComp _ _ _ _ _=>cases hc|_=>exact absurd rfl EL
theorem Nt(hc:mL x=Ξ)(h:PE X x (tE (af X kt) Z (aa C e))):PS X (.Expr x pos) (tS (af X kt) Z (aP C (.expr e))):=by refine PS.imp (Co h (xZ hc)) ?_;rintro D σ H ⟨m,r,st,ar,as,h⟩;rw[tJ] at h;refine⟨m,r,st,ar,as,(Ok.bind h).mono λq st1 m1 H1 bN aY h1 v rv=>?_⟩;exact Ok.here h1 aY σ (ar.le bN)
theorem ah.setAt{K:KB}(r:ak K H m Z p v):∀{xs} {us} (j),ah K H m Z xs us->ah K H m Z (xs.set j p) (us.set j v)
 |[],us,j,h=>by cases (show us=[] from h);exact rfl|x::xs,us,j,h=>by obtain⟨u,JA,rfl,r1,rs⟩:=(show ∃v vs,us=v::vs/\ak K H m Z x v/\ah K H m Z xs vs from h);cases j with|zero=>exact⟨v,JA,rfl,r,rs⟩|succ j=>exact⟨u,JA.set j v,rfl,r1,ah.setAt r j rs⟩
theorem Rj(hl:(ap.endLine==cp.line)=Λ)(hc:isCall o=Ξ)(ho:PE X o (tE (af X kt) Z (aa C a)))(hx:PE X x (tE (af X kt) Z (aa C e)))(hs:notStar x=Λ):
  PS X (.Expr (.Call (.Attribute o "append" ap) [x] [] cp) pos) (tS (af X kt) Z (aP C (.app a e))):=by
 have s1:XG [x] X.env=[(Ξ,eval x X.env)]:=bF hs;refine PS.imp (Co (PR PySem.F.plainAttrs_list PySem.F.slot_list_append PySem.F.type_list_append oZ ho (kX hx uf hs) (uh hc) (by rw[s1];rfl) hl s1 rfl) rfl) ?_;rintro D σ H ⟨m,r,st,ar,as,h⟩;rw[wq] at h;refine⟨m,r,st,ar,as,(Ok.bind h).mono λy st1 m1 H1 bN aY h1 v rv=>?_⟩;obtain⟨its,e1,h2,dW⟩:=Ok.of (Ok.bind h1) aY;clear dW;obtain⟨l,us,rfl,hq,rs⟩:=dk aY e1 rv;refine⟨.inl ⟨rfl,us,.inl hq⟩,m1,r,st1,ar.le bN,aY,?_⟩;show Ok (af X kt) Z (aF C [e] r st1) m1 H1 _;simp only[ay,aE];cases hr:aa C e r st1 with
 |ex x s=>rw[hr] at h2;exact(show False from h2).elim|no=>rw[hr] at h2;exact(show False from h2).elim|ok w st2=>
  rw[hr] at h2;simp only[ae] at h2 ⊢;intro m2 H2 eK dU vs iC;obtain⟨u,rfl,ru⟩:=vA iC;obtain⟨st3,e2,h3,dW⟩:=Ok.of (Ok.bind (Ok.le h2 eK)) dU;clear dW;unfold xM at e2;split at e2
  ·rename_i n;split at e2
   ·rename_i xs Rf;split at e2;·rename_i fm;cases e2;obtain⟨b,hb,eb⟩:=rv.le eK;cases eb;obtain⟨b',iM,zs,hz,rz⟩:=dU.at_ n _ Rf;rw[hb] at iM;cases iM;obtain⟨pO,qG⟩:=dU.write (ho:=.lst (zs++[u])) (o':=.lst (xs++[w])) Rf hb λH' e _ f=>⟨_,e,(rz.mono f).append ⟨u,[],rfl,f _ _ ru,rfl⟩⟩;refine⟨l,zs,u,rfl,rfl,hz,by rw[rz.length,<-dt];exact fm,?_⟩;exact h3 m2 _ pO qG σ (((ar.le bN).le eK).le pO)
    ·cases e2
   ·cases e2
  ·cases e2
def Rk:Pg:=λo i v H Q=>∃a H4,o=.ref a/\yU H a i v H4/\Q H4
theorem JE(hu:X.A.units+100 < cLine):Dr X Rk:=by intro η s σ H o i v ov iv u Q I ro ri rv h;obtain⟨a,H4,rfl,g,q⟩:=h;cases ro;exact DG (by lia) I g ri rv λs4 I4=>⟨H4,I4,q⟩
theorem JF(h:Dr X t)(h':Dr X t'):Dr X (λo i v H Q=>t o i v H Q\/t' o i v H Q):=by
 intro η s σ H o i v ov iv u Q I ro ri rv q;rcases q with q|q;·exact h η s σ H o i v ov iv u Q I ro ri rv q
 ·exact h' η s σ H o i v ov iv u Q I ro ri rv q
theorem Nu(hp:Dr X t)(ho:PE X o td)(hi:PE X i ty)(hv:PE X value tv)(hs:aao value (Δ (.Subscript o i pos')) pos.line X.env=pure Ξ):
  PS X (.Assign [.Subscript o i pos'] value pos) (λD σ H=>tv σ H λv H1=>td σ H1 λx H2=>ty σ H2 λy H3=>t x y v H3 λH4=>D.nx σ H4):=by
 intro η s σ H D I h;refine wpAny_Assign_Subscript (bR (hv η s σ H _ I h) λr s1 ⟨v,H1,I1,rv,q1⟩=>bR (ho η s1 σ H1 _ I1 q1) λu s2 ⟨x,H2,I2,rx,q2⟩=>bR (hi η s2 σ H2 _ I2 q2) λiv s3 ⟨y,H3,I3,ry,q3⟩=>?_) hs;exact bR (hp η s3 σ H3 x y v u iv r _ I3 rx ry rv q3) λ_ s4 ⟨H4,I4,q4⟩=>⟨σ,H4,I4,q4⟩
theorem Rl(T:Good X kt g C)(hc:mL v=Ξ)(ho:PE X o (tE (af X kt) Z (aa C a)))(hk:PE X k (tE (af X kt) Z (aa C i)))(hv:PE X v (tE (af X kt) Z (aa C e))):
  PS X (.Assign [.Subscript o k pos'] v pos) (tS (af X kt) Z (aP C (.put a i e))):=by
 refine PS.imp (Nu (JF set_list (JE T.hu)) ho hk hv (xZ hc)) ?_;rintro D σ H ⟨m,r,st,ar,as,h⟩;rw[wu] at h;refine⟨m,r,st,ar,as,(Ok.bind h).mono λw st1 m1 H1 bN aY h1 vw mx=>?_⟩;refine⟨m1,r,st1,ar.le bN,aY,(Ok.bind h1).mono λx st2 m2 H2 eK dU h2 vx rx=>?_⟩;refine⟨m2,r,st2,(ar.le bN).le eK,dU,(Ok.bind h2).mono λy st3 m3 H3 pO qG h3 vy ry=>?_⟩;obtain⟨l6,e2,h4,dW⟩:=Ok.of (Ok.bind h3) qG;clear dW;have VL:=(mx.le eK).le pO;have VM:=((ar.le bN).le eK).le pO;unfold nQ at e2;split at e2
 ·rename_i n;obtain⟨ob,Nb,e5⟩:=cy e2;clear e2;obtain⟨ob',e3,rfl⟩:=fZ e5;clear e5;obtain⟨b,hb,eb⟩:=rx.le pO;cases eb;obtain⟨b',iM,ao⟩:=qG.at_ n _ Nb;rw[hb] at iM;cases iM;cases ob with
  |ins c fs=>cases e3|vp=>cases e3|lst xs=>
   obtain⟨zs,hz,rz⟩:=ao;unfold zy at e3;dsimp only at e3;split at e3;·rename_i j;obtain⟨q,hq,rfl⟩:=fZ e3;cases (show vy=.int j from ry);obtain⟨yI,CS⟩:=qG.write (ho:=.lst (zs.set q vw)) (o':=.lst (xs.set q w)) Nb hb λH' e _ f=>⟨_,e,(rz.mono f).setAt (f _ _ VL) q⟩;refine .inl ⟨b,zs,j,q,rfl,rfl,hz,by rw[rz.length];exact hq,?_⟩;exact h4 m3 _ yI CS σ (VM.le yI)
   ·cases e3
  |dK kvs=>
   obtain⟨us,hu,rs⟩:=ao;have e4:(if kvs.length < aw then(keyOf y).map λk=>O.dK (lV kvs k w) else Θ)=Δ ob':=e3;split at e4;·rename_i fm;obtain⟨kk,DQ,rfl⟩:=fZ e4;rw[ry.key DQ];obtain⟨yI,CS⟩:=qG.write (ho:=.dK (putK us kk vw)) (o':=.dK (lV kvs kk w)) Nb hb λH' e _ f=>⟨_,e,(rs.mono f).put (f _ _ VL)⟩;refine .inr ⟨b,_,rfl,yU.k hu (by rw[rs.length,<-dt];exact fm),?_⟩;exact h4 m3 _ yI CS σ (VM.le yI)
   ·cases e4
  |dT kvs=>
   obtain⟨us,hu,rs⟩:=ao;have e4:(if kvs.length < aw then(mF y).map λk=>O.dT (lV kvs k w) else Θ)=Δ ob':=e3;split at e4;·rename_i fm;obtain⟨kk,DQ,rfl⟩:=fZ e4;obtain⟨bk,rfl,hbk⟩:=ry.mF DQ;obtain⟨yI,CS⟩:=qG.write (ho:=.dT (putK us kk vw)) (o':=.dT (lV kvs kk w)) Nb hb λH' e _ f=>⟨_,e,(rs.mono f).put (f _ _ VL)⟩;refine .inr ⟨b,_,rfl,yU.t hu hbk (by rw[rs.length,<-dt];exact fm),?_⟩;exact h4 m3 _ yI CS σ (VM.le yI)
   ·cases e4
 ·cases e2
theorem aQ.vq{K:KB}{H:Hp}{m:List Addr}{f:Str}{p:P}{v:V}(rp:ak K H m Z p v):∀{fs:List (Str×P)} {us:List (Str×V)},aQ K H m Z fs us->aQ K H m Z (vq f p fs) (jI f v us)
 |[],us,h=>by cases (show us=[] from h);exact⟨v,[],rfl,rp,rfl⟩|(k,q)::fs,us,h=>by
  obtain⟨w,ws,rfl,r,rs⟩:=(show ∃v vs,us=(k,v)::vs/\ak K H m Z q v/\aQ K H m Z fs vs from h);show aQ K H m Z (if k=f then(k,p)::fs else(k,q)::Y.vq f p fs) (if k=f then(k,v)::ws else(k,w)::jI f v ws);by_cases hk:k=f;·rw[if_pos hk,if_pos hk];exact⟨v,ws,rfl,rp,rs⟩
  ·rw[if_neg hk,if_neg hk];exact⟨w,_,rfl,r,aQ.vq rp rs⟩
theorem JG:aao v (Δ (.Attribute o f p)) line env=pure Ξ:=by cases v<;>rfl
theorem Nv(T:Good X kt g C)(hf:g.yH c f=Λ)(h1:g.N[i]?=Δ x)(h2:g.xP x=Λ)(h3:aU x=Λ)(hv:PE X v (tE (af X kt) Z (aa C e))):
  PS X (.Assign [.Attribute (.Name x p) f pos'] v pos) (tS (af X kt) Z (aP C (.lT c f i e))):=by
 refine PS.imp (LU (zL (Z:=Z) (kt:=kt) T h1 h2 h3) hv JG) ?_;rintro D σ H ⟨m,r,st,ar,as,h⟩;rw[tM] at h;refine⟨m,r,st,ar,as,(Ok.bind h).mono λw st1 m1 H1 bN aY h1 vw mx=>?_⟩;refine⟨m1,r,st1,ar.le bN,aY,?_⟩;rw[lE];refine(Ok.bind h1).mono λx st2 m2 H2 eK dU h2 vx rx=>?_;obtain⟨st3,e2,h4,_⟩:=Ok.of (Ok.bind h2) dU;obtain⟨⟨n,fs⟩,e3,e4⟩:=cy e2;split at e4
 ·rename_i fm;cases e4;obtain⟨a,A,dx,us,rfl,hm,rfl,hs,g1,g2,g3,g4⟩:=BU dU rx e3;obtain⟨A',k1,k2,k3⟩:=T.fld c f hf;rw[show Xr X.K Xk c=Δ (Δ (.ref A)) from g1] at k1;cases k1;have fH:dx≠a:=by rintro rfl;rw[g2] at g3;cases g3
  obtain⟨yI,CS⟩:=dU.write (ho:=.ins A dx (jI f vw us)) (o':=.ins c (vq f w fs)) hs hm λH' e k f=>⟨A,dx,_,g1,e,k _ _ fH g3,(g4.mono f).vq (f _ _ (mx.le eK))⟩;refine⟨a,A,dx,us,rfl,g2,k2,k3,by rw[g4.length];exact fm,?_⟩;exact h4 m2 _ yI CS σ (((ar.le bN).le eK).le yI)
 ·cases e4
theorem Nw:mq X [] (tS (af X kt) Z (aj C [])):=by refine mq.imp HW ?_;rintro D σ H ⟨m,r,st,ar,as,h⟩;rw[tN] at h;exact Ok.here h as σ ar
theorem JH(h1:PS X x (tS (af X kt) Z (aP C s)))(h2:mq X xs (tS (af X kt) Z (aj C ss))):mq X (x::xs) (tS (af X kt) Z (aj C (s::ss))):=by refine mq.imp (EZ h1 h2) ?_;rintro D σ H ⟨m,r,st,ar,as,h⟩;rw[iQ] at h;refine⟨m,r,st,ar,as,(Ok.bind h).mono λf st1 m1 H1 bN aY h1=>?_⟩;cases f with|nx r1=>exact λcX VN=>⟨m1,r1,st1,VN,aY,h1⟩|bk r1=>exact Ok.here h1 aY|ct r1=>exact Ok.here h1 aY|rt v=>exact Ok.here h1 aY
theorem VO(hc:PT X c (tT (af X kt) Z (cg (aa C ec))))(ha:mq X a (tS (af X kt) Z (aj C ea)))(hb:mq X b (tS (af X kt) Z (aj C eb))):PS X (.If c a b pos) (tS (af X kt) Z (aP C (.ifs ec ea eb))):=by refine PS.imp (Pe hc ha hb) ?_;rintro D σ H ⟨m,r,st,ar,as,h⟩;rw[pE] at h;refine⟨m,r,st,ar,as,(Ok.bind h).mono λk st1 m1 H1 bN aY h1=>?_⟩;cases k with|true=>exact⟨m1,r,st1,ar.le bN,aY,h1⟩|false=>exact⟨m1,r,st1,ar.le bN,aY,h1⟩
theorem zV{K:KB}{D:Ends}{st:aN}{k:b9->aN->R Fl}(as:aB K H m Z st)(h:Ok K Z (match f with|.nx r2=>k r2 st|.ct r2=>k r2 st|.bk r2=>R.ok (.nx r2) st|.rt v=>R.ok (.rt v) st) m H (qC K Z D))(hN:∀r σ,cA K H m Z r σ->Ok K Z (k r st) m H (qC K Z D)->N σ H):qC K Z {D with nx:=N,ct:=N,bk:=D.nx} f st m H:=by cases f with|nx r2=>exact λσ ar=>hN r2 σ ar h|ct r2=>exact λσ ar=>hN r2 σ ar h|bk r2=>exact Ok.here h as|rt v=>exact Ok.here h as
theorem JI(T:fA X kt g C)(hc:PT X c (tT (af X kt) Z (cg (aa C ec))))(hb:mq X body (tS (af X kt) Z (aj C eb))):PS X (.While c body [] pos) (tS (af X kt) Z (aP C (.kN ec eb))):=by refine PS.imp (E2 T.own hc hb) ?_;rintro D σ H ⟨m,r,st,ar,as,h⟩;rw[nR] at h;refine⟨λn σ H=>∃m r st,cA (af X kt) H m Z r σ/\aB (af X kt) H m Z st/\Ok (af X kt) Z (gu (cg (aa C ec)) (aj C eb) n r st) m H (qC (af X kt) Z D),⟨dQ,m,r,st,ar,as,h⟩,?_⟩;rintro n σ H ⟨m,r,st,ar,as,h⟩;cases n with|zero=>exact(show False from h).elim|succ n=>rw[kQ] at h;refine⟨m,r,st,ar,as,(Ok.bind h).mono λk st1 m1 H1 bN aY h1=>?_⟩;cases k with|false=>exact Ok.here h1 aY σ (ar.le bN)|true=>refine⟨λcX H'=>∃m r st,cA (af X kt) H' m Z r cX/\aB (af X kt) H' m Z st/\Ok (af X kt) Z (gu (cg (aa C ec)) (aj C eb) n r st) m H' (qC (af X kt) Z D),λcX H' q=>⟨n,YT n,q⟩,?_⟩;refine⟨m1,r,st1,ar.le bN,aY,(Ok.bind (show Ok (af X kt) Z ((aj C eb r st1).bind _) m1 H1 _ from h1)).mono λf st2 m2 H2 eK dU h2=>?_⟩;exact zV (k:=λr2 st2=>gu (cg (aa C ec)) (aj C eb) n r2 st2) dU h2 λr2 OC HK q=>⟨m2,r2,st2,HK,dU,q⟩
theorem GN(T:fA X kt g C)(hs:cI iter=Ξ)(hw:PI X tg iter (tW (af X kt) Z (cx C w)))(hg:PG X tg gt)(Ni:∀(p:P) (v:V) (m:List Addr) (H:Hp) (r r1:b9) (σ:L2.St) (Q:L2.St->Hp->Prop),ak (af X kt) H m Z p v->cA (af X kt) H m Z r σ->je t p r=Δ r1->(∀cX,cA (af X kt) H m Z r1 cX->Q cX H)->gt v σ H Q)(hb:mq X body (tS (af X kt) Z (aj C eb))):
  PS X (.For tg iter body [] pos) (tS (af X kt) Z (aP C (.iF t w eb))):=by
 refine PS.imp (xk T.own T.calm hw hg hb (λy=>?_)) ?_
 ·cases iter<;>first
   |rfl
   |exact absurd (show Λ=Ξ from hs) X8.symm
 rintro D σ H ⟨m,r,st,ar,as,h⟩;rw[tF] at h;refine⟨m,r,st,ar,as,(Ok.bind h).mono λps st1 m1 H1 bN aY h1 J wk=>?_⟩;refine⟨λi k σ H=>k=ps.length - i/\i<=ps.length/\∃m r st,Le (af X kt) m1 H1 m H/\cA (af X kt) H m Z r σ/\aB (af X kt) H m Z st/\Ok (af X kt) Z (forL (je t) (aj C eb) (ps.drop i) r st) m H (qC (af X kt) Z D),⟨ps.length,by simp,Yj _,m1,r,st1,Le.refl,ar.le bN,aY,by rw[aam];exact h1⟩,?_⟩;rintro j k σ H ⟨rfl,hj,m,r,st,le,ar,as,h⟩;obtain⟨w1,w2⟩:=wk m H Z le (λa ha=>.inl ha) j;by_cases fm:j < ps.length;·have OM:j < ps.length:=fm;obtain⟨go,yl⟩:=w1 ps[j] (W6 OM);have dW:ps.drop j=ps[j]::ps.drop (j+1):=X9 OM;rw[dW,pF] at h;refine .inr ⟨go,λcX H'=>∃m r st,Le (af X kt) m1 H1 m H'/\cA (af X kt) H' m Z r cX/\aB (af X kt) H' m Z st/\Ok (af X kt) Z (forL (je t) (aj C eb) (ps.drop (j+1)) r st) m H' (qC (af X kt) Z D),λcX H' q=>⟨ps.length - (j+1),ZR _ _ fm,rfl,fm,q⟩,λy H' hy=>?_⟩;obtain⟨sm,ry'⟩:=yl y H' hy;have BY:Le (af X kt) m H m H':=Le.same sm;replace le:=le.trans BY;replace as:=as.same sm;replace ar:=ar.le BY;cases hr:je t ps[j] r with|none=>rw[hr] at h;exact(show False from h).elim|some r1=>rw[hr,az,ae] at h;refine Ni _ _ m H' r r1 σ _ ry' ar hr λcX VN=>⟨m,r1,st,VN,as,(Ok.bind (Ok.le h BY)).mono λf st2 m2 H2 eK dU h3=>?_⟩;exact zV (k:=λr2 st2=>forL (je t) (aj C eb) (ps.drop (j+1)) r2 st2) dU h3 λr2 OC HK q=>⟨m2,r2,st2,le.trans eK,HK,dU,q⟩
 ·have e:j=ps.length:=by lia
  subst e;rw[ab0,Gp] at h;exact .inl ⟨w2 rfl,Ok.here h as σ ar⟩
theorem Rm(T:fA X kt g C)(hi:g.N[i]?=Δ x)(hl:ie g x=Λ)(hs:cI iter=Ξ)(hw:PI X (.Name x p) iter (tW (af X kt) Z (cx C w)))(hb:mq X body (tS (af X kt) Z (aj C eb))):
  PS X (.For (.Name x p) iter body [] pos) (tS (af X kt) Z (aP C (.iF (.nm i) w eb))):=
 GN T hs hw (eZ (i:=i) (by rw[T.N];exact T.nd) (by rw[T.N];exact hi) (T.xY hl) (T.JD hl)) (λp v m H r r1 σ Q rp ar e q=>by cases e;exact q _ (ar.set rp)) hb
theorem Nx(T:fA X kt g C){p p' p2 pos:Pos}(hi:g.N[i]?=Δ x)(hl:ie g x=Λ)(DR:g.N[j]?=Δ y)(rP:ie g y=Λ)(hs:cI iter=Ξ)(hw:PI X (.Tuple [.Name x p,.Name y p'] k p2) iter (tW (af X kt) Z (cx C w)))(hb:mq X body (tS (af X kt) Z (aj C eb))):
  PS X (.For (.Tuple [.Name x p,.Name y p'] k p2) iter body [] pos) (tS (af X kt) Z (aP C (.iF (.two i j) w eb))):=by
 have nm:∀{z:Str} {a:Nat} {q:Pos},g.N[a]?=Δ z->ie g z=Λ->PG X (.Name z q) (su a):=λ{z a q} h1 h2=>eZ (i:=a) (by rw[T.N];exact T.nd) (by rw[T.N];exact h1) (T.xY h2) (T.JD h2);refine GN T hs hw (A5 (n:=2) T.calm (jf (nm hi hl) (jf (nm DR rP) xi))) (λq v m H r r1 σ Q rp ar e hq=>?_) hb;unfold je at e;dsimp only at e;split at e;·rename_i a b;cases e;obtain⟨c,us,rfl,hc,v1,vs1,e1,rv1,v2,vs2,e2,VH,e3⟩:=rp;subst e3 e2 e1;exact⟨c,_,rfl,eY.of hc,rfl,v1,[v2],rfl,v2,[],rfl,rfl,hq _ ((ar.set (p:=.d a) (show ak (af X kt) H m Z (.d a) v1 from rv1)).set (p:=.d b) (show ak (af X kt) H m Z (.d b) v2 from VH))⟩
 ·cases e
theorem Ny(T:fA X kt g C)(hi:g.N[i]?=Δ x)(hl:ie g x=Λ)(hs:cI iter=Ξ)(hw:PE X iter (tE (af X kt) Z (aa C e)))(hb:mq X body (tS (af X kt) Z (aj C eb))):
  PS X (.For (.Name x p) iter body [] pos) (tS (af X kt) Z (aP C (.iG (.nm i) e eb))):=by
 refine PS.imp (xk T.own T.calm (rK hw) (eZ (i:=i) (by rw[T.N];exact T.nd) (by rw[T.N];exact hi) (T.xY hl) (T.JD hl)) hb (λy=>?_)) ?_
 ·cases iter<;>first
   |rfl
   |exact absurd (show Λ=Ξ from hs) X8.symm
 rintro D σ H ⟨m,r,st,ar,as,h⟩;rw[tG] at h;refine⟨m,r,st,ar,as,(Ok.bind h).mono λx0 st1 m1 H1 bN aY h1 v rv=>?_⟩;split at h1
 ·rename_i n;obtain⟨a,ha,rfl⟩:=rv;have Q8:∃us,H1 a=Δ (.lst us):=by have h2:Ok (af X kt) Z (iG n (je (.nm i)) (aj C eb) (999999+1) 0 r st1) m1 H1 (qC (af X kt) Z D):=h1;rw[pH] at h2;cases ho:wa n st1 0 with|none=>rw[ho] at h2;exact(show False from h2).elim|some o=>obtain⟨us,hu,_⟩:=pP aY ha ho;exact⟨us,hu⟩
  obtain⟨Q9,Ra⟩:=Q8;refine⟨a,rfl,⟨Q9,.inl (.inl Ra)⟩,?_⟩;refine⟨λj k σ H=>∃m r st,Le (af X kt) m1 H1 m H/\cA (af X kt) H m Z r σ/\aB (af X kt) H m Z st/\Ok (af X kt) Z (iG n (je (.nm i)) (aj C eb) k j r st) m H (qC (af X kt) Z D),⟨dQ,m1,r,st1,Le.refl,ar.le bN,aY,h1⟩,?_⟩;rintro j k σ H ⟨m,r,st,le,ar,as,h⟩;have Rb:m[n]?=Δ a:=by obtain⟨t,et⟩:=le.pre;rw[et,Xb (qqz ha).1];exact ha
  cases k with|zero=>exact(show False from h).elim|succ k=>rw[pH] at h;cases ho:wa n st j with|none=>rw[ho] at h;exact(show False from h).elim|some o=>rw[ho] at h;obtain⟨us,hu,q0,q1⟩:=pP as Rb ho;cases o with|none=>exact .inl ⟨⟨us,.inl (.inl hu),q0 rfl⟩,Ok.here (show Ok (af X kt) Z (R.ok (Fl.nx r) st) m H (qC (af X kt) Z D) from h) as σ ar⟩|some q=>obtain⟨vx,Lc,rx⟩:=q1 q rfl;refine .inr ⟨⟨us,vx,.inl (.inl hu),Lc⟩,λcX H'=>∃m r st,Le (af X kt) m1 H1 m H'/\cA (af X kt) H' m Z r cX/\aB (af X kt) H' m Z st/\Ok (af X kt) Z (iG n (je (.nm i)) (aj C eb) k (j+1) r st) m H' (qC (af X kt) Z D),λcX H' z=>⟨k,YT k,z⟩,λy H' hy=>?_⟩;obtain⟨rfl,hx⟩:=hy;have yF:=hx us (.inl (.inl hu));rw[Lc] at yF;cases yF;have h2:Ok (af X kt) Z ((aj C eb (r.set i (Δ q)) st).bind _) m H' (qC (af X kt) Z D):=h;refine⟨m,r.set i (Δ q),st,ar.set rx,as,(Ok.bind h2).mono λf st2 m2 H2 eK dU h3=>?_⟩;exact zV (k:=λr2 st2=>iG n (je (.nm i)) (aj C eb) k (j+1) r2 st2) dU h3 λr2 OC HK q=>⟨m2,r2,st2,le.trans eK,HK,dU,q⟩
 ·exact(show False from h1).elim
section
variable{K:KB}{H H':Hp}{m:List Addr}
mutual
theorem aH.chg(f:∀a u,H a=Δ u->(∀o us,u≠.dz o (.dK us))->H' a=Δ u):∀{x:D} {v:V},aH K H m Z x v->aH K H' m Z x v
 |.bu,_,h=>h|.bl _,_,h=>h|.int _,_,h=>h|.str _,_,h=>h|.tup xs,v,h=>by obtain⟨a,us,e,q,r⟩:=(show ∃a us,v=.ref a/\H a=Δ (.tup us)/\aq K H m Z xs us from h);exact⟨a,us,e,f _ _ q (λ_ _ z=>nomatch z),aq.chg f r⟩
 |.pl xs,v,h=>by
  obtain⟨a,us,e,q,hm,hz,r⟩:=(show ∃a us,v=.ref a/\Rd H a (.lst us)/\a∉m/\a∉Z/\aq K H m Z xs us from h);refine⟨a,us,e,?_,hm,hz,aq.chg f r⟩;rcases q with q|⟨o,q⟩;·exact .inl (f _ _ q (λ_ _ z=>nomatch z))
  ·exact .inr ⟨o,f _ _ q (λ_ _ z=>nomatch z)⟩
theorem aq.chg(f:∀a u,H a=Δ u->(∀o us,u≠.dz o (.dK us))->H' a=Δ u):∀{xs:List D} {us:List V},aq K H m Z xs us->aq K H' m Z xs us
 |[],_,h=>h|x::xs,us,h=>by obtain⟨v,vs,e,r,rs⟩:=(show ∃v vs,us=v::vs/\aH K H m Z x v/\aq K H m Z xs vs from h);exact⟨v,vs,e,aH.chg f r,aq.chg f rs⟩
end
mutual
theorem ak.chg(f:∀a u,H a=Δ u->(∀o us,u≠.dz o (.dK us))->H' a=Δ u):∀{x:P} {v:V},ak K H m Z x v->ak K H' m Z x v
 |.d _,_,h=>by rw[ak] at h ⊢;exact aH.chg f h|.obj n,v,h=>by rw[ak] at h ⊢;exact h|.gq ns,v,h=>by
  rw[ak] at h ⊢;obtain⟨a,e,r⟩:=h;refine⟨a,e,?_⟩;rcases r with ⟨o,r⟩|r
  ·exact .inl ⟨o,f _ _ r (λ_ _ z=>nomatch z)⟩
  ·exact .inr r
 |.fn k bq,v,h=>by rw[ak] at h ⊢;obtain⟨a,c,bW,e,q,hc,r⟩:=h;exact⟨a,c,bW,e,q,f _ _ hc (λ_ _ z=>nomatch z),ah.chg f r⟩|.lf k,v,h=>by rw[ak] at h ⊢;obtain⟨a,c,ct,e,q,r⟩:=h;exact⟨a,c,ct,e,f _ _ q (λ_ _ z=>nomatch z),f _ _ r (λ_ _ z=>nomatch z)⟩
theorem ah.chg(f:∀a u,H a=Δ u->(∀o us,u≠.dz o (.dK us))->H' a=Δ u):∀{xs:List P} {us:List V},ah K H m Z xs us->ah K H' m Z xs us
 |[],_,h=>h|x::xs,us,h=>by obtain⟨v,vs,e,r,rs⟩:=(show ∃v vs,us=v::vs/\ak K H m Z x v/\ah K H m Z xs vs by rw[ah] at h;exact h);rw[ah];exact⟨v,vs,e,ak.chg f r,ah.chg f rs⟩
end
end
theorem Nz{K:KB}(e1:H1 d=Δ (.dK us))(hm:m1[n]?=Δ d)(rs:aQ K H1 m1 Z kvs us)(le:Le K m1 (upd H1 d (.dz o (.dK us))) m2 H2)(as:aB K H2 m2 Z st2):H2 d=Δ (.dz o (.dK us))/\Le K m1 H1 m2 (upd H2 d (.dK us))/\aB K (upd H2 d (.dK us)) m2 Z (st2.set n (.dK kvs))/\∀p v,ak K H2 m2 Z p v->ak K (upd H2 d (.dK us)) m2 Z p v:=by
 have e2:H2 d=Δ (.dz o (.dK us)):=le.dz _ _ _ aD;have dm:d∈m1:=Xw hm;have f:∀a u,H2 a=Δ u->(∀o us,u≠.dz o (.dK us))->upd H2 d (.dK us) a=Δ u:=λa u q z=>by rw[ax (λw'=>by rw[w',e2] at q;exact z o us (XJ q).symm)];exact q
 have up:∀{a:Addr} {u:HO},H1 a=Δ u->a≠d->upd H1 d (.dz o (.dK us)) a=Δ u:=λq z=>by rw[ax z];exact q
 have lf:Le K m1 H1 m2 (upd H2 d (.dK us)):=by
  refine⟨le.pre,λa xs q=>?_,λa u q ha hu=>?_,λa ha=>?_,λa q=>?_,λa q=>?_,λa ob u q=>?_,λa φ q=>?_,λa ps q=>?_⟩;·exact f _ _ (le.tup _ _ (up q (λz=>by rw[z,e1] at q;cases q))) (λ_ _ z=>nomatch z)
  ·have hd:a≠d:=λz=>ha (by rw[z];exact dm);rw[ax hd];exact le.keep _ _ (up q hd) ha hu
  ·rcases le.new a ha with z|z;·exact .inl z
   ·by_cases hd:a=d;·rw[hd];exact .inl dm
    ·rw[ax hd] at z;exact .inr z
  ·by_cases hd:a=d;·rw[hd,aD];exact λz=>nomatch z
   ·rw[ax hd];exact le.qR _ (by rw[ax hd];exact q)
  ·exact lG (λ_ z=>nomatch z) (le.CG _ (lG (λ_ z=>nomatch z) q))
  ·have hd:a≠d:=λz=>by rw[z,e1] at q;cases q
   rw[ax hd];exact le.dz _ _ _ (up q hd)
  ·exact f _ _ (le.ext _ _ (up q (λz=>by rw[z,e1] at q;cases q))) (λ_ _ z=>nomatch z)
  ·obtain⟨more,w'⟩:=le.fk _ _ (up q (λz=>by rw[z,e1] at q;cases q));exact⟨more,f _ _ w' (λ_ _ z=>nomatch z)⟩
 have JJ:m2[n]?=Δ d:=by obtain⟨t,et⟩:=le.pre;rw[et,Xb (qqz hm).1];exact hm
 refine⟨e2,lf,⟨by rw[YD];exact as.len,as.nd,λk ob hk=>?_,λb hb=>lG (λ_ z=>nomatch z) (as.zt b hb),as.zm,λt ht=>?_⟩,λp v z=>z.chg f⟩
 ·by_cases MP:n=k
  ·subst MP;have fm:n < st2.length:=by rw[<-as.len];exact(qqz JJ).1
   rw[Xy fm] at hk;cases hk;exact⟨d,JJ,us,aD,rs.mono λp v z=>z.le lf⟩
  ·rw[W9 MP] at hk;obtain⟨b,q,rr⟩:=as.at_ k ob hk;have hbd:b≠d:=by rintro rfl;obtain⟨l1,e1⟩:=qqz JJ;obtain⟨l2,e2⟩:=qqz q;exact MP (kB as.nd l1 l2 (e1.trans e2.symm))
   refine⟨b,q,rr.mono (λb' u iM hu=>?_) λp v z=>z.chg f⟩;rw[ax (λz=>by
    rcases iM with w1|w1;·exact hbd (w1▸z)
    ·rw[z,e2] at w1;cases w1)]
   exact hu
 ·obtain⟨ps,h1,h2⟩:=as.tab t ht;exact⟨ps,f _ _ h1 (λ_ _ z=>nomatch z),fz.same (λa φ z=>f _ _ z (λ_ _ w'=>nomatch w')) h2⟩
theorem qC.DV{D:Ends}(e1:H1 d=Δ (.dK us))(hm:m1[n]?=Δ d)(rs:aQ (af X kt) H1 m1 Z kvs us)(nf:NF X d)(le:Le (af X kt) m1 (upd H1 d (.dz o (.dK us))) m2 H2)(as:aB (af X kt) H2 m2 Z st2)(h:∀m' H',Le (af X kt) m1 H1 m' H'->aB (af X kt) H' m' Z (st2.set n (.dK kvs))->qC (af X kt) Z D fl (st2.set n (.dK kvs)) m' H'):qC (af X kt) Z (v8 X D) fl st2 m2 H2:=by obtain⟨e2,lf,cn,f⟩:=Nz e1 hm rs le as;have q:=h m2 _ lf cn;have ra:∀{r:b9} {σ:L2.St},cA (af X kt) H2 m2 Z r σ->cA (af X kt) (upd H2 d (.dK us)) m2 Z r σ:=λA=>⟨A.len,λi p w'=>let ⟨v,x1,x2⟩:=A.at_ i p w';⟨v,x1,f _ _ x2⟩⟩;cases fl with|nx r=>exact λσ A=>⟨d,o,_,e2,nf,q σ (ra A)⟩|bk r=>exact λσ A=>⟨d,o,_,e2,nf,q σ (ra A)⟩|ct r=>exact λσ A=>⟨d,o,_,e2,nf,q σ (ra A)⟩|rt p=>exact λv A=>⟨d,o,_,e2,nf,q v (f _ _ A)⟩
theorem aQ.at_{κ:Type}{K:KB}{m:List Addr}:∀{kvs:List (κ×P)} {us:List (κ×V)} {i:Nat} {k:κ} {v:V},aQ K H m Z kvs us->us[i]?=Δ (k,v)->∃p,kvs[i]?=Δ (k,p)/\ak K H m Z p v
 |[],us,i,k,v,h,e=>by cases (show us=[] from h);simp at e|(q,p)::kvs,us,i,k,v,h,e=>by obtain⟨v',vs,rfl,r,rs⟩:=(show ∃v vs,us=(q,v)::vs/\ak K H m Z p v/\aQ K H m Z kvs vs from h);cases i with|zero=>simp at e;obtain⟨rfl,rfl⟩:=e;exact⟨p,rfl,r⟩|succ i=>simpa using aQ.at_ rs (by simpa using e)
theorem NA(T:fA X kt g C){p p' p2 ap cp pos:Pos}(hi:g.N[i]?=Δ x)(hl:ie g x=Λ)(DR:g.N[j]?=Δ y)(rP:ie g y=Λ)(hc:isCall o=Ξ)(hln:(ap.endLine==cp.line)=Λ)(ho:PE X o (tE (af X kt) Z (aa C a)))(hb:mq X body (tS (af X kt) Z (aj C eb))):
  PS X (.For (.Tuple [.Name x p,.Name y p'] k p2) (.Call (.Attribute o "items" ap) [] [] cp) body [] pos) (tS (af X kt) Z (aP C (.BJ i j a eb))):=by
 have nm:∀{z:Str} {a:Nat} {q:Pos},g.N[a]?=Δ z->ie g z=Λ->PG X (.Name z q) (su a):=λ{z a q} h1 h2=>eZ (i:=a) (by rw[T.N];exact T.nd) (by rw[T.N];exact h1) (T.xY h2) (T.JD h2);refine PS.imp (IW (xk T.own T.calm (Gd ho (uh hc) hln) (A5 (n:=2) T.calm (jf (nm hi hl) (jf (nm DR rP) xi))) hb (λ_=>rfl))) ?_;rintro D σ H ⟨m,r,st,ar,as,h⟩;rw[tH] at h;refine⟨m,r,st,ar,as,(Ok.bind h).mono λx0 st1 m1 H1 bN aY h1 v rv=>?_⟩;obtain⟨⟨n,kvs⟩,ek,h2,dW⟩:=Ok.of (Ok.bind h1) aY;clear dW h1;obtain⟨d,us,rfl,qg,hm,rfl,hu,rs⟩:=CU aY ek rv;dsimp only at h2 qg hm rs;refine⟨d,us,rfl,hu,λob nf=>?_⟩;obtain⟨lel,asl⟩:=aY.write (ho:=.dz ob (.dK us)) (o':=.vp) qg hm (λH' e _ f=>⟨ob,us,e⟩);have rsl:aQ (af X kt) (upd H1 d (.dz ob (.dK us))) m1 Z kvs us:=rs.mono λp v z=>z.le lel;cases hr:mH i j (aj C eb) kvs r (st1.set n .vp) with
 |ex z s=>rw[hr] at h2;exact(show False from h2).elim|no=>rw[hr] at h2;exact(show False from h2).elim|ok f0 bJ=>
  rw[hr,ae] at h2;have VP:∀m2 H2,Le (af X kt) m1 (upd H1 d (.dz ob (.dK us))) m2 H2->aB (af X kt) H2 m2 Z bJ->qC (af X kt) Z (v8 X D) f0 bJ m2 H2:=λm2 H2 eK dU=>qC.DV hu hm rs nf eK dU h2;have VQ:Ok (af X kt) Z (mH i j (aj C eb) kvs r (st1.set n .vp)) m1 (upd H1 d (.dz ob (.dK us))) (qC (af X kt) Z (v8 X D)):=by rw[hr];exact λm2 H2 eK dU=>VP m2 H2 eK dU
  refine⟨λq l σ H=>l=kvs.length - q/\q<=kvs.length/\∃m r st,Le (af X kt) m1 (upd H1 d (.dz ob (.dK us))) m H/\cA (af X kt) H m Z r σ/\aB (af X kt) H m Z st/\Ok (af X kt) Z (mH i j (aj C eb) (kvs.drop q) r st) m H (qC (af X kt) Z (v8 X D)),⟨kvs.length,by simp,Yj _,m1,r,_,Le.refl,(ar.le bN).le lel,asl,by rw[aam];exact VQ⟩,?_⟩;rintro q l σ H ⟨rfl,hq,m,r,st,le,ar,as,h⟩;have hd:H d=Δ (.dz ob (.dK us)):=le.dz _ _ _ aD;have hlen:us.length=kvs.length:=rs.length.symm▸rfl;by_cases fm:q < kvs.length
  ·have dW:kvs.drop q=kvs[q]::kvs.drop (q+1):=X9 fm;rw[dW,wy] at h;refine .inr ⟨⟨hd,by lia⟩,λcX H'=>∃m r st,Le (af X kt) m1 (upd H1 d (.dz ob (.dK us))) m H'/\cA (af X kt) H' m Z r cX/\aB (af X kt) H' m Z st/\Ok (af X kt) Z (mH i j (aj C eb) (kvs.drop (q+1)) r st) m H' (qC (af X kt) Z (v8 X D)),λcX H' z=>⟨kvs.length - (q+1),ZR _ _ fm,rfl,fm,z⟩,λw' H' hy=>?_⟩;obtain⟨t,kk,vv,qv,ht,rfl,rfl⟩:=hy;obtain⟨pp,hpp,rp⟩:=rsl.at_ qv;have epp:kvs[q]=(kk,pp):=by have:=W6 fm;rw[hpp] at this;exact(XJ this).symm
   rw[epp] at h;have BY:Le (af X kt) m H m (upd H t (.tup [kV kk,vv])):=Le.same (aZ ht _);have cn:=as.same (aZ ht (.tup [kV kk,vv]));have le':=le.trans BY;refine⟨t,[kV kk,vv],rfl,eY.of aD,rfl,kV kk,[vv],rfl,vv,[],rfl,rfl,?_⟩;have rk:ak (af X kt) (upd H t (.tup [kV kk,vv])) m Z (xN kk) (kV kk):=by cases kk<;>rfl
   refine⟨m,_,st,((ar.le BY).set rk).set (rp.le le'),cn,(Ok.bind (Ok.le h BY)).mono λf st2 m2 H2 eK dU h3=>?_⟩;exact zV (k:=λr2 st2=>mH i j (aj C eb) (kvs.drop (q+1)) r2 st2) dU h3 λr2 OC HK z=>⟨m2,r2,st2,le'.trans eK,HK,dU,z⟩
  ·have e:q=kvs.length:=by lia
   subst e;rw[ab0,Gq] at h;exact .inl ⟨⟨hd,by lia⟩,Ok.here h as σ ar⟩
theorem NB(T:fA X kt g C){p p' p2 pe cp pos:Pos}(hi:g.N[i]?=Δ x)(hl:ie g x=Λ)(DR:g.N[j]?=Δ y)(rP:ie g y=Λ)(hg:g.gl "enumerate"=Λ)(hs:notStar o=Λ)(ho:PE X o (tE (af X kt) Z (aa C a)))(hb:mq X body (tS (af X kt) Z (aj C eb))):
  PS X (.For (.Tuple [.Name x p,.Name y p'] k p2) (.Call (.Name "enumerate" pe) [o] [] cp) body [] pos) (tS (af X kt) Z (aP C (.jb i j a eb))):=by
 have nm:∀{z:Str} {a:Nat} {q:Pos},g.N[a]?=Δ z->ie g z=Λ->PG X (.Name z q) (su a):=λ{z a q} h1 h2=>eZ (i:=a) (by rw[T.N];exact T.nd) (by rw[T.N];exact h1) (T.xY h2) (T.JD h2);refine PS.imp (xk T.own T.calm (Ga (T.toGood.glob hg) (T.bl _ (by decide+kernel)) (kX ho uf hs) (bF hs)) (A5 (n:=2) T.calm (jf (nm hi hl) (jf (nm DR rP) xi))) hb (λ_=>rfl)) ?_;rintro D σ H ⟨m,r,st,ar,as,h⟩;rw[tI] at h;refine⟨m,r,st,ar,as,?_⟩;show Ok (af X kt) Z (aF C [a] r st) m H _;simp only[ay,aE];cases hr:aa C a r st with
 |ex x s=>rw[hr] at h;exact h|no=>rw[hr] at h;exact h|ok y0 st1=>
  rw[hr] at h;simp only[ae] at h ⊢;intro m1 H1 bN aY vs iC;obtain⟨v,pN,rfl,rv,e⟩:=(show ∃v pN,vs=v::pN/\ak (af X kt) H1 m1 Z y0 v/\pN=[] from iC);subst e;have h1:=Ok.le h bN;split at h1
  ·rename_i n;obtain⟨a,ha,rfl⟩:=rv;have Q8:∃us,H1 a=Δ (.lst us):=by have h2:Ok (af X kt) Z (jb n i j (aj C eb) (999999+1) 0 r st1) m1 H1 (qC (af X kt) Z D):=h1;rw[pI] at h2;cases ho:wa n st1 0 with|none=>rw[ho] at h2;exact(show False from h2).elim|some o=>obtain⟨us,hu,_⟩:=pP aY ha ho;exact⟨us,hu⟩
   obtain⟨Q9,Ra⟩:=Q8;refine⟨a,rfl,⟨Q9,.inl (.inl Ra)⟩,?_⟩;refine⟨λq k σ H=>∃m r st,Le (af X kt) m1 H1 m H/\cA (af X kt) H m Z r σ/\aB (af X kt) H m Z st/\Ok (af X kt) Z (jb n i j (aj C eb) k q r st) m H (qC (af X kt) Z D),⟨dQ,m1,r,st1,Le.refl,ar.le bN,aY,h1⟩,?_⟩;rintro q k σ H ⟨m,r,st,le,ar,as,h⟩;have Rb:m[n]?=Δ a:=by obtain⟨t,et⟩:=le.pre;rw[et,Xb (qqz ha).1];exact ha
   cases k with|zero=>exact(show False from h).elim|succ k=>rw[pI] at h;cases ho:wa n st q with|none=>rw[ho] at h;exact(show False from h).elim|some o=>rw[ho] at h;obtain⟨us,hu,q0,q1⟩:=pP as Rb ho;cases o with|none=>exact .inl ⟨⟨us,.inl (.inl hu),q0 rfl⟩,Ok.here (show Ok (af X kt) Z (R.ok (Fl.nx r) st) m H (qC (af X kt) Z D) from h) as σ ar⟩|some pq=>obtain⟨vx,Lc,rx⟩:=q1 pq rfl;refine .inr ⟨⟨us,vx,.inl (.inl hu),Lc⟩,λcX H'=>∃m r st,Le (af X kt) m1 H1 m H'/\cA (af X kt) H' m Z r cX/\aB (af X kt) H' m Z st/\Ok (af X kt) Z (jb n i j (aj C eb) k (q+1) r st) m H' (qC (af X kt) Z D),λcX H' z=>⟨k,YT k,z⟩,λw' H' hy=>?_⟩;obtain⟨t,vv,ht,rfl,rfl,hx⟩:=hy;have yF:=hx us (.inl (.inl hu));rw[Lc] at yF;cases yF;have BY:Le (af X kt) m H m (upd H t (.tup [.int q,vx])):=Le.same (aZ ht _);have cn:=as.same (aZ ht (.tup [.int q,vx]));have h2:Ok (af X kt) Z ((aj C eb ((r.set i (Δ (.d (.int q)))).set j (Δ pq)) st).bind _) m H (qC (af X kt) Z D):=h;refine⟨t,[.int q,vx],rfl,eY.of aD,rfl,.int q,[vx],rfl,vx,[],rfl,rfl,?_⟩;refine⟨m,_,st,((ar.le BY).set (p:=.d (.int q)) (v:=.int q) rfl).set (rx.le BY),cn,(Ok.bind (Ok.le h2 BY)).mono λf st2 m2 H2 eK dU h3=>?_⟩;exact zV (k:=λr2 st2=>jb n i j (aj C eb) k (q+1) r2 st2) dU h3 λr2 OC HK z=>⟨m2,r2,st2,(le.trans BY).trans eK,HK,dU,z⟩
  ·exact(show False from h1).elim
theorem GO(h1:Rg g (.two i j) tg=Λ):∃x y p p' k p2,tg=.Tuple [.Name x p,.Name y p'] k p2/\g.N[i]?=Δ x/\ie g x=Λ/\g.N[j]?=Δ y/\ie g y=Λ:=by refine pK h1 λ_ _ _ h1=>?_;refine aJ h1 λ_ _ h1=>?_;refine aK h1 λ_ _ h1=>?_;refine aJ h1 λ_ _ h1=>?_;refine aK h1 λ_ _ h1=>?_;simp only[W3,qqq,Xo] at h1;obtain⟨⟨⟨⟨rfl,h6⟩,h7⟩,h8⟩,h9⟩:=h1;exact⟨_,_,_,_,_,_,rfl,h6,h7,h8,h9⟩
variable(C) in
def SSt(s:S):Prop:=∀(kt:KT) (X:Cx) (g:G) (x:Stmt) (Z:List Addr),fA X kt g C->n6 g s x=Λ->PS X x (tS (af X kt) Z (aP C s))
variable(C) in
def VR(s:List S):Prop:=∀(kt:KT) (X:Cx) (g:G) (x:List Stmt) (Z:List Addr),fA X kt g C->uj g s x=Λ->mq X x (tS (af X kt) Z (aj C s))
mutual
theorem NC:∀s:S,SSt C s
 |.ret e=>λkt X g x Z T h=>by refine qF h λ_ _ h=>?_;refine nU h λ_ h=>?_;exact Rh (aI e kt X g _ Z T.toGood h).1|.D4=>λkt X g x Z T h=>by refine qF h λ_ _ h=>?_;rw[Yp] at h;subst h;exact Nq|.set i e=>λkt X g x Z T h=>by refine kU h λ_ _ _ h=>?_;refine aJ h λ_ _ h=>?_;refine aK h λ_ _ h=>?_;simp only[W3,qqq,XE,Xo] at h;obtain⟨⟨⟨⟨rfl,h1⟩,h2⟩,h3⟩,h4⟩:=h;exact GL T h1 h2 h4 h3|.ifs c a b=>λkt X g x Z T h=>by refine Jd h λ_ _ _ _ h=>?_;simp only[W3] at h;exact VO (aI c kt X g _ Z T.toGood h.1.1).2 (dH a kt X g _ Z T h.1.2) (dH b kt X g _ Z T h.2)|.iF t w b=>λkt X g x Z T h=>by
  refine nX h λ_ _ _ _ _ h=>?_;simp only[W3,XE,Xo] at h;obtain⟨⟨⟨⟨⟨rfl,h1⟩,h2⟩,h3⟩,h4⟩,h5⟩:=h;cases t with
  |tup is=>cases h1|nm i=>refine aK h1 λ_ _ h1=>?_;·simp only[W3,qqq] at h1;exact Rm T h1.1 h1.2 h4 (xX w kt X g _ _ Z T.toGood h2 λz=>by rw[z] at h5;simp[GJ] at h5) (dH b kt X g _ Z T h3)
  |two i j=>refine pK h1 λ_ _ _ h1=>?_;refine aJ h1 λ_ _ h1=>?_;refine aK h1 λ_ _ h1=>?_;refine aJ h1 λ_ _ h1=>?_;refine aK h1 λ_ _ h1=>?_;simp only[W3,qqq,Xo] at h1;obtain⟨⟨⟨⟨rfl,h6⟩,h7⟩,h8⟩,h9⟩:=h1;exact Nx T h6 h7 h8 h9 h4 (xX w kt X g _ _ Z T.toGood h2 λ_=>⟨_,_,_,rfl⟩) (dH b kt X g _ Z T h3)
 |.iG t e b=>λkt X g x Z T h=>by refine nX h λ_ _ _ _ _ h=>?_;simp only[W3,XE,Xo] at h;obtain⟨⟨⟨⟨⟨rfl,h1⟩,h2⟩,h3⟩,h4⟩,h5⟩:=h;cases t with|tup is=>cases h1|two i j=>cases h5|nm i=>refine aK h1 λ_ _ h1=>?_;·simp only[W3,qqq] at h1;exact Ny T h1.1 h1.2 h4 (aI e kt X g _ Z T.toGood h2).1 (dH b kt X g _ Z T h3)
 |.BJ i j a b=>λkt X g x Z T h=>by refine nX h λ_ _ _ _ _ h=>?_;refine aV h λ_ _ _ _ h=>?_;refine cf h λ_ _ _ h=>?_;simp only[W3,qqq,XE,Xo] at h;obtain⟨⟨⟨⟨⟨⟨⟨⟨rfl,rfl⟩,rfl⟩,h1⟩,rfl⟩,h2⟩,h3⟩,h4⟩,h5⟩:=h;obtain⟨x,y,p,p',k,p2,rfl,h6,h7,h8,h9⟩:=GO h1;exact NA T h6 h7 h8 h9 h2 h3 (aI a kt X g _ Z T.toGood h4).1 (dH b kt X g _ Z T h5)|.jb i j a b=>λkt X g x Z T h=>by refine nX h λ_ _ _ _ _ h=>?_;refine aV h λ_ _ _ _ h=>?_;refine aK h λ_ _ h=>?_;refine aJ h λ_ _ h=>?_;simp only[W3,qqq,XE,Xo] at h;obtain⟨⟨⟨⟨⟨⟨⟨⟨rfl,rfl⟩,rfl⟩,h1⟩,rfl⟩,h2⟩,h3⟩,h4⟩,h5⟩:=h;obtain⟨x,y,p,p',k,p2,rfl,h6,h7,h8,h9⟩:=GO h1;exact NB T h6 h7 h8 h9 h2 h3 (aI a kt X g _ Z T.toGood h4).1 (dH b kt X g _ Z T h5)|.kN c b=>λkt X g x Z T h=>by refine BP h λ_ _ _ _ h=>?_;simp only[W3,Xo] at h;obtain⟨⟨rfl,h1⟩,h2⟩:=h;exact JI T (aI c kt X g _ Z T.toGood h1).2 (dH b kt X g _ Z T h2)|.expr e=>λkt X g x Z T h=>by refine wG h λ_ _ h=>?_;simp only[W3,XE] at h;exact Nt h.2 (aI e kt X g _ Z T.toGood h.1).1|.app a e=>λkt X g x Z T h=>by refine wG h λ_ _ h=>?_;refine aV h λ_ _ _ _ h=>?_;refine cf h λ_ _ _ h=>?_;refine aJ h λ_ _ h=>?_;simp only[W3,qqq,XE,Xo] at h;obtain⟨⟨⟨⟨⟨⟨⟨rfl,rfl⟩,h0⟩,rfl⟩,h1⟩,h2⟩,h3⟩,h4⟩:=h;exact Rj h0 h1 (aI a kt X g _ Z T.toGood h2).1 (aI e kt X g _ Z T.toGood h3).1 h4|.put a i e=>λkt X g x Z T h=>by refine kU h λ_ _ _ h=>?_;refine aJ h λ_ _ h=>?_;refine fR h λ_ _ _ h=>?_;simp only[W3,XE,Xo] at h;obtain⟨⟨⟨⟨rfl,h1⟩,h2⟩,h3⟩,h4⟩:=h;exact Rl T.toGood h4 (aI a kt X g _ Z T.toGood h1).1 (aI i kt X g _ Z T.toGood h2).1 (aI e kt X g _ Z T.toGood h3).1|.nK i k=>λkt X g x Z T h=>by refine pL h λ_ _ _ _ _ _ _ _ _ _ h=>?_;simp only[W3,qqq,Xo,Yp] at h;obtain⟨⟨⟨⟨⟨rfl,rfl⟩,rfl⟩,rfl⟩,rfl⟩,h6⟩:=h;exact T.nK i k _ _ _ _ _ h6 Z|.lT c f i e=>λkt X g s Z T h=>by refine kU h λ_ _ _ h=>?_;refine aJ h λ_ _ h=>?_;refine cf h λ_ _ _ h=>?_;refine aK h λ_ _ h=>?_;simp only[W3,qqq,Xo] at h;obtain⟨⟨⟨⟨⟨⟨rfl,rfl⟩,h1⟩,h2⟩,h3⟩,h4⟩,h5⟩:=h;exact Nv T.toGood h1 h2 h3 h4 (aI e kt X g _ Z T.toGood h5).1
theorem dH:∀s:List S,VR C s
 |[]=>λkt X g x Z T h=>by have:x=[]:=Xo.mp h;rw[this];exact Nw|s::ss=>λkt X g x Z T h=>by refine aJ h λ_ _ h=>?_;simp only[W3] at h;exact JH (NC s kt X g _ Z T h.1) (dH ss kt X g _ Z T h.2)
end
end
section
variable{K:KB}{H H':Hp}{m m1 m2 Z Z1 Z2:List Addr}
mutual
theorem aH.weak(hw:∀a,a∉m1->a∉Z1->a∉m2/\a∉Z2):∀{x:D} {v:V},aH K H m1 Z1 x v->aH K H m2 Z2 x v
 |.bu,_,h=>h|.bl _,_,h=>h|.int _,_,h=>h|.str _,_,h=>h|.tup xs,v,h=>by obtain⟨a,us,e,q,r⟩:=(show ∃a us,v=.ref a/\H a=Δ (.tup us)/\aq K H m1 Z1 xs us from h);exact⟨a,us,e,q,aq.weak hw r⟩
 |.pl xs,v,h=>by obtain⟨a,us,e,q,hm,hz,r⟩:=(show ∃a us,v=.ref a/\Rd H a (.lst us)/\a∉m1/\a∉Z1/\aq K H m1 Z1 xs us from h);exact⟨a,us,e,q,(hw a hm hz).1,(hw a hm hz).2,aq.weak hw r⟩
theorem aq.weak(hw:∀a,a∉m1->a∉Z1->a∉m2/\a∉Z2):∀{xs:List D} {us:List V},aq K H m1 Z1 xs us->aq K H m2 Z2 xs us
 |[],_,h=>h|x::xs,us,h=>by obtain⟨v,vs,e,r,rs⟩:=(show ∃v vs,us=v::vs/\aH K H m1 Z1 x v/\aq K H m1 Z1 xs vs from h);exact⟨v,vs,e,aH.weak hw r,aq.weak hw rs⟩
end
mutual
theorem aH.nS:∀{x:D} {v:V},Y.nS x=Λ->aH K H m1 Z1 x v->aH K H m2 Z2 x v
 |.bu,_,_,h=>h|.bl _,_,_,h=>h|.int _,_,_,h=>h|.str _,_,_,h=>h|.tup xs,v,n,h=>by obtain⟨a,us,e,q,r⟩:=(show ∃a us,v=.ref a/\H a=Δ (.tup us)/\aq K H m1 Z1 xs us from h);exact⟨a,us,e,q,aq.nS (by simpa[Y.nS] using n) r⟩
 |.pl xs,v,n,h=>by simp[Y.nS] at n
theorem aq.nS:∀{xs:List D} {us:List V},CF xs=Λ->aq K H m1 Z1 xs us->aq K H m2 Z2 xs us
 |[],_,_,h=>h|x::xs,us,n,h=>by obtain⟨v,vs,e,r,rs⟩:=(show ∃v vs,us=v::vs/\aH K H m1 Z1 x v/\aq K H m1 Z1 xs vs from h);simp only[CF,W3] at n;exact⟨v,vs,e,aH.nS n.1 r,aq.nS n.2 rs⟩
end
mutual
theorem ak.weak(hw:∀a,a∉m1->a∉Z1->a∉m2/\a∉Z2):∀{x:P} {v:V},cz x=Λ->ak K H m1 Z1 x v->ak K H m2 Z2 x v
 |.d _,_,_,h=>by rw[ak] at h ⊢;exact aH.weak hw h|.obj _,_,n,_=>by simp[cz] at n|.gq _,_,n,_=>by simp[cz] at n|.fn k bq,v,n,h=>by rw[ak] at h ⊢;obtain⟨a,c,bW,e,q,hc,r⟩:=h;exact⟨a,c,bW,e,q,hc,ah.weak hw (by simpa[cz] using n) r⟩
 |.lf k,_,n,_=>by simp[cz] at n
theorem ah.weak(hw:∀a,a∉m1->a∉Z1->a∉m2/\a∉Z2):∀{xs:List P} {us:List V},cC xs=Λ->ah K H m1 Z1 xs us->ah K H m2 Z2 xs us
 |[],_,_,h=>h|x::xs,us,n,h=>by rw[ah] at h ⊢;obtain⟨v,vs,e,r,rs⟩:=h;simp only[cC,W3] at n;exact⟨v,vs,e,ak.weak hw n.1 r,ah.weak hw n.2 rs⟩
end
theorem VS{st:aN}(as:aB K H m Z st)(r:ak K H m Z p v)(e:xJ st p=Δ q):ak K H [] [] q v/\(isObj p=Ξ->ak K H [] (Z++m) q v):=by
 have hw:∀a,a∉m->a∉Z->a∉([]:List Addr)/\a∉Z++m:=λa h1 h2=>⟨by simp,λz=>by
  rcases aaA.mp z with z|z;·exact h2 z
  ·exact h1 z⟩
 cases p with
 |gq ns=>cases e;rw[ak] at r;exact⟨by rw[ak];exact r,λ_=>by rw[ak];exact r⟩|d x=>cases e;rw[ak] at r;exact⟨by rw[ak];exact aH.bare r,λ_=>by rw[ak];exact aH.weak hw r⟩|obj n=>obtain⟨x,e1,rfl⟩:=fZ (show(jQ st (.obj n)).map P.d=Δ q from e);exact⟨by rw[ak];exact kW as e1 r,λz=>nomatch z⟩|fn k bq=>
  have e':(if cC bq=Λ then Δ (P.fn k bq) else Θ)=Δ q:=e;split at e'
  ·rename_i hp;cases e';have Fw:cz (.fn k bq)=Λ:=by simpa[cz] using hp
   exact⟨ak.weak (m1:=m) (Z1:=Z) (λ_ _ _=>⟨by simp,by simp⟩) Fw r,λ_=>ak.weak hw Fw r⟩
  ·cases e'
 |lf k=>cases e
theorem zW{st:aN}(as:aB K H m Z st):∀{ps qs} {vs},ah K H m Z ps vs->gH st ps=Δ qs->ah K H [] [] qs vs/\(ps.any isObj=Ξ->ah K H [] (Z++m) qs vs)
 |[],qs,vs,r,e=>by cases e;exact⟨r,λ_=>r⟩|p::ps,qs,vs,r,e=>by rw[ah] at r;obtain⟨v,w',rfl,r1,r2⟩:=r;obtain⟨q,e1,e⟩:=cy (show((xJ st p).bind λx=>(gH st ps).map λxs=>x::xs)=Δ qs from e);obtain⟨q2,e2,rfl⟩:=fZ e;obtain⟨i1,i2⟩:=VS as r1 e1;obtain⟨j1,j2⟩:=zW as r2 e2;refine⟨by rw[ah];exact⟨v,w',rfl,i1,j1⟩,λh=>?_⟩;rw[Zz,Bool.or_eq_false_iff] at h;rw[ah];exact⟨v,w',rfl,i2 h.1,j2 h.2⟩
theorem wL(r:ah K H m Z qs vs):cA K H m Z (ai N.length qs) (L2.start N vs):=by
 have hl:=r.length;refine⟨by unfold ai L2.start;simp[hl],λi p h=>?_⟩;unfold ai at h;unfold L2.start;by_cases hi:i < qs.length
 ·rw[Xb (by simpa using hi),Xg] at h;cases e:qs[i]? with
  |none=>rw[e] at h;cases h|some q=>
   rw[e] at h;have h':q=p:=by simpa using h
   subst h';obtain⟨v,e1,r1⟩:=r.get e;exact⟨v,by rw[Xb (by rw[Xc,hl];exact hi),Xg,e1];rfl,r1⟩
 ·rw[Xu (by simpa using hi),Z5] at h;split at h<;>cases h
theorem aB.VT{st:aN}(A:aB K H m Z st)(h:a∈m):gk H a≠Θ:=by
 obtain⟨n,hn,e⟩:=List.mem_iff_getElem.mp h;have EU:n < st.length:=by rw[<-A.len];exact hn
 obtain⟨a',e',r⟩:=A.at_ n st[n] (W6 EU);rw[W6 hn,e] at e';cases e';cases q:H a with|none=>exact absurd q r.qR.1|some u=>rw[bp q λφ z=>r.qR.2.2.2.1 φ (by rw[q,z])];exact λz=>nomatch z
theorem lK(hz:∀a∈Z,gk H a≠Θ)(ht:∀t∈K.tabs,∃ps,H t.1=Δ (.fk ps)/\fz H t.2 ps):aB K H [] Z []:=⟨rfl,by simp,λn o h=>by simp at h,hz,λa _=>by simp,ht⟩
theorem Le.outer(le:Le K [] H m' H'):Le K m H m H':=⟨⟨[],by simp⟩,le.tup,λa u h _=>le.keep a u h (by simp),λa h=>.inl h,le.qR,le.CG,le.dz,le.ext,le.fk⟩
theorem aB.outer{st:aN}(as:aB K H m Z st)(le:Le K [] H m' H')(ht:∀t∈K.tabs,∃ps,H' t.1=Δ (.fk ps)/\fz H' t.2 ps):aB K H' m Z st:=by
 refine⟨as.len,as.nd,λn o h=>?_,λa h=>le.CG a (as.zt a h),as.zm,ht⟩;obtain⟨a,q,r⟩:=as.at_ n o h;exact⟨a,q,r.mono (λb u hb hu=>le.keep b u hu (by simp) (λps z=>by
  rcases hb with w1|w1;·subst w1;rw[z] at hu;exact r.qR.2.2.2.2.1 ps hu
  ·rw[w1] at hu;cases hu;cases z)) λp v z=>z.le le.outer⟩
end
structure Info where
 name:Str
 st:Stmt
 N:List Str
 ps:List Str
 F:Fn
section
variable{P:Yb}{w:World}{K:Xf}{mg:Str->Option Value}{base:Heap}{is:List Info}{cs:List (Str×Int)}{ts:List (Str×List (Str×Int))}{a:Nat->Addr}{fd:Nat->Zb}
end
structure CI where
 lam:Bool
 qual:Str
 N:List Str
 ps:List Str
 fr:List Str
 F:Fn
structure KI where
 name:Str
 rg:List Str
 GP:List (Str×Nat)
structure TX where
 is:List (Info×List (Nat×Pos))
 VU:List CI
 cs:List (Str×Int)
 ts:List (Str×List (Str×Int))
 nf:Nat
 ks:List KI
def TX.Fs(S:TX):List Fn:=S.is.map (·.1.F)++S.VU.map (·.F)
noncomputable def TX.ci(S:TX)(k:Nat):Option CI:=if k < S.is.length then Θ else S.VU[k - S.is.length]?
def TX.fns(S:TX):List (Str×Nat):=(S.is.take S.nf).map λj=>(j.1.name,j.1.F.np)
theorem TX.GQ{S:TX}(h:S.fns[k]?=Δ (x,n)):k < S.nf/\∃i,S.is[k]?=Δ i/\(i.1.name,i.1.F.np)=(x,n):=by
 unfold TX.fns at h;rw[Xg,List.getElem?_take] at h;split at h;·rename_i hk;refine⟨hk,?_⟩;cases ej:S.is[k]? with|none=>rw[ej] at h;cases h|some i2=>rw[ej] at h;exact⟨i2,rfl,by simpa using h⟩
 ·cases h
noncomputable def TX.np(S:TX)(k:Nat):Option Nat:=(S.is[k]?).map (·.1.F.np)
noncomputable def TX.yH(S:TX)(c f:Str):Bool:=S.ks.any λq=>decide (q.name=c)&&q.rg.any (λx=>decide (x=f))
def TX.A1(S:TX)(k:Nat)(c m:Str)(n:Nat):Bool:=S.ks.any λq=>decide (q.name=c)&&decide (q.GP.lookup m=Δ k)&&decide (S.np k=Δ (n+1))
def TX.A2(S:TX)(k:Nat)(c:Str)(n:Nat):Bool:=S.ks.any λq=>decide (q.name=c)&&decide (q.GP.lookup ("__init__":Str)=Δ k)&&decide (S.np k=Δ (n+1))
def lv:Nat->Nat
 |0=>0|n+1=>lv n+2
def TX.q(S:TX)(k:Nat):Str:=((S.ci k).map (·.qual)).getD ""
theorem TX.ND{S:TX}{ci:CI}(h:S.ci k=Δ ci):S.Fs[k]?=Δ ci.F/\S.q k=ci.qual:=by
 unfold TX.ci at h;split at h;·cases h
 ·rename_i hk;refine⟨?_,by unfold TX.q TX.ci;rw[if_neg hk,h];rfl⟩;unfold TX.Fs;rw[Xu (by rw[Xc];lia),Xc,Xg,h];rfl
theorem TX.VW{S:TX}{k:Nat}(h:S.is[k]?=Δ i):S.Fs[k]?=Δ i.1.F:=by unfold TX.Fs;rw[Xb (by rw[Xc];exact(qqz h).1),Xg,h];rfl
def BZ(ci:CI)(sc:Scope):Bool:=
 decide (sc.kind=.function)&&!sc.isCoroutine&&!sc.isGenerator&&decide ci.N.Nodup&&decide (ci.N.take (ci.ps.length+ci.fr.length)=ci.ps++ci.fr)&&
 ci.ps.all (λx=>decide (sc.names.lookup x=Δ .local))&&ci.fr.all (λx=>decide (sc.names.lookup x=Δ .free))&&
 sc.names.all (λy=>decide (y.2≠.cell)&&(decide (y.2≠.free)||decide (y.1∈ci.fr)))&&
 decide (ci.F.np=ci.ps.length+ci.fr.length)&&decide (ci.F.nn=ci.N.length)&&!ci.F.sh
theorem n8(h:BZ ci sc=Λ):kK ci.N ci.ps ci.fr sc/\ci.F.np=ci.ps.length+ci.fr.length/\ci.F.nn=ci.N.length/\ci.F.sh=Ξ:=by unfold BZ at h;simp only[W3,qqq,XE,YE,ZO] at h;obtain⟨⟨⟨⟨⟨⟨⟨⟨⟨⟨h1,h2⟩,h3⟩,h4⟩,h5⟩,h6⟩,h7⟩,h8⟩,h9⟩,h10⟩,h11⟩:=h;exact⟨⟨h1,h2,h3,h4,h5,h6,h7,λy hy=>(h8 y hy).1,λy hy hf=>(h8 y hy).2.resolve_left λz=>z hf⟩,h9,h10,h11⟩
def gC(S:TX)(ci:CI)(sc:Scope):G:={N:=ci.N,names:=sc.names,fns:=S.fns,hZ:=S.cs,tabs:=S.ts,yH:=S.yH,A1:=S.A1,A2:=S.A2}
noncomputable def JK:List S->Option E
 |s::r=>match s with
  |.ret e=>match r with|[]=>Δ e|_::_=>Θ
  |_=>Θ
 |[]=>Θ
theorem JL(h:JK b=Δ e):b=[.ret e]:=by
 unfold JK at h;split at h
 ·split at h
  ·split at h;·cases h;rfl
   ·cases h
  ·cases h
 ·cases h
def pR(S:TX)(ci:CI)(pa:ZQ)(bo:Expr)(sc:Scope):Bool:=ci.lam&&eQ pa ci.ps&&BZ ci sc&&(match JK ci.F.body with|some e=>gv (gC S ci sc) e bo|none=>Ξ)
def pT(S:TX)(ci:CI)(pa:ZQ)(bo:List Stmt)(sc:Scope):Bool:=!ci.lam&&eQ pa ci.ps&&BZ ci sc&&uj (gC S ci sc) ci.F.body bo
def GR(S:TX)(ci:CI)(o:Obj)(sc:Scope)(cl:List (Str×Addr))(c:Addr):Prop:=
 (∃pa bo pm ct,o=PySem.W.kla_obj "<lambda>" ci.qual pa bo sc cl pm c ct/\pR S ci pa bo sc=Λ)\/
 (∃nm pa bo doc pm ct,o=PySem.W.fnMade nm ci.qual pa bo sc cl doc pm c ct/\pT S ci pa bo sc=Λ)
def n9(S:TX)(B:Heap)(k:Nat)(a c:Addr)(bW:List V):Prop:=∃ci o sc cl,S.ci k=Δ ci/\B.get? a=Δ o/\GR S ci o sc cl c/\HH B cl ci.fr bW
abbrev mO(S:TX)(K:Xf)(base:Heap)(tabs:List (Addr×List (Pos×Str))):KB:=⟨K,base,tabs,n9 S base,λ_ _ _ _ _=>False,S.q⟩
abbrev Ta(S:TX)(base:Heap)(tabs:List (Addr×List (Pos×Str))):KT:={tabs:=tabs,qB:=n9 S base,HJ:=λ_ _ _ _ _=>False,zD:=S.q}
section
variable{K1 K2:KB}{H:Hp}{m Z:List Addr}
mutual
theorem aH.kb:∀{x:D} {v:V},aH K1 H m Z x v->aH K2 H m Z x v
 |.bu,_,h=>h|.bl _,_,h=>h|.int _,_,h=>h|.str _,_,h=>h|.tup xs,v,h=>by obtain⟨a,us,e,q,r⟩:=(show ∃a us,v=.ref a/\H a=Δ (.tup us)/\aq K1 H m Z xs us from h);exact⟨a,us,e,q,aq.kb r⟩
 |.pl xs,v,h=>by obtain⟨a,us,e,q,hm,hz,r⟩:=(show ∃a us,v=.ref a/\Rd H a (.lst us)/\a∉m/\a∉Z/\aq K1 H m Z xs us from h);exact⟨a,us,e,q,hm,hz,aq.kb r⟩
theorem aq.kb:∀{xs:List D} {us:List V},aq K1 H m Z xs us->aq K2 H m Z xs us
 |[],_,h=>h|x::xs,us,h=>by obtain⟨v,vs,e,r,rs⟩:=(show ∃v vs,us=v::vs/\aH K1 H m Z x v/\aq K1 H m Z xs vs from h);exact⟨v,vs,e,aH.kb r,aq.kb rs⟩
end
mutual
theorem ak.kb(hk:K1.K=K2.K)(hq:K1.zD=K2.zD)(hc:∀k a c bW,K1.qB k a c bW->K2.qB k a c bW):∀{x:P} {v:V},cz x=Λ->ak K1 H m Z x v->ak K2 H m Z x v
 |.d _,_,_,h=>by rw[ak] at h ⊢;exact aH.kb h|.obj _,_,n,_=>by simp[cz] at n|.gq _,_,n,_=>by simp[cz] at n|.fn k bq,v,n,h=>by rw[ak] at h ⊢;obtain⟨a,c,bW,e,q,hx,r⟩:=h;exact⟨a,c,bW,e,hc _ _ _ _ q,by rw[<-hq];exact hx,ah.kb hk hq hc (by simpa[cz] using n) r⟩
 |.lf k,_,n,_=>by simp[cz] at n
theorem ah.kb(hk:K1.K=K2.K)(hq:K1.zD=K2.zD)(hc:∀k a c bW,K1.qB k a c bW->K2.qB k a c bW):∀{xs:List P} {us:List V},cC xs=Λ->ah K1 H m Z xs us->ah K2 H m Z xs us
 |[],_,_,h=>h|x::xs,us,n,h=>by rw[ah] at h ⊢;obtain⟨v,vs,e,r,rs⟩:=h;simp only[cC,W3] at n;exact⟨v,vs,e,ak.kb hk hq hc n.1 r,ah.kb hk hq hc n.2 rs⟩
end
def JM:P->Bool
 |.gq _=>Λ|p=>cz p
theorem NG{st:aN}(h:xJ st p=Δ q):JM q=Λ:=by
 cases p with
 |gq ns=>cases h;rfl|d x=>cases h;rfl|obj n=>obtain⟨x,e1,rfl⟩:=fZ (show(jQ st (.obj n)).map P.d=Δ q from h);rfl
 |fn k bq=>
  have e':(if cC bq=Λ then Δ (P.fn k bq) else Θ)=Δ q:=h;split at e';·rename_i hp;cases e';simpa[JM,cz] using hp
  ·cases e'
 |lf k=>cases h
theorem CZ{st:aN}:∀{ps qs},gH st ps=Δ qs->∀q∈qs,JM q=Λ
 |[],qs,h=>by cases h;exact λq z=>by cases z|p::ps,qs,h=>by
  obtain⟨q,e1,e⟩:=cy (show((xJ st p).bind λx=>(gH st ps).map λxs=>x::xs)=Δ qs from h);obtain⟨q2,e2,rfl⟩:=fZ e;intro x hx;rcases Zy.mp hx with z|z;·rw[z];exact NG e1
  ·exact CZ e2 x z
theorem ah.kbA(hk:K1.K=K2.K)(hq:K1.zD=K2.zD)(hc:∀k a c bW,K1.qB k a c bW->K2.qB k a c bW):∀{xs} {us},(∀q∈xs,JM q=Λ)->ah K1 H m Z xs us->ah K2 H m Z xs us
 |[],_,_,h=>h|x::xs,us,n,h=>by rw[ah] at h ⊢;obtain⟨v,vs,e,r,rs⟩:=h;refine⟨v,vs,e,?_,ah.kbA hk hq hc (λq hq=>n q (W5 _ hq)) rs⟩;have hx:=n x W8;cases x with|gq ns=>rw[ak] at r ⊢;rw[<-hk];exact r|d y=>exact ak.kb hk hq hc rfl r|obj y=>cases hx|fn k c=>exact ak.kb hk hq hc hx r|lf k=>cases hx
end
theorem pU(Rn:F.nn=N.length){st:aN}(rq:ah kb H m Z qs vs)(as:aB kb H m Z st)(hk:kb.K=X.K)(hq:kb.zD=kt.zD)(hc:∀k a c bW,kb.qB k a c bW->kt.qB k a c bW)(ht:kb.tabs=kt.tabs)(ea:gH st qs=Δ q2)(er:vt C F q2=Δ d)(aL:Ok kb Z (tP qs d st) m H (λp _ m' H'=>∀v,ak kb H' m' Z p v->Q v H')):
  ∃Z0,tS (af X kt) Z0 (aj C F.body) {nx:=λ_ H'=>Q .bu H',rt:=Q} (L2.start N vs) H:=by
 obtain⟨r1,r2⟩:=zW as rq ea;have hb:=CZ ea;obtain⟨Z0,S0,rs0,hw⟩:∃Z0:List Addr,(∀b∈Z0,gk H b≠Θ)/\ah kb H [] Z0 q2 vs/\((qs.any isObj=Ξ/\Z0=Z++m)\/qs.any isObj=Λ):=by
  cases ho:qs.any isObj with
  |false=>
   refine⟨Z++m,λb hb=>?_,r2 ho,.inl ⟨rfl,rfl⟩⟩;rcases aaA.mp hb with z|z;·exact as.zt b z
   ·exact as.VT z
  |true=>exact⟨[],(λb hb=>by cases hb),r1,.inr rfl⟩
 have tab:∀t∈(af X kt).tabs,∃ps,H t.1=Δ (.fk ps)/\fz H t.2 ps:=λt h=>as.tab t (by rw[ht];exact h);refine⟨Z0,[],ai F.nn q2,[],by rw[Rn];exact wL (ah.kbA hk hq hc hb rs0),lK S0 tab,?_⟩;unfold vt at er;split at er
 ·cases hx:aj C F.body (ai F.nn q2) [] with
  |ex x s=>rw[hx] at er;cases er|no=>rw[hx] at er;cases er|ok f aM=>
   rw[hx] at er;intro m' H' le cn;have le0:Le kb [] H m' H':=⟨le.pre,le.tup,le.keep,le.new,le.qR,le.CG,le.dz,le.ext,le.fk⟩;have fin:∀v,aH kb H' m Z d v->Q v H':=λv rv=>by
    unfold tP at aL;split at aL;·exact(show False from aL).elim
    ·exact aL m H' le0.outer (as.outer le0 (λt h=>cn.tab t (by show t∈kt.tabs;rw[<-ht];exact h))) v rv
   have VX:qs.any isObj=Λ->Y.nS d=Λ:=λz=>by
    unfold tP at aL;split at aL;·exact(show False from aL).elim
    ·rename_i hc;cases hp:Y.nS d with|true=>rfl|false=>rw[z,hp] at hc;exact absurd rfl hc
   cases f with
   |bk r=>cases er|ct r=>cases er|nx r=>cases er;exact λσ _=>fin .bu rfl
   |rt p=>
    have HL:jQ aM p=Δ d:=er;intro v rv;apply fin;rcases hw with ⟨_,rfl⟩|ho
    ·have xo:∀b,b∉m'->b∉Z++m->b∉m/\b∉Z:=λb _ h=>⟨λz=>h (XF _ z),λz=>h (Yo _ z)⟩;cases p with
     |gq ns=>cases HL|fn k c=>cases HL|lf k=>cases HL|d x=>cases HL;exact aH.kb (aH.weak xo rv)|obj j=>
      obtain⟨b,e,rfl⟩:=rv;have h':(match aM[j]? with|some (.lst xs)=>(ba xs).map D.pl|_=>Θ)=Δ d:=HL;split at h'
      ·rename_i xs hs;obtain⟨b',e',o⟩:=cn.at_ j _ hs;rw[e] at e';cases e';obtain⟨us,hu,rs⟩:=o;obtain⟨ys,hd,rfl⟩:=fZ h';have hbn:H b=Θ:=by
        rcases le.new b (Xw e) with z|z;·cases z
        ·exact z
       exact⟨b,us,rfl,.inl hu,λz=>as.QJ z hbn,λz=>as.zt b z (jO hbn),aq.kb (aq.weak xo (rs.ba hd))⟩
      ·cases h'
    ·have np:=VX ho;cases p with
     |gq ns=>cases HL|fn k c=>cases HL|lf k=>cases HL|d x=>cases HL;exact aH.kb (aH.nS np rv)|obj j=>
      have h':(match aM[j]? with|some (.lst xs)=>(ba xs).map D.pl|_=>Θ)=Δ d:=HL;split at h';·obtain⟨ys,hd,rfl⟩:=fZ h';simp[Y.nS] at np
      ·cases h'
 ·cases er
theorem JN{K:KB}(h:tS K Z (aj C [.ret e]) {nx:=N0,rt:=Q} σ H):tE K Z (aa C e) σ H Q:=by obtain⟨m,r,st,ar,as,h⟩:=h;refine⟨m,r,st,ar,as,?_⟩;rw[iQ,pB] at h;cases hx:aa C e r st with|ex x s=>rw[hx] at h;exact h|no=>rw[hx] at h;exact h|ok p aM=>rw[hx] at h;exact λm' H' le cn=>h m' H' le cn
theorem wM{st:aN}:∀{ps qs},gH st ps=Δ qs->qs.length=ps.length
 |[],qs,h=>by cases h;rfl|p::ps,qs,h=>by obtain⟨q,e1,e⟩:=cy (show((xJ st p).bind λx=>(gH st ps).map λxs=>x::xs)=Δ qs from h);obtain⟨q2,e2,rfl⟩:=fZ e;rw[Xq,Xq,wM e2]
theorem lL{st:aN}(hF:Fs[k]?=Δ F)(hs:F.sh=Ξ)(h:Ok kb Z (callC Fs (n+1) k ps st) m H Q):
  ∃q2 d,gH st ps=Δ q2/\vt (callC Fs n) F q2=Δ d/\Ok kb Z (tP ps d st) m H Q/\ps.length=F.np:=by
 rw[hW,hF] at h;simp only[hs,XR,if_false] at h;cases ea:gH st ps with
 |none=>rw[ea] at h;exact(show False from h).elim|some q2=>
  rw[ea] at h;simp only at h;cases er:vt (callC Fs n) F q2 with
  |none=>rw[er] at h;exact(show False from h).elim|some d=>
   rw[er] at h;refine⟨q2,d,rfl,er,h,?_⟩;unfold vt at er;split at er;·rename_i hl;rw[<-wM ea];exact hl
   ·cases er
def dv(S:TX)(i:Info×List (Nat×Pos)):List (Pos×Str):=i.2.map λp=>(p.2,S.q p.1)
def freeOk(names:List (Str×ZS))(sc:Scope):Bool:=sc.names.all λy=>decide (y.2≠.free)||decide (names.lookup y.1=Δ .cell)
def Ei(S:TX)(i:Info×List (Nat×Pos))(ls:List (Nat×List Nat)):Bool:=ls.all λp=>match S.ci p.1 with|some ci=>decide (p.2.map (λj=>i.1.N[j]?)=ci.fr.map Δ)&&ci.fr.all λx=>decide ((aG i.1.st).names.lookup x=Δ .cell)|none=>Ξ
def GU(S:TX)(i:Info×List (Nat×Pos))(k:Nat)(pa:ZQ)(bo:Expr)(sc:Scope)(pos:Pos):Bool:=match S.ci k with|some ci=>decide ((k,pos)∈i.2)&&pR S ci pa bo sc&&freeOk (aG i.1.st).names sc&&decide (ci.qual=(i.1.name++".<locals>.")++"<lambda>")|none=>Ξ
def GV(S:TX)(i:Info×List (Nat×Pos))(j k:Nat)(nm:Str)(pa:ZQ)(bo:List Stmt)(sc:Scope)(pos:Pos):Bool:=match S.ci k with|some ci=>decide ((k,pos)∈i.2)&&pT S ci pa bo sc&&freeOk (aG i.1.st).names sc&&decide (ci.qual=(i.1.name++".<locals>.")++nm)&&decide (i.1.N[j]?=Δ nm)&&(decide ((aG i.1.st).names.lookup nm=Δ .local)||decide ((aG i.1.st).names.lookup nm=Δ .cell))|none=>Ξ
def GW(S:TX)(i:Info×List (Nat×Pos)):G:=match i.2 with|[]=>{N:=i.1.N,names:=(aG i.1.st).names,fns:=S.fns,hZ:=S.cs,tabs:=S.ts,yH:=S.yH,A1:=S.A1,A2:=S.A2}|_::_=>{N:=i.1.N,names:=(aG i.1.st).names,fns:=[],hZ:=S.cs,tabs:=S.ts,QM:=GU S i,QN:=GV S i,K9:=λf x n ls=>decide (S.fns[f]?=Δ (x,n))&&Ei S i ls,QO:=λ_ _ _=>Ξ,cv:=Ξ}
def GX(S:TX)(i:Info×List (Nat×Pos)):Bool:=uj (GW S i) i.1.F.body (lD i.1.st)&&decide (i.1.F.np=i.1.ps.length)&&decide (i.1.F.nn=i.1.N.length)&&(i.2.isEmpty||!i.1.F.sh)
structure yb(K:Xf)(mg:Str->Option Value)(S:TX)(tabs:List (Addr×List (Pos×Str)))(a:Nat->Addr)(fd:Nat->Zb)(cP:Nat->Addr×Addr):Prop where
 fn:∀(k:Nat) (i:Info×List (Nat×Pos)),S.is[k]?=Δ i->(∃x,my K x i.1.name i.1.st (a k) (fd k))/\(k < S.nf->mg i.1.name=Δ (.ref (a k)))/\Binds K (fd k) i.1.ps []/\nr i.1.N i.1.ps (aG i.1.st)/\GX S i=Λ
 bl:∀x∈ud,mg x=Θ
 cs:∀x i,S.cs.lookup x=Δ i->∃t,mg x=Δ (.int i t)
 tb:∀x t,S.ts.lookup x=Δ t->∃a,mg x=Δ (.ref a)/\Qf K a t
 cl:∀q∈S.ks,∃A,Xr K Xk q.name=Δ (Δ (.ref A))/\mg q.name=Δ (.ref A)/\AY K A/\(∀f∈q.rg,jJ K A f)/\(∀m k,q.GP.lookup m=Δ k->Bd K A m (a k))/\∀k,q.GP.lookup ("__init__":Str)=Δ k->Mk K A (a k)
 mkr:∀(k:Nat) (i:Info×List (Nat×Pos)),S.is[k]?=Δ i->i.2≠[]->(fd k).code=.ref (cP k).1/\((cP k).2,dv S i)∈tabs/\Apart (dv S i)/\∀t∈tabs,t.1=(cP k).2->t.2=dv S i
section
variable{P:Yb}{w:World}{K:Xf}{mg:Str->Option Value}{S:TX}{tabs:List (Addr×List (Pos×Str))}{a:Nat->Addr}{fd:Nat->Zb}{cP:Nat->Addr×Addr}
structure jV(mg:Str->Option Value)(S:TX)(cP:Nat->Addr×Addr)(base:Heap):Prop where
 code:∀(k:Nat) (i:Info×List (Nat×Pos)),S.is[k]?=Δ i->i.2≠[]->Zl base (cP k).1 (cP k).2
 bm:BMain mg base
def kZ(P:Yb)(w:World)(K:Xf)(mg:Str->Option Value)(S:TX)(tabs:List (Addr×List (Pos×Str)))(a:Nat->Addr)(fd:Nat->Zb)(n:Nat)(base:Heap):Prop:=
 ∀(k:Nat) (i:Info×List (Nat×Pos)),S.is[k]?=Δ i->gp P w K mg base u0 (lv n) (a k) (fd k) i.1.ps (BR (mO S K base tabs) (callC S.Fs n k) i.1.F.np)
def yc(P:Yb)(w:World)(K:Xf)(mg:Str->Option Value)(S:TX)(tabs:List (Addr×List (Pos×Str)))(n:Nat)(base:Heap):Prop:=
 ∀(k:Nat) (b c:Addr) (bW:List V),n9 S base k b c bW->∃fd ps,gp P w K mg base u0 (lv n) b fd ps (QQ (mO S K base tabs) (callC S.Fs n k) c (S.q k) bW)/\Binds K fd ps []
theorem GY(h:n9 S base k b c bW):∃oc od fd sl,base.get? b=Δ ⟨oc,od,.func fd,sl⟩:=by obtain⟨ci,o,sc,cl,_,ho,hf,_⟩:=h;rcases hf with ⟨_,_,_,_,rfl,_⟩|⟨_,_,_,_,_,_,rfl,_⟩<;>exact⟨_,_,_,_,ho⟩
theorem zX(T:yb K mg S tabs a fd cP)(D:kZ P w K mg S tabs a fd n base)(hX:X.prog=P/\X.w=w/\X.K=K/\X.mg=mg/\X.base=base)(hr:de (lv n+1) X.A)(Ro:af X kt=mO S K base tabs):∀(k) (x) (m),S.fns[k]?=Δ (x,m)->uc X kt (callC S.Fs n k) x m:=by obtain⟨rfl,rfl,rfl,rfl,rfl⟩:=hX;intro j x nn hj;obtain⟨hk,i2,ej,e2⟩:=TX.GQ hj;cases e2;obtain⟨⟨x2,F2⟩,JJ,u5,_⟩:=T.fn j i2 ej;exact⟨⟨lv n,a j,fd j,i2.1.ps,by rw[Ro];exact D j i2 ej,hr.mono (Y6 _),JJ hk,F2.kp,u5⟩⟩
theorem zY{X:Cx}(T:yb K mg S tabs a fd cP)(hK:X.K=K):∀c f,S.yH c f=Λ->∃A,Xr X.K Xk c=Δ (Δ (.ref A))/\AY X.K A/\jJ X.K A f:=by subst hK;intro c f h;unfold TX.yH at h;rw[YV] at h;obtain⟨q,hq,h⟩:=h;simp only[W3,qqq,YV] at h;obtain⟨rfl,f',hf,rfl⟩:=h;obtain⟨A,k1,k2,k3,k4,_⟩:=T.cl q hq;exact⟨A,k1,k3,k4 _ hf⟩
theorem Ld(h:S.np k=Δ n):∃i,S.is[k]?=Δ i/\i.1.F.np=n:=by unfold TX.np at h;cases ej:S.is[k]? with|none=>rw[ej] at h;cases h|some i=>rw[ej] at h;exact⟨i,rfl,by simpa using h⟩
theorem zZ(T:yb K mg S tabs a fd cP)(D:kZ P w K mg S tabs a fd n base)(hX:X.prog=P/\X.w=w/\X.K=K/\X.mg=mg/\X.base=base)(hr:de (lv n+1) X.A)(Ro:af X kt=mO S K base tabs):∀k c m nn,S.A1 k c m nn=Λ->∃A l fa fd ps,Xr X.K Xk c=Δ (Δ (.ref A))/\AY X.K A/\Bd X.K A m fa/\gp X.prog X.w X.K X.mg X.base u0 l fa fd ps (BR (af X kt) (callC S.Fs n k) (nn+1))/\de l X.A/\Binds X.K fd ps []:=by obtain⟨rfl,rfl,rfl,rfl,rfl⟩:=hX;intro k c m nn h;unfold TX.A1 at h;rw[YV] at h;obtain⟨q,hq,h⟩:=h;simp only[W3,qqq] at h;obtain⟨⟨rfl,hm⟩,hn⟩:=h;obtain⟨i,ei,en⟩:=Ld hn;obtain⟨A,k1,k2,k3,k4,k5,_⟩:=T.cl q hq;obtain⟨_,_,u5,_⟩:=T.fn k i ei;refine⟨A,lv n,a k,fd k,i.1.ps,k1,k3,k5 _ _ hm,?_,hr.mono (Y6 _),u5⟩;have:=D k i ei;rw[Ro,<-en];exact this
theorem z8(T:yb K mg S tabs a fd cP)(D:kZ P w K mg S tabs a fd n base)(hX:X.prog=P/\X.w=w/\X.K=K/\X.mg=mg/\X.base=base)(hr:de (lv n+1) X.A)(Ro:af X kt=mO S K base tabs):∀k c nn,S.A2 k c nn=Λ->∃A l fa fd ps,X.mg c=Δ (.ref A)/\Xr X.K Xk c=Δ (Δ (.ref A))/\Mk X.K A fa/\gp X.prog X.w X.K X.mg X.base u0 l fa fd ps (BR (af X kt) (callC S.Fs n k) (nn+1))/\de (l+1) X.A/\Binds X.K fd ps []:=by obtain⟨rfl,rfl,rfl,rfl,rfl⟩:=hX;intro k c nn h;unfold TX.A2 at h;rw[YV] at h;obtain⟨q,hq,h⟩:=h;simp only[W3,qqq] at h;obtain⟨⟨rfl,hm⟩,hn⟩:=h;obtain⟨i,ei,en⟩:=Ld hn;obtain⟨A,k1,k2,k3,k4,k5,k6⟩:=T.cl q hq;obtain⟨_,_,u5,_⟩:=T.fn k i ei;refine⟨A,lv n,a k,fd k,i.1.ps,k2,k1,k6 _ hm,?_,hr,u5⟩;have:=D k i ei;rw[Ro,<-en];exact this
theorem NH(T:yb K mg S tabs a fd cP)(D:kZ P w K mg S tabs a fd n base)(L:yc P w K mg S tabs n base):yc P w K mg S tabs (n+1) base:=by
 intro k b c bW hc;obtain⟨ci,o,sc,cl,HM,ho,hf,xE⟩:=hc;obtain⟨eF,eq⟩:=TX.ND HM;have good:∀(cl:List (Str×Addr)) (A:YF) (outer:List Env) (s:Xp) (H:Hp) (E:XK),kK ci.N ci.ps ci.fr sc->de (lv n+1) (A.deeper (zp ci.qual sc s.heap.objs.size b (.ref c) cl))->
   fA (K6 u0 P w K mg base ci.N ci.qual sc b (.ref c) cl A outer s H E).EM (Ta S base tabs) (gC S ci sc) (callC S.Fs n):=λcl A outer s H E SC hr=>
  {N:=rfl,loc:=λx h=>h,HI:=λx h=>h,gl:=λx h=>h,calm:=rfl,hu:=by have:=hr.un;show(A.deeper _).units+100 < cLine;lia,bl:=T.bl,
   fn:=zX T D ⟨rfl,rfl,rfl,rfl,rfl⟩ hr rfl,cs:=T.cs,tb:=T.tb,
   qB:=λ_ k' a' c' NI h'=>⟨GY h',by obtain⟨f,ps,F,B⟩:=L k' a' c' NI h';exact⟨lv n,f,ps,F,hr.mono (Y6 _),B⟩⟩,
   lam:=λ_ _ _ _ _ h=>absurd (show Ξ=Λ from h) (by decide),iP:=λ_ _ _ _ h=>absurd (show Ξ=Λ from h) (by decide),ja:=λ_ _ _ h=>absurd (show Ξ=Λ from h) (by decide),fld:=zY T rfl,OI:=zZ T D ⟨rfl,rfl,rfl,rfl,rfl⟩ hr rfl,OJ:=z8 T D ⟨rfl,rfl,rfl,rfl,rfl⟩ hr rfl,nK:=λ_ _ _ _ _ _ _ h=>absurd (show Ξ=Λ from h) (by decide),
   cell:=λx h=>absurd rfl (SC.fF _ (XZ h)),nd:=SC.nd,S9:=λx h=>absurd rfl (SC.fF _ (XZ h)),own:=aci}
 have len:BZ ci sc=Λ->∀vs H Q E,QQ (mO S K base tabs) (callC S.Fs (n+1) k) c (S.q k) bW vs H Q E->vs.length=ci.ps.length:=λhb vs H Q E h=>by
  obtain⟨_,m,Z,qs,bq,st,rq,rc,_,h⟩:=h;obtain⟨_,Tb,_,Cw⟩:=n8 hb;obtain⟨_,_,_,_,_,hl⟩:=lL eF Cw h;rw[Xs,Tb] at hl;have e1:=rq.length;have e2:=rc.length;have e3:=xE.len
  lia
 have core:∀{X:Cx},X.K=K->X.base=base->BZ ci sc=Λ->∀{vs:List V} {H:Hp} {Q:VK} {E:XK},QQ (mO S K base tabs) (callC S.Fs (n+1) k) c (S.q k) bW vs H Q E->
   ∃Z0,tS (af X (Ta S base tabs)) Z0 (aj (callC S.Fs n) ci.F.body) {nx:=λ_ H'=>Q .bu H',rt:=Q} (L2.start ci.N (vs++bW)) H:=λ{X} hK hB hb {vs H Q E} h=>by
  obtain⟨_,m,Z,qs,bq,st,rq,rc,as,h⟩:=h;obtain⟨_,_,hnn,Cw⟩:=n8 hb;obtain⟨q2,d,ea,er,h2,_⟩:=lL eF Cw h;exact pU (kb:=mO S K base tabs) hnn (rq.append rc) as hK.symm rfl (λ_ _ _ _ z=>z) rfl ea er h2
 rcases hf with ⟨pa,bo,pm,ct,rfl,aL⟩|⟨nm,pa,bo,doc,pm,ct,rfl,aL⟩
 ·unfold pR at aL;simp only[W3] at aL;obtain⟨⟨⟨_,VY⟩,hb⟩,ON⟩:=aL;obtain⟨SC,_⟩:=n8 hb;refine⟨_,ci.ps,Mw (k:=lv n+1) ho (λvs H Q E h=>⟨c,rfl,by rw[<-eq];exact h.1⟩) SC xE (len hb) (λA outer s H vs Q E hr h=>?_),Binds.all λus hl=>iN VY rfl hl⟩;obtain⟨Z0,ht⟩:=core (X:=K6 u0 P w K mg base ci.N ci.qual sc b (.ref c) cl A outer s H E) rfl rfl hb h;cases VZ:JK ci.F.body with|none=>rw[VZ] at ON;cases ON|some e=>rw[VZ] at ON;rw[JL VZ] at ht;exact⟨_,(aI e _ _ _ bo Z0 (good cl A outer s H E SC hr).toGood ON).1.EM,JN ht⟩
 ·unfold pT at aL;simp only[W3] at aL;obtain⟨⟨⟨_,VY⟩,hb⟩,ON⟩:=aL;obtain⟨SC,_⟩:=n8 hb;refine⟨_,ci.ps,Mu (k:=lv n+1) ho (λvs H Q E h=>⟨c,rfl,by rw[<-eq];exact h.1⟩) SC xE (len hb) (λA outer s H vs Q E hr h=>?_),Binds.all λus hl=>iN VY rfl hl⟩;obtain⟨Z0,ht⟩:=core (X:=K6 u0 P w K mg base ci.N ci.qual sc b (.ref c) cl A outer s H E) rfl rfl hb h;exact⟨_,(dH ci.F.body _ _ _ bo Z0 (good cl A outer s H E SC hr) ON).EM,ht⟩
end
section
variable{K:KB}{H H':Hp}{m Z:List Addr}{P f c:Addr}{bU:List (Pos×Str)}{q:Str}{φ:Heap->Prop}
theorem wN(md:Made H H' P f c bU q φ)(hP:∃ps,H P=Δ (.fk ps))(h:H b=Δ u)(hu:∀ps,u≠.fk ps):H' b=Δ u:=by refine md.keep b u h λz=>?_;obtain⟨ps,e⟩:=hP;rw[z,e] at h;cases h;exact hu ps rfl
theorem made_le(md:Made H H' P f c bU q φ)(hP:∃ps,H P=Δ (.fk ps)):Le K m H m H':=by
 have kp:=λ{b:Addr} {u:HO} (h:H b=Δ u) (hu:∀ps,u≠.fk ps)=>wN md hP h hu;have gr:∀b ps,H b=Δ (.fk ps)->∃more,H' b=Δ (.fk (ps++more)):=λb ps h=>by
  by_cases hb:b=P;·subst hb;exact md.grow ps h
  ·exact⟨#[],by rw[md.keep b _ h hb];simp⟩
 refine⟨⟨[],by simp⟩,λb xs h=>kp h (λ_ z=>nomatch z),λb u h _ hu=>kp h hu,λb h=>.inl h,λb h=>?_,λb h=>?_,λb o u h=>kp h (λ_ z=>nomatch z),λb ψ h=>kp h (λ_ z=>nomatch z),gr⟩
 ·cases e:H b with
  |none=>exact absurd e h|some u=>
   by_cases hu:∃ps,u=.fk ps;·obtain⟨ps,rfl⟩:=hu;obtain⟨more,e2⟩:=gr b ps e;rw[e2];exact λz=>nomatch z
   ·rw[kp e λps z=>hu ⟨ps,z⟩];exact λz=>nomatch z
 ·cases e:gk H b with
  |none=>exact absurd e h|some u=>
   obtain⟨e1,e2⟩:=kL e;by_cases hu:∃ps,u=.fk ps;·obtain⟨ps,rfl⟩:=hu;obtain⟨more,e3⟩:=gr b ps e1;rw[bp e3 (λ_ z=>nomatch z)];exact λz=>nomatch z
   ·have e3:=kp e1 λps z=>hu ⟨ps,z⟩;by_cases hx:∃ψ,u=.ext ψ;·obtain⟨ψ,rfl⟩:=hx;have:∃q,ψ=dB b q:=Xz λz=>e2 ψ rfl λq' e'=>z ⟨q',e'⟩;obtain⟨q',rfl⟩:=this;rw[fW e3];exact λz=>nomatch z
    ·rw[bp e3 λψ z=>hx ⟨ψ,z⟩];exact λz=>nomatch z
theorem C0{st:aN}(as:aB K H m Z st)(md:Made H H' P f c bU q φ)(hP:∃ps,H P=Δ (.fk ps))(un:∀t∈K.tabs,t.1=P->t.2=bU):aB K H' m Z st:=by
 have le:Le K m H m H':=made_le md hP;refine⟨as.len,as.nd,λn o h=>?_,λb h=>le.CG b (as.zt b h),as.zm,λt ht=>?_⟩
 ·obtain⟨a,e,r⟩:=as.at_ n o h;exact⟨a,e,r.mono (λb u hb hu=>wN md hP hu λps z=>by
   rcases hb with w1|w1;·subst w1;rw[z] at hu;exact r.qR.2.2.2.2.1 ps hu
   ·rw[w1] at hu;cases hu;cases z) λp v z=>z.le le⟩
 ·by_cases e:t.1=P;·obtain⟨ps,h1,h2⟩:=md.tab;exact⟨ps,by rw[e];exact h1,by rw[un t ht e];exact h2⟩
  ·obtain⟨ps,h1,h2⟩:=as.tab t ht;exact⟨ps,md.keep _ _ h1 e,fz.same le.ext h2⟩
end
abbrev r6(S:TX)(base:Heap)(tabs:List (Addr×List (Pos×Str)))(cells:List (Str×Addr)):KT where
 tabs:=tabs
 qB:=n9 S base
 HJ:=λk a c _ h=>∃ci o sc,S.ci k=Δ ci/\h.get? a=Δ o/\GR S ci o sc (iO cells sc.names []) c/\∀x,(x,Xt)∈sc.names->∃c,cells.lookup x=Δ c
 zD:=S.q
theorem uk{S:TX}:∀(f c) (ct) (g1 g2),(r6 S base tabs cells).HJ k f c ct g1->(∀o,g1.get? f=Δ o->g2.get? f=Δ o)->(r6 S base tabs cells).HJ k f c ct g2:=
 λf c ct g1 g2 ⟨ci,o,sc,h1,h2,h3⟩ hk=>⟨ci,o,sc,h1,hk o h2,h3⟩
section
variable{X:Cx}{S:TX}{base:Heap}{tabs:List (Addr×List (Pos×Str))}{C:Nat->List P->aN->R P}{i:Info×List (Nat×Pos)}{c P:Addr}{Z:List Addr}
theorem wO(hc:∀x,(aG i.1.st).names.lookup x=Δ .cell->∃c,X.env.cells.lookup x=Δ c)(h:freeOk (aG i.1.st).names sc=Λ):∀x,(x,Xt)∈sc.names->∃c,X.env.cells.lookup x=Δ c:=λx hx=>by
 unfold freeOk at h;rw[YE] at h;have:=h _ hx;simp only[ZO,qqq] at this;rcases this with z|z;·exact absurd rfl z
 ·exact hc x z
theorem Rp(hB:X.base=base)(M:Maker X c P (dv S i))(hP:(P,dv S i)∈tabs)(un:∀t∈tabs,t.1=P->t.2=dv S i)(hq:X.env.qual=i.1.name++".<locals>.")(hc:∀x,(aG i.1.st).names.lookup x=Δ .cell->∃c,X.env.cells.lookup x=Δ c)(h:GU S i k pa bo sc pos=Λ):PE X (.Lambda pa bo sc pos) (tE (af X (r6 S base tabs X.env.cells)) Z (aa C (.lam k))):=by
 unfold GU at h;split at h
 ·rename_i ci HM;simp only[W3,qqq] at h;obtain⟨⟨⟨h1,h2⟩,h3⟩,h4⟩:=h;have eq:S.q k=X.env.qual++"<lambda>":=by rw[(TX.ND HM).2,h4,hq]
  have hs:(pos,X.env.qual++"<lambda>")∈dv S i:=by rw[<-eq];exact YQ.mpr ⟨(k,pos),h1,rfl⟩
  have qr:=h2;unfold pR at qr;simp only[W3] at qr;have fr:=wO (X:=X) hc h3;refine PE.imp (MD (φ:=λf c ct=>(r6 S base tabs X.env.cells).HJ k f c ct) M hs (kM qr.1.1.2 X.env).1 (l9 fr) (λf c ct hh e=>⟨ci,_,sc,HM,e,.inl ⟨pa,bo,_,ct,by rw[h4,<-hq],h2⟩,fr⟩) (λf c ct g1 g2=>uk f c ct g1 g2)) ?_;rintro σ H Q ⟨m,r,st,ar,as,h⟩;rw[pA] at h;obtain⟨ps,e1,e2⟩:=as.tab _ hP;refine⟨ps,e1,e2,λf c ct H' md=>?_⟩;refine h m H' (made_le md ⟨ps,e1⟩) (C0 as md ⟨ps,e1⟩ un) (.ref f) ?_;rw[ak];exact⟨f,c,ct,rfl,md.fn,by show H' c=Δ (.ext (dB c (S.q k)));rw[eq];exact md.code⟩
 ·cases h
theorem NJ(hB:X.base=base)(M:Maker X c P (dv S i))(hP:(P,dv S i)∈tabs)(un:∀t∈tabs,t.1=P->t.2=dv S i)(hq:X.env.qual=i.1.name++".<locals>.")(hc:∀x,(aG i.1.st).names.lookup x=Δ .cell->∃c,X.env.cells.lookup x=Δ c)(hN:X.N=i.1.N)(nd:i.1.N.Nodup)(NK:X.env.scope=aG i.1.st)(EK:∀x,X.fn x=Λ)(h:GV S i j k nm pa bo sc pos=Λ):PS X (.FunctionDef nm pa bo [] Θ [] sc Θ nm pos) (tS (af X (r6 S base tabs X.env.cells)) Z (aP C (.nK j k))):=by
 unfold GV at h;split at h
 ·rename_i ci HM;simp only[W3,qqq,ZO] at h;obtain⟨⟨⟨⟨⟨h1,h2⟩,h3⟩,h4⟩,h5⟩,h6⟩:=h;have FQ:Loc X.env.scope nm:=by rw[NK];exact h6
  have qe:aa2 X.env nm nm=X.env.qual++nm:=by unfold aa2;rw[if_neg];show ¬((X.env.scope.names.lookup nm==Δ ZS.globalExplicit)=Λ);rw[NK];rcases h6 with z|z<;>rw[z]<;>decide
  have eq:S.q k=aa2 X.env nm nm:=by rw[(TX.ND HM).2,h4,qe,hq]
  have hs:(pos,aa2 X.env nm nm)∈dv S i:=by rw[<-eq];exact YQ.mpr ⟨(k,pos),h1,rfl⟩
  have qr:=h2;unfold pT at qr;simp only[W3] at qr;have fr:=wO (X:=X) hc h3;have dp:=kM qr.1.1.2 X.env;refine PS.imp (MF (φ:=λf c ct=>(r6 S base tabs X.env.cells).HJ k f c ct) M hs dp.2.1 dp.2.2 (DU qr.1.1.2 X.env) (l9 fr) (by rw[hN];exact nd) (by rw[hN];exact h5) FQ (.inl (EK nm))
   (λf c ct doc hh e=>⟨ci,_,sc,HM,e,.inr ⟨nm,pa,bo,doc,_,ct,by rw[h4,<-hq,<-qe],h2⟩,fr⟩) (λf c ct g1 g2=>uk f c ct g1 g2)) ?_
  rintro D σ H ⟨m,r,st,ar,as,h⟩;rw[tK] at h;obtain⟨ps,e1,e2⟩:=as.tab _ hP;refine⟨ps,e1,e2,λf c ct H' md=>?_⟩;have le:Le (af X (r6 S base tabs X.env.cells)) m H m H':=made_le md ⟨ps,e1⟩;refine h m H' le (C0 as md ⟨ps,e1⟩ un) _ ((ar.le le).set ?_);rw[ak];exact⟨f,c,ct,rfl,md.fn,by show H' c=Δ (.ext (dB c (S.q k)));rw[eq];exact md.code⟩
 ·cases h
end
theorem HH.keeps(C:HH B cl F bW)(k:∀b o,B.get? b=Δ o->B'.get? b=Δ o):HH B' cl F bW:=
 ⟨C.inj,C.only,λi x v h1 h2=>by obtain⟨c,u,a,b,d⟩:=C.at_ i x v h1 h2;exact⟨c,u,a,b.keeps k,d⟩,C.len⟩
theorem n9.keeps{S:TX}(h:n9 S B k a c bW)(kp:∀b o,B.get? b=Δ o->B'.get? b=Δ o):n9 S B' k a c bW:=by obtain⟨ci,o,sc,cl,h1,h2,h3,h4⟩:=h;exact⟨ci,o,sc,cl,h1,kp _ _ h2,h3,HH.keeps h4 kp⟩
theorem Ej{S:TX}(h:GR S ci o sc cl c):BZ ci sc=Λ/\∃fd,o.data=.func fd:=by
 rcases h with ⟨pa,bo,pm,ct,rfl,aL⟩|⟨nm,pa,bo,doc,pm,ct,rfl,aL⟩
 ·unfold pR at aL;simp only[W3] at aL;exact⟨aL.1.2,_,rfl⟩
 ·unfold pT at aL;simp only[W3] at aL;exact⟨aL.1.2,_,rfl⟩
theorem C1{α:Type}{x:α}:∀{l:List (Nat×α)},l.lookup k=Δ x->(k,x)∈l
 |[],h=>by cases h|(j,y)::l,h=>by rw[XB] at h;cases hb:k==j with|true=>rw[hb] at h;cases h;rw[eq_of_beq hb];exact W8|false=>rw[hb] at h;exact W5 _ (C1 h)
theorem NL(h:Rd H a (.lst us)):Rd (gk H) a (.lst us):=by
 rcases h with h|⟨o,h⟩;·exact .inl (bp h (λ_ z=>nomatch z))
 ·exact .inr ⟨o,bp h (λ_ z=>nomatch z)⟩
section
variable{X:Cx}{S:TX}{base:Heap}{tabs:List (Addr×List (Pos×Str))}{C:Nat->List P->aN->R P}{i:Info×List (Nat×Pos)}{Z:List Addr}{η:List (Addr×Obj)}{σ:L2.St}{H:Hp}{s:Xp}{ls:List (Nat×List Nat)}{r:b9}
theorem ak.Rq(hk:K1.K=K2.K)(hq:K1.zD=K2.zD)(hc:∀k a c bW,K1.qB k a c bW->K2.qB k a c bW)(hp:cz x=Λ)(h:ak K1 H [] Z x v):ak K2 (L2.gk H) [] Z x v:=by
 have h1:ak K2 H [] Z x v:=ak.kb hk hq hc hp h;have go:∀n:Nat,(∀(x:P) (v:V),sizeOf x<=n->cz x=Λ->ak K2 H [] Z x v->ak K2 (L2.gk H) [] Z x v)/\(∀(xs:List P) (vs:List V),sizeOf xs<=n->cC xs=Λ->ah K2 H [] Z xs vs->ah K2 (L2.gk H) [] Z xs vs):=λn=>by
  induction n with
  |zero=>
   refine⟨λx v hs=>?_,λxs vs hs=>?_⟩;·cases x<;>simp at hs
   ·cases xs<;>simp at hs
  |succ n ih=>
   refine⟨λx v hs hp h=>?_,λxs vs hs hp h=>?_⟩;·cases x with|d y=>rw[ak] at h ⊢;exact aH.congr (λa us e=>bp e (λ_ z=>nomatch z)) (λa us _ _ e=>NL e) h|obj y=>simp[cz] at hp|gq y=>simp[cz] at hp|lf y=>simp[cz] at hp|fn k bq=>rw[ak] at h ⊢;obtain⟨a,c,bW,e,q,hx,rr⟩:=h;exact⟨a,c,bW,e,q,fW hx,ih.2 bq bW (by simp at hs;lia) (by simpa[cz] using hp) rr⟩
   ·cases xs with|nil=>exact h|cons x xs=>rw[ah] at h ⊢;obtain⟨v,pN,e,rr,rs⟩:=h;simp only[cC,W3] at hp;simp at hs;exact⟨v,pN,e,ih.1 x v (by lia) hp.1 rr,ih.2 xs pN (by lia) hp.2 rs⟩
 exact(go (sizeOf x)).1 x v (Xd _) hp h1
theorem GZ(I:Inv X η σ H s)(hB:X.base=base)(EK:∀x,X.fn x=Λ)(hN:X.N=i.1.N)(NK:X.env.scope=aG i.1.st)(V0:Ei S i ls=Λ)(ar:cA (af X (r6 S base tabs X.env.cells)) H [] Z r σ):
  ∀(n) (p q) (v),conv ls r n p=Δ q->ak (af X (r6 S base tabs X.env.cells)) H [] Z p v->ak (mO S X.K (qX s.heap H (jF X.stack)) tabs) (L2.gk H) [] Z q v:=by
 have kp:∀b o,base.get? b=Δ o->(qX s.heap H (jF X.stack)).get? b=Δ o:=λb o e=>I.FU (by rw[hB];exact e);have Rr:∀k a c bW,(af X (r6 S base tabs X.env.cells)).qB k a c bW->(mO S X.K (qX s.heap H (jF X.stack)) tabs).qB k a c bW:=λk a c bW h=>n9.keeps h kp;intro n;induction n with
 |zero=>intro p q v h;cases h|succ n ih=>
  intro p q v h hr;cases p with
  |d x=>cases h;exact ak.Rq (K1:=af X (r6 S base tabs X.env.cells)) (K2:=mO S X.K (qX s.heap H (jF X.stack)) tabs) rfl rfl Rr rfl hr|gq ns=>
   cases h;rw[ak] at hr ⊢;obtain⟨a,e,hf⟩:=hr;refine⟨a,e,?_⟩;rcases hf with ⟨o,hf⟩|hf
   ·exact .inl ⟨o,bp hf (λ_ z=>nomatch z)⟩
   ·exact .inr hf
  |obj k=>cases h|fn k bq=>
   have h':(if cC bq=Λ then Δ (P.fn k bq) else Θ)=Δ q:=h;split at h';·rename_i hp;cases h';exact ak.Rq (K1:=af X (r6 S base tabs X.env.cells)) (K2:=mO S X.K (qX s.heap H (jF X.stack)) tabs) rfl rfl Rr (by simpa[cz] using hp) hr
   ·cases h'
  |lf k=>
   have h':((ls.lookup k).bind λjs=>(js.mapM λj=>((r[j]?).join).bind (conv ls r n)).map λbq=>P.fn k bq)=Δ q:=h;obtain⟨js,e1,h2⟩:=cy h';obtain⟨bq,e2,rfl⟩:=fZ h2;rw[ak] at hr;obtain⟨a,c,ct,rfl,ha,Vz⟩:=hr;obtain⟨hφ,_,_⟩:=I.aL a _ ha;obtain⟨ci,o,sc,HM,ho,DJ,yO⟩:=hφ;obtain⟨hcb,fd0,hfd⟩:=Ej DJ;obtain⟨SC,_⟩:=n8 hcb;have hfx:BF a ((af X (r6 S base tabs X.env.cells)).HJ k a c ct):=λq' e=>by have Rt:=(I.aL a _ ha).1;rw[e] at Rt;obtain⟨c2,o2,vs2,t2,e2,HE,hd2,_⟩:=Rt;cases e2;rw[ho] at HE;cases HE;rw[hfd] at hd2;cases hd2
   have anf:∀{b:Addr},H b≠Θ->b∉jF X.stack:=λ{b} hb z=>hb (I.ni b z);have aL:=YE.mp (show(ls.all _)=Λ from V0) (k,js) (C1 e1);simp only[HM,W3,qqq,YE] at aL;obtain⟨hjs,NM⟩:=aL;have key:∀(js:List Nat) (fr:List Str) (bq:List P),js.map (λj=>i.1.N[j]?)=fr.map Δ->(∀x∈fr,(aG i.1.st).names.lookup x=Δ .cell)->(js.mapM λj=>((r[j]?).join).bind (conv ls r n))=Δ bq->
     ∃bW,ah (mO S X.K (qX s.heap H (jF X.stack)) tabs) (L2.gk H) [] Z bq bW/\bW.length=fr.length/\∀(l:Nat) (x:Str) (v:V),fr[l]?=Δ x->bW[l]?=Δ v->∃c u,X.env.cells.lookup x=Δ c/\(qX s.heap H (jF X.stack)).IsCell c (Δ u)/\RelV v u:=by
    intro js;induction js with
    |nil=>intro fr bq hj _ hm;cases fr with|cons x fr=>simp at hj|nil=>simp at hm;subst hm;exact⟨[],by rw[ah],rfl,λl x v h=>by simp at h⟩
    |cons j js ihj=>
     intro fr bq hj xE hm;cases fr with
     |nil=>simp at hj|cons x fr=>
      rw[Xi,Xi] at hj;injection hj with hj1 V1;rw[List.mapM_cons] at hm;obtain⟨q1,hq1,JJ⟩:=cy (show(((r[j]?).join).bind (conv ls r n)).bind _=Δ bq from hm);obtain⟨qs,hqs,hm3⟩:=cy (show(js.mapM λj=>((r[j]?).join).bind (conv ls r n)).bind _=Δ bq from JJ);cases (show Δ (q1::qs)=Δ bq from hm3);obtain⟨pj,Ru,hcj⟩:=cy hq1;have e':r[j]?=Δ (Δ pj):=by cases z:r[j]? with|none=>rw[z] at Ru;cases Ru|some o=>rw[z] at Ru;simp at Ru;rw[Ru]
      obtain⟨vj,ej,rj⟩:=ar.at_ j pj e';obtain⟨bW,r1,r2,r3⟩:=ihj fr qs V1 (λy hy=>xE y (W5 _ hy)) hqs;have nk:=xE x W8;have Fi:X.env.kindOf x=Δ .cell:=by show X.env.scope.names.lookup x=_;rw[NK];exact nk
      obtain⟨mm,hn,hl⟩:=I.loc;obtain⟨u,ru,lk⟩:=hl j x vj (by rw[hN];exact hj1) ej (.inr (.inl (by rw[NK];exact nk)));refine⟨vj::bW,by rw[ah];exact⟨vj,bW,rfl,ih pj q1 vj hcj rj,r1⟩,by simp[r2],λl y v hy hv=>?_⟩;cases l with
      |succ l=>exact r3 l y v (by simpa using hy) (by simpa using hv)|zero=>
       simp at hy hv;subst hy;subst hv;rcases lk with ⟨hk,_⟩|⟨_,c',Cn,NN⟩
       ·rw[Fi] at hk;cases hk
       ·refine⟨c',u,Cn,?_,ru⟩;obtain⟨oc,LD,hdc⟩:=NN;refine⟨oc,xG LD (jO (I.kf x c' Cn)) λz=>?_,hdc⟩;rcases Zy.mp (I.oS c' z) with w1|w1;·exact I.Kx x c' Cn w1
        ·obtain⟨_,o3,ho3,_⟩:=I.ok.mo.mem w1;exact YX _ (Xx (Xl ho3) (I.ok.LC x c' (EK x) Cn))
   obtain⟨bW,k1,k2,k3⟩:=key js ci.fr bq hjs NM e2;rw[ak];refine⟨a,c,bW,rfl,⟨ci,o,sc,_,HM,xG ho (xF ha hfx) (anf (by rw[ha];exact λz=>nomatch z)),DJ,?_⟩,fW Vz,k1⟩;have look:∀x,(x,Xt)∈sc.names->(iO X.env.cells sc.names []).lookup x=X.env.cells.lookup x:=λx hx=>(jP (x:=x) (acc:=[]) yO).1 hx;have NO:∀x,(x,Xt)∉sc.names->(iO X.env.cells sc.names []).lookup x=Θ:=λx hx=>(jP (x:=x) (acc:=[]) yO).2 hx;have V2:∀x c,(iO X.env.cells sc.names []).lookup x=Δ c->(x,Xt)∈sc.names:=λx c h=>Xz λz=>by rw[NO x z] at h;cases h
   refine⟨λx y c' h1 h2=>?_,λx c' h=>SC.Qy _ (V2 x c' h) rfl,λl x v h1 h2=>?_,k2⟩;·rw[look x (V2 x c' h1)] at h1;rw[look y (V2 y c' h2)] at h2;exact I.ok.inj x y c' h1 h2
   ·obtain⟨c',u,g1,g2,g3⟩:=k3 l x v h1 h2;exact⟨c',u,by rw[look x (XZ (SC.fre x (Xw h1)))];exact g1,g2,g3⟩
end
theorem Ek(h:H b=H' b):gk H b=gk H' b:=by unfold gk;rw[h]
section
variable{K1 K2:KB}{H1 H2:Hp}{m Z:List Addr}
theorem lM(hn:∀b φ,H1 b=Δ (.ext φ)->BF b φ->H2 b=Θ)(h:H2 b=Δ u):zq H1 H2 b=Δ u:=by rw[sT λφ z hf=>by rw[hn b φ z hf] at h;cases h];exact h
theorem G0(hn:∀b φ,H1 b=Δ (.ext φ)->BF b φ->H2 b=Θ)(h:gk H2 b≠Θ):gk (zq H1 H2) b≠Θ:=by have e:zq H1 H2 b=H2 b:=sT λφ z hf=>h (jO (hn b φ z hf));rw[Ek e];exact h
theorem Rv(hn:∀b φ,H1 b=Δ (.ext φ)->BF b φ->H2 b=Θ)(le:Le K1 [] (gk H1) [] H2):Le K2 [] H1 [] (zq H1 H2):=by
 have mono:=λ{b:Addr} {u:HO} (h:H2 b=Δ u)=>lM hn h;have ext:∀b φ,H1 b=Δ (.ext φ)->zq H1 H2 b=Δ (.ext φ):=λb φ e=>by
  by_cases hf:BF b φ;·exact CB e hf
  ·have:∃q,φ=dB b q:=Xz λz=>hf λq' e'=>z ⟨q',e'⟩;obtain⟨q,rfl⟩:=this;exact mono (le.ext _ _ (fW e))
 have keep:∀b u,H1 b=Δ u->(∀ps,u≠.fk ps)->zq H1 H2 b=Δ u:=λb u e hu=>by
  by_cases hx:∃φ,u=.ext φ;·obtain⟨φ,rfl⟩:=hx;exact ext b φ e
  ·exact mono (le.keep _ _ (bp e λφ z=>hx ⟨φ,z⟩) (by simp) hu)
 have fk:∀b ps,H1 b=Δ (.fk ps)->∃more,zq H1 H2 b=Δ (.fk (ps++more)):=λb ps e=>by obtain⟨more,e2⟩:=le.fk b ps (bp e (λ_ z=>nomatch z));exact⟨more,mono e2⟩
 refine⟨⟨[],rfl⟩,λb xs e=>keep b _ e (λ_ z=>nomatch z),λb u e _ hu=>keep b u e hu,(λb h=>nomatch h),λb h=>?_,λb h=>?_,λb o u e=>keep b _ e (λ_ z=>nomatch z),ext,fk⟩
 ·cases e:H1 b with
  |none=>exact absurd e h|some u=>
   by_cases hu:∃ps,u=.fk ps;·obtain⟨ps,rfl⟩:=hu;obtain⟨more,e2⟩:=fk b ps e;rw[e2];exact λz=>nomatch z
   ·rw[keep b u e λps z=>hu ⟨ps,z⟩];exact λz=>nomatch z
 ·refine G0 hn (le.CG b ?_);cases e:gk H1 b with
  |none=>exact absurd e h|some o=>
   obtain⟨_,e2⟩:=kL e;by_cases hx:∃φ,o=.ext φ;·obtain⟨φ,rfl⟩:=hx;have:∃q,φ=dB b q:=Xz λz=>e2 φ rfl λq' e'=>z ⟨q',e'⟩;obtain⟨q,rfl⟩:=this;rw[fW e];exact λz=>nomatch z
   ·rw[bp e λφ z=>hx ⟨φ,z⟩];exact λz=>nomatch z
theorem Rw(ht:K1.tabs=K2.tabs)(hn:∀b φ,H1 b=Δ (.ext φ)->BF b φ->H2 b=Θ)(as:aB K1 H2 [] Z []):aB K2 (zq H1 H2) [] Z []:=
 lK (λb h=>G0 hn (as.zt b h)) λt h=>by obtain⟨ps,e1,e2⟩:=as.tab t (by rw[ht];exact h);exact⟨ps,lM hn e1,fz.same (λb φ e=>lM hn e) e2⟩
theorem NP(hn:∀b φ,H1 b=Δ (.ext φ)->BF b φ->H2 b=Θ)(h:aH K1 H2 [] Z x v):aH K2 (zq H1 H2) [] Z x v:=
 aH.congr (λb us e=>lM hn e) (λb us _ _ e=>by
  rcases e with e|⟨o,e⟩;·exact .inl (lM hn e)
  ·exact .inr ⟨o,lM hn e⟩) (aH.kb h)
end
theorem G1{st:aN}(h:Ok kb Z (ma c o st) m H Q):∃qs x,o=Δ qs/\st=[]/\c qs []=.ok (.d x) []/\Ok kb Z (R.ok (P.d x) []) m H Q:=by
 unfold ma at h;split at h
 ·rename_i qs;cases hx:c qs [] with
  |ex x s=>rw[hx] at h;exact(show False from h).elim|no=>rw[hx] at h;exact(show False from h).elim|ok p st2=>
   rw[hx,ae] at h;split at h;·rename_i x;exact⟨qs,x,rfl,rfl,hx,h⟩
   ·exact(show False from h).elim
 ·exact(show False from h).elim
section
variable{X:Cx}{S:TX}{base:Heap}{tabs:List (Addr×List (Pos×Str))}{i:Info×List (Nat×Pos)}{Z:List Addr}{η:List (Addr×Obj)}{σ:L2.St}{H:Hp}{s:Xp}{ls:List (Nat×List Nat)}{r:b9}
theorem wQ(cr:∀(p q:P) (v:V),conv ls r 3 p=Δ q->ak (af X (r6 S base tabs X.env.cells)) H [] Z p v->ak (mO S X.K (qX s.heap H (jF X.stack)) tabs) (L2.gk H) [] Z q v):
  ∀{ps qs} {vs},ps.mapM (conv ls r 3)=Δ qs->ah (af X (r6 S base tabs X.env.cells)) H [] Z ps vs->ah (mO S X.K (qX s.heap H (jF X.stack)) tabs) (L2.gk H) [] Z qs vs
 |[],qs,vs,h,rr=>by simp at h;subst h;rw[ah] at rr ⊢;exact rr|p::ps,qs,vs,h,rr=>by rw[List.mapM_cons] at h;obtain⟨q1,e1,h2⟩:=cy (show(conv ls r 3 p).bind _=Δ qs from h);obtain⟨q2,e2,h3⟩:=cy (show(ps.mapM (conv ls r 3)).bind _=Δ qs from h2);cases (show Δ (q1::q2)=Δ qs from h3);rw[ah] at rr ⊢;obtain⟨v,pN,e,r1,r2⟩:=rr;exact⟨v,pN,e,cr p q1 v e1 r1,wQ cr e2 r2⟩
variable{K:Xf}{mg:Str->Option Value}{a:Nat->Addr}{fd:Nat->Zb}{cP:Nat->Addr×Addr}
theorem JO(T:yb X.K X.mg S tabs a fd cP)(hB:X.base=base)(EK:∀x,X.fn x=Λ)(hN:X.N=i.1.N)(NK:X.env.scope=aG i.1.st)(hr:de (lv n) X.A)(D:∀zr,jV X.mg S cP zr->kZ X.prog X.w X.K X.mg S tabs a fd n zr)(bo:jV X.mg S cP X.base)(hf:S.fns[f]?=Δ (x,nn))(V0:Ei S i ls=Λ)(hl:cn.length=nn)(hg:Gl X x)(hp:aU x=Λ)(hs:∀y∈e::es,notStar y=Λ)(ha:PA X (e::es) (tA (af X (r6 S base tabs X.env.cells)) Z (aF (callC S.Fs n) cn))):
  PE X (.Call (.Name x p) (e::es) [] pos) (tE (af X (r6 S base tabs X.env.cells)) Z (aa (callC S.Fs n) (.iP f cn ls))):=by
 obtain⟨hk,i2,ej,e2⟩:=TX.GQ hf;cases e2;obtain⟨⟨x2,F2⟩,hm,hb,_⟩:=T.fn f i2 ej;have hm:=hm hk;intro η s σ H Q I h;obtain⟨m,r,st,ar,as,h⟩:=h;rw[kO] at h;refine Yx (nq I hg hm ?_ (pn hp).1);refine aaD (h₀:=X.base) I.ok.mod.LB F2.kp (bR (ha pos η s σ H (λvs H1=>∃m1 st1 ps,cA (af X (r6 S base tabs X.env.cells)) H1 m1 Z r σ/\aB (af X (r6 S base tabs X.env.cells)) H1 m1 Z st1/\ah (af X (r6 S base tabs X.env.cells)) H1 m1 Z ps vs/\ps.length=cn.length/\
   Ok (af X (r6 S base tabs X.env.cells)) Z (ma (callC S.Fs n f) (ps.mapM (conv ls r 3)) st1) m1 H1 (λp _ m' H'=>∀v,ak (af X (r6 S base tabs X.env.cells)) H' m' Z p v->Q v H')) I
  ⟨m,r,st,ar,as,(Ok.bind h).wB λps st1 m1 H1 hq bN aY h1 vs iC=>⟨m1,st1,ps,ar.le bN,aY,iC,fK hq,h1⟩⟩) λus s1 ⟨vs,H1,I1,rr,m1,st1,ps,ar1,aY,iC,yD,h1⟩=>⟨I1.nh,?_⟩) (bF (hs e W8)) (fS λz hz=>hs z (W5 _ hz))
 obtain⟨qs,d,eq,rfl,hx,h2⟩:=G1 h1;have em:m1=[]:=List.eq_nil_of_length_eq_zero (by rw[aY.len];rfl);subst em;have cr:=λp q v=>GZ I1 hB EK hN NK V0 ar1 3 p q v;have rq:=wQ cr eq iC;have kp:∀b o,X.base.get? b=Δ o->(qX s1.heap H1 (jF X.stack)).get? b=Δ o:=λb o e=>I1.FU e;have NQ:jV X.mg S cP (qX s1.heap H1 (jF X.stack)):=⟨λk j hj hm=>(bo.code k j hj hm).keeps kp,by obtain⟨bm,ob,b1,b2,b3,r⟩:=bo.bm;exact⟨bm,ob,b1,b2,kp _ _ b3,r⟩⟩;have Fk:=D _ NQ f i2 ej;have vl:vs.length=i2.1.F.np:=by rw[iC.length,yD,hl]
 have usl:us.length=i2.1.ps.length:=by have ok:=(T.fn f i2 ej).2.2.2.2;unfold GX at ok;simp only[W3,qqq] at ok;rw[<-rr.length,vl,ok.1.1.2]
 have dU:aB (mO S X.K (qX s1.heap H1 (jF X.stack)) tabs) (L2.gk H1) [] Z []:=lK (λb hb=>by
   have:=aY.zt b hb;cases e:L2.gk H1 b with
   |none=>exact absurd e this|some o=>
    obtain⟨_,e2⟩:=kL e;by_cases hx:∃φ,o=.ext φ;·obtain⟨φ,rfl⟩:=hx;have:∃q,φ=dB b q:=Xz λz=>e2 φ rfl λq' e'=>z ⟨q',e'⟩;obtain⟨q,rfl⟩:=this;rw[fW e];exact λz=>nomatch z
    ·rw[bp e λφ z=>hx ⟨φ,z⟩];exact λz=>nomatch z) λt ht=>by
  obtain⟨ps,e1,e2⟩:=aY.tab t ht;exact⟨ps,bp e1 (λ_ z=>nomatch z),e2.1,λp hp cv AZ=>by obtain⟨c,g1,g2⟩:=e2.2 p hp cv AZ;exact⟨c,g1,fW g2⟩⟩
 have FW:acb s1 (fd f) ⟨us,[]⟩ (i2.1.ps.zip us):=by have:=hb s1 us I1.nh (by rw[Ya];exact usl);rw[Ya] at this;exact this
 refine YS (IV (Q:=λv H2=>∃m',Le (mO S X.K (qX s1.heap H1 (jF X.stack)) tabs) [] (L2.gk H1) m' H2/\aB (mO S X.K (qX s1.heap H1 (jF X.stack)) tabs) H2 m' Z []/\aH (mO S X.K (qX s1.heap H1 (jF X.stack)) tabs) H2 m' Z d v) I1 Fk hr FW rr
  ⟨[],Z,qs,[],vl,rq,dU,by rw[hx];exact λm' H' le cn v rv=>⟨m',le,cn,by rw[ak] at rv;exact rv⟩⟩) (λu s2 ⟨v,H3,I3,rv,H2,eH,hn,m',le,cn,rd⟩=>⟨v,H3,I3,rv,?_⟩) λ_ _ z=>z
 subst eH;have em2:m'=[]:=List.eq_nil_of_length_eq_zero (by rw[cn.len];rfl);subst em2;exact h2 [] _ (Rv hn le) (Rw (K1:=mO S X.K (qX s1.heap H1 (jF X.stack)) tabs) rfl hn cn) v (by rw[ak];exact NP hn rd)
end
def wR{α:Type}(P:Nat->α->Prop):Nat->List α->Prop
 |_,[]=>True|j,x::xs=>P j x/\wR P (j+1) xs
theorem NR{α:Type}{P:Nat->α->Prop}:wR P j []:=trivial
theorem aW{α:Type}{P:Nat->α->Prop}{x:α}{xs:List α}(h:P j x)(t:wR P (j+1) xs):wR P j (x::xs):=⟨h,t⟩
theorem Lf{α:Type}{P:Nat->α->Prop}:∀{l} {j},wR P j l->∀k i,l[k]?=Δ i->P (j+k) i
 |[],j,_,k,i,e=>by simp at e|x::xs,j,h,0,i,e=>by simp at e;subst e;exact h.1
 |x::xs,j,h,k+1,i,e=>by have:=Lf h.2 k i (by simpa using e);rwa [Nat.add_assoc,Nat.add_comm 1 k] at this
theorem B0{α:Type}{P:Nat->α->Prop}{l:List α}(h:wR P 0 l)k(i:α)(e:l[k]?=Δ i):P k i:=by have:=Lf h k i e;rwa [Yg] at this
def scB(i:Info):Bool:=decide ((aG i.st).kind=.function)&&!(aG i.st).isCoroutine&&!(aG i.st).isGenerator&&decide i.N.Nodup&&decide (i.N.take i.ps.length=i.ps)&&
 decide (∀x∈i.ps,(aG i.st).names.lookup x=Δ .local\/(aG i.st).names.lookup x=Δ .cell)&&decide (∀y∈(aG i.st).names,y.2≠.free)
def Lg(S:TX):Bool:=S.is.all λi=>GX S i&&scB i.1
theorem qH{S:TX}(h:Lg S=Λ){k:Nat}(e:S.is[k]?=Δ i):nr i.1.N i.1.ps (aG i.1.st)/\GX S i=Λ:=by have q:=YE.mp h i (Xw e);unfold scB at q;simp only[W3,qqq,XE] at q;obtain⟨q1,⟨⟨⟨⟨⟨h1,h2⟩,h3⟩,h4⟩,h5⟩,h6⟩,h7⟩:=q;exact⟨⟨h1,h2,h3,h4,h5,h6,h7⟩,q1⟩
theorem Rx{α:Type}{P:α->Prop}:∀y∈([]:List α),P y:=λ_ h=>nomatch h
theorem memC{α:Type}{P:α->Prop}{x:α}{xs:List α}(h:P x)(t:∀y∈xs,P y):∀y∈x::xs,P y:=List.forall_mem_cons.mpr ⟨h,t⟩
theorem lkN{β:Type}{P:Str->β->Prop}:∀m k,([]:List (Str×β)).lookup m=Δ k->P m k:=λ_ _ h=>nomatch h
theorem Ry{β:Type}{P:Str->β->Prop}{b:β}{xs:List (Str×β)}(h:P x b)(t:∀m k,xs.lookup m=Δ k->P m k):∀m k,((x,b)::xs).lookup m=Δ k->P m k:=λm k e=>by
 rw[XB] at e;split at e;·rename_i hq;cases e;rw[eq_of_beq hq];exact h
 ·exact t m k e
theorem JP{β:Type}{l:List (Addr×β)}(nd:ns.Nodup)(hn:l.map (·.1)=ns){b:β}(h:(a,b)∈l):∀t∈l,t.1=a->t.2=b:=by
 subst hn;induction l with
 |nil=>cases h|cons x l ih=>
  rw[Xi,YC] at nd;intro t ht e;rcases Zy.mp h with z|z
  ·rcases Zy.mp ht with z2|z2;·rw[z2,<-z]
   ·exact absurd (YQ.mpr ⟨t,z2,by rw[e,<-z]⟩) nd.1
  ·rcases Zy.mp ht with z2|z2;·exact absurd (YQ.mpr ⟨_,z,by rw[<-z2,e]⟩) nd.1
   ·exact ih z nd.2 t z2 e
theorem El{α:Type}{P:List α->Prop}(h:∀a,P [a]):∀us,us.length=1->P us
 |[a],_=>h a
theorem oa{α:Type}{P:List α->Prop}(h:∀a b,P [a,b]):∀us,us.length=2->P us
 |[a,b],_=>h a b
theorem Em{α:Type}{P:List α->Prop}(h:∀a b c,P [a,b,c]):∀us,us.length=3->P us
 |[a,b,c],_=>h a b c
section
variable{P:Yb}{w:World}{K:Xf}{mg:Str->Option Value}{S:TX}{tabs:List (Addr×List (Pos×Str))}{a:Nat->Addr}{fd:Nat->Zb}{cP:Nat->Addr×Addr}
theorem JQ{st:Stmt}{fd:Zb}(F:my K x qual st f fd)(S:nr N ps (aG st))(len:∀vs H Q E,sp vs H Q E->vs.length=ps.length)(sE:∀(A:YF) (outer:List Env) (s:Xp) (H:Hp) (vs:List V) (Q:VK) (E:XK),de k (A.deeper (ab6 qual (aG st) s.heap.objs.size f fd.code))->sp vs H Q E->
   ∃t,mq (xn u0 P w K mg base N qual (aG st) f fd.code A outer s H E).EM (lD st) t/\t {nx:=λ_ H'=>Q .bu H',rt:=Q} (L2.start N vs) H):gp P w K mg base u0 (k+1) f fd ps sp:=by
 obtain⟨oc,od,kV,doc,pm,an,ky,ct,Il,rfl,lk,qf⟩:=F.ex;refine PD lk qf S len λA outer s H vs Q E hr xo=>?_;obtain⟨t,h,q⟩:=sE A outer s H vs Q E hr xo;exact⟨t,h.EM,q⟩
theorem NS(T:yb K mg S tabs a fd cP)(D:∀base,jV mg S cP base->kZ P w K mg S tabs a fd n base)(L:∀base,jV mg S cP base->yc P w K mg S tabs n base)(bo:jV mg S cP base):kZ P w K mg S tabs a fd (n+1) base:=by
 intro k i hi;obtain⟨⟨x1,F⟩,hm,hb,sc,ok⟩:=T.fn k i hi;unfold GX at ok;simp only[W3,qqq,ZO,XE] at ok;obtain⟨⟨⟨Rz,ok2⟩,Rn⟩,ok4⟩:=ok;have ek:=TX.VW hi;refine JQ (k:=lv n+1) F sc (λvs H Q E h=>?_) (λA outer s H vs Q E hr h=>?_);·obtain⟨m,Z,qs,st,hl,_⟩:=h;rw[hl,ok2]
 obtain⟨m,Z,qs,st,hl,rq,as,aL⟩:=h;have hu:(A.deeper (ab6 i.1.name (aG i.1.st) s.heap.objs.size (a k) (fd k).code)).units+100 < cLine:=by have:=hr.un;lia
 by_cases RA:i.2=[]
 ·have eg:GW S i={N:=i.1.N,names:=(aG i.1.st).names,fns:=S.fns,hZ:=S.cs,tabs:=S.ts,yH:=S.yH,A1:=S.A1,A2:=S.A2}:=by unfold GW;rw[RA]
  rw[eg] at Rz;have G:fA (xn u0 P w K mg base i.1.N i.1.name (aG i.1.st) (a k) (fd k).code A outer s H E).EM (Ta S base tabs) {N:=i.1.N,names:=(aG i.1.st).names,fns:=S.fns,hZ:=S.cs,tabs:=S.ts,yH:=S.yH,A1:=S.A1,A2:=S.A2} (callC S.Fs n):=
   {N:=rfl,loc:=λx h=>h,HI:=λx h=>h,gl:=λx h=>h,calm:=rfl,hu:=hu,bl:=T.bl,
    fn:=zX T (D base bo) ⟨rfl,rfl,rfl,rfl,rfl⟩ hr rfl,cs:=T.cs,tb:=T.tb,
    qB:=λ_ k' a' c' NI h'=>⟨GY h',by obtain⟨f,ps,F,B⟩:=L base bo k' a' c' NI h';exact⟨lv n,f,ps,F,hr.mono (Y6 _),B⟩⟩,
    lam:=λ_ _ _ _ _ h=>absurd (show Ξ=Λ from h) (by decide),iP:=λ_ _ _ _ h=>absurd (show Ξ=Λ from h) (by decide),ja:=λ_ _ _ h=>absurd (show Ξ=Λ from h) (by decide),fld:=zY T rfl,OI:=zZ T (D base bo) ⟨rfl,rfl,rfl,rfl,rfl⟩ hr rfl,OJ:=z8 T (D base bo) ⟨rfl,rfl,rfl,rfl,rfl⟩ hr rfl,nK:=λ_ _ _ _ _ _ _ h=>absurd (show Ξ=Λ from h) (by decide),
    cell:=λx h=>h,nd:=sc.nd,S9:=λx _=>rfl,own:=aci}
  by_cases Cw:i.1.F.sh=Λ
  ·rw[hW,ek] at aL;simp only[Cw,if_true] at aL;by_cases Tb:qs.length=i.1.F.np;·rw[if_pos Tb] at aL;refine⟨_,dH i.1.F.body _ _ _ _ Z G Rz,m,ai i.1.F.nn qs,st,by rw[Rn];exact wL rq,as,?_⟩;show Ok (mO S K base tabs) Z (aj (callC S.Fs n) i.1.F.body (ai i.1.F.nn qs) st) m H _;cases hx:aj (callC S.Fs n) i.1.F.body (ai i.1.F.nn qs) st with|ex x s=>rw[hx] at aL;exact(show False from aL).elim|no=>rw[hx] at aL;exact(show False from aL).elim|ok f aM=>rw[hx] at aL;cases f with|bk r=>exact(show False from aL).elim|ct r=>exact(show False from aL).elim|nx r=>exact λm' H' le cn σ _=>(show Ok (mO S K base tabs) Z (R.ok (Y.P.d .bu) aM) m H _ from aL) m' H' le cn .bu rfl|rt p=>exact λm' H' le cn v rv=>(show Ok (mO S K base tabs) Z (R.ok p aM) m H _ from aL) m' H' le cn v rv
   ·rw[if_neg Tb] at aL;exact(show False from aL).elim
  ·have sv:i.1.F.sh=Ξ:=by cases q:i.1.F.sh with|false=>rfl|true=>exact absurd q Cw
   obtain⟨q2,d,ea,er,h2,_⟩:=lL ek sv aL;obtain⟨Z0,ht⟩:=pU (X:=(xn u0 P w K mg base i.1.N i.1.name (aG i.1.st) (a k) (fd k).code A outer s H E).EM) (kt:=Ta S base tabs) (kb:=mO S K base tabs) Rn rq as rfl rfl (λ_ _ _ _ z=>z) rfl ea er h2;exact⟨_,dH i.1.F.body _ _ _ _ Z0 G Rz,ht⟩
 ·obtain⟨mk1,mk2,mk3,mk4⟩:=T.mkr k i hi RA;have sv:i.1.F.sh=Ξ:=ok4.resolve_left λz=>RA (Xo.mp z);obtain⟨q2,d,ea,er,h2,_⟩:=lL ek sv aL
  let X:=(xn u0 P w K mg base i.1.N i.1.name (aG i.1.st) (a k) (fd k).code A outer s H E).EM
  have M:Maker X (cP k).1 (cP k).2 (dv S i):=⟨mk1,bo.code k i hi RA,bo.bm,mk3⟩;have hc:∀x,(aG i.1.st).names.lookup x=Δ .cell->∃c,X.env.cells.lookup x=Δ c:=λx h=>sD h;have eg:GW S i={N:=i.1.N,names:=(aG i.1.st).names,fns:=[],hZ:=S.cs,tabs:=S.ts,QM:=GU S i,QN:=GV S i,K9:=λf x n ls=>decide (S.fns[f]?=Δ (x,n))&&Ei S i ls,QO:=λ_ _ _=>Ξ,cv:=Ξ}:=by
   unfold GW;split;·exact absurd ‹i.2=[]› RA
   ·rfl
  rw[eg] at Rz;have G:fA X (r6 S base tabs X.env.cells) {N:=i.1.N,names:=(aG i.1.st).names,fns:=[],hZ:=S.cs,tabs:=S.ts,QM:=GU S i,QN:=GV S i,K9:=λf x n ls=>decide (S.fns[f]?=Δ (x,n))&&Ei S i ls,QO:=λ_ _ _=>Ξ,cv:=Ξ} (callC S.Fs n):=
   {N:=rfl,loc:=λx h=>h,HI:=λx h=>h,gl:=λx h=>h,calm:=rfl,hu:=hu,bl:=T.bl,
    fn:=λj x nn h=>by simp at h,cs:=T.cs,tb:=T.tb,
    qB:=λh=>absurd (show Ξ=Λ from h) (by decide),
    lam:=λk' pa NQ sc' pos h Z=>Rp rfl M mk2 mk4 rfl hc h,
    iP:=λf x nn ls h Z e es cn p pos h1 h2 h3 h4 h5=>by have h':(decide (S.fns[f]?=Δ (x,nn))&&Ei S i ls)=Λ:=h;simp only[W3,qqq] at h';have V3:(aG i.1.st).names.lookup x=Δ ZS.globalImplicit:=of_decide_eq_true (show decide ((aG i.1.st).names.lookup x=Δ ZS.globalImplicit)=Λ from h2);exact JO (X:=X) (cP:=cP) (i:=i) T rfl (λ_=>rfl) rfl rfl (hr.mono (Y6 _)) D bo h'.1 h'.2 h1 V3 h3 h4 h5
    ja:=λ_ _ _ h=>absurd (show Ξ=Λ from h) (by decide),fld:=λ_ _ h=>absurd (show Ξ=Λ from h) (by decide),OI:=λ_ _ _ _ h=>absurd (show Ξ=Λ from h) (by decide),OJ:=λ_ _ _ h=>absurd (show Ξ=Λ from h) (by decide)
    nK:=λj k' nm pa NQ sc' pos h Z=>NJ rfl M mk2 mk4 rfl hc rfl sc.nd rfl (λ_=>rfl) h
    cell:=λx h=>h,nd:=sc.nd,S9:=λx _=>rfl,own:=aci}
  obtain⟨Z0,ht⟩:=pU (X:=X) (kt:=r6 S base tabs X.env.cells) (kb:=mO S K base tabs) Rn rq as rfl rfl (λ_ _ _ _ z=>z) rfl ea er h2;exact⟨_,dH i.1.F.body _ _ _ _ Z0 G Rz,ht⟩
theorem C2(T:yb K mg S tabs a fd cP):∀n,(∀base,jV mg S cP base->kZ P w K mg S tabs a fd n base)/\(∀base,jV mg S cP base->yc P w K mg S tabs n base)
 |0=>by
  refine⟨λbase bo k i hi=>?_,λbase bo k b c bW hc=>?_⟩
  ·have no:∀vs H Q E,¬BR (mO S K base tabs) (callC S.Fs 0 k) i.1.F.np vs H Q E:=λvs H Q E ⟨m,Z,qs,st,_,_,_,h⟩=>by rw[tQ] at h;exact h
   exact⟨λvs H Q E h=>absurd h (no vs H Q E),λA outer s H args us vs Q E _ _ _ _ h=>absurd h (no vs H Q E)⟩
  ·have no:∀vs H Q E,¬QQ (mO S K base tabs) (callC S.Fs 0 k) c (S.q k) bW vs H Q E:=λvs H Q E ⟨_,m,Z,qs,bq,st,_,_,_,h⟩=>by rw[tQ] at h;exact h
   obtain⟨V4,V5,h1,h2⟩:∃(V4:Zb) (V5:List Str),Binds K V4 V5 []/\True:=by
    obtain⟨ci,o,sc,cl,_,_,hf,_⟩:=hc;rcases hf with ⟨pa,NQ,pm,ct,rfl,aL⟩|⟨nm,pa,NQ,doc,pm,ct,rfl,aL⟩
    ·unfold pR at aL;simp only[W3] at aL;exact⟨acm "<lambda>" ci.qual pa NQ sc cl pm (.ref c) ct,ci.ps,Binds.all λus hl=>iN aL.1.1.2 rfl hl,trivial⟩
    ·unfold pT at aL;simp only[W3] at aL;exact⟨acQ nm ci.qual pa NQ sc cl .none .none doc pm Θ (.ref c) ct,ci.ps,Binds.all λus hl=>iN aL.1.1.2 rfl hl,trivial⟩
   exact⟨V4,V5,⟨λvs H Q E h=>absurd h (no vs H Q E),λA outer s H args us vs Q E _ _ _ _ h=>absurd h (no vs H Q E)⟩,h1⟩
 |n+1=>by obtain⟨i1,i2⟩:=C2 T n;exact⟨λbase bo=>NS T i1 i2 bo,λbase bo=>NH T (i1 base bo) (i2 base bo)⟩
theorem JR(ht:∀t∈tabs,t.1∈RB.map (·.2))(hc:c [.gq ns] []=.ok (.d (.bl Λ)) [])(ho:CC RB H)(hs:kC K H b (ns.map V.int)){E:XK}:
  BR (mO S K base tabs) c 1 [.ref b] H (λv _=>v=.bl Λ) E:=by
 refine⟨[],[],[.gq ns],[],rfl,⟨_,_,rfl,⟨b,rfl,?_⟩,rfl⟩,lK (λ_ h=>by cases h) (λt h=>?_),?_⟩
 ·rcases hs with (h|h)|h
  ·rcases ho.1 b with z|⟨o,xs,z⟩|⟨z,_⟩;·rw[h] at z;cases z
   ·rw[h] at z;cases z
   ·rw[h] at z;cases z
  ·exact .inl h
  ·exact .inr h
 ·obtain⟨q,hq,e⟩:=YQ.mp (ht t h);exact⟨#[],by rw[<-e];exact ho.2 q hq,trivial,λp hp cv AZ=>by cases (show(Θ:Option Value)=Δ cv from AZ)⟩
 ·rw[hc];exact λm' H' le as v rv=>rv
end
end Y
namespace Y
open PySem
variable{Fs:List Fn}
@[simp] theorem RC st x:bE st (.d x)=Θ:=rfl
@[simp] theorem NT st x:bE st (.gq x)=Θ:=rfl
theorem z9:bE st (.obj n)=(st[n]?).bind λo=>if jn o then Δ o else Θ:=rfl
@[simp] theorem Tc xs:jn (.lst xs)=Ξ:=rfl
@[simp] theorem V6 kvs:jn (.dK kvs)=Λ:=rfl
theorem jW(h:st[n]?=Δ (.lst xs)):bE st (.obj n)=Θ:=by rw[z9,h];rfl
theorem lN(h:st[n]?=Δ (.dK kvs)):bE st (.obj n)=Δ (.dK kvs):=by rw[z9,h];rfl
theorem Lh:cY st (.obj n)=bY st (.obj n):=rfl
theorem gS(h:st[n]?=Δ (.lst xs)):bY st (.obj n)=Δ xs:=by show(match st[n]? with|some (.lst xs)=>Δ xs|_=>Θ)=_;rw[h]
@[simp] theorem gZ{α:Type}(f:α->D):∀xs:List α,ba (xs.map λx=>P.d (f x))=Δ (xs.map f)
 |[]=>rfl|x::xs=>by simp[ba,Gf,gZ f xs]
@[simp] theorem jX:∀xs,ba (xs.map P.d)=Δ xs
 |[]=>rfl|x::xs=>by simp[ba,Gf,jX xs]
@[simp] theorem En{α:Type}(f:α->Bool):∀xs:List α,boolsOf (xs.map λx=>P.d (.bl (f x)))=Δ (xs.map f)
 |[]=>rfl|x::xs=>by simp[boolsOf,En f xs]
theorem wU{G:P->b9}{f:D->D}:∀{xs:List D},(∀x∈xs,c (G (.d x)) st=.ok Λ st)->(∀x∈xs,e (G (.d x)) st=.ok (.d (f x)) st)->cN G c e (xs.map .d) st=.ok (xs.map λx=>.d (f x)) st
 |[],_,_=>rfl|x::xs,h,k=>by have ih:=wU (G:=G) (c:=c) (e:=e) (st:=st) (f:=f) (xs:=xs) (λy hy=>h y (W5 _ hy)) λy hy=>k y (W5 _ hy);simp only[Xi];rw[fJ,h x W8,ae,if_pos rfl,k x W8,ae,ih,ae]
theorem oi{G:P->b9}{f:D->D}:∀{xs:List D},(∀x∈xs,c (G (.d x)) st=.ok (p x) st)->(∀x∈xs,e (G (.d x)) st=.ok (.d (f x)) st)->
  cN G c e (xs.map .d) st=.ok ((xs.filter p).map λx=>.d (f x)) st
 |[],_,_=>rfl|x::xs,h,k=>by have ih:=oi (G:=G) (c:=c) (e:=e) (st:=st) (f:=f) (p:=p) (xs:=xs) (λy hy=>h y (W5 _ hy)) λy hy=>k y (W5 _ hy);simp only[Xi];rw[fJ,h x W8,ae];cases hp:p x with|true=>rw[if_pos rfl,k x W8,ae,ih,ae,XH hp,Xi]|false=>rw[if_neg (by simp),ih,XU (by simp[hp])]
theorem mP{α:Type}{G:P->b9}{g:α->P}{f:α->D}:∀{xs:List α},(∀x∈xs,c (G (g x)) st=.ok Λ st)->(∀x∈xs,e (G (g x)) st=.ok (.d (f x)) st)->cN G c e (xs.map g) st=.ok (xs.map λx=>.d (f x)) st
 |[],_,_=>rfl|x::xs,h,k=>by have ih:=mP (G:=G) (c:=c) (e:=e) (st:=st) (g:=g) (f:=f) (xs:=xs) (λy hy=>h y (W5 _ hy)) λy hy=>k y (W5 _ hy);simp only[Xi];rw[fJ,h x W8,ae,if_pos rfl,k x W8,ae,ih,ae]
theorem wW{xs:List D}{f:D->D}(hw:cx C w r st=.ok (xs.map .d) st1)(hl:xs.length<=aw)(he:∀x∈xs,aa C e (Δ (.d x)::bO js r) st1=.ok (.d (f x)) st1):aX C (.comp w 1 js Θ e) r st=.ok (xs.map λx=>.d (f x)) st1:=by rw[hU,hw,ae,if_pos ⟨rfl,by simpa using hl⟩];exact wU (λx _=>rfl) he
theorem ig{α:Type}{xs:List α}{g:α->P}{f:α->D}(hw:cx C w r st=.ok (xs.map g) st1)(hl:xs.length<=aw)(he:∀x∈xs,aa C e (Δ (g x)::bO js r) st1=.ok (.d (f x)) st1):aX C (.comp w 1 js Θ e) r st=.ok (xs.map λx=>.d (f x)) st1:=by rw[hU,hw,ae,if_pos ⟨rfl,by simpa using hl⟩];exact mP (λx _=>rfl) he
theorem yd{xs:List D}{f:D->D}(hw:cx C w r st=.ok (xs.map .d) st1)(hl:xs.length<=aw)(hc:∀x∈xs,aa C c (Δ (.d x)::bO js r) st1=.ok (.d (.bl (p x))) st1)(he:∀x∈xs,aa C e (Δ (.d x)::bO js r) st1=.ok (.d (f x)) st1):aX C (.comp w 1 js (Δ c) e) r st=.ok ((xs.filter p).map λx=>.d (f x)) st1:=by rw[hU,hw,ae,if_pos ⟨rfl,by simpa using hl⟩];exact oi (λx hx=>by rw[tB,hc x hx];rfl) he
def B1:P->Bool
 |.obj _=>Ξ|.lf _=>Ξ|.fn _ bq=>cC bq|_=>Λ
theorem um:∀{ps},ps.all B1=Λ->gH st ps=Δ ps/\ps.any isObj=Ξ
 |[],_=>⟨rfl,rfl⟩|p::ps,h=>by rw[YY,W3] at h;obtain⟨i1,i2⟩:=um (st:=st) h.2;cases p with|obj n=>cases h.1|lf n=>cases h.1|d x=>exact⟨by simp[gH,xJ,jQ,i1],by simp[isObj,i2]⟩|gq ns=>exact⟨by simp[gH,xJ,i1],by simp[isObj,i2]⟩|fn k bq=>exact⟨by simp[gH,xJ,i1,show cC bq=Λ from h.1],by simp[isObj,i2]⟩
theorem call_of(hF:Fs[k]?=Δ F)(hp:ps.all B1=Λ)(hr:vt (callC Fs n) F ps=Δ d)(Cw:F.sh=Ξ:=by rfl):callC Fs (n+1) k ps st=.ok (.d d) st:=by obtain⟨a1,a2⟩:=um (st:=st) hp;rw[hW,hF];simp only[Cw,a1,hr,tP,a2,aaV,XR,if_false]
theorem ye(hF:Fs[k]?=Δ F)(Cw:F.sh=Λ)(hl:ps.length=F.np)(hr:aj (callC Fs n) F.body (ai F.nn ps) st=.ok (.rt p) aM):callC Fs (n+1) k ps st=.ok p aM:=by rw[hW,hF];simp only[Cw,hl,hr,if_true,Ja]
theorem bS(hl:ps.length=F.np)(he:aj C F.body (ai F.nn ps) []=.ok (.rt p) st)(hf:jQ st p=Δ d):vt C F ps=Δ d:=by unfold vt;rw[if_pos hl,he];exact hf
theorem C3{r:b9}:∀{xs:List D} {u},(∀x∈xs,b (r.set i (Δ (.d x))) st=if f x=Λ then .ok (.nx (r.set i (Δ (.d x)))) st else .ok (.rt v) st)->
  ∃u2,forL (je (.nm i)) b (xs.map .d) (r.set i u) st=if xs.all f=Λ then .ok (.nx (r.set i u2)) st else .ok (.rt v) st
 |[],u,_=>⟨u,rfl⟩|x::xs,u,h=>by obtain⟨u2,ih⟩:=C3 (i:=i) (r:=r) (st:=st) (f:=f) (v:=v) (b:=b) (xs:=xs) (u:=Δ (.d x)) λy hy=>h y (W5 _ hy);refine⟨u2,?_⟩;rw[Xi,pF,je,az,ae,List.set_set,h x W8];cases hf:f x with|true=>rw[if_pos rfl,ae,YY,hf,acA];exact ih|false=>rw[if_neg (by simp),ae,YY,hf,aaV,if_neg (by simp)]
class Kf (α β:Type) where
 f:α->aN->R β
def bg{α β:Type}(a:R α)[k:Kf α β]:R β:=a.bind k.f
@[simp] theorem RD{α β:Type}(a:α)st(f:α->aN->R β):bg (.ok a st) (k:=⟨f⟩)=f a st:=rfl
section
variable{C:Nat->List P->aN->R P}{r:b9}{st:aN}
@[simp] theorem bc i:aa C (.var i) r st=R.of (r[i]?).join st:=rfl
@[simp] theorem Td o a b:aa C (.op o a b) r st=bg (aa C a r st) (k:=⟨λx st1=>bg (aa C b r st1) (k:=⟨λy st2=>R.of (Gg o x y st2) st2⟩)⟩):=rfl
@[simp] theorem RE a:aa C (.neg a) r st=bg (aa C a r st) (k:=⟨λx st1=>match x with|.d (.int i)=>.ok (.d (.int (-i))) st1|_=>.no⟩):=rfl
@[simp] theorem RG a:aa C (.not a) r st=bg (aa C a r st) (k:=⟨λx st1=>bg (R.of (xK st1 x) st1) (k:=⟨λb st2=>.ok (.d (.bl (!b))) st2⟩)⟩):=rfl
@[simp] theorem RI o a b:aa C (.cmp o a b) r st=bg (aa C a r st) (k:=⟨λx st1=>bg (aa C b r st1) (k:=⟨λy st2=>bg (R.of (jo o x y st2) st2) (k:=⟨λb st3=>.ok (.d (.bl b)) st3⟩)⟩)⟩):=rfl
@[simp] theorem NU o o' a b c:aa C (.chain o o' a b c) r st=bg (aa C a r st) (k:=⟨λx st1=>bg (aa C b r st1) (k:=⟨λy st2=>bg (R.of (jo o x y st2) st2) (k:=⟨λk st3=>if k then bg (aa C c r st3) (k:=⟨λz l6=>bg (R.of (jo o' y z l6) l6) (k:=⟨λb A8=>.ok (.d (.bl b)) A8⟩)⟩) else .ok (.d (.bl Ξ)) st3⟩)⟩)⟩):=rfl
@[simp] theorem RJ es:aa C (.tup es) r st=bg (aF C es r st) (k:=⟨λps st1=>if ps.length<=aw then bg (R.of (ba ps) st1) (k:=⟨λxs st2=>.ok (.d (.tup xs)) st2⟩) else .no⟩):=rfl
theorem dI l:aa C (.lst Ξ l) r st=(aX C l r st).bind λps st1=>(R.of (ba ps) st1).bind λxs st2=>.ok (.d (.pl xs)) st2:=rfl
@[simp] theorem OO l:aa C (.lst Ξ l) r st=bg (aX C l r st) (k:=⟨λps st1=>bg (R.of (ba ps) st1) (k:=⟨λxs st2=>.ok (.d (.pl xs)) st2⟩)⟩):=dI l
theorem iR l:aa C (.lst Λ l) r st=(aX C l r st).bind λps st1=>.ok (.obj st1.length) (st1++[.lst ps]):=rfl
@[simp] theorem OP l:aa C (.lst Λ l) r st=bg (aX C l r st) (k:=⟨λps st1=>.ok (.obj st1.length) (st1++[.lst ps])⟩):=iR l
@[simp] theorem OQ f es:aa C (.call f es) r st=bg (aF C es r st) (k:=⟨λps st1=>C f ps st1⟩):=rfl
@[simp] theorem RK a T:aa C (.sV a T) r st=bg (aa C a r st) (k:=⟨λx st1=>bg (R.of (IY x st1) st1) (k:=⟨λt st2=>.ok (.d (.bl (bB t T))) st2⟩)⟩):=rfl
@[simp] theorem Te f es:aa C (.bf f es) r st=bg (aF C es r st) (k:=⟨λps st1=>R.of (oP f ps st1) st1⟩):=rfl
@[simp] theorem Tf a b:aa C (.ix a b) r st=bg (aa C a r st) (k:=⟨λx st1=>bg (aa C b r st1) (k:=⟨λy st2=>R.of (A0 x y st2) st2⟩)⟩):=rfl
@[simp] theorem NV a lo hi:aa C (.slice a lo hi) r st=bg (aa C a r st) (k:=⟨λx st1=>bg (g8 C lo r st1) (k:=⟨λl st2=>bg (g8 C hi r st2) (k:=⟨λh st3=>R.of (mG x l h st3) st3⟩)⟩)⟩):=rfl
@[simp] theorem RL a:aa C (.rev a) r st=bg (aa C a r st) (k:=⟨λx st1=>match x with|.d (.tup xs)=>.ok (.d (.tup xs.reverse)) st1|_=>.no⟩):=rfl
@[simp] theorem OR es:aX C (.iB es) r st=bg (aF C es r st) (k:=⟨λps st1=>bg (R.of (qZ ps) st1) (k:=⟨λqs st2=>if qs.length<=aw then .ok qs st2 else .no⟩)⟩):=rfl
@[simp] theorem OS a b:aX C (.zip a b) r st=bg (aa C a r st) (k:=⟨λx st1=>bg (aa C b r st1) (k:=⟨λy st2=>bg (R.of (D6 x y) st2) (k:=⟨λzs st3=>.ok (zs.map .d) st3⟩)⟩)⟩):=rfl
@[simp] theorem Li e js c ee:aX C (.cw e js c ee) r st=bg (aa C e r st) (k:=⟨λx st1=>match x with|.obj n=>cw n (λp=>Δ p::bO js r) (bC C c) (λr' aM=>aa C ee r' aM) aw 0 st1|_=>.no⟩):=rfl
@[simp] theorem NW e:g8 C (Δ e) r st=bg (aa C e r st) (k:=⟨λx st1=>.ok (Δ x) st1⟩):=rfl
@[simp] theorem NX e es:aF C (e::es) r st=bg (aa C e r st) (k:=⟨λx st1=>bg (aF C es r st1) (k:=⟨λxs st2=>.ok (x::xs) st2⟩)⟩):=rfl
@[simp] theorem OT e e' es:fX C (e::e'::es) r st=bg (aa C e r st) (k:=⟨λx st1=>match x with|.d (.bl b)=>if b then fX C (e'::es) r st1 else .ok (.d (.bl Ξ)) st1|_=>.no⟩):=rfl
@[simp] theorem OU e e' es:fY C (e::e'::es) r st=bg (aa C e r st) (k:=⟨λx st1=>match x with|.d (.bl b)=>if b then .ok (.d (.bl Λ)) st1 else fY C (e'::es) r st1|_=>.no⟩):=rfl
@[simp] theorem NY es:aX C (.e7 es) r st=bg (aF C es r st) (k:=⟨λps st1=>if ps.length<=aw then .ok ps st1 else .no⟩):=rfl
@[simp] theorem NZ e:aX C (.list e) r st=bg (aa C e r st) (k:=⟨λx st1=>R.of (cY st1 x) st1⟩):=rfl
@[simp] theorem RM e:cx C (.ex e) r st=bg (aa C e r st) (k:=⟨λx st1=>R.of (pw x) st1⟩):=rfl
@[simp] theorem OV es:cx C (.iB es) r st=bg (aF C es r st) (k:=⟨λps st1=>R.of (qZ ps) st1⟩):=rfl
@[simp] theorem N1 e:cx C (.enum e) r st=bg (aa C e r st) (k:=⟨λx st1=>match x with|.d (.tup xs)=>.ok (dS 0 xs) st1|_=>.no⟩):=rfl
@[simp] theorem Aa o i j:Gg o (.d (.int i)) (.d (.int j)) st=(kh o i j).map λk=>.d (.int k):=by cases o<;>rfl
@[simp] theorem op_tt xs ys:Gg .add (.d (.tup xs)) (.d (.tup ys)) st=if xs.length+ys.length<=aw then Δ (.d (.tup (xs++ys))) else Θ:=rfl
@[simp] theorem op_ss x y:Gg .add (.d (.str x)) (.d (.str y)) st=if x.length+y.length<=aw then Δ (.d (.str (x++y))) else Θ:=rfl
theorem RN xs k:Gg .mul (.d (.tup xs)) (.d (.int k)) st=if k=1 then Δ (.d (.tup xs)) else if k=2/\0 < xs.length/\xs.length<=100000 then Δ (.d (.tup (xs++xs))) else if k=3/\0 < xs.length/\xs.length<=100000 then Δ (.d (.tup (xs++xs++xs))) else Θ:=rfl
@[simp] theorem op_t2 xs:Gg .mul (.d (.tup xs)) (.d (.int 2)) st=if 0 < xs.length/\xs.length<=100000 then Δ (.d (.tup (xs++xs))) else Θ:=by rw[RN];simp
@[simp] theorem RO xs ys:Gg .add (.d (.pl xs)) (.d (.pl ys)) st=if xs.length+ys.length<=aw then Δ (.d (.pl (xs++ys))) else Θ:=by
 have e:ba (xs.map P.d++ys.map P.d)=Δ (xs++ys):=by rw[<-X2,jX]
 show(ba (xs.map P.d++ys.map P.d)).bind _=_;rw[e,<-Xs];rfl
@[simp] theorem C4 i j:kh .add i j=Δ (i+j):=rfl
@[simp] theorem JS i j:kh .sub i j=Δ (i - j):=rfl
theorem fb(h:(-mC < i/\i < mC)\/(-mC < j/\j < mC)):kh .mul i j=Δ (i*j):=by unfold kh;simp only[if_pos h]
theorem bz(h:0 < j):kh .mod i j=Δ (i % j):=by unfold kh;simp only[if_pos h]
theorem cQ(h:0 < j/\j < 1073741824):kh .fdiv i j=Δ (i / j):=by unfold kh;simp only[if_pos h]
@[simp] theorem N2 b:xK st (.d (.bl b))=Δ b:=rfl
@[simp] theorem V7:IY (.d .bu) st=Δ "NoneType":=rfl
@[simp] theorem ty_bl b:IY (.d (.bl b)) st=Δ "bool":=rfl
@[simp] theorem ty_int b:IY (.d (.int b)) st=Δ "int":=rfl
@[simp] theorem ty_str b:IY (.d (.str b)) st=Δ "str":=rfl
@[simp] theorem V8 b:IY (.d (.tup b)) st=Δ "tuple":=rfl
@[simp] theorem ty_pl b:IY (.d (.pl b)) st=Δ "list":=rfl
@[simp] theorem N3 i j:jo .lt (.d (.int i)) (.d (.int j)) st=Δ (decide (i < j)):=rfl
@[simp] theorem V9 i j:jo .le (.d (.int i)) (.d (.int j)) st=Δ (decide (i<=j)):=rfl
@[simp] theorem cmp_gt i j:jo .gt (.d (.int i)) (.d (.int j)) st=Δ (decide (j < i)):=rfl
@[simp] theorem Wa i j:jo .ge (.d (.int i)) (.d (.int j)) st=Δ (decide (j<=i)):=rfl
@[simp] theorem G3 x y:jo .eq (.d x) (.d y) st=rR x y:=rfl
@[simp] theorem G4 x y:jo .ne (.d x) (.d y) st=(rR x y).map not:=rfl
@[simp] theorem Th x y:rR (.str x) (.str y)=Δ (x==y):=rfl
@[simp] theorem r8 x y:rR (.int x) (.int y)=Δ (x==y):=rfl
@[simp] theorem Wb x y:rR (.bl x) (.bl y)=Δ (x==y):=rfl
@[simp] theorem Wc y:rR .bu (.int y)=Δ Ξ:=rfl
@[simp] theorem We xs:rR (.tup xs) (.tup [])=Δ xs.isEmpty:=by have h:min (lU (.tup xs)) (lU (.tup []))<=100:=XW (Z4 _ _) (by decide);unfold rR;rw[if_pos h];cases xs<;>rfl
@[simp] theorem Wf xs:rR (.pl xs) (.pl [])=Δ xs.isEmpty:=by have h:min (lU (.pl xs)) (lU (.pl []))<=100:=XW (Z4 _ _) (by decide);unfold rR;rw[if_pos h];cases xs<;>rfl
@[simp] theorem JT xs:oP .len [.d (.tup xs)] st=Δ (.d (.int xs.length)):=congrArg (λn:Nat=>Δ (P.d (.int n))) (Xc ..)
@[simp] theorem Ti ns:oP .len [.gq ns] st=Δ (.d (.int ns.length)):=congrArg (λn:Nat=>Δ (P.d (.int n))) (Xc ..)
@[simp] theorem Wg i j:oP .min2 [.d (.int i),.d (.int j)] st=Δ (.d (.int (min i j))):=rfl
@[simp] theorem Wh i j:oP .max2 [.d (.int i),.d (.int j)] st=Δ (.d (.int (max i j))):=rfl
@[simp] theorem Tj xs:oP .all [.d (.pl xs)] st=(boolsOf (xs.map .d)).map λbs=>.d (.bl (bs.all id)):=rfl
@[simp] theorem Tn xs:oP .tuple [.d (.pl xs)] st=Δ (.d (.tup xs)):=congrArg (λo:Option (List D)=>o.map λys=>P.d (.tup ys)) (jX xs)
theorem yf:oY (xs.map f) i=(oY xs i).map f:=by unfold oY;rw[Xc];cases Bm xs.length i with|none=>rfl|some k=>exact Xg ..
@[simp] theorem Wi xs i:A0 (.d (.tup xs)) (.d (.int i)) st=(oY xs i).map .d:=by exact yf
@[simp] theorem N4 xs i:A0 (.d (.pl xs)) (.d (.int i)) st=(oY xs i).map .d:=by exact yf
@[simp] theorem ix_s ns i:A0 (.gq ns) (.d (.int i)) st=(oY ns i).map λk=>.d (.int k):=by exact yf
@[simp] theorem dit_t xs:pw (.d (.tup xs))=Δ (xs.map .d):=rfl
@[simp] theorem dit_l xs:pw (.d (.pl xs))=Δ (xs.map .d):=rfl
@[simp] theorem sit_t xs:cY st (.d (.tup xs))=Δ (xs.map .d):=rfl
@[simp] theorem sit_l xs:cY st (.d (.pl xs))=Δ (xs.map .d):=rfl
@[simp] theorem sl_t xs lo hi:mG (.d (.tup xs)) lo hi st=(nP lo).bind λl=>(nP hi).map λh=>.d (.tup (g7 xs l h)):=by unfold mG;cases nP lo<;>simp;cases nP hi<;>simp
@[simp] theorem OW:nP Θ=Δ Θ:=rfl
@[simp] theorem RP i:nP (Δ (.d (.int i)))=Δ (Δ i):=rfl
@[simp] theorem JU x ps:ba (.d x::ps)=(ba ps).map λxs=>x::xs:=rfl
@[simp] theorem N5:ba []=Δ []:=rfl
theorem fT{α:Type}{xs:List α}{k:Nat}{a:α}(h:xs[k]?=Δ a):oY xs (k:Int)=Δ a:=by have hk:=(qqz h).1;unfold oY Bm;rw[if_pos (by lia),if_pos (by lia)];simpa using h
@[simp] theorem atI0{α:Type}(a:α)xs:oY (a::xs) 0=Δ a:=fT (k:=0) rfl
@[simp] theorem atI1{α:Type}(a b:α)xs:oY (a::b::xs) 1=Δ b:=fT (k:=1) rfl
theorem ag(h:aP C s r st=.ok (.nx r1) st1)(k:aj C rest r1 st1=res):aj C (s::rest) r st=res:=by rw[iQ,h,ae];exact k
theorem aA(h:aP C s r st=.ok (.rt v) st1):aj C (s::rest) r st=.ok (.rt v) st1:=by rw[iQ,h,ae]
theorem av:aj C [] r st=.ok (.nx r) st:=by rw[tN]
theorem bD(h:aa C e r st=.ok v st1):aP C (.ret e) r st=.ok (.rt v) st1:=by rw[pB,h,ae]
theorem bT(h:aa C e r st=.ok v st1):aP C (.set i e) r st=.ok (.nx (r.set i (Δ v))) st1:=by rw[pD,h,ae]
theorem dw(hc:aa C c r st=.ok (.d (.bl Λ)) st1)(h:aj C a r st1=res):aP C (.ifs c a b) r st=res:=by rw[pE,cg,hc];simpa using h
theorem dg(hc:aa C c r st=.ok (.d (.bl Ξ)) st1)(h:aj C b r st1=res):aP C (.ifs c a b) r st=res:=by rw[pE,cg,hc];simpa using h
theorem gc(hw:cx C w r st=.ok ps st1)(h:forL (je t) (aj C b) ps r st1=res):aP C (.iF t w b) r st=res:=by rw[tF,hw,ae];exact h
theorem yg(h:n - i < k+1)(hi:i < n):n - (i+1) < k:=Xx (ZR _ _ hi) (Nat.le_of_lt_succ h)
theorem uo(hc:∀r st f aM,st[n]?=Δ (.lst xs)->c r st=.ok f aM->aM[n]?=Δ (.lst xs))(he:∀r st f aM,st[n]?=Δ (.lst xs)->e r st=.ok f aM->aM[n]?=Δ (.lst xs)):
  ∀(k i) (st),st[n]?=Δ (.lst xs)->xs.length - i < k->cw n g c e k i st=cN g c e (xs.drop i) st
 |0,i,st,_,hk=>absurd hk (ZM _)|k+1,i,st,hs,hk=>by
  have ha:wa n st i=Δ xs[i]?:=by unfold wa;rw[hs]
  rw[mK,ha];by_cases hi:i < xs.length;·rw[W6 hi,X9 hi,fJ];dsimp only;cases hx:c (g xs[i]) st with|ex x s=>rfl|no=>rfl|ok b st1=>rw[ae,ae];have h1:=hc _ st b st1 hs hx;cases b with|false=>exact uo hc he k (i+1) st1 h1 (yg hk hi)|true=>simp only[if_true];cases hy:e (g xs[i]) st1 with|ex x s=>rfl|no=>rfl|ok y st2=>rw[ae,ae,uo hc he k (i+1) st2 (he _ st1 y st2 h1 hy) (yg hk hi)]
  ·rw[XI (by lia),aaT (by lia),wz]
theorem G5(he:aa C e r st=.ok (.obj n) st1)(h:iG n (je t) (aj C b) dQ 0 r st1=res):aP C (.iG t e b) r st=res:=by rw[tG,he,ae];exact h
theorem oj(ha:aa C a r st=.ok x st1)(hl:bY st1 x=Δ its)(he:aa C e r st1=.ok v st2)(hp:xM x v st2=Δ st3):aP C (.app a e) r st=.ok (.nx r) st3:=by rw[wq,ha,ae,hl,az,ae,he,ae,hp,az,ae]
theorem om(he:aa C e r st=.ok v st1)(ha:aa C a r st1=.ok x st2)(hi:aa C i r st2=.ok k st3)(hp:nQ x k v st3=Δ l6):aP C (.put a i e) r st=.ok (.nx r) l6:=by rw[wu,he,ae,ha,ae,hi,ae,hp,az,ae]
end
end Y
namespace Y
open PySem
section
variable{C:Nat->List P->aN->R P}{r:b9}{st:aN}
theorem Ab i es:aa C (.nN i es) r st=(R.of (r[i]?).join st).bind λp bJ=>(aF C es r bJ).bind λps st1=>match p with|.fn k bq=>C k (ps++bq) st1|_=>.no:=rfl
theorem C5 c f i:aa C (.attr c f i) r st=(R.of (r[i]?).join st).bind λx st1=>R.of ((ph c st1 x).bind λq=>q.2.lookup f) st1:=rfl
theorem JV k c m i es:aa C (.pf k c m i es) r st=(R.of (r[i]?).join st).bind λx bJ=>(R.of ((ph c bJ x).bind λq=>if(q.2.lookup m).isNone then Δ () else Θ) bJ).bind λ_ bJ=>(aF C es r bJ).bind λps st1=>C k (x::ps) st1:=rfl
theorem Ac w js c e:aX C (.comp w 1 js c e) r st=(cx C w r st).bind λps st1=>if ps.length<=aw then cN (λp=>Δ p::bO js r) (bC C c) (λr' aM=>aa C e r' aM) ps st1 else .no:=by rw[hU];simp
theorem mQ(h:aa C e r st=.ok v st1):aP C (.expr e) r st=.ok (.nx r) st1:=by rw[tJ,h,ae]
theorem N6 i k:aP C (.nK i k) r st=.ok (.nx (r.set i (Δ (.lf k)))) st:=by rw[tK]
theorem uq(he:aa C e r st=.ok v st1)(hi:(r[i]?).join=Δ x)(hq:ph c st1 x=Δ (n,fs))(hl:fs.length < 1000):aP C (.lT c f i e) r st=.ok (.nx r) (st1.set n (.ins c (vq f v fs))):=by have vZ:kr r i=Δ x:=hi;rw[tM,he,ae,vZ,az,ae,hq];simp[hl]
theorem N7(he:aa C e r st=.ok (.obj n) st1)(hs:st1[n]?=Δ (.dK kvs))(h:mH i j (aj C b) kvs r (st1.set n .vp)=.ok f st2):aP C (.BJ i j e b) r st=.ok f (st2.set n (.dK kvs)):=by
 rw[tH,he,ae];have:sX st1 (.obj n)=Δ (n,kvs):=by simp[sX,hs]
 rw[this,az,ae];dsimp only;rw[h,ae]
theorem N8(he:aa C e r st=.ok (.obj n) st1)(h:jb n i j (aj C b) dQ 0 r st1=res):aP C (.jb i j e b) r st=res:=by rw[tI,he,ae];exact h
theorem C6(h:gu (cg (aa C c)) (aj C b) dQ r st=res):aP C (.kN c b) r st=res:=by rw[nR];exact h
theorem k7{I:Nat->b9->aN->Prop}:∀{ps} {k} {r} {st},(∀i p r st,I (k+i) r st->ps[i]?=Δ p->∃r1 r2 st1,g p r=Δ r1/\b r1 st=.ok (.nx r2) st1/\I (k+i+1) r2 st1)->I k r st->
  ∃r' aM,forL g b ps r st=.ok (.nx r') aM/\I (k+ps.length) r' aM
 |[],k,r,st,_,h=>⟨r,st,rfl,h⟩|p::ps,k,r,st,hs,h=>by obtain⟨r1,r2,st1,h1,h2,h3⟩:=hs 0 p r st h rfl;obtain⟨r',aM,e,q⟩:=k7 (g:=g) (b:=b) (I:=I) (ps:=ps) (k:=k+1) (r:=r2) (st:=st1) (λi p r st hi hp=>by have:=hs (i+1) p r st (by rw[show k+(i+1)=k+1+i from Yq k i 1];exact hi) (by simpa using hp);rw[show k+(i+1)+1=k+1+i+1 from congrArg (·+1) (Yq k i 1)] at this;exact this) h3;refine⟨r',aM,?_,by rw[Xq,show k+(ps.length+1)=k+1+ps.length from Yq k ps.length 1];exact q⟩;rw[pF,h1,az,ae,h2,ae];exact e
theorem Ad{I:Nat->b9->aN->Prop}:∀{ps} {k} {r} {st},(∀i kv r st,I (k+i) r st->ps[i]?=Δ kv->∃r2 st1,b ((r.set x (Δ (xN kv.1))).set y (Δ kv.2)) st=.ok (.nx r2) st1/\I (k+i+1) r2 st1)->I k r st->
  ∃r' aM,mH x y b ps r st=.ok (.nx r') aM/\I (k+ps.length) r' aM
 |[],k,r,st,_,h=>⟨r,st,rfl,h⟩|p::ps,k,r,st,hs,h=>by obtain⟨r2,st1,h2,h3⟩:=hs 0 p r st h rfl;obtain⟨r',aM,e,q⟩:=Ad (x:=x) (y:=y) (b:=b) (I:=I) (ps:=ps) (k:=k+1) (r:=r2) (st:=st1) (λi p r st hi hp=>by have:=hs (i+1) p r st (by rw[show k+(i+1)=k+1+i from Yq k i 1];exact hi) (by simpa using hp);rw[show k+(i+1)+1=k+1+i+1 from congrArg (·+1) (Yq k i 1)] at this;exact this) h3;refine⟨r',aM,?_,by rw[Xq,show k+(ps.length+1)=k+1+ps.length from Yq k ps.length 1];exact q⟩;rw[wy,h2,ae];exact e
theorem ur{I:Nat->b9->aN->Prop}(hI:∀i r st,I i r st->st[n]?=Δ (.lst xs))(hs:∀i p r st,I i r st->xs[i]?=Δ p->∃r1 r2 st1,g p r=Δ r1/\b r1 st=.ok (.nx r2) st1/\I (i+1) r2 st1):
  ∀(k) {i} {r} {st},I i r st->i<=xs.length->xs.length - i < k->∃r' aM,iG n g b k i r st=.ok (.nx r') aM/\I xs.length r' aM
 |0,i,r,st,_,_,hk=>absurd hk (ZM _)|k+1,i,r,st,h,hi,hk=>by
  have ha:wa n st i=Δ xs[i]?:=by unfold wa;rw[hI i r st h]
  rw[pH,ha];by_cases fm:i < xs.length;·obtain⟨r1,r2,st1,h1,h2,h3⟩:=hs i xs[i] r st h (W6 fm);obtain⟨r',aM,e,q⟩:=ur hI hs k h3 fm (yg hk fm);refine⟨r',aM,?_,q⟩;rw[W6 fm];dsimp only;rw[h1,az,ae,h2,ae];exact e
  ·have e:i=xs.length:=by lia
   subst e;refine⟨r,st,?_,h⟩;rw[XI (by lia)]
theorem Ae{I:Nat->b9->aN->Prop}(hI:∀i r st,I i r st->st[n]?=Δ (.lst xs))(hs:∀i p r st,I i r st->xs[i]?=Δ p->∃r2 st1,b ((r.set x (Δ (.d (.int i)))).set y (Δ p)) st=.ok (.nx r2) st1/\I (i+1) r2 st1):
  ∀(k) {i} {r} {st},I i r st->i<=xs.length->xs.length - i < k->∃r' aM,jb n x y b k i r st=.ok (.nx r') aM/\I xs.length r' aM
 |0,i,r,st,_,_,hk=>absurd hk (ZM _)|k+1,i,r,st,h,hi,hk=>by
  have ha:wa n st i=Δ xs[i]?:=by unfold wa;rw[hI i r st h]
  rw[pI,ha];by_cases fm:i < xs.length;·obtain⟨r2,st1,h2,h3⟩:=hs i xs[i] r st h (W6 fm);obtain⟨r',aM,e,q⟩:=Ae hI hs k h3 fm (yg hk fm);refine⟨r',aM,?_,q⟩;rw[W6 fm];dsimp only;rw[h2,ae];exact e
  ·have e:i=xs.length:=by lia
   subst e;refine⟨r,st,?_,h⟩;rw[XI (by lia)]
theorem pV{I:Nat->b9->aN->Prop}{E:b9->aN->Prop}(hs:∀k r st,I k r st->(c r st=.ok Ξ st/\E r st)\/(∃j,k=j+1/\c r st=.ok Λ st/\∃r2 st1,b r st=.ok (.nx r2) st1/\I j r2 st1)):
  ∀(n) {k} {r} {st},I k r st->k < n->∃r' aM,gu c b n r st=.ok (.nx r') aM/\E r' aM
 |0,k,r,st,_,hk=>absurd hk (ZM _)|n+1,k,r,st,h,hk=>by
  rcases hs k r st h with ⟨h1,h2⟩|⟨j,rfl,h1,r2,st1,h2,h3⟩
  ·exact⟨r,st,by rw[kQ,h1,ae];rfl,h2⟩
  ·obtain⟨r',aM,e,q⟩:=pV hs n h3 (by lia);refine⟨r',aM,?_,q⟩;rw[kQ,h1,ae];simp only[if_true];rw[h2,ae];exact e
theorem pW{I:Nat->List P->aN->Prop}:∀{ps} {k} {ys} {st},(∀i p ys st,I (k+i) ys st->ps[i]?=Δ p->∃y st1,c (g p) st=.ok Λ st/\e (g p) st=.ok y st1/\I (k+i+1) (ys++[y]) st1)->I k ys st->
  ∃zs aM,cN g c e ps st=.ok zs aM/\I (k+ps.length) (ys++zs) aM
 |[],k,ys,st,_,h=>⟨[],st,rfl,by simpa using h⟩|p::ps,k,ys,st,hs,h=>by obtain⟨y,st1,h1,h2,h3⟩:=hs 0 p ys st h rfl;obtain⟨zs,aM,e',q⟩:=pW (g:=g) (c:=c) (e:=e) (I:=I) (ps:=ps) (k:=k+1) (ys:=ys++[y]) (st:=st1) (λi p ys st hi hp=>by have:=hs (i+1) p ys st (by rw[show k+(i+1)=k+1+i from Yq k i 1];exact hi) (by simpa using hp);rw[show k+(i+1)+1=k+1+i+1 from congrArg (·+1) (Yq k i 1)] at this;exact this) h3;refine⟨y::zs,aM,?_,by rw[Xq,show k+(ps.length+1)=k+1+ps.length from Yq k ps.length 1];simpa using q⟩;rw[fJ,h1,ae];simp only[if_true];rw[h2,ae,e',ae]
end
theorem k8(hF:Fs[k]?=Δ F)(Cw:F.sh=Λ)(hl:ps.length=F.np)(hr:aj (callC Fs n) F.body (ai F.nn ps) st=.ok (.nx r) aM):callC Fs (n+1) k ps st=.ok (.d .bu) aM:=by rw[hW,hF];simp only[Cw,if_true,hl,hr,Ja]
theorem JW{A L B:aN}(h:t < L.length):(A++L++B).set (A.length+t) x=A++L.set t x++B:=by rw[X7,aaY _ _ (by lia),X7];congr 1;rw[Nat.add_sub_cancel_left,List.set_append_left _ _ h]
theorem JX{A L B:aN}(h:t < L.length):(A++L++B)[A.length+t]?=L[t]?:=by rw[X7,Xu (by lia),Nat.add_sub_cancel_left,Xb h]
theorem pX:∀(xs) (k i:Nat),(dS k xs)[i]?=(xs[i]?).map λx=>.d (.tup [.int ((k+i:Nat):Int),x])
 |[],k,i=>by simp[dS]|x::xs,k,0=>by simp[dS]|x::xs,k,i+1=>by rw[dS,Xn,pX xs (k+1) i,Xn,show k+1+i=k+(i+1) from Yq k 1 i]
theorem pY:∀(xs) (k),(dS k xs).length=xs.length
 |[],k=>rfl|x::xs,k=>by rw[dS,Xq,Xq,pY xs (k+1)]
theorem ij{i:Nat}(h:st[n]?=Δ (.lst xs))(hp:xs[i]?=Δ p):A0 (.obj n) (.d (.int (i:Int))) st=Δ p:=by unfold A0;rw[jW h];show(cY st (.obj n)).bind (λxs=>oY xs (i:Int))=_;rw[Lh,gS h];exact fT hp
theorem iS(h:st[n]?=Δ (.lst xs))(hl:xs.length < aw):xM (.obj n) v st=Δ (st.set n (.lst (xs++[v]))):=by unfold xM;simp[h,hl]
theorem gT(h:st[n]?=Δ (.lst xs)):oP .len [.obj n] st=Δ (.d (.int xs.length)):=by show(match bE st (.obj n) with|some o=>Δ (P.d (.int (Gi o)))|none=>(cY st (.obj n)).map λxs:List P=>P.d (.int xs.length))=_;rw[jW h,Lh,gS h];rfl
theorem G6(h:st[n]?=Δ (.dK kvs)):oP .len [.obj n] st=Δ (.d (.int kvs.length)):=by show(match bE st (.obj n) with|some o=>Δ (P.d (.int (Gi o)))|none=>(cY st (.obj n)).map λxs:List P=>P.d (.int xs.length))=_;rw[lN h];rfl
theorem yh{n i:Nat}{xs:List P}{v:P}(h:st[n]?=Δ (.lst xs))(hi:i < xs.length):nQ (.obj n) (.d (.int (i:Int))) v st=Δ (st.set n (.lst (xs.set i v))):=by
 have:Bm xs.length (i:Int)=Δ i:=by unfold Bm;simp;lia
 unfold nQ;simp[h,zy,this]
theorem JY:oP .tuple [.obj n] st=(bY st (.obj n)).bind λxs=>(ba xs).map λys=>.d (.tup ys):=rfl
theorem JZ:oP .any [.d (.pl xs)] st=(boolsOf (xs.map .d)).map λbs=>.d (.bl (bs.any id)):=rfl
theorem RQ:bY (.lst xs::st) (.obj 0)=Δ xs:=rfl
theorem Wj(h:n+1<=f+j)(h1:j < l)(h2:l<=n):∃f',f=f'+1:=⟨f - 1,by lia⟩
theorem Wk(h:k=n - j)(h1:l<=n)(h2:j < l):k=n - (j+1)+1:=by lia
theorem J1{α:Type}{l:List α}i(h:l.length < 1000000):(l.take i).length < aw:=abv (List.length_take_le' ..) (aaR h (by decide))
noncomputable def cell(ns:List Int)(k:Nat):Int:=ns.getD k 0
def Af(ns:List Int)(k:Nat):Int:=(cell ns k+7919*k+1)*48271 % 2147483647
def mixed(ns:List Int)(k:Nat):Int:=(Af ns k*Af ns k+7*Af ns k+k) % 2147483629
theorem bj i{j:Int}(h:0 < j):0<=i % j/\i % j < j:=⟨Int.emod_nonneg _ (by lia),Int.emod_lt_of_pos _ h⟩
noncomputable def Ag(x:Int)(k:Nat):Int:=(x+104729*k+17)*69621 % 2147483647
def drawn(x:Int)(k:Nat):Int:=(Ag x k*Ag x k+3*Ag x k+k) % 2147483629
abbrev dR:=List (Nat×List Nat)
noncomputable def nD(n:Nat):D:=.int (n:Int)
def wD(u:List Nat):D:=.tup (u.map nD)
def gf(s:Nat×List Nat):D:=.tup [nD s.1,wD s.2]
def mD(m:dR):D:=.tup (m.map gf)
structure fU(w:Nat)(m:dR):Prop where
 ne:0 < m.length
 good:∀s∈m,s.1<=1
 len:∀s∈m,s.2.length=w
 lt:∀s∈m,∀t∈s.2,t < m.length
noncomputable def row(m:dR)(s:Nat):Nat×List Nat:=m.getD s (0,[])
def bH(m:dR)(s a:Nat):Nat:=(row m s).2.getD a 0
def gd(m:dR)(s:Nat):Nat:=(row m s).1
def walk(m:dR)(s:Nat)(u:List Nat):Nat:=u.foldl (bH m) s
theorem bZ(h:s < m.length):row m s∈m:=by unfold row;rw[Xa,W6 h];exact X6 h
theorem B2(h:s < m.length):m[s]?=Δ (row m s):=by unfold row;rw[Xa,W6 h];rfl
theorem fU.bH{w:Nat}{m:dR}(k:fU w m){s a:Nat}(hs:s < m.length)(ha:a < w):bH m s a < m.length:=by have hr:=bZ hs;have hl:=k.len _ hr;unfold Y.bH;rw[Xa,W6 (by lia)];exact k.lt _ hr _ (X6 _)
theorem G7{s:Nat}(h:s < m.length):oY (m.map gf) (s:Int)=Δ (gf (row m s)):=fT (by rw[Xg,B2 h];rfl)
theorem Wl(k:fU w m)(h:s < m.length)(ha:a < w):oY ((row m s).2.map nD) (a:Int)=Δ (nD (bH m s a)):=by have hl:=k.len _ (bZ h);refine fT ?_;rw[Xg,W6 (by lia)];unfold bH;rw[Xa,W6 (by lia)];rfl
theorem yi{r:b9}{st:aN}{m:dR}{em es:E}{s:Nat}(h:s < m.length)(e1:aa C em r st=.ok (.d (mD m)) st)(e2:aa C es r st=.ok (.d (.int (s:Int))) st):
  aa C (.ix (.ix em es) (.cst (.int 0))) r st=.ok (.d (.int (gd m s:Nat))) st:=by
 simp[e1,e2,mD,G7 h,gf,nD,gd]
def HN(x:Int)(w c:Nat):dR:=(W7 c).map λk=>((drawn x (7*k+5) % 3 % 2).toNat,(W7 w).map λl=>(drawn x (7*k+l) % (c:Int)).toNat)
theorem N9 x w(hc:0 < c):fU w (HN x w c):=by
 refine⟨by simp[HN];exact hc,λs hs=>?_,λs hs=>?_,λs hs t ht=>?_⟩<;>
  (simp only[HN,YQ,Ym] at hs;obtain⟨k,hk,rfl⟩:=hs)
 ·have:=bj (drawn x (7*k+5) % 3) (show(0:Int) < 2 by decide);dsimp only;lia
 ·simp
 ·simp only[YQ,Ym] at ht;obtain⟨l,hl,rfl⟩:=ht;have:=bj (drawn x (7*k+l)) (show(0:Int) < (c:Int) by lia);simp only[HN,Xc,XX];lia
theorem J2 x w c:(HN x w c).length=c:=by simp[HN]
theorem RR{j:Nat}(h:j < 1000000):qZ [.d (.int (j:Int))]=Δ ((W7 j).map λk=>.d (.int (k:Int))):=by
 have c1: -mE<=(j:Int)/\(j:Int) < mE:=by unfold mE;lia
 unfold qZ;simp only[if_pos c1,Gn];congr 1;simp
theorem dh{j:Nat}(h:aa C e r st=.ok (.d (.int (j:Int))) st)(hj:j < 1000000):cx C (.iB [e]) r st=.ok ((W7 j).map λk:Nat=>.d (.int (k:Int))) st:=by rw[wo,ay,h,ae,aE,ae,ae,RR hj,az]
end Y
namespace Y
abbrev Wd(w:Nat)(u:List Nat):Prop:=∀a∈u,a < w
theorem Wd.nil:Wd w []:=λa h=>by cases h
theorem Wd.cons(ha:a < w)(h:Wd w u):Wd w (a::u):=λb hb=>by
 rcases Zy.mp hb with z|z;·rw[z];exact ha
 ·exact h b z
theorem Wd.tail(h:Wd w (a::u)):Wd w u:=λb hb=>h b (W5 _ hb)
theorem Wd.head(h:Wd w (a::u)):a < w:=h a W8
def ik(w:Nat)(m:dR)(s:Nat)(m':dR)(s':Nat):Prop:=∀u,Wd w u->gd m (walk m s u)=gd m' (walk m' s' u)
theorem ik.refl:ik w m s m s:=λ_ _=>rfl
theorem ik.symm(h:ik w m s m' s'):ik w m' s' m s:=λu hu=>(h u hu).symm
theorem ik.trans(h:ik w m s m' s')(h':ik w m' s' m2 s2):ik w m s m2 s2:=λu hu=>(h u hu).trans (h' u hu)
theorem ik.step(h:ik w m s m' s')(ha:a < w):ik w m (bH m s a) m' (bH m' s' a):=λu hu=>h (a::u) (hu.cons ha)
theorem ik.good(h:ik w m s m' s'):gd m s=gd m' s':=h [] Wd.nil
def Red(w:Nat)(m:dR):Prop:=∀s t,s < m.length->t < m.length->ik w m s m t->s=t
noncomputable def gK:List Nat->Nat->Option Nat
 |[],c=>Δ c|s::ss,c=>if s < c then gK ss c else if s=c then gK ss (c+1) else Θ
def gg:dR->Nat->Nat->Option Nat
 |[],_,c=>Δ c|q::qs,k,c=>if k < c then(gK q.2 c).bind λc'=>gg qs (k+1) c' else Θ
structure jx(w:Nat)(m:dR):Prop where
 ok:fU w m
 red:Red w m
 ord:gg m 0 1=Δ m.length
theorem C7:∀{m} {k c d},gg m k c=Δ d->m=[]\/k < c
 |[],k,c,d,h=>.inl rfl|q::qs,k,c,d,h=>by
  simp only[gg] at h;split at h;·exact .inr ‹_›
  ·cases h
theorem uu(hr:Red w m)(OX:Red w m'):∀{ss J3} {c d d'},ss.length=J3.length->(∀(i s s':Nat),ss[i]?=Δ s->J3[i]?=Δ s'->ik w m s m' s'/\s < m.length/\s' < m'.length)->
  (∀s,s < c->ik w m s m' s/\s < m.length/\s < m'.length)->gK ss c=Δ d->gK J3 c=Δ d'->ss=J3/\d=d'/\∀s,s < d->ik w m s m' s/\s < m.length/\s < m'.length
 |[],[],c,d,d',_,_,hc,h,h'=>by simp[gK] at h h';subst h;subst h';exact⟨rfl,rfl,hc⟩|s::ss,s'::J3,c,d,d',hl,hs,hc,h,h'=>by
  obtain⟨q,q1,q2⟩:=hs 0 s s' rfl rfl;have sv:∀(i t t':Nat),ss[i]?=Δ t->J3[i]?=Δ t'->ik w m t m' t'/\t < m.length/\t' < m'.length:=λi t t' e e'=>hs (i+1) t t' (by simpa using e) (by simpa using e');have rP:ss.length=J3.length:=by simpa using hl
  have eq1:s < c->s=s':=λh1=>by obtain⟨a,b,c1⟩:=hc s h1;exact OX s s' c1 q2 (a.symm.trans q)
  have eq2:s' < c->s=s':=λh1=>by obtain⟨a,b,c1⟩:=hc s' h1;exact hr s s' q1 b (q.trans a.symm)
  simp only[gK] at h h';by_cases h1:s < c;·have e:=eq1 h1;subst e;rw[if_pos h1] at h h';obtain⟨a,b,c1⟩:=uu hr OX rP sv hc h h';exact⟨by rw[a],b,c1⟩
  ·have h2:¬s' < c:=λz=>h1 (by rw[eq2 z];exact z);rw[if_neg h1] at h;rw[if_neg h2] at h';split at h
   ·split at h'
    ·rename_i e e';subst e;subst e';have L0:∀t,t < s'+1->ik w m t m' t/\t < m.length/\t < m'.length:=λt ht=>by
      by_cases z:t < s';·exact hc t z
      ·have:t=s':=by lia
       subst this;exact⟨q,q1,q2⟩
     obtain⟨a,b,c1⟩:=uu hr OX rP sv L0 h h';exact⟨by rw[a],b,c1⟩
    ·cases h'
   ·cases h
theorem oo(h:m.drop k=q::qs):k < m.length/\row m k=q/\m.drop (k+1)=qs:=by
 have hk:k < m.length:=by
  by_cases z:k < m.length;·exact z
  ·rw[aaT (by lia)] at h;cases h
 rw[X9 hk] at h;injection h with h1 h2;refine⟨hk,?_,h2⟩;unfold row;rw[Xa,W6 hk];exact h1
theorem Ah(k:fU w m)(k':fU w m')(hr:Red w m)(OX:Red w m'):∀{qs qs'} {j c d d'},m.drop j=qs->m'.drop j=qs'->(∀s,s < c->ik w m s m' s/\s < m.length/\s < m'.length)->
  gg qs j c=Δ d->gg qs' j c=Δ d'->m.length=d->m'.length=d'->qs=qs'
 |[],[],j,c,d,d',_,_,_,_,_,_,_=>rfl|[],q'::qs',j,c,d,d',e,e',hc,h,h',hd,Ck=>by
  have hj:j < m'.length:=(oo e').1;have V1:m.length<=j:=by
   by_cases z:j < m.length;·rw[X9 z] at e;cases e
   ·lia
  rcases C7 h' with z|z;·cases z
  ·have:=(hc j z).2.1;lia
 |q::qs,[],j,c,d,d',e,e',hc,h,h',hd,Ck=>by
  have hj:j < m.length:=(oo e).1;have V1:m'.length<=j:=by
   by_cases z:j < m'.length;·rw[X9 z] at e';cases e'
   ·lia
  rcases C7 h with z|z;·cases z
  ·have:=(hc j z).2.2;lia
 |q::qs,q'::qs',j,c,d,d',e,e',hc,h,h',hd,Ck=>by
  obtain⟨g1,g2,g3⟩:=oo e;obtain⟨g1',Wm,g3'⟩:=oo e';simp only[gg] at h h';split at h
  ·rename_i hj;rw[if_pos hj] at h';obtain⟨sj,_,_⟩:=hc j hj;have l1:q.2.length=w:=by rw[<-g2];exact k.len _ (bZ g1)
   have l2:q'.2.length=w:=by rw[<-Wm];exact k'.len _ (bZ g1')
   cases e1:gK q.2 c with
   |none=>rw[e1] at h;cases h|some c1=>
    cases e2:gK q'.2 c with
    |none=>rw[e2] at h';cases h'|some c2=>
     rw[e1] at h;rw[e2] at h';obtain⟨a,b,c3⟩:=uu hr OX (l1.trans l2.symm) (λi s s' hs sM=>by
      have hi:i < w:=by rw[<-l1];exact(qqz hs).1
      have z1:bH m j i=s:=by unfold bH;rw[g2,Xa,hs];rfl
      have z2:bH m' j i=s':=by unfold bH;rw[Wm,Xa,sM];rfl
      rw[<-z1,<-z2];exact⟨sj.step hi,k.bH g1 hi,k'.bH g1' hi⟩) hc e1 e2
     subst b;have e3:=Ah k k' hr OX g3 g3' c3 h h' hd Ck;have e4:q.1=q'.1:=by have:=sj.good;unfold gd at this;rw[g2,Wm] at this;exact this
     rw[e3,acX e4 a]
  ·cases h
theorem jx.one(h:jx w m)(h':jx w m')(hs:ik w m 0 m' 0):m=m':=
 Ah h.ok h'.ok h.red h'.red (j:=0) (qs:=m) (qs':=m') rfl rfl (λs hc=>by
  have:s=0:=by lia
  subst this;exact⟨hs,h.ok.ne,h'.ok.ne⟩) h.ord h'.ord rfl rfl
end Y
namespace Y
open Classical
theorem filter_le(h:∀x,p x=Λ->q x=Λ):∀l:List Nat,(l.filter p).length<=(l.filter q).length
 |[]=>Xd _|x::l=>by have ih:=filter_le h l;cases hp:p x with|true=>rw[XH hp,XH (h x hp)];simp;exact ih|false=>rw[XU (by simp[hp])];cases hq:q x with|true=>rw[XH hq];simp;lia|false=>rw[XU (by simp[hq])];exact ih
theorem filter_lt(h:∀x,p x=Λ->q x=Λ)(h1:p y=Ξ)(h2:q y=Λ):∀l:List Nat,y∈l->(l.filter p).length < (l.filter q).length
 |[],z=>by cases z|x::l,z=>by
  have il:=filter_le h l;rcases Zy.mp z with e|e;·subst e;rw[XU (by simp[h1]),XH h2];simp;lia
  ·have ih:=filter_lt h h1 h2 l e;cases hp:p x with|true=>rw[XH hp,XH (h x hp)];simp;exact ih|false=>rw[XU (by simp[hp])];cases hq:q x with|true=>rw[XH hq];simp;lia|false=>rw[XU (by simp[hq])];exact ih
def gU(w:Nat)(m:dR)(k s t:Nat):Prop:=∀u,Wd w u->u.length<=k->gd m (walk m s u)=gd m (walk m t u)
variable{w:Nat}{m:dR}
theorem gU.refl:gU w m k s s:=λ_ _ _=>rfl
theorem gU.symm(h:gU w m k s t):gU w m k t s:=λu hu hl=>(h u hu hl).symm
theorem gU.trans(h:gU w m k s t)(h':gU w m k t r):gU w m k s r:=λu hu hl=>(h u hu hl).trans (h' u hu hl)
theorem gU.mono(h:gU w m k s t)(hj:j<=k):gU w m j s t:=λu hu hl=>h u hu (XW hl hj)
theorem gU.step(h:gU w m (k+1) s t)(ha:a < w):gU w m k (bH m s a) (bH m t a):=λu hu hl=>h (a::u) (hu.cons ha) (by simp;lia)
theorem gU.C8(h0:gd m s=gd m t)(h:∀a,a < w->gU w m k (bH m s a) (bH m t a)):gU w m (k+1) s t:=λu hu hl=>by cases u with|nil=>exact h0|cons a u=>exact h a hu.head u hu.tail (by simpa using hl)
theorem gU.G8(ok:fU w m)(hk:∀s t,s < m.length->t < m.length->gU w m k s t->gU w m (k+1) s t):∀(j) {s t},s < m.length->t < m.length->gU w m k s t->gU w m (k+j) s t
 |0,s,t,_,_,h=>h|j+1,s,t,hs,ht,h=>by have h1:=hk s t hs ht h;exact gU.C8 (h [] Wd.nil (Yj _)) λa ha=>gU.G8 ok hk j (ok.bH hs ha) (ok.bH ht ha) (h1.step ha)
theorem gU.Oa(ok:fU w m)(hk:∀s t,s < m.length->t < m.length->gU w m k s t->gU w m (k+1) s t)(hs:s < m.length)(ht:t < m.length)(h:gU w m k s t):ik w m s m t:=λu hu=>gU.G8 ok hk u.length hs ht h u hu (by lia)
noncomputable def rep(w:Nat)(m:dR)(k s:Nat):Bool:=decide (∀t,t < s->¬gU w m k t s)
noncomputable def uv(w:Nat)(m:dR)(k:Nat):Nat:=((W7 m.length).filter (rep w m k)).length
theorem Ai(p:Nat->Prop):∀n,p n->∃r,r<=n/\p r/\∀t,t < r->¬p t:=λn=>by
 induction n using Nat.strongRecOn with
 |_ n ih=>
  intro h;by_cases z:∃t,t < n/\p t;·obtain⟨t,ht,hp⟩:=z;obtain⟨r,h1,h2,h3⟩:=ih t ht hp;exact⟨r,by lia,h2,h3⟩
  ·exact⟨n,Xd _,h,λt ht hp=>z ⟨t,ht,hp⟩⟩
theorem J4(hs:s < m.length)(ht:t < m.length)(h:gU w m k s t)(hn:¬gU w m (k+1) s t):uv w m k < uv w m (k+1):=by
 obtain⟨r,r1,r2,r3⟩:=Ai (λx=>gU w m k x s) s gU.refl;have go:∀y,y < m.length->gU w m k y s->¬gU w m (k+1) y r->uv w m k < uv w m (k+1):=λy hy e n=>by
  obtain⟨z,z1,z2,z3⟩:=Ai (λx=>gU w m (k+1) x y) y gU.refl;have e2:gU w m k r z:=r2.trans (e.symm.trans (z2.mono (Y6 _)).symm);have hz:r≠z:=λc=>by subst c;exact n z2.symm
  have fm:r < z:=by
   rcases Nat.lt_or_ge r z with c|c;·exact c
   ·exact absurd ((z2.mono (Y6 k)).trans e) (r3 z (by lia))
  refine filter_lt (y:=z) (λx hx=>?_) ?_ ?_ _ (by simp;lia);·simp only[rep,qqq] at hx ⊢;exact λt' h1 h2=>hx t' h1 (h2.mono (Y6 _))
  ·simp only[rep,decide_eq_false_iff_not];exact λc=>c r fm e2
  ·simp only[rep,qqq];exact λt' h1 h2=>z3 t' h1 (h2.trans z2)
 by_cases c:gU w m (k+1) s r;·exact go t ht h.symm λd=>hn (c.trans d.symm)
 ·exact go s hs gU.refl c
theorem J5 k:uv w m k<=m.length:=by unfold uv;exact XW (ZJ _ _) (by simp)
theorem G9(ok:fU w m)k:0 < uv w m k:=by unfold uv;refine Y3 (a:=0) ?_;rw[Yl];exact⟨by simpa using ok.ne,by simp[rep]⟩
theorem Eo(ok:fU w m):∃k,k < m.length/\∀s t,s < m.length->t < m.length->gU w m k s t->gU w m (k+1) s t:=by
 apply Xz;intro hn;have Br:∀k,k < m.length->uv w m k < uv w m (k+1):=λk hk=>by apply Xz;intro hc;refine hn ⟨k,hk,λs t hs ht h=>?_⟩;apply Xz;intro he;exact hc (J4 hs ht h he)
 have grow:∀k,k<=m.length->k < uv w m k:=λk=>by
  induction k with
  |zero=>intro _;exact G9 ok 0|succ k ih=>
   intro hk;have h1:=ih (by lia);have h2:=Br k (by lia)
   lia
 have h1:=grow m.length (Xd _);have h2:=J5 (w:=w) (m:=m) m.length
 lia
theorem yj(ok:fU w m)(hs:s < m.length)(ht:t < m.length)(h:gU w m m.length s t):ik w m s m t:=by obtain⟨k,hk,qg⟩:=Eo ok;exact gU.Oa ok qg hs ht (h.mono (aar hk))
end Y
namespace Y
open PySem
noncomputable def fc(x:D)(h:Int):Bool:=match x with|.int i=>decide (0<=i)&&decide (i<=h)|_=>Ξ
def jY(x:D)(w:Int)(h:Int):Bool:=match x with|.tup ss=>decide ((ss.length:Int)=w)&&ss.all λs=>fc s h|_=>Ξ
def b7(w h:Int):D->Bool
 |.tup [g,ss]=>fc g 1&&jY ss w h|_=>Ξ
def eU(x:D)(w:Int):Bool:=match x with|.tup xs=>!xs.isEmpty&&xs.all λs=>b7 w ((xs.length:Int) - 1) s|_=>Ξ
theorem C9{h:Nat}(k:fc x (h:Int)=Λ):∃n,x=nD n/\n<=h:=by cases x with|int i=>simp only[fc,W3,qqq] at k;exact⟨i.toNat,by unfold nD;rw[abk k.1],by lia⟩|_=>cases k
theorem Dc{h:Nat}:∀{ss},(ss.all λs=>fc s (h:Int))=Λ->∃ns:List Nat,ss=ns.map nD/\∀n∈ns,n<=h
 |[],_=>⟨[],rfl,λ_ z=>by cases z⟩|s::ss,k=>by rw[YY,W3] at k;obtain⟨n,e,hn⟩:=C9 k.1;obtain⟨ns,es,hs⟩:=Dc k.2;exact⟨n::ns,by rw[e,es];rfl,λy hy=>by rcases Zy.mp hy with z|z;rw[z];exact hn;exact hs y z⟩
theorem Ep{w h:Nat}(k:b7 (w:Int) (h:Int) x=Λ):∃s:Nat×List Nat,x=gf s/\s.1<=1/\s.2.length=w/\∀t∈s.2,t<=h:=by
 unfold b7 at k;split at k
 ·rename_i g ss;rw[W3] at k;obtain⟨n,e,hn⟩:=C9 (h:=1) k.1;have k2:=k.2;unfold jY at k2;split at k2
  ·rename_i ts;rw[W3,qqq] at k2;obtain⟨ns,es,hs⟩:=Dc k2.2;refine⟨(n,ns),by rw[e,es];rfl,hn,?_,hs⟩;have:=k2.1;rw[es,Xc] at this;show ns.length=w
   lia
  ·cases k2
 ·cases k
theorem wX{w h:Nat}:∀{xs},(xs.all λs=>b7 (w:Int) (h) s)=Λ->∃m:dR,xs=m.map gf/\(∀s∈m,s.1<=1/\s.2.length=w/\∀t∈s.2,t<=h)
 |[],_=>⟨[],rfl,λ_ z=>by cases z⟩|s::ss,k=>by rw[YY,W3] at k;obtain⟨n,e,hn⟩:=Ep k.1;obtain⟨ns,es,hs⟩:=wX k.2;exact⟨n::ns,by rw[e,es];rfl,λy hy=>by rcases Zy.mp hy with z|z;rw[z];exact hn;exact hs y z⟩
theorem Ha{w:Nat}(k:eU x (w:Int)=Λ):∃m,x=mD m/\fU w m:=by
 unfold eU at k;split at k
 ·rename_i xs;rw[W3] at k;have hx:0 < xs.length:=by cases xs with|nil=>cases k.1|cons a b=>simp
  have e:((xs.length:Int) - 1)=((xs.length - 1:Nat):Int):=by lia
  rw[e] at k;obtain⟨m,em,hm⟩:=wX k.2;have l:xs.length=m.length:=by rw[em];simp
  refine⟨m,by rw[em];rfl,by lia,λs hs=>(hm s hs).1,λs hs=>(hm s hs).2.1,λs hs t ht=>?_⟩;have:=(hm s hs).2.2 t ht
  lia
 ·cases k
theorem Hb(k:fU w m):eU (mD m) (w:Int)=Λ:=by
 unfold eU mD;dsimp only;rw[W3];refine⟨?_,?_⟩;·have:=k.ne;cases m with|nil=>simp at this|cons a b=>rfl
 ·rw[YE];intro x hx;rw[YQ] at hx;obtain⟨s,hs,rfl⟩:=hx;have h1:=k.good s hs;have h2:=k.len s hs;unfold b7 gf;simp only[W3];refine⟨?_,?_⟩;·simp[fc,nD];lia
  ·unfold jY wD;simp only[W3,qqq,Xc,YE,YQ,forall_exists_index,and_imp];refine⟨by lia,?_⟩;rintro y t ht rfl;have:=k.lt s hs t ht;simp[fc,nD]
   lia
section
section
variable{α:Type}[DecidableEq α]
theorem fM{ss xs:List α}(hn:ss.Nodup)(hs:∀s∈ss,s∈xs):ss.length<=xs.length:=by
 induction ss generalizing xs with
 |nil=>simp|cons s ss ih=>
  rw[YC] at hn;have h1:s∈xs:=hs s W8;have:=ih (xs:=xs.erase s) hn.2 λt ht=>by have:t≠s:=λz=>hn.1 (z▸ht);exact(aaj this).mpr (hs t (W5 _ ht))
  rw[ZX h1] at this;have:=Y3 h1;simp
  lia
theorem Ob{ss xs:List α}(hn:ss.Nodup)(hs:∀s∈ss,s∈xs)(hl:xs.length<=ss.length):∀x∈xs,x∈ss:=by
 intro x J6;apply Xz;intro hc;have:=fM (ss:=ss) (xs:=xs.erase x) hn λt ht=>by have:t≠x:=λz=>hc (z▸ht);exact(aaj this).mpr (hs t ht)
 rw[ZX J6] at this;have:=Y3 J6
 lia
end
abbrev pZ:=List (Nat×Nat)
def vB(ps:pZ)(q:Nat×Nat):pZ:=if q∈ps then ps else ps++[q]
theorem jy:x∈vB ps q↔x∈ps\/x=q:=by
 unfold vB;split;·rename_i h;exact⟨.inl,λz=>by rcases z with z|z;exact z;rw[z];exact h⟩
 ·simp
theorem J7(h:ps.Nodup):(vB ps q).Nodup:=by
 unfold vB;split;·exact h
 ·rename_i hq;rw[X5];exact⟨h,by simp,λa ha b hb=>by simp at hb;subst hb;exact λz=>hq (z▸ha)⟩
noncomputable def Aj(n:Nat):pZ:=(W7 n).flatMap λi=>((W7 n).filter λj=>decide (j≠i)).map λj=>(i,j)
theorem oq:q∈Aj n↔q.1 < n/\q.2 < n/\q.1≠q.2:=by
 unfold Aj;simp only[abX,Ym,YQ,Yl,qqq];constructor;·rintro⟨i,hi,j,⟨hj,fH⟩,rfl⟩;exact⟨hi,hj,λz=>fH z.symm⟩
 ·rintro⟨h1,h2,h3⟩;exact⟨q.1,h1,q.2,⟨h2,λz=>h3 z.symm⟩,rfl⟩
theorem uw{α β:Type}{f:α->List β}:∀{l:List α},l.Nodup->(∀x∈l,(f x).Nodup)->(∀x∈l,∀y∈l,∀z,z∈f x->z∈f y->x=y)->(l.flatMap f).Nodup
 |[],_,_,_=>by simp|a::l,hn,h1,h2=>by rw[YC] at hn;rw[abG,X5];refine⟨h1 a W8,uw hn.2 (λx hx=>h1 x (W5 _ hx)) (λx hx y hy=>h2 x (W5 _ hx) y (W5 _ hy)),λx hx y hy e=>?_⟩;subst e;rw[abX] at hy;obtain⟨b,hb,hy⟩:=hy;have:=h2 a W8 b (W5 _ hb) x hx hy;exact hn.1 (this▸hb)
theorem J8 n:(Aj n).Nodup:=by
 unfold Aj;refine uw Zf (λi _=>?_) (λx _ y _ z hz IM=>?_);·rw[List.nodup_iff_pairwise_ne,List.pairwise_map];refine List.Pairwise.imp (λ{a b} h=>?_) ((Zf).filter _);intro e;injection e with _ e2;exact h e2
 ·simp only[YQ] at hz IM;obtain⟨_,_,rfl⟩:=hz;obtain⟨_,_,e⟩:=IM;injection e with e1 _;exact e1.symm
theorem mf:∀{l:List Nat} {i},l.Nodup->i∈l->(l.filter λj=>decide (j≠i)).length+1=l.length
 |[],i,_,h=>by cases h|x::l,i,hn,h=>by
  rw[YC] at hn;by_cases e:x=i
  ·subst e;rw[XU (by simp)];have:(l.filter λj=>decide (j≠x))=l:=by rw[List.filter_eq_self];intro a ha;rw[qqq];exact λz=>hn.1 (z▸ha)
   rw[this];rfl
  ·rw[XH (by simp[e])];have:=mf hn.2 (by rcases Zy.mp h with z|z;exact absurd z.symm e;exact z);simp;simpa using this
theorem Ak n:(Aj n).length+n=n*n:=by
 have key:∀l:List Nat,(∀i∈l,i < n)->(l.flatMap λi=>((W7 n).filter λj=>decide (j≠i)).map λj=>(i,j)).length+l.length=l.length*n:=by
  intro l;induction l with
  |nil=>intro _;simp|cons i l ih=>
   intro h;have h1:=ih λj hj=>h j (W5 _ hj);have h2:=mf (l:=W7 n) (i:=i) Zf (by simpa using h i W8);rw[XX] at h2;rw[abG,Xs,Xc,Xq,ab9]
   lia
 have:=key (W7 n) (λi hi=>by simpa using hi);simpa[Aj] using this
variable{w:Nat}{m:dR}
def p1(m:dR)(i:Nat)(ps:pZ)(j:Nat):pZ:=if gd m i≠gd m j then vB ps (i,j) else ps
def hit(m:dR)(ps:pZ)(i j:Nat):Bool:=((row m i).2.zip (row m j).2).any λq=>decide (q∈ps)
def p2(m:dR)(i:Nat)(ps:pZ)(j:Nat):pZ:=if hit m ps i j=Λ then vB ps (i,j) else ps
noncomputable def kl(f:Nat->pZ->Nat->pZ)(n:Nat)(ps:pZ):pZ:=(W7 n).foldl (λps i=>(W7 n).foldl (f i) ps) ps
def cK(m:dR):pZ:=(W7 m.length).foldl (λps _=>kl (p2 m) m.length ps) (kl (p1 m) m.length [])
structure bP(w:Nat)(m:dR)(ps:pZ):Prop where
 nd:ps.Nodup
 lt:∀q∈ps,q.1 < m.length/\q.2 < m.length
 sd:∀q∈ps,¬ik w m q.1 m q.2
theorem bP.add(h:bP w m ps)(hi:i < m.length)(hj:j < m.length)(hn:¬ik w m i m j):bP w m (vB ps (i,j)):=by
 refine⟨J7 h.nd,λq hq=>?_,λq hq=>?_⟩
 ·rcases jy.mp hq with z|z;·exact h.lt q z
  ·rw[z];exact⟨hi,hj⟩
 ·rcases jy.mp hq with z|z;·exact h.sd q z
  ·rw[z];exact hn
theorem zip_get{a b:List Nat}(h:(x,y)∈a.zip b):∃i,i < a.length/\i < b.length/\a.getD i 0=x/\b.getD i 0=y:=by
 obtain⟨i,hi,e⟩:=List.mem_iff_getElem.mp h;rw[abh] at hi;refine⟨i,by lia,by lia,?_,?_⟩;·rw[abZ] at e;injection e with e1 e2;rw[Xa,W6 (by lia)];exact e1
 ·rw[abZ] at e;injection e with e1 e2;rw[Xa,W6 (by lia)];exact e2
theorem Dd(ok:fU w m)(hi:i < m.length)(hj:j < m.length):hit m ps i j=Λ↔∃a,a < w/\(bH m i a,bH m j a)∈ps:=by
 have l1:=ok.len _ (bZ hi);have l2:=ok.len _ (bZ hj);unfold hit;rw[YV];constructor;·rintro⟨⟨x,y⟩,hq,hp⟩;rw[qqq] at hp;obtain⟨a,h1,h2,e1,e2⟩:=zip_get hq;refine⟨a,by lia,?_⟩;unfold bH;rw[e1,e2];exact hp
 ·rintro⟨a,ha,hp⟩;refine⟨(bH m i a,bH m j a),?_,by simpa using hp⟩;refine List.mem_iff_getElem.mpr ⟨a,by rw[abh];lia,?_⟩;rw[abZ];unfold bH;rw[Xa,Xa,W6 (by lia),W6 (by lia)];rfl
theorem Hc(h:bP w m ps)(hi:i < m.length)(hj:j < m.length):bP w m (p1 m i ps j):=by
 unfold p1;split;·rename_i hg;exact h.add hi hj λsm=>hg sm.good
 ·exact h
theorem De(ok:fU w m)(h:bP w m ps)(hi:i < m.length)(hj:j < m.length):bP w m (p2 m i ps j):=by
 unfold p2;split;·rename_i hg;obtain⟨a,ha,hp⟩:=(Dd ok hi hj).mp hg;exact h.add hi hj λsm=>h.sd _ hp (sm.step ha)
 ·exact h
theorem dn{σ α:Type}{f:σ->α->σ}{J:σ->Prop}:∀{l:List α} {s},J s->(∀s,∀x∈l,J s->J (f s x))->J (l.foldl f s)
 |[],s,h,_=>h|x::l,s,h,hf=>dn (l:=l) (hf s x W8 h) λs y hy=>hf s y (W5 _ hy)
theorem ux{J:pZ->Prop}(hf:∀ps i j,i < n->j < n->J ps->J (f i ps j))(h:J ps):J (kl f n ps):=
 dn h λs i hi hs=>dn hs λs j hj hs=>hf s i j (by simpa using hi) (by simpa using hj) hs
theorem uy{σ α:Type}{f:σ->α->σ}{G:σ->Prop}{J:σ->Prop}{x:α}(hG:∀s y,J s->G s->G (f s y))(hJ:∀s y,J s->J (f s y))(hx:∀s,J s->G (f s x)):∀{l:List α} {s},x∈l->J s->G (l.foldl f s)
 |y::l,s,h,js=>by
  rcases Zy.mp h with e|e;·subst e;exact(dn (J:=λs=>J s/\G s) (l:=l) ⟨hJ s x js,hx s js⟩ λs y _ ⟨a,b⟩=>⟨hJ s y a,hG s y a b⟩).2
  ·exact uy hG hJ hx (l:=l) e (hJ s y js)
theorem wY{J:pZ->Prop}(hi:i < n)(hj:j < n)(mono:∀ps i j,∀q∈ps,q∈f i ps j)(hJ:∀ps i j,J ps->J (f i ps j))(hx:∀ps,J ps->(i,j)∈f i ps j)(h:J ps):(i,j)∈kl f n ps:=by have inner:∀(s:pZ) (k:Nat),J s->J ((W7 n).foldl (f k) s):=λs k hs=>dn hs λs j _ hs=>hJ s k j hs;have keep:∀(s:pZ) (k:Nat),(i,j)∈s->(i,j)∈(W7 n).foldl (f k) s:=λs k hs=>dn (J:=λs=>(i,j)∈s) hs λs j' _ hs=>mono s k j' _ hs;exact uy (G:=λs=>(i,j)∈s) (J:=J) (x:=i) (λs k _ hs=>keep s k hs) (λs k hs=>inner s k hs) (λs hs=>uy (G:=λs=>(i,j)∈s) (J:=J) (x:=j) (λs k _ hs=>mono s i k _ hs) (λs k hs=>hJ s i k hs) (λs hs=>hx s hs) (by simpa using hj) hs) (by simpa using hi) h
theorem J9 ps i j:∀q∈ps,q∈p1 m i ps j:=λq hq=>by
 unfold p1;split;·exact jy.mpr (.inl hq)
 ·exact hq
theorem yk ps i j:∀q∈ps,q∈p2 m i ps j:=λq hq=>by
 unfold p2;split;·exact jy.mpr (.inl hq)
 ·exact hq
def wZ(w:Nat)(m:dR)(k:Nat)(ps:pZ):Prop:=∀i j,i < m.length->j < m.length->¬gU w m k i j->(i,j)∈ps
theorem RS:wZ w m 0 (kl (p1 m) m.length []):=λi j hi hj hn=>by
 refine wY (J:=λ_=>True) hi hj J9 (λ_ _ _ _=>trivial) (λps _=>?_) trivial;unfold p1;have:gd m i≠gd m j:=λe=>hn λu hu hl=>by cases u with|nil=>exact e|cons a u=>simp at hl
 rw[if_pos this];exact jy.mpr (.inr rfl)
theorem RT(ok:fU w m)(h:wZ w m k ps):wZ w m (k+1) (kl (p2 m) m.length ps):=λi j hi hj hn=>by
 refine wY (J:=λs=>wZ w m k s) hi hj yk (λps i j hs i' j' h1 h2 h3=>yk ps i j _ (hs i' j' h1 h2 h3)) (λs hs=>?_) h;by_cases hg:gd m i=gd m j
 ·have:∃a,a < w/\¬gU w m k (bH m i a) (bH m j a):=by apply Xz;intro hc;exact hn (gU.C8 hg λa ha=>Xz λz=>hc ⟨a,ha,z⟩)
  obtain⟨a,ha,hk⟩:=this;unfold p2;rw[if_pos ((Dd ok hi hj).mpr ⟨a,ha,hs _ _ (ok.bH hi ha) (ok.bH hj ha) hk⟩)];exact jy.mpr (.inr rfl)
 ·exact yk s i j _ (hs i j hi hj λe=>hg (e [] Wd.nil (Yj _)))
theorem ot(ok:fU w m):bP w m (cK m):=by have h0:bP w m (kl (p1 m) m.length []):=ux (J:=bP w m) (λps i j hi hj h=>Hc h hi hj) ⟨by simp,(λ_ h=>nomatch h),(λ_ h=>nomatch h)⟩;exact dn (J:=bP w m) h0 λs _ _ h=>ux (J:=bP w m) (λps i j hi hj h=>De ok h hi hj) h
theorem Al(ok:fU w m):wZ w m m.length (cK m):=by
 have key:∀n,wZ w m n ((W7 n).foldl (λps _=>kl (p2 m) m.length ps) (kl (p1 m) m.length [])):=λn=>by induction n with|zero=>exact RS|succ n ih=>rw[YO,ZT];exact RT ok ih
 exact key m.length
theorem B3(ok:fU w m)(hi:i < m.length)(hj:j < m.length):(i,j)∈cK m↔¬ik w m i m j:=
 ⟨λh=>(ot ok).sd _ h,λh=>Al ok i j hi hj λe=>h (yj ok hi hj e)⟩
theorem B4(ok:fU w m):(cK m).length+m.length=m.length*m.length↔Red w m:=by
 have sd:=ot ok;have sub:∀q∈cK m,q∈Aj m.length:=λq hq=>oq.mpr ⟨(sd.lt q hq).1,(sd.lt q hq).2,λe=>sd.sd q hq (e▸ik.refl)⟩;have l1:=fM sd.nd sub;have l2:=Ak m.length;constructor;·intro h s t hs ht sm;apply Xz;intro fH;have:=Ob sd.nd sub (by lia) (s,t) (oq.mpr ⟨hs,ht,fH⟩);exact sd.sd _ this sm
 ·intro hr;have:=fM (J8 m.length) (xs:=cK m) λq hq=>by obtain⟨h1,h2,h3⟩:=oq.mp hq;exact(B3 ok h1 h2).mpr λsm=>h3 (hr _ _ h1 h2 sm)
  lia
theorem bP.len(h:bP w m ps):ps.length<=m.length*m.length:=by
 have:=fM h.nd (xs:=Aj m.length) λq hq=>oq.mpr ⟨(h.lt q hq).1,(h.lt q hq).2,λe=>h.sd q hq (e▸ik.refl)⟩;have:=Ak m.length
 lia
end
noncomputable def iI(o:List Nat)(ss:List Nat):List Nat:=ss.foldl (λo s=>if s∈o then o else o++[s]) o
def vC(m:dR):List Nat->List Nat->Option (List Nat)
 |[],o=>Δ o|k::ks,o=>if o.length<=k then Θ else vC m ks (iI o (row m (o.getD k 0)).2)
def To(o:List Nat):Prop:=∃i s:Nat,o[i]?=Δ s/\s≠i
theorem uz:∀{ss o} {i s:Nat},o[i]?=Δ s->(iI o ss)[i]?=Δ s
 |[],o,i,s,h=>h|x::ss,o,i,s,h=>by
  unfold iI;rw[Zo];refine uz (ss:=ss) ?_;split;·exact h
  ·rw[Xb (qqz h).1];exact h
theorem Am:∀{ks o o'},To o->vC m ks o=Δ o'->To o'
 |[],o,o',hb,h=>by cases h;exact hb|k::ks,o,o',⟨i,s,h1,h2⟩,h=>by
  simp only[vC] at h;split at h;·cases h
  ·exact Am ⟨i,s,uz h1,h2⟩ h
theorem Ka n:¬To (W7 n):=λ⟨i,s,h1,h2⟩=>by have hi:=(qqz h1).1;rw[Zq (by simpa using hi)] at h1;injection h1 with h1;exact h2 h1.symm
theorem mR:∀{ss} {c},match gK ss c with|some d=>iI (W7 c) ss=W7 d|none=>To (iI (W7 c) ss)
 |[],c=>rfl|s::ss,c=>by
  have e:iI (W7 c) (s::ss)=if s < c then iI (W7 c) ss else iI (W7 c++[s]) ss:=by
   unfold iI;rw[Zo];by_cases h:s < c;·rw[if_pos h,if_pos (by simpa using h)]
   ·rw[if_neg h,if_neg (by simpa using h)]
  rw[e];simp only[gK];by_cases h:s < c;·rw[if_pos h,if_pos h];exact mR
  ·rw[if_neg h,if_neg h];by_cases h2:s=c;·subst h2;rw[if_pos rfl,<-YO];exact mR
   ·rw[if_neg h2];refine⟨c,s,uz ?_,h2⟩;rw[Xu (by simp)];simp
theorem An:∀{qs} {j c},m.drop j=qs->(vC m (List.range' j qs.length) (W7 c)=Δ (W7 m.length)↔gg qs j c=Δ m.length)
 |[],j,c,h=>by
  simp only[Y8,List.range'_zero,vC,gg,abE];constructor;·intro e;have:=congrArg abF e;simpa using this
  ·intro e;rw[e]
 |q::qs,j,c,h=>by
  obtain⟨h1,h2,h3⟩:=oo h;rw[Xq,List.range'_succ];simp only[vC,gg,XX];by_cases hj:j < c
  ·rw[if_neg (by lia),if_pos hj];have e:(W7 c).getD j 0=j:=by rw[Xa,Zq hj];rfl
   rw[e,h2];have key:=mR (ss:=q.2) (c:=c);cases hs:gK q.2 c with
   |some d=>rw[hs] at key;dsimp only at key;rw[key];exact An h3|none=>
    rw[hs] at key;dsimp only at key;constructor;·intro z;exact absurd (Am key z) (Ka _)
    ·intro z;cases z
  ·rw[if_pos (by lia),if_neg hj];exact⟨(λz=>nomatch z),(λz=>nomatch z)⟩
theorem ym:vC m (W7 m.length) [0]=Δ (W7 m.length)↔gg m 0 1=Δ m.length:=by have:=An (m:=m) (qs:=m) (j:=0) (c:=1) rfl;rw[<-List.range_eq_range'] at this;exact this
theorem yn:∀{a b:List Nat},fI (a.map nD) (b.map nD)=decide (a=b)
 |[],[]=>rfl|[],_::_=>rfl|_::_,[]=>rfl|x::a,y::b=>by
  simp only[Xi,IX,nD,Gh];rw[show fI (aak nD a) (aak nD b)=decide (a=b) from yn];rw[Zp];simp
  lia
theorem Hd:∀a:List Nat,ki (a.map nD)=0
 |[]=>rfl|x::a=>by rw[Xi,xI,Hd a];rfl
theorem He(a:List Nat):ba (a.map λn=>P.d (nD n))=Δ (a.map nD):=by simp
theorem Kb{o:List Nat}(h:st[k]?=Δ (.lst (o.map λn=>P.d (nD n)))):jo .nM (.d (nD s)) (.obj k) st=Δ (!decide (s∈o)):=by
 have e1:bE st (.obj k)=Θ:=jW h;have e2:cY st (.obj k)=Δ (o.map λn=>P.d (nD n)):=gS h;have e3:(o.map nD).all qw=Λ:=by rw[YE];intro x hx;rw[YQ] at hx;obtain⟨n,_,rfl⟩:=hx;rfl
 have e4:((o.map nD).any λy=>u6 y (nD s))=decide (s∈o):=by
  rw[Zp,YV,qqq];constructor
  ·rintro⟨x,hx,he⟩;rw[YQ] at hx;obtain⟨n,hn,rfl⟩:=hx;simp[nD,Gh] at he;have:n=s:=by lia
   exact this▸hn
  ·intro hs;exact⟨nD s,YQ.mpr ⟨s,hs,rfl⟩,beq_self_eq_true _⟩
 show(Gj (.d (nD s)) (.obj k) st).map not=_;unfold Gj;rw[e1];simp only[Gf,Ye,e2,He,e3,e4];rw[if_pos (by rfl)];rfl
theorem jz{α σ:Type}{enc:α->P}{f:σ->α->σ}{S:σ->aN}{I:b9->Prop}{J:σ->Prop}:∀{xs:List α},
  (∀x∈xs,∀s r,J s->I r->∃r1 r2,g (enc x) r=Δ r1/\b r1 (S s)=.ok (.nx r2) (S (f s x))/\I r2/\J (f s x))->∀{s} {r},J s->I r->∃r',forL g b (xs.map enc) r (S s)=.ok (.nx r') (S (xs.foldl f s))/\I r'/\J (xs.foldl f s)
 |[],_,s,r,hj,hi=>⟨r,rfl,hi,hj⟩|x::xs,h,s,r,hj,hi=>by obtain⟨r1,r2,e1,e2,i2,j2⟩:=h x W8 s r hj hi;obtain⟨r',e,i',j'⟩:=jz (xs:=xs) (λy hy=>h y (W5 _ hy)) j2 i2;refine⟨r',?_,i',j'⟩;rw[Xi,forL,e1,az,ae,e2,ae];exact e
def B5(q:Nat×Nat):List (Sum Int Str):=[.inl (q.1:Int),.inl (q.2:Int)]
def bL(ps:pZ):O:=.dT (ps.map λq=>(B5 q,.d (.bl Λ)))
theorem Hf(h:B5 q=B5 p):q=p:=by unfold B5 at h;simp only[List.cons.injEq,acu.injEq,and_true] at h;exact acX (by lia) (by lia)
theorem w4 i j:mF (.d (.tup [nD i,nD j]))=Δ (B5 (i,j)):=rfl
theorem Ao(ps:pZ)q:((ps.map λq=>(B5 q,(P.d (.bl Λ)))).any λkv=>decide (kv.1=B5 q))=decide (q∈ps):=by
 rw[Zp,YV,qqq];constructor;·rintro⟨x,hx,he⟩;rw[YQ] at hx;obtain⟨p,hp,rfl⟩:=hx;rw[qqq] at he;exact Hf he▸hp
 ·intro h;exact⟨_,YQ.mpr ⟨q,h,rfl⟩,by simp⟩
theorem Ap(h:st[k]?=Δ (bL ps))(hl:ps.length < aw)i j:nQ (.obj k) (.d (.tup [nD i,nD j])) (.d (.bl Λ)) st=Δ (st.set k (bL (vB ps (i,j)))):=by
 have e:zy (bL ps) (.d (.tup [nD i,nD j])) (.d (.bl Λ))=Δ (bL (vB ps (i,j))):=by
  unfold zy bL CD;simp only[Xc,if_pos hl,w4,XM];congr 2;unfold lV;rw[Ao];unfold vB;by_cases hq:(i,j)∈ps
  ·rw[if_pos (by simpa using hq),if_pos hq,aas];refine List.map_congr_left λq _=>?_;simp only[Function.comp_apply];split;·rfl
   ·rfl
  ·rw[if_neg (by simpa using hq),if_neg hq,X2];rfl
 unfold nQ;simp only[h,Ye,e,XM]
theorem Kc(h:st[k]?=Δ (bL ps))i j:jo .isin (.d (.tup [nD i,nD j])) (.obj k) st=Δ (decide ((i,j)∈ps)):=by
 show Gj _ _ _=_;unfold Gj;have e1:bE st (.obj k)=Δ (bL ps):=by simp[bE,D5,h,bL,jn]
 rw[e1];simp only[bL,nO,w4,XM];congr 1;unfold e8;rw[aah,<-Ao,Zp,List.find?_isSome,YV]
theorem Oc a b:D6 (.d (wD a)) (.d (wD b))=Δ ((a.zip b).map λq=>D.tup [nD q.1,nD q.2]):=by unfold D6 wD;simp only[List.zip_map,aas];rfl
theorem Od(h:st[k]?=Δ (bL ps)):oP .len [.obj k] st=Δ (.d (.int ps.length)):=by
 have e1:bE st (.obj k)=Δ (bL ps):=by simp[bE,D5,h,bL,jn]
 unfold oP;simp only[e1,bL,Gi,Xc]
theorem Hg bJ(o:O):(bJ++[o])[bJ.length]?=Δ o:=by simp
theorem Hh bJ(o o':O):(bJ++[o]).set bJ.length o'=bJ++[o']:=by simp
end Y
namespace Y
structure nc where
 grp:List Nat
 mem:List (List Nat)
 wait:List Nat
 iD:List Bool
noncomputable def putAll(fresh:Nat)(ss:List Nat)(g:List Nat):List Nat:=ss.foldl (λg s=>g.set s fresh) g
def aC(h:nc)(g:Nat)(ss:List Nat):nc:=
 if ss.length=(h.mem.getD g []).length then h else
  let rest:=(h.mem.getD g []).filter λs=>decide (s∉ss)
  let mem:=h.mem.set g rest++[ss]
  let grp:=putAll h.mem.length ss h.grp
  if h.iD.getD g Ξ=Λ\/ss.length<=rest.length then⟨grp,mem,h.wait++[h.mem.length],(h.iD++[Ξ]).set h.mem.length Λ⟩
  else⟨grp,mem,h.wait++[g],(h.iD++[Ξ]).set g Λ⟩
noncomputable def dD:List (Nat×List Nat)->Nat->Nat->List (Nat×List Nat)
 |[],g,s=>[(g,[s])]|(k,ss)::d,g,s=>if k=g then(k,ss++[s])::d else(k,ss)::dD d g s
def cE(grp:List Nat)(l:List Nat):List (Nat×List Nat):=l.foldl (λd s=>dD d (grp.getD s 0) s) []
def dJ(m:dR)(a t:Nat):List Nat:=(W7 m.length).filter λs=>decide (bH m s a=t)
def eA(m:dR)(h:nc)(T:List Nat)(a:Nat):nc:=(cE h.grp (T.flatMap (dJ m a))).foldl (λh e=>aC h e.1 e.2) h
theorem mS:∀{ss g},(putAll fresh ss g).length=g.length
 |[],g=>rfl|s::ss,g=>by unfold putAll;rw[Zo];exact(mS (ss:=ss)).trans (YD ..)
theorem uA:∀{ss g} {x},x < g.length->(putAll fresh ss g).getD x 0=if x∈ss then fresh else g.getD x 0
 |[],g,x,h=>by simp[putAll]|s::ss,g,x,h=>by
  have ih:=uA (fresh:=fresh) (ss:=ss) (g:=g.set s fresh) (x:=x) (by simpa using h);unfold putAll at ih ⊢;rw[Zo,ih];by_cases hx:x∈ss;·rw[if_pos hx,if_pos (W5 _ hx)]
  ·rw[if_neg hx];by_cases e:x=s;·subst e;rw[if_pos W8,Xa,Xy h];rfl
   ·rw[if_neg (λz=>by rcases Zy.mp z with z|z;exact e z;exact hx z),Xa,W9 (λz=>e z.symm),<-Xa]
theorem w6:∀{d} {k} {ss},(d.map (·.1)).Nodup->((k,ss)∈dD d g s↔(k≠g/\(k,ss)∈d)\/(k=g/\((∃r,(g,r)∈d/\ss=r++[s])\/((∀r,(g,r)∉d)/\ss=[s]))))
 |[],k,ss,_=>by simp only[dD,Yz,Prod.mk.injEq,Ze,and_false,false_or,not_false_eq_true,implies_true,true_and,false_and,exists_false]|(j,rs)::d,k,ss,nd=>by
  simp only[Xi,YC] at nd;have hj:∀r,(j,r)∉d:=λr hr=>nd.1 (YQ.mpr ⟨_,hr,rfl⟩);simp only[dD];split
  ·rename_i e;subst e;constructor
   ·intro h;rcases Zy.mp h with h|h;·injection h with h1 h2;exact .inr ⟨h1,.inl ⟨rs,W8,h2⟩⟩
    ·exact .inl ⟨λz=>hj ss (by rw[z] at h;exact h),W5 _ h⟩
   ·rintro(⟨h1,h2⟩|⟨h1,h2⟩)
    ·rcases Zy.mp h2 with h|h;·injection h with h3 h4;exact absurd h3 h1
     ·exact W5 _ h
    ·subst h1;rcases h2 with ⟨r,hr,e⟩|⟨hn,e⟩
     ·rcases Zy.mp hr with h|h;·injection h with h3 h4;rw[e,h4];exact W8
      ·exact absurd h (hj r)
     ·exact absurd W8 (hn rs)
  ·rename_i e;have ih:=w6 (g:=g) (s:=s) (d:=d) (k:=k) (ss:=ss) nd.2;constructor
   ·intro h;rcases Zy.mp h with h|h;·injection h with h1 h2;subst h1;subst h2;exact .inl ⟨e,W8⟩
    ·rcases ih.mp h with ⟨h1,h2⟩|⟨h1,h2⟩
     ·exact .inl ⟨h1,W5 _ h2⟩
     ·refine .inr ⟨h1,?_⟩;rcases h2 with ⟨r,hr,e2⟩|⟨hn,e2⟩
      ·exact .inl ⟨r,W5 _ hr,e2⟩
      ·refine .inr ⟨λr hr=>?_,e2⟩;rcases Zy.mp hr with z|z;·injection z with z1 z2;exact e z1.symm
       ·exact hn r z
   ·rintro(⟨h1,h2⟩|⟨h1,h2⟩)
    ·rcases Zy.mp h2 with h|h;·rw[h];exact W8
     ·exact W5 _ (ih.mpr (.inl ⟨h1,h⟩))
    ·refine W5 _ (ih.mpr (.inr ⟨h1,?_⟩));rcases h2 with ⟨r,hr,e2⟩|⟨hn,e2⟩
     ·rcases Zy.mp hr with z|z;·injection z with z1 z2;exact absurd z1.symm e
      ·exact .inl ⟨r,z,e2⟩
     ·exact .inr ⟨λr hr=>hn r (W5 _ hr),e2⟩
theorem jZ:∀{d},(dD d g s).map (·.1)=if g∈d.map (·.1) then d.map (·.1) else d.map (·.1)++[g]
 |[]=>by simp[dD]|(j,rs)::d=>by
  have ih:=jZ (g:=g) (s:=s) (d:=d);simp only[dD];split;·rename_i e;subst e;simp
  ·rename_i e;rw[Xi,ih];have e':¬g=j:=λz=>e z.symm;by_cases h:g∈d.map (·.1);·rw[if_pos h,if_pos (by rw[Xi];exact W5 _ h)];rfl
   ·rw[if_neg h,if_neg (by rw[Xi];intro z;rcases Zy.mp z with z|z;exact e' z;exact h z)];rfl
theorem Hi(h:(d.map (·.1)).Nodup):((dD d g s).map (·.1)).Nodup:=by
 rw[jZ];split;·exact h
 ·rename_i hg;rw[X5];exact⟨h,by simp,λa ha b hb=>by simp at hb;subst hb;exact λz=>hg (z▸ha)⟩
theorem uB{grp:List Nat}:∀{l done:List Nat} {d},(d.map (·.1)).Nodup->(∀k ss,(k,ss)∈d->ss=done.filter (λs=>decide (grp.getD s 0=k))/\ss≠[])->(∀s∈done,∃ss,(grp.getD s 0,ss)∈d)->
  ((l.foldl (λd s=>dD d (grp.getD s 0) s) d).map (·.1)).Nodup/\(∀k ss,(k,ss)∈l.foldl (λd s=>dD d (grp.getD s 0) s) d->ss=(done++l).filter (λs=>decide (grp.getD s 0=k))/\ss≠[])/\(∀s∈done++l,∃ss,(grp.getD s 0,ss)∈l.foldl (λd s=>dD d (grp.getD s 0) s) d)
 |[],done,d,nd,h1,h2=>by simpa using⟨nd,h1,h2⟩|x::l,done,d,nd,h1,h2=>by
  have key:=uB (grp:=grp) (l:=l) (done:=done++[x]) (d:=dD d (grp.getD x 0) x) (Hi nd) (λk ss h=>by
   rcases(w6 nd).mp h with ⟨a,b⟩|⟨a,b⟩
   ·obtain⟨c1,c2⟩:=h1 k ss b;refine⟨?_,c2⟩;rw[aaa,<-c1,XU (by simp;exact λz=>a z.symm)];simp
   ·subst a;rcases b with ⟨r,hr,e⟩|⟨hn,e⟩
    ·obtain⟨c1,c2⟩:=h1 _ r hr;refine⟨?_,by rw[e];simp⟩;rw[aaa,<-c1,XH (by simp),e];simp
    ·refine⟨?_,by rw[e];simp⟩;have:done.filter (λs=>decide (grp.getD s 0=grp.getD x 0))=[]:=by rw[Zt];intro s hs hd;obtain⟨ss,uC⟩:=h2 s hs;rw[qqq] at hd;rw[hd] at uC;exact hn ss uC
     rw[aaa,this,XH (by simp),e];simp) (λs hs=>by
   have e:(grp.getD x 0)∈(dD d (grp.getD x 0) x).map (·.1):=by
    rw[jZ];split;·assumption
    ·simp
   have ex:∀k,k∈d.map (·.1)\/k=grp.getD x 0->∃ss,(k,ss)∈dD d (grp.getD x 0) x:=λk hk=>by
    have:k∈(dD d (grp.getD x 0) x).map (·.1):=by
     rcases hk with hk|hk
     ·rw[jZ];split;·exact hk
      ·exact Yo _ hk
     ·rw[hk];exact e
    obtain⟨p,hp,e2⟩:=YQ.mp this;exact⟨p.2,by rw[<-e2];exact hp⟩
   rcases aaA.mp hs with z|z;·obtain⟨ss,uC⟩:=h2 s z;exact ex _ (.inl (YQ.mpr ⟨_,uC,rfl⟩))
   ·rw[Yz] at z;subst z;exact ex _ (.inr rfl))
  rw[X7] at key;exact key
theorem dX grp l:((cE grp l).map (·.1)).Nodup/\(∀k ss,(k,ss)∈cE grp l->ss=l.filter (λs=>decide (grp.getD s 0=k))/\ss≠[])/\∀s∈l,∃ss,(grp.getD s 0,ss)∈cE grp l:=by have:=uB (grp:=grp) (l:=l) (done:=[]) (d:=[]) (by simp) (λ_ _ h=>by cases h) (λ_ h=>by cases h);simpa[cE] using this
section
abbrev nc.cL(h:nc)(s:Nat):Nat:=h.grp.getD s 0
structure j0(w:Nat)(m:dR)(T:List Nat)(R:Nat->Prop)(h:nc):Prop where
 rm:h.grp.length=m.length
 mT:h.iD.length=h.mem.length
 blt:∀s,s < m.length->h.cL s < h.mem.length
 mem:∀g,g < h.mem.length->(h.mem.getD g []).Nodup/\∀s,s∈h.mem.getD g []↔s < m.length/\h.cL s=g
 Lj:h.wait.Nodup
 wt:∀g,g∈h.wait↔g < h.mem.length/\h.iD.getD g Ξ=Λ
 snd:∀s t,s < m.length->t < m.length->h.cL s≠h.cL t->¬ik w m s m t
 good:∀s t,s < m.length->t < m.length->h.cL s=h.cL t->gd m s=gd m t
 sep:∀s t a,s < m.length->t < m.length->a < w->h.cL s=h.cL t->h.cL (bH m s a)≠h.cL (bH m t a)->h.cL (bH m s a)∈h.wait\/h.cL (bH m t a)∈h.wait\/(R a/\¬(bH m s a∈T↔bH m t a∈T))
noncomputable def k9(m:dR)(h h':nc):Prop:=∀s t,s < m.length->t < m.length->h'.cL s=h'.cL t->h.cL s=h.cL t
theorem k9.refl:k9 m h h:=λ_ _ _ _ e=>e
theorem k9.trans(a:k9 m h h1)(b:k9 m h1 h2):k9 m h h2:=λs t hs ht e=>a s t hs ht (b s t hs ht e)
theorem iq{α:Type}{l r:List α}{d:α}(h:i < l.length):(l++r).getD i d=l.getD i d:=by rw[Xa,Xa,Xb h]
theorem iT{α:Type}{l:List α}{x d:α}:(l++[x]).getD l.length d=x:=by rw[Xa];simp
theorem eV{α:Type}{l:List α}{x d:α}(h:i < l.length):(l.set i x).getD i d=x:=by rw[Xa,Xy h];rfl
theorem dE{α:Type}{l:List α}{x d:α}(h:i≠j):(l.set i x).getD j d=l.getD j d:=by rw[Xa,W9 h,<-Xa]
variable{w:Nat}{m:dR}{T:List Nat}{R:Nat->Prop}{h:nc}
theorem sub_len{ss xs:List Nat}(hn:ss.Nodup)(hs:∀s∈ss,s∈xs):ss.length<=xs.length:=by
 induction ss generalizing xs with
 |nil=>simp|cons s ss ih=>
  rw[YC] at hn;have h1:s∈xs:=hs s W8;have:=ih (xs:=xs.erase s) hn.2 λt ht=>by have:t≠s:=λz=>hn.1 (z▸ht);exact(aaj this).mpr (hs t (W5 _ ht))
  rw[ZX h1] at this;have:=Y3 h1;simp
  lia
theorem Kd{ss xs:List Nat}(hn:ss.Nodup)(hx:xs.Nodup)(hs:∀s∈ss,s∈xs)(hl:ss.length=xs.length):∀x∈xs,x∈ss:=by
 intro x J6;apply Xz;intro hc;have:=sub_len (ss:=ss) (xs:=xs.erase x) hn λt ht=>by have:t≠x:=λz=>hc (z▸ht);exact(aaj this).mpr (hs t ht)
 rw[ZX J6] at this;have:=Y3 J6
 lia
theorem yo(hi:j0 w m T R h)(hc:ss.length≠(h.mem.getD g []).length)(hx:x < m.length):(aC h g ss).cL x=if x∈ss then h.mem.length else h.cL x:=by
 have e:(aC h g ss).grp=putAll h.mem.length ss h.grp:=by unfold aC;rw[if_neg hc];dsimp only;split<;>rfl
 show(aC h g ss).grp.getD x 0=_;rw[e];exact uA (by rw[hi.rm];exact hx)
theorem ou(hc:ss.length≠(h.mem.getD g []).length):(aC h g ss).mem=h.mem.set g ((h.mem.getD g []).filter λs=>decide (s∉ss))++[ss]:=by unfold aC;rw[if_neg hc];dsimp only;split<;>rfl
noncomputable def lg(h:nc)(g:Nat)(ss:List Nat):Nat:=if h.iD.getD g Ξ=Λ\/ss.length<=((h.mem.getD g []).filter λs=>decide (s∉ss)).length then h.mem.length else g
theorem vD(hc:ss.length≠(h.mem.getD g []).length):(aC h g ss).wait=h.wait++[lg h g ss]/\(aC h g ss).iD=(h.iD++[Ξ]).set (lg h g ss) Λ:=by unfold aC lg;rw[if_neg hc];dsimp only;split<;>exact⟨rfl,rfl⟩
theorem ow(hi:j0 w m T R h)(hg:g < h.mem.length)(ha:a < w)(uC:∀s,s∈ss↔s∈h.mem.getD g []/\bH m s a∈T)(Er:ss.Nodup)(fH:ss≠[])(hT:∀x y,x < m.length->y < m.length->x∈T->y∉T->¬ik w m x m y)(ok:fU w m):
  j0 w m T R (aC h g ss)/\k9 m h (aC h g ss)/\(∀s t,s < m.length->t < m.length->h.cL s=g->h.cL t=g->(aC h g ss).cL s=(aC h g ss).cL t->(bH m s a∈T↔bH m t a∈T))/\
   (∀s,s < m.length->h.cL s≠g->(aC h g ss).cL s=h.cL s)/\(∀k,k < h.mem.length->k≠g->(aC h g ss).mem.getD k []=h.mem.getD k [])/\h.mem.length<=(aC h g ss).mem.length/\
   (aC h g ss).wait.length+h.mem.length=h.wait.length+(aC h g ss).mem.length:=by
 obtain⟨gn,gm⟩:=hi.mem g hg;have sub:∀s∈ss,s∈h.mem.getD g []:=λs hs=>((uC s).mp hs).1;by_cases hc:ss.length=(h.mem.getD g []).length
 ·have e:aC h g ss=h:=by unfold aC;rw[if_pos hc]
  rw[e];refine⟨hi,k9.refl,λs t hs ht es et _=>?_,λ_ _ _=>rfl,λ_ _ _=>rfl,Xd _,rfl⟩;have all:=Kd Er gn sub hc;exact⟨λ_=>((uC t).mp (all t ((gm t).mpr ⟨ht,et⟩))).2,λ_=>((uC s).mp (all s ((gm s).mpr ⟨hs,es⟩))).2⟩
 ·have B:=λ{x:Nat} (hx:x < m.length)=>yo hi hc hx (g:=g);have M:=ou (h:=h) hc;obtain⟨Wt,Ws⟩:=vD (h:=h) hc;have ml:(aC h g ss).mem.length=h.mem.length+1:=by rw[M];simp
  have Ke:∀x,x∈ss->x < m.length/\h.cL x=g:=λx hx=>(gm x).mp (sub x hx);have nx:lg h g ss=h.mem.length\/(lg h g ss=g/\h.iD.getD g Ξ=Ξ):=by
   unfold lg;split;·exact .inl rfl
   ·rename_i q;refine .inr ⟨rfl,?_⟩;cases z:h.iD.getD g Ξ with|false=>rfl|true=>exact absurd (.inl z) q
  have same:∀s t,s < m.length->t < m.length->(aC h g ss).cL s=(aC h g ss).cL t->h.cL s=h.cL t/\(s∈ss↔t∈ss):=λs t hs ht e=>by
   rw[B hs,B ht] at e;have b1:=hi.blt s hs;have b2:=hi.blt t ht;by_cases z1:s∈ss<;>by_cases z2:t∈ss;·exact⟨(Ke s z1).2.trans (Ke t z2).2.symm,by simp[z1,z2]⟩
   ·rw[if_pos z1,if_neg z2] at e;lia
   ·rw[if_neg z1,if_pos z2] at e;lia
   ·rw[if_neg z1,if_neg z2] at e;exact⟨e,by simp[z1,z2]⟩
  refine⟨⟨?_,?_,?_,?_,?_,?_,?_,?_,?_⟩,λs t hs ht e=>(same s t hs ht e).1,?_,?_,?_,by lia,?_⟩
  ·have:(aC h g ss).grp=putAll h.mem.length ss h.grp:=by unfold aC;rw[if_neg hc];dsimp only;split<;>rfl
   rw[this,mS,hi.rm]
  ·rw[ml,Ws];simp[hi.mT]
  ·intro s hs;rw[B hs,ml];have:=hi.blt s hs;split<;>lia
  ·intro k hk;rw[ml] at hk;rw[M];by_cases e1:k=h.mem.length
   ·subst e1;have e2:(h.mem.set g ((h.mem.getD g []).filter λs=>decide (s∉ss))++[ss]).getD h.mem.length []=ss:=by have:=iT (l:=h.mem.set g ((h.mem.getD g []).filter λs=>decide (s∉ss))) (x:=ss) (d:=[]);rw[YD] at this;exact this
    rw[e2];refine⟨Er,λs=>⟨λhs=>⟨(Ke s hs).1,by rw[B (Ke s hs).1,if_pos hs]⟩,λ⟨hs,e⟩=>?_⟩⟩;rw[B hs] at e;by_cases z:s∈ss;·exact z
    ·rw[if_neg z] at e;have:=hi.blt s hs;lia
   ·have v5:k < h.mem.length:=by lia
    rw[iq (by simpa using v5)];by_cases e2:k=g
    ·subst e2;rw[eV v5];refine⟨gn.filter _,λs=>?_⟩;rw[Yl,gm,qqq];constructor;·rintro⟨⟨hs,e⟩,hn⟩;exact⟨hs,by rw[B hs,if_neg hn];exact e⟩
     ·rintro⟨hs,e⟩;rw[B hs] at e;by_cases z:s∈ss;·rw[if_pos z] at e;lia
      ·rw[if_neg z] at e;exact⟨⟨hs,e⟩,z⟩
    ·rw[dE (λz=>e2 z.symm)];obtain⟨q1,q2⟩:=hi.mem k v5;refine⟨q1,λs=>?_⟩;rw[q2];constructor
     ·rintro⟨hs,e⟩;refine⟨hs,?_⟩;rw[B hs];split;·rename_i z;exact absurd (e.symm.trans (Ke s z).2) e2
      ·exact e
     ·rintro⟨hs,e⟩;refine⟨hs,?_⟩;rw[B hs] at e;split at e
      ·lia
      ·exact e
  ·rw[Wt,X5];refine⟨hi.Lj,by simp,λx hx y hy=>?_⟩;rw[Yz] at hy;subst hy;intro z;subst z;obtain⟨p,q⟩:=(hi.wt _).mp hx;rcases nx with e|⟨e,f⟩
   ·lia
   ·rw[e,f] at q;cases q
  ·intro k;rw[Wt,Ws,ml,aaA,Yz];by_cases e:k=lg h g ss
   ·subst e;have l1:lg h g ss < (h.iD++[Ξ]).length:=by rw[Xs,hi.mT];rcases nx with e|⟨e,_⟩<;>simp<;>lia
    rw[eV l1];refine⟨λ_=>⟨?_,rfl⟩,λ_=>.inr rfl⟩;rcases nx with e|⟨e,_⟩<;>lia
   ·rw[dE (λz=>e z.symm)];constructor
    ·rintro(hk|hk);·obtain⟨p,q⟩:=(hi.wt k).mp hk;exact⟨by lia,by rw[iq (by rw[hi.mT];exact p)];exact q⟩
     ·exact absurd hk e
    ·rintro⟨p,q⟩;by_cases z:k=h.mem.length
     ·subst z;have:(h.iD++[Ξ]).getD h.mem.length Ξ=Ξ:=by rw[<-hi.mT];exact iT
      rw[this] at q;cases q
     ·rw[iq (by rw[hi.mT];lia)] at q;exact .inl ((hi.wt k).mpr ⟨by lia,q⟩)
  ·intro s t hs ht hb;by_cases e:h.cL s=h.cL t
   ·rw[B hs,B ht] at hb;have go:∀x y,x < m.length->y < m.length->x∈ss->y∉ss->h.cL x=h.cL y->¬ik w m x m y:=λx y hx hy z1 z2 e sm=>by have e1:y∈h.mem.getD g []:=(gm y).mpr ⟨hy,e▸(Ke x z1).2⟩;have e2:bH m y a∉T:=λz=>z2 ((uC y).mpr ⟨e1,z⟩);exact hT _ _ (ok.bH hx ha) (ok.bH hy ha) ((uC x).mp z1).2 e2 (sm.step ha)
    by_cases z1:s∈ss<;>by_cases z2:t∈ss;·simp[z1,z2] at hb
    ·exact go s t hs ht z1 z2 e
    ·exact λsm=>go t s ht hs z2 z1 e.symm sm.symm
    ·rw[if_neg z1,if_neg z2] at hb;exact absurd e hb
   ·exact hi.snd s t hs ht e
  ·intro s t hs ht e;exact hi.good s t hs ht (same s t hs ht e).1
  ·intro s t b hs ht hb e Kg;have p1:=ok.bH hs hb;have p2:=ok.bH ht hb;have e0:=(same s t hs ht e).1;rw[Wt];by_cases c:h.cL (bH m s b)=h.cL (bH m t b)
   ·
    rw[B p1,B p2] at Kg ⊢;have go:∀x y,x∈ss->y∉ss->h.cL x=h.cL y->h.cL y=g:=λx y z1 z2 e=>e▸(Ke x z1).2;by_cases z1:bH m s b∈ss<;>by_cases z2:bH m t b∈ss;·simp[z1,z2] at Kg
    ·rw[if_pos z1,if_neg z2,go _ _ z1 z2 c];rcases nx with q|⟨q,_⟩;·exact .inl (by rw[q];simp)
     ·exact .inr (.inl (by rw[q];simp))
    ·rw[if_neg z1,if_pos z2,go _ _ z2 z1 c.symm];rcases nx with q|⟨q,_⟩;·exact .inr (.inl (by rw[q];simp))
     ·exact .inl (by rw[q];simp)
    ·rw[if_neg z1,if_neg z2] at Kg;exact absurd c Kg
   ·
    have keep:∀x,x < m.length->h.cL x∈h.wait->(aC h g ss).cL x∈h.wait++[lg h g ss]:=λx hx hw=>by
     rw[B hx];split
     ·rename_i z;have e1:=(Ke x z).2;rw[e1] at hw;have:lg h g ss=h.mem.length:=by unfold lg;rw[if_pos (.inl ((hi.wt g).mp hw).2)]
      rw[this];simp
     ·exact Yo _ hw
    rcases hi.sep s t b hs ht hb e0 c with q|q|q;·exact .inl (keep _ p1 q)
    ·exact .inr (.inl (keep _ p2 q))
    ·exact .inr (.inr q)
  ·intro s t hs ht es et e;have e2:=(same s t hs ht e).2;have i1:s∈ss↔bH m s a∈T:=by rw[uC];exact⟨λz=>z.2,λz=>⟨(gm s).mpr ⟨hs,es⟩,z⟩⟩
   have i2:t∈ss↔bH m t a∈T:=by rw[uC];exact⟨λz=>z.2,λz=>⟨(gm t).mpr ⟨ht,et⟩,z⟩⟩
   rw[<-i1,<-i2];exact e2
  ·intro s hs hn;rw[B hs,if_neg λz=>hn (Ke s z).2]
  ·intro k hk hn;rw[M,iq (by simpa using hk),dE λz=>hn z.symm]
  ·rw[Wt,ml];simp;lia
end
section
variable{w:Nat}{m:dR}{T:List Nat}{R:Nat->Prop}{h h0:nc}
noncomputable def vE(h:nc):Prop:=∀g,2<=g->g < h.mem.length->h.mem.getD g []≠[]
theorem qI(hi:j0 w m T R h)(hn:vE h)(hg:g < h.mem.length)(uC:∀s∈ss,s∈h.mem.getD g [])(Er:ss.Nodup)(fH:ss≠[]):vE (aC h g ss):=by
 obtain⟨gn,gm⟩:=hi.mem g hg;by_cases hc:ss.length=(h.mem.getD g []).length
 ·have e:aC h g ss=h:=by unfold aC;rw[if_pos hc]
  rw[e];exact hn
 ·have M:=ou (h:=h) hc;have ml:(aC h g ss).mem.length=h.mem.length+1:=by rw[M];simp
  intro k vk hk;rw[ml] at hk;rw[M];by_cases e1:k=h.mem.length
  ·subst e1;have e2:(h.mem.set g ((h.mem.getD g []).filter λs=>decide (s∉ss))++[ss]).getD h.mem.length []=ss:=by have:=iT (l:=h.mem.set g ((h.mem.getD g []).filter λs=>decide (s∉ss))) (x:=ss) (d:=[]);rw[YD] at this;exact this
   rw[e2];exact fH
  ·have v5:k < h.mem.length:=by lia
   rw[iq (by simpa using v5)];by_cases e2:k=g
   ·subst e2;rw[eV v5];intro z;rw[Zt] at z;have:∀x∈h.mem.getD k [],x∈ss:=λx hx=>by have:=z x hx;simpa using this
    have l1:=sub_len gn this;have l2:=sub_len Er uC
    lia
   ·rw[dE (λz=>e2 z.symm)];exact hn k vk v5
theorem vE.bound(hi:j0 w m T R h)(hn:vE h):h.mem.length<=m.length+2:=by
 have key:=sub_len (ss:=(W7 (h.mem.length - 2)).map λg=>(h.mem.getD (g+2) []).headD 0) (xs:=W7 m.length) ?_ ?_;·simp at key;lia
 ·rw[List.nodup_iff_pairwise_ne,List.pairwise_map];refine List.Pairwise.imp_of_mem ?_ (Zf);intro a b ha hb MQ e;simp only[Ym] at ha hb;have hd:∀g,g < h.mem.length - 2->(h.mem.getD (g+2) []).headD 0∈h.mem.getD (g+2) []:=λg hg=>by have:=hn (g+2) (by lia) (by lia);cases q:h.mem.getD (g+2) [] with|nil=>exact absurd q this|cons x r=>simp
  have m1:=((hi.mem (a+2) (by lia)).2 _).mp (hd a ha);have m2:=((hi.mem (b+2) (by lia)).2 _).mp (hd b hb);rw[e] at m1;have:=m1.2.symm.trans m2.2
  lia
 ·intro s hs;rw[YQ] at hs;obtain⟨g,hg,e⟩:=hs;rw[Ym] at hg;have:=hn (g+2) (by lia) (by lia);cases q:h.mem.getD (g+2) [] with|nil=>exact absurd q this|cons x r=>rw[q] at e;have m1:=((hi.mem (g+2) (by lia)).2 x).mp (by rw[q];simp);simp at e;rw[<-e,Ym];exact m1.1
theorem Aq(ok:fU w m)(ha:a < w)(hT:∀x y,x < m.length->y < m.length->x∈T->y∉T->¬ik w m x m y):∀{es:List (Nat×List Nat)} {h} {Dn:Nat->Prop},j0 w m T R h->vE h->k9 m h0 h->(es.map (·.1)).Nodup->
  (∀k ss,(k,ss)∈es->k < h.mem.length/\(∀s,s < m.length->(h.cL s=k↔h0.cL s=k))/\(∀s,s∈ss↔s∈h.mem.getD k []/\bH m s a∈T)/\ss.Nodup/\ss≠[])->
  (∀s t,s < m.length->t < m.length->h.cL s=h.cL t->Dn (h0.cL s)->(bH m s a∈T↔bH m t a∈T))->
  j0 w m T R (es.foldl (λh e=>aC h e.1 e.2) h)/\vE (es.foldl (λh e=>aC h e.1 e.2) h)/\k9 m h0 (es.foldl (λh e=>aC h e.1 e.2) h)/\
  (∀s t,s < m.length->t < m.length->(es.foldl (λh e=>aC h e.1 e.2) h).cL s=(es.foldl (λh e=>aC h e.1 e.2) h).cL t->(Dn (h0.cL s)\/h0.cL s∈es.map (·.1))->(bH m s a∈T↔bH m t a∈T))/\
  (es.foldl (λh e=>aC h e.1 e.2) h).wait.length+h.mem.length=h.wait.length+(es.foldl (λh e=>aC h e.1 e.2) h).mem.length/\h.mem.length<=(es.foldl (λh e=>aC h e.1 e.2) h).mem.length
 |[],h,Dn,hi,hn,hf,_,_,hd=>⟨hi,hn,hf,λs t hs ht e d=>hd s t hs ht e (by rcases d with d|d;exact d;simp at d),rfl,Xd _⟩|(k,ss)::es,h,Dn,hi,hn,hf,nd,hes,hd=>by
  obtain⟨k1,k2,k3,k4,k5⟩:=hes k ss W8;obtain⟨i1,i2,i3,i4,i5,i6,i7⟩:=ow hi k1 ha k3 k4 k5 hT ok;have n1:=qI hi hn k1 (λs hs=>((k3 s).mp hs).1) k4 k5;rw[Xi,YC] at nd;obtain⟨f1,f2,f3,f4,f5,f6⟩:=Aq ok ha hT (h:=aC h k ss) (Dn:=λj=>Dn j\/j=k) i1 n1 (hf.trans i2) nd.2 (λj rs hj=>by
   obtain⟨j1,j2,j3,j4,j5⟩:=hes j rs (W5 _ hj);have hjk:j≠k:=λz=>nd.1 (YQ.mpr ⟨_,hj,z⟩);refine⟨by lia,λs hs=>?_,λs=>by rw[j3,i5 j j1 hjk],j4,j5⟩;rw[<-j2 s hs];have q1:=(i1.mem j (by lia)).2 s;have q2:=(hi.mem j j1).2 s;rw[i5 j j1 hjk,q2] at q1;exact⟨λz=>(q1.mpr ⟨hs,z⟩).2,λz=>(q1.mp ⟨hs,z⟩).2⟩) (λs t hs ht e d=>by
   rcases d with d|d;·exact hd s t hs ht (i2 s t hs ht e) d
   ·have e1:h.cL s=k:=(k2 s hs).mpr d;have e2:h.cL t=k:=(i2 s t hs ht e)▸e1;exact i3 s t hs ht e1 e2 e)
  refine⟨f1,f2,f3,λs t hs ht e d=>f4 s t hs ht e ?_,?_,by rw[Zo];dsimp only;lia⟩
  ·rcases d with d|d;·exact .inl (.inl d)
   ·rw[Xi] at d;rcases Zy.mp d with d|d;·exact .inl (.inr d)
    ·exact .inr d
  ·rw[Zo];dsimp only
   lia
theorem lh:s∈dJ m a t↔s < m.length/\bH m s a=t:=by unfold dJ;rw[Yl,Ym,qqq]
theorem ox:s∈T.flatMap (dJ m a)↔s < m.length/\bH m s a∈T:=by
 rw[abX];constructor;·rintro⟨t,ht,hs⟩;obtain⟨p,q⟩:=lh.mp hs;exact⟨p,q▸ht⟩
 ·rintro⟨p,q⟩;exact⟨_,q,lh.mpr ⟨p,rfl⟩⟩
theorem r9:∀{T:List Nat},T.Nodup->(T.flatMap (dJ m a)).Nodup
 |[],_=>by simp|t::T,hn=>by rw[YC] at hn;rw[abG,X5];refine⟨(Zf).filter _,r9 hn.2,λx hx y hy=>?_⟩;rintro rfl;have e1:=(lh.mp hx).2;have e2:=(ox.mp hy).2;rw[e1] at e2;exact hn.1 e2
theorem qJ(ok:fU w m)(ha:a < w)(hT:∀x y,x < m.length->y < m.length->x∈T->y∉T->¬ik w m x m y)(Kh:T.Nodup)(hi:j0 w m T R h)(hn:vE h):
  j0 w m T (λb=>R b/\b≠a) (eA m h T a)/\vE (eA m h T a)/\(eA m h T a).wait.length+h.mem.length=h.wait.length+(eA m h T a).mem.length/\h.mem.length<=(eA m h T a).mem.length:=by
 obtain⟨s1,s2,s3⟩:=dX h.grp (T.flatMap (dJ m a));have L:=λs=>ox (m:=m) (T:=T) (a:=a) (s:=s);have Ln:=r9 (m:=m) (a:=a) Kh;have key:=Aq (h0:=h) (Dn:=λ_=>False) ok ha hT hi hn k9.refl s1 (λk ss hk=>by
  obtain⟨e,fH⟩:=s2 k ss hk;have vk:k < h.mem.length:=by
   cases q:ss with
   |nil=>exact absurd q fH|cons x r=>
    have hx:x∈ss:=by rw[q];simp
    rw[e,Yl,qqq] at hx;rw[<-hx.2];exact hi.blt x ((L x).mp hx.1).1
  refine⟨vk,λ_ _=>Iff.rfl,λs=>?_,by rw[e];exact Ln.filter _,fH⟩;rw[e,Yl,qqq,L,(hi.mem k vk).2];constructor;·rintro⟨⟨p,q⟩,r⟩;exact⟨⟨p,r⟩,q⟩
  ·rintro⟨⟨p,r⟩,q⟩;exact⟨⟨p,q⟩,r⟩) (λ_ _ _ _ _ d=>d.elim)
 obtain⟨f1,f2,f3,f4,f5,f6⟩:=key;refine⟨⟨f1.rm,f1.mT,f1.blt,f1.mem,f1.Lj,f1.wt,f1.snd,f1.good,λs t b hs ht hb e fH=>?_⟩,f2,f5,f6⟩;rcases f1.sep s t b hs ht hb e fH with q|q|⟨q1,q2⟩;·exact .inl q
 ·exact .inr (.inl q)
 ·refine .inr (.inr ⟨⟨q1,λz=>q2 ?_⟩,q2⟩);subst z;by_cases c:h.cL s∈(cE h.grp (T.flatMap (dJ m b))).map (·.1);·exact f4 s t hs ht e (.inr c)
  ·have e0:h.cL s=h.cL t:=f3 s t hs ht e;have no:∀x,x < m.length->h.cL x=h.cL s->bH m x b∉T:=λx hx ex hc=>by obtain⟨ss,uC⟩:=s3 x ((L x).mpr ⟨hx,hc⟩);exact c (YQ.mpr ⟨_,uC,ex⟩)
   exact⟨λz=>absurd z (no s hs rfl),λz=>absurd z (no t ht e0.symm)⟩
def lj(h:nc)(g:Nat):nc:=⟨h.grp,h.mem,h.wait.dropLast,h.iD.set g Ξ⟩
def eB(m:dR)(T:List Nat)(as:List Nat)(h:nc):nc:=as.foldl (λh a=>eA m h T a) h
def oy(m:dR)(w:Nat)(h:nc):nc:=eB m (h.mem.getD (h.wait.getLast?.getD 0) []) (W7 w) (lj h (h.wait.getLast?.getD 0))
def settle(m:dR)(w:Nat):Nat->nc->nc
 |0,h=>h|n+1,h=>if h.wait=[] then h else settle m w n (oy m w h)
def uD(w:Nat)(m:dR)(h:nc):Prop:=j0 w m [] (λ_=>False) h/\vE h
theorem Ar(ok:fU w m)(hT:∀x y,x < m.length->y < m.length->x∈T->y∉T->¬ik w m x m y)(Kh:T.Nodup):∀{as} {R} {h},(∀a∈as,a < w)->j0 w m T R h->vE h->
  j0 w m T (λb=>R b/\b∉as) (eB m T as h)/\vE (eB m T as h)/\(eB m T as h).wait.length+h.mem.length=h.wait.length+(eB m T as h).mem.length/\h.mem.length<=(eB m T as h).mem.length
 |[],R,h,_,hi,hn=>⟨⟨hi.rm,hi.mT,hi.blt,hi.mem,hi.Lj,hi.wt,hi.snd,hi.good,λs t b hs ht hb e fH=>by
   rcases hi.sep s t b hs ht hb e fH with q|q|⟨q1,q2⟩;·exact .inl q
   ·exact .inr (.inl q)
   ·exact .inr (.inr ⟨⟨q1,by simp⟩,q2⟩)⟩,hn,rfl,Xd _⟩
 |a::as,R,h,hw,hi,hn=>by
  obtain⟨i1,i2,i3,i4⟩:=qJ ok (hw a W8) hT Kh hi hn;obtain⟨j1,j2,j3,j4⟩:=Ar ok hT Kh (as:=as) (λb hb=>hw b (W5 _ hb)) i1 i2;refine⟨⟨j1.rm,j1.mT,j1.blt,j1.mem,j1.Lj,j1.wt,j1.snd,j1.good,λs t b hs ht hb e fH=>?_⟩,j2,?_,?_⟩
  ·rcases j1.sep s t b hs ht hb e fH with q|q|⟨⟨⟨q1,q3⟩,q4⟩,q2⟩;·exact .inl q
   ·exact .inr (.inl q)
   ·exact .inr (.inr ⟨⟨q1,λz=>by rcases Zy.mp z with z|z;exact q3 z;exact q4 z⟩,q2⟩)
  ·show(eB m T as (eA m h T a)).wait.length+_=_+(eB m T as (eA m h T a)).mem.length
   lia
  ·show _<=(eB m T as (eA m h T a)).mem.length
   lia
theorem As(ok:fU w m)(hc:uD w m h)(hw:h.wait≠[]):uD w m (oy m w h)/\(oy m w h).wait.length+h.mem.length+1=h.wait.length+(oy m w h).mem.length/\h.mem.length<=(oy m w h).mem.length:=by
 obtain⟨hi,hn⟩:=hc;obtain⟨g,hg⟩:∃g,h.wait.getLast?=Δ g:=by cases q:h.wait.getLast? with|none=>rw[List.getLast?_eq_none_iff] at q;exact absurd q hw|some g=>exact⟨g,rfl⟩
 have eg:h.wait.getLast?.getD 0=g:=by rw[hg];rfl
 have ew:h.wait=h.wait.dropLast++[g]:=by rw[List.getLast?_eq_some_iff] at hg;obtain⟨ys,e⟩:=hg;rw[e];simp
 have gm:g∈h.wait:=by rw[ew];simp
 obtain⟨g1,g2⟩:=(hi.wt g).mp gm;obtain⟨T1,T2⟩:=hi.mem g g1;have nd:(h.wait.dropLast++[g]).Nodup:=by rw[<-ew];exact hi.Lj
 rw[X5] at nd;have Oe:g∉h.wait.dropLast:=λz=>nd.2.2 g z g (by simp) rfl;have Of:∀k,k∈h.wait->k≠g->k∈h.wait.dropLast:=λk hk Wn=>by
  rw[ew,aaA,Yz] at hk;rcases hk with z|z;·exact z
  ·exact absurd z Wn
 have hT:∀x y,x < m.length->y < m.length->x∈h.mem.getD g []->y∉h.mem.getD g []->¬ik w m x m y:=λx y hx hy z1 z2=>by refine hi.snd x y hx hy λe=>z2 ((T2 y).mpr ⟨hy,?_⟩);rw[<-e];exact((T2 x).mp z1).2
 have ip:j0 w m (h.mem.getD g []) (λa=>a < w) (lj h g):=by
  refine⟨hi.rm,by unfold lj;simp[hi.mT],hi.blt,hi.mem,nd.1,λk=>?_,hi.snd,hi.good,λs t b hs ht hb e fH=>?_⟩
  ·unfold lj;dsimp only;by_cases e:k=g;·subst e;refine⟨λz=>absurd z Oe,λ⟨_,z⟩=>?_⟩;rw[eV (by rw[hi.mT];exact g1)] at z;cases z
   ·rw[dE λz=>e z.symm];constructor;·intro z;exact(hi.wt k).mp (by rw[ew];exact Yo _ z)
    ·intro z;exact Of k ((hi.wt k).mpr z) e
  ·have e':h.cL s=h.cL t:=e;have xx:h.cL (bH m s b)≠h.cL (bH m t b):=fH;have p1:=ok.bH hs hb;have p2:=ok.bH ht hb;have i1:bH m s b∈h.mem.getD g []↔h.cL (bH m s b)=g:=by rw[T2];exact⟨λz=>z.2,λz=>⟨p1,z⟩⟩
   have i2:bH m t b∈h.mem.getD g []↔h.cL (bH m t b)=g:=by rw[T2];exact⟨λz=>z.2,λz=>⟨p2,z⟩⟩
   show h.cL (bH m s b)∈h.wait.dropLast\/h.cL (bH m t b)∈h.wait.dropLast\/_;by_cases c1:h.cL (bH m s b)=g;·refine .inr (.inr ⟨hb,λz=>?_⟩);rw[i1,i2] at z;exact xx (c1.trans (z.mp c1).symm)
   ·by_cases c2:h.cL (bH m t b)=g;·refine .inr (.inr ⟨hb,λz=>?_⟩);rw[i1,i2] at z;exact c1 (z.mpr c2)
    ·rcases hi.sep s t b hs ht hb e' xx with q|q|⟨q,_⟩;·exact .inl (Of _ q c1)
     ·exact .inr (.inl (Of _ q c2))
     ·exact q.elim
 have wl:(lj h g).wait.length+1=h.wait.length:=by
  unfold lj;have:=congrArg abF ew;simp at this;dsimp only;rw[List.length_dropLast];have:=Y3 gm
  lia
 obtain⟨j1,j2,j3,j4⟩:=Ar ok hT T1 (as:=W7 w) (λa ha=>by simpa using ha) ip (show vE (lj h g) from hn);unfold oy;rw[eg];refine⟨⟨⟨j1.rm,j1.mT,j1.blt,j1.mem,j1.Lj,j1.wt,j1.snd,j1.good,λs t b hs ht hb e fH=>?_⟩,j2⟩,?_,j4⟩
 ·rcases j1.sep s t b hs ht hb e fH with q|q|⟨⟨q1,q3⟩,q2⟩;·exact .inl q
  ·exact .inr (.inl q)
  ·exact absurd (by simpa using hb) q3
 ·have:(lj h g).mem.length=h.mem.length:=rfl
  lia
theorem Hj{a b c d m j:Nat}(h:a+(m+2 - b)<=j+1)(h1:c+b+1=a+d)(h2:d<=m+2):c+(m+2 - d)<=j:=by lia
theorem uE(ok:fU w m):∀{n} {h},uD w m h->h.wait.length+(m.length+2 - h.mem.length)<=n->uD w m (settle m w n h)/\(settle m w n h).wait=[]
 |0,h,hc,hl=>by
  have:h.wait=[]:=by cases q:h.wait with|nil=>rfl|cons x r=>rw[q] at hl;simp at hl
  exact⟨hc,this⟩
 |n+1,h,hc,hl=>by
  unfold Y.settle;by_cases hw:h.wait=[];·rw[if_pos hw];exact⟨hc,hw⟩
  ·rw[if_neg hw];obtain⟨c1,c2,c3⟩:=As ok hc hw;have b1:=vE.bound c1.1 c1.2;exact uE ok c1 (Hj hl c2 b1)
theorem Au(ok:fU w m)(hc:uD w m h)(hw:h.wait=[])(hs:s < m.length)(ht:t < m.length):h.cL s=h.cL t↔ik w m s m t:=by
 constructor
 ·intro e u;induction u generalizing s t with
  |nil=>intro _;exact hc.1.good s t hs ht e|cons a u ih=>
   intro hu;have ha:=hu.head;refine ih (ok.bH hs ha) (ok.bH ht ha) ?_ hu.tail;apply Xz;intro fH;rcases hc.1.sep s t a hs ht ha e fH with q|q|⟨q,_⟩;·rw[hw] at q;cases q
   ·rw[hw] at q;cases q
   ·exact q
 ·intro Wo;apply Xz;intro fH;exact hc.1.snd s t hs ht fH Wo
def jc(m:dR):nc:=⟨m.map (·.1),[(W7 m.length).filter λs=>decide (gd m s=0),(W7 m.length).filter λs=>decide (gd m s=1)],[0,1],[Λ,Λ]⟩
theorem dq(hs:s < m.length):(jc m).cL s=gd m s:=by show(m.map (·.1)).getD s 0=_;unfold gd row;rw[Xa,Xg,W6 hs,Xa,W6 hs];rfl
theorem uF(ok:fU w m):uD w m (jc m):=by
 have g01:∀s,s < m.length->gd m s=0\/gd m s=1:=λs hs=>by
  have:=ok.good _ (bZ hs);unfold gd
  lia
 refine⟨⟨by simp[jc],rfl,λs hs=>?_,λg hg=>?_,by simp[jc],λg=>?_,λs t hs ht hb=>?_,λs t hs ht hb=>?_,λs t a hs ht ha e fH=>?_⟩,λg h1 h2=>?_⟩;·rw[dq hs];show _ < 2;rcases g01 s hs with q|q<;>lia
 ·have Jq:g=0\/g=1:=by
   have:g < 2:=hg
   lia
  rcases Jq with e|e<;>subst e
  ·refine⟨(Zf).filter _,λs=>?_⟩;show s∈(W7 m.length).filter _↔_;rw[Yl,Ym,qqq];constructor;·rintro⟨p,q⟩;exact⟨p,by rw[dq p];exact q⟩
   ·rintro⟨p,q⟩;rw[dq p] at q;exact⟨p,q⟩
  ·refine⟨(Zf).filter _,λs=>?_⟩;show s∈(W7 m.length).filter _↔_;rw[Yl,Ym,qqq];constructor;·rintro⟨p,q⟩;exact⟨p,by rw[dq p];exact q⟩
   ·rintro⟨p,q⟩;rw[dq p] at q;exact⟨p,q⟩
 ·show g∈[0,1]↔g < 2/\[Λ,Λ].getD g Ξ=Λ;constructor;·intro z;simp at z;rcases z with z|z<;>subst z<;>exact⟨by lia,rfl⟩
  ·rintro⟨p,_⟩;simp;lia
 ·rw[dq hs,dq ht] at hb;exact λsm=>hb sm.good
 ·rw[dq hs,dq ht] at hb;exact hb
 ·refine .inl ?_;rw[dq (ok.bH hs ha)];show _∈[0,1];rcases g01 _ (ok.bH hs ha) with q|q<;>rw[q]<;>simp
 ·have:g < 2:=h2
  lia
end
section
variable{w:Nat}{m:dR}{h:nc}
theorem Ki(ok:fU w m)(hc:uD w m h)(hw:h.wait≠[]):∃g,h.wait=h.wait.dropLast++[g]/\h.wait.getLast?.getD 0=g/\g < h.mem.length/\(h.mem.getD g []).Nodup/\(∀t∈h.mem.getD g [],t < m.length)/\
  (∀x y,x < m.length->y < m.length->x∈h.mem.getD g []->y∉h.mem.getD g []->¬ik w m x m y)/\j0 w m (h.mem.getD g []) (λa=>a < w) (lj h g)/\vE (lj h g):=by
 obtain⟨hi,hn⟩:=hc;obtain⟨g,hg⟩:∃g,h.wait.getLast?=Δ g:=by cases q:h.wait.getLast? with|none=>rw[List.getLast?_eq_none_iff] at q;exact absurd q hw|some g=>exact⟨g,rfl⟩
 have eg:h.wait.getLast?.getD 0=g:=by rw[hg];rfl
 have ew:h.wait=h.wait.dropLast++[g]:=by rw[List.getLast?_eq_some_iff] at hg;obtain⟨ys,e⟩:=hg;rw[e];simp
 have gm:g∈h.wait:=by rw[ew];simp
 obtain⟨g1,g2⟩:=(hi.wt g).mp gm;obtain⟨T1,T2⟩:=hi.mem g g1;have nd:(h.wait.dropLast++[g]).Nodup:=by rw[<-ew];exact hi.Lj
 rw[X5] at nd;have Oe:g∉h.wait.dropLast:=λz=>nd.2.2 g z g (by simp) rfl;have Of:∀k,k∈h.wait->k≠g->k∈h.wait.dropLast:=λk hk Wn=>by
  rw[ew,aaA,Yz] at hk;rcases hk with z|z;·exact z
  ·exact absurd z Wn
 have hT:∀x y,x < m.length->y < m.length->x∈h.mem.getD g []->y∉h.mem.getD g []->¬ik w m x m y:=λx y hx hy z1 z2=>by refine hi.snd x y hx hy λe=>z2 ((T2 y).mpr ⟨hy,?_⟩);rw[<-e];exact((T2 x).mp z1).2
 have ip:j0 w m (h.mem.getD g []) (λa=>a < w) (lj h g):=by
  refine⟨hi.rm,by unfold lj;simp[hi.mT],hi.blt,hi.mem,nd.1,λk=>?_,hi.snd,hi.good,λs t b hs ht hb e fH=>?_⟩
  ·unfold lj;dsimp only;by_cases e:k=g;·subst e;refine⟨λz=>absurd z Oe,λ⟨_,z⟩=>?_⟩;rw[eV (by rw[hi.mT];exact g1)] at z;cases z
   ·rw[dE λz=>e z.symm];constructor;·intro z;exact(hi.wt k).mp (by rw[ew];exact Yo _ z)
    ·intro z;exact Of k ((hi.wt k).mpr z) e
  ·have e':h.cL s=h.cL t:=e;have xx:h.cL (bH m s b)≠h.cL (bH m t b):=fH;have p1:=ok.bH hs hb;have p2:=ok.bH ht hb;have i1:bH m s b∈h.mem.getD g []↔h.cL (bH m s b)=g:=by rw[T2];exact⟨λz=>z.2,λz=>⟨p1,z⟩⟩
   have i2:bH m t b∈h.mem.getD g []↔h.cL (bH m t b)=g:=by rw[T2];exact⟨λz=>z.2,λz=>⟨p2,z⟩⟩
   show h.cL (bH m s b)∈h.wait.dropLast\/h.cL (bH m t b)∈h.wait.dropLast\/_;by_cases c1:h.cL (bH m s b)=g;·refine .inr (.inr ⟨hb,λz=>?_⟩);rw[i1,i2] at z;exact xx (c1.trans (z.mp c1).symm)
   ·by_cases c2:h.cL (bH m t b)=g;·refine .inr (.inr ⟨hb,λz=>?_⟩);rw[i1,i2] at z;exact c1 (z.mpr c2)
    ·rcases hi.sep s t b hs ht hb e' xx with q|q|⟨q,_⟩;·exact .inl (Of _ q c1)
     ·exact .inr (.inl (Of _ q c2))
     ·exact q.elim
 exact⟨g,ew,eg,g1,T1,λt ht=>((T2 t).mp ht).1,hT,ip,hn⟩
end
section
variable{α:Type}[DecidableEq α]
noncomputable def bQ(ps ss:List α):List α:=ss.foldl (λps s=>if s∈ps then ps else ps++[s]) ps
def yJ(step:α->List α):Nat->List α->Nat->List α
 |0,ps,_=>ps|n+1,ps,k=>match ps[k]? with|none=>ps|some p=>yJ step n (bQ ps (step p)) (k+1)
def Av(step:α->List α)(good:α->Nat)(F:List α)(p:α):Nat×List Nat:=(good p,(step p).map λq=>F.idxOf q)
def ir(step:α->List α)(good:α->Nat)(F:List α):dR:=F.map (Av step good F)
noncomputable def Hk(step:α->List α)(p:α)(u:List Nat):α:=u.foldl (λp a=>((step p)[a]?).getD p) p
theorem jA ps(s:α)ss:bQ ps (s::ss)=bQ (if s∈ps then ps else ps++[s]) ss:=rfl
theorem gh:∀(ss ps:List α),∃t,bQ ps ss=ps++t
 |[],ps=>⟨[],by simp[bQ]⟩|s::ss,ps=>by
  rw[jA];split;·exact gh ss ps
  ·obtain⟨t,e⟩:=gh ss (ps++[s]);exact⟨s::t,by rw[e];simp⟩
theorem dF:∀{ss ps} {x:α},x∈bQ ps ss↔x∈ps\/x∈ss
 |[],ps,x=>by simp[bQ]|s::ss,ps,x=>by
  rw[jA];split
  ·rename_i h;rw[dF,Zy];constructor
   ·rintro(z|z);·exact .inl z
    ·exact .inr (.inr z)
   ·rintro(z|z|z);·exact .inl z
    ·exact .inl (z▸h)
    ·exact .inr z
  ·rw[dF,aaA,Yz,Zy,or_assoc]
theorem se:∀{ss ps:List α},ps.Nodup->(bQ ps ss).Nodup
 |[],ps,h=>h|s::ss,ps,h=>by
  rw[jA];split;·exact se h
  ·rename_i hs;exact se (by rw[X5];exact⟨h,by simp,λa ha b hb=>by simp at hb;subst hb;exact λz=>hs (z▸ha)⟩)
theorem sf(step:α->List α):∀(n) (ps) (k),∃t,yJ step n ps k=ps++t
 |0,ps,k=>⟨[],by simp[yJ]⟩|n+1,ps,k=>by
  rw[yJ];split;·exact⟨[],by simp⟩
  ·rename_i p hp;obtain⟨t,e⟩:=sf step n (bQ ps (step p)) (k+1);obtain⟨t',e'⟩:=gh (step p) ps;exact⟨t'++t,by rw[e,e'];simp⟩
theorem yp{ps t:List α}(h:q∈ps):(ps++t).idxOf q=ps.idxOf q:=by rw[List.idxOf_append,if_pos h]
theorem yq{l:List α}(h:l.Nodup):∀{i j} (hi) (hj:j < l.length),l[i]=l[j]->i=j:=by
 induction l with
 |nil=>intro i j hi;simp at hi|cons x l ih=>
  rw[YC] at h;intro i j hi hj e;cases i with
  |zero=>cases j with|zero=>rfl|succ j=>simp at e;exact absurd (e▸X6 _) h.1
  |succ i=>cases j with|zero=>simp at e;exact absurd (e▸X6 _) h.1|succ j=>simp at e;rw[ih h.2 _ _ e]
theorem Df{q:α}(h:q∉ps):(ps++[q]++t).idxOf q=ps.length:=by rw[yp (by simp),List.idxOf_append,if_neg h];simp
structure uG(step:α->List α)(S ps:List α)(k:Nat):Prop where
 nd:ps.Nodup
 sub:∀p∈ps,p∈S
 le:k<=ps.length
 cl:∀(i:Nat) (p:α),i < k->ps[i]?=Δ p->∀q∈step p,q∈ps
variable{step:α->List α}{S:List α}
theorem uG.len(h:uG step S ps k):ps.length<=S.length:=fM h.nd h.sub
theorem uG.next(hS:∀p∈S,∀q∈step p,q∈S)(h:uG step S ps k)(hp:ps[k]?=Δ p):uG step S (bQ ps (step p)) (k+1):=by
 have hk:=(qqz hp).1;obtain⟨t,et⟩:=gh (step p) ps;refine⟨se h.nd,λq hq=>?_,by rw[et,Xs];lia,λi p' hi Fw q hq=>?_⟩
 ·rcases dF.mp hq with z|z;·exact h.sub q z
  ·exact hS p (h.sub p (Xw hp)) q z
 ·have vZ:i < ps.length:=by lia
  have e:ps[i]?=Δ p':=by rw[et,Xb vZ] at Fw;exact Fw
  by_cases v5:i < k;·exact dF.mpr (.inl (h.cl i p' v5 e q hq))
  ·have:i=k:=by lia
   subst this;rw[hp] at e;cases e;exact dF.mpr (.inr hq)
theorem Dg(hS:∀p∈S,∀q∈step p,q∈S):∀{n} {ps} {k},uG step S ps k->S.length+1<=n+k->uG step S (yJ step n ps k) (yJ step n ps k).length
 |0,ps,k,h,hn=>by
  have h1:=h.len;have h2:=h.le
  lia
 |n+1,ps,k,h,hn=>by
  rw[yJ];split
  ·rename_i hp;have h2:=List.getElem?_eq_none_iff.mp hp;have h1:=h.le;have:k=ps.length:=by lia
   subst this;exact h
  ·rename_i p hp;exact Dg hS (h.next hS hp) (by lia)
theorem mU F:∀(ss ps t:List α),F=bQ ps ss++t->gK (ss.map λq=>F.idxOf q) ps.length=Δ (bQ ps ss).length
 |[],ps,t,_=>by simp[gK,bQ]|s::ss,ps,t,e=>by
  rw[jA] at e ⊢;rw[Xi,gK];by_cases h:s∈ps
  ·rw[if_pos h] at e ⊢;obtain⟨t',e'⟩:=gh ss ps;have:F.idxOf s < ps.length:=by rw[e,e',X7,yp h];exact YW h
   rw[if_pos this];exact mU F ss ps t e
  ·rw[if_neg h] at e ⊢;obtain⟨t',e'⟩:=gh ss (ps++[s]);have:F.idxOf s=ps.length:=by rw[e,e',X7,Df h]
   rw[this,if_neg (by lia),if_pos rfl];have:=mU F ss (ps++[s]) t e;simpa using this
theorem Aw(hS:∀p∈S,∀q∈step p,q∈S):∀{n} {ps} {k},uG step S ps k->S.length+1<=n+k->yJ step n ps k=F->gg ((F.drop k).map (Av step good F)) k ps.length=Δ F.length
 |0,ps,k,h,hn,e=>by
  have h1:=h.len;have h2:=h.le
  lia
 |n+1,ps,k,h,hn,e=>by
  rw[yJ] at e;split at e;·rename_i hp;have h2:=List.getElem?_eq_none_iff.mp hp;have h1:=h.le;subst e;rw[aaT h2];simp[gg]
  ·rename_i p hp;have hk:=(qqz hp).1;obtain⟨t,et⟩:=sf step n (bQ ps (step p)) (k+1);obtain⟨t',et'⟩:=gh (step p) ps;have eF:F=bQ ps (step p)++t:=by rw[<-e,et]
   have ek:F[k]?=Δ p:=by rw[eF,et',X7,Xb hk];exact hp
   have hkF:=(qqz ek);have ed:F.drop k=p::F.drop (k+1):=by rw[X9 hkF.1,hkF.2]
   rw[ed,Xi,gg,if_pos hk];have:gK (Av step good F p).2 ps.length=Δ (bQ ps (step p)).length:=mU F (step p) ps t eF;rw[this];exact Aw hS (h.next hS hp) (by lia) e
def places(step:α->List α)(N:Nat)(start:α):List α:=yJ step N [start] 0
structure Places(w:Nat)(step:α->List α)(good:α->Nat)(S:List α)(start:α)(F:List α):Prop where
 nd:F.Nodup
 sub:∀p∈F,p∈S
 cl:∀p∈F,∀q∈step p,q∈F
 zero:F[0]?=Δ start
 ok:fU w (ir step good F)
 ord:gg (ir step good F) 0 1=Δ (ir step good F).length
theorem Es(hs:start∈S)(hS:∀p∈S,∀q∈step p,q∈S)(hl:∀p∈S,(step p).length=w)(hg:∀p∈S,good p<=1)(hN:S.length+1<=N):Places w step good S start (places step N start):=by
 have b0:uG step S [start] 0:=⟨by simp,λp hp=>by simp at hp;rw[hp];exact hs,by simp,λi p hi=>by lia⟩;have b:=Dg hS b0 (n:=N) (by lia);have sc:=Aw (good:=good) hS b0 (n:=N) (by lia) (F:=places step N start) rfl;obtain⟨t,et⟩:=sf step N [start] 0;have xE:∀p∈places step N start,∀q∈step p,q∈places step N start:=λp hp q hq=>by obtain⟨i,hi⟩:=abd hp;exact b.cl i p (qqz hi).1 hi q hq
 refine⟨b.nd,b.sub,xE,by show(yJ step N [start] 0)[0]?=_;rw[et];rfl,⟨?_,λs sM=>?_,λs sM=>?_,λs sM t ht=>?_⟩,?_⟩;·show 0 < (aak _ (yJ step N [start] 0)).length;rw[et];simp
 ·obtain⟨p,hp,rfl⟩:=YQ.mp sM;exact hg p (b.sub p hp)
 ·obtain⟨p,hp,rfl⟩:=YQ.mp sM;show(aak _ _).length=w;rw[Xc];exact hl p (b.sub p hp)
 ·obtain⟨p,hp,rfl⟩:=YQ.mp sM;obtain⟨q,hq,rfl⟩:=YQ.mp (show t∈(step p).map λq=>(places step N start).idxOf q from ht);show _ < (aak _ _).length;rw[Xc];exact YW (xE p hp q hq)
 ·rw[aam] at sc;show gg ((places step N start).map _) 0 1=Δ ((places step N start).map _).length;rw[Xc];exact sc
theorem Dh(h:F[i]?=Δ p):row (ir step good F) i=Av step good F p:=by unfold row ir;rw[Xa,Xg,h];rfl
theorem Di(h:Places w step good S start F)(hl:∀p∈S,(step p).length=w):∀{u} {i} {p},F[i]?=Δ p->Wd w u->gd (ir step good F) (walk (ir step good F) i u)=good (Hk step p u)
 |[],i,p,hp,_=>by show(row _ i).1=good p;rw[Dh hp];rfl|a::u,i,p,hp,hu=>by
  have ha:=hu.head;have hpF:=Xw hp;have hlp:=hl p (h.sub p hpF);have hq:(step p)[a]?=Δ ((step p)[a]'(by lia)):=W6 (by lia);have hqF:=h.cl p hpF _ (X6 (by lia:a < (step p).length));have es:bH (ir step good F) i a=F.idxOf ((step p)[a]'(by lia)):=by unfold bH;rw[Dh hp];show((step p).map _).getD a 0=_;rw[Xa,Xg,hq];rfl
  show gd _ (walk _ (bH _ i a) u)=good (Hk step (((step p)[a]?).getD p) u);rw[es,hq];exact Di h hl (by rw[W6 (YW hqF),List.getElem_idxOf];rfl) hu.tail
end
section
variable{w:Nat}{m:dR}
def RU(grp:List Nat)(s:Nat):Nat:=grp.idxOf (grp.getD s 0)
noncomputable def iJ(w:Nat)(m:dR):nc:=settle m w (m.length+2) (jc m)
theorem w8(ok:fU w m):uD w m (iJ w m)/\(iJ w m).wait=[]:=uE ok (uF ok) (by simp[jc];have:=ok.ne;lia)
noncomputable def fst(w:Nat)(m:dR)(s:Nat):Nat:=RU (iJ w m).grp s
theorem gi(ok:fU w m)(hs:s < m.length):fst w m s < m.length/\ik w m (fst w m s) m s/\∀t,t < m.length->ik w m s m t->fst w m t=fst w m s:=by
 obtain⟨c,hw⟩:=w8 ok;have gl:=c.1.rm;have e:(iJ w m).grp.getD s 0=(iJ w m).grp[s]'(by lia):=by rw[Xa,W6 (by lia)];rfl
 have mem:(iJ w m).grp.getD s 0∈(iJ w m).grp:=by rw[e];exact X6 _
 have lt:fst w m s < m.length:=by
  have:=YW mem;show List.idxOf _ _ < _
  lia
 have at_:(iJ w m).cL (fst w m s)=(iJ w m).cL s:=by show(iJ w m).grp.getD (fst w m s) 0=(iJ w m).grp.getD s 0;have h1:=YW mem;rw[Xa,W6 (show fst w m s < _ from h1)];show(iJ w m).grp[(iJ w m).grp.idxOf ((iJ w m).grp.getD s 0)]=_;exact List.getElem_idxOf h1
 refine⟨lt,(Au ok c hw lt hs).mp at_,λt ht q=>?_⟩;have:=(Au ok c hw hs ht).mpr q;show(iJ w m).grp.idxOf ((iJ w m).cL t)=(iJ w m).grp.idxOf ((iJ w m).cL s);rw[this]
noncomputable def dY(w:Nat)(m:dR)(s:Nat):List Nat:=(row m s).2.map (fst w m)
noncomputable def eE(w:Nat)(m:dR):List Nat:=places (dY w m) 1000000 (fst w m 0)
theorem w9 w m:∃M,M=ir (dY w m) (gd m) (eE w m):=⟨_,rfl⟩
noncomputable def fN(w:Nat)(m:dR):dR:=Classical.choose (w9 w m)
theorem fO w m:fN w m=ir (dY w m) (gd m) (eE w m):=Classical.choose_spec (w9 w m)
theorem Ax(ok:fU w m):∀p∈W7 m.length,∀q∈dY w m p,q∈W7 m.length:=λp hp q hq=>by rw[Ym] at hp ⊢;obtain⟨t,ht,rfl⟩:=YQ.mp hq;exact(gi ok (ok.lt _ (bZ hp) t ht)).1
theorem p4(ok:fU w m):∀p∈W7 m.length,(dY w m p).length=w:=λp hp=>by rw[Ym] at hp;unfold dY;rw[Xc];exact ok.len _ (bZ hp)
theorem mW(ok:fU w m)(hm:m.length < 1000000):Places w (dY w m) (gd m) (W7 m.length) (fst w m 0) (eE w m):=
 Es (Ym.mpr (gi ok ok.ne).1) (Ax ok) (p4 ok) (λp hp=>ok.good _ (bZ (Ym.mp hp))) (by rw[XX];lia)
theorem RV(ok:fU w m):∀{u} {s p},s < m.length->p < m.length->ik w m p m s->Wd w u->gd m (Hk (dY w m) p u)=gd m (walk m s u)
 |[],s,p,hs,hp,q,_=>q.good|a::u,s,p,hs,hp,q,hu=>by
  have ha:=hu.head;have hl:=ok.len _ (bZ hp);have e:(dY w m p)[a]?=Δ (fst w m (bH m p a)):=by unfold dY bH;rw[Xg,Xa,W6 (by lia)];rfl
  show gd m (Hk _ (((dY w m p)[a]?).getD p) u)=gd m (walk m (bH m s a) u);rw[e];obtain⟨f1,f2,_⟩:=gi ok (ok.bH hp ha);exact RV ok (ok.bH hs ha) f1 (f2.trans (q.step ha)) hu.tail
theorem mX(ok:fU w m)(hm:m.length < 1000000)(h:(eE w m)[i]?=Δ p):ik w (fN w m) i m p:=λu hu=>by have P:=mW ok hm;have hp:p < m.length:=Ym.mp (P.sub p (Xw h));rw[fO,show gd (ir (dY w m) (gd m) (eE w m)) (walk (ir (dY w m) (gd m) (eE w m)) i u)=gd m (Hk (dY w m) p u) from Di P (p4 ok) h hu];exact RV ok hp hp ik.refl hu
theorem B6(ok:fU w m)(hm:m.length < 1000000):(fN w m).length<=m.length:=by have P:=mW ok hm;rw[fO];show(aak _ _).length<=_;rw[Xc];have:=fM P.nd P.sub;rw[XX] at this;exact this
theorem j8(ok:fU w m)(hm:m.length < 1000000):jx w (fN w m)/\ik w (fN w m) 0 m 0:=by
 have P:=mW ok hm;have rep:∀p∈eE w m,fst w m p=p:=by
  have all:∀(n:Nat) (ps:List Nat) (k:Nat),(∀p∈ps,p < m.length/\fst w m p=p)->∀p∈yJ (dY w m) n ps k,p < m.length/\fst w m p=p:=by
   intro n;induction n with
   |zero=>intro ps k h;exact h|succ n ih=>
    intro ps k h;rw[yJ];split;·exact h
    ·rename_i p hp;refine ih _ _ λq hq=>?_;rcases dF.mp hq with z|z;·exact h q z
     ·obtain⟨t,ht,rfl⟩:=YQ.mp z;have Fw:=(h p (Xw hp)).1;have wC:=ok.lt _ (bZ Fw) t ht;obtain⟨f1,f2,f3⟩:=gi ok wC;exact⟨f1,f3 _ f1 f2.symm⟩
  intro p hp;obtain⟨f1,f2,f3⟩:=gi ok ok.ne;exact(all 1000000 [fst w m 0] 0 (λq hq=>by simp at hq;rw[hq];exact⟨f1,f3 _ f1 f2.symm⟩) p hp).2
 have Wp:(fN w m).length=(eE w m).length:=by rw[fO];exact Xc ..
 refine⟨⟨by rw[fO];exact P.ok,λs t hs ht q=>?_,by rw[fO];exact P.ord⟩,?_⟩
 ·have sM:s < (eE w m).length:=by lia
  have wC:t < (eE w m).length:=by lia
  have es:=W6 sM;have et:=W6 wC;have q1:ik w m (eE w m)[s] m (eE w m)[t]:=((mX ok hm es).symm.trans q).trans (mX ok hm et);have ps:=Ym.mp (P.sub _ (X6 sM));have pt:=Ym.mp (P.sub _ (X6 wC));have:=(gi ok ps).2.2 _ pt q1;rw[rep _ (X6 sM),rep _ (X6 wC)] at this;exact yq P.nd sM wC this.symm
 ·obtain⟨f1,f2,f3⟩:=gi ok ok.ne;exact(mX ok hm P.zero).trans f2
theorem Ay(h:jx w m)(hm:m.length < 1000000):fN w m=m:=by obtain⟨l1,s1⟩:=j8 h.ok hm;exact l1.one h s1
end
end Y
namespace Y
open PySem
noncomputable def encM(ss:List Nat):O:=.dK (ss.map λ(s:Nat)=>(.inl (s:Int),P.d (.bl Λ)))
def encL(ss:List Nat):O:=.lst (ss.map λs=>P.d (nD s))
def jB(bs:List Bool):O:=.lst (bs.map λb=>P.d (.bl b))
noncomputable def rg(b:Nat):List (Str×P):=[("sources",.obj b),("group_of",.obj (b+1)),("members",.obj (b+4)),("waiting",.obj (b+5)),("waits",.obj (b+6))]
def iu(b:Nat):O:=.ins "Groups" (rg b)
def Mad(b a:Nat):Prop:=a=b+2\/a=b+3\/b+7<=a
def EN(b:Nat)(mb:List Nat)(l:Nat):Prop:=b+7<=l/\l∉mb
structure HS(m:dR)(w b:Nat)(mb:List Nat)(st:aN)(h:nc):Prop where
 len:b+7<=st.length
 b0:0 < b
 self:st[0]?=Δ (iu b)
 src:∃outer:List Nat,st[b]?=Δ (.lst (outer.map P.obj))/\outer.length=w/\∀a,a < w->∃(o:Nat) (rows:List Nat),outer[a]?=Δ o/\0 < o/\o < b/\st[o]?=Δ (.lst (rows.map P.obj))/\∀t,t < m.length->∃l,rows[t]?=Δ l/\0 < l/\l < b/\st[l]?=Δ (encL (dJ m a t))
 grp:st[b+1]?=Δ (encL h.grp)
 Lk:st[b+4]?=Δ (.lst (mb.map P.obj))
 rn:mb.length=h.mem.length
 mem:∀g,g < h.mem.length->∃a,mb[g]?=Δ a/\Mad b a/\a < st.length/\st[a]?=Δ (encM (h.mem.getD g []))
 RW:mb.Nodup
 OY:st[b+5]?=Δ (encL h.wait)
 iD:st[b+6]?=Δ (jB h.iD)
section
variable{m:dR}{w b:Nat}{mb:List Nat}{st aM:aN}{h:nc}
theorem HS.mad(hs:HS m w b mb st h)(ha:a∈mb):Mad b a/\a < st.length:=by obtain⟨g,hg⟩:=abd ha;have hl:=(qqz hg).1;obtain⟨a',e,q,q2,_⟩:=hs.mem g (by rw[<-hs.rn];exact hl);rw[hg] at e;cases e;exact⟨q,q2⟩
theorem HS.keep(hs:HS m w b mb st h)(hl:st.length<=aM.length)(k:∀i,i < st.length->¬EN b mb i->aM[i]?=st[i]?):HS m w b mb aM h:=by
 have kk:∀i,i < b+7->aM[i]?=st[i]?:=λi hi=>k i (by have:=hs.len;lia) (λz=>by have:=z.1;lia);refine⟨by have:=hs.len;lia,hs.b0,by rw[kk 0 (by lia)];exact hs.self,?_,by rw[kk _ (by lia)];exact hs.grp,by rw[kk _ (by lia)];exact hs.Lk,hs.rn,λg hg=>?_,hs.RW,by rw[kk _ (by lia)];exact hs.OY,by rw[kk _ (by lia)];exact hs.iD⟩;·obtain⟨outer,e1,e2,e3⟩:=hs.src;refine⟨outer,by rw[kk _ (by lia)];exact e1,e2,λa ha=>?_⟩;obtain⟨o,rows,f1,f2,f3,f4,f5⟩:=e3 a ha;refine⟨o,rows,f1,f2,f3,by rw[kk _ (by lia)];exact f4,λt ht=>?_⟩;obtain⟨l,g1,g2,g3,g4⟩:=f5 t ht;exact⟨l,g1,g2,g3,by rw[kk _ (by lia)];exact g4⟩
 ·obtain⟨a,e1,e2,e3,e4⟩:=hs.mem g hg;exact⟨a,e1,e2,by lia,by rw[k a e3 (λz=>z.2 (Xw e1))];exact e4⟩
theorem HS.put(hs:HS m w b mb st h)(hl:EN b mb l)o:HS m w b mb (st.set l o) h:=hs.keep (by simp) λi hi ho=>W9 (λ(z:l=i)=>ho (z▸hl))
theorem Az(hs:st[0]?=Δ (iu b)):ph "Groups" st (.obj 0)=Δ (0,rg b):=by unfold ph;simp[hs,iu]
theorem cZ(hi:(r[i]?).join=Δ (.obj 0))(hs:st[0]?=Δ (iu b))(hf:(rg b).lookup f=Δ x):aa C (.attr "Groups" f i) r st=.ok x st:=by rw[C5,hi,az,ae,Az hs,Ye,hf,az]
theorem oz(hi:(r[i]?).join=Δ (.obj 0))(hs:st[0]?=Δ (iu b))(hf:(rg b).lookup f=Θ)(he:aF C es r st=.ok ps st1)(hc:C k (.obj 0::ps) st1=res):aa C (.pf k "Groups" f i es) r st=res:=by rw[JV,hi,az,ae,Az hs,Ye,hf];simp[he,hc]
theorem HS.RX(hs:HS m w b mb st h)g:HS m w b mb ((st.set (b+5) (encL (h.wait++[g]))).set (b+6) (jB (h.iD.set g Λ))) ⟨h.grp,h.mem,h.wait++[g],h.iD.set g Λ⟩:=by
 have hl:=hs.len;have g0:∀i,i≠b+5->i≠b+6->((st.set (b+5) (encL (h.wait++[g]))).set (b+6) (jB (h.iD.set g Λ)))[i]?=st[i]?:=λi h1 h2=>by rw[W9 (Yc h2),W9 (Yc h1)]
 refine⟨by simpa using hl,hs.b0,by rw[g0 0 (by lia) (by lia)];exact hs.self,?_,by rw[g0 _ (by lia) (by lia)];exact hs.grp,by rw[g0 _ (by lia) (by lia)];exact hs.Lk,hs.rn,λk hk=>?_,hs.RW,?_,?_⟩;·obtain⟨outer,e1,e2,e3⟩:=hs.src;refine⟨outer,by rw[g0 _ (by lia) (by lia)];exact e1,e2,λa ha=>?_⟩;obtain⟨o,rows,f1,f2,f3,f4,f5⟩:=e3 a ha;refine⟨o,rows,f1,f2,f3,by rw[g0 _ (by lia) (by lia)];exact f4,λt ht=>?_⟩;obtain⟨l,q1,q2,q3,q4⟩:=f5 t ht;exact⟨l,q1,q2,q3,by rw[g0 _ (by lia) (by lia)];exact q4⟩
 ·obtain⟨a,e1,e2,e3,e4⟩:=hs.mem k hk;refine⟨a,e1,e2,by simpa using e3,?_⟩;rw[g0 _ (by rcases e2 with z|z|z<;>lia) (by rcases e2 with z|z|z<;>lia)];exact e4
 ·rw[W9 (by lia),Xy (by lia)]
 ·rw[Xy (by simp;lia)]
end
theorem Hl{ss:List Nat}(h:s∈ss):e8 (ss.map λ(s:Nat)=>((.inl (s:Int):Sum Int Str),P.d (.bl Λ))) (.inl (s:Int))=Δ (.d (.bl Λ)):=by
 unfold e8;induction ss with
 |nil=>cases h|cons x ss ih=>
  rw[Xi,Yu];by_cases e:x=s;·subst e;simp
  ·have:decide ((.inl (x:Int):Sum Int Str)=.inl (s:Int))=Ξ:=by rw[decide_eq_false_iff_not];intro z;injection z with z;exact e (by lia)
   simp only[this];exact ih ((Zy.mp h).resolve_left λz=>e z.symm)
theorem Et(ss:List Nat)(s:Nat):v9 (ss.map λ(s:Nat)=>((.inl (s:Int):Sum Int Str),P.d (.bl Λ))) (.inl (s:Int))=(ss.filter λx=>decide (x≠s)).map λ(s:Nat)=>((.inl (s:Int):Sum Int Str),P.d (.bl Λ)):=by
 unfold v9;induction ss with
 |nil=>rfl|cons x ss ih=>
  rw[Xi];by_cases e:x=s;·subst e;rw[XU (by simp),XU (by simp)];exact ih
  ·rw[XH (by simp;lia),XH (by simp;exact e),Xi,ih]
theorem si{κ:Type}[DecidableEq κ]{kvs:List (κ×P)}{k:κ}(h:∀kv∈kvs,kv.1≠k):lV kvs k v=kvs++[(k,v)]:=by
 unfold lV;have:(kvs.any λkv=>decide (kv.1=k))=Ξ:=by rw[abI];intro kv qv;simpa using h kv qv
 rw[this];simp
theorem Hm(h:st[a]?=Δ (encM ss)):bE st (.obj a)=Δ (encM ss):=by unfold bE D5;simp[h,encM,jn]
theorem Hn(h:st[a]?=Δ (encM ss))(hs:s∈ss):Gk (.obj a) (.d (nD s)) st=Δ (.d (.bl Λ),st.set a (encM (ss.filter λx=>decide (x≠s)))):=by have hk:keyOf (.d (nD s))=Δ (.inl (s:Int)):=rfl;unfold Gk;simp only[h,encM,hk,Ye,Hl hs,Et,XM]
theorem uH(h:st[a]?=Δ (encM ss))(hs:s∉ss)(hl:ss.length < aw):nQ (.obj a) (.d (nD s)) (.d (.bl Λ)) st=Δ (st.set a (encM (ss++[s]))):=by
 have hk:keyOf (.d (nD s))=Δ (.inl (s:Int)):=rfl;have hp:lV (ss.map λ(s:Nat)=>((.inl (s:Int):Sum Int Str),P.d (.bl Λ))) (.inl (s:Int)) (P.d (.bl Λ))=(ss++[s]).map λ(s:Nat)=>((.inl (s:Int):Sum Int Str),P.d (.bl Λ)):=by
  rw[si,X2];·rfl
  ·intro kv qv;obtain⟨x,hx,rfl⟩:=YQ.mp qv;intro z;injection z with z;exact hs ((show x=s by lia)▸hx)
 unfold nQ;simp only[h,Ye,encM,zy,CD,Xc,hl,if_true,hk,XM,hp]
theorem AA{l:List Nat}{ss:List Nat}(h:ss[i]?=Δ s):((l.filter λx=>decide (x∉ss.take i)).filter λx=>decide (x≠s))=l.filter λx=>decide (x∉ss.take (i+1)):=by
 rw[List.filter_filter];congr 1;funext x;have e:ss.take (i+1)=ss.take i++[s]:=by rw[Y2,h];rfl
 rw[e];by_cases h1:x=s<;>by_cases h2:x∈ss.take i<;>simp[aaA,h1,h2]
theorem AB{fresh:Nat}{ss g:List Nat}(h:ss[i]?=Δ s):(putAll fresh (ss.take i) g).set s fresh=putAll fresh (ss.take (i+1)) g:=by
 have e:ss.take (i+1)=ss.take i++[s]:=by rw[Y2,h];rfl
 rw[e];unfold putAll;rw[ZT];rfl
theorem AD{ss:List Nat}(hn:ss.Nodup)(h:ss[i]?=Δ s):s∉ss.take i:=by
 obtain⟨hi,e⟩:=qqz h;intro hm;obtain⟨j,hj,e2⟩:=List.getElem_of_mem hm;rw[List.getElem_take] at e2;have SS:j < i:=by simp at hj;lia
 have:=yq hn (i:=j) (j:=i) (by lia) hi (e2.trans e.symm)
 lia
abbrev Ll:=Nat×List Nat×Nat
noncomputable def u9(dl:List Ll):List (Sum Int Str×P):=dl.map λt=>(.inl (t.1:Int),P.obj t.2.2)
structure GS(grp:List Nat)(D0:Nat)(st s:aN)(done:List Nat)(dl:List Ll):Prop where
 proj:dl.map (λt=>(t.1,t.2.1))=cE grp done
 qK:s[D0]?=Δ (.dK (u9 dl))
 at_:∀t∈dl,D0 < t.2.2/\t.2.2 < s.length/\s[t.2.2]?=Δ (encL t.2.1)
 nd:(dl.map λt=>t.2.2).Nodup
 pre:∀i,i < D0->s[i]?=st[i]?
 len:D0 < s.length
theorem xa:∀{dl:List Ll},g∈dl.map (·.1)->∃l1 ss a l2,dl=l1++(g,ss,a)::l2/\∀t∈l1,t.1≠g
 |[],h=>by cases h|(k,ss,a)::dl,h=>by
  by_cases e:k=g;·subst e;exact⟨[],ss,a,dl,rfl,λ_ z=>nomatch z⟩
  ·rw[Xi] at h;obtain⟨l1,J3,a',l2,e2,h2⟩:=xa ((Zy.mp h).resolve_left λz=>e z.symm);refine⟨(k,ss,a)::l1,J3,a',l2,by rw[e2];rfl,λt ht=>?_⟩;rcases Zy.mp ht with z|z;·rw[z];exact e
   ·exact h2 t z
theorem qL:∀{l1 l2},(∀t∈l1,t.1≠g)->dD (l1++(g,ss)::l2) g x=l1++(g,ss++[x])::l2
 |[],l2,_=>by simp[dD]|(k,r)::l1,l2,h=>by have hk:k≠g:=h (k,r) W8;rw[YU,dD,if_neg hk,qL λt ht=>h t (W5 _ ht)];rfl
theorem uI:∀{l},(∀t∈l,t.1≠g)->dD l g x=l++[(g,[x])]
 |[],_=>by simp[dD]|(k,r)::l,h=>by have hk:k≠g:=h (k,r) W8;rw[dD,if_neg hk,uI λt ht=>h t (W5 _ ht)];rfl
theorem Eu{ss:List Nat}{l1 l2:List Ll}(h:∀t∈l1,t.1≠g):e8 (u9 (l1++(g,ss,a)::l2)) (.inl (g:Int))=Δ (.obj a):=by
 unfold e8 u9;rw[X2,List.find?_append];have:(l1.map λt:Ll=>((.inl (t.1:Int):Sum Int Str),P.obj t.2.2)).find? (λkv=>decide (kv.1=.inl (g:Int)))=Θ:=by
  rw[abx];intro kv qv;obtain⟨t,ht,rfl⟩:=YQ.mp qv;have:=h t ht;simp
  lia
 rw[this];simp
theorem Ho{g:Nat}(h:g∉dl.map (·.1)):e8 (u9 dl) (.inl (g:Int))=Θ:=by
 unfold e8 u9;have:(dl.map λt:Ll=>((.inl (t.1:Int):Sum Int Str),P.obj t.2.2)).find? (λkv=>decide (kv.1=.inl (g:Int)))=Θ:=by
  rw[abx];intro kv qv;obtain⟨t,ht,rfl⟩:=YQ.mp qv;have:t.1≠g:=λz=>h (YQ.mpr ⟨t,ht,z⟩);simp
  lia
 rw[this];rfl
theorem GS.next(G:GS grp D0 st s done dl)(hl:dl.length < aw)(hd:done.length < aw):
  ∃v its s1 s2 Og,qx (.obj D0) (.d (nD (grp.getD x 0))) (.obj s.length) (s++[O.lst []])=Δ (v,s1)/\bY s1 v=Δ its/\xM v (.d (nD x)) s1=Δ s2/\GS grp D0 st s2 (done++[x]) Og:=by
 have qg:cE grp (done++[x])=dD (cE grp done) (grp.getD x 0) x:=by unfold cE;rw[ZT];rfl
 have hk:keyOf (.d (nD (grp.getD x 0)))=Δ (.inl ((grp.getD x 0:Nat):Int)):=rfl;have hlen:=G.len;have hD:(s++[O.lst []])[D0]?=Δ (.dK (u9 dl)):=by rw[Xb hlen];exact G.qK
 have hkl:(u9 dl).length < aw:=by unfold u9;simpa using hl
 generalize hg:grp.getD x 0=g at*;by_cases uJ:g∈dl.map (·.1)
 ·obtain⟨l1,ss,a,l2,rfl,h1⟩:=xa uJ;obtain⟨a1,a2,a3⟩:=G.at_ (g,ss,a) (by simp);dsimp only at a1 a2 a3;have ssl:ss.length<=done.length:=by
   have:(g,ss)∈cE grp done:=by rw[<-G.proj];exact YQ.mpr ⟨(g,ss,a),by simp,rfl⟩
   have:=((dX grp done).2.1 g ss this).1;rw[this];exact ZJ _ _
  have ha:(s++[O.lst []])[a]?=Δ (encL ss):=by rw[Xb a2];exact a3
  refine⟨.obj a,ss.map λs=>P.d (nD s),s++[O.lst []],(s++[O.lst []]).set a (encL (ss++[x])),l1++(g,ss++[x],a)::l2,?_,gS ha,?_,?_⟩;·unfold qx;simp only[hD,hkl,if_true,hk,XM,Eu h1]
  ·rw[iS ha (by simp;lia)];simp[encL]
  ·have Er:=G.nd;rw[X2,Xi,X5] at Er;refine⟨?_,?_,λt ht=>?_,by rw[X2,Xi,X5];exact Er,λi hi=>?_,by simp;lia⟩;·rw[qg,<-G.proj,X2,Xi,X2,Xi,qL];intro t ht;obtain⟨t',wC,rfl⟩:=YQ.mp ht;exact h1 t' wC
   ·rw[W9 (by lia),hD];unfold u9;simp
   ·by_cases ta:t.2.2=a
    ·have:t=(g,ss++[x],a):=by
      rcases aaA.mp ht with z|z;·exact absurd ta (Er.2.2 _ (YQ.mpr ⟨t,z,rfl⟩) _ W8)
      ·rcases Zy.mp z with z|z;·exact z
       ·rw[YC] at Er;exact absurd (YQ.mpr ⟨t,z,ta⟩) Er.2.1.1
     subst this;refine⟨a1,by simp;lia,?_⟩;rw[Xy (by simp;lia)]
    ·have wC:t∈l1++(g,ss,a)::l2:=by
      rcases aaA.mp ht with z|z;·exact Yo _ z
      ·rcases Zy.mp z with z|z;·rw[z] at ta;exact absurd rfl ta
       ·exact XF _ (W5 _ z)
     obtain⟨b1,b2,b3⟩:=G.at_ t wC;exact⟨b1,by simp;lia,by rw[W9 (Yc ta),Xb b2];exact b3⟩
   ·rw[W9 (by lia),Xb (by lia)];exact G.pre i hi
 ·have hm:∀t∈cE grp done,t.1≠g:=λt ht z=>uJ (by rw[<-G.proj] at ht;obtain⟨t',wC,rfl⟩:=YQ.mp ht;exact YQ.mpr ⟨t',wC,z⟩);have Wq:lV (u9 dl) (.inl (g:Int)) (.obj s.length)=u9 (dl++[(g,[x],s.length)]):=by
   rw[si];·unfold u9;simp
   ·intro kv qv;obtain⟨t,ht,rfl⟩:=YQ.mp qv;intro z;injection z with z;exact uJ (YQ.mpr ⟨t,ht,by lia⟩)
  have Lm:((s++[O.lst []]).set D0 (.dK (u9 (dl++[(g,[x],s.length)]))))[s.length]?=Δ (.lst []):=by rw[W9 (by lia)];simp
  refine⟨.obj s.length,[],(s++[O.lst []]).set D0 (.dK (u9 (dl++[(g,[x],s.length)]))),((s++[O.lst []]).set D0 (.dK (u9 (dl++[(g,[x],s.length)])))).set s.length (encL [x]),dl++[(g,[x],s.length)],?_,gS Lm,?_,?_⟩;·unfold qx;simp only[hD,hkl,if_true,hk,XM,Ho uJ,Wq]
  ·rw[iS Lm (by simp[aw])];simp[encL]
  ·refine⟨?_,?_,λt ht=>?_,?_,λi hi=>?_,by simp;lia⟩;·rw[qg,<-G.proj,uI (by rw[G.proj];exact hm),X2];rfl
   ·rw[W9 (by lia),Xy (by simp;lia)]
   ·rcases aaA.mp ht with z|z;·obtain⟨b1,b2,b3⟩:=G.at_ t z;exact⟨b1,by simp;lia,by rw[W9 (by lia),W9 (by lia),Xb b2];exact b3⟩
    ·rw[Yz] at z;subst z;exact⟨hlen,by simp,by rw[Xy (by simp)]⟩
   ·rw[X2,X5];refine⟨G.nd,by simp,λp hp q hq=>?_⟩;simp at hq;subst hq;obtain⟨t,ht,rfl⟩:=YQ.mp hp;have:=(G.at_ t ht).2.1
    lia
   ·rw[W9 (by lia),W9 (by lia),Xb (by lia)];exact G.pre i hi
structure RY(α:Type)[DecidableEq α] where
 enc:α->D
 qK:List α->O
 Tp:∀ps,jn (qK ps)=Λ
 lit:∀a,IZ (.d (enc a)) (.d (.int 0))=Δ (qK [a])
 get:∀ps a,ps.Nodup->nO (qK ps) (.d (enc a))=Δ (if a∈ps then Δ (.d (nD (ps.idxOf a))) else Θ)
 put:∀ps a,a∉ps->ps.length < aw->CD (qK ps) (.d (enc a)) (.d (nD ps.length))=Δ (qK (ps++[a]))
theorem AE{α κ:Type}[DecidableEq α][DecidableEq κ]{f:α->κ}(hf:∀a b,f a=f b->a=b):∀(ps:List α) (k) (a),e8 (ps.zipIdx k |>.map λq=>(f q.1,P.d (nD q.2))) (f a)=if a∈ps then Δ (.d (nD (k+ps.idxOf a))) else Θ
 |[],k,a=>by simp[e8]|x::ps,k,a=>by
  have ih:=AE hf ps (k+1) a;unfold e8 at ih ⊢;rw[abW,Xi,Yu];by_cases e:x=a;·subst e;simp
  ·have h1:decide (f x=f a)=Ξ:=decide_eq_false λz=>e (hf _ _ z);simp only[h1];rw[ih];have h2:(x==a)=Ξ:=by simpa using e
   have h3:a≠x:=λz=>e z.symm;by_cases uJ:a∈ps;·rw[if_pos uJ,if_pos (W5 _ uJ),List.idxOf_cons,h2];simp only[cond_false];congr 3;lia
   ·rw[if_neg uJ,if_neg (λz=>(Zy.mp z).elim h3 uJ)]
theorem Kj{α κ:Type}[DecidableEq α][DecidableEq κ]{f:α->κ}(hf:∀a b,f a=f b->a=b){ps:List α}{a:α}(h:a∉ps):lV (ps.zipIdx.map λq=>(f q.1,P.d (nD q.2))) (f a) (.d (nD ps.length))=(ps++[a]).zipIdx.map λq=>(f q.1,P.d (nD q.2)):=by
 rw[si];·rw[List.zipIdx_append,X2];simp
 ·intro kv qv;obtain⟨q,hq,rfl⟩:=YQ.mp qv;intro z;have:=hf _ _ z;have yR:q.1∈ps:=by obtain⟨x,i⟩:=q;have:=List.mem_zipIdx' hq;rw[this.2];exact X6 _
  exact h (this▸yR)
def B7(n:Nat):Sum Int Str:=.inl (n:Int)
theorem AF a b(h:B7 a=B7 b):a=b:=by unfold B7 at h;injection h with h;lia
def Wr:RY Nat where
 enc:=nD
 qK:=λps=>.dK (ps.zipIdx.map λq=>(B7 q.1,P.d (nD q.2)))
 Tp:=λ_=>rfl
 lit:=λa=>rfl
 get:=λps a _=>by show(keyOf (.d (nD a))).map _=_;have:keyOf (.d (nD a))=Δ (B7 a):=rfl;rw[this,XM];congr 1;have:=AE AF ps 0 a;simpa using this
 put:=λps a h hl=>by show(if(ps.zipIdx.map λq=>(B7 q.1,P.d (nD q.2))).length < aw then(keyOf (.d (nD a))).map _ else Θ)=_;have:keyOf (.d (nD a))=Δ (B7 a):=rfl;rw[if_pos (by simpa using hl),this,XM,Kj AF h]
end Y
namespace Y
section
variable{α:Type}[DecidableEq α]{step:α->List α}{good:α->Nat}
end
end Y
namespace Y
open PySem
theorem Oh u:lU (wD u)<=1:=by
 have:∀u:List Nat,ki (u.map nD)=0:=λu=>by induction u with|nil=>rfl|cons x u ih=>rw[Xi,xI,ih];rfl
 unfold wD;rw[ML,this];exact Xd _
theorem Hq m:lU (mD m)<=3:=by
 have:∀m:dR,ki (m.map gf)<=2:=λm=>by
  induction m with
  |nil=>exact Yj _|cons s m ih=>
   rw[Xi,xI];have h:=Oh s.2;have h2:lU (gf s)<=2:=by unfold gf;exact Nat.succ_le_succ (Nat.max_le.mpr ⟨Yj _,Nat.max_le.mpr ⟨h,Yj _⟩⟩)
   exact Nat.max_le.mpr ⟨h2,ih⟩
 exact Nat.succ_le_succ (this m)
end Y
namespace OZ
open PySem Y
noncomputable def lp:List S:=[.app (.ix (.var 2) (.ix (.ix (.var 4) (.cst (.int 1))) (.var 1))) (.var 3)]
def gW:Fn:={np:=2,nn:=5,sh:=Λ,body:=[.set 2 (.lst Λ (.comp (.ex (.var 0)) 1 [] Θ (.lst Λ (.e7 [])))),
  .iF (.two 3 4) (.enum (.var 0)) lp,
  .ret (.var 2)]}
def jC:List S:=[.expr (.sW (.var 2) (.var 4) (.var 3))]
def fe:Fn:={np:=1,nn:=5,body:=[.set 1 (.make 21 "Groups" [.var 0]),
  .expr (.pf 25 "Groups" "settle" 1 []),
  .set 2 (.pd Ξ),
  .jb 3 4 (.attr "Groups" "group_of" 1) jC,
  .ret (.lst Ξ (.cw (.attr "Groups" "group_of" 1) [2] Θ (.ix (.var 1) (.var 0))))]}
def cF:Fn:={np:=2,nn:=2,body:=[.ret (.and [.sV (.var 0) "int",.not (.sV (.var 0) "bool"),.chain .le .lt (.cst (.int 0)) (.var 0) (.var 1)])]}
def bX:Fn:={np:=2,nn:=2,body:=[.ret (.and [.sV (.var 0) "tuple",.bf .all [.lst Ξ (.comp (.ex (.var 0)) 1 [1] Θ (.call 2 [.var 0,.var 1]))]])]}
def cq:Fn:={np:=3,nn:=3,body:=[.ifs (.or [.not (.sV (.var 0) "tuple"),.cmp .ne (.bf .len [.var 0]) (.cst (.int 2))]) [.ret (.cst (.bl Ξ))] [],
  .ret (.and [.call 2 [.ix (.var 0) (.cst (.int 0)),.cst (.int 2)],.call 3 [.ix (.var 0) (.cst (.int 1)),.var 2],.cmp .eq (.bf .len [.ix (.var 0) (.cst (.int 1))]) (.var 1)])]}
def c0:Fn:={np:=2,nn:=2,body:=[.ifs (.or [.not (.sV (.var 0) "tuple"),.cmp .eq (.bf .len [.var 0]) (.cst (.int 0))]) [.ret (.cst (.bl Ξ))] [],
  .ret (.bf .all [.lst Ξ (.comp (.ex (.var 0)) 1 [1,0] Θ (.call 4 [.var 0,.var 1,.bf .len [.var 2]]))])]}
noncomputable def dM:List S:=[.ifs (.cmp .nM (.var 8) (.var 3)) [.put (.var 3) (.var 8) (.bf .len [.var 4]),
  .app (.var 4) (.var 8)] []]
def jD:List S:=[.set 6 (.ix (.var 4) (.bf .len [.var 5])),
  .set 7 (.nN 1 [.var 6]),
  .iF (.nm 8) (.ex (.var 7)) dM,
  .app (.var 5) (.tup [.nN 2 [.var 6],.bf .tuple [.lst Ξ (.comp (.ex (.var 7)) 1 [3] Θ (.ix (.var 1) (.var 0)))]])]
def cR:Fn:={np:=3,nn:=9,body:=[.set 3 (.D3 (.var 0) (.int 0)),
  .set 4 (.lst Λ (.e7 [.var 0])),
  .set 5 (.lst Λ (.e7 [])),
  .kN (.cmp .lt (.bf .len [.var 5]) (.bf .len [.var 4])) jD,
  .ret (.bf .tuple [.var 5])]}
def oA:Fn:={np:=1,nn:=3,body:=[.set 1 (.iP 1 [.var 0] [(26,[1,0]),(27,[0])]),
  .nK 2 26,
  .ret (.iP 6 [.ix (.var 1) (.cst (.int 0)),.var 2,.lam 27] [(26,[1,0]),(27,[0])])]}
def iw:Fn:={np:=2,nn:=2,body:=[.ret (.and [.call 5 [.var 0,.var 1],.cmp .eq (.call 7 [.var 0]) (.var 0)])]}
def cT:Fn:={np:=2,nn:=2,body:=[.ifs (.cmp .lt (.var 1) (.bf .len [.var 0])) [.ret (.ix (.var 0) (.var 1))] [],
  .ret (.cst (.int 0))]}
def ff:Fn:={np:=2,nn:=3,body:=[.set 2 (.op .mod (.op .mul (.op .add (.op .add (.call 9 [.var 0,.var 1]) (.op .mul (.cst (.int 7919)) (.var 1))) (.cst (.int 1))) (.cst (.int 48271))) (.cst (.int 2147483647))),
  .ret (.op .mod (.op .add (.op .add (.op .mul (.var 2) (.var 2)) (.op .mul (.cst (.int 7)) (.var 2))) (.var 1)) (.cst (.int 2147483629)))]}
def fg:Fn:={np:=2,nn:=3,body:=[.set 2 (.op .mod (.op .mul (.op .add (.op .add (.var 0) (.op .mul (.cst (.int 104729)) (.var 1))) (.cst (.int 17))) (.cst (.int 69621))) (.cst (.int 2147483647))),
  .ret (.op .mod (.op .add (.op .add (.op .mul (.var 2) (.var 2)) (.op .mul (.cst (.int 3)) (.var 2))) (.var 1)) (.cst (.int 2147483629)))]}
noncomputable def fP:List S:=[.set 6 (.bf .tuple [.lst Ξ (.comp (.iB [.var 1]) 1 [3,0,5] Θ (.op .mod (.call 11 [.var 2,.op .add (.op .mul (.cst (.int 7)) (.var 3)) (.var 0)]) (.var 1)))]),
  .app (.var 4) (.tup [.op .mod (.op .mod (.call 11 [.var 0,.op .add (.op .mul (.cst (.int 7)) (.var 5)) (.cst (.int 5))]) (.cst (.int 3))) (.cst (.int 2)),.var 6])]
def cU:Fn:={np:=3,nn:=7,body:=[.set 3 (.op .add (.cst (.int 1)) (.op .mod (.var 0) (.var 2))),
  .set 4 (.lst Λ (.e7 [])),
  .iF (.nm 5) (.iB [.var 3]) fP,
  .ret (.bf .tuple [.var 4])]}
def dZ:Fn:={np:=2,nn:=2,body:=[.ret (.and [.sV (.var 0) "int",.not (.sV (.var 0) "bool"),.chain .le .le (.cst (.int 0)) (.var 0) (.var 1)])]}
noncomputable def cM:List S:=[.ifs (.or [.not (.sV (.var 2) "tuple"),.cmp .ne (.bf .len [.var 2]) (.cst (.int 2)),.not (.call 13 [.ix (.var 2) (.cst (.int 0)),.cst (.int 1)])]) [.ret (.cst (.bl Ξ))] [],
  .ifs (.or [.not (.sV (.ix (.var 2) (.cst (.int 1))) "tuple"),.cmp .ne (.bf .len [.ix (.var 2) (.cst (.int 1))]) (.var 1)]) [.ret (.cst (.bl Ξ))] [],
  .ifs (.cmp .ne (.lst Ξ (.comp (.ex (.ix (.var 2) (.cst (.int 1)))) 1 [0] (Δ (.not (.call 13 [.var 0,.op .sub (.bf .len [.var 1]) (.cst (.int 1))]))) (.var 0))) (.lst Ξ (.e7 []))) [.ret (.cst (.bl Ξ))] []]
def bh:Fn:={np:=2,nn:=3,body:=[.ifs (.or [.not (.sV (.var 0) "tuple"),.cmp .eq (.var 0) (.tup [])]) [.ret (.cst (.bl Ξ))] [],
  .iF (.nm 2) (.ex (.var 0)) cM,
  .ret (.cst (.bl Λ))]}
noncomputable def gy:List S:=[.ifs (.cmp .ne (.ix (.ix (.var 0) (.var 3)) (.cst (.int 0))) (.ix (.ix (.var 0) (.var 4)) (.cst (.int 0)))) [.put (.var 2) (.tup [.var 3,.var 4]) (.cst (.bl Λ))] []]
def gz:List S:=[.iF (.nm 4) (.iB [.var 1]) gy]
noncomputable def gD:List S:=[.set 6 (.lst Ξ (.zip (.ix (.ix (.var 0) (.var 3)) (.cst (.int 1))) (.ix (.ix (.var 0) (.var 4)) (.cst (.int 1))))),
  .ifs (.bf .any [.lst Ξ (.comp (.ex (.var 6)) 1 [2] Θ (.cmp .isin (.var 0) (.var 1)))]) [.put (.var 2) (.tup [.var 3,.var 4]) (.cst (.bl Λ))] []]
def gE:List S:=[.iF (.nm 4) (.iB [.var 1]) gD]
def gF:List S:=[.iF (.nm 3) (.iB [.var 1]) gE]
def eh:Fn:={np:=1,nn:=7,sh:=Λ,body:=[.set 1 (.bf .len [.var 0]),
  .set 2 (.pd Λ),
  .iF (.nm 3) (.iB [.var 1]) gz,
  .iF (.nm 5) (.iB [.var 1]) gF,
  .ret (.var 2)]}
noncomputable def dy:List S:=[.ifs (.cmp .nM (.var 4) (.var 2)) [.app (.var 2) (.var 4)] []]
def bG:List S:=[.ifs (.cmp .ge (.var 3) (.bf .len [.var 2])) [.ret (.cst (.bl Ξ))] [],
  .iF (.nm 4) (.ex (.ix (.ix (.var 0) (.ix (.var 2) (.var 3))) (.cst (.int 1)))) dy]
def cB:Fn:={np:=2,nn:=6,body:=[.ifs (.not (.call 14 [.var 0,.var 1])) [.ret (.cst (.bl Ξ))] [],
  .set 2 (.lst Λ (.e7 [.cst (.int 0)])),
  .iF (.nm 3) (.iB [.bf .len [.var 0]]) bG,
  .ifs (.cmp .ne (.var 2) (.lst Ξ (.iB [.bf .len [.var 0]]))) [.ret (.cst (.bl Ξ))] [],
  .set 5 (.call 15 [.var 0]),
  .ret (.cmp .eq (.bf .len [.var 5]) (.op .sub (.op .mul (.bf .len [.var 0]) (.bf .len [.var 0])) (.bf .len [.var 0])))]}
def iy:Fn:={np:=1,nn:=2,body:=[.set 1 (.lst Ξ (.e7 [.neg (.cst (.int 1)),.cst (.int 0),.cst (.int 1),.cst (.int 2),.cst (.int 3),.cst (.bl Λ),.cst (.bl Ξ),.cst .bu,.cst (.str ""),.cst (.str "a"),.cst (.str "none"),.cst (.str "empty"),.cst (.str "any"),.cst (.str "then"),.cst (.str "not"),.tup [],.lst Ξ (.e7 []),.tup [.cst (.int 0)],.tup [.cst (.int 1),.tup [.cst (.int 0)]]])),
  .ret (.ix (.op .add (.var 1) (.lst Ξ (.e7 [.tup [.cst (.str "none")],.tup [.cst (.str "letter"),.cst (.int 0)],.tup [.cst (.str "letter"),.cst (.bl Λ)],.tup [.cst (.str "any"),.cst (.int 0)],.tup [.cst (.str "not")]]))) (.op .mod (.var 0) (.cst (.int 24))))]}
def au:Fn:={np:=3,nn:=5,body:=[.ifs (.and [.cmp .gt (.var 2) (.cst (.int 0)),.sV (.var 0) "tuple",.cmp .gt (.bf .len [.var 0]) (.cst (.int 0)),.cmp .gt (.op .mod (.var 1) (.cst (.int 6))) (.cst (.int 0))]) [.set 3 (.op .mod (.op .fdiv (.var 1) (.cst (.int 6))) (.bf .len [.var 0])),
  .set 4 (.call 18 [.ix (.var 0) (.var 3),.op .fdiv (.op .fdiv (.var 1) (.cst (.int 6))) (.bf .len [.var 0]),.op .sub (.var 2) (.cst (.int 1))]),
  .ret (.op .add (.op .add (.slice (.var 0) Θ (Δ (.var 3))) (.tup [.var 4])) (.slice (.var 0) (Δ (.op .add (.var 3) (.cst (.int 1)))) Θ))] [],
  .ifs (.and [.sV (.var 0) "tuple",.cmp .gt (.bf .len [.var 0]) (.cst (.int 0)),.cmp .eq (.op .mod (.op .fdiv (.var 1) (.cst (.int 6))) (.cst (.int 2))) (.cst (.int 0))]) [.ret (.ix (.lst Ξ (.e7 [.lst Ξ (.list (.var 0)),.slice (.var 0) Θ (Δ (.neg (.cst (.int 1)))),.op .add (.var 0) (.slice (.var 0) (Δ (.neg (.cst (.int 1)))) Θ),.slice (.var 0) (Δ (.cst (.int 1))) Θ,.rev (.var 0),.op .mul (.var 0) (.cst (.int 2))])) (.op .mod (.op .fdiv (.var 1) (.cst (.int 12))) (.cst (.int 6))))] [],
  .ifs (.and [.sV (.var 0) "int",.cmp .eq (.op .mod (.op .fdiv (.var 1) (.cst (.int 6))) (.cst (.int 2))) (.cst (.int 0))]) [.ret (.ix (.lst Ξ (.e7 [.bf .str [.var 0],.neg (.var 0),.op .add (.var 0) (.cst (.int 1)),.cmp .eq (.var 0) (.cst (.int 1)),.op .add (.var 0) (.cst (.int 2))])) (.op .mod (.op .fdiv (.var 1) (.cst (.int 12))) (.cst (.int 5))))] [],
  .ret (.call 17 [.op .fdiv (.var 1) (.cst (.int 6))])]}
def iU:Fn:={np:=2,nn:=2,body:=[.ret (.and [.sV (.var 0) "bool",.cmp .eq (.var 0) (.var 1)])]}
def xb:Fn:={np:=1,nn:=4,body:=[.set 1 (.op .add (.cst (.int 1)) (.op .mod (.call 10 [.var 0,.cst (.int 0)]) (.cst (.int 3)))),
  .set 2 (.bf .min2 [.cst (.int 3),.bf .max2 [.cst (.int 1),.op .add (.var 1) (.ix (.tup [.cst (.int 0),.cst (.int 0),.cst (.int 0),.cst (.int 1),.neg (.cst (.int 1))]) (.op .mod (.op .fdiv (.call 10 [.var 0,.cst (.int 0)]) (.cst (.int 3))) (.cst (.int 5))))]]),
  .set 3 (.call 12 [.call 10 [.var 0,.cst (.int 1)],.var 1,.cst (.int 6)]),
  .ifs (.cmp .eq (.op .mod (.call 10 [.var 0,.cst (.int 2)]) (.cst (.int 2))) (.cst (.int 1))) [.set 3 (.call 7 [.var 3])] [],
  .ifs (.cmp .eq (.op .mod (.op .fdiv (.call 10 [.var 0,.cst (.int 2)]) (.cst (.int 2))) (.cst (.int 3))) (.cst (.int 1))) [.set 3 (.call 18 [.var 3,.call 10 [.var 0,.cst (.int 3)],.op .mod (.op .fdiv (.call 10 [.var 0,.cst (.int 2)]) (.cst (.int 6))) (.cst (.int 4))])] [],
  .ifs (.not (.call 19 [.call 5 [.var 3,.var 2],.call 14 [.var 3,.var 2]])) [.ret (.cst (.bl Ξ))] [],
  .ret (.call 19 [.call 8 [.var 3,.var 2],.call 16 [.var 3,.var 2]])]}
noncomputable def gL:List S:=[.put (.ix (.attr "Groups" "members" 0) (.ix (.var 3) (.cst (.int 0)))) (.var 2) (.cst (.bl Λ))]
def fh:Fn:={np:=2,nn:=4,sh:=Λ,body:=[.lT "Groups" "sources" 0 (.lst Λ (.comp (.iB [.bf .len [.ix (.ix (.var 1) (.cst (.int 0))) (.cst (.int 1))]]) 1 [1] Θ (.call 0 [.var 1,.var 0]))),
  .lT "Groups" "group_of" 0 (.lst Λ (.comp (.ex (.var 1)) 1 [] Θ (.ix (.var 0) (.cst (.int 0))))),
  .lT "Groups" "members" 0 (.lst Λ (.e7 [.pd Ξ,.pd Ξ])),
  .iF (.two 2 3) (.enum (.var 1)) gL,
  .lT "Groups" "waiting" 0 (.lst Λ (.e7 [.cst (.int 0),.cst (.int 1)])),
  .lT "Groups" "waits" 0 (.lst Λ (.e7 [.cst (.bl Λ),.cst (.bl Λ)]))]}
def cH:Fn:={np:=2,nn:=2,sh:=Λ,body:=[.app (.attr "Groups" "waiting" 0) (.var 1),
  .put (.attr "Groups" "waits" 0) (.var 1) (.cst (.bl Λ))]}
noncomputable def gj:List S:=[.expr (.DY (.var 3) (.var 5)),
  .put (.ix (.attr "Groups" "members" 0) (.var 4)) (.var 5) (.cst (.bl Λ)),
  .put (.attr "Groups" "group_of" 0) (.var 5) (.var 4)]
def bw:Fn:={np:=3,nn:=6,sh:=Λ,body:=[.set 3 (.ix (.attr "Groups" "members" 0) (.var 1)),
  .ifs (.cmp .eq (.bf .len [.var 2]) (.bf .len [.var 3])) [.D4] [],
  .set 4 (.bf .len [.attr "Groups" "members" 0]),
  .app (.attr "Groups" "members" 0) (.pd Ξ),
  .app (.attr "Groups" "waits" 0) (.cst (.bl Ξ)),
  .iG (.nm 5) (.var 2) gj,
  .ifs (.or [.ix (.attr "Groups" "waits" 0) (.var 1),.cmp .le (.bf .len [.var 2]) (.bf .len [.var 3])]) [.expr (.pf 22 "Groups" "let_wait" 0 [.var 4])] [.expr (.pf 22 "Groups" "let_wait" 0 [.var 1])]]}
noncomputable def cV:List S:=[.app (.sW (.var 3) (.ix (.attr "Groups" "group_of" 0) (.var 5)) (.lst Λ (.e7 []))) (.var 5)]
def cW:List S:=[.iG (.nm 5) (.ix (.ix (.attr "Groups" "sources" 0) (.var 2)) (.var 4)) cV]
def eW:List S:=[.expr (.pf 23 "Groups" "set_apart" 0 [.var 6,.var 7])]
def cu:Fn:={np:=3,nn:=8,sh:=Λ,body:=[.set 3 (.pd Ξ),
  .iF (.nm 4) (.ex (.var 1)) cW,
  .BJ 6 7 (.var 3) eW]}
noncomputable def iV:List S:=[.expr (.pf 24 "Groups" "set_apart_by" 0 [.var 2,.var 3])]
def fi:List S:=[.set 1 (.DZ (.attr "Groups" "waiting" 0)),
  .put (.attr "Groups" "waits" 0) (.var 1) (.cst (.bl Ξ)),
  .set 2 (.lst Ξ (.keys (.ix (.attr "Groups" "members" 0) (.var 1)))),
  .iF (.nm 3) (.iB [.bf .len [.attr "Groups" "sources" 0]]) iV]
def gG:Fn:={np:=1,nn:=4,sh:=Λ,body:=[.kN (.cmp .gt (.bf .len [.attr "Groups" "waiting" 0]) (.cst (.int 0))) fi]}
def fQ:Fn:={np:=3,nn:=3,body:=[.ret (.lst Ξ (.comp (.ex (.ix (.ix (.var 2) (.var 0)) (.cst (.int 1)))) 1 [1] Θ (.ix (.var 1) (.var 0))))]}
def di:Fn:={np:=2,nn:=2,body:=[.ret (.ix (.ix (.var 1) (.var 0)) (.cst (.int 0)))]}
def Fs:List Fn:=[gW,fe,cF,bX,cq,c0,cR,oA,iw,cT,ff,fg,cU,dZ,bh,eh,cB,iy,au,iU,xb,fh,cH,bw,cu,gG,fQ,di]
theorem vF:Fs[0]?=Δ gW:=rfl
theorem rA:Fs[1]?=Δ fe:=rfl
theorem mY:Fs[2]?=Δ cF:=rfl
theorem lq:Fs[3]?=Δ bX:=rfl
theorem AG:Fs[4]?=Δ cq:=rfl
theorem vG:Fs[5]?=Δ c0:=rfl
theorem rB:Fs[6]?=Δ cR:=rfl
theorem Hr:Fs[7]?=Δ oA:=rfl
theorem qM:Fs[8]?=Δ iw:=rfl
theorem rD:Fs[9]?=Δ cT:=rfl
theorem vH:Fs[10]?=Δ ff:=rfl
theorem vI:Fs[11]?=Δ fg:=rfl
theorem rE:Fs[12]?=Δ cU:=rfl
theorem uK:Fs[13]?=Δ dZ:=rfl
theorem mZ:Fs[14]?=Δ bh:=rfl
theorem uL:Fs[15]?=Δ eh:=rfl
theorem jE:Fs[16]?=Δ cB:=rfl
theorem AH:Fs[17]?=Δ iy:=rfl
theorem fj:Fs[18]?=Δ au:=rfl
theorem yr:Fs[19]?=Δ iU:=rfl
theorem Oi:Fs[20]?=Δ xb:=rfl
theorem m5:Fs[21]?=Δ fh:=rfl
theorem m6:Fs[22]?=Δ cH:=rfl
theorem gM:Fs[23]?=Δ bw:=rfl
theorem j9:Fs[24]?=Δ cu:=rfl
theorem p5:Fs[25]?=Δ gG:=rfl
theorem oB:Fs[26]?=Δ fQ:=rfl
theorem p6:Fs[27]?=Δ di:=rfl
section
variable{w:Nat}{m:dR}(ok:fU w m)(hm:m.length<=100000)
def jd(m:dR)(a k:Nat):aN:=(W7 m.length).map λt=>O.lst (((W7 k).filter λs=>decide (bH m s a=t)).map λx=>P.d (nD x))
def lW(b n:Nat):O:=.lst ((W7 n).map λt=>P.obj (b+t))
theorem dj a k:(jd m a k).length=m.length:=by simp[jd]
theorem lr(ht:t < m.length):(jd m a k)[t]?=Δ (O.lst (((W7 k).filter λs=>decide (bH m s a=t)).map λx=>P.d (nD x))):=by simp[jd,ht]
theorem Ew:(jd m a k).set (bH m k a) (O.lst ((((W7 k).filter λs=>decide (bH m s a=bH m k a)).map λx=>P.d (nD x))++[P.d (nD k)]))=jd m a (k+1):=by
 apply abH;intro t;by_cases ht:t < m.length
 ·rw[lr ht,YO,aaa,X2];by_cases e:bH m k a=t;·subst e;rw[Xy (by rw[dj];exact ht)];simp
  ·rw[W9 e,lr ht];simp[e]
 ·rw[XI (by rw[YD,dj];lia),XI (by rw[dj];lia)]
include ok hm
theorem yt(n:Nat)(a:Nat)(ha:a < w)(st:aN):callC Fs (n+1) 0 [.d (mD m),.d (nD a)] st=.ok (.obj (st.length+m.length)) (st++jd m a m.length++[lW st.length m.length]):=by
 refine ye vF rfl rfl ?_;have e1:aX (callC Fs n) (.comp (.ex (.var 0)) 1 [] Θ (.lst Λ (.e7 []))) (ai 5 [.d (mD m),.d (nD a)]) st=.ok ((W7 m.length).map λt=>P.obj (st.length+t)) (st++jd m a 0):=by
  rw[Ac];have ew:cx (callC Fs n) (.ex (.var 0)) (ai 5 [.d (mD m),.d (nD a)]) st=.ok ((m.map gf).map .d) st:=by simp[ai,mD]
  rw[ew,ae,if_pos (by simp[aw];lia)];obtain⟨zs,aM,e,q⟩:=pW (g:=λp=>Δ p::bO [] (ai 5 [.d (mD m),.d (nD a)])) (c:=bC (callC Fs n) Θ) (e:=λr' aM=>aa (callC Fs n) (.lst Λ (.e7 [])) r' aM) (I:=λk ys s=>ys=(W7 k).map (λt=>P.obj (st.length+t))/\s=st++Yy k (O.lst [])) (ps:=(m.map gf).map .d) (k:=0) (ys:=[]) (st:=st)
   (λi p ys s ⟨h1,h2⟩ hp=>⟨.obj s.length,s++[.lst []],by simp,by simp[aw],by
    rw[Yg] at h1 h2 ⊢;subst h1 h2;refine⟨?_,?_⟩;·rw[YO,X2];simp
    ·rw[X7,List.replicate_succ']⟩) ⟨by simp,by simp⟩
  obtain⟨q1,q2⟩:=q;rw[e];simp only[Zn,Yg,Xc] at q1 q2;rw[q1,q2];congr 2;apply abH;intro t;by_cases ht:t < m.length;·rw[lr ht];simp[ht]
  ·rw[XI (by simp;lia),XI (by rw[dj];lia)]
 refine ag (bT (v:=.obj (st.length+m.length)) (st1:=st++jd m a 0++[lW st.length m.length]) ?_) ?_;·show aa (callC Fs n) (.lst Λ (.comp (.ex (.var 0)) 1 [] Θ (.lst Λ (.e7 [])))) (ai 5 [.d (mD m),.d (nD a)]) st=_;rw[iR,e1,ae];simp[dj,lW]
 obtain⟨r',s',e,⟨y3,y4,q1⟩,q2⟩:=k7 (g:=je (.two 3 4)) (b:=aj (callC Fs n) lp) (ps:=dS 0 (m.map gf)) (k:=0) (r:=[Δ (.d (mD m)),Δ (.d (nD a)),Δ (.obj (st.length+m.length)),Θ,Θ]) (st:=st++jd m a 0++[lW st.length m.length])
  (I:=λk r s=>(∃y3 y4,r=[Δ (.d (mD m)),Δ (.d (nD a)),Δ (.obj (st.length+m.length)),y3,y4])/\s=st++jd m a k++[lW st.length m.length])
  (λi p r s ⟨⟨y3,y4,h1⟩,h2⟩ hp=>by
   rw[Yg] at h2 ⊢;subst h1 h2;rw[pX,Xg] at hp;have hi:i < m.length:=by
    by_cases z:i < m.length;·exact z
    ·rw[XI (by lia)] at hp;simp at hp
   rw[B2 hi] at hp;simp only[XM,abE,Yg] at hp;subst hp;have ht:=ok.bH hi ha;have hl:=ok.len _ (bZ hi);have g1:(st++jd m a i++[lW st.length m.length])[st.length+m.length]?=Δ (lW st.length m.length):=by rw[show st.length+m.length=(st++jd m a i).length by simp[dj]];simp
   have g2:(st++jd m a i++[lW st.length m.length])[st.length+bH m i a]?=Δ (O.lst (((W7 i).filter λs=>decide (bH m s a=bH m i a)).map λx=>P.d (nD x))):=by rw[JX (by rw[dj];exact ht),lr ht]
   refine⟨_,[Δ (.d (mD m)),Δ (.d (nD a)),Δ (.obj (st.length+m.length)),Δ (.d (nD i)),Δ (.d (gf (row m i)))],st++jd m a (i+1)++[lW st.length m.length],rfl,?_,⟨⟨_,_,rfl⟩,rfl⟩⟩;refine ag (oj (x:=.obj (st.length+bH m i a)) (v:=.d (nD i)) (its:=((W7 i).filter λs=>decide (bH m s a=bH m i a)).map λx=>P.d (nD x)) (st1:=st++jd m a i++[lW st.length m.length]) (st2:=st++jd m a i++[lW st.length m.length]) ?_ (gS g2) (by simp[nD]) ?_) av;·generalize st++jd m a i++[lW st.length m.length]=S at g1 g2;have e1:oY ((row m i).2.map nD) (a:Int)=Δ (nD (bH m i a)):=Wl ok hi ha;simp[gf,wD,e1,nD,ij g1 (show((W7 m.length).map λt=>P.obj (st.length+t))[bH m i a]?=Δ (.obj (st.length+bH m i a)) by simp[ht])]
   ·rw[iS g2 (by
     have:((W7 i).filter λs=>decide (bH m s a=bH m i a)).length<=i:=by have:=ZJ (λs=>decide (bH m s a=bH m i a)) (W7 i);simpa using this
     unfold aw;simp only[Xc]
     lia),JW (by rw[dj];exact ht),Ew]) ⟨⟨Θ,Θ,rfl⟩,rfl⟩
 rw[pY,Xc,Yg] at q2;subst q1 q2;refine ag (gc (ps:=dS 0 (m.map gf)) (st1:=st++jd m a 0++[lW st.length m.length]) (by simp[ai,gW,mD]) e) ?_;exact aA (bD (by simp))
end
section
variable{m:dR}{w b:Nat}{mb:List Nat}{st aM:aN}{h:nc}
theorem mh n(hs:HS m w b mb st h)(hg:g < h.iD.length)(hw:h.wait.length < aw):
  callC Fs (n+1) 22 [.obj 0,.d (nD g)] st=.ok (.d .bu) ((st.set (b+5) (encL (h.wait++[g]))).set (b+6) (jB (h.iD.set g Λ))):=by
 refine k8 m6 rfl rfl (r:=[Δ (.obj 0),Δ (.d (nD g))]) ?_;have hl:=hs.len;have e1:(st.set (b+5) (encL (h.wait++[g])))[b+6]?=Δ (jB h.iD):=by rw[W9 (by lia)];exact hs.iD
 have s1:(st.set (b+5) (encL (h.wait++[g])))[0]?=Δ (iu b):=by rw[W9 (by lia)];exact hs.self
 refine ag (oj (x:=.obj (b+5)) (v:=.d (nD g)) (its:=h.wait.map λs=>P.d (nD s)) (st1:=st) (st2:=st) (cZ rfl hs.self rfl) (gS hs.OY) (by simp[ai,cH]) (st3:=st.set (b+5) (encL (h.wait++[g]))) ?_) ?_;·rw[iS hs.OY (by simpa using hw)];simp[encL]
 ·refine ag (om (x:=.obj (b+6)) (k:=.d (nD g)) (v:=.d (.bl Λ)) (st1:=st.set (b+5) (encL (h.wait++[g]))) (st2:=st.set (b+5) (encL (h.wait++[g]))) (st3:=st.set (b+5) (encL (h.wait++[g]))) (by simp) (cZ rfl s1 rfl) (by simp[ai,cH]) ?_) (st1:=(st.set (b+5) (encL (h.wait++[g]))).set (b+6) (jB (h.iD.set g Λ))) av;·rw[show nD g=.int (g:Int) from rfl,yh e1 (by simpa using hg)];simp[jB,acG]
end
section
variable{m:dR}{w b:Nat}{mb:List Nat}{st aM:aN}{h:nc}
theorem uM n(hs:HS m w b mb st h)(hl:st[l]?=Δ (encL ss))(ho:EN b mb l)(hg:g < h.mem.length)(Ms:∀s∈ss,s∈h.mem.getD g [])(Er:ss.Nodup)(V3:∀s∈ss,s < h.grp.length)(SG:h.iD.length=h.mem.length)(hw:h.wait.length < aw)(hml:h.mem.length < 1000000)(hsl:ss.length < 1000000):
  ∃vc aM,callC Fs (n+2) 23 [.obj 0,.d (nD g),.obj l] st=.ok (.d .bu) aM/\HS m w b vc aM (aC h g ss)/\st.length<=aM.length/\∀i,i < st.length->EN b mb i->aM[i]?=st[i]?/\EN b vc i:=by
 obtain⟨a,RZ,Nf,ha3,ha4⟩:=hs.mem g hg;have hlen:=hs.len;have Tq:a≠l:=λz=>ho.2 (z▸Xw RZ);have Tr:l < st.length:=(qqz hl).1;have hll2:=ho.1;have eN:ss.length=(ss.map λs=>P.d (nD s)).length:=by simp
 have e1:aa (callC Fs (n+1)) (.ix (.attr "Groups" "members" 0) (.var 1)) (ai 6 [.obj 0,.d (nD g),.obj l]) st=.ok (.obj a) st:=by rw[bx,cZ rfl hs.self rfl,ae];simp only[ai,bc,nD];simp[ij hs.Lk (show(mb.map P.obj)[g]?=Δ (.obj a) by rw[Xg,RZ];rfl)]
 have el:oP .len [.obj l] st=Δ (.d (.int (ss.length:Nat))):=by rw[gT hl];simp
 have ea:oP .len [.obj a] st=Δ (.d (.int ((h.mem.getD g []).length:Nat))):=by have:=G6 (show st[a]?=Δ (.dK _) from ha4);rw[this];simp
 by_cases hc:ss.length=(h.mem.getD g []).length
 ·refine⟨mb,st,?_,?_,Xd _,λi _ hi=>⟨rfl,hi⟩⟩
  ·refine ye gM rfl rfl (ag (bT e1) (aA (dw (st1:=st) ?_ (aA tD))));simp[ai,bw,el,ea];rw[Xa] at hc
   lia
  ·unfold aC;rw[if_pos hc];exact hs
 ·
  let fr:=h.mem.length
  let nw:=st.length
  let J:Nat->aN->Prop:=λi s=>s.length=st.length+1/\(∀k,k < st.length->k≠a->k≠b+1->k≠b+4->k≠b+6->s[k]?=st[k]?)/\s[a]?=Δ (encM ((h.mem.getD g []).filter λx=>decide (x∉ss.take i)))/\s[st.length]?=Δ (encM (ss.take i))/\
   s[b+1]?=Δ (encL (putAll h.mem.length (ss.take i) h.grp))/\s[b+4]?=Δ (.lst ((mb++[st.length]).map P.obj))/\s[b+6]?=Δ (jB (h.iD++[Ξ]))
  have ab:a≠b+1/\a≠b+4/\a≠b+5/\a≠b+6/\a≠b/\0 < a:=by rcases Nf with z|z|z<;>lia
  have J0:J 0 (((st++[O.dK []]).set (b+4) (.lst ((mb++[st.length]).map P.obj))).set (b+6) (jB (h.iD++[Ξ]))):=by
   refine⟨by simp,λk hk k1 k2 k3 k4=>?_,?_,?_,?_,?_,?_⟩;·rw[W9 (Yc k4),W9 (Yc k3),Xb hk]
   ·rw[W9 (by lia),W9 (by lia),Xb ha3,ha4,List.take_zero];congr 2;exact(List.filter_eq_self.mpr λx _=>by simp).symm
   ·rw[W9 (by lia),W9 (by lia)];simp[encM]
   ·rw[W9 (by lia),W9 (by lia),Xb (by lia),hs.grp];simp[putAll]
   ·rw[W9 (by lia),Xy (by simp;lia)]
   ·rw[Xy (by simp;lia)]
  obtain⟨r',s',e,⟨y5,q1⟩,q2⟩:=ur (n:=l) (g:=je (.nm 5)) (b:=aj (callC Fs (n+1)) gj) (xs:=ss.map λs=>P.d (nD s)) (I:=λi r s=>(∃y5,r=[Δ (.obj 0),Δ (.d (nD g)),Δ (.obj l),Δ (.obj a),Δ (.d (nD h.mem.length)),y5])/\J i s)
   (λi r s hi=>by rw[hi.2.2.1 l Tr (Yc Tq) (by lia) (by lia) (by lia),hl];rfl)
   (λi p r s ⟨⟨y5,h1⟩,j1,j2,j3,j4,j5,j6,j7⟩ hp=>by
    subst h1;rw[Xg] at hp;cases Lo:ss[i]? with
    |none=>rw[Lo] at hp;cases hp|some x=>
     rw[Lo] at hp;cases hp;have hx:=Xw Lo;have s0:s[0]?=Δ (iu b):=by rw[j2 0 (by lia) (by lia) (by lia) (by lia) (by lia)];exact hs.self
     have xr:x∈(h.mem.getD g []).filter λy=>decide (y∉ss.take i):=by rw[Yl];exact⟨Ms x hx,by simpa using AD Er Lo⟩
     have tl:(ss.take i).length < aw:=J1 i hsl;have p1:=Hn j3 xr;have k4:(s.set a (encM (((h.mem.getD g []).filter λy=>decide (y∉ss.take i)).filter λy=>decide (y≠x))))[st.length]?=Δ (encM (ss.take i)):=by rw[W9 (by lia)];exact j4
     have k6:(s.set a (encM (((h.mem.getD g []).filter λy=>decide (y∉ss.take i)).filter λy=>decide (y≠x))))[b+4]?=Δ (.lst ((mb++[st.length]).map P.obj)):=by rw[W9 (by lia)];exact j6
     have k0:(s.set a (encM (((h.mem.getD g []).filter λy=>decide (y∉ss.take i)).filter λy=>decide (y≠x))))[0]?=Δ (iu b):=by rw[W9 (by lia)];exact s0
     have k5:(s.set a (encM (((h.mem.getD g []).filter λy=>decide (y∉ss.take i)).filter λy=>decide (y≠x))))[b+1]?=Δ (encL (putAll h.mem.length (ss.take i) h.grp)):=by rw[W9 (by lia)];exact j5
     have p2:=uH k4 (AD Er Lo) tl;generalize Ts:s.set a (encM (((h.mem.getD g []).filter λy=>decide (y∉ss.take i)).filter λy=>decide (y≠x)))=S1 at*;have S1l:S1.length=st.length+1:=by rw[<-Ts];simpa using j1
     have l5:(S1.set st.length (encM (ss.take i++[x])))[b+1]?=Δ (encL (putAll h.mem.length (ss.take i) h.grp)):=by rw[W9 (by lia)];exact k5
     have l0:(S1.set st.length (encM (ss.take i++[x])))[0]?=Δ (iu b):=by rw[W9 (by lia)];exact k0
     have p3:=yh (v:=P.d (nD h.mem.length)) l5 (i:=x) (by simp only[Xc,mS];exact V3 x hx);refine⟨_,[Δ (.obj 0),Δ (.d (nD g)),Δ (.obj l),Δ (.obj a),Δ (.d (nD h.mem.length)),Δ (.d (nD x))],(S1.set st.length (encM (ss.take i++[x]))).set (b+1) (encL (putAll h.mem.length (ss.take (i+1)) h.grp)),rfl,?_,⟨_,rfl⟩,?_,λk hk k1 k2 k3 k4=>?_,?_,?_,?_,?_,?_⟩
     ·refine ag (mQ (v:=.d (.bl Λ)) (st1:=S1) ?_) ?_;·rw[sZ];simp[Hm j3,p1]
      refine ag (om (x:=.obj st.length) (k:=.d (nD x)) (v:=.d (.bl Λ)) (st1:=S1) (st2:=S1) (st3:=S1) (by simp) ?_ (by simp) p2) ?_;·rw[bx,cZ rfl k0 rfl,ae];have:=ij k6 (i:=h.mem.length) (p:=.obj st.length) (by rw[Xg,Xu (by rw[hs.rn];exact Xd _),hs.rn];simp);simp[nD,this]
      refine ag (om (x:=.obj (b+1)) (k:=.d (nD x)) (v:=.d (nD h.mem.length)) (st1:=S1.set st.length (encM (ss.take i++[x]))) (st2:=S1.set st.length (encM (ss.take i++[x]))) (st3:=S1.set st.length (encM (ss.take i++[x]))) (by simp) (cZ rfl l0 rfl) (by simp) (show nQ _ (.d (.int (x:Int))) _ _=_ from p3)) ?_;rw[av];simp only[encL,<-acG,AB Lo];rfl
     ·simpa using S1l
     ·rw[W9 (by lia),W9 (by lia),<-Ts,W9 (by lia)];exact j2 k hk k1 k2 k3 k4
     ·rw[W9 (by lia),W9 (by lia),<-Ts,Xy (by lia),AA Lo]
     ·rw[W9 (by lia),Xy (by lia)];have e:ss.take (i+1)=ss.take i++[x]:=by rw[Y2,Lo];rfl
      rw[e]
     ·rw[Xy (by simp;lia)]
     ·rw[W9 (by lia),W9 (by lia)];exact k6
     ·rw[W9 (by lia),W9 (by lia),<-Ts,W9 (by lia)];exact j7)
   dQ (i:=0) ⟨⟨Θ,rfl⟩,J0⟩ (Yj _) (by simp[dQ];lia)
  subst q1;rw[Xc] at q2;obtain⟨j1,j2,j3,j4,j5,j6,j7⟩:=q2;rw[Y1 (Xd _)] at j3 j4 j5;have s0:s'[0]?=Δ (iu b):=by rw[j2 0 (by lia) (by lia) (by lia) (by lia) (by lia)];exact hs.self
  have hS:HS m w b (mb++[st.length]) s' ⟨putAll h.mem.length ss h.grp,h.mem.set g ((h.mem.getD g []).filter λs=>decide (s∉ss))++[ss],h.wait,h.iD++[Ξ]⟩:=by
   refine⟨by lia,hs.b0,s0,?_,j5,j6,by simp[hs.rn],λk hk=>?_,?_,?_,j7⟩
   ·obtain⟨outer,o1,o2,o3⟩:=hs.src;have hb0:=hs.b0;refine⟨outer,by rw[j2 b (by lia) (by lia) (by lia) (by lia) (by lia)];exact o1,o2,λa' S3=>?_⟩;have ab':b+2<=a:=by rcases Nf with z|z|z<;>lia
    obtain⟨o,rows,f1,f2,f3,f4,f5⟩:=o3 a' S3;refine⟨o,rows,f1,f2,f3,by rw[j2 o (by lia) (by lia) (by lia) (by lia) (by lia)];exact f4,λt ht=>?_⟩;obtain⟨l',g1,g2,g3,g4⟩:=f5 t ht;exact⟨l',g1,g2,g3,by rw[j2 l' (by lia) (by lia) (by lia) (by lia) (by lia)];exact g4⟩
   ·by_cases vk:k < h.mem.length
    ·by_cases v5:k=g;·subst v5;refine⟨a,by rw[Xb (by rw[hs.rn];exact vk)];exact RZ,Nf,by lia,?_⟩;rw[j3];show _=Δ (encM ((h.mem.set k _++[ss]).getD k []));rw[iq (by simpa using vk),eV vk]
     ·obtain⟨a',c1,c2,c3,c4⟩:=hs.mem k vk;have:a'≠a:=λz=>v5 (by rw[z] at c1;obtain⟨x1,y1⟩:=qqz c1;obtain⟨x2,y2⟩:=qqz RZ;exact yq hs.RW x1 x2 (y1.trans y2.symm));refine⟨a',by rw[Xb (by rw[hs.rn];exact vk)];exact c1,c2,by lia,?_⟩;rw[j2 a' c3 this (by rcases c2 with z|z|z<;>lia) (by rcases c2 with z|z|z<;>lia) (by rcases c2 with z|z|z<;>lia),c4];show _=Δ (encM ((h.mem.set g _++[ss]).getD k []));rw[iq (by simpa using vk),dE (Yc v5)]
    ·have e2:k=h.mem.length:=by simp at hk;lia
     subst e2;refine⟨st.length,by rw[<-hs.rn];simp,.inr (.inr hlen),by lia,?_⟩;rw[j4];show _=Δ (encM ((h.mem.set g _++[ss]).getD h.mem.length []));congr 2;have:=iT (l:=h.mem.set g ((h.mem.getD g []).filter λs=>decide (s∉ss))) (x:=ss) (d:=[]);rw[YD] at this;exact this.symm
   ·rw[X5];refine⟨hs.RW,by simp,λx hx y hy=>?_⟩;simp at hy;subst hy;have:=(hs.mad hx).2
    lia
   ·rw[j2 (b+5) (by lia) (by lia) (by lia) (by lia) (by lia)];exact hs.OY
  have sl:s'[l]?=Δ (encL ss):=by rw[j2 l Tr (Yc Tq) (by lia) (by lia) (by lia)];exact hl
  have ll:oP .len [.obj l] s'=Δ (.d (.int (ss.length:Nat))):=by rw[gT sl];simp
  have la:oP .len [.obj a] s'=Δ (.d (.int (((h.mem.getD g []).filter λx=>decide (x∉ss)).length:Nat))):=by have:=G6 (show s'[a]?=Δ (.dK _) from j3);rw[this];simp
  have gw:g < h.iD.length:=by lia
  have wg:(h.iD++[Ξ])[g]?=Δ (h.iD.getD g Ξ):=by rw[Xb gw,Xa,W6 gw];rfl
  have wx:=ij j7 (i:=g) (p:=.d (.bl (h.iD.getD g Ξ))) (by rw[Xg,wg];rfl);have fr2:∀(s2:aN) (x y:O),s2=(s'.set (b+5) x).set (b+6) y->st.length<=s2.length/\∀i,i < st.length->EN b mb i->s2[i]?=st[i]?/\EN b (mb++[st.length]) i:=λs2 x y e2=>by
   subst e2;refine⟨by simp;lia,λi hi Tu=>?_⟩;have:=Tu.1;have hia:i≠a:=λz=>Tu.2 (z▸Xw RZ);refine⟨by rw[W9 (by lia),W9 (by lia)];exact j2 i hi hia (by lia) (by lia) (by lia),Tu.1,λz=>?_⟩;rcases aaA.mp z with z|z;·exact Tu.2 z
   ·simp at z;lia
  have fin:∃r2 s2,aj (callC Fs (n+1)) (bw.body.drop 6) [Δ (.obj 0),Δ (.d (nD g)),Δ (.obj l),Δ (.obj a),Δ (.d (nD h.mem.length)),y5] s'=.ok (.nx r2) s2/\HS m w b (mb++[st.length]) s2 (aC h g ss)/\st.length<=s2.length/\∀i,i < st.length->EN b mb i->s2[i]?=st[i]?/\EN b (mb++[st.length]) i:=by
   by_cases EL:h.iD.getD g Ξ=Λ\/ss.length<=((h.mem.getD g []).filter λx=>decide (x∉ss)).length
   ·have lw:=mh n hS (g:=h.mem.length) (by simp;lia) hw;have hq:=hS.RX h.mem.length;obtain⟨f1,f2⟩:=fr2 _ _ _ rfl;refine⟨_,_,ag (dw (st1:=s') ?_ (ag (mQ (v:=.d .bu) (oz rfl s0 rfl (ps:=[.d (nD h.mem.length)]) (st1:=s') (by simp) lw)) av)) av,?_,f1,f2⟩;·rw[sY,lF,bx,cZ rfl s0 rfl];simp only[ae,bc,Xn,Xm,XA,az,nD,wx];cases Wu:h.iD.getD g Ξ with|true=>simp|false=>rw[Wu] at EL;have R0:=EL.resolve_left (by decide);simp[ll,la];rw[Xa] at R0;simpa using R0
    ·unfold aC;rw[if_neg hc];dsimp only;rw[if_pos EL];exact hq
   ·have lw:=mh n hS (g:=g) (by simp;lia) hw;have hq:=hS.RX g;obtain⟨f1,f2⟩:=fr2 _ _ _ rfl;refine⟨_,_,ag (dg (st1:=s') ?_ (ag (mQ (v:=.d .bu) (oz rfl s0 rfl (ps:=[.d (nD g)]) (st1:=s') (by simp) lw)) av)) av,?_,f1,f2⟩
    ·rw[sY,lF,bx,cZ rfl s0 rfl];simp only[ae,bc,Xn,Xm,XA,az,nD,wx];have h1:h.iD.getD g Ξ=Ξ:=by cases Wu:h.iD.getD g Ξ with|true=>exact absurd (.inl Wu) EL|false=>rfl
     rw[h1];have h2:¬ss.length<=((h.mem.getD g []).filter λx=>decide (x∉ss)).length:=λz=>EL (.inr z);simp[ll,la];rw[Xa] at h2;simpa using h2
    ·unfold aC;rw[if_neg hc];dsimp only;rw[if_neg EL];exact hq
  obtain⟨r2,s2,f0,f1,f2,f3⟩:=fin;refine⟨mb++[st.length],s2,k8 gM rfl rfl (r:=r2) ?_,f1,f2,f3⟩;refine ag (bT e1) (ag (dg (st1:=st) ?_ av) (ag (bT (v:=.d (nD h.mem.length)) (st1:=st) ?_) ?_))
  ·have:((ss.length:Int)==((h.mem.getD g []).length:Int))=Ξ:=by rw[beq_eq_false_iff_ne];lia
   simp[ai,bw,el,ea];rw[Xa] at hc
   lia
  ·rw[cD,ay,cZ rfl hs.self rfl];simp[gT hs.Lk,nD,hs.rn]
  refine ag (oj (x:=.obj (b+4)) (v:=.obj st.length) (its:=mb.map P.obj) (st1:=st) (st2:=st++[O.dK []]) (cZ rfl hs.self rfl) (gS hs.Lk) (by simp) (st3:=(st++[O.dK []]).set (b+4) (.lst ((mb++[st.length]).map P.obj))) ?_) ?_;·rw[iS (xs:=mb.map P.obj) (by rw[Xb (by lia)];exact hs.Lk) (by simp[aw,hs.rn];lia)];simp
  have t0:((st++[O.dK []]).set (b+4) (.lst ((mb++[st.length]).map P.obj)))[0]?=Δ (iu b):=by rw[W9 (by lia),Xb (by lia)];exact hs.self
  have t6:((st++[O.dK []]).set (b+4) (.lst ((mb++[st.length]).map P.obj)))[b+6]?=Δ (jB h.iD):=by rw[W9 (by lia),Xb (by lia)];exact hs.iD
  refine ag (oj (x:=.obj (b+6)) (v:=.d (.bl Ξ)) (its:=h.iD.map λb=>P.d (.bl b)) (st1:=(st++[O.dK []]).set (b+4) (.lst ((mb++[st.length]).map P.obj))) (st2:=(st++[O.dK []]).set (b+4) (.lst ((mb++[st.length]).map P.obj))) (cZ rfl t0 rfl) (gS t6) (by simp) (st3:=((st++[O.dK []]).set (b+4) (.lst ((mb++[st.length]).map P.obj))).set (b+6) (jB (h.iD++[Ξ]))) ?_) ?_;·rw[iS t6 (by simp[aw];lia)];simp[jB]
  refine ag (G5 (n:=l) (st1:=((st++[O.dK []]).set (b+4) (.lst ((mb++[st.length]).map P.obj))).set (b+6) (jB (h.iD++[Ξ]))) (by simp[ai,bw]) e) f0
end
section
variable{m:dR}{w b:Nat}{mb:List Nat}{st aM:aN}{h:nc}{T:List Nat}{R:Nat->Prop}{a:Nat}
theorem AI n(ok:fU w m)(hm:m.length<=100000)(hs:HS m w b mb st h)(hi:j0 w m T R h)(ha:a < w)(Kh:T.Nodup)(Wv:∀t∈T,t < m.length)(hml:h.mem.length < 1000000):
  ∃y4 y5 s dl,forL (je (.nm 4)) (aj (callC Fs n) cW) ((T.map nD).map .d) [Δ (.obj 0),Δ (.d (.pl (T.map nD))),Δ (.d (nD a)),Δ (.obj st.length),Θ,Θ,Θ,Θ] (st++[O.dK []])
   =.ok (.nx [Δ (.obj 0),Δ (.d (.pl (T.map nD))),Δ (.d (nD a)),Δ (.obj st.length),y4,y5,Θ,Θ]) s/\GS h.grp st.length st s (T.flatMap (dJ m a)) dl:=by
 have hlen:=hs.len;have Lp:∀(l:List Nat),l.Nodup->(∀x∈l,x < m.length)->l.length<=m.length:=λl h1 h2=>by
  have:=fM h1 (xs:=W7 m.length) λs hs=>by simpa using h2 s hs
  simpa using this
 have FN:=r9 (m:=m) (a:=a) Kh;have FL:∀x∈T.flatMap (dJ m a),x < m.length:=λx hx=>(ox.mp hx).1;have flen:=Lp _ FN FL;have one:∀(s:aN) (done:List Nat) (dl:List Ll) (x:Nat) (y4 y5:Option P),GS h.grp st.length st s done dl->done.length < 1000000->(∀t∈dl,t.1 < h.mem.length)->x < m.length->
   ∃s2 Og,aj (callC Fs n) cV [Δ (.obj 0),Δ (.d (.pl (T.map nD))),Δ (.d (nD a)),Δ (.obj st.length),y4,Δ (.d (nD x)),Θ,Θ] s=.ok (.nx [Δ (.obj 0),Δ (.d (.pl (T.map nD))),Δ (.d (nD a)),Δ (.obj st.length),y4,Δ (.d (nD x)),Θ,Θ]) s2/\GS h.grp st.length st s2 (done++[x]) Og:=by
  intro s done dl x y4 y5 G hd hk hx;have s0:s[0]?=Δ (iu b):=by rw[G.pre 0 (by lia)];exact hs.self
  have s1:s[b+1]?=Δ (encL h.grp):=by rw[G.pre (b+1) (by lia)];exact hs.grp
  have knd:(dl.map (·.1)).Nodup:=by have:=(dX h.grp done).1;rw[<-G.proj,aas] at this;exact this
  have Mo:dl.length < aw:=by
   have:=fM knd (xs:=W7 h.mem.length) λg hg=>by obtain⟨t,ht,rfl⟩:=YQ.mp hg;simpa using hk t ht
   simp at this;unfold aw
   lia
  obtain⟨v,its,s1',s2,Og,e1,e2,e3,G'⟩:=G.next (x:=x) Mo (by unfold aw;lia);refine⟨s2,Og,?_,G'⟩;have hD:bE s (.obj st.length)=Δ (.dK (u9 dl)):=by exact lN G.qK
  have gx:(h.grp.map λs=>P.d (nD s))[x]?=Δ (.d (nD (h.grp.getD x 0))):=by
   have:x < h.grp.length:=by rw[hi.rm];exact hx
   rw[Xg,W6 this,Xa,W6 this];rfl
  refine ag (oj (x:=v) (v:=.d (nD x)) (its:=its) (st1:=s1') (st2:=s1') (st3:=s2) ?_ e2 (by simp) e3) av;rw[kP];simp only[bc,Xm,Xn,XA,az,ae,hD];rw[bx,cZ rfl s0 rfl,ae];simp only[bc,Xm,Xn,XA,az,ae];rw[show nD x=.int (x:Int) from rfl,ij s1 gx,az,ae,iR,eJ,aE,ae];simp only[Y8,Yj,if_true,ae];rw[e1,az,ae]
 obtain⟨outer,o1,o2,o3⟩:=hs.src;obtain⟨o,rows,f1,f2,f3,f4,f5⟩:=o3 a ha;have Ww:∀{s:aN} {done:List Nat} {dl:List Ll},GS h.grp st.length st s done dl->(∀x∈done,x < m.length)->∀t∈dl,t.1 < h.mem.length:=λ{s done dl} G hd t ht=>by
  have:(t.1,t.2.1)∈cE h.grp done:=by rw[<-G.proj];exact YQ.mpr ⟨t,ht,rfl⟩
  obtain⟨q1,q2⟩:=(dX h.grp done).2.1 _ _ this;cases z:t.2.1 with
  |nil=>exact absurd z q2|cons x r=>
   have hx:x∈t.2.1:=by rw[z];simp
   rw[q1,Yl,qqq] at hx;rw[<-hx.2];exact hi.blt x (hd x hx.1)
 obtain⟨r',s',e,⟨y4,y5,q1⟩,dl,q2⟩:=k7 (g:=je (.nm 4)) (b:=aj (callC Fs n) cW) (ps:=(T.map nD).map .d) (k:=0) (r:=[Δ (.obj 0),Δ (.d (.pl (T.map nD))),Δ (.d (nD a)),Δ (.obj st.length),Θ,Θ,Θ,Θ]) (st:=st++[O.dK []])
  (I:=λk r s=>(∃y4 y5,r=[Δ (.obj 0),Δ (.d (.pl (T.map nD))),Δ (.d (nD a)),Δ (.obj st.length),y4,y5,Θ,Θ])/\∃dl,GS h.grp st.length st s ((T.take k).flatMap (dJ m a)) dl)
  (λi p r s ⟨⟨y4,y5,h1⟩,dl,G⟩ hp=>by
   rw[Yg] at G ⊢;subst h1;rw[aas,Xg] at hp;cases HP:T[i]? with
   |none=>rw[HP] at hp;cases hp|some t=>
    rw[HP] at hp;cases hp;have htT:=Xw HP;obtain⟨l,g1,g2,g3,g4⟩:=f5 t (Wv t htT);have Oj:(T.take (i+1)).flatMap (dJ m a)=(T.take i).flatMap (dJ m a)++dJ m a t:=by rw[Y2,HP,ZY];simp
    have Wx:∀j,∃rest,T.flatMap (dJ m a)=(T.take i).flatMap (dJ m a)++(dJ m a t).take j++rest:=λj=>by
     refine⟨(dJ m a t).drop j++(T.drop (i+1)).flatMap (dJ m a),?_⟩;have h1:T.flatMap (dJ m a)=(T.take (i+1)).flatMap (dJ m a)++(T.drop (i+1)).flatMap (dJ m a):=by rw[<-ZY,aaf]
     rw[h1,Oj];simp only[X7];rw[<-X7 ((dJ m a t).take j),aaf]
    obtain⟨r2,s2,e2,⟨y5',z1⟩,dl2,G2⟩:=ur (n:=l) (g:=je (.nm 5)) (b:=aj (callC Fs n) cV) (xs:=(dJ m a t).map λs=>P.d (nD s)) (I:=λj r s=>(∃y5,r=[Δ (.obj 0),Δ (.d (.pl (T.map nD))),Δ (.d (nD a)),Δ (.obj st.length),Δ (.d (nD t)),y5,Θ,Θ])/\∃dl,GS h.grp st.length st s ((T.take i).flatMap (dJ m a)++(dJ m a t).take j) dl)
     (λj r s ⟨_,dl,G⟩=>by rw[G.pre l (by lia)];exact g4)
     (λj p r s ⟨⟨y5,h1⟩,dl,G⟩ hp=>by
      subst h1;rw[Xg] at hp;cases hx:(dJ m a t)[j]? with
      |none=>rw[hx] at hp;cases hp|some x=>
       rw[hx] at hp;cases hp;obtain⟨rest,hr⟩:=Wx j;have Wy:∀y∈(T.take i).flatMap (dJ m a)++(dJ m a t).take j,y < m.length:=λy hy=>FL y (by rw[hr];exact Yo _ hy);have Wz:((T.take i).flatMap (dJ m a)++(dJ m a t).take j).length < 1000000:=by
        have:=congrArg abF hr;simp only[Xs] at this ⊢
        lia
       have hxm:x < m.length:=(lh.mp (Xw hx)).1;obtain⟨s2,Og,e2,G2⟩:=one s _ dl x (Δ (.d (nD t))) Θ G Wz (Ww G Wy) hxm;refine⟨_,_,s2,rfl,e2,⟨_,rfl⟩,Og,?_⟩;rw[Y2,hx];simpa using G2)
     dQ (i:=0) (r:=[Δ (.obj 0),Δ (.d (.pl (T.map nD))),Δ (.d (nD a)),Δ (.obj st.length),Δ (.d (nD t)),y5,Θ,Θ]) (st:=s) ⟨⟨y5,rfl⟩,dl,by simpa using G⟩ (Yj _) (by have:(dJ m a t).length<=m.length:=Lp _ ((Zf).filter _) λx hx=>(lh.mp hx).1;simp[dQ];lia)
    subst z1;rw[Xc,Y1 (Xd _),<-Oj] at G2;refine⟨_,[Δ (.obj 0),Δ (.d (.pl (T.map nD))),Δ (.d (nD a)),Δ (.obj st.length),Δ (.d (nD t)),y5',Θ,Θ],s2,rfl,?_,⟨_,_,rfl⟩,dl2,G2⟩;have s0:s[0]?=Δ (iu b):=by rw[G.pre 0 (by lia)];exact hs.self
    refine ag (G5 (n:=l) (st1:=s) ?_ e2) av;rw[bx,bx,cZ rfl s0 rfl,ae];have h1:=ij (st:=s) (n:=b) (by rw[G.pre b (by lia)];exact o1) (i:=a) (p:=.obj o) (by rw[Xg,f1];rfl);have h2:=ij (st:=s) (n:=o) (by rw[G.pre o (by lia)];exact f4) (i:=t) (p:=.obj l) (by rw[Xg,g1];rfl);simp only[bc,aax,Xm,Xn,XA,az,ae,nD,Function.comp,h1,h2]) ⟨⟨Θ,Θ,rfl⟩,[],by
   refine⟨rfl,by simp[u9],(λt h=>nomatch h),by simp,λi hi=>Xb hi,by simp⟩⟩
 subst q1;rw[Xc,Xc,Yg,Y1 (Xd _)] at q2;exact⟨y4,y5,s',dl,e,q2⟩
theorem oE n(ok:fU w m)(hm:m.length<=100000)(hs:HS m w b mb st h)(hi:j0 w m T R h)(hn:vE h)(ha:a < w)(hT:∀x y,x < m.length->y < m.length->x∈T->y∉T->¬ik w m x m y)(Kh:T.Nodup)(Wv:∀t∈T,t < m.length):
  ∃vc aM,callC Fs (n+3) 24 [.obj 0,.d (.pl (T.map nD)),.d (nD a)] st=.ok (.d .bu) aM/\HS m w b vc aM (eA m h T a):=by
 have hlen:=hs.len;have bd:=vE.bound hi hn;obtain⟨y4,y5,s,dl,eg,G⟩:=AI (n+2) ok hm hs hi ha Kh Wv (by lia);have FN:=r9 (m:=m) (a:=a) Kh;have L:=λs=>ox (m:=m) (T:=T) (a:=a) (s:=s);obtain⟨s1,s2,s3⟩:=dX h.grp (T.flatMap (dJ m a));have knd:(dl.map (·.1)).Nodup:=by rw[<-G.proj,aas] at s1;exact s1
 have sv:HS m w b mb s h:=hs.keep (by have:=G.len;lia) λi hi _=>G.pre i hi;have IQ:∀i,st.length<=i->EN b mb i:=λi hi=>⟨by lia,λz=>by have:=(hs.mad z).2;lia⟩;have IF:HS m w b mb (s.set st.length .vp) h:=sv.put (IQ _ (Xd _)) _;have Lq:∀t∈dl,t.1 < h.mem.length/\(∀x,x∈t.2.1↔x∈h.mem.getD t.1 []/\bH m x a∈T)/\t.2.1.Nodup/\t.2.1≠[]:=λt ht=>by
  have hp:(t.1,t.2.1)∈cE h.grp (T.flatMap (dJ m a)):=by rw[<-G.proj];exact YQ.mpr ⟨t,ht,rfl⟩
  obtain⟨e,fH⟩:=s2 _ _ hp;have vk:t.1 < h.mem.length:=by
   cases q:t.2.1 with
   |nil=>exact absurd q fH|cons x r=>
    have hx:x∈t.2.1:=by rw[q];simp
    rw[e,Yl,qqq] at hx;rw[<-hx.2];exact hi.blt x ((L x).mp hx.1).1
  refine⟨vk,λx=>?_,by rw[e];exact FN.filter _,fH⟩;rw[e,Yl,qqq,L,(hi.mem t.1 vk).2];constructor;·rintro⟨⟨p,q⟩,r⟩;exact⟨⟨p,r⟩,q⟩
  ·rintro⟨⟨p,r⟩,q⟩;exact⟨⟨p,q⟩,r⟩
 obtain⟨r',sF,eF,⟨y6,y7,z1⟩,R1,hF,z2,z3,z4,z5,z6⟩:=Ad (x:=6) (y:=7) (b:=aj (callC Fs (n+2)) eW) (ps:=u9 dl) (k:=0) (r:=[Δ (.obj 0),Δ (.d (.pl (T.map nD))),Δ (.d (nD a)),Δ (.obj st.length),y4,y5,Θ,Θ]) (st:=s.set st.length .vp)
  (I:=λk r s'=>(∃y6 y7,r=[Δ (.obj 0),Δ (.d (.pl (T.map nD))),Δ (.d (nD a)),Δ (.obj st.length),y4,y5,y6,y7])/\∃vc h',h'=((dl.take k).map (λt=>(t.1,t.2.1))).foldl (λh e=>aC h e.1 e.2) h/\HS m w b vc s' h'/\j0 w m T R h'/\vE h'/\
   (st.length < s'.length/\EN b vc st.length/\∀t∈dl.drop k,EN b vc t.2.2/\s'[t.2.2]?=Δ (encL t.2.1)/\t.1 < h'.mem.length/\(∀x,x∈t.2.1↔x∈h'.mem.getD t.1 []/\bH m x a∈T)))
  (λi kv r s' ⟨⟨y6,y7,h1⟩,vc,h',c1,c2,c3,c4,c5,c6,c7⟩ hp=>by
   rw[Yg] at c1 c7 ⊢;subst h1;unfold u9 at hp;rw[Xg] at hp;cases HP:dl[i]? with
   |none=>rw[HP] at hp;cases hp|some t=>
    rw[HP] at hp;cases hp;have htd:=Xw HP;obtain⟨WA,WB⟩:=qqz HP;have edr:dl.drop i=t::dl.drop (i+1):=by rw[X9 WA,WB]
    obtain⟨d1,d2,d3,d4⟩:=c7 t (by rw[edr];exact W8);obtain⟨_,_,d5,d6⟩:=Lq t htd;have bd':=vE.bound c3 c4;have wl:h'.wait.length<=h'.mem.length:=by
     have:=fM c3.Lj (xs:=W7 h'.mem.length) λg hg=>by simpa using((c3.wt g).mp hg).1
     simpa using this
    have tl:t.2.1.length<=m.length:=by
     have:=fM d5 (xs:=W7 m.length) λx hx=>by simpa using(((c3.mem t.1 d3).2 x).mp ((d4 x).mp hx).1).1
     simpa using this
    obtain⟨R3,st2,g1,g2,g3,g4⟩:=uM n c2 (g:=t.1) (l:=t.2.2) (ss:=t.2.1) d2 d1 d3 (λx hx=>((d4 x).mp hx).1) d5 (λx hx=>by rw[c3.rm];exact(((c3.mem t.1 d3).2 x).mp ((d4 x).mp hx).1).1) c3.mT (by unfold aw;lia) (by lia) (by lia);obtain⟨i1,i2,i3,i4,i5,i6,i7⟩:=ow c3 d3 ha d4 d5 d6 hT ok;have n1:=qI c3 c4 d3 (λx hx=>((d4 x).mp hx).1) d5 d6;have s0:=c2.self;refine⟨_,st2,ag (mQ (v:=.d .bu) (oz rfl c2.self rfl (ps:=[.d (nD t.1),.obj t.2.2]) (st1:=s') (by simp[aax,xN,nD]) g1)) av,⟨_,_,rfl⟩,R3,_,?_,g2,i1,n1,by lia,(g4 st.length c5 c6).2,λu hu=>?_⟩;·rw[Y2,HP,X2,ZT,<-c1];rfl
    ·obtain⟨u1,u2,u3,u4⟩:=c7 u (by rw[edr];exact W5 _ hu);have hul:u.2.2 < s'.length:=(qqz u2).1;obtain⟨v1,v2⟩:=g4 u.2.2 hul u1;have hut:u.1≠t.1:=λz=>by
      obtain⟨j,hj⟩:=abd hu;rw[List.getElem?_drop] at hj;obtain⟨SR,hje⟩:=qqz hj;have:=yq knd (i:=i) (j:=i+1+j) (by simpa using WA) (by simpa using SR) (by simp only[List.getElem_map,WB,hje];exact z.symm)
      lia
     exact⟨v2,by rw[v1];exact u2,by lia,λx=>by rw[u4,i5 u.1 u3 hut]⟩)
  ⟨⟨Θ,Θ,rfl⟩,mb,h,by simp,IF,hi,hn,by have:=G.len;simpa using this,IQ _ (Xd _),λt ht=>by rw[aam] at ht;obtain⟨q1,q2,q3⟩:=G.at_ t ht;obtain⟨p1,p2,_⟩:=Lq t ht;exact⟨IQ _ (by lia),by rw[W9 (by lia)];exact q3,p1,p2⟩⟩
 subst z1;obtain⟨z6,z7,_⟩:=z6;refine⟨R1,sF.set st.length (.dK (u9 dl)),k8 j9 rfl rfl (r:=[Δ (.obj 0),Δ (.d (.pl (T.map nD))),Δ (.d (nD a)),Δ (.obj st.length),y4,y5,y6,y7]) ?_,?_⟩;·refine ag (bT (v:=.obj st.length) (st1:=st++[O.dK []]) (by simp)) ?_;refine ag (gc (ps:=(T.map nD).map .d) (st1:=st++[O.dK []]) (by simp[ai,cu]) eg) ?_;exact ag (N7 (n:=st.length) (kvs:=u9 dl) (st1:=s) (by simp) G.qK eF) av
 ·have e:hF=eA m h T a:=by rw[z2];unfold eA;rw[<-G.proj,Yg];unfold u9;rw[Xc,Y1 (Xd _)]
  rw[<-e];exact z3.put z7 _
end
section
variable{m:dR}{w b:Nat}{mb:List Nat}{st aM:aN}{h:nc}
theorem Ol(hs:HS m w b mb st h)g:HS m w b mb ((st.set (b+5) (encL h.wait.dropLast)).set (b+6) (jB (h.iD.set g Ξ))) (lj h g):=by
 have hl:=hs.len;have g0:∀i,i≠b+5->i≠b+6->((st.set (b+5) (encL h.wait.dropLast)).set (b+6) (jB (h.iD.set g Ξ)))[i]?=st[i]?:=λi h1 h2=>by rw[W9 (Yc h2),W9 (Yc h1)]
 refine⟨by simpa using hl,hs.b0,by rw[g0 0 (by lia) (by lia)];exact hs.self,?_,by rw[g0 _ (by lia) (by lia)];exact hs.grp,by rw[g0 _ (by lia) (by lia)];exact hs.Lk,hs.rn,λk hk=>?_,hs.RW,?_,?_⟩;·obtain⟨outer,e1,e2,e3⟩:=hs.src;refine⟨outer,by rw[g0 _ (by lia) (by lia)];exact e1,e2,λa ha=>?_⟩;obtain⟨o,rows,f1,f2,f3,f4,f5⟩:=e3 a ha;refine⟨o,rows,f1,f2,f3,by rw[g0 _ (by lia) (by lia)];exact f4,λt ht=>?_⟩;obtain⟨l,q1,q2,q3,q4⟩:=f5 t ht;exact⟨l,q1,q2,q3,by rw[g0 _ (by lia) (by lia)];exact q4⟩
 ·obtain⟨a,e1,e2,e3,e4⟩:=hs.mem k hk;refine⟨a,e1,e2,by simpa using e3,?_⟩;rw[g0 _ (by rcases e2 with z|z|z<;>lia) (by rcases e2 with z|z|z<;>lia)];exact e4
 ·rw[W9 (by lia),Xy (by lia)];rfl
 ·rw[Xy (by simp;lia)];rfl
theorem Ex n(ok:fU w m)(hm:m.length<=100000)(hw:w<=1000)(hs:HS m w b mb st h)(hc:uD w m h)(fH:h.wait≠[])y1 y2 y3:
  ∃y1' y2' Tv vc aM,aj (callC Fs (n+3)) fi [Δ (.obj 0),y1,y2,y3] st=.ok (.nx [Δ (.obj 0),y1',y2',Tv]) aM/\HS m w b vc aM (oy m w h):=by
 obtain⟨g,ew,eg,gl,gnd,glt,hT,ip,hn⟩:=Ki ok hc fH;have hlen:=hs.len;obtain⟨a,a1,a2,a3,a4⟩:=hs.mem g gl;have wl:=hc.1.mT
 let s1:=st.set (b+5) (encL h.wait.dropLast)
 let s2:=s1.set (b+6) (jB (h.iD.set g Ξ))
 have sv:HS m w b mb s2 (lj h g):=Ol hs g;have p1:Gm (.obj (b+5)) st=Δ (.d (nD g),s1):=by
  have hw5:st[b+5]?=Δ (.lst (h.wait.map λs=>P.d (nD s))):=hs.OY;have hx:(h.wait.map λs=>P.d (nD s))[(h.wait.map λs=>P.d (nD s)).length - 1]?=Δ (.d (nD g)):=by rw[ew];simp
  unfold Gm;simp only[hw5,hx,XM];congr 2;show st.set _ (O.lst _)=st.set _ (encL _);unfold encL;rw[List.map_dropLast]
 have Qb:s1[0]?=Δ (iu b):=by show(st.set _ _)[0]?=_;rw[W9 (by lia)];exact hs.self
 have s16:s1[b+6]?=Δ (jB h.iD):=by show(st.set _ _)[b+6]?=_;rw[W9 (by lia)];exact hs.iD
 have p2:nQ (.obj (b+6)) (.d (nD g)) (.d (.bl Ξ)) s1=Δ s2:=by rw[show nD g=.int (g:Int) from rfl,yh s16 (by simp;lia)];simp[s2,jB,acG]
 obtain⟨a',c1,c2,c3,c4⟩:=sv.mem g gl;have p3:aa (callC Fs (n+3)) (.lst Ξ (.keys (.ix (.attr "Groups" "members" 0) (.var 1)))) [Δ (.obj 0),Δ (.d (nD g)),y2,y3] s2=.ok (.d (.pl ((h.mem.getD g []).map nD))) s2:=by
  rw[dI,tz,bx,cZ rfl sv.self rfl,ae];have h1:=ij sv.Lk (i:=g) (p:=.obj a') (by rw[Xg,c1];rfl);have h2:sX s2 (.obj a')=Δ (a',(h.mem.getD g []).map λ(s:Nat)=>((.inl (s:Int):Sum Int Str),P.d (.bl Λ))):=by have:s2[a']?=Δ (.dK ((h.mem.getD g []).map λ(s:Nat)=>((.inl (s:Int):Sum Int Str),P.d (.bl Λ)))):=c4;unfold sX;simp only[this]
  simp only[bc,Xm,Xn,XA,az,ae,nD,h1,h2];have h3:(((h.mem.getD g []).map λ(s:Nat)=>((.inl (s:Int):Sum Int Str),P.d (.bl Λ))).map λkv=>xN kv.1)=(h.mem.getD g []).map λs=>P.d (nD s):=by rw[aas];rfl
  rw[h3,gZ];rfl
 let T:=h.mem.getD g []
 obtain⟨outer,o1,o2,o3⟩:=sv.src;obtain⟨r',sF,eF,⟨Tv,z1⟩,R1,hF,RF,z2,z3,z4,z5⟩:=k7 (g:=je (.nm 3)) (b:=aj (callC Fs (n+3)) iV) (ps:=(W7 w).map λk:Nat=>P.d (.int (k:Int))) (k:=0) (r:=[Δ (.obj 0),Δ (.d (nD g)),Δ (.d (.pl (T.map nD))),y3]) (st:=s2)
  (I:=λk r s=>(∃y3,r=[Δ (.obj 0),Δ (.d (nD g)),Δ (.d (.pl (T.map nD))),y3])/\∃vc h' R',h'=eB m T (W7 k) (lj h g)/\HS m w b vc s h'/\j0 w m T R' h'/\vE h')
  (λi p r s ⟨⟨y3,h1⟩,vc,h',R',c1,c2,c3,c4⟩ hp=>by
   rw[Yg] at c1 ⊢;subst h1;have hi:i < w:=by
    rw[Xg] at hp;by_cases z:i < w;·exact z
    ·rw[XI (by simpa using z)] at hp;cases hp
   have Fw:p=.d (.int (i:Int)):=by rw[Xg,Zq hi] at hp;cases hp;rfl
   subst Fw;obtain⟨R3,st2,e1,e2⟩:=oE n ok hm c2 c3 c4 hi hT gnd glt;obtain⟨j1,j2,_,_⟩:=qJ ok hi hT gnd c3 c4;refine⟨_,[Δ (.obj 0),Δ (.d (nD g)),Δ (.d (.pl (T.map nD))),Δ (.d (.int (i:Int)))],st2,rfl,ag (mQ (v:=.d .bu) (oz rfl c2.self rfl (ps:=[.d (.pl (T.map nD)),.d (nD i)]) (st1:=s) (by simp[nD]) e1)) av,⟨_,rfl⟩,R3,_,_,?_,e2,j1,j2⟩;rw[YO];unfold eB at c1 ⊢;rw[ZT,<-c1];rfl)
  ⟨⟨y3,rfl⟩,mb,lj h g,_,by simp[eB],sv,ip,hn⟩
 subst z1;rw[Xc,XX,Yg] at z2;refine⟨Δ (.d (nD g)),Δ (.d (.pl (T.map nD))),Tv,R1,sF,?_,by
  have:hF=oy m w h:=by rw[z2];unfold oy;rw[eg]
  rw[<-this];exact z3⟩
 refine ag (bT (v:=.d (nD g)) (st1:=s1) ?_) ?_;·rw[tp,cZ rfl hs.self rfl,ae,p1,az,ae]
 refine ag (om (x:=.obj (b+6)) (k:=.d (nD g)) (v:=.d (.bl Ξ)) (st1:=s1) (st2:=s1) (st3:=s1) (by simp) (cZ rfl Qb rfl) (by simp) p2) ?_;refine ag (bT (v:=.d (.pl (T.map nD))) (st1:=s2) p3) ?_;refine ag (gc (ps:=(W7 w).map λk:Nat=>P.d (.int (k:Int))) (st1:=s2) (dh ?_ (by lia)) eF) av;rw[cD,ay,cZ rfl sv.self rfl,ae,aE,ae,ae,gT o1,az];simp[o2]
theorem AJ n(ok:fU w m)(hm:m.length<=100000)(hw:w<=1000)(hs:HS m w b mb st h)(hc:uD w m h)(hK:h.wait.length+(m.length+2 - h.mem.length)<=K)(hK2:K < 1000000):
  ∃vc aM,callC Fs (n+4) 25 [.obj 0] st=.ok (.d .bu) aM/\HS m w b vc aM (settle m w K h):=by
 obtain⟨r',sF,eF,R1,zF⟩:=pV (c:=cg (aa (callC Fs (n+3)) (.cmp .gt (.bf .len [.attr "Groups" "waiting" 0]) (.cst (.int 0))))) (b:=aj (callC Fs (n+3)) fi)
  (I:=λk r s=>(∃y1 y2 y3,r=[Δ (.obj 0),y1,y2,y3])/\∃vc h',HS m w b vc s h'/\uD w m h'/\h'.wait.length+(m.length+2 - h'.mem.length)<=k/\settle m w k h'=settle m w K h)
  (E:=λr s=>∃vc,HS m w b vc s (settle m w K h))
  (λk r s ⟨⟨y1,y2,y3,h1⟩,vc,h',c1,c2,c3,c4⟩=>by
   subst h1;have ec:cg (aa (callC Fs (n+3)) (.cmp .gt (.bf .len [.attr "Groups" "waiting" 0]) (.cst (.int 0)))) [Δ (.obj 0),y1,y2,y3] s=.ok (decide (0 < h'.wait.length)) s:=by unfold cg;rw[cj,cD,ay,cZ rfl c1.self rfl];simp[gT c1.OY]
   by_cases O0:h'.wait=[]
   ·refine .inl ⟨by rw[ec,O0];rfl,vc,?_⟩;have:settle m w k h'=h':=by cases k with|zero=>rfl|succ k=>unfold Y.settle;rw[if_pos O0]
    rw[<-c4,this];exact c1
   ·have JB:0 < h'.wait.length:=List.length_pos_iff.mpr O0;obtain⟨j,rfl⟩:∃j,k=j+1:=Nat.exists_eq_succ_of_ne_zero (Yk (Xx JB (XW (ZA ..) c3)));obtain⟨y1',y2',Tv,R3,st2,e1,e2⟩:=Ex n ok hm hw c1 c2 O0 y1 y2 y3;obtain⟨t1,t2,t3⟩:=As ok c2 O0;have b1:=vE.bound t1.1 t1.2;have b2:=vE.bound c2.1 c2.2;refine .inr ⟨j,rfl,by rw[ec,decide_eq_true JB],_,st2,e1,⟨_,_,_,rfl⟩,R3,_,e2,t1,Hj c3 t2 b1,?_⟩;rw[<-c4]
    conv=>rhs;unfold Y.settle
    rw[if_neg O0])
  dQ (k:=K) (r:=[Δ (.obj 0),Θ,Θ,Θ]) (st:=st) ⟨⟨_,_,_,rfl⟩,mb,h,hs,hc,hK,rfl⟩ (by unfold dQ;lia)
 exact⟨R1,sF,k8 p5 rfl rfl (r:=r') (ag (C6 eF) av),zF⟩
end
theorem lx{α:Type}{f:Nat->List α}{L:Nat}(hL:∀a,(f a).length=L):∀w,((W7 w).flatMap f).length=w*L
 |0=>by simp|w+1=>by rw[YO,ZY,Xs,lx hL w];simp[hL,ab9]
theorem AK{α:Type}{f:Nat->List α}{L:Nat}(hL:∀a,(f a).length=L):∀(w a t),a < w->t < L->((W7 w).flatMap f)[a*L+t]?=(f a)[t]?
 |0,a,t,h,_=>absurd h (ZM _)|w+1,a,t,h,ht=>by
  rw[YO,ZY];by_cases e:a < w;·have:(a+1)*L<=w*L:=Nat.mul_le_mul_right L e;rw[ab9] at this;rw[Xb (by rw[lx hL];lia)];exact AK hL w a t e ht
  ·have e':a=w:=by lia
   subst e';rw[Xu (by rw[lx hL];lia),lx hL,show a*L+t - a*L=t by lia];simp
section
variable{m:dR}{w:Nat}
def B8(m:dR)(a:Nat):aN:=jd m a m.length++[lW (1+a*(m.length+1)) m.length]
theorem AL a:(B8 m a).length=m.length+1:=by simp[B8,dj]
def yu(m:dR)(w:Nat):aN:=(W7 w).flatMap (B8 m)
theorem iz:(yu m w).length=w*(m.length+1):=lx AL w
def outs(m:dR)(w:Nat):List Nat:=(W7 w).map λa=>1+a*(m.length+1)+m.length
abbrev stI(m:dR)(w:Nat)(fs:List (Str×P))(L:aN):aN:=O.ins "Groups" fs::(yu m w++L)
theorem fV{L:aN}(hb:b=1+w*(m.length+1)):(stI m w fs L)[b+k]?=L[k]?:=by
 subst hb;rw[show 1+w*(m.length+1)+k=w*(m.length+1)+k+1 by lia,Xn,Xu (by rw[iz];lia),iz];congr 1
 lia
theorem Dj{L:aN}(hb:b=1+w*(m.length+1)):(stI m w fs L).set (b+k) o=stI m w fs (L.set k o):=by subst hb;rw[show 1+w*(m.length+1)+k=w*(m.length+1)+k+1 by lia,List.set_cons_succ,aaY _ _ (by rw[iz];lia),iz,show w*(m.length+1)+k - w*(m.length+1)=k by lia]
theorem iW{L:aN}(hb:b=1+w*(m.length+1)):(stI m w fs L).length=b+L.length:=by subst hb;rw[Xq,Xs,iz];lia
theorem Ey n(ok:fU w m)(hm:m.length<=100000)(hw:w<=1000):∃aM,callC Fs (n+2) 21 [.obj 0,.d (mD m)] [.ins "Groups" []]=.ok (.d .bu) aM/\HS m w (1+w*(m.length+1)) [1+w*(m.length+1)+2,1+w*(m.length+1)+3] aM (jc m):=by
 obtain⟨b,hb⟩:∃b,b=1+w*(m.length+1):=⟨_,rfl⟩;rw[<-hb];have eS:aX (callC Fs (n+1)) (.comp (.iB [.bf .len [.ix (.ix (.var 1) (.cst (.int 0))) (.cst (.int 1))]]) 1 [1] Θ (.call 0 [.var 1,.var 0])) [Δ (.obj 0),Δ (.d (mD m)),Θ,Θ] [.ins "Groups" []]
   =.ok ((outs m w).map P.obj) (stI m w [] []):=by
  rw[Ac];have ew:cx (callC Fs (n+1)) (.iB [.bf .len [.ix (.ix (.var 1) (.cst (.int 0))) (.cst (.int 1))]]) [Δ (.obj 0),Δ (.d (mD m)),Θ,Θ] [.ins "Groups" []]=.ok ((W7 w).map λk:Nat=>P.d (.int (k:Int))) [.ins "Groups" []]:=by refine dh ?_ (by lia);have h0:oY (m.map gf) 0=Δ (gf (row m 0)):=G7 ok.ne;have hl:=ok.len _ (bZ ok.ne);simp[mD,h0,gf,wD,hl]
  rw[ew,ae,if_pos (by simp[aw];lia)];obtain⟨zs,aM,e,q1,q2⟩:=pW (g:=λp=>Δ p::bO [1] [Δ (.obj 0),Δ (.d (mD m)),Θ,Θ]) (c:=bC (callC Fs (n+1)) Θ) (e:=λr' aM=>aa (callC Fs (n+1)) (.call 0 [.var 1,.var 0]) r' aM)
   (I:=λk ys s=>ys=((W7 k).map λa=>1+a*(m.length+1)+m.length).map P.obj/\s=O.ins "Groups" []::yu m k) (ps:=(W7 w).map λk:Nat=>P.d (.int (k:Int))) (k:=0) (ys:=[]) (st:=[.ins "Groups" []])
   (λi p ys s ⟨h1,h2⟩ hp=>by
    rw[Yg] at h1 h2 ⊢;subst h1 h2;have hi:i < w:=by
     rw[Xg] at hp;by_cases z:i < w;·exact z
     ·rw[XI (by simpa using z)] at hp;cases hp
    rw[Xg,Zq hi] at hp;cases hp;have sl:(O.ins "Groups" []::yu m i).length=1+i*(m.length+1):=by rw[Xq,iz];lia
    have e1:=yt ok hm n i hi (O.ins "Groups" []::yu m i);rw[sl] at e1;refine⟨.obj (1+i*(m.length+1)+m.length),O.ins "Groups" []::yu m i++jd m i m.length++[lW (1+i*(m.length+1)) m.length],by simp,?_,?_⟩;·show aa _ (.call _ [.var 1,.var 0]) [Δ (.d (.int (i:Int))),Δ (.d (mD m))] _=_;simp only[jR,ay,aE,bc,Xm,Xn,XA,az,ae];exact e1
    ·refine⟨by rw[YO,X2,X2];rfl,?_⟩;unfold yu;rw[YO,ZY];simp[B8]) ⟨by simp,by simp[yu]⟩
  rw[e];simp only[Zn,Yg,Xc,XX] at q1 q2;rw[q1,q2];show R.ok _ _=R.ok _ (O.ins "Groups" []::(yu m w++[]));rw[Ya];rfl
 let L1:aN:=[.lst ((outs m w).map P.obj)]
 let L2:aN:=L1++[encL (m.map (·.1))]
 let L3 (x y:List Nat):aN:=L2++[encM x,encM y,.lst [.obj (b+2),.obj (b+3)]]
 have f1:aP (callC Fs (n+1)) (.lT "Groups" "sources" 0 (.lst Λ (.comp (.iB [.bf .len [.ix (.ix (.var 1) (.cst (.int 0))) (.cst (.int 1))]]) 1 [1] Θ (.call 0 [.var 1,.var 0])))) [Δ (.obj 0),Δ (.d (mD m)),Θ,Θ] [.ins "Groups" []]
   =.ok (.nx [Δ (.obj 0),Δ (.d (mD m)),Θ,Θ]) (stI m w [("sources",.obj b)] L1):=by
  refine(uq (v:=.obj b) (x:=.obj 0) (st1:=stI m w [] L1) (n:=0) (fs:=[]) ?_ rfl rfl (by simp)).trans rfl;rw[iR,eS,ae,iW hb];simp[L1]
 have eG:aX (callC Fs (n+1)) (.comp (.ex (.var 1)) 1 [] Θ (.ix (.var 0) (.cst (.int 0)))) [Δ (.obj 0),Δ (.d (mD m)),Θ,Θ] (stI m w [("sources",.obj b)] L1)=.ok (m.map λs=>P.d (nD s.1)) (stI m w [("sources",.obj b)] L1):=by
  refine ig (g:=λs=>P.d (gf s)) (f:=λs=>nD s.1) (xs:=m) ?_ (by unfold aw;lia) λs hs=>?_;·simp[mD]
  ·simp[gf,bO]
 have f2:aP (callC Fs (n+1)) (.lT "Groups" "group_of" 0 (.lst Λ (.comp (.ex (.var 1)) 1 [] Θ (.ix (.var 0) (.cst (.int 0)))))) [Δ (.obj 0),Δ (.d (mD m)),Θ,Θ] (stI m w [("sources",.obj b)] L1)
   =.ok (.nx [Δ (.obj 0),Δ (.d (mD m)),Θ,Θ]) (stI m w [("sources",.obj b),("group_of",.obj (b+1))] L2):=by
  refine(uq (v:=.obj (b+1)) (x:=.obj 0) (st1:=stI m w [("sources",.obj b)] L2) (n:=0) (fs:=[("sources",.obj b)]) ?_ rfl rfl (by simp)).trans rfl;rw[iR,eG,ae,iW hb];simp[L1,L2,encL,Yn]
 have f3:aP (callC Fs (n+1)) (.lT "Groups" "members" 0 (.lst Λ (.e7 [.pd Ξ,.pd Ξ]))) [Δ (.obj 0),Δ (.d (mD m)),Θ,Θ] (stI m w [("sources",.obj b),("group_of",.obj (b+1))] L2)
   =.ok (.nx [Δ (.obj 0),Δ (.d (mD m)),Θ,Θ]) (stI m w [("sources",.obj b),("group_of",.obj (b+1)),("members",.obj (b+4))] (L3 [] [])):=by
  refine(uq (v:=.obj (b+4)) (x:=.obj 0) (st1:=stI m w [("sources",.obj b),("group_of",.obj (b+1))] (L3 [] [])) (n:=0) (fs:=[("sources",.obj b),("group_of",.obj (b+1))]) ?_ rfl rfl (by simp)).trans rfl;have l1:=iW (fs:=[("sources",P.obj b),("group_of",.obj (b+1))]) (L:=L2) hb;have l2:L2.length=2:=rfl;rw[iR,eJ,ay,g9,ae,ay,g9,ae,aE,ae,ae];simp only[XR,if_false,Xs,l1,l2,Xq,Y8,ae,aw,Nat.reduceAdd,Nat.reduceLeDiff,if_true];show R.ok (P.obj (b+2+1+1)) _=_;congr 1;·show _=stI m w _ (L3 [] []);simp[L3,encM,stI]
 obtain⟨r',sF,eF,⟨y2,y3,z1⟩,z2⟩:=k7 (g:=je (.two 2 3)) (b:=aj (callC Fs (n+1)) gL) (ps:=dS 0 (m.map gf)) (k:=0) (r:=[Δ (.obj 0),Δ (.d (mD m)),Θ,Θ]) (st:=stI m w [("sources",.obj b),("group_of",.obj (b+1)),("members",.obj (b+4))] (L3 [] []))
  (I:=λk r s=>(∃y2 y3,r=[Δ (.obj 0),Δ (.d (mD m)),y2,y3])/\s=stI m w [("sources",.obj b),("group_of",.obj (b+1)),("members",.obj (b+4))] (L3 ((W7 k).filter λs=>decide (gd m s=0)) ((W7 k).filter λs=>decide (gd m s=1))))
  (λi p r s ⟨⟨y2,y3,h1⟩,h2⟩ hp=>by
   rw[Yg] at h2 ⊢;subst h1 h2;rw[pX,Xg] at hp;have hi:i < m.length:=by
    by_cases z:i < m.length;·exact z
    ·rw[XI (by lia)] at hp;simp at hp
   rw[B2 hi] at hp;simp only[XM,abE,Yg] at hp;subst hp;have hg:gd m i=0\/gd m i=1:=by
    have:gd m i<=1:=ok.good _ (bZ hi)
    lia
   have nin:∀g,i∉(W7 i).filter λs=>decide (gd m s=g):=λg z=>by rw[Yl,Ym] at z;lia
   have fl:∀g,((W7 i).filter λs=>decide (gd m s=g)).length < aw:=λg=>by have:=ZJ (λs=>decide (gd m s=g)) (W7 i);rw[XX] at this;unfold aw;lia
   have nx:∀g,(W7 (i+1)).filter (λs=>decide (gd m s=g))=(W7 i).filter (λs=>decide (gd m s=g))++if gd m i=g then[i] else[]:=λg=>by rw[YO,aaa];congr 1;by_cases e:gd m i=g<;>simp[e]
   generalize WC:(W7 i).filter (λs=>decide (gd m s=0))=X0 at*;generalize J6:(W7 i).filter (λs=>decide (gd m s=1))=X1 at*;have n0:=nin 0;rw[WC] at n0;have n1:=nin 1;rw[J6] at n1;have l0:=fl 0;rw[WC] at l0;have l1:=fl 1;rw[J6] at l1;have x0:=nx 0;rw[WC] at x0;have x1:=nx 1;rw[J6] at x1;have g2:(stI m w [("sources",.obj b),("group_of",.obj (b+1)),("members",.obj (b+4))] (L3 X0 X1))[b+2]?=Δ (encM X0):=by rw[fV hb];rfl
   have g3:(stI m w [("sources",.obj b),("group_of",.obj (b+1)),("members",.obj (b+4))] (L3 X0 X1))[b+3]?=Δ (encM X1):=by rw[fV hb];rfl
   have g4:(stI m w [("sources",.obj b),("group_of",.obj (b+1)),("members",.obj (b+4))] (L3 X0 X1))[b+4]?=Δ (.lst [.obj (b+2),.obj (b+3)]):=by rw[fV hb];rfl
   have ea:∀(r:b9),(r[0]?).join=Δ (.obj 0)->aa (callC Fs (n+1)) (.attr "Groups" "members" 0) r (stI m w [("sources",.obj b),("group_of",.obj (b+1)),("members",.obj (b+4))] (L3 X0 X1))=.ok (.obj (b+4)) (stI m w [("sources",.obj b),("group_of",.obj (b+1)),("members",.obj (b+4))] (L3 X0 X1)):=λr hr=>by rw[C5,hr,az,ae];rfl
   have ss0:∀o,(stI m w [("sources",.obj b),("group_of",.obj (b+1)),("members",.obj (b+4))] (L3 X0 X1)).set (b+2) (encM o)=stI m w [("sources",.obj b),("group_of",.obj (b+1)),("members",.obj (b+4))] (L3 o X1):=λo=>by rw[Dj hb];rfl
   have ss1:∀o,(stI m w [("sources",.obj b),("group_of",.obj (b+1)),("members",.obj (b+4))] (L3 X0 X1)).set (b+3) (encM o)=stI m w [("sources",.obj b),("group_of",.obj (b+1)),("members",.obj (b+4))] (L3 X0 o):=λo=>by rw[Dj hb];rfl
   have er:gf (row m i)=.tup [nD (gd m i),wD (row m i).2]:=rfl;generalize hS:stI m w [("sources",.obj b),("group_of",.obj (b+1)),("members",.obj (b+4))] (L3 X0 X1)=S at*;refine⟨_,[Δ (.obj 0),Δ (.d (mD m)),Δ (.d (nD i)),Δ (.d (gf (row m i)))],_,rfl,?_,⟨_,_,rfl⟩,rfl⟩;rcases hg with hg|hg
   ·have p:=uH g2 n0 l0;refine ag (om (x:=.obj (b+2)) (k:=.d (nD i)) (v:=.d (.bl Λ)) (st1:=S) (st2:=S) (st3:=S) (by simp) ?_ (by simp[nD]) p) ?_;·rw[bx,ea _ rfl,ae];have hx:=ij g4 (i:=0) (p:=.obj (b+2)) rfl;simp[er,hg,nD];exact congrArg (λo=>R.of o S) hx
    ·rw[av,ss0,x0,x1,if_pos hg,if_neg (by lia),Ya];rfl
   ·have p:=uH g3 n1 l1;refine ag (om (x:=.obj (b+3)) (k:=.d (nD i)) (v:=.d (.bl Λ)) (st1:=S) (st2:=S) (st3:=S) (by simp) ?_ (by simp[nD]) p) ?_;·rw[bx,ea _ rfl,ae];have hx:=ij g4 (i:=1) (p:=.obj (b+3)) rfl;simp[er,hg,nD];exact congrArg (λo=>R.of o S) hx
    ·rw[av,ss1,x0,x1,if_neg (by lia),if_pos hg,Ya];rfl)
  ⟨⟨Θ,Θ,rfl⟩,by simp⟩
 subst z1;rw[pY,Xc,Yg] at z2;generalize hX0:(W7 m.length).filter (λs=>decide (gd m s=0))=X0 at*;generalize hX1:(W7 m.length).filter (λs=>decide (gd m s=1))=X1 at*;subst z2
 let L4:aN:=L3 X0 X1++[encL [0,1]]
 let L5:aN:=L4++[jB [Λ,Λ]]
 have f4:aP (callC Fs (n+1)) (.lT "Groups" "waiting" 0 (.lst Λ (.e7 [.cst (.int 0),.cst (.int 1)]))) [Δ (.obj 0),Δ (.d (mD m)),y2,y3] (stI m w [("sources",.obj b),("group_of",.obj (b+1)),("members",.obj (b+4))] (L3 X0 X1))
   =.ok (.nx [Δ (.obj 0),Δ (.d (mD m)),y2,y3]) (stI m w [("sources",.obj b),("group_of",.obj (b+1)),("members",.obj (b+4)),("waiting",.obj (b+5))] L4):=by
  refine(uq (v:=.obj (b+5)) (x:=.obj 0) (st1:=stI m w [("sources",.obj b),("group_of",.obj (b+1)),("members",.obj (b+4))] L4) (n:=0) (fs:=[("sources",.obj b),("group_of",.obj (b+1)),("members",.obj (b+4))]) ?_ rfl rfl (by simp)).trans rfl;rw[iR,eJ,ay,cO,ae,ay,cO,ae,aE,ae,ae,ae,if_pos (by decide),ae,iW hb];show R.ok (P.obj (b+5)) _=_;congr 1;simp[L4,stI,encL,nD]
 have f5:aP (callC Fs (n+1)) (.lT "Groups" "waits" 0 (.lst Λ (.e7 [.cst (.bl Λ),.cst (.bl Λ)]))) [Δ (.obj 0),Δ (.d (mD m)),y2,y3] (stI m w [("sources",.obj b),("group_of",.obj (b+1)),("members",.obj (b+4)),("waiting",.obj (b+5))] L4)
   =.ok (.nx [Δ (.obj 0),Δ (.d (mD m)),y2,y3]) (stI m w (rg b) L5):=by
  refine(uq (v:=.obj (b+6)) (x:=.obj 0) (st1:=stI m w [("sources",.obj b),("group_of",.obj (b+1)),("members",.obj (b+4)),("waiting",.obj (b+5))] L5) (n:=0) (fs:=[("sources",.obj b),("group_of",.obj (b+1)),("members",.obj (b+4)),("waiting",.obj (b+5))]) ?_ rfl rfl (by simp)).trans rfl;rw[iR,eJ,ay,cO,ae,ay,cO,ae,aE,ae,ae,ae,if_pos (by decide),ae,iW hb];show R.ok (P.obj (b+6)) _=_;congr 1;simp[L5,stI,jB]
 refine⟨stI m w (rg b) L5,k8 m5 rfl rfl (r:=[Δ (.obj 0),Δ (.d (mD m)),y2,y3]) ?_,?_⟩;·refine ag f1 (ag f2 (ag f3 (ag (gc (ps:=dS 0 (m.map gf)) (st1:=stI m w [("sources",.obj b),("group_of",.obj (b+1)),("members",.obj (b+4))] (L3 [] [])) ?_ eF) (ag f4 (ag f5 av)))));simp[mD]
 ·refine⟨by rw[iW hb];simp[L5,L4,L3,L2,L1],by lia,rfl,?_,by rw[fV hb];rfl,by rw[fV hb];rfl,rfl,λg hg=>?_,by simp,by rw[fV hb];rfl,by rw[fV hb];rfl⟩
  ·refine⟨outs m w,by have:=fV (fs:=rg b) (L:=L5) (k:=0) hb;rw[Nat.add_zero] at this;rw[this];rfl,by simp[outs],λa ha=>?_⟩;have Tq:(a+1)*(m.length+1)<=w*(m.length+1):=Nat.mul_le_mul_right _ ha;rw[ab9] at Tq;have gA:∀t,t < m.length+1->(stI m w (rg b) L5)[1+a*(m.length+1)+t]?=(B8 m a)[t]?:=λt ht=>by rw[show 1+a*(m.length+1)+t=a*(m.length+1)+t+1 by lia,Xn,Xb (by rw[iz];lia)];exact AK AL w a t ha ht
   refine⟨1+a*(m.length+1)+m.length,(W7 m.length).map λt=>1+a*(m.length+1)+t,by simp[outs,ha],by lia,by lia,?_,λt ht=>⟨1+a*(m.length+1)+t,by simp[ht],by lia,by lia,?_⟩⟩;·rw[gA _ (by lia)];unfold B8;rw[Xu (by rw[dj];exact Xd _),dj];simp[lW,Yn]
   ·rw[gA _ (by lia)];unfold B8;rw[Xb (by rw[dj];exact ht),lr ht];rfl
  ·have Jq:g=0\/g=1:=by
    have:g < 2:=hg
    lia
   rcases Jq with e|e<;>subst e;·refine⟨b+2,rfl,.inl rfl,by rw[iW hb];simp[L5,L4,L3,L2,L1],?_⟩;rw[fV hb];show Δ (encM X0)=Δ (encM ((W7 m.length).filter _));rw[hX0]
   ·refine⟨b+3,rfl,.inr (.inl rfl),by rw[iW hb];simp[L5,L4,L3,L2,L1],?_⟩;rw[fV hb];show Δ (encM X1)=Δ (encM ((W7 m.length).filter _));rw[hX1]
end
def rF(grp:List Nat)(gs:List Nat):List (Sum Int Str×P):=gs.map λ(g:Nat)=>(.inl (g:Int),P.d (nD (grp.idxOf g)))
theorem Hs{g:Nat}(h:g∈gs):e8 (rF grp gs) (.inl (g:Int))=Δ (.d (nD (grp.idxOf g))):=by
 unfold e8 rF;induction gs with
 |nil=>cases h|cons x gs ih=>
  rw[Xi,Yu];by_cases e:x=g;·subst e;simp
  ·have:decide ((.inl (x:Int):Sum Int Str)=.inl (g:Int))=Ξ:=by rw[decide_eq_false_iff_not];intro z;injection z with z;exact e (by lia)
   simp only[this];exact ih ((Zy.mp h).resolve_left λz=>e z.symm)
theorem fd_none{g:Nat}(h:g∉gs):e8 (rF grp gs) (.inl (g:Int))=Θ:=by
 unfold e8 rF;have:(gs.map λ(g:Nat)=>((.inl (g:Int):Sum Int Str),P.d (nD (grp.idxOf g)))).find? (λkv=>decide (kv.1=.inl (g:Int)))=Θ:=by
  rw[abx];intro kv qv;obtain⟨x,hx,rfl⟩:=YQ.mp qv;have:x≠g:=λz=>h (z▸hx);simp
  lia
 rw[this];rfl
theorem AM n(ok:fU w m)(hm:m.length<=100000)(hw:w<=1000)st:callC Fs (n+5) 1 [.d (mD m)] st=.ok (.d (.pl ((W7 m.length).map λs=>nD (fst w m s)))) st:=by
 obtain⟨st1,e1,h1⟩:=Ey (n+2) ok hm hw;have bK:(jc m).wait.length+(m.length+2 - (jc m).mem.length)<=m.length+2:=by simp[jc];have:=ok.ne;lia
 obtain⟨mb,st2,e2,h2⟩:=AJ n ok hm hw h1 (uF ok) (K:=m.length+2) bK (by lia);obtain⟨calm,_⟩:=w8 ok;have qr:HS m w (1+w*(m.length+1)) mb st2 (iJ w m):=h2;generalize hb:1+w*(m.length+1)=b at*;have gl:(iJ w m).grp.length=m.length:=calm.1.rm;have Wp:=qr.len
 let grp:=(iJ w m).grp
 have R4:∀k,(bQ [] (grp.take k)).length < aw:=λk=>by
  have h1:(bQ ([]:List Nat) (grp.take k)).Nodup:=se (by simp);have h2:=fM h1 (xs:=grp.take k) λx hx=>by
   rcases dF.mp hx with z|z;·cases z
   ·exact z
  have h3:(grp.take k).length<=grp.length:=by rw[Zg];lia
  have h4:grp.length=m.length:=gl;unfold aw
  lia
 obtain⟨r',sF,eF,⟨y3,y4,z1⟩,z2⟩:=Ae (n:=b+1) (x:=3) (y:=4) (b:=aj (callC Fs (n+4)) jC) (xs:=grp.map λs=>P.d (nD s))
  (I:=λk r s=>(∃y3 y4,r=[Δ (.d (mD m)),Δ (.obj 0),Δ (.obj st2.length),y3,y4])/\s=st2++[O.dK (rF grp (bQ [] (grp.take k)))])
  (λi r s ⟨_,hs⟩=>by subst hs;rw[Xb (by lia)];exact qr.grp)
  (λi p r s ⟨⟨y3,y4,er⟩,hs⟩ hp=>by
   subst er hs;rw[Xg] at hp;cases Tw:grp[i]? with
   |none=>rw[Tw] at hp;cases hp|some g=>
    rw[Tw] at hp;cases hp;have Oj:grp.take (i+1)=grp.take i++[g]:=by rw[Y2,Tw];rfl
    have R5:bQ ([]:List Nat) (grp.take (i+1))=if g∈bQ [] (grp.take i) then bQ [] (grp.take i) else bQ [] (grp.take i)++[g]:=by rw[Oj];unfold bQ;rw[ZT];rfl
    have hD:(st2++[O.dK (rF grp (bQ [] (grp.take i)))])[st2.length]?=Δ (.dK (rF grp (bQ [] (grp.take i)))):=by simp
    have Om:bE (st2++[O.dK (rF grp (bQ [] (grp.take i)))]) (.obj st2.length)=Δ (.dK (rF grp (bQ [] (grp.take i)))):=by exact lN (by simp)
    have hl:(rF grp (bQ [] (grp.take i))).length < aw:=by unfold rF;rw[Xc];exact R4 i
    have hk:keyOf (.d (nD g))=Δ (.inl (g:Int)):=rfl;have Oo:∃v,qx (.obj st2.length) (.d (nD g)) (.d (.int (i:Int))) (st2++[O.dK (rF grp (bQ [] (grp.take i)))])=Δ (v,st2++[O.dK (rF grp (bQ [] (grp.take (i+1))))]):=by
     unfold qx;simp only[hD,hl,if_true,hk,XM];by_cases uJ:g∈bQ [] (grp.take i);·rw[R5,if_pos uJ,Hs uJ];exact⟨_,rfl⟩
     ·rw[R5,if_neg uJ,fd_none uJ];have hni:g∉grp.take i:=λz=>uJ (dF.mpr (.inr z));have hix:grp.idxOf g=i:=by
       obtain⟨WA,WB⟩:=qqz Tw;have e:grp=grp.take i++[g]++grp.drop (i+1):=by rw[<-Oj,aaf]
       conv=>lhs;rw[e]
       rw[Df hni,Zg];lia
      refine⟨.d (.int (i:Int)),?_⟩;dsimp only;rw[si (λkv qv=>by obtain⟨x,hx,rfl⟩:=YQ.mp qv;intro z;injection z with z;exact uJ ((show x=g by lia)▸hx))];congr 2;rw[aaY _ _ (by lia)];simp[rF,hix,nD]
    obtain⟨v,Oo⟩:=Oo;refine⟨[Δ (.d (mD m)),Δ (.obj 0),Δ (.obj st2.length),Δ (.d (.int (i:Int))),Δ (.d (nD g))],st2++[O.dK (rF grp (bQ [] (grp.take (i+1))))],?_,⟨_,_,rfl⟩,rfl⟩;refine ag (mQ (v:=v) (st1:=st2++[O.dK (rF grp (bQ [] (grp.take (i+1))))]) ?_) av;rw[kP];simp only[aax,bc,Xm,Xn,XA,az,ae,Om,Oo])
  dQ (i:=0) (r:=[Δ (.d (mD m)),Δ (.obj 0),Δ (.obj st2.length),Θ,Θ]) (st:=st2++[O.dK []]) ⟨⟨_,_,rfl⟩,by simp[rF,bQ]⟩ (Yj _) (by have:grp.length=m.length:=gl;rw[Xc];unfold dQ;lia)
 subst z1;rw[Xc,Y1 (Xd _)] at z2;subst z2
 let G:=bQ ([]:List Nat) grp
 have s0:(st2++[O.dK (rF grp G)])[0]?=Δ (iu b):=by rw[Xb (by lia)];exact qr.self
 have sg:(st2++[O.dK (rF grp G)])[b+1]?=Δ (.lst (grp.map λs=>P.d (nD s))):=by rw[Xb (by lia)];exact qr.grp
 have R6:∀(r:b9) (s:aN) (f:P) (s':aN),aa (callC Fs (n+4)) (.ix (.var 1) (.var 0)) r s=.ok f s'->s'=s:=λr s f s' h=>by rw[bx,bc] at h;cases h1:(r[1]?).join with|none=>rw[h1] at h;cases h|some x=>rw[h1,az,ae,bc] at h;cases h2:(r[0]?).join with|none=>rw[h2] at h;cases h|some y=>rw[h2,az,ae] at h;cases h3:A0 x y s with|none=>rw[h3] at h;cases h|some z=>rw[h3] at h;cases h;rfl
 have eC:aX (callC Fs (n+4)) (.cw (.attr "Groups" "group_of" 1) [2] Θ (.ix (.var 1) (.var 0))) [Δ (.d (mD m)),Δ (.obj 0),Δ (.obj st2.length),y3,y4] (st2++[O.dK (rF grp G)])=.ok (grp.map λg=>P.d (nD (grp.idxOf g))) (st2++[O.dK (rF grp G)]):=by
  rw[qA,cZ rfl s0 rfl,ae];dsimp only;rw[uo (xs:=grp.map λs=>P.d (nD s)) (λr s f s' h1 h2=>by rw[mJ] at h2;cases h2;exact h1) (λr s f s' h1 h2=>by rw[R6 r s f s' h2];exact h1) aw 0 _ sg (by have:grp.length=m.length:=gl;rw[Xc];unfold aw;lia),aam];refine mP (g:=λs=>P.d (nD s)) (f:=λg=>nD (grp.idxOf g)) (λx hx=>by simp) λx hx=>?_;have yF:x∈G:=dF.mpr (.inr hx);have hD:A0 (.obj st2.length) (.d (.int (x:Int))) (st2++[O.dK (rF grp G)])=Δ (.d (nD (grp.idxOf x))):=by
   have Om:bE (st2++[O.dK (rF grp G)]) (.obj st2.length)=Δ (.dK (rF grp G)):=by exact lN (by simp)
   unfold A0;rw[Om];show((keyOf (.d (.int (x:Int)))).map _).bind id=_;simp only[keyOf,XM,Ye,id];exact Hs yF
  show aa _ (.ix (.var 1) (.var 0)) [Δ (.d (nD x)),Δ (.obj st2.length)] _=_;simp only[bx,bc,Xm,Xn,XA,az,ae,nD,hD]
 refine call_of rA rfl (bS (p:=.d (.pl ((W7 m.length).map λs=>nD (fst w m s)))) (st:=st2++[O.dK (rF grp G)]) rfl ?_ rfl);refine ag (bT (v:=.obj 0) (st1:=st1) ?_) ?_;·rw[tq];simp only[ai,fe,ay,aE,bc,Xi,Zs,YU,Xm,XA,az,ae,Y8,Zn];rw[e1,ae]
 refine ag (mQ (v:=.d .bu) (st1:=st2) (oz rfl h1.self rfl (ps:=[]) (st1:=st1) (by simp) e2)) ?_;refine ag (bT (v:=.obj st2.length) (st1:=st2++[O.dK []]) (by simp)) ?_;refine ag (N8 (n:=b+1) (st1:=st2++[O.dK []]) (cZ rfl (by rw[Xb (by lia)];exact qr.self) rfl) eF) ?_;refine aA (bD ?_);rw[dI,eC,ae,gZ,az,ae];congr 3;apply abH;intro i;by_cases hi:i < m.length
 ·have vZ:i < grp.length:=by
   have:grp.length=m.length:=gl
   lia
  rw[Xg,W6 vZ,Xg,Zq hi];show Δ (nD (grp.idxOf grp[i]))=Δ (nD (fst w m i));unfold fst RU;rw[Xa,W6 (show i < (iJ w m).grp.length from vZ)];rfl
 ·rw[XI (by have:grp.length=m.length:=gl;simp;lia),XI (by simp;lia)]
section
variable{α:Type}[DecidableEq α](K:RY α){step:α->List α}{good:α->Nat}{S:List α}{start:α}
abbrev aR(ps:List α)(rows:dR):aN:=[K.qK ps,.lst (ps.map λp=>P.d (K.enc p)),.lst ((rows.map gf).map .d)]
theorem Oq(hn:ps.Nodup):jo .nM (.d (K.enc a)) (.obj 0) (aR K ps rows)=Δ (!decide (a∈ps)):=by
 have h1:bE (aR K ps rows) (.obj 0)=Δ (K.qK ps):=by show(if jn (K.qK ps) then Δ (K.qK ps) else Θ)=_;rw[K.Tp];rfl
 show(Gj (.d (K.enc a)) (.obj 0) (aR K ps rows)).map not=_;unfold Gj;rw[h1];simp only[K.get ps a hn,XM];by_cases h:a∈ps<;>simp[h]
theorem BW(hn:ps.Nodup)(ha:a∈ps):A0 (.obj 0) (.d (K.enc a)) (aR K ps rows)=Δ (.d (nD (ps.idxOf a))):=by
 have h1:bE (aR K ps rows) (.obj 0)=Δ (K.qK ps):=by show(if jn (K.qK ps) then Δ (K.qK ps) else Θ)=_;rw[K.Tp];rfl
 unfold A0;rw[h1];simp[K.get ps a hn,ha]
theorem Kk(ha:a∉ps)(hl:ps.length < aw):nQ (.obj 0) (.d (K.enc a)) (.d (nD ps.length)) (aR K ps rows)=Δ ([K.qK (ps++[a]),.lst (ps.map λp=>P.d (K.enc p)),.lst ((rows.map gf).map .d)]):=by
 have h1:zy (K.qK ps) (.d (K.enc a)) (.d (nD ps.length))=Δ (K.qK (ps++[a])):=by have hp:=K.put ps a ha hl;have hd:=K.Tp ps;unfold zy;cases e:K.qK ps with|lst xs=>rw[e] at hd;cases hd|_=>rw[e] at hp;exact hp
 unfold nQ;simp[h1]
theorem Ez n(pS:cC cS=Λ)(pG:cC cG=Λ)(hs:start∈S)(hS:∀p∈S,∀q∈step p,q∈S)(hSl:S.length<=900000)(hlen:∀p∈S,(step p).length<=1000)(eS:∀p∈S,∀st,callC Fs n kS (.d (K.enc p)::cS) st=.ok (.d (.pl ((step p).map K.enc))) st)(eG:∀p∈S,∀st,callC Fs n kG (.d (K.enc p)::cG) st=.ok (.d (nD (good p))) st)st:
  callC Fs (n+1) 6 [.d (K.enc start),.fn kS cS,.fn kG cG] st=.ok (.d (mD (ir step good (places step 1000000 start)))) st:=by
 let F:=places step 1000000 start
 let rw_:=Av step good F
 have b0:uG step S [start] 0:=⟨by simp,λp hp=>by simp at hp;rw[hp];exact hs,by simp,λi p hi=>by lia⟩
 let r0 (y6 y7 y8:Option P):b9:=[Δ (.d (K.enc start)),Δ (.fn kS cS),Δ (.fn kG cG),Δ (.obj 0),Δ (.obj 1),Δ (.obj 2),y6,y7,y8]
 obtain⟨r',sF,eF,⟨y6,y7,y8,z1⟩,z2⟩:=pV (c:=cg (aa (callC Fs n) (.cmp .lt (.bf .len [.var 5]) (.bf .len [.var 4])))) (b:=aj (callC Fs n) jD)
  (I:=λk r s=>(∃y6 y7 y8,r=r0 y6 y7 y8)/\∃ps j f,uG step S ps j/\yJ step f ps j=F/\S.length+1<=f+j/\k=S.length - j/\s=aR K ps ((ps.take j).map rw_))
  (E:=λr s=>(∃y6 y7 y8,r=r0 y6 y7 y8)/\s=aR K F (F.map rw_))
  (λk r s ⟨⟨y6,y7,y8,h1⟩,ps,j,f,bi,R7,hf,hk,qg⟩=>by
   subst h1 qg;have bl:=bi.len;have jl:=bi.le;have tl:((ps.take j).map rw_).length=j:=by rw[Xc,Zg];lia
   have l2:(aR K ps ((ps.take j).map rw_))[2]?=Δ (.lst ((((ps.take j).map rw_).map gf).map .d)):=rfl;have l1:(aR K ps ((ps.take j).map rw_))[1]?=Δ (.lst (ps.map λp=>P.d (K.enc p))):=rfl;have n2:oP .len [.obj 2] (aR K ps ((ps.take j).map rw_))=Δ (.d (.int (j:Int))):=by rw[gT l2];simp;lia
   have n1:oP .len [.obj 1] (aR K ps ((ps.take j).map rw_))=Δ (.d (.int (ps.length:Int))):=by rw[gT l1];simp
   have ec:cg (aa (callC Fs n) (.cmp .lt (.bf .len [.var 5]) (.bf .len [.var 4]))) (r0 y6 y7 y8) (aR K ps ((ps.take j).map rw_))=.ok (decide (j < ps.length)) (aR K ps ((ps.take j).map rw_)):=by
    unfold cg;simp only[cj,cD,ay,aE,bc,r0,Xm,Xn,XA,az,ae,n1,n2,N3,N2];congr 1;by_cases h:j < ps.length;·rw[decide_eq_true h,decide_eq_true (by lia)]
    ·rw[decide_eq_false h,decide_eq_false (by lia)]
   by_cases hj:j < ps.length
   ·
    obtain⟨p,hp⟩:∃p,ps[j]?=Δ p:=⟨ps[j],W6 hj⟩;have Tx:=bi.sub p (Xw hp);obtain⟨f',rfl⟩:∃f',f=f'+1:=Wj hf hj bl;have R8:yJ step f' (bQ ps (step p)) (j+1)=F:=by rw[yJ,hp] at R7;exact R7
    have bn:=bi.next hS hp;obtain⟨t1,et1⟩:=sf step f' (bQ ps (step p)) (j+1);obtain⟨t2,et2⟩:=gh (step p) ps;have bnl:=bn.len;have loop:∀(ss qs:List α) (y8:Option P),qs.Nodup->(∀q∈qs,q∈S)->(∀q∈ss,q∈S)->∃Kl,forL (je (.nm 8)) (aj (callC Fs n) dM) ((ss.map K.enc).map .d) (r0 (Δ (.d (K.enc p))) (Δ (.d (.pl ((step p).map K.enc)))) y8) (aR K qs ((ps.take j).map rw_))
      =.ok (.nx (r0 (Δ (.d (K.enc p))) (Δ (.d (.pl ((step p).map K.enc)))) Kl)) (aR K (bQ qs ss) ((ps.take j).map rw_)):=by
     intro ss;induction ss with
     |nil=>intro qs y8 _ _ _;exact⟨y8,rfl⟩|cons s ss ih=>
      intro qs y8 hq WD uC;have ql:=fM hq WD;rw[Xi,Xi,forL,je,az,ae,jA];have en:=Oq K (rows:=(ps.take j).map rw_) (a:=s) hq;by_cases uJ:s∈qs
      ·rw[if_pos uJ];obtain⟨Kl,e⟩:=ih qs (Δ (.d (K.enc s))) hq WD λq yR=>uC q (W5 _ yR);refine⟨Kl,?_⟩;have eb:aj (callC Fs n) dM ((r0 (Δ (.d (K.enc p))) (Δ (.d (.pl ((step p).map K.enc)))) y8).set 8 (Δ (.d (K.enc s)))) (aR K qs ((ps.take j).map rw_))=.ok (.nx (r0 (Δ (.d (K.enc p))) (Δ (.d (.pl ((step p).map K.enc)))) (Δ (.d (K.enc s))))) (aR K qs ((ps.take j).map rw_)):=by refine ag (dg (st1:=aR K qs ((ps.take j).map rw_)) ?_ av) av;simp only[cj,bc,r0,aax,Xm,Xn,XA,az,ae,en];simp[uJ]
       rw[eb,ae];exact e
      ·rw[if_neg uJ];have sS:=uC s W8;have yR:(qs++[s]).Nodup:=by rw[X5];exact⟨hq,by simp,λa ha b hb=>by simp at hb;subst hb;exact λz=>uJ (z▸ha)⟩
       obtain⟨Kl,e⟩:=ih (qs++[s]) (Δ (.d (K.enc s))) yR (λq hq2=>by
        rcases aaA.mp hq2 with z|z;·exact WD q z
        ·simp at z;rw[z];exact sS) λq yR=>uC q (W5 _ yR)
       refine⟨Kl,?_⟩;have hp1:=Kk K (ps:=qs) (rows:=(ps.take j).map rw_) uJ (by unfold aw;lia);have nl:oP .len [.obj 1] (aR K qs ((ps.take j).map rw_))=Δ (.d (nD qs.length)):=by rw[gT (show(aR K qs ((ps.take j).map rw_))[1]?=Δ (.lst (qs.map λp=>P.d (K.enc p))) from rfl)];simp[nD]
       have eb:aj (callC Fs n) dM ((r0 (Δ (.d (K.enc p))) (Δ (.d (.pl ((step p).map K.enc)))) y8).set 8 (Δ (.d (K.enc s)))) (aR K qs ((ps.take j).map rw_))=.ok (.nx (r0 (Δ (.d (K.enc p))) (Δ (.d (.pl ((step p).map K.enc)))) (Δ (.d (K.enc s))))) (aR K (qs++[s]) ((ps.take j).map rw_)):=by
        refine ag (dw (st1:=aR K qs ((ps.take j).map rw_)) ?_ (ag (om (x:=.obj 0) (k:=.d (K.enc s)) (v:=.d (nD qs.length)) (st1:=aR K qs ((ps.take j).map rw_)) (st2:=aR K qs ((ps.take j).map rw_)) (st3:=aR K qs ((ps.take j).map rw_)) ?_ ?_ ?_ hp1) (ag (oj (x:=.obj 1) (v:=.d (K.enc s)) (its:=qs.map λp=>P.d (K.enc p)) (st1:=[K.qK (qs++[s]),.lst (qs.map λp=>P.d (K.enc p)),.lst ((((ps.take j).map rw_).map gf).map .d)]) (st2:=[K.qK (qs++[s]),.lst (qs.map λp=>P.d (K.enc p)),.lst ((((ps.take j).map rw_).map gf).map .d)]) (st3:=aR K (qs++[s]) ((ps.take j).map rw_)) ?_ rfl ?_ ?_) av))) av;·simp only[cj,bc,r0,aax,Xm,Xn,XA,az,ae,en];simp[uJ]
        ·simp only[cD,ay,aE,bc,r0,aax,Xm,Xn,XA,az,ae,nl]
        ·simp[r0]
        ·simp[r0]
        ·simp[r0]
        ·simp[r0]
        ·rw[iS (n:=1) (xs:=qs.map λp=>P.d (K.enc p)) rfl (by rw[Xc];unfold aw;lia)];simp[aR]
       rw[eb,ae];exact e
    obtain⟨Kl,el⟩:=loop (step p) ps y8 bi.nd bi.sub (hS p Tx);have WE:gf (rw_ p)=.tup [nD (good p),.tup ((step p).map λq=>nD ((bQ ps (step p)).idxOf q))]:=by show D.tup [nD (good p),wD ((step p).map λq=>F.idxOf q)]=_;unfold wD;rw[aas];congr 4;apply List.map_congr_left;intro q hq;have yR:q∈bQ ps (step p):=dF.mpr (.inr hq);show nD (F.idxOf q)=_;rw[<-R8,et1,yp yR]
    have Oj:(bQ ps (step p)).take (j+1)=ps.take j++[p]:=by rw[et2,List.take_append_of_le_length (by lia),Y2,hp];rfl
    refine .inr ⟨S.length - (j+1),Wk hk bl hj,by rw[ec,decide_eq_true hj],r0 (Δ (.d (K.enc p))) (Δ (.d (.pl ((step p).map K.enc)))) Kl,aR K (bQ ps (step p)) (((bQ ps (step p)).take (j+1)).map rw_),?_,⟨_,_,_,rfl⟩,bQ ps (step p),j+1,f',bn,R8,by lia,rfl,rfl⟩;have hpx:=ij l1 (i:=j) (p:=.d (K.enc p)) (by rw[Xg,hp];rfl);refine ag (bT (v:=.d (K.enc p)) (st1:=aR K ps ((ps.take j).map rw_)) ?_) ?_;·simp only[bx,cD,ay,aE,bc,r0,Xm,Xn,XA,az,ae,n2,hpx]
    refine ag (bT (v:=.d (.pl ((step p).map K.enc))) (st1:=aR K ps ((ps.take j).map rw_)) ?_) ?_;·rw[Ab];simp only[r0,aax,ay,aE,bc,Xm,Xn,XA,az,ae,YU,Zn];exact eS p Tx _
    refine ag (gc (ps:=((step p).map K.enc).map .d) (st1:=aR K ps ((ps.take j).map rw_)) (by simp[r0]) el) ?_;refine ag (oj (x:=.obj 2) (v:=.d (gf (rw_ p))) (its:=(((ps.take j).map rw_).map gf).map .d) (st1:=aR K (bQ ps (step p)) ((ps.take j).map rw_)) (st2:=aR K (bQ ps (step p)) ((ps.take j).map rw_)) (st3:=aR K (bQ ps (step p)) (((bQ ps (step p)).take (j+1)).map rw_)) (by simp[r0]) rfl ?_ ?_) av
    ·have e1:aa (callC Fs n) (.nN 2 [.var 6]) (r0 (Δ (.d (K.enc p))) (Δ (.d (.pl ((step p).map K.enc)))) Kl) (aR K (bQ ps (step p)) ((ps.take j).map rw_))=.ok (.d (nD (good p))) (aR K (bQ ps (step p)) ((ps.take j).map rw_)):=by rw[Ab];simp only[r0,ay,aE,bc,Xm,Xn,XA,az,ae,YU,Zn];exact eG p Tx _
     have e2:aX (callC Fs n) (.comp (.ex (.var 7)) 1 [3] Θ (.ix (.var 1) (.var 0))) (r0 (Δ (.d (K.enc p))) (Δ (.d (.pl ((step p).map K.enc)))) Kl) (aR K (bQ ps (step p)) ((ps.take j).map rw_))=.ok ((step p).map λq=>P.d (nD ((bQ ps (step p)).idxOf q))) (aR K (bQ ps (step p)) ((ps.take j).map rw_)):=by
      have yD:=hlen p Tx;refine ig (g:=λq=>P.d (K.enc q)) (f:=λq=>nD ((bQ ps (step p)).idxOf q)) (xs:=step p) ?_ (by unfold aw;lia) λq hq=>?_;·simp[r0]
      ·have:=BW K (rows:=(ps.take j).map rw_) (a:=q) bn.nd (dF.mpr (.inr hq));show aa _ (.ix (.var 1) (.var 0)) [Δ (.d (K.enc q)),Δ (.obj 0)] _=_;simp only[bx,bc,Xm,Xn,XA,az,ae,this]
     rw[WE,wc,ay,e1,ae,ay,cD,ay,dI,e2,ae,gZ];simp[aw]
    ·rw[Oj,X2];have hl3:((((ps.take j).map rw_).map gf).map P.d).length < aw:=by rw[Xc,Xc,tl];unfold aw;lia
     rw[iS (n:=2) (xs:=(((ps.take j).map rw_).map gf).map .d) rfl hl3];simp[aR]
   ·have ej:j=ps.length:=by lia
    refine .inl ⟨by rw[ec,decide_eq_false hj],⟨_,_,_,rfl⟩,?_⟩;have:F=ps:=by cases f with|zero=>exact R7.symm|succ f=>rw[yJ,XI (by lia)] at R7;exact R7.symm
    rw[this,ej,Y1 (Xd _)])
  dQ (k:=S.length - 0) (r:=r0 Θ Θ Θ) (st:=aR K [start] []) ⟨⟨_,_,_,rfl⟩,[start],0,1000000,b0,rfl,by lia,rfl,by simp⟩ (by unfold dQ;lia)
 subst z1 z2;refine call_of rB (by simp[B1,pS,pG]) (bS (p:=.d (mD (ir step good F))) (st:=aR K F (F.map rw_)) rfl ?_ rfl);refine ag (bT (v:=.obj 0) (st1:=[K.qK [start]]) ?_) ?_;·rw[tm];simp only[ai,cR,bc,Xi,Zs,YU,Xm,XA,az,ae,K.lit];rfl
 refine ag (bT (v:=.obj 1) (st1:=[K.qK [start],.lst [.d (K.enc start)]]) (by simp[ai,cR,aw])) ?_;refine ag (bT (v:=.obj 2) (st1:=[K.qK [start],.lst [.d (K.enc start)],.lst []]) (by simp[ai,cR,aw])) ?_;refine ag (C6 eF) ?_;refine aA (bD ?_);have l2:cY (aR K F (F.map rw_)) (.obj 2)=Δ (((F.map rw_).map gf).map .d):=rfl;simp only[cD,ay,aE,bc,r0,Xm,Xn,XA,az,ae,oP,l2,Ye,jX,XM];rfl
end
section
variable{w:Nat}{m:dR}(ok:fU w m)(hm:m.length<=100000)(hw:w<=1000)
include ok hm hw
theorem vJ(n:Nat){p:Nat}(hp:p < m.length)(st:aN):callC Fs (n+1) 26 [.d (nD p),.d (.pl ((W7 m.length).map λs=>nD (fst w m s))),.d (mD m)] st=.ok (.d (.pl ((dY w m p).map nD))) st:=by
 refine call_of oB rfl (bS (p:=.d (.pl ((dY w m p).map nD))) (st:=[]) rfl (aA (bD ?_)) rfl);have hl:=ok.len _ (bZ hp);have eL:aX (callC Fs n) (.comp (.ex (.ix (.ix (.var 2) (.var 0)) (.cst (.int 1)))) 1 [1] Θ (.ix (.var 1) (.var 0))) (ai 3 [.d (nD p),.d (.pl ((W7 m.length).map λs=>nD (fst w m s))),.d (mD m)]) []=.ok ((row m p).2.map λq=>P.d (nD (fst w m q))) []:=by
  refine ig (g:=λq=>P.d (nD q)) (f:=λq=>nD (fst w m q)) (xs:=(row m p).2) ?_ (by unfold aw;lia) λq hq=>?_;·have h0:oY (m.map gf) (p:Int)=Δ (gf (row m p)):=G7 hp;simp[ai,mD,nD,h0,gf,wD]
  ·have yR:=ok.lt _ (bZ hp) q hq;have h1:oY ((W7 m.length).map λs=>nD (fst w m s)) (q:Int)=Δ (nD (fst w m q)):=fT (by simp[yR]);show aa _ (.ix (.var 1) (.var 0)) [Δ (.d (nD q)),Δ (.d (.pl ((W7 m.length).map λs=>nD (fst w m s))))] _=_;simp only[bx,bc,Xm,Xn,XA,az,ae,nD,N4];simp only[nD] at h1;rw[h1];rfl
 rw[dI];show(aX (callC Fs n) _ (ai 3 _) []).bind _=_;rw[eL,ae,gZ];simp[dY,Yn]
theorem yv(n:Nat){p:Nat}(hp:p < m.length)(st:aN):callC Fs (n+1) 27 [.d (nD p),.d (mD m)] st=.ok (.d (nD (gd m p))) st:=by refine call_of p6 rfl (bS (p:=.d (nD (gd m p))) (st:=[]) rfl (aA (bD ?_)) rfl);exact yi hp (by simp[ai,di]) (by simp[ai,di,nD])
theorem uN(n:Nat)(st:aN):callC Fs (n+6) 7 [.d (mD m)] st=.ok (.d (mD (fN w m))) st:=by
 refine call_of Hr rfl (bS (p:=.d (mD (fN w m))) (st:=[]) rfl ?_ rfl);have e1:=AM n ok hm hw [];refine ag (bT (v:=.d (.pl ((W7 m.length).map λs=>nD (fst w m s)))) (st1:=[]) ?_) ?_;·rw[kO];simp only[ai,oA,ay,aE,bc,Xi,Zs,YU,Xm,XA,az,ae];show ma (callC Fs (n+5) 1) (Δ [.d (mD m)]) []=_;unfold ma;simp only[e1,ae]
 refine ag (N6 _ _) ?_;refine aA (bD ?_);have f0:oY ((W7 m.length).map λs=>nD (fst w m s)) (0:Int)=Δ (nD (fst w m 0)):=fT (k:=0) (by simp[ok.ne]);have e2:=Ez Wr (n+4) (step:=dY w m) (good:=gd m) (S:=W7 m.length) (start:=fst w m 0) (kS:=26) (kG:=27) (cS:=[.d (.pl ((W7 m.length).map λs=>nD (fst w m s))),.d (mD m)]) (cG:=[.d (mD m)]) rfl rfl
  (Ym.mpr (gi ok ok.ne).1) (Ax ok) (by rw[XX];lia) (λp hp=>by rw[p4 ok p hp];exact hw)
  (λp hp st=>vJ ok hm hw (n+3) (Ym.mp hp) st) (λp hp st=>yv ok hm hw (n+3) (Ym.mp hp) st) []
 rw[kO];simp only[ay,aE,bx,bc,cO,pA,ai,oA,aax,Xi,Zs,YU,Zn,Xq,Y8,Nat.reduceAdd,Nat.reduceSub,Yy,Xm,Xn,XA,az,ae,N4,f0,XM];show ma (callC Fs (n+5) 6) (List.mapM _ [P.d (nD (fst w m 0)),P.lf 26,P.lf 27]) []=_;rw[show List.mapM (conv [(26,[1,0]),(27,[0])] [Δ (P.d (mD m)),Δ (P.d (.pl ((W7 m.length).map λs=>nD (fst w m s)))),Δ (P.lf 26)] 3) [P.d (nD (fst w m 0)),P.lf 26,P.lf 27]
  =Δ [.d (nD (fst w m 0)),.fn 26 [.d (.pl ((W7 m.length).map λs=>nD (fst w m s))),.d (mD m)],.fn 27 [.d (mD m)]] from rfl]
 unfold ma;have e2':callC Fs (n+5) 6 [.d (nD (fst w m 0)),.fn 26 [.d (.pl ((W7 m.length).map λs=>nD (fst w m s))),.d (mD m)],.fn 27 [.d (mD m)]] []=.ok (.d (mD (ir (dY w m) (gd m) (places (dY w m) 1000000 (fst w m 0))))) []:=e2;simp only[e2',ae];rw[fO];rfl
end
theorem EA n ns(k:Nat)st:callC Fs (n+1) 9 [.gq ns,.d (.int k)] st=.ok (.d (.int (cell ns k))) st:=by
 refine call_of rD rfl (bS (p:=.d (.int (cell ns k))) (st:=[]) rfl ?_ rfl);by_cases h:k < ns.length
 ·have h1:(k:Int) < (ns.length:Int):=by lia
  have h2:oY ns (k:Int)=Δ (cell ns k):=fT (by unfold cell;rw[Xa,W6 h];rfl);exact aA (dw (st1:=[]) (by simp[ai,cT,h]) (aA (bD (by simp[ai,cT,h2]))))
 ·have h1:cell ns k=0:=by unfold cell;rw[Xa,XI (by lia)];rfl
  rw[h1];exact ag (dg (st1:=[]) (by simp[ai,cT];lia) av) (aA (bD (by simp)))
theorem B9 n ns(k:Nat)st:callC Fs (n+2) 10 [.gq ns,.d (.int k)] st=.ok (.d (.int (mixed ns k))) st:=by
 refine call_of vH rfl (bS (p:=.d (.int (mixed ns k))) (st:=[]) rfl ?_ rfl);obtain⟨m1,m2⟩:=bj ((cell ns k+7919*k+1)*48271) (show(0:Int) < 2147483647 by decide);have c1:∀z:Int,kh .mul 7919 z=Δ (7919*z):=λz=>fb (.inl (by decide));have c2:∀z:Int,kh .mul z 48271=Δ (z*48271):=λz=>fb (.inr (by decide));have c3:∀z:Int,kh .mul 7 z=Δ (7*z):=λz=>fb (.inl (by decide));refine ag (bT (v:=.d (.int (Af ns k))) (st1:=[]) (by simp[ai,ff,EA,c1,c2,bz,Af])) ?_;have b: -mC < Af ns k/\Af ns k < mC:=by unfold mC Af;lia
 exact aA (bD (by simp[ai,ff,fb,c3,bz,b,mixed]))
theorem Ca n x(k:Nat)st:callC Fs (n+1) 11 [.d (.int x),.d (.int k)] st=.ok (.d (.int (drawn x k))) st:=by
 refine call_of vI rfl (bS (p:=.d (.int (drawn x k))) (st:=[]) rfl ?_ rfl);obtain⟨m1,m2⟩:=bj ((x+104729*k+17)*69621) (show(0:Int) < 2147483647 by decide);have c1:∀z:Int,kh .mul 104729 z=Δ (104729*z):=λz=>fb (.inl (by decide));have c2:∀z:Int,kh .mul z 69621=Δ (z*69621):=λz=>fb (.inr (by decide));have c3:∀z:Int,kh .mul 3 z=Δ (3*z):=λz=>fb (.inl (by decide));refine ag (bT (v:=.d (.int (Ag x k))) (st1:=[]) (by simp[ai,fg,c1,c2,bz,Ag])) ?_;have b: -mC < Ag x k/\Ag x k < mC:=by unfold mC Ag;lia
 exact aA (bD (by simp[ai,fg,fb,c3,bz,b,drawn]))
theorem qN n x(k:Nat)(hz:z=(k:Int))st:callC Fs (n+1) 11 [.d (.int x),.d (.int z)] st=.ok (.d (.int (drawn x k))) st:=by rw[hz];exact Ca n x k st
theorem iX n ns(k:Nat)(hz:z=(k:Int))st:callC Fs (n+2) 10 [.gq ns,.d (.int z)] st=.ok (.d (.int (mixed ns k))) st:=by rw[hz];exact B9 n ns k st
theorem Cb n x(w c:Nat)(hw:w<=3)(hc:0 < c)(k:Nat)(h1:kr r 1=Δ (.d (.int (w:Int))))(hb:bO [3,0,5] r=[Δ (.d (.int (c:Int))),Δ (.d (.int x)),Δ (.d (.int (k:Int)))]):
  aX (callC Fs (n+1)) (.comp (.iB [.var 1]) 1 [3,0,5] Θ (.op .mod (.call 11 [.var 2,.op .add (.op .mul (.cst (.int 7)) (.var 3)) (.var 0)]) (.var 1))) r st
   =.ok ((W7 w).map λl=>.d (nD (drawn x (7*k+l) % (c:Int)).toNat)) st:=by
 have c1:∀z:Int,kh .mul 7 z=Δ (7*z):=λz=>fb (.inl (by decide));have c2:∀z:Int,kh .mod z (c:Int)=Δ (z % (c:Int)):=λz=>bz (by lia);refine ig (g:=λk:Nat=>P.d (.int (k:Int))) (f:=λl=>nD (drawn x (7*k+l) % (c:Int)).toNat) ?_ (by rw[XX];unfold aw;lia) λl hl=>?_;·have WG:(r[1]?).join=Δ (.d (.int (w:Int))):=h1;exact dh (by rw[bc,WG,az]) (by lia)
 ·rw[hb];have:=bj (drawn x (7*k+l)) (show(0:Int) < (c:Int) by lia);have e:=qN n x (z:=7*(k:Int)+(l:Int)) (7*k+l) (by simp) st;have e2:((drawn x (7*k+l) % (c:Int)).toNat:Int)=drawn x (7*k+l) % (c:Int):=abk this.1;simp only[jq,jR,ay,aE,bc,cO,Xm,Xn,XA,az,ae,Aa,c1,C4,XM,e,c2,nD,e2]
theorem xc n x(w c:Nat)(hw:w<=3)(hc:0 < c)a:∀(ks:List Nat) (ys) (u v),ys.length+ks.length<=1000->
  ∃u' v',forL (je (.nm 5)) (aj (callC Fs (n+1)) fP) (ks.map λk:Nat=>.d (.int (k:Int))) [Δ (.d (.int x)),Δ (.d (.int (w:Int))),a,Δ (.d (.int (c:Int))),Δ (.obj 0),u,v] [.lst (ys.map .d)]
   =.ok (.nx [Δ (.d (.int x)),Δ (.d (.int (w:Int))),a,Δ (.d (.int (c:Int))),Δ (.obj 0),u',v'])
    [.lst ((ys++ks.map λk=>gf ((drawn x (7*k+5) % 3 % 2).toNat,(W7 w).map λl=>(drawn x (7*k+l) % (c:Int)).toNat)).map .d)]
 |[],ys,u,v,_=>⟨u,v,by simp[forL]⟩|k::ks,ys,u,v,hl=>by
  obtain⟨u',v',ih⟩:=xc n x w c hw hc a ks (ys++[gf ((drawn x (7*k+5) % 3 % 2).toNat,(W7 w).map λl=>(drawn x (7*k+l) % (c:Int)).toNat)]) (Δ (.d (.int (k:Int)))) (Δ (.d (wD ((W7 w).map λl=>(drawn x (7*k+l) % (c:Int)).toNat)))) (by simp at hl ⊢;lia);refine⟨u',v',?_⟩;have c1:∀z:Int,kh .mul 7 z=Δ (7*z):=λz=>fb (.inl (by decide));have c2:∀z:Int,kh .mod z 3=Δ (z % 3):=λz=>bz (by lia);have c3:∀z:Int,kh .mod z 2=Δ (z % 2):=λz=>bz (by lia);have e5:=λst=>qN n x (z:=7*(k:Int)+5) (7*k+5) (by simp) st;have r5:=bj (drawn x (7*k+5) % 3) (show(0:Int) < 2 by decide);have es:aX (callC Fs (n+1)) (.comp (.iB [.var 1]) 1 [3,0,5] Θ (.op .mod (.call 11 [.var 2,.op .add (.op .mul (.cst (.int 7)) (.var 3)) (.var 0)]) (.var 1))) [Δ (.d (.int x)),Δ (.d (.int (w:Int))),a,Δ (.d (.int (c:Int))),Δ (.obj 0),Δ (.d (.int (k:Int))),v] [.lst (ys.map .d)]
    =.ok ((W7 w).map λl=>.d (nD (drawn x (7*k+l) % (c:Int)).toNat)) [.lst (ys.map .d)]:=Cb n x w c hw hc k rfl rfl
  have Tr:ys.length < aw:=by unfold aw;simp at hl;lia
  rw[Xi,forL,je,az,ae];have e:aj (callC Fs (n+1)) fP [Δ (.d (.int x)),Δ (.d (.int (w:Int))),a,Δ (.d (.int (c:Int))),Δ (.obj 0),Δ (.d (.int (k:Int))),v] [.lst (ys.map .d)]
    =.ok (.nx [Δ (.d (.int x)),Δ (.d (.int (w:Int))),a,Δ (.d (.int (c:Int))),Δ (.obj 0),Δ (.d (.int (k:Int))),Δ (.d (wD ((W7 w).map λl=>(drawn x (7*k+l) % (c:Int)).toNat)))])
     [.lst ((ys++[gf ((drawn x (7*k+5) % 3 % 2).toNat,(W7 w).map λl=>(drawn x (7*k+l) % (c:Int)).toNat)]).map .d)]:=by
   refine ag (bT (v:=.d (wD ((W7 w).map λl=>(drawn x (7*k+l) % (c:Int)).toNat))) (st1:=[.lst (ys.map .d)]) ?_) ?_;·rw[cD,ay,dI,es];simp[wD,Yn]
   ·refine ag (oj (x:=.obj 0) (v:=.d (gf ((drawn x (7*k+5) % 3 % 2).toNat,(W7 w).map λl=>(drawn x (7*k+l) % (c:Int)).toNat))) (its:=ys.map .d) (st1:=[.lst (ys.map .d)]) (st2:=[.lst (ys.map .d)]) ?_ rfl ?_ ?_) av;·simp
    ·simp[c1,c2,c3,e5,gf,nD,abk r5.1,aw]
    ·simp[xM,Tr]
  rw[show([Δ (.d (.int x)),Δ (.d (.int (w:Int))),a,Δ (.d (.int (c:Int))),Δ (.obj 0),u,v]:b9).set 5 (Δ (.d (.int (k:Int))))=[Δ (.d (.int x)),Δ (.d (.int (w:Int))),a,Δ (.d (.int (c:Int))),Δ (.obj 0),Δ (.d (.int (k:Int))),v] from rfl,e,ae];dsimp only;rw[ih];simp
theorem EB n x(w:Nat)most(c:Nat)(hw:w<=3)(hm:0 < most)(hc:1+x % most=(c:Int))(S2:c<=900)st:
  callC Fs (n+2) 12 [.d (.int x),.d (.int (w:Int)),.d (.int most)] st=.ok (.d (mD (HN x w c))) st:=by
 have hx:=bj x hm;have c1:∀z:Int,kh .mod z most=Δ (z % most):=λz=>bz hm;obtain⟨u',v',e⟩:=xc n x w c hw (by lia) (Δ (.d (.int most))) (W7 c) [] Θ Θ (by simp;lia);refine call_of rE rfl (bS (p:=.d (mD (HN x w c))) (st:=[.lst (([]++(W7 c).map λk=>gf ((drawn x (7*k+5) % 3 % 2).toNat,(W7 w).map λl=>(drawn x (7*k+l) % (c:Int)).toNat)).map .d)]) rfl ?_ rfl);refine ag (bT (v:=.d (.int (c:Int))) (st1:=[]) (by simp[ai,cU,c1,hc])) ?_;refine ag (bT (v:=.obj 0) (st1:=[.lst []]) (by simp[ai,cU,aw])) ?_;refine ag (gc (ps:=(W7 c).map λk:Nat=>.d (.int (k:Int))) (st1:=[.lst []]) (dh (by simp[ai,cU]) (by lia)) e) ?_;refine aA (bD ?_);simp[JY,RQ,mD,HN,Yn]
theorem p7 n x h st:callC Fs (n+1) 13 [.d x,.d (.int h)] st=.ok (.d (.bl (fc x h))) st:=by refine call_of uK rfl (bS (p:=.d (.bl (fc x h))) (st:=[]) rfl (aA (bD ?_)) rfl);cases x with|int i=>by_cases hi:0<=i<;>simp[dZ,ai,bB,fc,hi]|_=>simp[dZ,ai,bB,fc]
theorem uO n x w(hx:∀xs,x=.tup xs->xs.length<=100000/\∀y∈xs,∀ys,y=.tup ys->∀z∈ys,∀zs,z=.tup zs->zs.length<=100000)st:callC Fs (n+2) 14 [.d x,.d (.int w)] st=.ok (.d (.bl (eU x w))) st:=by
 refine call_of mZ rfl (bS (p:=.d (.bl (eU x w))) (st:=[]) rfl ?_ rfl);cases x with
 |tup xs=>
  obtain⟨hl,hy⟩:=hx xs rfl;have body:∀y∈xs,aj (callC Fs (n+1)) cM (([Δ (.d (.tup xs)),Δ (.d (.int w)),Θ]:b9).set 2 (Δ (.d y))) []=if b7 w ((xs.length:Int) - 1) y=Λ then .ok (.nx (([Δ (.d (.tup xs)),Δ (.d (.int w)),Θ]:b9).set 2 (Δ (.d y)))) [] else .ok (.rt (.d (.bl Ξ))) []:=by
   intro y hyx;have ret:∀{c:E} {rest:List S} {r:b9},aa (callC Fs (n+1)) c r []=.ok (.d (.bl Λ)) []->aj (callC Fs (n+1)) (.ifs c [.ret (.cst (.bl Ξ))] []::rest) r []=.ok (.rt (.d (.bl Ξ))) []:=λh=>aA (dw h (aA (bD (by simp))));have go:∀{c:E} {rest:List S} {r:b9} {res:R Fl},aa (callC Fs (n+1)) c r []=.ok (.d (.bl Ξ)) []->aj (callC Fs (n+1)) rest r []=res->aj (callC Fs (n+1)) (.ifs c [.ret (.cst (.bl Ξ))] []::rest) r []=res:=λh h2=>ag (dg h av) h2;unfold cM;cases y with
   |tup ys=>
    match ys,hy _ hyx with
    |[],_=>simp only[b7,XR,if_false];exact ret (by simp[bB])|[a],_=>simp only[b7,XR,if_false];exact ret (by simp[bB])|a::b::c::r,_=>
     simp only[b7,XR,if_false];refine ret ?_;have:((r.length:Int)+1+1+1==2)=Ξ:=by rw[beq_eq_false_iff_ne];lia
     simp[bB,this]
    |[a,b],hb=>
     simp only[b7];rcases Zh (fc a 1) with h1|h1
     case inr=>simp only[h1,aaV,XR,if_false];exact ret (by simp[bB,p7,h1])
     case inl=>
      simp only[h1,acA];refine go (by simp[bB,p7,h1]) ?_;cases b with
      |tup ss=>
       have uC:=hb _ rfl (.tup ss) (by simp) ss rfl;unfold jY;dsimp only;by_cases h2:(ss.length:Int)=w
       ·refine go (by simp[bB,h2]) ?_;simp only[h2,decide_true,acA];have hc:aX (callC Fs (n+1)) (.comp (.ex (.ix (.var 2) (.cst (.int 1)))) 1 [0] (Δ (.not (.call 13 [.var 0,.op .sub (.bf .len [.var 1]) (.cst (.int 1))]))) (.var 0)) [Δ (.d (.tup xs)),Δ (.d (.int w)),Δ (.d (.tup [a,.tup ss]))] []
          =.ok ((ss.filter λs=>!fc s ((xs.length:Int) - 1)).map λs=>.d s) []:=
         yd (f:=λs=>s) (p:=λs=>!fc s ((xs.length:Int) - 1)) (by simp) (by unfold aw;lia) (λs _=>by simp[bO,p7]) (λs _=>by simp)
        rcases Zh (ss.all λs=>fc s ((xs.length:Int) - 1)) with h3|h3
        case inl=>
         have e:(ss.filter λs=>!fc s ((xs.length:Int) - 1))=[]:=by rw[Zt];intro s hs;rw[YE] at h3;simp[h3 s hs]
         rw[e] at hc;simp only[h3,if_true];refine go ?_ av;have Cn:aX (callC Fs (n+1)) (.comp (.ex (.ix (.var 2) (.cst (.int 1)))) 1 [0] (Δ (.not (.call 13 [.var 0,.op .sub (.bf .len [.var 1]) (.cst (.int 1))]))) (.var 0)) (([Δ (.d (.tup xs)),Δ (.d (.int w)),Θ]:b9).set 2 (Δ (.d (.tup [a,.tup ss])))) []=.ok [] []:=hc;rw[cj,dI,Cn];simp[aw]
        case inr=>
         have e:(ss.filter λs=>!fc s ((xs.length:Int) - 1))≠[]:=by intro z;rw[Zt] at z;rw[List.all_eq_false] at h3;obtain⟨s,hs,hf⟩:=h3;exact z s hs (by simpa using hf)
         obtain⟨f0,fr,ef⟩:∃f0 fr,(ss.filter λs=>!fc s ((xs.length:Int) - 1))=f0::fr:=by cases q:(ss.filter λs=>!fc s ((xs.length:Int) - 1)) with|nil=>exact absurd q e|cons a b=>exact⟨a,b,rfl⟩
         rw[ef] at hc;simp only[h3,XR,if_false];refine ret ?_;have Cn:aX (callC Fs (n+1)) (.comp (.ex (.ix (.var 2) (.cst (.int 1)))) 1 [0] (Δ (.not (.call 13 [.var 0,.op .sub (.bf .len [.var 1]) (.cst (.int 1))]))) (.var 0)) (([Δ (.d (.tup xs)),Δ (.d (.int w)),Θ]:b9).set 2 (Δ (.d (.tup [a,.tup ss])))) []=.ok ((f0::fr).map λs=>.d s) []:=hc;rw[cj,dI,Cn];simp[aw]
       ·simp only[h2,decide_false,aaV,XR,if_false];exact ret (by simp[bB,h2])
      |_=>simp only[jY,XR,if_false];exact ret (by simp[bB])
   |_=>simp only[b7,XR,if_false];exact ret (by simp[bB])
  by_cases he:xs=[];·subst he;exact aA (dw (st1:=[]) (by simp[ai,bh,bB,aw]) (aA (bD (by simp[eU]))))
  ·have K5:xs.isEmpty=Ξ:=by cases xs with|nil=>exact absurd rfl he|cons a b=>rfl
   refine ag (dg (st1:=[]) (by simp[ai,bh,bB,aw,K5]) av) ?_;obtain⟨u2,e2⟩:=C3 (i:=2) (r:=[Δ (.d (.tup xs)),Δ (.d (.int w)),Θ]) (st:=[]) (f:=λy=>b7 w ((xs.length:Int) - 1) y) (v:=.d (.bl Ξ)) (b:=aj (callC Fs (n+1)) cM) (xs:=xs) (u:=Θ) body;have em:eU (.tup xs) w=xs.all λy=>b7 w ((xs.length:Int) - 1) y:=by unfold eU;simp[K5]
   rw[em];cases h3:xs.all λy=>b7 w ((xs.length:Int) - 1) y with|true=>rw[h3,if_pos rfl] at e2;exact ag (gc (ps:=xs.map .d) (st1:=[]) (by simp[ai,bh]) e2) (aA (bD (by simp)))|false=>rw[h3,if_neg (by simp)] at e2;exact aA (gc (ps:=xs.map .d) (st1:=[]) (by simp[ai,bh]) e2)
 |_=>exact aA (dw (st1:=[]) (by simp[ai,bh,bB]) (aA (bD (by simp[eU]))))
section
variable{w:Nat}{m:dR}(ok:fU w m)(hn:m.length<=4000)(n:Nat)(bJ:aN)
include ok hn
theorem Ht{ps:pZ}(h:bP w m ps):ps.length < aw:=by have:=h.len;have:m.length*m.length<=4000*4000:=Nat.mul_le_mul hn hn;unfold aw;lia
theorem Km{i j:Nat}(hi:i < m.length)(hj:j < m.length){ps:pZ}(hs:bP w m ps)(nV x5 x6:Option P):
  aj (callC Fs n) gy [Δ (.d (mD m)),nV,Δ (.obj bJ.length),Δ (.d (.int (i:Int))),Δ (.d (.int (j:Int))),x5,x6] (bJ++[bL ps])
   =.ok (.nx [Δ (.d (mD m)),nV,Δ (.obj bJ.length),Δ (.d (.int (i:Int))),Δ (.d (.int (j:Int))),x5,x6]) (bJ++[bL (p1 m i ps j)]):=by
 have e1:=yi (C:=callC Fs n) (r:=[Δ (.d (mD m)),nV,Δ (.obj bJ.length),Δ (.d (.int (i:Int))),Δ (.d (.int (j:Int))),x5,x6]) (st:=bJ++[bL ps]) (em:=.var 0) (es:=.var 3) hi (by simp) (by simp);have e2:=yi (C:=callC Fs n) (r:=[Δ (.d (mD m)),nV,Δ (.obj bJ.length),Δ (.d (.int (i:Int))),Δ (.d (.int (j:Int))),x5,x6]) (st:=bJ++[bL ps]) (em:=.var 0) (es:=.var 4) hj (by simp) (by simp);unfold p1;by_cases h:gd m i=gd m j;·rw[if_neg (by simpa using h)];refine ag (dg (st1:=bJ++[bL ps]) ?_ av) av;rw[cj,e1,ae,e2,ae,G4,r8,h];simp
 ·rw[if_pos h];refine ag (dw (st1:=bJ++[bL ps]) ?_ (ag (om (v:=.d (.bl Λ)) (x:=.obj bJ.length) (k:=.d (.tup [nD i,nD j])) (st1:=bJ++[bL ps]) (st2:=bJ++[bL ps]) (st3:=bJ++[bL ps]) (by simp) (by simp) (by simp[nD,aw]) ?_) av)) av
  ·rw[cj,e1,ae,e2,ae,G4,r8];have:((gd m i:Int)==(gd m j:Int))=Ξ:=by rw[beq_eq_false_iff_ne];lia
   simp[this]
  ·rw[Ap (Hg bJ _) (Ht ok hn hs),Hh]
theorem Kn{i j:Nat}(hi:i < m.length)(hj:j < m.length){ps:pZ}(hs:bP w m ps)(hw:w<=1000)(nV x5 x6:Option P):
  ∃y6,aj (callC Fs n) gD [Δ (.d (mD m)),nV,Δ (.obj bJ.length),Δ (.d (.int (i:Int))),Δ (.d (.int (j:Int))),x5,x6] (bJ++[bL ps])
   =.ok (.nx [Δ (.d (mD m)),nV,Δ (.obj bJ.length),Δ (.d (.int (i:Int))),Δ (.d (.int (j:Int))),x5,y6]) (bJ++[bL (p2 m i ps j)]):=by
 have r1:∀(s:Nat) (v:Nat) (rr:b9) (hs:s < m.length),(rr[0]?).join=Δ (.d (mD m))->(rr[v]?).join=Δ (.d (.int (s:Int)))->aa (callC Fs n) (.ix (.ix (.var 0) (.var v)) (.cst (.int 1))) rr (bJ++[bL ps])=.ok (.d (wD (row m s).2)) (bJ++[bL ps]):=λs v rr hs h1 h2=>by simp[h1,h2,mD,G7 hs,gf]
 refine⟨Δ (.d (.pl (((row m i).2.zip (row m j).2).map λq=>D.tup [nD q.1,nD q.2]))),?_⟩;refine ag (bT (v:=.d (.pl (((row m i).2.zip (row m j).2).map λq=>D.tup [nD q.1,nD q.2]))) (st1:=bJ++[bL ps]) ?_) ?_;·rw[dI,wm,r1 i 3 _ hi rfl rfl,ae,r1 j 4 _ hj rfl rfl,ae,Oc];simp[Yn]
 have lz:((row m i).2.zip (row m j).2).length<=aw:=by rw[abh,ok.len _ (bZ hi)];unfold aw;lia
 have hc:aX (callC Fs n) (.comp (.ex (.var 6)) 1 [2] Θ (.cmp .isin (.var 0) (.var 1))) (([Δ (.d (mD m)),nV,Δ (.obj bJ.length),Δ (.d (.int (i:Int))),Δ (.d (.int (j:Int))),x5,x6]:b9).set 6 (Δ (.d (.pl (((row m i).2.zip (row m j).2).map λq=>D.tup [nD q.1,nD q.2]))))) (bJ++[bL ps])
   =.ok (((row m i).2.zip (row m j).2).map λq=>.d (.bl (decide (q∈ps)))) (bJ++[bL ps]):=
  ig (g:=λq:Nat×Nat=>P.d (D.tup [nD q.1,nD q.2])) (f:=λq=>.bl (decide (q∈ps))) (by simp[Yn]) lz λq _=>by have:=Kc (Hg bJ (bL ps)) q.1 q.2;simp[bO,this]
 have ha:aa (callC Fs n) (.bf .any [.lst Ξ (.comp (.ex (.var 6)) 1 [2] Θ (.cmp .isin (.var 0) (.var 1)))]) (([Δ (.d (mD m)),nV,Δ (.obj bJ.length),Δ (.d (.int (i:Int))),Δ (.d (.int (j:Int))),x5,x6]:b9).set 6 (Δ (.d (.pl (((row m i).2.zip (row m j).2).map λq=>D.tup [nD q.1,nD q.2]))))) (bJ++[bL ps])
   =.ok (.d (.bl (hit m ps i j))) (bJ++[bL ps]):=by
  rw[cD,ay,dI,hc];simp[JZ,hit,Yn]
 unfold p2;rcases Zh (hit m ps i j) with h|h;·rw[if_pos h];rw[h] at ha;refine ag (dw (st1:=bJ++[bL ps]) ha (ag (om (v:=.d (.bl Λ)) (x:=.obj bJ.length) (k:=.d (.tup [nD i,nD j])) (st1:=bJ++[bL ps]) (st2:=bJ++[bL ps]) (st3:=bJ++[bL ps]) (by simp) (by simp) (by simp[nD,aw]) ?_) av)) av;rw[Ap (Hg bJ _) (Ht ok hn hs),Hh]
 ·rw[if_neg (by simp[h])];rw[h] at ha;exact ag (dg (st1:=bJ++[bL ps]) ha av) av
theorem Ko{i:Nat}(hi:i < m.length){ps:pZ}(hs:bP w m ps)(x4 x5 x6:Option P):
  ∃y4,aj (callC Fs n) gz [Δ (.d (mD m)),Δ (.d (.int (m.length:Nat))),Δ (.obj bJ.length),Δ (.d (.int (i:Int))),x4,x5,x6] (bJ++[bL ps])
   =.ok (.nx [Δ (.d (mD m)),Δ (.d (.int (m.length:Nat))),Δ (.obj bJ.length),Δ (.d (.int (i:Int))),y4,x5,x6]) (bJ++[bL ((W7 m.length).foldl (p1 m i) ps)]):=by
 obtain⟨r',e,⟨y4,i'⟩,j'⟩:=jz (g:=je (.nm 4)) (b:=aj (callC Fs n) gy) (enc:=λk:Nat=>P.d (.int (k:Int))) (f:=p1 m i) (S:=λps=>bJ++[bL ps]) (I:=λr=>∃y4,r=[Δ (.d (mD m)),Δ (.d (.int (m.length:Nat))),Δ (.obj bJ.length),Δ (.d (.int (i:Int))),y4,x5,x6]) (J:=bP w m) (xs:=W7 m.length)
  (λj hj s r js ⟨y4,er⟩=>by subst er;exact⟨_,_,rfl,Km ok hn n bJ hi (by simpa using hj) js _ x5 x6,⟨_,rfl⟩,Hc js hi (by simpa using hj)⟩) hs ⟨x4,rfl⟩
 subst i';exact⟨y4,ag (gc (dh (by simp) (by lia)) e) av⟩
theorem Kp{i:Nat}(hi:i < m.length){ps:pZ}(hs:bP w m ps)(hw:w<=1000)(x4 x5 x6:Option P):
  ∃y4 y6,aj (callC Fs n) gE [Δ (.d (mD m)),Δ (.d (.int (m.length:Nat))),Δ (.obj bJ.length),Δ (.d (.int (i:Int))),x4,x5,x6] (bJ++[bL ps])
   =.ok (.nx [Δ (.d (mD m)),Δ (.d (.int (m.length:Nat))),Δ (.obj bJ.length),Δ (.d (.int (i:Int))),y4,x5,y6]) (bJ++[bL ((W7 m.length).foldl (p2 m i) ps)]):=by
 obtain⟨r',e,⟨y4,y6,i'⟩,j'⟩:=jz (g:=je (.nm 4)) (b:=aj (callC Fs n) gD) (enc:=λk:Nat=>P.d (.int (k:Int))) (f:=p2 m i) (S:=λps=>bJ++[bL ps]) (I:=λr=>∃y4 y6,r=[Δ (.d (mD m)),Δ (.d (.int (m.length:Nat))),Δ (.obj bJ.length),Δ (.d (.int (i:Int))),y4,x5,y6]) (J:=bP w m) (xs:=W7 m.length)
  (λj hj s r js ⟨y4,y6,er⟩=>by subst er;obtain⟨z6,ez⟩:=Kn ok hn n bJ hi (j:=j) (by simpa using hj) js hw (Δ (.d (.int (m.length:Nat)))) x5 y6;exact⟨_,_,rfl,ez,⟨_,_,rfl⟩,De ok js hi (by simpa using hj)⟩) hs ⟨x4,x6,rfl⟩
 subst i';exact⟨y4,y6,ag (gc (dh (by simp) (by lia)) e) av⟩
theorem Kq{ps:pZ}(hs:bP w m ps)(hw:w<=1000)(x3 x4 x5 x6:Option P):
  ∃y3 y4 y6,aj (callC Fs n) gF [Δ (.d (mD m)),Δ (.d (.int (m.length:Nat))),Δ (.obj bJ.length),x3,x4,x5,x6] (bJ++[bL ps])
   =.ok (.nx [Δ (.d (mD m)),Δ (.d (.int (m.length:Nat))),Δ (.obj bJ.length),y3,y4,x5,y6]) (bJ++[bL (kl (p2 m) m.length ps)]):=by
 obtain⟨r',e,⟨y3,y4,y6,i'⟩,j'⟩:=jz (g:=je (.nm 3)) (b:=aj (callC Fs n) gE) (enc:=λk:Nat=>P.d (.int (k:Int))) (f:=λps i=>(W7 m.length).foldl (p2 m i) ps) (S:=λps=>bJ++[bL ps]) (I:=λr=>∃y3 y4 y6,r=[Δ (.d (mD m)),Δ (.d (.int (m.length:Nat))),Δ (.obj bJ.length),y3,y4,x5,y6]) (J:=bP w m) (xs:=W7 m.length)
  (λi hi s r js ⟨y3,y4,y6,er⟩=>by
   have vZ:i < m.length:=by simpa using hi
   subst er;obtain⟨z4,z6,ez⟩:=Kp ok hn n bJ vZ js hw y4 x5 y6;exact⟨_,_,rfl,ez,⟨_,_,_,rfl⟩,dn js λs j hj hs=>De ok hs vZ (by simpa using hj)⟩) hs ⟨x3,x4,x6,rfl⟩
 subst i';exact⟨y3,y4,y6,ag (gc (dh (by simp) (by lia)) e) av⟩
theorem AN(hw:w<=1000):callC Fs (n+1) 15 [.d (mD m)] bJ=.ok (.obj bJ.length) (bJ++[bL (cK m)]):=by
 have s0:bP w m []:=⟨by simp,(λ_ h=>nomatch h),(λ_ h=>nomatch h)⟩;refine ye uL rfl rfl ?_;refine ag (bT (v:=.d (.int (m.length:Nat))) (st1:=bJ) (by simp[ai,eh,mD])) ?_;refine ag (bT (v:=.obj bJ.length) (st1:=bJ++[bL []]) (by simp[bL])) ?_;obtain⟨r1,e1,⟨y3,y4,i1⟩,j1⟩:=jz (g:=je (.nm 3)) (b:=aj (callC Fs n) gz) (enc:=λk:Nat=>P.d (.int (k:Int))) (f:=λps i=>(W7 m.length).foldl (p1 m i) ps) (S:=λps=>bJ++[bL ps]) (I:=λr=>∃y3 y4,r=[Δ (.d (mD m)),Δ (.d (.int (m.length:Nat))),Δ (.obj bJ.length),y3,y4,Θ,Θ]) (J:=bP w m) (xs:=W7 m.length)
  (λi hi s r js ⟨y3,y4,er⟩=>by
   have vZ:i < m.length:=by simpa using hi
   subst er;obtain⟨z4,ez⟩:=Ko ok hn n bJ vZ js y4 Θ Θ;exact⟨_,_,rfl,ez,⟨_,_,rfl⟩,dn js λs j hj hs=>Hc hs vZ (by simpa using hj)⟩) (s:=[]) s0 ⟨Θ,Θ,rfl⟩
 subst i1;refine ag (gc (dh (j:=m.length) (by simp[ai,eh]) (by lia)) e1) ?_;obtain⟨r2,e2,⟨z3,z4,z5,z6,i2⟩,j2⟩:=jz (g:=je (.nm 5)) (b:=aj (callC Fs n) gF) (enc:=λk:Nat=>P.d (.int (k:Int))) (f:=λps _=>kl (p2 m) m.length ps) (S:=λps=>bJ++[bL ps]) (I:=λr=>∃y3 y4 y5 y6,r=[Δ (.d (mD m)),Δ (.d (.int (m.length:Nat))),Δ (.obj bJ.length),y3,y4,y5,y6]) (J:=bP w m) (xs:=W7 m.length)
  (λi hi s r js ⟨y3,y4,y5,y6,er⟩=>by subst er;obtain⟨z3,z4,z6,ez⟩:=Kq ok hn n bJ js hw y3 y4 (Δ (.d (.int (i:Int)))) y6;exact⟨_,_,rfl,ez,⟨_,_,_,_,rfl⟩,ux (J:=bP w m) (λps i j hi hj h=>De ok h hi hj) js⟩) (s:=kl (p1 m) m.length []) j1 ⟨y3,y4,Θ,Θ,rfl⟩
 subst i2;refine ag (gc (dh (j:=m.length) (by simp) (by lia)) e2) ?_;exact aA (bD (by simp[cK]))
end
section
variable{w:Nat}{m:dR}(ok:fU w m)(hn:m.length<=4000)(n:Nat)
abbrev fB(o:List Nat):aN:=[.lst (o.map λk=>P.d (nD k))]
theorem p8(hl:∀s∈([]:List Nat),True)mV wV kV x5:∀(ss o) (x4),o.length+ss.length<=100000000->o.length+ss.length < aw->
  ∃y4,forL (je (.nm 4)) (aj (callC Fs n) dy) ((ss.map nD).map .d) [mV,wV,Δ (.obj 0),kV,x4,x5] (fB o)=.ok (.nx [mV,wV,Δ (.obj 0),kV,y4,x5]) (fB (iI o ss))
 |[],o,x4,_,_=>⟨x4,rfl⟩|s::ss,o,x4,hb,u5=>by
  have e1:=Kb (o:=o) (s:=s) (st:=fB o) (k:=0) rfl;rw[Xi,Xi,forL,je,az,ae];simp only[aax];by_cases h:s∈o
  ·obtain⟨y4,ih⟩:=p8 hl mV wV kV x5 ss o (Δ (.d (nD s))) (by simp at hb ⊢;lia) (by simp at u5 ⊢;lia);refine⟨y4,?_⟩;have e:aj (callC Fs n) dy [mV,wV,Δ (.obj 0),kV,Δ (.d (nD s)),x5] (fB o)=.ok (.nx [mV,wV,Δ (.obj 0),kV,Δ (.d (nD s)),x5]) (fB o):=
    ag (dg (st1:=fB o) (by simp[e1,h]) av) av
   rw[e,ae];have eo:iI o (s::ss)=iI o ss:=by unfold iI;rw[Zo,if_pos h]
   rw[eo];exact ih
  ·obtain⟨y4,ih⟩:=p8 hl mV wV kV x5 ss (o++[s]) (Δ (.d (nD s))) (by simp at hb ⊢;lia) (by simp at u5 ⊢;lia);refine⟨y4,?_⟩;have e:aj (callC Fs n) dy [mV,wV,Δ (.obj 0),kV,Δ (.d (nD s)),x5] (fB o)=.ok (.nx [mV,wV,Δ (.obj 0),kV,Δ (.d (nD s)),x5]) (fB (o++[s])):=by
    refine ag (dw (st1:=fB o) (by simp[e1,h]) (ag (oj (x:=.obj 0) (v:=.d (nD s)) (its:=o.map λk=>P.d (nD k)) (st1:=fB o) (st2:=fB o) (by simp) rfl (by simp) ?_) av)) av;have:o.length < aw:=by simp at u5;lia
    simp[xM,fB,this]
   rw[e,ae];have eo:iI o (s::ss)=iI (o++[s]) ss:=by unfold iI;rw[Zo,if_neg h]
   rw[eo];exact ih
include ok hn
theorem Hu{o ss:List Nat}(ho:∀s∈o,s < m.length)(uC:∀s∈ss,s < m.length)(hd:o.Nodup):(∀s∈iI o ss,s < m.length)/\(iI o ss).Nodup:=by
 unfold iI;refine dn (J:=λo=>(∀s∈o,s < m.length)/\o.Nodup) ⟨ho,hd⟩ λo s hs ⟨h1,h2⟩=>?_;split;·exact⟨h1,h2⟩
 ·rename_i h;refine⟨λt ht=>?_,?_⟩
  ·rcases aaA.mp ht with z|z;·exact h1 t z
   ·rw[Yz] at z;rw[z];exact uC s hs
  ·rw[X5];exact⟨h2,by simp,λa ha b hb=>by simp at hb;subst hb;exact λz=>h (z▸ha)⟩
theorem Kr{o:List Nat}(ho:∀s∈o,s < m.length)(hd:o.Nodup):o.length<=m.length:=by
 have:=fM hd (xs:=W7 m.length) λs hs=>by simpa using ho s hs
 simpa using this
theorem xf(hw:w<=1000)(wV x5:Option P):∀(ks o:List Nat) (x3 x4:Option P),(∀s∈o,s < m.length)->o.Nodup->
  match vC m ks o with|some o'=>(∀s∈o',s < m.length)/\o'.Nodup/\∃y3 y4,forL (je (.nm 3)) (aj (callC Fs n) bG) (ks.map λk:Nat=>.d (.int (k:Int))) [Δ (.d (mD m)),wV,Δ (.obj 0),x3,x4,x5] (fB o)=.ok (.nx [Δ (.d (mD m)),wV,Δ (.obj 0),y3,y4,x5]) (fB o')|none=>∃aM,forL (je (.nm 3)) (aj (callC Fs n) bG) (ks.map λk:Nat=>.d (.int (k:Int))) [Δ (.d (mD m)),wV,Δ (.obj 0),x3,x4,x5] (fB o)=.ok (.rt (.d (.bl Ξ))) aM
 |[],o,x3,x4,ho,hd=>⟨ho,hd,x3,x4,rfl⟩|k::ks,o,x3,x4,ho,hd=>by
  have ol:=Kr ok hn ho hd;have el:oP .len [.obj 0] (fB o)=Δ (.d (.int (o.length:Nat))):=by rw[gT (st:=fB o) (n:=0) rfl,Xc]
  simp only[vC];by_cases h:o.length<=k
  ·rw[if_pos h];refine⟨fB o,?_⟩;have e:aj (callC Fs n) bG [Δ (.d (mD m)),wV,Δ (.obj 0),Δ (.d (.int (k:Int))),x4,x5] (fB o)=.ok (.rt (.d (.bl Ξ))) (fB o):=
    aA (dw (st1:=fB o) (by simp[el];lia) (aA (bD (by simp))))
   rw[Xi,forL,je,az,ae];simp only[aax];rw[e,ae]
  ·rw[if_neg h];have hk:o[k]?=Δ (o.getD k 0):=by rw[Xa,W6 (by lia)];rfl
   have hs:o.getD k 0 < m.length:=ho _ (Xw hk);have hr:=bZ hs;have hlen:=ok.len _ hr;obtain⟨y4,e1⟩:=p8 n (λ_ _=>trivial) (Δ (.d (mD m))) wV (Δ (.d (.int (k:Int)))) x5 (row m (o.getD k 0)).2 o x4 (by lia) (by unfold aw;lia);have eix:A0 (.obj 0) (.d (.int (k:Int))) (fB o)=Δ (.d (nD (o.getD k 0))):=by have:bE (fB o) (.obj 0)=Θ:=jW rfl;unfold A0;rw[this];dsimp only[Vp];show(cY (fB o) (.obj 0)).bind _=_;have e2:cY (fB o) (.obj 0)=Δ (o.map λk=>P.d (nD k)):=rfl;rw[e2,Ye];exact fT (by rw[Xg,hk];rfl)
   have e:aj (callC Fs n) bG [Δ (.d (mD m)),wV,Δ (.obj 0),Δ (.d (.int (k:Int))),x4,x5] (fB o)=.ok (.nx [Δ (.d (mD m)),wV,Δ (.obj 0),Δ (.d (.int (k:Int))),y4,x5]) (fB (iI o (row m (o.getD k 0)).2)):=by refine ag (dg (st1:=fB o) (by simp[el];lia) av) ?_;refine ag (gc (ps:=((row m (o.getD k 0)).2.map nD).map .d) (st1:=fB o) ?_ e1) av;rw[zB];simp only[bx,bc,cO,Xm,Xn,XA,az,ae,eix,nD];rw[mD,Wi,G7 hs];simp[gf,wD,nD]
   have a:=Hu ok hn (o:=o) (ss:=(row m (o.getD k 0)).2) ho (λs h=>ok.lt _ hr s h) hd;have ih:=xf hw wV x5 ks (iI o (row m (o.getD k 0)).2) (Δ (.d (.int (k:Int)))) y4 a.1 a.2;have step:forL (je (.nm 3)) (aj (callC Fs n) bG) ((k::ks).map λk:Nat=>.d (.int (k:Int))) [Δ (.d (mD m)),wV,Δ (.obj 0),x3,x4,x5] (fB o)
     =forL (je (.nm 3)) (aj (callC Fs n) bG) (ks.map λk:Nat=>.d (.int (k:Int))) [Δ (.d (mD m)),wV,Δ (.obj 0),Δ (.d (.int (k:Int))),y4,x5] (fB (iI o (row m (o.getD k 0)).2)):=by
    rw[Xi,forL,je,az,ae];simp only[aax];rw[e,ae]
   rw[step];exact ih
end
theorem Ot n{w:Nat}(hn:m.length<=4000)o y3 y4:aa (callC Fs (n+2)) (.lst Ξ (.iB [.bf .len [.var 0]])) [Δ (.d (mD m)),Δ (.d (.int (w:Int))),Δ (.obj 0),y3,y4,Θ] (fB o)=.ok (.d (.pl ((W7 m.length).map nD))) (fB o):=by
 have e2:qZ [.d (.int (m.length:Nat))]=Δ ((W7 m.length).map λk:Nat=>.d (.int (k:Int))):=RR (by lia);have e1:aF (callC Fs (n+2)) [.bf .len [.var 0]] [Δ (.d (mD m)),Δ (.d (.int (w:Int))),Δ (.obj 0),y3,y4,Θ] (fB o)=.ok [.d (.int (m.length:Nat))] (fB o):=by simp[mD]
 have hl:((W7 m.length).map λk:Nat=>(P.d (.int (k:Int)))).length<=aw:=by rw[Xc,XX];unfold aw;lia
 rw[dI,wj,e1,ae,e2,az,ae,if_pos hl,ae];have:ba ((W7 m.length).map λk:Nat=>(P.d (.int (k:Int))))=Δ ((W7 m.length).map nD):=gZ nD _;rw[this];rfl
theorem Ou{m:dR}o:jo .ne (.obj 0) (.d (.pl ((W7 m.length).map nD))) (fB o)=Δ (!decide (o=W7 m.length)):=by
 have f1:jQ (fB o) (.obj 0)=Δ (.pl (o.map nD)):=by simp[jQ,fB]
 show(jQ (fB o) (.obj 0)).bind _=_;rw[f1,Ye];show(Δ (D.pl ((W7 m.length).map nD))).bind _=_;rw[Ye];have:rR (.pl (o.map nD)) (.pl ((W7 m.length).map nD))=Δ (decide (o=W7 m.length)):=by unfold rR;rw[if_pos (XW (aaz ..) (by show ki (o.map nD)+1<=100;rw[Hd];decide))];exact congrArg Δ yn
 rw[this];rfl
open Classical in
theorem AO n(ok:fU w m)(hn:m.length<=4000)(hw:w<=1000)st:callC Fs (n+3) 16 [.d (mD m),.d (.int (w:Int))] st=.ok (.d (.bl (decide (jx w m)))) st:=by
 have em:∀st,callC Fs (n+2) 14 [.d (mD m),.d (.int (w:Int))] st=.ok (.d (.bl Λ)) st:=λst=>by
  rw[uO n (mD m) w (λxs e=>by
   injection e with e;refine⟨by rw[<-e,Xc];lia,λy hy ys e2 z hz zs e3=>?_⟩;rw[<-e,YQ] at hy;obtain⟨s,hs,rfl⟩:=hy;injection e2 with e2;rw[<-e2] at hz;simp only[Zy,Ze,or_false] at hz;rcases hz with z1|z1;·rw[z1] at e3;cases e3
   ·rw[z1] at e3;injection e3 with e3;rw[<-e3,Xc,ok.len s hs];lia) st,Hb ok]
 have body:∃st1,aj (callC Fs (n+2)) cB.body (ai 6 [.d (mD m),.d (.int (w:Int))]) []=.ok (.rt (.d (.bl (decide (jx w m))))) st1:=by
  have out:=xf ok hn (n+2) hw (Δ (.d (.int (w:Int)))) Θ (W7 m.length) [0] Θ Θ (by simpa using ok.ne) (by simp);cases ho:vC m (W7 m.length) [0] with
  |none=>
   rw[ho] at out;obtain⟨aM,e⟩:=out;have hf:decide (jx w m)=Ξ:=decide_eq_false λL=>by have:=ym.mpr L.ord;rw[ho] at this;cases this
   refine⟨aM,?_⟩;rw[hf];refine ag (dg (st1:=[]) (by simp[ai,em]) av) ?_;refine ag (bT (v:=.obj 0) (st1:=fB [0]) (by simp[aw,nD])) ?_;exact aA (gc (dh (j:=m.length) (by simp[mD,ai]) (by lia)) e)
  |some o=>
   rw[ho] at out;obtain⟨o1,o2,y3,y4,e⟩:=out;have er:=Ot n (w:=w) hn o y3 y4;have ec:=Ou (m:=m) o;by_cases hr:o=W7 m.length
   ·have sc:gg m 0 1=Δ m.length:=ym.mp (by rw[ho,hr]);have ep:callC Fs (n+2) 15 [.d (mD m)] (fB o)=.ok (.obj 1) (fB o++[bL (cK m)]):=AN ok hn (n+1) (fB o) hw;have hd:decide (jx w m)=decide (Red w m):=by rw[decide_eq_decide];exact⟨λL=>L.red,λR=>⟨ok,R,sc⟩⟩
    refine⟨fB o++[bL (cK m)],?_⟩;rw[hd];refine ag (dg (st1:=[]) (by simp[ai,em]) av) ?_;refine ag (bT (v:=.obj 0) (st1:=fB [0]) (by simp[aw,nD])) ?_;refine ag (gc (dh (j:=m.length) (by simp[mD,ai]) (by lia)) e) ?_;refine ag (dg (st1:=fB o) (by rw[cj,show aa (callC Fs (n+2)) (.var 2) [Δ (.d (mD m)),Δ (.d (.int (w:Int))),Δ (.obj 0),y3,y4,Θ] (fB o)=.ok (.obj 0) (fB o) by simp,ae,er,ae,ec];simp[hr]) av) ?_;refine ag (bT (v:=.obj 1) (st1:=fB o++[bL (cK m)]) (by simp only[jR,ay,aE,bc,Xm,XA,az,ae,ep])) ?_;refine aA (bD ?_);have el:=Od (st:=fB o++[bL (cK m)]) (k:=1) (ps:=cK m) rfl;have cm:kh .mul (m.length:Int) (m.length:Int)=Δ ((m.length:Int)*(m.length:Int)):=fb (.inl (by unfold mC;lia));have lm:∀st,oP .len [.d (mD m)] st=Δ (.d (.int (m.length:Nat))):=λst=>by rw[mD,JT,Xc]
    generalize hR:([Δ (.d (mD m)),Δ (.d (.int (w:Int))),Δ (.obj 0),y3,y4,Θ]:b9).set 5 (Δ (.obj 1))=r5;generalize hS:fB o++[bL (cK m)]=s5 at el;have r0:(r5[0]?).join=Δ (.d (mD m)):=by rw[<-hR];rfl
    have r1:(r5[5]?).join=Δ (.obj 1):=by rw[<-hR];rfl
    have h1:aa (callC Fs (n+2)) (.bf .len [.var 5]) r5 s5=.ok (.d (.int ((cK m).length:Nat))) s5:=by rw[cD,ay,bc,r1,az,ae,aE,ae,ae,el,az]
    have h2:aa (callC Fs (n+2)) (.bf .len [.var 0]) r5 s5=.ok (.d (.int (m.length:Nat))) s5:=by rw[cD,ay,bc,r0,az,ae,aE,ae,ae,lm,az]
    have WH:(((cK m).length:Int)==(m.length:Int)*(m.length:Int) - (m.length:Int))=decide (Red w m):=by
     rw[Zp,beq_iff_eq,qqq,<-B4 ok];have:((m.length*m.length:Nat):Int)=(m.length:Int)*(m.length:Int):=by simp
     lia
    rw[cj,h1,ae,jq,jq,h2,ae,h2,ae,Aa,cm,XM,az,ae,h2,ae,Aa,JS,XM,az,ae,G3,r8,WH,az,ae]
   ·have hf:decide (jx w m)=Ξ:=decide_eq_false λL=>by have:=ym.mpr L.ord;rw[ho] at this;injection this with this;exact hr this
    refine⟨fB o,?_⟩;rw[hf];refine ag (dg (st1:=[]) (by simp[ai,em]) av) ?_;refine ag (bT (v:=.obj 0) (st1:=fB [0]) (by simp[aw,nD])) ?_;refine ag (gc (dh (j:=m.length) (by simp[mD,ai]) (by lia)) e) ?_;exact aA (dw (st1:=fB o) (by rw[cj,show aa (callC Fs (n+2)) (.var 2) [Δ (.d (mD m)),Δ (.d (.int (w:Int))),Δ (.obj 0),y3,y4,Θ] (fB o)=.ok (.obj 0) (fB o) by simp,ae,er,ae,ec];simp[hr]) (aA (bD (by simp))))
 obtain⟨st1,e⟩:=body;exact call_of jE rfl (bS rfl e rfl)
mutual
def sm:D->Bool
 |.tup xs=>decide (xs.length<=1000)&&O1 xs|_=>Λ
def O1:List D->Bool
 |[]=>Λ|x::xs=>sm x&&O1 xs
end
theorem yw:∀{xs},O1 xs=Λ->∀x∈xs,sm x=Λ
 |[],_,x,h=>by cases h|y::ys,h,x,hx=>by
  simp only[O1,W3] at h;rcases Zy.mp hx with z|z;·rw[z];exact h.1
  ·exact yw h.2 x z
theorem m7{xs:List D}(h:sm (.tup xs)=Λ):xs.length<=1000/\∀x∈xs,sm x=Λ:=by simp only[sm,W3,qqq] at h;exact⟨h.1,yw h.2⟩
inductive Pl:D->Prop
 |int {i:Int}:0<=i->i<=10->Pl (.int i)
 |str (x:Str):Pl (.str x)
 |tup {xs:List D}:xs.length<=100->(∀x∈xs,Pl x)->Pl (.tup xs)
theorem Hv:∀{xs},(∀x∈xs,sm x=Λ)->O1 xs=Λ
 |[],_=>rfl|x::xs,h=>by simp only[O1,W3];exact⟨h x W8,Hv λy hy=>h y (W5 _ hy)⟩
theorem xg{xs:List D}(hl:xs.length<=1000)(h:∀x∈xs,sm x=Λ):sm (.tup xs)=Λ:=by simp only[sm,W3,qqq];exact⟨hl,Hv h⟩
theorem Pl.sm(h:Pl x):OZ.sm x=Λ:=by induction h with|int _ _=>rfl|str _=>rfl|tup hl _ ih=>exact xg (by lia) ih
theorem xh n a b st:callC Fs (n+1) 19 [.d (.bl a),.d (.bl b)] st=.ok (.d (.bl (a==b))) st:=by refine call_of yr rfl (bS (p:=.d (.bl (a==b))) (st:=[]) rfl (aA (bD ?_)) rfl);simp[iU,ai,bB]
theorem uP{i:Int}(h0:0<=i)(h1:i < xs.length):∃a,oY xs i=Δ a/\a∈xs:=by
 have hk:i.toNat < xs.length:=by lia
 refine⟨xs[i.toNat],?_,X6 hk⟩;have e:i=((i.toNat:Nat):Int):=by lia
 have q:=fT (xs:=xs) (k:=i.toNat) (W6 hk);rw[<-e] at q;exact q
noncomputable def p9:List D:=[.int (-1),.int 0,.int 1,.int 2,.int 3,.bl Λ,.bl Ξ,.bu,.str "",.str "a",.str "none",.str "empty",.str "any",.str "then",.str "not",.tup [],.pl [],.tup [.int 0],.tup [.int 1,.tup [.int 0]],
 .tup [.str "none"],.tup [.str "letter",.int 0],.tup [.str "letter",.bl Λ],.tup [.str "any",.int 0],.tup [.str "not"]]
theorem Ks:∀x∈p9,sm x=Λ:=yw (by decide+kernel)
theorem Hw x:∃d,sm d=Λ/\∀n st,callC Fs (n+1) 17 [.d (.int x)] st=.ok (.d d) st:=by
 obtain⟨k1,k2⟩:=bj x (show(0:Int) < 24 by decide);obtain⟨d,hd,hm⟩:=uP (xs:=p9) k1 (by show x % 24 < (24:Nat);lia);refine⟨d,Ks d hm,λn st=>?_⟩;refine call_of AH rfl (bS (p:=.d d) (st:=[]) rfl ?_ rfl);refine ag (bT (v:=.d (.pl (p9.take 19))) (st1:=[]) (by simp[ai,iy,aw,p9])) ?_;have e:p9.take 19++p9.drop 19=p9:=aaf _ _;have h2:∀r st,aa (callC Fs n) (.lst Ξ (.e7 [.tup [.cst (.str "none")],.tup [.cst (.str "letter"),.cst (.int 0)],.tup [.cst (.str "letter"),.cst (.bl Λ)],.tup [.cst (.str "any"),.cst (.int 0)],.tup [.cst (.str "not")]])) r st=.ok (.d (.pl (p9.drop 19))) st:=λr st=>by simp[aw,p9]
 have h3:(p9.take 19).length+(p9.drop 19).length<=aw:=by decide
 refine aA (bD ?_);simp only[bx,jq,h2,bc,cO,ae,RO,if_pos h3,e,Aa,bz (show(0:Int) < 24 by decide),ai,iy];have h4:min 19 p9.length+(p9.length - 19)<=aw:=by decide
 simp[bz,hd,h4]
theorem sk(h:a∈g7 xs lo hi):a∈xs:=List.mem_of_mem_drop (List.mem_of_mem_take h)
theorem lO{α:Type}(xs:List α)lo hi:(g7 xs lo hi).length<=xs.length:=by
 unfold g7;rw[Zg,abY]
 lia
theorem Hx{xs:List D}(hl:xs.length<=1000)(h:∀x∈xs,sm x=Λ):sm (.tup (g7 xs lo hi))=Λ:=xg (XW (lO _ _ _) hl) λx hx=>h x (sk hx)
theorem qO:∀(deep) (t) (x),Pl t->∃d,sm d=Λ/\∀n st,callC Fs (n+deep+2) 18 [.d t,.d (.int x),.d (.int deep)] st=.ok (.d d) st
 |deep,t,x,pt=>by
  obtain⟨k1,k2⟩:=bj x (show(0:Int) < 6 by decide);obtain⟨dO,sO,hO⟩:=Hw (x / 6);have rest:(∀n:Nat,aa (callC Fs (n+deep+1)) (.and [.cmp .gt (.var 2) (.cst (.int 0)),.sV (.var 0) "tuple",.cmp .gt (.bf .len [.var 0]) (.cst (.int 0)),.cmp .gt (.op .mod (.var 1) (.cst (.int 6))) (.cst (.int 0))])
     (ai au.nn [.d t,.d (.int x),.d (.int deep)]) []=.ok (.d (.bl Ξ)) [])->∃d,sm d=Λ/\∀n st,callC Fs (n+deep+2) 18 [.d t,.d (.int x),.d (.int deep)] st=.ok (.d d) st:=λPH=>by
   have last:(∀n:Nat,aa (callC Fs (n+deep+1)) (.and [.sV (.var 0) "tuple",.cmp .gt (.bf .len [.var 0]) (.cst (.int 0)),.cmp .eq (.op .mod (.op .fdiv (.var 1) (.cst (.int 6))) (.cst (.int 2))) (.cst (.int 0))]) (ai au.nn [.d t,.d (.int x),.d (.int deep)]) []=.ok (.d (.bl Ξ)) [])->
     (∀n:Nat,aa (callC Fs (n+deep+1)) (.and [.sV (.var 0) "int",.cmp .eq (.op .mod (.op .fdiv (.var 1) (.cst (.int 6))) (.cst (.int 2))) (.cst (.int 0))]) (ai au.nn [.d t,.d (.int x),.d (.int deep)]) []=.ok (.d (.bl Ξ)) [])->
     ∃d,sm d=Λ/\∀n st,callC Fs (n+deep+2) 18 [.d t,.d (.int x),.d (.int deep)] st=.ok (.d d) st:=λh2 h3=>by
    refine⟨dO,sO,λn st=>?_⟩;refine call_of (n:=n+deep+1) fj rfl (bS (p:=.d dO) (st:=[]) rfl ?_ rfl);refine ag (dg (PH n) av) (ag (dg (h2 n) av) (ag (dg (h3 n) av) (aA (bD ?_))));simp[ai,au,cQ,hO]
   by_cases he:x / 6 % 2=0
   ·cases pt with
    |str s=>exact last (λn=>by simp[ai,au,bB]) λn=>by simp[ai,au,bB]|@int i h0 h10=>
     obtain⟨l1,l2⟩:=bj (x / 12) (show(0:Int) < 5 by decide);have WI:i.natAbs.log2 < 1920:=abv (Nat.log2_le_self _) (by lia);obtain⟨d,hd,hm⟩:=uP (xs:=[D.str (XY (toString i)),.int (-i),.int (i+1),.bl (i==1),.int (i+2)]) l1 (by show x / 12 % 5 < (5:Nat);lia);refine⟨d,?_,λn st=>?_⟩;·simp at hm;rcases hm with rfl|rfl|rfl|rfl|rfl<;>rfl
     refine call_of (n:=n+deep+1) fj rfl (bS (p:=.d d) (st:=[]) rfl ?_ rfl);refine ag (dg (PH n) av) ?_;refine ag (dg (st1:=[]) (by simp[ai,au,bB]) av) ?_;refine aA (dw (st1:=[]) (by simp[ai,au,bB,cQ,bz,he]) (aA (bD ?_)));have hs:∀st,oP .str [.d (.int i)] st=Δ (.d (.str (XY (toString i)))):=λst=>by show(if i.natAbs.log2 < 1920 then _ else _)=_;rw[if_pos WI]
     simp only[bx,dI,eJ,ay,aE,cD,bc,pz,jq,cO,cj,ai,au];simp only[ae,az,Xm,Xn,XA,Xi,Zs,YU,Zn,hs,Aa,C4,cQ (show(0:Int) < 12/\(12:Int) < 1073741824 by decide),bz (show(0:Int) < 5 by decide),XM,G3,r8];rw[if_pos (by simp only[Xq,Y8];decide)];simp only[ae,az,JU,N5,XM,N4,hd]
    |@tup xs hl hx=>
     cases xs with
     |nil=>exact last (λn=>by simp[ai,au,bB]) λn=>by simp[ai,au,bB]|cons y ys=>
      have DW:∀z∈y::ys,sm z=Λ:=λz hz=>(hx z hz).sm;have hz:(0:Int) < (ys.length:Int)+1:=by lia
      obtain⟨l1,l2⟩:=bj (x / 12) (show(0:Int) < 6 by decide);have m9:ys.length+1<=100:=by simpa using hl
      have S2:=lO (y::ys) (Δ (-1)) Θ;simp only[Xq] at S2;obtain⟨d,hd,hm⟩:=uP (xs:=[D.pl (y::ys),.tup (g7 (y::ys) Θ (Δ (-1))),.tup (y::ys++g7 (y::ys) (Δ (-1)) Θ),.tup (g7 (y::ys) (Δ 1) Θ),.tup (y::ys).reverse,.tup (y::ys++(y::ys))]) l1 (by show x / 12 % 6 < (6:Nat);lia);refine⟨d,?_,λn st=>?_⟩
      ·simp only[Zy,Ze,or_false] at hm;rcases hm with rfl|rfl|rfl|rfl|rfl|rfl;·rfl
       ·exact Hx (by simp;lia) DW
       ·refine xg (by rw[Xs];simp;lia) λz hz=>?_;rcases aaA.mp hz with q|q;·exact DW z q
        ·exact DW z (sk q)
       ·exact Hx (by simp;lia) DW
       ·exact xg (by simp;lia) λz hz=>DW z (List.mem_reverse.mp hz)
       ·refine xg (by rw[Xs];simp;lia) λz hz=>?_;rcases aaA.mp hz with q|q<;>exact DW z q
      refine call_of (n:=n+deep+1) fj rfl (bS (p:=.d d) (st:=[]) rfl ?_ rfl);refine ag (dg (PH n) av) ?_;refine aA (dw (st1:=[]) (by simp[ai,au,bB,cQ,bz,he,hz]) (aA (bD ?_)));have hb:ys.length+1+(g7 (y::ys) (Δ (-1)) Θ).length<=16777216:=by lia
      have u5:ys.length+1<=100000:=by lia
      simp only[bx,dI,eJ,tw,ay,aE,qz,wd,mI,tu,bc,pz,jq,cO,ai,au];simp at hd;simp[aw,cQ,bz,hb,u5,hd]
   ·refine last (λn=>?_) λn=>?_
    ·cases pt with
     |str s=>simp[ai,au,bB]|int _ _=>simp[ai,au,bB]|@tup xs hl hx=>
      by_cases hz:xs.length=0;·simp[ai,au,bB,hz]
      ·have IM:(0:Int) < (xs.length:Int):=by lia
       simp[ai,au,bB,cQ,bz,he,IM]
    ·cases pt with|str s=>simp[ai,au,bB]|int _ _=>simp[ai,au,bB,cQ,bz,he]|tup _ _=>simp[ai,au,bB]
  cases pt with
  |str s=>
   refine rest λn=>?_;by_cases hd:deep=0;·subst hd;simp[ai,au]
   ·have:(0:Int) < (deep:Int):=by lia
    simp[ai,au,bB,this]
  |int _ _=>
   refine rest λn=>?_;by_cases hd:deep=0;·subst hd;simp[ai,au]
   ·have:(0:Int) < (deep:Int):=by lia
    simp[ai,au,bB,this]
  |@tup xs hl hx=>
   by_cases hc:0 < deep/\0 < xs.length/\0 < x % 6
   ·obtain⟨c1,c2,c3⟩:=hc;obtain⟨e,rfl⟩:∃e,deep=e+1:=⟨deep - 1,by lia⟩;have hn:(0:Int) < (xs.length:Int):=by lia
    obtain⟨a1,a2⟩:=bj (x / 6) hn;obtain⟨y,hy,hm⟩:=uP a1 a2;obtain⟨d,sd,hd⟩:=qO e y (x / 6 / xs.length) (hx y hm);have DW:∀z∈xs,sm z=Λ:=λz hz=>(hx z hz).sm;refine⟨.tup (g7 xs Θ (Δ (x / 6 % xs.length))++[d]++g7 xs (Δ (x / 6 % xs.length+1)) Θ),?_,λn st=>?_⟩
    ·have h1:=lO xs Θ (Δ (x / 6 % xs.length));have h2:=lO xs (Δ (x / 6 % xs.length+1)) Θ;refine xg (by rw[Xs,Xs];simp;lia) λz hz=>?_;rcases aaA.mp hz with q|q
     ·rcases aaA.mp q with q|q;·exact DW z (sk q)
      ·have:z=d:=by simpa using q
       rw[this];exact sd
     ·exact DW z (sk q)
    ·have hd2:∀st,callC Fs (n+(e+1)+1) 18 [.d y,.d (.int (x / 6 / xs.length)),.d (.int e)] st=.ok (.d d) st:=λst=>hd n st;have WJ:0 < (xs.length:Int)/\(xs.length:Int) < 1073741824:=by lia
     have f1:∀z:Int,kh .fdiv z xs.length=Δ (z / xs.length):=λz=>cQ WJ;have f2:∀z:Int,kh .mod z xs.length=Δ (z % xs.length):=λz=>bz hn;have h1:=lO xs Θ (Δ (x / 6 % xs.length));have h2:=lO xs (Δ (x / 6 % xs.length+1)) Θ;refine call_of (n:=n+(e+1)+1) fj rfl (bS (p:=.d _) (st:=[]) rfl ?_ rfl);refine aA (dw (st1:=[]) ?_ (ag (bT (v:=.d (.int (x / 6 % xs.length))) (st1:=[]) ?_) (ag (bT (v:=.d d) (st1:=[]) ?_) (aA (bD ?_)))))
     ·have:(0:Int) < (e:Int)+1:=by lia
      simp[ai,au,bB,bz,c3,this,c2]
     ·simp[ai,au,cQ,f2]
     ·simp[ai,au,cQ,f1,hy,hd2]
     ·have b1:(g7 xs Θ (Δ (x / 6 % xs.length))).length+1<=aw:=by unfold aw;lia
      have b2:(g7 xs Θ (Δ (x / 6 % xs.length))).length+1+(g7 xs (Δ (x / 6 % xs.length+1)) Θ).length<=aw:=by unfold aw;lia
      have b3:1<=aw:=by decide
      have b4:(g7 xs Θ (Δ (x / 6 % xs.length))).length+((g7 xs (Δ (x / 6 % xs.length+1)) Θ).length+1)<=aw:=by lia
      simp[ai,au,b1,b2,b3,b4]
   ·refine rest λn=>?_;by_cases hd:deep=0;·subst hd;simp[ai,au]
    ·have h1:(0:Int) < (deep:Int):=by lia
     by_cases hz:xs.length=0;·simp[ai,au,bB,h1,hz]
     ·have IM:(0:Int) < (xs.length:Int):=by lia
      have h6:¬0 < x % 6:=λz=>hc ⟨by lia,by lia,z⟩;simp[ai,au,bB,h1,IM,bz]
      lia
 termination_by deep=>deep
theorem AQ n x w st:callC Fs (n+1) 2 [.d x,.d (.int w)] st=.ok (.d (.bl (fc x (w - 1)))) st:=by
 refine call_of mY rfl (bS (p:=.d (.bl (fc x (w - 1)))) (st:=[]) rfl (aA (bD ?_)) rfl);cases x with
 |int i=>
  have e:decide (i<=w - 1)=decide (i < w):=by rw[decide_eq_decide];lia
  by_cases h:0<=i<;>simp[cF,ai,bB,fc,h,e]
 |_=>simp[cF,ai,bB,fc]
def uQ(x:D)(c:Int):Bool:=match x with|.tup xs=>xs.all λs=>fc s (c - 1)|_=>Ξ
theorem EC n x c(hx:sm x=Λ)st:callC Fs (n+2) 3 [.d x,.d (.int c)] st=.ok (.d (.bl (uQ x c))) st:=by
 refine call_of lq rfl (bS (p:=.d (.bl (uQ x c))) (st:=[]) rfl (aA (bD ?_)) rfl);cases x with
 |tup xs=>
  have hl:=(m7 hx).1;have rP:xs.length<=aw:=by unfold aw;lia
  have hc:aX (callC Fs (n+1)) (.comp (.ex (.var 0)) 1 [1] Θ (.call 2 [.var 0,.var 1])) [Δ (.d (.tup xs)),Δ (.d (.int c))] []=.ok (xs.map λy=>.d (.bl (fc y (c - 1)))) []:=
   wW (f:=λy=>.bl (fc y (c - 1))) (by simp) rP λy _=>by simp[bO,AQ]
  simp[ai,bX,bB,hc,uQ,Yn]
 |_=>simp[ai,bX,bB,uQ]
theorem Cd n x w c(hx:sm x=Λ)st:callC Fs (n+3) 4 [.d x,.d (.int w),.d (.int c)] st=.ok (.d (.bl (b7 w (c - 1) x))) st:=by
 refine call_of AG rfl (bS (p:=.d (.bl (b7 w (c - 1) x))) (st:=[]) rfl ?_ rfl);cases x with
 |tup ys=>
  match ys,hx with
  |[],_=>exact aA (dw (st1:=[]) (by simp[ai,cq,bB]) (aA (bD (by simp[b7]))))|[a],_=>exact aA (dw (st1:=[]) (by simp[ai,cq,bB]) (aA (bD (by simp[b7]))))|a::b::d::r,_=>
   have:((r.length:Int)+1+1+1==2)=Ξ:=by rw[beq_eq_false_iff_ne];lia
   exact aA (dw (st1:=[]) (by simp[ai,cq,bB,this]) (aA (bD (by simp[b7]))))
  |[a,b],hx=>
   have hb:=(m7 hx).2 b (by simp);refine ag (dg (st1:=[]) (by simp[ai,cq,bB]) av) (aA (bD ?_));have e1:=AQ (n+1) a 2 [];have e2:=EC n b c hb [];have e1':fc a (2 - 1)=fc a 1:=rfl;rw[e1'] at e1;simp only[b7];rcases Zh (fc a 1) with h1|h1
   case inr=>rw[h1] at e1;simp[ai,cq,e1,h1]
   case inl=>
    rw[h1] at e1;rcases Zh (uQ b c) with h2|h2
    case inr=>
     rw[h2] at e2;have h3:jY b w (c - 1)=Ξ:=by cases b with|tup ss=>simp only[uQ] at h2;simp[jY,h2]|_=>rfl
     simp[ai,cq,e1,e2,h1,h3]
    case inl=>
     rw[h2] at e2;cases b with
     |tup ss=>
      simp only[uQ] at h2;have h3:jY (.tup ss) w (c - 1)=decide ((ss.length:Int)=w):=by simp[jY,h2]
      have h4:((ss.length:Int)==w)=decide ((ss.length:Int)=w):=rfl;simp[ai,cq,e1,e2,h1,h3,h4]
     |_=>cases h2
 |_=>exact aA (dw (st1:=[]) (by simp[ai,cq,bB]) (aA (bD (by simp[b7]))))
theorem ke n x w(hx:sm x=Λ)st:callC Fs (n+4) 5 [.d x,.d (.int w)] st=.ok (.d (.bl (eU x w))) st:=by
 refine call_of vG rfl (bS (p:=.d (.bl (eU x w))) (st:=[]) rfl ?_ rfl);cases x with
 |tup xs=>
  obtain⟨hl,hs⟩:=m7 hx;by_cases he:xs.length=0;·have:xs=[]:=List.length_eq_zero_iff.mp he;subst this;exact aA (dw (st1:=[]) (by simp[ai,c0,bB]) (aA (bD (by simp[eU]))))
  ·have hz:((xs.length:Int)==0)=Ξ:=by rw[beq_eq_false_iff_ne];lia
   refine ag (dg (st1:=[]) (by simp[ai,c0,bB,hz]) av) (aA (bD ?_));have rP:xs.length<=aw:=by unfold aw;lia
   have hc:aX (callC Fs (n+3)) (.comp (.ex (.var 0)) 1 [1,0] Θ (.call 4 [.var 0,.var 1,.bf .len [.var 2]])) [Δ (.d (.tup xs)),Δ (.d (.int w))] []=.ok (xs.map λy=>.d (.bl (b7 w ((xs.length:Int) - 1) y))) []:=
    wW (f:=λy=>.bl (b7 w ((xs.length:Int) - 1) y)) (by simp) rP λy hy=>by simp[bO,Cd n y w xs.length (hs y hy)]
   have em:eU (.tup xs) w=xs.all λy=>b7 w ((xs.length:Int) - 1) y:=by unfold eU;cases xs with|nil=>exact absurd rfl he|cons a b=>rfl
   rw[em];simp[ai,c0,hc,Yn]
 |_=>exact aA (dw (st1:=[]) (by simp[ai,c0,bB]) (aA (bD (by simp[eU]))))
theorem AR n x w(hx:sm x=Λ)st:callC Fs (n+2) 14 [.d x,.d (.int w)] st=.ok (.d (.bl (eU x w))) st:=
 uO n x w (λxs e=>by
  subst e;obtain⟨h1,h2⟩:=m7 hx;refine⟨by lia,λy hy ys e z hz zs e2=>?_⟩;subst e;have h3:=(m7 (h2 _ hy)).2 z hz;subst e2;have:=(m7 h3).1
  lia) st
theorem AS:∀{a b:dR},fI (a.map gf) (b.map gf)=decide (a=b)
 |[],[]=>rfl|[],_::_=>rfl|_::_,[]=>rfl|(g,u)::a,(h,v)::b=>by
  simp only[Xi,fI,gf,wD,u6,nD];rw[show fI (aak gf a) (aak gf b)=decide (a=b) from AS,show fI (aak nD u) (aak nD v)=decide (u=v) from yn];rw[Zp];simp;intro _ _
  lia
theorem Kt a b:rR (mD a) (mD b)=Δ (decide (a=b)):=by unfold rR;rw[if_pos (by have:=Hq a;have:=Hq b;lia)];unfold mD;rw[u6,AS]
open Classical in
theorem vK x(w:Nat)(hw:w<=1000)(hx:sm x=Λ):∃b,(∀n st,callC Fs (n+7) 8 [.d x,.d (.int (w:Int))] st=.ok (.d (.bl b)) st)/\(∀n st,callC Fs (n+3) 16 [.d x,.d (.int (w:Int))] st=.ok (.d (.bl b)) st):=by
 cases hm:eU x w with
 |false=>
  refine⟨Ξ,λn st=>?_,λn st=>?_⟩;·have e:=ke (n+2) x w hx [];rw[hm] at e;refine call_of qM rfl (bS (p:=.d (.bl Ξ)) (st:=[]) rfl (aA (bD ?_)) rfl);simp[ai,iw,e]
  ·have e:=AR n x w hx [];rw[hm] at e;refine call_of jE rfl (bS (p:=.d (.bl Ξ)) (st:=[]) rfl (aA (dw (st1:=[]) ?_ (aA (bD ?_)))) rfl);·simp[ai,cB,e]
   ·simp[ai,cB]
 |true=>
  obtain⟨m,e,ok⟩:=Ha hm;subst e;have hl:m.length<=1000:=by have:=(m7 hx).1;rwa [Xc] at this
  refine⟨decide (jx w m),λn st=>?_,λn st=>AO n ok (by lia) hw st⟩;have e:=ke (n+2) (mD m) w hx [];rw[hm] at e;have e2:=uN ok (by lia) hw n [];have e3:decide (fN w m=m)=decide (jx w m):=by rw[decide_eq_decide];exact⟨λh=>by have:=(j8 ok (by lia)).1;rwa [h] at this,λh=>Ay h (by lia)⟩
  refine call_of qM rfl (bS (p:=.d (.bl (decide (jx w m)))) (st:=[]) rfl (aA (bD ?_)) rfl);rw[<-e3];simp[ai,iw,e,e2,Kt]
theorem Lr(ok:fU w m)(hm:m.length<=10)(hw:w<=100):Pl (mD m):=by
 unfold mD;refine .tup (by rw[Xc];lia) λx hx=>?_;rw[YQ] at hx;obtain⟨s,hs,rfl⟩:=hx;unfold gf;refine .tup (by simp) λy hy=>?_;simp only[Zy,Ze,or_false] at hy;rcases hy with rfl|rfl;·have:=ok.good s hs;exact .int (by lia) (by lia)
 ·refine .tup (by rw[Xc,ok.len s hs];lia) λz hz=>?_;rw[YQ] at hz;obtain⟨t,ht,rfl⟩:=hz;have:=ok.lt s hs t ht;exact .int (by lia) (by lia)
theorem Hy ns(hl:ns.length<=63):callC Fs 60 20 [.gq ns] []=.ok (.d (.bl Λ)) []:=by
 obtain⟨w,hw⟩:∃w:Nat,1+mixed ns 0 % 3=(w:Int):=⟨(1+mixed ns 0 % 3).toNat,by have:=bj (mixed ns 0) (show(0:Int) < 3 by decide);lia⟩;have w1:1<=w/\w<=3:=by have:=bj (mixed ns 0) (show(0:Int) < 3 by decide);lia
 obtain⟨c,hc⟩:∃c:Nat,1+mixed ns 1 % 6=(c:Int):=⟨(1+mixed ns 1 % 6).toNat,by have:=bj (mixed ns 1) (show(0:Int) < 6 by decide);lia⟩;have c1:1<=c/\c<=6:=by have:=bj (mixed ns 1) (show(0:Int) < 6 by decide);lia
 let m:=HN (mixed ns 1) w c
 have ok:fU w m:=N9 _ _ (by lia);have ml:m.length=c:=J2 _ _ _;have eM:∀st,callC Fs 59 12 [.d (.int (mixed ns 1)),.d (.int (w:Int)),.d (.int 6)] st=.ok (.d (mD m)) st:=λst=>EB 57 (mixed ns 1) w 6 c w1.2 (by decide) hc (by lia) st;have eX0:∀st,callC Fs 59 10 [.gq ns,.d (.int 0)] st=.ok (.d (.int (mixed ns 0))) st:=λst=>iX 57 ns 0 rfl st;have eX1:∀st,callC Fs 59 10 [.gq ns,.d (.int 1)] st=.ok (.d (.int (mixed ns 1))) st:=λst=>iX 57 ns 1 rfl st;have R9:∀st,callC Fs 59 10 [.gq ns,.d (.int 2)] st=.ok (.d (.int (mixed ns 2))) st:=λst=>iX 57 ns 2 rfl st;have eX3:∀st,callC Fs 59 10 [.gq ns,.d (.int 3)] st=.ok (.d (.int (mixed ns 3))) st:=λst=>iX 57 ns 3 rfl st;obtain⟨ll,ls⟩:=j8 ok (by lia);have llen:=B6 ok (by lia);have eL:∀st,callC Fs 59 7 [.d (mD m)] st=.ok (.d (mD (fN w m))) st:=λst=>uN ok (by lia) (by lia) 53 st;refine call_of Oi rfl (bS (p:=.d (.bl Λ)) (st:=[]) rfl ?_ rfl);have c3:kh .mod (mixed ns 0) 3=Δ (mixed ns 0 % 3):=bz (by decide);refine ag (bT (v:=.d (.int (w:Int))) (st1:=[]) (by simp[ai,xb,eX0,c3,hw])) ?_;obtain⟨q1,q2⟩:=bj (mixed ns 0 / 3) (show(0:Int) < 5 by decide);obtain⟨dl,Mo,hdm⟩:=uP (xs:=[D.int 0,.int 0,.int 0,.int 1,.int (-1)]) q1 (by show mixed ns 0 / 3 % 5 < (5:Nat);lia);obtain⟨i,rfl⟩:∃i,dl=.int i:=by simp at hdm;rcases hdm with rfl|rfl|rfl<;>exact⟨_,rfl⟩
 obtain⟨th,hth⟩:∃th:Nat,min 3 (max 1 ((w:Int)+i))=(th:Int):=⟨(min 3 (max 1 ((w:Int)+i))).toNat,by lia⟩;have th3:th<=3:=by lia
 refine ag (bT (v:=.d (.int (th:Int))) (st1:=[]) (by simp[ai,xb,eX0,bz,cQ,aw,Mo,hth])) ?_;refine ag (bT (v:=.d (mD m)) (st1:=[]) (by simp[ai,xb,eX1,eM])) ?_;have c2:kh .mod (mixed ns 2) 2=Δ (mixed ns 2 % 2):=bz (by decide);obtain⟨m',ok',ml',eS⟩:∃m':dR,fU w m'/\m'.length<=6/\aP (callC Fs 59) (.ifs (.cmp .eq (.op .mod (.call 10 [.var 0,.cst (.int 2)]) (.cst (.int 2))) (.cst (.int 1))) [.set 3 (.call 7 [.var 3])] []) [Δ (.gq ns),Δ (.d (.int (w:Int))),Δ (.d (.int (th:Int))),Δ (.d (mD m))] []=.ok (.nx [Δ (.gq ns),Δ (.d (.int (w:Int))),Δ (.d (.int (th:Int))),Δ (.d (mD m'))]) []:=by
  by_cases h:mixed ns 2 % 2=1;·exact⟨fN w m,ll.ok,by lia,dw (st1:=[]) (by simp[R9,c2,h]) (ag (bT (v:=.d (mD (fN w m))) (st1:=[]) (by simp[eL])) av)⟩
  ·exact⟨m,ok,by lia,dg (st1:=[]) (by simp[R9,c2,h]) av⟩
 refine ag eS ?_;obtain⟨p1,p2⟩:=bj (mixed ns 2 / 6) (show(0:Int) < 4 by decide);obtain⟨dp,hdp⟩:∃dp:Nat,mixed ns 2 / 6 % 4=(dp:Int):=⟨(mixed ns 2 / 6 % 4).toNat,by lia⟩;obtain⟨d,sd,eD⟩:=qO dp (mD m') (mixed ns 3) (Lr ok' (by lia) (by lia));obtain⟨k,hk⟩:∃k:Nat,59=k+dp+2:=⟨57 - dp,by lia⟩;have eP:∀st,callC Fs 59 18 [.d (mD m'),.d (.int (mixed ns 3)),.d (.int (dp:Int))] st=.ok (.d d) st:=λst=>by rw[hk];exact eD k st
 have f2:kh .fdiv (mixed ns 2) 2=Δ (mixed ns 2 / 2):=cQ (by decide);have f6:kh .fdiv (mixed ns 2) 6=Δ (mixed ns 2 / 6):=cQ (by decide);have g3:kh .mod (mixed ns 2 / 2) 3=Δ (mixed ns 2 / 2 % 3):=bz (by decide);have g4:kh .mod (mixed ns 2 / 6) 4=Δ (dp:Int):=by rw[<-hdp];exact bz (by decide)
 obtain⟨t,st,eT⟩:∃t:D,sm t=Λ/\aP (callC Fs 59) (.ifs (.cmp .eq (.op .mod (.op .fdiv (.call 10 [.var 0,.cst (.int 2)]) (.cst (.int 2))) (.cst (.int 3))) (.cst (.int 1))) [.set 3 (.call 18 [.var 3,.call 10 [.var 0,.cst (.int 3)],.op .mod (.op .fdiv (.call 10 [.var 0,.cst (.int 2)]) (.cst (.int 6))) (.cst (.int 4))])] []) [Δ (.gq ns),Δ (.d (.int (w:Int))),Δ (.d (.int (th:Int))),Δ (.d (mD m'))] []=.ok (.nx [Δ (.gq ns),Δ (.d (.int (w:Int))),Δ (.d (.int (th:Int))),Δ (.d t)]) []:=by
  by_cases h:mixed ns 2 / 2 % 3=1;·exact⟨d,sd,dw (st1:=[]) (by simp[R9,f2,g3,h]) (ag (bT (v:=.d d) (st1:=[]) (by simp[R9,eX3,f6,g4,eP])) av)⟩
  ·exact⟨mD m',(Lr ok' (by lia) (by lia)).sm,dg (st1:=[]) (by simp[R9,f2,g3,h]) av⟩
 refine ag eT ?_;have e1:=ke 55 t th st [];have e2:=AR 57 t th st [];have e3:=xh 58 (eU t th) (eU t th) [];refine ag (dg (st1:=[]) (by simp[e1,e2,e3]) av) ?_;obtain⟨b,h1,h2⟩:=vK t th (by lia) st;have WG:=h1 52 [];have qr:=h2 56 [];have e4:=xh 58 b b [];refine aA (bD ?_);simp[WG,qr,e4]
end OZ
namespace OZ
open PySem L2 Y
noncomputable def top(i:Nat):Stmt:=PySem.Challenge.pw_wordyard_k02_machines.main.body.getD i (.Pass ⟨0,0,0,0⟩)
noncomputable def AU(j:Nat):Stmt->Stmt
 |.ClassDef _ _ _ body _ _ _ _ _ _ _=>body.getD j (.Pass ⟨0,0,0,0⟩)|_=>.Pass ⟨0,0,0,0⟩
abbrev oF:Stmt:=top 1
def yx:Info:=⟨"sources_by",oF,["machine","letter","sources","number","state"],["machine","letter"],gW⟩
abbrev ly:Stmt:=top 3
def uR:Info:=⟨"firsts_alike",ly,["machine","groups","firsts","state","group"],["machine"],fe⟩
abbrev iY:Stmt:=top 5
def oG:Info:=⟨"is_number_below",iY,["thing","end"],["thing","end"],cF⟩
abbrev gN:Stmt:=top 6
def lX:Info:=⟨"are_numbers_below",gN,["thing","end"],["thing","end"],bX⟩
abbrev uS:Stmt:=top 7
def Ce:Info:=⟨"is_state",uS,["thing","wide","states"],["thing","wide","states"],cq⟩
abbrev oH:Stmt:=top 8
def yy:Info:=⟨"is_machine",oH,["thing","wide"],["thing","wide"],c0⟩
abbrev lA:Stmt:=top 10
def uT:Info:=⟨"machine_from",lA,["start","steps_of","good_of","numbers","places","states","place","steps","step"],["start","steps_of","good_of"],cR⟩
abbrev Dk:Stmt:=top 11
def yz:Info:=⟨"least",Dk,["machine","firsts","steps_of"],["machine"],oA⟩
abbrev uU:Stmt:=top 12
def Cf:Info:=⟨"is_least",uU,["thing","wide"],["thing","wide"],iw⟩
abbrev lB:Stmt:=top 14
def uV:Info:=⟨"_law_cell_at",lB,["_law_script","_law_k"],["_law_script","_law_k"],cT⟩
abbrev oI:Stmt:=top 15
def yA:Info:=⟨"_law_mixed",oI,["_law_script","_law_k","_law_drawn_here"],["_law_script","_law_k"],ff⟩
abbrev oJ:Stmt:=top 16
def yB:Info:=⟨"_law_drawn",oJ,["_law_number_here","_law_k","_law_drawn_here"],["_law_number_here","_law_k"],fg⟩
abbrev lC:Stmt:=top 17
def uW:Info:=⟨"_law_machine",lC,["_law_number_here","_law_wide","_law_most","_law_count","_law_states","_law_k","_law_steps"],["_law_number_here","_law_wide","_law_most"],cU⟩
abbrev mi:Stmt:=top 18
def vL:Info:=⟨"_law_number",mi,["_law_thing","_law_high"],["_law_thing","_law_high"],dZ⟩
abbrev iZ:Stmt:=top 19
def oK:Info:=⟨"_law_is_machine",iZ,["_law_thing","_law_wide","_law_state"],["_law_thing","_law_wide"],bh⟩
abbrev mj:Stmt:=top 20
def vM:Info:=⟨"_law_parted",mj,["_law_machine_here","_law_count","_law_apart_ones","_law_one","_law_other","_law_k","_law_pairs"],["_law_machine_here"],eh⟩
abbrev kn:Stmt:=top 21
def rG:Info:=⟨"_law_is_least",kn,["_law_machine_here","_law_wide","_law_order","_law_k","_law_step","_law_apart_ones"],["_law_machine_here","_law_wide"],cB⟩
abbrev uX:Stmt:=top 22
def Cg:Info:=⟨"_law_odd",uX,["_law_number_here","_law_some"],["_law_number_here"],iy⟩
abbrev mn:Stmt:=top 23
def vN:Info:=⟨"_law_spoilt",mn,["_law_thing","_law_number_here","_law_deep","_law_at","_law_part"],["_law_thing","_law_number_here","_law_deep"],au⟩
abbrev qP:Stmt:=top 24
def AV:Info:=⟨"_law_same",qP,["_law_found","_law_due"],["_law_found","_law_due"],iU⟩
abbrev Ls:Stmt:=top 25
def Sa:Info:=⟨"law",Ls,["_law_script","_law_wide","_law_there","_law_thing"],["_law_script"],xb⟩
abbrev i0:Stmt:=AU 0 (top 2)
def oM:Info:=⟨"Groups.__init__",i0,["self","machine","number","state"],["self","machine"],fh⟩
abbrev i8:Stmt:=AU 1 (top 2)
def oN:Info:=⟨"Groups.let_wait",i8,["self","group"],["self","group"],cH⟩
abbrev iA:Stmt:=AU 2 (top 2)
def m8:Info:=⟨"Groups.set_apart",iA,["self","group","states","rest","fresh","state"],["self","group","states"],bw⟩
abbrev fD:Stmt:=AU 3 (top 2)
def ku:Info:=⟨"Groups.set_apart_by",fD,["self","targets","letter","stepping","target","state","group","states"],["self","targets","letter"],cu⟩
abbrev kq:Stmt:=AU 4 (top 2)
def rH:Info:=⟨"Groups.settle",kq,["self","group","targets","letter"],["self"],gG⟩
def qa:CI:=⟨Ξ,"least.<locals>.steps_of",["state","firsts","machine"],["state"],["firsts","machine"],fQ⟩
def rJ:CI:=⟨Λ,"least.<locals>.<lambda>",["state","machine"],["state"],["machine"],di⟩
def tx:TX:={is:=[(yx,[]),(uR,[]),(oG,[]),(lX,[]),(Ce,[]),(yy,[]),(uT,[]),(yz,[(26,⟨90,4,91,59⟩),(27,⟨92,45,92,76⟩)]),(Cf,[]),(uV,[]),(yA,[]),(yB,[]),(uW,[]),(vL,[]),(oK,[]),(vM,[]),(rG,[]),(Cg,[]),(vN,[]),(AV,[]),(Sa,[]),(oM,[]),(oN,[]),(m8,[]),(ku,[]),(rH,[])],VU:=[qa,rJ],cs:=[],ts:=[],nf:=21,ks:=[{name:="Groups",rg:=["sources","group_of","members","waiting","waits"],GP:=[("__init__",21),("let_wait",22),("set_apart",23),("set_apart_by",24),("settle",25)]}]}
theorem is_Fs:tx.Fs=Fs:=rfl
theorem n6:Lg tx=Λ:=by decide+kernel
def Tz(K:Xf)(x:Str):Addr:=((Zx K x).map (·.2)).getD 0
theorem Ov(h:(Zx K x).map (·.1)=Δ c):Zx K x=Δ (c,Tz K x):=by unfold Tz;cases e:Zx K x with|none=>rw[e] at h;cases h|some p=>rw[e] at h;cases h;rfl
noncomputable def xs:List Str:=["least"]
def WK:List (List (Pos×Str)):=[dv tx (yz,[(26,⟨90,4,91,59⟩),(27,⟨92,45,92,76⟩)])]
def uY(pt:List (Addr×Addr)):List (Addr×List (Pos×Str)):=(pt.zip WK).map λp=>(p.1.2,p.2)
theorem Hz:L2.Apart (dv tx (yz,[(26,⟨90,4,91,59⟩),(27,⟨92,45,92,76⟩)])):=by unfold L2.Apart;decide+kernel
set_option maxHeartbeats 0 in
theorem all_mk{l:ach}{w:World}{K:Xf}{h:Heap}{mg:Str->Option Value}{fa f0 f1 f2 f3 f4 f5 f6 f7 f8 f9 WL WM WN WO WQ WR WS WT WU WV f20 TB TC TF TH TJ bM Ow:Addr}{d0 d1 d2 d3 d4 d5 d6 d7 d8 d9 d10 d11 d12 d13 d14 d15 d16 d17 d18 d19 TK d21 d22 d23 d24 d25:Zb}(X:K.In h)(G:h.Ns Xk mg)(hfa:mg "law"=Δ (.ref fa))
  (AW:Xr K Xk "Groups"=Δ (Δ (.ref bM)))
  (ED:aaq K bM Str.empty=Λ)
  (EE:aaM K bM=Λ)
  (EF:abC K bM=Λ)
  (EG:XT K (.ref bM) "__setattr__"=Δ (Δ (.builtin "object.__setattr__")))
  (EH:acg K bM=Λ)
  (EI:ZE K (.ref bM)=Λ)
  (qb:XT K (.ref bM) "sources"=Δ Θ)
  (oO:XT K (.ref bM) "group_of"=Δ Θ)
  (qc:XT K (.ref bM) "members"=Δ Θ)
  (qd:XT K (.ref bM) "waiting"=Δ Θ)
  (uZ:XT K (.ref bM) "waits"=Δ Θ)
  (a0:Xr K Xk "sources_by"=Δ (Δ (.ref f0)))
  (F0:my K "sources_by" "sources_by" oF f0 d0)
  (a1:Xr K Xk "firsts_alike"=Δ (Δ (.ref f1)))
  (F1:my K "firsts_alike" "firsts_alike" ly f1 d1)
  (a2:Xr K Xk "is_number_below"=Δ (Δ (.ref f2)))
  (F2:my K "is_number_below" "is_number_below" iY f2 d2)
  (a3:Xr K Xk "are_numbers_below"=Δ (Δ (.ref f3)))
  (F3:my K "are_numbers_below" "are_numbers_below" gN f3 d3)
  (a4:Xr K Xk "is_state"=Δ (Δ (.ref f4)))
  (F4:my K "is_state" "is_state" uS f4 d4)
  (a5:Xr K Xk "is_machine"=Δ (Δ (.ref f5)))
  (F5:my K "is_machine" "is_machine" oH f5 d5)
  (a6:Xr K Xk "machine_from"=Δ (Δ (.ref f6)))
  (F6:my K "machine_from" "machine_from" lA f6 d6)
  (a7:Xr K Xk "least"=Δ (Δ (.ref f7)))
  (F7:my K "least" "least" Dk f7 d7)
  (q7:d7.code=.ref Ow)
  (t7:(Zx K "least").map (·.1)=Δ Ow)
  (a8:Xr K Xk "is_least"=Δ (Δ (.ref f8)))
  (F8:my K "is_least" "is_least" uU f8 d8)
  (a9:Xr K Xk "_law_cell_at"=Δ (Δ (.ref f9)))
  (F9:my K "_law_cell_at" "_law_cell_at" lB f9 d9)
  (a10:Xr K Xk "_law_mixed"=Δ (Δ (.ref WL)))
  (F10:my K "_law_mixed" "_law_mixed" oI WL d10)
  (a11:Xr K Xk "_law_drawn"=Δ (Δ (.ref WM)))
  (F11:my K "_law_drawn" "_law_drawn" oJ WM d11)
  (a12:Xr K Xk "_law_machine"=Δ (Δ (.ref WN)))
  (F12:my K "_law_machine" "_law_machine" lC WN d12)
  (a13:Xr K Xk "_law_number"=Δ (Δ (.ref WO)))
  (F13:my K "_law_number" "_law_number" mi WO d13)
  (a14:Xr K Xk "_law_is_machine"=Δ (Δ (.ref WQ)))
  (F14:my K "_law_is_machine" "_law_is_machine" iZ WQ d14)
  (a15:Xr K Xk "_law_parted"=Δ (Δ (.ref WR)))
  (F15:my K "_law_parted" "_law_parted" mj WR d15)
  (a16:Xr K Xk "_law_is_least"=Δ (Δ (.ref WS)))
  (F16:my K "_law_is_least" "_law_is_least" kn WS d16)
  (a17:Xr K Xk "_law_odd"=Δ (Δ (.ref WT)))
  (F17:my K "_law_odd" "_law_odd" uX WT d17)
  (a18:Xr K Xk "_law_spoilt"=Δ (Δ (.ref WU)))
  (F18:my K "_law_spoilt" "_law_spoilt" mn WU d18)
  (a19:Xr K Xk "_law_same"=Δ (Δ (.ref WV)))
  (F19:my K "_law_same" "_law_same" qP WV d19)
  (a20:Xr K Xk "law"=Δ (Δ (.ref f20)))
  (WW:my K "law" "law" Ls f20 TK)
  (a21:XT K (.ref bM) "__init__"=Δ (Δ (.ref TB)))
  (WX:my K "__init__" "Groups.__init__" i0 TB d21)
  (n21:Z9 K (.ref TB)=Λ)
  (a22:XT K (.ref bM) "let_wait"=Δ (Δ (.ref TC)))
  (WY:my K "let_wait" "Groups.let_wait" i8 TC d22)
  (n22:Z9 K (.ref TC)=Λ)
  (a23:XT K (.ref bM) "set_apart"=Δ (Δ (.ref TF)))
  (WZ:my K "set_apart" "Groups.set_apart" iA TF d23)
  (n23:Z9 K (.ref TF)=Λ)
  (a24:XT K (.ref bM) "set_apart_by"=Δ (Δ (.ref TH)))
  (W0:my K "set_apart_by" "Groups.set_apart_by" fD TH d24)
  (n24:Z9 K (.ref TH)=Λ)
  (a25:XT K (.ref bM) "settle"=Δ (Δ (.ref TJ)))
  (W1:my K "settle" "Groups.settle" kq TJ d25)
  (n25:Z9 K (.ref TJ)=Λ)
  (nt:aaL K=Λ)
  (nd:decide [Tz K "least"].Nodup=Λ)
  (Sb:Xr K Xk "len"=Δ Θ)
  (Sd:Xr K Xk "min"=Δ Θ)
  (Se:Xr K Xk "max"=Δ Θ)
  (Sf:Xr K Xk "all"=Δ Θ)
  (Sg:Xr K Xk "any"=Δ Θ)
  (Sh:Xr K Xk "sum"=Δ Θ)
  (Si:Xr K Xk "str"=Δ Θ)
  (Ku:Xr K Xk "tuple"=Δ Θ)
  (Ox:Xr K Xk "list"=Δ Θ)
  (Sj:Xr K Xk "int"=Δ Θ)
  (Oy:Xr K Xk "bool"=Δ Θ)
  (yC:Xr K Xk "isinstance"=Δ Θ)
  (Kv:Xr K Xk "range"=Δ Θ)
  (Sk:Xr K Xk "zip"=Δ Θ)
  (AX:Xr K Xk "enumerate"=Δ Θ)
  (HA:Xr K Xk "sorted"=Δ Θ)
  :(xs≠[]->aaL K=Λ)/\∃(tabs:List (Addr×Addr)) (fd:Zb),xs.map (Zx K)=tabs.map Δ/\(∀(s:Xp) (v:Value),acb s fd ⟨[v],[]⟩ [("_law_script",v)])/\
   (∀base:Heap,K.In base->base.Ns Xk mg->(∀q∈tabs,Zl base q.1 q.2)->BMain mg base->gp l.prog w K mg base u0 (lv 60) fa fd ["_law_script"] (BR (mO tx K base (uY tabs)) (callC Fs 60 20) 1))/\tabs.length=WK.length:=by
 have e:=hfa.symm.trans (XS X G a20);cases e;replace nd:=of_decide_eq_true nd;replace t7:=Ov t7;generalize Tz K "least"=Sl at*;have T:yb K mg tx (uY [(Ow,Sl)]) (λk=>[f0,f1,f2,f3,f4,f5,f6,f7,f8,f9,WL,WM,WN,WO,WQ,WR,WS,WT,WU,WV,fa,TB,TC,TF,TH,TJ].getD k 0) (λk=>[d0,d1,d2,d3,d4,d5,d6,d7,d8,d9,d10,d11,d12,d13,d14,d15,d16,d17,d18,d19,TK,d21,d22,d23,d24,d25].getD k TK) (λk=>[(0,0),(0,0),(0,0),(0,0),(0,0),(0,0),(0,0),(Ow,Sl)].getD k (0,0)):=by
  refine⟨B0 ?_,?_,λx i hx=>?_,λx t hx=>?_,λq hq=>?_,B0 ?_⟩;·exact(aW ⟨⟨_,F0⟩,λ_=>XS X G a0,F0.binds λ_ _ _ _ _ _=>oa λ_ _=>rfl,qH n6 (k:=0) rfl⟩ (aW ⟨⟨_,F1⟩,λ_=>XS X G a1,F1.binds λ_ _ _ _ _ _=>El λ_=>rfl,qH n6 (k:=1) rfl⟩ (aW ⟨⟨_,F2⟩,λ_=>XS X G a2,F2.binds λ_ _ _ _ _ _=>oa λ_ _=>rfl,qH n6 (k:=2) rfl⟩ (aW ⟨⟨_,F3⟩,λ_=>XS X G a3,F3.binds λ_ _ _ _ _ _=>oa λ_ _=>rfl,qH n6 (k:=3) rfl⟩ (aW ⟨⟨_,F4⟩,λ_=>XS X G a4,F4.binds λ_ _ _ _ _ _=>Em λ_ _ _=>rfl,qH n6 (k:=4) rfl⟩ (aW ⟨⟨_,F5⟩,λ_=>XS X G a5,F5.binds λ_ _ _ _ _ _=>oa λ_ _=>rfl,qH n6 (k:=5) rfl⟩ (aW ⟨⟨_,F6⟩,λ_=>XS X G a6,F6.binds λ_ _ _ _ _ _=>Em λ_ _ _=>rfl,qH n6 (k:=6) rfl⟩ (aW ⟨⟨_,F7⟩,λ_=>XS X G a7,F7.binds λ_ _ _ _ _ _=>El λ_=>rfl,qH n6 (k:=7) rfl⟩ (aW ⟨⟨_,F8⟩,λ_=>XS X G a8,F8.binds λ_ _ _ _ _ _=>oa λ_ _=>rfl,qH n6 (k:=8) rfl⟩ (aW ⟨⟨_,F9⟩,λ_=>XS X G a9,F9.binds λ_ _ _ _ _ _=>oa λ_ _=>rfl,qH n6 (k:=9) rfl⟩ (aW ⟨⟨_,F10⟩,λ_=>XS X G a10,F10.binds λ_ _ _ _ _ _=>oa λ_ _=>rfl,qH n6 (k:=10) rfl⟩ (aW ⟨⟨_,F11⟩,λ_=>XS X G a11,F11.binds λ_ _ _ _ _ _=>oa λ_ _=>rfl,qH n6 (k:=11) rfl⟩ (aW ⟨⟨_,F12⟩,λ_=>XS X G a12,F12.binds λ_ _ _ _ _ _=>Em λ_ _ _=>rfl,qH n6 (k:=12) rfl⟩ (aW ⟨⟨_,F13⟩,λ_=>XS X G a13,F13.binds λ_ _ _ _ _ _=>oa λ_ _=>rfl,qH n6 (k:=13) rfl⟩ (aW ⟨⟨_,F14⟩,λ_=>XS X G a14,F14.binds λ_ _ _ _ _ _=>oa λ_ _=>rfl,qH n6 (k:=14) rfl⟩ (aW ⟨⟨_,F15⟩,λ_=>XS X G a15,F15.binds λ_ _ _ _ _ _=>El λ_=>rfl,qH n6 (k:=15) rfl⟩ (aW ⟨⟨_,F16⟩,λ_=>XS X G a16,F16.binds λ_ _ _ _ _ _=>oa λ_ _=>rfl,qH n6 (k:=16) rfl⟩ (aW ⟨⟨_,F17⟩,λ_=>XS X G a17,F17.binds λ_ _ _ _ _ _=>El λ_=>rfl,qH n6 (k:=17) rfl⟩ (aW ⟨⟨_,F18⟩,λ_=>XS X G a18,F18.binds λ_ _ _ _ _ _=>Em λ_ _ _=>rfl,qH n6 (k:=18) rfl⟩ (aW ⟨⟨_,F19⟩,λ_=>XS X G a19,F19.binds λ_ _ _ _ _ _=>oa λ_ _=>rfl,qH n6 (k:=19) rfl⟩ (aW ⟨⟨_,WW⟩,λ_=>XS X G a20,WW.binds λ_ _ _ _ _ _=>El λ_=>rfl,qH n6 (k:=20) rfl⟩ (aW ⟨⟨_,WX⟩,λz=>absurd z (by decide),WX.binds λ_ _ _ _ _ _=>oa λ_ _=>rfl,qH n6 (k:=21) rfl⟩ (aW ⟨⟨_,WY⟩,λz=>absurd z (by decide),WY.binds λ_ _ _ _ _ _=>oa λ_ _=>rfl,qH n6 (k:=22) rfl⟩ (aW ⟨⟨_,WZ⟩,λz=>absurd z (by decide),WZ.binds λ_ _ _ _ _ _=>Em λ_ _ _=>rfl,qH n6 (k:=23) rfl⟩ (aW ⟨⟨_,W0⟩,λz=>absurd z (by decide),W0.binds λ_ _ _ _ _ _=>Em λ_ _ _=>rfl,qH n6 (k:=24) rfl⟩ (aW ⟨⟨_,W1⟩,λz=>absurd z (by decide),W1.binds λ_ _ _ _ _ _=>El λ_=>rfl,qH n6 (k:=25) rfl⟩ NR))))))))))))))))))))))))))
  ·exact(memC (XQ X G Sb) (memC (XQ X G Sd) (memC (XQ X G Se) (memC (XQ X G Sf) (memC (XQ X G Sg) (memC (XQ X G Sh) (memC (XQ X G Si) (memC (XQ X G Ku) (memC (XQ X G Ox) (memC (XQ X G Sj) (memC (XQ X G Oy) (memC (XQ X G yC) (memC (XQ X G Kv) (memC (XQ X G Sk) (memC (XQ X G AX) (memC (XQ X G HA) Rx))))))))))))))))
  ·exact absurd hx (by simp[tx])
  ·exact absurd hx (by simp[tx])
  ·simp only[tx,Zy,Ze,or_false] at hq;rcases hq with rfl;·refine⟨bM,AW,XS X G AW,⟨ED,EE,EF,EG⟩,memC qb (memC oO (memC qc (memC qd (memC uZ Rx)))),Ry ⟨a21,n21,WX.kp⟩ (Ry ⟨a22,n22,WY.kp⟩ (Ry ⟨a23,n23,WZ.kp⟩ (Ry ⟨a24,n24,W0.kp⟩ (Ry ⟨a25,n25,W1.kp⟩ lkN)))),λk hm=>?_⟩;have JJ:(21:Nat)=k:=XJ ((by rfl:Y7 ("__init__":Str) _=Δ 21).symm.trans hm);subst JJ;exact⟨EH,a21,n21,EI⟩
  ·exact(aW (λhi=>absurd rfl hi) (aW (λhi=>absurd rfl hi) (aW (λhi=>absurd rfl hi) (aW (λhi=>absurd rfl hi) (aW (λhi=>absurd rfl hi) (aW (λhi=>absurd rfl hi) (aW (λhi=>absurd rfl hi) (aW (λ_=>⟨q7,Xw (i:=0) rfl,Hz,JP nd rfl (Xw (i:=0) rfl)⟩) (aW (λhi=>absurd rfl hi) (aW (λhi=>absurd rfl hi) (aW (λhi=>absurd rfl hi) (aW (λhi=>absurd rfl hi) (aW (λhi=>absurd rfl hi) (aW (λhi=>absurd rfl hi) (aW (λhi=>absurd rfl hi) (aW (λhi=>absurd rfl hi) (aW (λhi=>absurd rfl hi) (aW (λhi=>absurd rfl hi) (aW (λhi=>absurd rfl hi) (aW (λhi=>absurd rfl hi) (aW (λhi=>absurd rfl hi) (aW (λhi=>absurd rfl hi) (aW (λhi=>absurd rfl hi) (aW (λhi=>absurd rfl hi) (aW (λhi=>absurd rfl hi) (aW (λhi=>absurd rfl hi) NR))))))))))))))))))))))))))
 refine⟨λ_=>nt,[(Ow,Sl)],TK,by simp only[xs,Xi,Zs,t7],λs v=>?_,λbase kb nb qf bm=>?_,rfl⟩;·obtain⟨_,_,_,_,_,_,_,_,_,rfl,_⟩:=WW.ex;exact .of_eq rfl
 have bo:jV mg tx (λk=>[(0,0),(0,0),(0,0),(0,0),(0,0),(0,0),(0,0),(Ow,Sl)].getD k (0,0)) base:=⟨B0 (aW (λhi=>absurd rfl hi) (aW (λhi=>absurd rfl hi) (aW (λhi=>absurd rfl hi) (aW (λhi=>absurd rfl hi) (aW (λhi=>absurd rfl hi) (aW (λhi=>absurd rfl hi) (aW (λhi=>absurd rfl hi) (aW (λ_=>qf (Ow,Sl) (Xw (i:=0) rfl)) (aW (λhi=>absurd rfl hi) (aW (λhi=>absurd rfl hi) (aW (λhi=>absurd rfl hi) (aW (λhi=>absurd rfl hi) (aW (λhi=>absurd rfl hi) (aW (λhi=>absurd rfl hi) (aW (λhi=>absurd rfl hi) (aW (λhi=>absurd rfl hi) (aW (λhi=>absurd rfl hi) (aW (λhi=>absurd rfl hi) (aW (λhi=>absurd rfl hi) (aW (λhi=>absurd rfl hi) (aW (λhi=>absurd rfl hi) (aW (λhi=>absurd rfl hi) (aW (λhi=>absurd rfl hi) (aW (λhi=>absurd rfl hi) (aW (λhi=>absurd rfl hi) (aW (λhi=>absurd rfl hi) NR)))))))))))))))))))))))))),bm⟩;exact(C2 (P:=l.prog) (w:=w) T 60).1 base bo 20 _ rfl
theorem walk{l:ach}{K:Params->Xf}(hn:l.most=Δ 63)(P0:d.params.defaults=[])(hY:∀(w:World) (h:Heap),YP w h->(K w.params).In h)(xH:∀y∈xs,((PyProof.Rows.recsOf q).find? (λe=>e.name==y)).isSome=Λ)(F:∀(w:World) (mg:Str->Option Value) (fa:Addr) (h:Heap),(K w.params).In h->h.Ns Xk mg->mg d.name=Δ (.ref fa)->
   (xs≠[]->aaL (K w.params)=Λ)/\∃(tabs:List (Addr×Addr)) (fd:Zb),xs.map (Zx (K w.params))=tabs.map Δ/\(∀(s:Xp) (u:Value),acb s fd ⟨[u],[]⟩ [("_law_script",u)])/\
    (∀base:Heap,(K w.params).In base->base.Ns Xk mg->(∀q∈tabs,Zl base q.1 q.2)->BMain mg base->gp l.prog w (K w.params) mg base u0 (lv 60) fa fd ["_law_script"] (BR (mO tx (K w.params) base (uY tabs)) (callC Fs 60 20) 1))/\tabs.length=WK.length):
  PySem.W.WalkO q loose XP YP l.row.toRowW d [] (λf vs=>acW f vs):=
 L2.FX (n:=63) (k:=lv 60) (x:="_law_script") (CX:=λ_=>u0) (sp:=λw _ pt base=>BR (mO tx (K w.params) base (uY pt)) (callC Fs 60 20) 1) xs hn (by decide) P0 ⟨rfl,by decide,by decide⟩ hY (λy hy=>by obtain⟨dr,h⟩:=Option.isSome_iff_exists.mp (xH y hy);exact⟨dr,h⟩) (λw mg fa h X N m=>by obtain⟨h1,tabs,fd,h2,h3,h4,h5⟩:=F w mg fa h X N m;refine⟨h1,tabs,fd,h2,h3,h4,λbase H a ns hl _ _ ho hS=>JR (λt ht=>?_) (Hy ns hl) ho hS⟩;unfold uY at ht;obtain⟨p,hp,rfl⟩:=YQ.mp ht;exact YQ.mpr ⟨p.1,(aac hp).1,rfl⟩) λ_ _ _ _ _ z=>z
end OZ
open PySem PySem.W PyProof.Rows
set_option maxRecDepth 100000 in
set_option maxHeartbeats 0 in
theorem PySem.Challenge.cw_wordyard_k02_machines_holds : PySem.Challenge.rw_wordyard_k02_machines.Holds := by
 w_on;o_law;k_head;(case hw=>w_witness2)
 k_fill
 refine OZ.walk (l:=PySem.Challenge.rw_wordyard_k02_machines) rfl rfl (λw h Y=>by first|exact PySem.W.kIn_of Y|exact PySem.W.km_in_of Y) (by decide+kernel) ?F
 case F=>intro w mg fa h KX G P4;refine' OZ.all_mk KX G P4 ?_ ?_ ?_ ?_ ?_ ?_ ?_ ?_ ?_ ?_ ?_ ?_ ?_ ?_ ?_ ?_ ?_ ?_ ?_ ?_ ?_ ?_ ?_ ?_ ?_ ?_ ?_ ?_ ?_ ?_ ?_ ?_ ?_ ?_ ?_ ?_ ?_ ?_ ?_ ?_ ?_ ?_ ?_ ?_ ?_ ?_ ?_ ?_ ?_ ?_ ?_ ?_ ?_ ?_ ?_ ?_ ?_ ?_ ?_ ?_ ?_ ?_ ?_ ?_ ?_ ?_ ?_ ?_ ?_ ?_ ?_ ?_ ?_ ?_ ?_ ?_ ?_ ?_ ?_ ?_ ?_ ?_ ?_ ?_ ?_ ?_ ?_ ?_ ?_;all_goals try first|k_is|(refine' L2.Mj ?l ?c ?k;(case l=>k_is);(case c=>k_is);(case k=>k_is))|rfl|kernel_rfl
