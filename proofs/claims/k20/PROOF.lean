import PyProof.Rows.All
import Wide.All
import OpenK.AllK
import Wide.FinOn
import Lean
import PyProof.EqAt
import PyProof.EqKinds
import PyProof.TupleCall
import PyProof.NeKinds
import PySem.Challenge.RW_wordyard_k20_two_machines
set_option Elab.async false
set_option linter.all false
set_option maxRecDepth 100000
set_option maxHeartbeats 4000000
noncomputable section
open Option renaming some->Δ,none->Θ
open Bool renaming true->Λ,false->Ξ
open List renaming range->Zq,mem_cons_of_mem->Zs,getElem?_eq_getElem->Zu,getElem?_set_ne->Zw,mem_cons_self->Zx,getElem?_append_left->Zy,getD_eq_getElem?_getD->Zz,length_map->ZA,getElem?_map->ZD,mem_of_getElem?->ZG,map_cons->ZH,getElem?_cons_zero->ZJ,getElem?_cons_succ->ZK,isEmpty_iff->ZO,size_toArray->ZQ,length_cons->ZS,length_append->ZW,getElem?_append_right->ZX,getElem?_set_self->ZY,lookup_cons->Z6,mem_append_right->Z8,getElem?_eq_none->aac,length_range->aad,filter_cons_of_pos->aae,filter_cons_of_neg->aal,map_append->aan,nodup_append->aar,append_assoc->aas,append_nil->aau,getElem_mem->aay,mem_filter->aaE,mem_range->aaF,mem_append_left->aaG,drop_eq_getElem_cons->aaH,mem_singleton->aaJ,range_succ->aaN,find?_cons->aaO,replicate->aaS,nodup_cons->aaW,length_set->aaX,take_of_length_le->aaY,flatMap_append->aa1,take_add_one->aa4,lookup->abc,any_eq_true->abd,all_eq_true->abe,idxOf_lt_length_of_mem->abf,mem_map->abk,length_pos_of_mem->abl,getElem?_range->abm,not_mem_nil->abx,nodup_range->aby,cons_append->abz,of_mem_zip->abF,length_nil->abG,foldl_cons->abH,filter_eq_nil_iff->abJ,mem_cons->abM,any_cons->abN,all_cons->abO,length_take->abQ,length_filter_le->abU,nil_append->abY,forIn_cons->abZ,map_nil->ab6,map_map->ab7,foldl_append->ab8,length_erase_of_mem->acd,filterMap_cons->acf,getElem?_replicate->acj,filter_append->aco,length_replicate->acs,flatMap_cons->acv,set->acx,mem_erase_of_ne->acy,forIn_nil->acz,drop_zero->acA,mem_flatMap->acH,getElem?_zip_eq_some->acJ,mem_map_of_mem->acK,mem_append->acQ,length_zip->acR,zip_cons_cons->acW,drop_eq_nil_of_le->ada,take_append_drop->adh,set_append_right->adi,map->ady,getElem?_of_mem->adz,foldl->adK,find?_eq_none->adL,length->adR,ext_getElem?->adS,any_eq_false->adT,zipIdx_cons->ad7,getElem_zip->ad8,drop_length->ad9,mapM_cons->aev,set_set->aeQ,map_set->aeR,mapM->aeY
open Bool renaming and_eq_true->Zr,not_eq_true'->aab,false_eq_true->aaj,false_ne_true->aat,or_eq_true->ab0,eq_iff_iff->ab1,eq_false_or_eq_true->acO,false_and->ade,true_and->aeI
open PySem.Heap renaming get?_push_of_some->Zt,get?_push_size->ZM,lt_size->ZN,get?_update_other->aaK,size_push->aaT,get?_update_self->abr,SameBut->ab9,size_update->ads,IsTuple->aeS
open PySem renaming wpAny_bind->Zv,mainGlobals->ZL,Shared->ZR,wpAny_pure->ZT,sizeLine->Z3,starEach->Z9,mem_of_lookup->aaq,Program->aav,wpAny_callSpecial?_slot->aaP,compareOp->aaQ,wpAny_Call_Name_kw->aaR,Around->aaZ,sizeLine_eq->aa2,wpAny_loadPart'->aa7,wpAny_mono->aa9,wpAny_field->aba,wpAny_truthy_bool->abh,sysModules->abi,binaryOp->abp,FuncData->abt,wpAny_setField_rec->abu,wpAny_call_entry->abv,wpAny_seqItems->abA,rawInt->abB,backTo->abC,wpAny_pyIter_tuple->abR,IsPair->abT,wpAny_passesOwn->abW,Arguments->ab2,wpAny_newObj_type->ab3,NameKind->ab5,attributeBase->aca,codeAmong->ach,keywordEach->ack,wpAny_newFunctionEnv->acw,swapsWith->acB,bootBuiltins->acC,wpAny_binaryOp_repeat_ref->acI,wpAny_holding->acL,tupleKind_room_in1->acS,call_meets->acT,sliceBounds->acX,wpAny_pyIter_enum->ac2,typeIs_int->adl,qualnameIn->adm,Spec->adq,codeAny->adt,Builtin->adu,wpAny_updateSeq_pair->adv,backToKw->adw,wpAny_updateSeq->adB,letOwnedTupleGo->adC,codeAny_mono->adE,call_meetsIn->adF,TriplesOk->adH,closureFor->adI,wpAny_letGo->adM,foldedSetIterable->adN,Keyword->adU,wpAny_onRaise->adW,wpAny_attempt->adX,pyNext->adY,annotationsOf->adZ,Comprehension->ad1,wpAny_isInstance->ad2,tupleKind->ad3,noFill_tuple_add->ad4,getMethod->ad5,valueAt->aed,standAt->aee,builtinsNs->aeg,assignEach->aeh,BindsTo->aei,wpAny_specialOf->aej,wpAny_execs_nil->aek,subscripted->aep,isSubtype_stop->aeq,holding->aey,getItem->aez,callerA->aeA,wpAny_standAt->aeD,seq_tuple_add->aeF,behindInMarks->aeG,wpAny_rule->aeJ,Paired->aeK,seqIndex_neg->aeL,concat_meets->aeM,callWith->aeN,Within->aeO,updateSeq->aeV,isTrue->aeW,cellOf->aeX,seqIndex_of->aeZ,wpAny_call->ae3,wpAny_Name->ae4,typeLookup->ae5,bindArgs->ae6,assign->ae7,call->ae8
open Nat renaming le_refl->ZC,lt_of_lt_of_le->ZZ,ne_of_lt->aaa,zero_add->aao,le_trans->aap,zero_le->aaB,ne_of_gt->aaD,add_right_comm->aaI,lt_succ_self->abb,lt_irrefl->abg,le_succ->abn,le_add_right->abP,not_lt_zero->abX,sub_succ_lt_self->ab4,lt_of_sub_eq_succ->acr,succ_mul->acE,min_le_right->acF,le_of_lt->acG,min_le_left->acP,lt_trans->ac9,mul_le_mul_right->adx,le_of_eq->adG,mul_le_mul->aeu,add_comm->aeP
open PySem.W renaming Frag->ZE,nsIn->ZU,mg_none_of->aai,findIn->aak,mg_of->aam,kia_one->aaM,tabIn->aaV,emptyDict->aa3,CodeHd->abD,instObj->abE,keepIn->abS,tabObj->aci,isFn->acn,plainGet->acD,callWith_K->acV,noTabs->ac3,hasDictIn->ac4,fnOf->ac5,methodCall_KW->adf,plainGet_of->adD,lookIn->adJ,plainOver->adO,methodObj->adP,takerIn->ael,makesIn->aem,OpenLaw->aen,kla_fn->aer,kitOne->aes,codeIn->aet,fnX->ae2
open PySem.NameKind renaming free->ZV,cell->aa5
open Option renaming join_some->Z4,map_some->aag,bind_some->aax,isNone_iff_eq_none->abo,isSome_map->acu,getD_none->ad6
open Classical renaming byContradiction->Z5,choose_spec->adj,choose->aeb
open PySem.Value renaming ref->Z7,none->abw,type->acm,bool->acU,str->ado,int->adp,float->ae0
open Option.some renaming inj->aaf,injEq->adQ
open PySem.Builtin.SmallTypes renaming nextOf->aah,ownedTupleIsFree->aa6
open Ne renaming symm->aaw
open Function renaming comp_def->aaz
open PyProof.Rows renaming callWith_type1->aaA,kindOf->adn,AllBare->adV,envOfC->aef,subscriptTail->aeE
open PySem.Str renaming ofString->aaC
open False renaming elim->aaL
open PySem.Builtin.Tuple renaming tupleTooMany->aaU,tupleExact->ace
open True renaming intro->aa0
open ForInStep renaming yield->aa8
open PySem.F renaming slot_tuple_iterator_next->abj,slot_int_rmul->abq,slot_enumerate_next->abI,plain_extend_loop->abV,slot_zip_next->acq,args_tuple_mul_2->acM,args_tuple_add_2->acN,plainAttrs_dict->acY,entry_tuple_mul->acZ,entry_tuple_add->ac0,args_int_rmul_2->ac1,slot_tuple_mul->ac6,slot_tuple_add->ac7,entry_int_rmul->ac8,fills_int_mul->adg
open PySem.Calls renaming callWith_builtin->abK,spliced_cons->acp,spliced_nil->adb,evalArgs_plain->adA
open PySem.Builtin.List renaming listExtendWith->abL
open PySem.Obj renaming mapSeq->acb
open Array renaming length_toList->acg,getElem?_toList->adk
open PySem.Paired renaming length->ad0
open Int renaming toNat->aea
open PySem.AutoSeq1 renaming idx_int->aec
open PySem.PassesOwn renaming never->aeo
open PySem.Builtin renaming bitXor->aew,bitAnd->aex,bitOr->aeH
open Sum renaming inr->aeB,inl->aeC
open PySem.Code renaming isFrame->aeT
open PySem.Around renaming under->aeU
open PySem.Shared renaming heap->ae1
def Cps(G g:Prop):Prop:=G->g
theorem cps{G:Prop}(h:∀g:Prop,Cps G g->g):G:=h G id
theorem ft{g:Prop}(h:Ξ=Λ):g:=Bool.noConfusion h
theorem tf{g:Prop}(h:Λ=Ξ):g:=Bool.noConfusion h
theorem aQ{α:Type _}{x:α}{g:Prop}(h:Θ=Δ x):g:=by cases h
theorem GU{α:Type _}{x:α}{g:Prop}(h:Δ x=Θ):g:=by cases h
theorem sj{α:Type _}{x y:α}(h:Δ x=Δ y):x=y:=aaf h
theorem AE{g:Prop}(k:A->B->C->g):(A/\B/\C)->g:=λ⟨a,b,c⟩=>k a b c
theorem dJ{g:Prop}{A B:α->Prop}(k:∀x,A x->B x->g):(∃x,A x/\B x)->g:=λ⟨x,a,b⟩=>k x a b
theorem jc{g:Prop}(k:A->B->C->D->g):(A/\B/\C/\D)->g:=λ⟨a,b,c,d⟩=>k a b c d
theorem uI{g:Prop}{B C:α->Prop}(k:A->∀x,B x->C x->g):(A/\∃x,B x/\C x)->g:=λ⟨a,x,b,c⟩=>k a x b c
theorem aB{g:Prop}{A B C:α->Prop}(k:∀x,A x->B x->C x->g):(∃x,A x/\B x/\C x)->g:=λ⟨x,a,b,c⟩=>k x a b c
theorem bg{g:Prop}{A B:α->β->Prop}(k:∀x y,A x y->B x y->g):(∃x y,A x y/\B x y)->g:=λ⟨x,y,a,b⟩=>k x y a b
theorem kJ{g:Prop}(k:A->B->C->D->E->g):(A/\B/\C/\D/\E)->g:=λ⟨a,b,c,d,e⟩=>k a b c d e
theorem du{g:Prop}{C D:α->Prop}(k:A->B->∀x,C x->D x->g):(A/\B/\∃x,C x/\D x)->g:=λ⟨a,b,x,c,d⟩=>k a b x c d
theorem qt{g:Prop}{B C:α->β->Prop}(k:A->∀x y,B x y->C x y->g):(A/\∃x y,B x y/\C x y)->g:=λ⟨a,x,y,b,c⟩=>k a x y b c
theorem gM{g:Prop}{A B C D:α->Prop}(k:∀x,A x->B x->C x->D x->g):(∃x,A x/\B x/\C x/\D x)->g:=λ⟨x,a,b,c,d⟩=>k x a b c d
theorem eV{g:Prop}{A B:α->Prop}{C:α->β->Prop}(k:∀x,A x->B x->∀y,C x y->g):(∃x,A x/\B x/\∃y,C x y)->g:=λ⟨x,a,b,y,c⟩=>k x a b y c
theorem lU{g:Prop}{A:α->Prop}{B C:α->β->Prop}(k:∀x,A x->∀y,B x y->C x y->g):(∃x,A x/\∃y,B x y/\C x y)->g:=λ⟨x,a,y,b,c⟩=>k x a y b c
theorem ah{g:Prop}{A B C:α->β->Prop}(k:∀x y,A x y->B x y->C x y->g):(∃x y,A x y/\B x y/\C x y)->g:=λ⟨x,y,a,b,c⟩=>k x y a b c
theorem fQ{g:Prop}{A B:α->β->γ->Prop}(k:∀x y z,A x y z->B x y z->g):(∃x y z,A x y z/\B x y z)->g:=λ⟨x,y,z,a,b⟩=>k x y z a b
theorem kK{g:Prop}(k:A->B->C->D->E->F->g):(A/\B/\C/\D/\E/\F)->g:=λ⟨a,b,c,d,e,f⟩=>k a b c d e f
theorem oT{g:Prop}{A B C D E:α->Prop}(k:∀x,A x->B x->C x->D x->E x->g):(∃x,A x/\B x/\C x/\D x/\E x)->g:=λ⟨x,a,b,c,d,e⟩=>k x a b c d e
theorem bZ{g:Prop}{A B C D:α->β->Prop}(k:∀x y,A x y->B x y->C x y->D x y->g):(∃x y,A x y/\B x y/\C x y/\D x y)->g:=λ⟨x,y,a,b,c,d⟩=>k x y a b c d
theorem cD{g:Prop}{A B C:α->β->γ->Prop}(k:∀x y z,A x y z->B x y z->C x y z->g):(∃x y z,A x y z/\B x y z/\C x y z)->g:=λ⟨x,y,z,a,b,c⟩=>k x y z a b c
theorem ug{g:Prop}{A B:α->β->γ->δ->Prop}(k:∀x y z u,A x y z u->B x y z u->g):(∃x y z u,A x y z u/\B x y z u)->g:=λ⟨x,y,z,u,a,b⟩=>k x y z u a b
theorem bq{g:Prop}{A B C D E:α->β->Prop}(k:∀x y,A x y->B x y->C x y->D x y->E x y->g):(∃x y,A x y/\B x y/\C x y/\D x y/\E x y)->g:=λ⟨x,y,a,b,c,d,e⟩=>k x y a b c d e
theorem br{g:Prop}{A B C D:α->β->γ->Prop}(k:∀x y z,A x y z->B x y z->C x y z->D x y z->g):(∃x y z,A x y z/\B x y z/\C x y z/\D x y z)->g:=λ⟨x,y,z,a,b,c,d⟩=>k x y z a b c d
theorem cw{g:Prop}{A B C D E F:α->β->Prop}(k:∀x y,A x y->B x y->C x y->D x y->E x y->F x y->g):(∃x y,A x y/\B x y/\C x y/\D x y/\E x y/\F x y)->g:=λ⟨x,y,a,b,c,d,e,f⟩=>k x y a b c d e f
theorem qu{g:Prop}{A B C D E:α->β->γ->Prop}(k:∀x y z,A x y z->B x y z->C x y z->D x y z->E x y z->g):(∃x y z,A x y z/\B x y z/\C x y z/\D x y z/\E x y z)->g:=λ⟨x,y,z,a,b,c,d,e⟩=>k x y z a b c d e
theorem fB{g:Prop}{A B C D:α->β->γ->δ->Prop}(k:∀x y z u,A x y z u->B x y z u->C x y z u->D x y z u->g):(∃x y z u,A x y z u/\B x y z u/\C x y z u/\D x y z u)->g:=λ⟨x,y,z,u,a,b,c,d⟩=>k x y z u a b c d
theorem kL{g:Prop}{A B C D E F:α->β->γ->Prop}(k:∀x y z,A x y z->B x y z->C x y z->D x y z->E x y z->F x y z->g):(∃x y z,A x y z/\B x y z/\C x y z/\D x y z/\E x y z/\F x y z)->g:=λ⟨x,y,z,a,b,c,d,e,f⟩=>k x y z a b c d e f
theorem jd{g:Prop}{A B C D E:α->β->γ->δ->Prop}(k:∀x y z u,A x y z u->B x y z u->C x y z u->D x y z u->E x y z u->g):(∃x y z u,A x y z u/\B x y z u/\C x y z u/\D x y z u/\E x y z u)->g:=λ⟨x,y,z,u,a,b,c,d,e⟩=>k x y z u a b c d e
theorem hU{g:Prop}{C:α->Prop}{D E F:α->β->γ->δ->Prop}(k:A->B->∀x,C x->∀y z u,D x y z u->E x y z u->F x y z u->g):(A/\B/\∃x,C x/\∃y z u,D x y z u/\E x y z u/\F x y z u)->g:=λ⟨a,b,x,c,y,z,u,d,e,f⟩=>k a b x c y z u d e f
theorem fD{g:Prop}{A B C D E F:α->β->γ->δ->Prop}(k:∀x y z u,A x y z u->B x y z u->C x y z u->D x y z u->E x y z u->F x y z u->g):(∃x y z u,A x y z u/\B x y z u/\C x y z u/\D x y z u/\E x y z u/\F x y z u)->g:=λ⟨x,y,z,u,a,b,c,d,e,f⟩=>k x y z u a b c d e f
theorem g6{g:Prop}{A B C D E F H I:α->β->γ->δ->Prop}(k:∀x y z u,A x y z u->B x y z u->C x y z u->D x y z u->E x y z u->F x y z u->H x y z u->I x y z u->g):(∃x y z u,A x y z u/\B x y z u/\C x y z u/\D x y z u/\E x y z u/\F x y z u/\H x y z u/\I x y z u)->g:=λ⟨x,y,z,u,a,b,c,d,e,f,h,i⟩=>k x y z u a b c d e f h i
namespace L2
open PySem PySem.Spec PyProof.Rows
abbrev Key:=Sum Int Str
noncomputable def xU:Key->Value->Bool
 |.inl k,v=>Value.isInt k v|.inr x,v=>Value.isStrOf x v
noncomputable def VF(w:World):Key->Int
 |.inl k=>hashInt k|.inr x=>hashStr w x
theorem cn:∀{k} {v},xU k v=Λ->(∃i t,k=aeC i/\v=adp i t)\/(∃x t,k=aeB x/\v=ado x t)
 |.inl i,v,h=>by obtain⟨t,e⟩:=Value.isInt_shape (k:=i) (v:=v) h;exact .inl ⟨i,t,rfl,e⟩|.inr x,v,h=>by obtain⟨t,e⟩:=Value.isStrOf_shape (x:=x) (v:=v) h;exact .inr ⟨x,t,rfl,e⟩
theorem E7 i t:xU (.inl i) (.int i t)=Λ:=by simp[xU,Value.isInt]
theorem E8 x t:xU (.inr x) (.str x t)=Λ:=by simp[xU,Value.isStrOf]
theorem Nd a b:decide ((aeC a:Key)=aeC b)=(a==b):=by
 by_cases e:a=b;·subst e;simp
 ·have h:¬(aeC a:Key)=aeC b:=λq=>e (aeC.inj q);rw[decide_eq_false h];exact(beq_eq_false_iff_ne.mpr e).symm
theorem Nf a b:decide ((aeB a:Key)=aeB b)=decide (a=b):=by
 by_cases e:a=b;·subst e;simp
 ·have h:¬(aeB a:Key)=aeB b:=λq=>e (aeB.inj q);rw[decide_eq_false h,decide_eq_false e]
theorem Ng a b:decide ((aeC a:Key)=aeB b)=Ξ:=decide_eq_false (λq=>nomatch q)
theorem Nh a b:decide ((aeB a:Key)=aeC b)=Ξ:=decide_eq_false (λq=>nomatch q)
def bh(prog:aav)(w:World):PySem.KeyKind prog w Key where
 is:=xU
 hash:=VF w
 inj:=λv a b ha hb=>by
  rcases cn ha with ⟨i,t,rfl,rfl⟩|⟨x,t,rfl,rfl⟩
  ·rcases cn hb with ⟨j,u,rfl,e⟩|⟨y,u,rfl,e⟩
   ·injection e with e1 _;rw[e1]
   ·exact nomatch e
  ·rcases cn hb with ⟨j,u,rfl,e⟩|⟨y,u,rfl,e⟩
   ·exact nomatch e
   ·injection e with e1 _;rw[e1]
 byValue:=λk v h=>by rcases cn h with ⟨i,t,rfl,rfl⟩|⟨x,t,rfl,rfl⟩<;>rfl
 pyHash:=λhv h=>by
  rcases cn hv with ⟨i,t,rfl,rfl⟩|⟨x,t,rfl,rfl⟩
  ·exact wpAny_pyHash_int h
  ·exact wpAny_pyHash_str h
 eqBool:=λhu hv h=>by
  rcases cn hu with ⟨i,t,rfl,rfl⟩|⟨x,t,rfl,rfl⟩
  ·rcases cn hv with ⟨j,u,rfl,rfl⟩|⟨y,u,rfl,rfl⟩
   ·rw[Nd] at h;exact wpAny_eqBool_int h
   ·rw[Ng] at h;exact SeqAt.EqAt.int_str i t y u _ _ _ _ h
  ·rcases cn hv with ⟨j,u,rfl,rfl⟩|⟨y,u,rfl,rfl⟩
   ·rw[Nh] at h;exact SeqAt.EqAt.str_int x t j u _ _ _ _ h
   ·rw[Nf] at h;exact wpAny_eqBool_str h
 «strs»:=λk x t v h=>by
  rcases cn h with ⟨i,u,rfl,e⟩|⟨y,u,rfl,e⟩
  ·exact nomatch e
  ·injection e with e1 _;subst e1;cases v<;>rfl
theorem AF prog w i t:(bh prog w).is (.inl i) (.int i t)=Λ:=E7 i t
theorem AG prog w x t:(bh prog w).is (.inr x) (.str x t)=Λ:=E8 x t
inductive V where
 |bG|bl (b:Bool)|int (i:Int)|str (x:Str)|Qw (b:Array UInt8)|Ni (b:UInt64)|ref (a:Addr)|ty (n:String)
 deriving DecidableEq
noncomputable def RelV:V->Value->Prop
 |.bG,u=>u=abw|.bl b,u=>u=acU b|.int i,u=>∃t,u=adp i t|.str x,u=>∃t,u=ado x t|.Qw b,u=>∃t,u=Value.bytes b t|.Ni b,u=>∃t,u=ae0 b t|.ref a,u=>u=Z7 a|.ty n,u=>u=acm n
abbrev aY:List V->List Value->Prop:=aeK RelV
theorem aY.length(r:aY xs us):xs.length=us.length:=ad0 r
theorem aY.get:∀{xs} {us} {i:Nat} {x},aY xs us->xs[i]?=Δ x->∃u,us[i]?=Δ u/\RelV x u
 |_,_,_,_,.nil,e=>by simp at e|_,_,0,_,.cons r _,e=>by simp at e;subst e;exact⟨_,rfl,r⟩|_,_,i+1,x,.cons _ t,e=>by obtain⟨u,h1,h2⟩:=aY.get (i:=i) (x:=x) t (by simpa using e);exact⟨u,by simpa using h1,h2⟩
theorem aY.set(r:RelV x u):∀{xs} {us} (i),aY xs us->aY (xs.set i x) (us.set i u)
 |_,_,_,.nil=>.nil|_,_,0,.cons _ t=>.cons r t|_,_,i+1,.cons q t=>.cons q (aY.set r i t)
theorem aY.append:∀{xs ys} {us ws},aY xs us->aY ys ws->aY (xs++ys) (us++ws)
 |_,_,_,_,.nil,s=>s|_,_,_,_,.cons r t,s=>.cons r (aY.append t s)
theorem aY.take:∀{xs} {us} (n),aY xs us->aY (xs.take n) (us.take n)
 |_,_,0,_=>.nil|_,_,_+1,.nil=>.nil|_,_,n+1,.cons r t=>.cons r (aY.take n t)
theorem aY.drop:∀{xs} {us} (n),aY xs us->aY (xs.drop n) (us.drop n)
 |_,_,0,r=>r|_,_,_+1,.nil=>.nil|_,_,n+1,.cons _ t=>aY.drop n t
def lV:Option V->Option Value->Prop
 |some v,Δ u=>RelV v u|none,Θ=>True|_,_=>False
def KV{κ:Type}:List (κ×V)->List (κ×Value)->Prop:=aeK λ(p:κ×V) (q:κ×Value)=>p.1=q.1/\RelV p.2 q.2
def kV:Key->V
 |.inl i=>.int i|.inr x=>.str x
inductive HO where
 |lst (xs:List V)
 |tup (xs:List V)
 |dK (kvs:List (Key×V))|dT (kvs:List (List Key×V))
 |set (S:Int->Bool) (n:Nat)
 |ins (C dx:Addr) (fs:List (Str×V))
 |own (x:Addr)
 |xd (fs:List (Str×V))
 |met (f x:Addr)
 |iQ (lo hi:Int)
 |dM (o:Obj) (u:HO)
 |gv (ps:Array Value)
 |ext (φ:Heap->Prop)
abbrev Hp:=Addr->Option HO
noncomputable def upd(H:Hp)(a:Addr)(o:HO):Hp:=λb=>if b=a then Δ o else H b
theorem aG:upd H a o a=Δ o:=by unfold upd;rw[if_pos rfl]
theorem av(h:b≠a):upd H a o b=H b:=by unfold upd;rw[if_neg h]
theorem D9:upd (upd H a o) a u=upd H a u:=by funext b;unfold upd;split<;>rfl
theorem Ms{H:Hp}(h:H a=Δ o)(h':H b=Δ u)(d:o≠u):a≠b:=by intro e;subst e;rw[h] at h';exact d (aaf h')
theorem aR{H:Hp}(h:H a=Δ o)(h':H b=Θ):a≠b:=by intro e;subst e;rw[h] at h';exact GU h'
section
variable(P:aav)(w:World)
def bR(H:Hp)(h:Heap)(a:Addr):HO->Prop
 |.lst xs=>xs.length<=Z3/\∃(its:List Value) (n:Nat),aY xs its/\h.get? a=Δ {cls:=.type "list",data:=.seq its.toArray n}|.tup xs=>xs.length<=Z3/\∃its:List Value,aY xs its/\IsTup h a its.toArray|.dK kvs=>kvs.length<=Z3/\(a==abi)=Ξ/\∃vs,KV kvs vs/\h.DictOf (bh P w) a vs
 |.dT kvs=>kvs.length<=Z3/\(a==abi)=Ξ/\∃xs:List (List Key×Addr×Value),
   aeK (λ(p:List Key×V) (q:List Key×Addr×Value)=>p.1=q.1/\H q.2.1=Δ (.tup (p.1.map kV))/\RelV p.2 q.2.2) kvs xs/\
   ∃o es ep,h.get? a=Δ o/\o.ExactDict/\o.data=.dict es ep/\es.toList=xs.map (entryOfKey (ad3 (bh P w)))/\(xs.map (·.1)).Nodup
 |.set S n=>h.SetOf (intKind P w) a S n
 |.ins C dx fs=>H dx=Δ (.own a)/\fs.length<=1000/\dx≠a/\h.get? a=Δ (abE C dx)/\
   ∃mA,h.Ns1 dx mA/\(∀f,lV (fs.lookup f) (mA f))/\aeO mA (fs.map (·.1))
 |.own _=>∃o,h.get? a=Δ o|.xd fs=>∃mA,h.Ns1 a mA/\∀f,lV (fs.lookup f) (mA f)|.iQ lo hi=>∃t u v,h.get? a=Δ {cls:=.type "range",data:=.fields #[.int lo t,.int hi u,.int 1 v]}|.dM o u=>h.get? a=Δ o/\bR H h a u|.gv ps=>h.get? a=Δ {cls:=.none,data:=.fields ps}|.met f x=>h.get? a=Δ (adP (.ref f) (.ref x))|.ext φ=>φ h/\(∃o,h.get? a=Δ o)/\∀h1 h2:Heap,φ h1->(∀o,h1.get? a=Δ o->h2.get? a=Δ o)->φ h2
def lW(H:Hp)(h:Heap):Prop:=∀a o,H a=Δ o->bR P w H h a o
end
section
variable{P:aav}{w:World}{H H':Hp}{h h':Heap}{a:Addr}{o:HO}
theorem bR.lt(x:bR P w H h a o):a < h.objs.size:=by cases o with|lst xs=>obtain⟨_,_,_,_,e⟩:=x;exact ZN e|tup xs=>obtain⟨_,_,_,p⟩:=x;exact p.lt|dK kvs=>obtain⟨_,_,_,_,o,_,_,e,_⟩:=x;exact ZN e|dT kvs=>obtain⟨_,_,_,_,o,_,_,e,_⟩:=x;exact ZN e|set S n=>obtain⟨o,_,_,_,e,_⟩:=x;exact ZN e|ins C dx fs=>obtain⟨_,_,_,e,_⟩:=x;exact ZN e|own y=>obtain⟨_,e⟩:=x;exact ZN e|xd fs=>obtain⟨_,⟨_,_,_,e,_⟩,_⟩:=x;exact ZN e|iQ lo hi=>obtain⟨_,_,_,e⟩:=x;exact ZN e|dM ob u=>obtain⟨e,_⟩:=x;exact ZN e|gv ps=>exact ZN (show h.get? a=Δ _ from x)|met f y=>exact ZN (show h.get? a=Δ _ from x)|ext φ=>obtain⟨_,⟨_,e⟩,_⟩:=x;exact ZN e
theorem aeK.Nj:∀{GV} {GW},aeK F GV GW->(∀a b,F a b->G a b)->aeK G GV GW
 |_,_,.nil,_=>.nil|_,_,.cons r t,f=>.cons (f _ _ r) (aeK.Nj t f)
theorem bR.oU(x:bR P w H h a o)(k:∀b u,(b=a\/H b=Δ (.own a))->h.get? b=Δ u->h'.get? b=Δ u)
  (ho:∀b,H b=Δ (.own a)->H' b=Δ (.own a)) (ht:∀b xs,H b=Δ (.tup xs)->H' b=Δ (.tup xs)):bR P w H' h' a o:=by
 induction o with
 |lst xs=>obtain⟨z,its,n,r,e⟩:=x;exact⟨z,its,n,r,k _ _ (.inl rfl) e⟩|tup xs=>obtain⟨z,its,r,ob,e,c⟩:=x;exact⟨z,its,r,ob,k _ _ (.inl rfl) e,c⟩|dK kvs=>obtain⟨z,y,vs,r,ob,es,ep,e,c⟩:=x;exact⟨z,y,vs,r,ob,es,ep,k _ _ (.inl rfl) e,c⟩|dT kvs=>obtain⟨z,y,xs,r,ob,es,ep,e,c⟩:=x;exact⟨z,y,xs,aeK.Nj r λp q z=>⟨z.1,ht _ _ z.2.1,z.2.2⟩,ob,es,ep,k _ _ (.inl rfl) e,c⟩
 |set S n=>obtain⟨ob,es,ep,t,e,c⟩:=x;exact⟨ob,es,ep,t,k _ _ (.inl rfl) e,c⟩|ins C dx fs=>obtain⟨d,z,ne,e,mA,qv,r⟩:=x;revert qv;refine fQ λod es ep e2 c=>?_;exact⟨ho _ d,z,ne,k _ _ (.inl rfl) e,mA,⟨od,es,ep,k _ _ (.inr d) e2,c⟩,r⟩
 |own y=>obtain⟨ob,e⟩:=x;exact⟨ob,k _ _ (.inl rfl) e⟩|xd fs=>obtain⟨mA,⟨od,es,ep,e,c⟩,r⟩:=x;exact⟨mA,⟨od,es,ep,k _ _ (.inl rfl) e,c⟩,r⟩|iQ lo hi=>obtain⟨t,u,v,e⟩:=x;exact⟨t,u,v,k _ _ (.inl rfl) e⟩|dM ob u ih=>obtain⟨e,q⟩:=x;exact⟨k _ _ (.inl rfl) e,ih q⟩|gv ps=>have e:h.get? a=Δ {cls:=.none,data:=.fields ps}:=x;show h'.get? a=Δ {cls:=.none,data:=.fields ps};exact k a _ (.inl rfl) e
 |met f y=>have e:h.get? a=Δ (adP (.ref f) (.ref y)):=x;show h'.get? a=Δ (adP (.ref f) (.ref y));exact k a _ (.inl rfl) e|ext φ=>obtain⟨p,⟨o,e⟩,st⟩:=x;exact⟨st _ _ p λo q=>k _ _ (.inl rfl) q,⟨o,k _ _ (.inl rfl) e⟩,st⟩
theorem lW.lt(x:lW P w H h)(e:H a=Δ o):a < h.objs.size:=(x a o e).lt
theorem lW.fresh(x:lW P w H h)(e:h.objs.size<=a):H a=Θ:=by cases q:H a with|none=>rfl|some u=>exact absurd (ZZ (x.lt q) e) (abg _)
theorem lW.kept(x:lW P w H h)(k:∀b u,h.get? b=Δ u->h'.get? b=Δ u):lW P w H h':=λa o e=>(x a o e).oU (λb u _ q=>k b u q) (λ_ q=>q) λ_ _ q=>q
theorem lW.laid(x:lW P w H h)(k:∀b u,h.get? b=Δ u->h'.get? b=Δ u)(hp:h.objs.size<=a)(new:bR P w (upd H a o) h' a o):lW P w (upd H a o) h':=λb u e=>by
 have hn:=x.fresh hp;by_cases hb:b=a;·subst hb;rw[aG] at e;obtain rfl:=sj e;exact new
 ·rw[av hb] at e;exact(x b u e).oU (λc v _ q=>k c v q) (λc q=>by rw[av (aR q hn)];exact q) λc xs q=>by rw[av (aR q hn)];exact q
end
noncomputable def Rd(H:Hp)(a:Addr)(u:HO):Prop:=H a=Δ u\/∃o,H a=Δ (.dM o u)
theorem Rd.ok(r:Rd H a u)(x:lW P w H h):bR P w H h a u:=by
 rcases r with r|⟨o,r⟩;·exact x a u r
 ·obtain⟨_,q⟩:=x a _ r;exact q
noncomputable def QW:Option HO->Prop
 |some (.lst _)=>True|some (.dK _)=>True|some (.dT _)=>True|some (.set _ _)=>True|some (.ins _ _ _)=>True|some (.ext _)=>True|_=>False
section
variable{P:aav}{w:World}{H:Hp}{h h':Heap}{x e:Addr}{o':HO}
theorem lW.write(ok:lW P w H h)(mu:QW (H x))(he:e=x\/H e=Δ (.own x))(k:∀b u,b≠e->h.get? b=Δ u->h'.get? b=Δ u)(Qx:∃u,h'.get? e=Δ u)
  (new:bR P w (upd H x o') h' x o'):lW P w (upd H x o') h':=λb u q=>by
 have QX:∀c y,H c=Δ (.own y)->c≠x:=λc y r z=>by subst z;rw[r] at mu;exact mu
 have VG:∀c xs,H c=Δ (.tup xs)->c≠x:=λc xs r z=>by subst z;rw[r] at mu;exact mu
 by_cases hb:b=x;·subst hb;rw[aG] at q;obtain rfl:=sj q;exact new
 ·rw[av hb] at q;by_cases Nk:b=e
  ·have q':H b=Δ (.own x):=by
    rcases he with z|z;·exact absurd (Nk.trans z) hb
    ·rw[Nk];exact z
   rw[q] at q';obtain rfl:=sj q';obtain⟨v,hv⟩:=Qx;exact⟨v,by rw[Nk];exact hv⟩
  ·refine(ok b u q).oU (λc v hc r=>k c v ?_ r) (λc r=>by rw[av (QX c b r)];exact r) λc xs r=>by rw[av (VG c xs r)];exact r
   rcases hc with rfl|hc;·exact Nk
   ·rintro rfl;rcases he with z|z;·exact QX c b hc z
    ·rw[hc] at z;cases z;exact hb rfl
end
structure Un(fs ex:List Addr)(H H':Hp)(h h':Heap):Prop where
 keep:∀b o,h.get? b=Δ o->H b=Θ->b∉fs->b∉ex->h'.get? b=Δ o
 slot:∀b o,h.get? b=Δ o->H b=Θ->b∈fs->b∉ex->∃sl,h'.get? b=Δ {o with slots:=sl}
 free:∀b o,h.get? b=Δ o->H b=Θ->b∉ex->H' b=Θ
 there:∀b o,h.get? b=Δ o->b∉ex->∃o',h'.get? b=Δ o'
 uJ:∀b xs,H b=Δ (.tup xs)->H' b=Δ (.tup xs)
 qw:∀b o u,H b=Δ (.dM o u)->H' b=Δ (.dM o u)
 sX:∀b ps,H b=Δ (.gv ps)->∃more,H' b=Δ (.gv (ps++more))
section
variable{fs fs' ex ex':List Addr}{H H1 H2:Hp}{h h1 h2 h':Heap}{a x e:Addr}{o:HO}
theorem Un.any(u:Un fs ex H H1 h h1)(q:h.get? b=Δ ob)(n:H b=Θ)(hx:b∉ex):∃sl,h1.get? b=Δ {ob with slots:=sl}:=by
 by_cases hb:b∈fs;·exact u.slot b ob q n hb hx
 ·exact⟨ob.slots,u.keep b ob q n hb hx⟩
theorem Un.kept(k:∀b u,h.get? b=Δ u->h'.get? b=Δ u):Un fs ex H H h h':=
 ⟨λb ob q _ _ _=>k b ob q,λb ob q _ _ _=>⟨ob.slots,k b ob q⟩,λ_ _ _ n _=>n,λb ob q _=>⟨ob,k b ob q⟩,λ_ _ q=>q,λ_ _ _ q=>q,λ_ ps q=>⟨#[],by rw[q];simp⟩⟩
theorem Un.refl:Un fs ex H H h h:=Un.kept λ_ _ q=>q
theorem Un.laid(k:∀b u,h.get? b=Δ u->h'.get? b=Δ u)(hp:h.objs.size<=a)(hn:H a=Θ):Un fs ex H (upd H a o) h h' where
 keep:=λb u q _ _ _=>k b u q
 slot:=λb u q _ _ _=>⟨u.slots,k b u q⟩
 free:=λb u q n _=>by rw[av (aaa (ZZ (ZN q) hp))];exact n
 there:=λb u q _=>⟨u,k b u q⟩
 uJ:=λb xs q=>by rw[av (aR q hn)];exact q
 qw:=λb u xs q=>by rw[av (aR q hn)];exact q
 sX:=λb ps q=>⟨#[],by rw[av (aR q hn),q];simp⟩
theorem Un.write(mu:QW (H x))(he:e=x\/H e=Δ (.own x))(k:∀b u,b≠e->h.get? b=Δ u->h'.get? b=Δ u)(Qx:∃u,h'.get? e=Δ u):Un fs ex H (upd H x o) h h':=by
 have hx:∀b,H b=Θ->b≠x:=λb n z=>by subst z;rw[n] at mu;exact mu
 have hb:∀b,H b=Θ->b≠e:=λb n z=>by
  subst z;rcases he with r|r;·exact hx b n r
  ·rw[n] at r;exact aQ r
 have hm:∀b u,H b=Δ u->¬QW (Δ u)->b≠x:=λb u q nm z=>by subst z;rw[q] at mu;exact nm mu
 refine⟨λb u q n _ _=>k b u (hb b n) q,λb u q n _ _=>⟨u.slots,k b u (hb b n) q⟩,λb u q n _=>by rw[av (hx b n)];exact n,λb u q _=>?_,
  λb xs q=>by rw[av (hm b _ q λz=>z)];exact q,λb u xs q=>by rw[av (hm b _ q λz=>z)];exact q,λb ps q=>⟨#[],by rw[av (hm b _ q λz=>z),q];simp⟩⟩
 by_cases Nk:b=e;·subst Nk;exact Qx
 ·exact⟨u,k b u Nk q⟩
end
noncomputable def sY(h:Heap)(H:Hp):List Addr:=(Zq h.objs.size).filter λa=>(H a).isSome
def sZ(h:Heap)(H:Hp):Heap:=PySem.W.hideAll h (sY h H)
theorem xV h H:(sZ h H).objs.size=h.objs.size:=PySem.W.hideAll_size _ _
theorem AH(e:h.get? b=Δ o)(n:H b=Θ):(sZ h H).get? b=Δ o:=
 PySem.W.hideAll_get _ e λhm=>by have q:(H b).isSome=Λ:=(aaE.mp hm).2;rw[n] at q;simp at q
theorem Ea(e:(sZ h H).get? b=Δ o):h.get? b=Δ o/\H b=Θ:=by have e':h.get? b=Δ o:=PySem.W.of_hideAll (sY h H) e;refine⟨e',?_⟩;cases q:H b with|none=>rfl|some x=>have hm:b∈sY h H:=aaE.mpr ⟨aaF.mpr (ZN e'),by simp[q]⟩;have z:(sZ h H).get? b=Θ:=PySem.W.hideAll_none (sY h H) hm;rw[z] at e;exact aQ e
structure Mod(K:ZE)(mg:Str->Option Value)(base:Heap):Prop where
 Nl:K.In base
 glob:base.Ns ZL mg
 blt:∃mb,base.Ns aeg mb/\∀x:Str,x≠"__name__"->mb x=acC x
 nolimit:base.NoLimit
structure Cx where
 prog:aav
 w:World
 K:ZE
 mg:Str->Option Value
 base:Heap
 A:aaZ
 N:List Str
 iR:ZR
 AI:Hp
 env:Env
 outer:List Env
 stack:List Env
 ex:List Addr
 fn:Str->Bool
 calm:Bool
 pn:List (Addr×Obj)
 xe:Value->ZR->Prop
def kI(l:List Env):List Addr:=l.filterMap (·.frame)
abbrev Cx.fs(X:Cx):List Addr:=kI X.outer
def QY(sc:Scope)(x:Str):Prop:=sc.names.lookup x=Δ .local\/sc.names.lookup x=Δ .cell\/sc.names.lookup x=Δ .free
def Loc(sc:Scope)(x:Str):Prop:=sc.names.lookup x=Δ .local\/sc.names.lookup x=Δ .cell
def Look(env:Env)(h:Heap)(m:Str->Option Value)(x:Str)(u:Value):Prop:=
 (env.kindOf x=Δ .local/\m x=Δ u)\/((env.kindOf x=Δ .cell\/env.kindOf x=Δ .free)/\∃c,env.cells.lookup x=Δ c/\h.IsCell c (Δ u))
structure Cx.Ok(X:Cx):Prop where
 mod:Mod X.K X.mg X.base
 kind:X.env.scope.kind=.function
 glob:X.env.globals=ZL
 blt:X.env.builtins=aeg
 above:X.iR.heap.objs.size<=X.env.locals
 inj:∀x y c,X.env.cells.lookup x=Δ c->X.env.cells.lookup y=Δ c->x=y
 has:∀x,(X.env.kindOf x=Δ .cell\/X.env.kindOf x=Δ .free)->∃c,X.env.cells.lookup x=Δ c
 Nm:∀x c,X.fn x=Λ->X.env.cells.lookup x=Δ c->X.iR.heap.objs.size<=c
 hd:X.calm=Λ->X.A.handled=Θ
 frames:X.A.frames=Δ X.stack
 QZ:X.stack=X.outer\/(X.stack=X.env::X.outer/\X.env.frame=Δ X.env.locals)
 VH:∀b∈X.ex,b≠X.env.locals/\∀x c,X.env.cells.lookup x=Δ c->c≠b
 bs:∀b o,X.base.get? b=Δ o->X.iR.heap.get? b=Δ o/\X.AI b=Θ
 GL:X.base.objs.size<=X.iR.heap.objs.size
 E9:∀b o,X.base.get? b=Δ o->b∉X.ex
 GX:∀b∈X.ex,b∉X.fs
 nR:X.iR.heap.FunFrames X.base X.outer
 JW:∀b∈X.fs,X.AI b=Θ
structure Inv(X:Cx)(pins:List (Addr×Obj))(σ:List (Option V))(H:Hp)(s:ZR):Prop where
 ok:X.Ok
 os:s.os=X.iR.os
 bare:adV s.gens
 base:Un X.fs X.ex X.AI H X.iR.heap s.heap
 loc:∃m,s.heap.Ns X.env.locals m/\∀(i:Nat) (x:Str) (v:V),X.N[i]?=Δ x->σ[i]?=Δ (Δ v)->QY X.env.scope x->∃u,RelV v u/\Look X.env s.heap m x u
 cell:∀x c,X.env.cells.lookup x=Δ c->∃v,s.heap.IsCell c v
 free:H X.env.locals=Θ
 lH:∀x c,X.env.cells.lookup x=Δ c->H c=Θ
 pin:∀p∈X.pn++pins,s.heap.get? p.1=Δ p.2/\H p.1=Θ/\p.1≠X.env.locals/\p.1∉X.fs/\∀v,p.2.data≠.cell v
 aN:lW X.prog X.w H s.heap
 len:σ.length=X.N.length
section
variable{X:Cx}{pins:List (Addr×Obj)}{σ:List (Option V)}{H H':Hp}{s:ZR}{h':Heap}
theorem Cx.Ok.JX(ok:X.Ok)(e:X.base.get? b=Δ o):b∉X.fs:=λhb=>by have:=(ok.nR.mem hb).1;rw[e] at this;exact GU this
theorem Inv.bs(I:Inv X pins σ H s):∀b o,X.base.get? b=Δ o->s.heap.get? b=Δ o/\H b=Θ:=λb o e=>⟨I.base.keep b o (I.ok.bs b o e).1 (I.ok.bs b o e).2 (I.ok.JX e) (I.ok.E9 b o e),I.base.free b o (I.ok.bs b o e).1 (I.ok.bs b o e).2 (I.ok.E9 b o e)⟩
theorem Inv.bk(I:Inv X pins σ H s):∀b o,X.base.get? b=Δ o->s.heap.get? b=Δ o:=λb o e=>(I.bs b o e).1
theorem Inv.mod(I:Inv X pins σ H s):Mod X.K X.mg X.base:=I.ok.mod
theorem Inv.oV(I:Inv X pins σ H s):X.K.In s.heap:=I.ok.mod.Nl.keeps I.bk
theorem Inv.lt(I:Inv X pins σ H s):X.env.locals < s.heap.objs.size:=let ⟨_,hn,_⟩:=I.loc;hn.lt
theorem Inv.sz(I:Inv X pins σ H s):X.iR.heap.objs.size<=s.heap.objs.size:=aap I.ok.above (acG I.lt)
theorem Inv.VI(I:Inv X pins σ H s)(h:s.heap.objs.size<=a):a∉X.fs:=λhb=>by refine uI (λ_ o ho _=>?_) (I.ok.nR.mem hb);exact absurd (ZZ (ZN ho) (aap I.sz h)) (abg _)
theorem Inv.Mt(I:Inv X pins σ H s):∀x c,X.env.cells.lookup x=Δ c->c≠X.env.locals:=λx c e z=>by refine bg (λv o ho hd=>?_) (I.cell x c e);refine dJ (λm CN _=>?_) (I.loc);revert CN;refine cD λo' es ep qx JI _=>?_;rw[z,qx] at ho;obtain rfl:=sj ho;rw[JI] at hd;cases hd
theorem Inv.nR(I:Inv X pins σ H s):s.heap.FunFrames X.base X.outer:=by
 have all:∀(l:List Env),(∀b∈kI l,b∈X.fs)->X.iR.heap.FunFrames X.base l->s.heap.FunFrames X.base l:=by intro l;induction l with|nil=>intro _ _;trivial|cons env r ih=>intro hs hl;obtain⟨hk,⟨L,o,hf,hn,ho,hd⟩,hr⟩:=hl;have hL:L∈X.fs:=hs L (by unfold kI;rw[acf,hf];exact Zx);obtain⟨sl,e⟩:=I.base.slot L o ho (I.ok.JW L hL) hL λz=>I.ok.GX L z hL;exact⟨hk,⟨L,_,hf,hn,e,hd⟩,ih (λb hb=>hs b (by unfold kI;rw[acf,hf];exact Zs _ hb)) hr⟩
 exact all X.outer (λ_ hb=>hb) I.ok.nR
theorem Inv.stack(I:Inv X pins σ H s):s.heap.FunFrames X.base X.stack:=by
 rcases I.ok.QZ with e|⟨e,hf⟩;·rw[e];exact I.nR
 ·rw[e];refine dJ (λm hn _=>?_) (I.loc);refine .cons (by rw[I.ok.kind];decide) hf hn ?_ I.nR;exact Heap.get?_none_of_le (aap I.ok.GL I.ok.above)
theorem Inv.qy(I:Inv X pins σ H s):∀b∈kI X.stack,b∈X.env.locals::X.fs:=λb hb=>by
 rcases I.ok.QZ with e|⟨e,hf⟩;·rw[e] at hb;exact Zs _ hb
 ·rw[e] at hb;unfold kI at hb;rw[acf,hf] at hb;exact hb
theorem Inv.oW(I:Inv X pins σ H s):∀b∈kI X.stack,H b=Θ:=λb hb=>by
 rcases abM.mp (I.qy b hb) with e|hb;·rw[e];exact I.free
 ·refine uI (λ_ o ho _=>?_) (I.ok.nR.mem hb);exact I.base.free b o ho (I.ok.JW b hb) λz=>I.ok.GX b z hb
theorem Inv.step{ch:List Addr}(I:Inv X pins σ H s)(JJ:∀b∈ch,(b∈X.ex\/X.iR.heap.objs.size<=b)/\b≠X.env.locals/\(∀x c,X.env.cells.lookup x=Δ c->c≠b)/\∀p∈X.pn++pins,p.1≠b)(keep:∀b o,b≠X.env.locals->b∉X.fs->b∉ch->s.heap.get? b=Δ o->H b=Θ->h'.get? b=Δ o)(slot:∀b o,b≠X.env.locals->b∈X.fs->b∉ch->s.heap.get? b=Δ o->H b=Θ->∃sl,h'.get? b=Δ {o with slots:=sl})(free:∀b o,b∉ch->s.heap.get? b=Δ o->H b=Θ->H' b=Θ)(there:∀b o,b∉ch->s.heap.get? b=Δ o->∃o',h'.get? b=Δ o')(uJ:∀b xs,H b=Δ (.tup xs)->H' b=Δ (.tup xs))(qw:∀b o u,H b=Δ (.dM o u)->H' b=Δ (.dM o u))(sX:∀b ps,H b=Δ (.gv ps)->∃more,H' b=Δ (.gv (ps++more)))(ns:∀m,s.heap.Ns X.env.locals m->h'.Ns X.env.locals m)(aN:lW X.prog X.w H' h')(hg:adV g'):
  Inv X pins σ H' {s with heap:=h',gens:=g',drawn:=d',toks:=t'}:=by
 have neL:∀b o,X.iR.heap.get? b=Δ o->b≠X.env.locals:=λb o e=>aaa (ZZ (ZN e) I.ok.above);have UC:∀b o,X.iR.heap.get? b=Δ o->b∉X.ex->b∉ch:=λb o e hx hb=>by
  rcases(JJ b hb).1 with z|z;·exact hx z
  ·exact absurd (ZZ (ZN e) z) (abg _)
 have cellK:∀x c,X.env.cells.lookup x=Δ c->∀v,s.heap.IsCell c v->h'.IsCell c v:=λx c e v gy=>by
  obtain⟨o,ho,hd⟩:=gy;have Q0:c∉ch:=λz=>(JJ c z).2.2.1 x c e rfl;by_cases hc:c∈X.fs;·obtain⟨sl,q⟩:=slot c o (I.Mt x c e) hc Q0 ho (I.lH x c e);exact⟨_,q,hd⟩
  ·exact⟨o,keep c o (I.Mt x c e) hc Q0 ho (I.lH x c e),hd⟩
 refine⟨I.ok,I.os,hg,⟨λb o e n hb hx=>?_,λb o e n hb hx=>?_,λb o e n hx=>?_,λb o e hx=>?_,λb xs e=>uJ b xs (I.base.uJ b xs e),λb o xs e=>qw b o xs (I.base.qw b o xs e),λb ps e=>?_⟩,?_,λx c e=>?_,?_,λx c e=>?_,λp hp=>?_,aN,I.len⟩;·exact keep b o (neL b o e) hb (UC b o e hx) (I.base.keep b o e n hb hx) (I.base.free b o e n hx)
 ·obtain⟨sl,e1⟩:=I.base.slot b o e n hb hx;obtain⟨sl',e2⟩:=slot b _ (neL b o e) hb (UC b o e hx) e1 (I.base.free b o e n hx);exact⟨sl',e2⟩
 ·obtain⟨o',e1⟩:=I.base.there b o e hx;exact free b o' (UC b o e hx) e1 (I.base.free b o e n hx)
 ·obtain⟨o',e1⟩:=I.base.there b o e hx;exact there b o' (UC b o e hx) e1
 ·obtain⟨m1,e1⟩:=I.base.sX b ps e;obtain⟨m2,e2⟩:=sX b _ e1;exact⟨m1++m2,by rw[e2,Array.append_assoc]⟩
 ·refine dJ (λm hn hl=>?_) (I.loc);refine⟨m,ns m hn,λi x v e1 e2 e3=>?_⟩;obtain⟨u,r,l⟩:=hl i x v e1 e2 e3;refine⟨u,r,?_⟩;rcases l with l|⟨k,c,e,z⟩;·exact .inl l
  ·exact .inr ⟨k,c,e,cellK x c e _ z⟩
 ·obtain⟨v,z⟩:=I.cell x c e;exact⟨v,cellK x c e v z⟩
 ·refine dJ (λm Fb _=>?_) (I.loc);revert Fb;refine fQ λo _ _ ho _=>?_;exact free _ o (λz=>(JJ _ z).2.1 rfl) ho I.free
 ·refine bg (λv o ho hd=>?_) (I.cell x c e);exact free c o (λz=>(JJ c z).2.2.1 x c e rfl) ho (I.lH x c e)
 ·refine kJ (λe n ne nf d=>?_) (I.pin p hp);have Q0:p.1∉ch:=λz=>(JJ p.1 z).2.2.2 p hp rfl;exact⟨keep p.1 p.2 ne nf Q0 e n,free p.1 p.2 Q0 e n,ne,nf,d⟩
theorem Inv.un(I:Inv X pins σ H s)(u:Un X.fs [] H H' s.heap h')(aN:lW X.prog X.w H' h'):Inv X pins σ H' {s with heap:=h',toks:=t'}:=by refine dJ (λm Q1 _=>?_) (id I.loc);revert Q1;refine fQ λo es ep ho r=>?_;obtain⟨sl,hL⟩:=u.any ho I.free (by simp);exact I.step (g':=s.gens) (d':=s.drawn) (ch:=[]) (λ_ z=>nomatch z) (λb o _ hb _ e n=>u.keep b o e n hb (by simp)) (λb o _ hb _ e n=>u.slot b o e n hb (by simp)) (λb o _ e n=>u.free b o e n (by simp)) (λb o _ e=>u.there b o e (by simp)) u.uJ u.qw u.sX (λm' hm=>by revert hm;refine fQ λo' UD UE qx r'=>?_;rw[ho] at qx;obtain rfl:=sj qx;exact⟨_,UD,UE,hL,r'⟩) aN I.bare
theorem Inv.call(I:Inv X pins σ H s)(u:Un (kI X.stack) ch H H' s.heap h')(aN:lW X.prog X.w H' h')(hg:adV g')(JJ:∀b∈ch,(b∈X.ex\/X.iR.heap.objs.size<=b)/\b≠X.env.locals/\(∀x c,X.env.cells.lookup x=Δ c->c≠b)/\∀p∈X.pn++pins,p.1≠b):
  Inv X pins σ H' {s with heap:=h',gens:=g',drawn:=d',toks:=t'}:=by
 refine dJ (λm hN6 _=>?_) (id I.loc);revert hN6;refine fQ λo es ep ho r=>?_;obtain⟨sl,hL⟩:=u.any ho I.free λz=>(JJ _ z).2.1 rfl;exact I.step (ch:=ch) JJ (λb o hL hb hc e n=>u.keep b o e n (λz=>(abM.mp (I.qy b z)).elim hL hb) hc) (λb o _ _ hc e n=>u.any e n hc) (λb o hc e n=>u.free b o e n hc) (λb o hc e=>u.there b o e hc) u.uJ u.qw u.sX (λm' hm=>by revert hm;refine fQ λo' UD UE qx r'=>?_;rw[ho] at qx;obtain rfl:=sj qx;exact⟨_,UD,UE,hL,r'⟩) aN hg
theorem Inv.turned(I:Inv X pins σ H s)(k:∀b o,b≠it->s.heap.get? b=Δ o->h'.get? b=Δ o)(hn:H it=Θ)(hL:it≠X.env.locals)(h1:it∈X.ex\/X.iR.heap.objs.size<=it)(h2:∀x c,X.env.cells.lookup x=Δ c->c≠it)(h3:∀p∈X.pn++pins,p.1≠it):Inv X pins σ H {s with heap:=h',toks:=t'}:=by
 have GY:∀b u,H b=Δ u->b≠it:=λb u e z=>by rw[z,hn] at e;exact aQ e
 refine I.step (g':=s.gens) (d':=s.drawn) (ch:=[it]) (λb hb=>?_) (λb o _ _ hc e _=>k b o (λz=>hc (by simp[z])) e) (λb o _ _ hc e _=>⟨o.slots,k b o (λz=>hc (by simp[z])) e⟩) (λ_ _ _ _ n=>n)
  (λb o hc e=>⟨o,k b o (λz=>hc (by simp[z])) e⟩) (λ_ _ e=>e) (λ_ _ _ e=>e) (λb ps e=>⟨#[],by rw[e];simp⟩) (λm hm=>?_) (λb u e=>?_) I.bare
 ·have e:b=it:=by simpa using hb
  subst e;exact⟨h1,hL,h2,h3⟩
 ·revert hm;refine fQ λo es ep ho r=>?_;exact⟨o,es,ep,k _ o (aaw hL) ho,r⟩
 ·refine(I.aN b u e).oU (λc v hc q=>k c v ?_ q) (λ_ q=>q) λ_ _ q=>q;rcases hc with z|z;·rw[z];exact GY b u e
  ·exact GY c _ z
theorem Inv.tok(I:Inv X pins σ H s)t:Inv X pins σ H {s with toks:=t}:=I.un (h':=s.heap) (t':=t) Un.refl I.aN
theorem Inv.kept(I:Inv X pins σ H s)(k:∀b u,s.heap.get? b=Δ u->h'.get? b=Δ u):Inv X pins σ H {s with heap:=h',toks:=t'}:=I.un (Un.kept k) (I.aN.kept k)
theorem Inv.laid(I:Inv X pins σ H s)(k:∀b u,s.heap.get? b=Δ u->h'.get? b=Δ u)(hp:s.heap.objs.size<=a)(new:bR X.prog X.w (upd H a o) h' a o):
  Inv X pins σ (upd H a o) {s with heap:=h',toks:=t'}:=I.un (Un.laid k hp (I.aN.fresh hp)) (I.aN.laid k hp new)
theorem Inv.write(I:Inv X pins σ H s)(mu:QW (H x))(he:e=x\/H e=Δ (.own x))(k:∀b u,b≠e->s.heap.get? b=Δ u->h'.get? b=Δ u)(Qx:∃u,h'.get? e=Δ u)(new:bR X.prog X.w (upd H x o) h' x o):Inv X pins σ (upd H x o) {s with heap:=h',toks:=t'}:=I.un (Un.write mu he k Qx) (I.aN.write mu he k Qx new)
theorem Inv.Eb(I:Inv X pins σ H s)(h:∀p∈Q2,s.heap.get? p.1=Δ p.2/\H p.1=Θ/\p.1≠X.env.locals/\p.1∉X.fs/\∀v,p.2.data≠.cell v):Inv X Q2 σ H s:=
 ⟨I.ok,I.os,I.bare,I.base,I.loc,I.cell,I.free,I.lH,λp hp=>(acQ.mp hp).elim (λz=>I.pin p (aaG _ z)) (h p),I.aN,I.len⟩
theorem lY{N:List Str}(hN:N.Nodup){i j:Nat}(a:N[i]?=Δ x)(b:N[j]?=Δ x):i=j:=by obtain⟨h1,e1⟩:=List.getElem?_eq_some_iff.mp a;obtain⟨h2,e2⟩:=List.getElem?_eq_some_iff.mp b;exact(List.getElem_inj hN).mp (e1.trans e2.symm)
theorem Fc(I:Inv X pins σ H s)(hN:X.N.Nodup)(hi:X.N[i]?=Δ x)(hx:Loc X.env.scope x)(r:RelV v u)(h:∀s',Inv X pins (σ.set i (Δ v)) H s'->(∃a,ab9 a s.heap s'.heap/\(a=X.env.locals\/X.env.cells.lookup x=Δ a))->Q () s')(hf:X.fn x=Λ\/X.env.scope.names.lookup x=Δ .local:=by first|exact .inl rfl|exact .inr rfl|assumption):wpAny M A (storeName X.env x u) Q E s:=by
 refine dJ (λm hn hl=>?_) (id I.loc);have VJ:(X.env.scope.kind==.class||(X.env.scope.kind==.module&&X.env.locals !=X.env.globals))=Ξ:=by rw[I.ok.kind];rfl
 have Q3:i < σ.length:=by rw[I.len];exact(List.getElem?_eq_some_iff.mp hi).1
 have Mt:=I.Mt;have tracked:∀{a:Addr} {h':Heap},(∃o,s.heap.get? a=Δ o/\H a=Θ)->ab9 a s.heap h'->lW X.prog X.w H h':=λ{a h'} ha hs b ob e=>by
  obtain⟨_,_,AJ⟩:=ha;refine(I.aN b ob e).oU (λc w' hc q=>(hs.2 c ?_).trans q) (λ_ q=>q) λ_ _ q=>q;rintro rfl;rcases hc with rfl|hc;·rw[AJ] at e;exact aQ e
  ·rw[AJ] at hc;exact aQ hc
 rcases hx with hk|hk
 ·refine wpAny_storeName_local hk hn (λh' GZ hs=>?_) VJ;refine fQ (λoL _ _ hoL _=>?_) (id hn);refine h _ ⟨I.ok,I.os,I.bare,⟨λb o e n hb hx=>?_,λb o e n hb hx=>?_,I.base.free,λb o e hx=>?_,I.base.uJ,I.base.qw,I.base.sX⟩,⟨_,GZ,λj y v' e1 e2 e3=>?_⟩,λy c e=>?_,I.free,I.lH,λp hp=>?_,tracked ⟨oL,hoL,I.free⟩ hs,by simpa using I.len⟩ ⟨_,hs,.inl rfl⟩;·exact(hs.2 b (aaa (ZZ (ZN e) I.ok.above))).trans (I.base.keep b o e n hb hx)
  ·obtain⟨sl,e1⟩:=I.base.slot b o e n hb hx;exact⟨sl,(hs.2 b (aaa (ZZ (ZN e) I.ok.above))).trans e1⟩
  ·obtain⟨o',e1⟩:=I.base.there b o e hx;exact⟨o',(hs.2 b (aaa (ZZ (ZN e) I.ok.above))).trans e1⟩
  ·by_cases hj:j=i;·subst hj;rw[hi] at e1;obtain rfl:=sj e1;rw[ZY Q3] at e2;cases e2;exact⟨u,r,.inl ⟨hk,by simp⟩⟩
   ·rw[Zw (aaw hj)] at e2;obtain⟨u',r',q⟩:=hl j y v' e1 e2 e3;refine⟨u',r',?_⟩;rcases q with ⟨k,e⟩|⟨k,c,e,z⟩
    ·refine .inl ⟨k,?_⟩;have:y≠x:=λe=>hj (lY hN e1 (e▸hi));simp[this,e]
    ·exact .inr ⟨k,c,e,z.sameBut hs (Mt y c e)⟩
  ·obtain⟨w',z⟩:=I.cell y c e;exact⟨w',z.sameBut hs (Mt y c e)⟩
  ·refine kJ (λe n ne nf d=>?_) (I.pin p hp);exact⟨(hs.2 p.1 ne).trans e,n,ne,nf,d⟩
 ·have GN:X.fn x=Λ:=by
   rcases hf with z|z;·exact z
   ·rw[z] at hk;cases hk
  obtain⟨c,hc⟩:=I.ok.has x (.inl hk);obtain⟨w',z⟩:=I.cell x c hc;refine wpAny_storeName_cell I.ok.kind hk hc z (λh' CF hs=>?_);obtain⟨oc,Nn,VL⟩:=id z;refine h {s with heap:=h'} ⟨I.ok,I.os,I.bare,⟨λb o e n hb hx=>?_,λb o e n hb hx=>?_,I.base.free,λb o e hx=>?_,I.base.uJ,I.base.qw,I.base.sX⟩,⟨m,hn.sameBut hs (aaw (Mt x c hc)),λj y v' e1 e2 e3=>?_⟩,λy c' e=>?_,I.free,I.lH,λp hp=>?_,tracked ⟨oc,Nn,I.lH x c hc⟩ hs,by simpa using I.len⟩ ⟨c,hs,.inr hc⟩;·exact(hs.2 b (aaa (ZZ (ZN e) (I.ok.Nm x c GN hc)))).trans (I.base.keep b o e n hb hx)
  ·obtain⟨sl,e1⟩:=I.base.slot b o e n hb hx;exact⟨sl,(hs.2 b (aaa (ZZ (ZN e) (I.ok.Nm x c GN hc)))).trans e1⟩
  ·obtain⟨o',e1⟩:=I.base.there b o e hx;exact⟨o',(hs.2 b (aaa (ZZ (ZN e) (I.ok.Nm x c GN hc)))).trans e1⟩
  ·by_cases hj:j=i;·subst hj;rw[hi] at e1;obtain rfl:=sj e1;rw[ZY Q3] at e2;cases e2;exact⟨u,r,.inr ⟨.inl hk,c,hc,CF⟩⟩
   ·rw[Zw (aaw hj)] at e2;obtain⟨u',r',q⟩:=hl j y v' e1 e2 e3;refine⟨u',r',?_⟩;rcases q with q|⟨k,c',e,z'⟩;·exact .inl q
    ·refine .inr ⟨k,c',e,z'.sameBut hs ?_⟩;rintro rfl;exact hj (lY hN e1 (I.ok.inj _ _ _ e hc▸hi))
  ·by_cases GO:c'=c;·subst GO;exact⟨_,CF⟩
   ·obtain⟨w2,z2⟩:=I.cell y c' e;exact⟨w2,z2.sameBut hs GO⟩
  ·refine kJ (λe n ne nf d=>?_) (I.pin p hp);refine⟨(hs.2 p.1 ?_).trans e,n,ne,nf,d⟩;intro q;rw[q,Nn] at e;have q':oc=p.2:=aaf e;exact d w' (by rw[<-q'];exact VL)
theorem oX(I:Inv X pins σ H s)(hN:X.N.Nodup)(hi:X.N[i]?=Δ x)(hx:Loc X.env.scope x)(r:RelV v u)(h:∀s',Inv X pins (σ.set i (Δ v)) H s'->Q () s')(hf:X.fn x=Λ\/X.env.scope.names.lookup x=Δ .local:=by first|exact .inl rfl|exact .inr rfl|assumption):wpAny M A (storeName X.env x u) Q E s:=
 Fc I hN hi hx r (λs' I' _=>h s' I') hf
theorem Inv.G0(I:Inv X pins σ H s)(ho:s'.os=s.os)(u:Un (kI X.stack) ch H H' s.heap s'.heap)(aN:lW X.prog X.w H' s'.heap)(hg:adV s'.gens)(JJ:∀b∈ch,(b∈X.ex\/X.iR.heap.objs.size<=b)/\b≠X.env.locals/\(∀x c,X.env.cells.lookup x=Δ c->c≠b)/\∀p∈X.pn++pins,p.1≠b):Inv X pins σ H' s':=by obtain⟨h',g',d',t',o'⟩:=s';have e:o'=s.os:=ho;subst e;exact I.call (g':=g') (t':=t') (d':=d') u aN hg JJ
end
abbrev XK:=Value->Option Addr->Hp->Prop
abbrev St:=List (Option V)
abbrev VK:=V->Hp->Prop
abbrev TE:=St->Hp->VK->Prop
abbrev TT:=St->Hp->(Bool->Hp->Prop)->Prop
abbrev TA:=St->Hp->(List V->Hp->Prop)->Prop
structure Ends where
 nx:St->Hp->Prop
 rt:VK
 bk:St->Hp->Prop:=λ_ _=>False
 ct:St->Hp->Prop:=λ_ _=>False
abbrev TS:=Ends->St->Hp->Prop
inductive EP (X:Cx) (pins:List (Addr×Obj)) (σ:St) (Q:VK) (u:Value) (s':ZR):Prop
 |mk (v:V) (H':Hp) (a:Inv X pins σ H' s') (b:RelV v u) (c:Q v H'):EP X pins σ Q u s'
inductive TP (X:Cx) (pins:List (Addr×Obj)) (σ:St) (Q:Bool->Hp->Prop) (b:Bool) (s':ZR):Prop
 |mk (H':Hp) (a:Inv X pins σ H' s') (c:Q b H'):TP X pins σ Q b s'
inductive AP (X:Cx) (pins:List (Addr×Obj)) (σ:St) (Q:List V->Hp->Prop) (us:List Value) (s':ZR):Prop
 |mk (vs:List V) (H':Hp) (a:Inv X pins σ H' s') (b:aY vs us) (c:Q vs H'):AP X pins σ Q us s'
def SP(X:Cx)(pins:List (Addr×Obj))(D:Ends)(f:Flow)(s':ZR):Prop:=
 match f with|.next=>∃dn H',Inv X pins dn H' s'/\D.nx dn H'|.brk=>∃dn H',Inv X pins dn H' s'/\D.bk dn H'|.cont=>∃dn H',Inv X pins dn H' s'/\D.ct dn H'|.ret u=>∃v dn H',Inv X pins dn H' s'/\RelV v u/\D.rt v H'
noncomputable def PE(X:Cx)(e:Expr)(t:TE):Prop:=
 ∀(pins:List (Addr×Obj)) (s:ZR) (σ:St) (H:Hp) (Q:VK),Inv X pins σ H s->t σ H Q->wpAny (model X.prog X.w) X.A (eval e X.env) (EP X pins σ Q) X.xe s
noncomputable def PT(X:Cx)(e:Expr)(t:TT):Prop:=
 ∀(pins:List (Addr×Obj)) (s:ZR) (σ:St) (H:Hp) (Q:Bool->Hp->Prop),Inv X pins σ H s->t σ H Q->wpAny (model X.prog X.w) X.A (aeW e X.env (eval e X.env)) (TP X pins σ Q) X.xe s
noncomputable def PW(X:Cx)(e:Expr)(t:TT):Prop:=
 ∀(whole:Sem Value) (pins:List (Addr×Obj)) (s:ZR) (σ:St) (H:Hp) (Q:Bool->Hp->Prop),Inv X pins σ H s->t σ H Q->wpAny (model X.prog X.w) X.A (aeW e X.env whole) (TP X pins σ Q) X.xe s
theorem PW.pt(h:PW X e t):PT X e t:=h _
noncomputable def PA(X:Cx)(es:List Expr)(t:TA):Prop:=
 ∀(pos:Pos) (pins:List (Addr×Obj)) (s:ZR) (σ:St) (H:Hp) (Q:List V->Hp->Prop),Inv X pins σ H s->t σ H Q->wpAny (model X.prog X.w) X.A (spliced (abC pos (Z9 es X.env))) (AP X pins σ Q) X.xe s
def PS(X:Cx)(st:Stmt)(t:TS):Prop:=
 ∀(pins:List (Addr×Obj)) (s:ZR) (σ:St) (H:Hp) (D:Ends),Inv X pins σ H s->t D σ H->wpAny (model X.prog X.w) X.A (exec st X.env) (SP X pins D) X.xe s
def nS(X:Cx)(st:List Stmt)(t:TS):Prop:=
 ∀(pins:List (Addr×Obj)) (s:ZR) (σ:St) (H:Hp) (D:Ends),Inv X pins σ H s->t D σ H->wpAny (model X.prog X.w) X.A (execs st X.env) (SP X pins D) X.xe s
theorem b8(h:wpAny M A t Q E s)(hQ:∀a s,Q a s->Q' a s):wpAny M A t Q' E s:=aa9 h hQ λ_ _ x=>x
section
variable{X:Cx}
def VM(i:Nat):TE:=λσ H Q=>∃v,σ[i]?=Δ (Δ v)/\Q v H
def tC(v:V):TE:=λ_ H Q=>Q v H
theorem CO(hN:X.N[i]?=Δ x)(hv:QY X.env.scope x)(hd:(x==("__debug__":Str))=Ξ:=by decide)(oQ:(x==("__classdict__":Str))=Ξ:=by decide):PE X (.Name x pos) (VM i):=by
 intro pins s σ H Q I h;obtain⟨v,e,h⟩:=h;obtain⟨m,hn,hl⟩:=I.loc;obtain⟨u,r,l⟩:=hl i x v hN e hv;have fin:EP X pins σ Q u s:=⟨v,H,I,r,h⟩;rcases l with ⟨hk,hm⟩|⟨hk,c,hc,oY⟩
 ·exact ae4 (wpAny_loadName_local I.ok.kind hk hn hm fin) hd
 ·rcases hk with hk|hk;·exact ae4 (wpAny_loadName_cell I.ok.kind hk hc oY fin) hd
  ·exact ae4 (wpAny_loadName_free I.ok.kind hk hc oY fin oQ) hd
theorem G1{i j pos}:PE X (.Constant (.int i) j pos) (tC (.int i)):=λ_ _ _ H _ I h=>wpAny_Constant_int ⟨.int i,H,I.tok _,⟨_,rfl⟩,h⟩
theorem Mu{b j pos}:PE X (.Constant (.bool b) j pos) (tC (.bl b)):=λ_ _ _ H _ I h=>Constant_bool ⟨.bl b,H,I,rfl,h⟩
theorem G3{j pos}:PE X (.Constant .none j pos) (tC .bG):=λ_ _ _ H _ I h=>Constant_none ⟨.bG,H,I,rfl,h⟩
theorem G4{x j pos}:PE X (.Constant (.str x) j pos) (tC (.str x)):=λ_ _ _ H _ I h=>Calls.Constant_str ⟨.str x,H,I.tok _,⟨_,rfl⟩,h⟩
def Gl(X:Cx)(x:Str):Prop:=X.env.kindOf x=Δ .globalImplicit
theorem oZ(I:Inv X pins σ H s)(hg:Gl X x)(hm:X.mg x=Δ u)(h:Q u s)(hd:(x==("__debug__":Str))=Ξ:=by decide):wpAny (model X.prog X.w) X.A (eval (.Name x pos) X.env) Q E s:=
 Calls.Name_function_global I.ok.kind hg (Calls.loadGlobal_global (by rw[I.ok.glob];exact I.mod.glob.keeps I.bk) hm h) hd
theorem kM(I:Inv X pins σ H s)(hg:Gl X x)(hm:X.mg x=Θ)(hv:acC x=Δ u)(h:Q u s)(hn:x≠"__name__":=by decide)(hd:(x==("__debug__":Str))=Ξ:=by decide):wpAny (model X.prog X.w) X.A (eval (.Name x pos) X.env) Q E s:=by obtain⟨mb,h1,h2⟩:=I.mod.blt;exact Calls.Name_function_global I.ok.kind hg (Calls.loadGlobal_builtin (by rw[I.ok.glob];exact I.mod.glob.keeps I.bk) hm (by rw[I.ok.blt];exact h1.keeps I.bk) ((h2 x hn).trans hv) h) hd
theorem JY(hg:Gl X x)(hm:X.mg x=Δ u)(r:RelV v u)(hd:(x==("__debug__":Str))=Ξ:=by decide):PE X (.Name x pos) (tC v):=
 λ_ _ _ H _ I h=>oZ I hg hm ⟨v,H,I,r,h⟩ hd
theorem JZ(hg:Gl X x)(hm:X.mg x=Θ)(hv:acC x=Δ u)(r:RelV v u)(hn:x≠"__name__":=by decide)(hd:(x==("__debug__":Str))=Ξ:=by decide):PE X (.Name x pos) (tC v):=
 λ_ _ _ H _ I h=>kM I hg hm hv ⟨v,H,I,r,h⟩ hn hd
variable{a b:Expr}{ta tb:TE}{pos:Pos}
variable{tA UG:TT}{rest:List Expr}
noncomputable def VN(t u:TT):TT:=λσ H Q=>t σ H λc H1=>if c=Λ then u σ H1 Q else Q Ξ H1
noncomputable def tOr(t u:TT):TT:=λσ H Q=>t σ H λc H1=>if c=Λ then Q Λ H1 else u σ H1 Q
def VO(t:TT):TT:=λσ H Q=>t σ H λc H1=>Q (!c) H1
theorem pw_and1(ha:PT X a tA):PW X (.BoolOp .And [a] pos) tA:=by intro wh pins s σ H Q I h;refine isTrue_and (b8 (ha pins s σ H Q I h) λc s1 e=>?_);cases c with|true=>exact isTrue_and_nil e|false=>exact e
theorem pw_or1(ha:PT X a tA):PW X (.BoolOp .Or [a] pos) tA:=by intro wh pins s σ H Q I h;refine isTrue_or (b8 (ha pins s σ H Q I h) λc s1 e=>?_);cases c with|false=>exact isTrue_or_nil e|true=>exact e
theorem pw_and(ha:PT X a tA)(hb:PW X (.BoolOp .And (b::rest) pos) UG):PW X (.BoolOp .And (a::b::rest) pos) (VN tA UG):=by intro wh pins s σ H Q I h;refine isTrue_and (b8 (ha pins s σ H _ I h) λc s1 Q4=>?_);obtain⟨H1,I1,q1⟩:=Q4;cases c with|true=>exact hb wh pins s1 σ H1 Q I1 q1|false=>exact⟨H1,I1,q1⟩
theorem pw_or(ha:PT X a tA)(hb:PW X (.BoolOp .Or (b::rest) pos) UG):PW X (.BoolOp .Or (a::b::rest) pos) (tOr tA UG):=by intro wh pins s σ H Q I h;refine isTrue_or (b8 (ha pins s σ H _ I h) λc s1 Np=>?_);obtain⟨H1,I1,q1⟩:=Np;cases c with|true=>exact⟨H1,I1,q1⟩|false=>exact hb wh pins s1 σ H1 Q I1 q1
theorem Nq(ha:PT X a tA):PT X (.UnaryOp .Not a pos) (VO tA):=by intro pins s σ H Q I h;exact isTrue_not (b8 (ha pins s σ H (λc H1=>Q (!c) H1) I h) λc s1 ⟨H1,I1,q⟩=>⟨H1,I1,q⟩)
noncomputable def Q5(ta tb:TE):TE:=λσ H Q=>ta σ H λx H1=>∃c,x=.bl c/\if c=Λ then tb σ H1 Q else Q (.bl Ξ) H1
noncomputable def VP(ta tb:TE):TE:=λσ H Q=>ta σ H λx H1=>∃c,x=.bl c/\if c=Λ then Q (.bl Λ) H1 else tb σ H1 Q
theorem G5{op}(h:PE X a t):PE X (.BoolOp op [a] pos) t:=λpins s σ H Q I hw=>BoolOp_one (h pins s σ H Q I hw)
theorem Nr(ha:PE X a ta)(hb:PE X (.BoolOp .And (b::rest) pos) tb):PE X (.BoolOp .And (a::b::rest) pos) (Q5 ta tb):=by intro pins s σ H Q I h;refine BoolOp_and (b8 (ha pins s σ H _ I h) λv s1 VQ=>?_);obtain⟨x,H1,I1,r1,q1⟩:=VQ;obtain⟨c,rfl,q1⟩:=q1;obtain rfl:=r1;refine abh ?_;cases c with|true=>exact hb pins s1 σ H1 Q I1 q1|false=>exact⟨.bl Ξ,H1,I1,rfl,q1⟩
theorem Q6(ha:PE X a ta)(hb:PE X (.BoolOp .Or (b::rest) pos) tb):PE X (.BoolOp .Or (a::b::rest) pos) (VP ta tb):=by intro pins s σ H Q I h;refine BoolOp_or (b8 (ha pins s σ H _ I h) λv s1 VR=>?_);obtain⟨x,H1,I1,r1,q1⟩:=VR;obtain⟨c,rfl,q1⟩:=q1;obtain rfl:=r1;refine abh ?_;cases c with|false=>exact hb pins s1 σ H1 Q I1 q1|true=>exact⟨.bl Λ,H1,I1,rfl,q1⟩
end
def nz(K:ZE)(H:Hp)(a:Addr)(xs:List V):Prop:=
 Rd H a (.lst xs)\/
  ∃(o:Obj) (its:Array Value) (n:Nat),K.lookup a=Δ o/\o.cls=.type "list"/\o.dict=Θ/\o.data=.seq its n/\its.size<=Z3/\aY xs its.toList
def g7(K:ZE)(H:Hp)(a:Addr)(xs:List V):Prop:=
 Rd H a (.tup xs)\/
  ∃(o:Obj) (its:Array Value) (n:Nat),K.lookup a=Δ o/\o.cls=.type "tuple"/\o.data=.seq its n/\its.size<=Z3/\aY xs its.toList
noncomputable def VS:Value->Option V
 |.none=>Δ .bG|.bool b=>Δ (.bl b)|.int i _=>Δ (.int i)|.str x _=>Δ (.str x)|.bytes b _=>Δ (.Qw b)|.float b _=>Δ (.Ni b)|.ref a=>Δ (.ref a)|.type n=>Δ (.ty n)|_=>Θ
theorem RelV.abs(r:RelV x u):VS u=Δ x:=by cases x with|bG=>obtain rfl:=r;rfl|bl _=>obtain rfl:=r;rfl|int _=>obtain⟨t,rfl⟩:=r;rfl|str _=>obtain⟨t,rfl⟩:=r;rfl|Qw _=>obtain⟨t,rfl⟩:=r;rfl|Ni _=>obtain⟨t,rfl⟩:=r;rfl|ref _=>obtain rfl:=r;rfl|ty _=>obtain rfl:=r;rfl
theorem RelV.inj(r:RelV x u)(q:RelV y u):x=y:=aaf (r.abs.symm.trans q.abs)
theorem aY.inj:∀{xs ys} {us},aY xs us->aY ys us->xs=ys
 |_,_,_,.nil,.nil=>rfl|_,_,_,.cons r t,.cons r' t'=>by rw[r.inj r',aY.inj t t']
section
variable{X:Cx}{pins:List (Addr×Obj)}{σ:St}{H:Hp}{s:ZR}{a:Addr}{xs ys:List V}
theorem g7.of{K:ZE}(h:H a=Δ (.tup xs)):g7 K H a xs:=.inl (.inl h)
theorem Inv.list(I:Inv X pins σ H s)(h:nz X.K H a xs):∃its,aY xs its/\PlainL s.heap a its.toArray/\xs.length<=Z3:=by
 rcases h with h|⟨o,its,n,hk,hc,hd,hs,hz,r⟩;·refine qt (λz its n r e=>?_) (h.ok I.aN);exact⟨its,r,⟨_,n,e,rfl,rfl,rfl⟩,z⟩
 ·refine⟨its.toList,r,⟨o,n,I.oV a o hk,hc,hd,by simpa using hs⟩,?_⟩;have e:=r.length;simp only[acg] at e
  lia
theorem Inv.tuple(I:Inv X pins σ H s)(h:g7 X.K H a xs):∃its,aY xs its/\IsTup s.heap a its.toArray/\xs.length<=Z3:=by
 rcases h with h|⟨o,its,n,hk,hc,hs,hz,r⟩;·refine uI (λz its r p=>?_) (h.ok I.aN);exact⟨its,r,p,z⟩
 ·refine⟨its.toList,r,⟨o,I.oV a o hk,hc,n,by simpa using hs⟩,?_⟩;have e:=r.length;simp only[acg] at e
  lia
theorem Inv.AK(I:Inv X pins σ H s)(h:nz X.K H a xs)(h':nz X.K H a ys):xs=ys:=by
 refine aB (λits r hN8 _=>?_) (I.list h);revert hN8;refine bZ λo n e _ _ d=>?_;refine aB (λits' r' hN9 _=>?_) (I.list h');revert hN9;refine bZ λo' n' e' _ _ d'=>?_;rw[e] at e';obtain rfl:=sj e';rw[d] at d';injection d' with d1 _;have:its=its':=by simpa using congrArg Array.toList d1
 subst this;exact r.inj r'
theorem Inv.xW(I:Inv X pins σ H s)(h:g7 X.K H a xs)(h':g7 X.K H a ys):xs=ys:=by
 refine aB (λits r VT _=>?_) (I.tuple h);revert VT;refine eV λo e _ n d=>?_;refine aB (λits' r' VU _=>?_) (I.tuple h');revert VU;refine eV λo' e' _ n' d'=>?_;rw[e] at e';obtain rfl:=sj e';rw[d] at d';injection d' with d1 _;have:its=its':=by simpa using congrArg Array.toList d1
 subst this;exact r.inj r'
end
abbrev Cx.uK(X:Cx)(E:Value->ZR->Prop):Cx:={X with xe:=E}
abbrev Cx.GP(X:Cx):Cx:=X.uK λ_ _=>False
theorem Cx.Ok.uK{X:Cx}(ok:X.Ok)E:(X.uK E).Ok:=
 ⟨ok.mod,ok.kind,ok.glob,ok.blt,ok.above,ok.inj,ok.has,ok.Nm,ok.hd,ok.frames,ok.QZ,ok.VH,ok.bs,ok.GL,ok.E9,ok.GX,ok.nR,ok.JW⟩
theorem Cx.Ok.kN{X:Cx}(ok:(X.uK E).Ok):X.Ok:=
 ⟨ok.mod,ok.kind,ok.glob,ok.blt,ok.above,ok.inj,ok.has,ok.Nm,ok.hd,ok.frames,ok.QZ,ok.VH,ok.bs,ok.GL,ok.E9,ok.GX,ok.nR,ok.JW⟩
section
variable{X:Cx}{pins:List (Addr×Obj)}{σ:St}{H:Hp}{s:ZR}{E:Value->ZR->Prop}
theorem Inv.uK(I:Inv X pins σ H s)E:Inv (X.uK E) pins σ H s:=⟨I.ok.uK E,I.os,I.bare,I.base,I.loc,I.cell,I.free,I.lH,I.pin,I.aN,I.len⟩
theorem Inv.kN(I:Inv (X.uK E) pins σ H s):Inv X pins σ H s:=⟨I.ok.kN,I.os,I.bare,I.base,I.loc,I.cell,I.free,I.lH,I.pin,I.aN,I.len⟩
theorem SP.kN(h:SP (X.uK E) pins D f s'):SP X pins D f s':=by cases f with|next=>obtain⟨dn,H',I,q⟩:=h;exact⟨dn,H',I.kN,q⟩|brk=>obtain⟨dn,H',I,q⟩:=h;exact⟨dn,H',I.kN,q⟩|cont=>obtain⟨dn,H',I,q⟩:=h;exact⟨dn,H',I.kN,q⟩|ret u=>obtain⟨v,dn,H',I,r,q⟩:=h;exact⟨v,dn,H',I.kN,r,q⟩
theorem PE.GP(h:PE X.GP e t):PE X e t:=λpins s σ H Q I hw=>aa9 (h pins s σ H Q (I.uK _) hw) (λ_ _ ⟨v,H',I',r,q⟩=>⟨v,H',I'.kN,r,q⟩) λ_ _ z=>aaL z
theorem nS.GP{st:List Stmt}(h:nS X.GP st t):nS X st t:=λpins s σ H D I hw=>aa9 (h pins s σ H D (I.uK _) hw) (λ_ _ q=>q.kN) λ_ _ z=>aaL z
end
section
variable{X:Cx}{st:Stmt}{rest:List Stmt}{t u:TS}{e:Expr}{te:TE}{pos:Pos}
def Q7:TS:=λD σ H=>D.nx σ H
def VW(t u:TS):TS:=λD σ H=>t {D with nx:=u D} σ H
theorem J1:nS X [] Q7:=λ_ _ σ H _ I h=>aek ⟨σ,H,I,h⟩
theorem G6(h1:PS X st t)(h2:nS X rest u):nS X (st::rest) (VW t u):=by intro pins s σ H D I h;refine wpAny_execs_cons (b8 (h1 pins s σ H {D with nx:=u D} I h) λf s1 q=>?_);cases f with|next=>revert q;refine bg λdn H' I' q=>?_;exact h2 pins s1 dn H' D I' q|ret v=>exact q|brk=>exact q|cont=>exact q
theorem Inv.quiet(I:Inv X pins σ H s):interactive X.env=Ξ:=by simp[interactive,I.ok.kind]
def Q8(te:TE):TS:=λD σ H=>te σ H λ_ H1=>D.nx σ H1
theorem Ec(he:PE X e te)(hs:acB e Θ pos.line X.env=pure Ξ:=by rfl):PS X (.Expr e pos) (Q8 te):=by intro pins s σ H D I h;exact wpAny_Expr_any (b8 (he pins s σ H _ I h) λv s1 ⟨x,H1,I1,r1,q1⟩=>⟨σ,H1,I1,q1⟩) I.quiet hs
def VX(te:TE):TS:=λD σ H=>te σ H D.rt
theorem Nt(he:PE X e te):PS X (.Return (Δ e) pos) (VX te):=by intro pins s σ H D I h;exact wpAny_Return_some (b8 (he pins s σ H _ I h) λv s1 ⟨x,H1,I1,r1,q1⟩=>⟨x,σ,H1,I1,r1,q1⟩)
def Q9:TS:=λD _ H=>D.rt .bG H
theorem J2:PS X (.Return Θ pos) Q9:=λ_ _ σ H _ I h=>wpAny_Return_none ⟨.bG,σ,H,I,rfl,h⟩
noncomputable def VY(c:TT)(t u:TS):TS:=λD σ H=>c σ H λb H1=>if b=Λ then t D σ H1 else u D σ H1
theorem Ra(hc:PT X c tc)(ha:nS X a t)(hb:nS X b u):PS X (.If c a b pos) (VY tc t u):=by intro pins s σ H D I h;refine wpAny_If (b8 (hc pins s σ H _ I h) λd s1 Nu=>?_);obtain⟨H1,I1,q1⟩:=Nu;cases d with|true=>exact ha pins s1 σ H1 D I1 q1|false=>exact hb pins s1 σ H1 D I1 q1
end
abbrev TG:=V->St->Hp->(St->Hp->Prop)->Prop
abbrev Rb:=List V->St->Hp->(St->Hp->Prop)->Prop
def PG(X:Cx)(target:Expr)(t:TG):Prop:=
 ∀(pins:List (Addr×Obj)) (s:ZR) (σ:St) (H:Hp) (v:V) (u:Value) (Q:St->Hp->Prop),Inv X pins σ H s->RelV v u->t v σ H Q->
  wpAny (model X.prog X.w) X.A (ae7 target X.env u) (λ_ s'=>∃dn H',Inv X pins dn H' s'/\Q dn H') X.xe s
noncomputable def UH(X:Cx)(ts:List Expr)(t:Rb):Prop:=
 ∀(pins:List (Addr×Obj)) (s:ZR) (σ:St) (H:Hp) (vs:List V) (us:List Value) (Q:St->Hp->Prop),Inv X pins σ H s->aY vs us->t vs σ H Q->
  wpAny (model X.prog X.w) X.A (assignInOrder ((aeh ts X.env).map (·.2)) us) (λ_ s'=>∃dn H',Inv X pins dn H' s'/\Q dn H') X.xe s
abbrev Rc:=V->V->V->Hp->(Hp->Prop)->Prop
def Fd(X:Cx)(t:Rc):Prop:=
 ∀(pins:List (Addr×Obj)) (s:ZR) (σ:St) (H:Hp) (o i v:V) (ov iv u:Value) (Q:Hp->Prop),Inv X pins σ H s->RelV o ov->RelV i iv->RelV v u->t o i v H Q->
  wpAny (model X.prog X.w) X.A (setItem ov iv u) (λ_ s'=>∃H',Inv X pins σ H' s'/\Q H') X.xe s
section
variable{X:Cx}{pos:Pos}
def uL(i:Nat):TG:=λv σ H Q=>Q (σ.set i (Δ v)) H
theorem fR(hN:X.N.Nodup)(hi:X.N[i]?=Δ x)(hx:Loc X.env.scope x)(hf:X.fn x=Λ\/X.env.scope.names.lookup x=Δ .local:=by first|exact .inl rfl|exact .inr rfl|assumption):PG X (.Name x pos) (uL i):=by intro pins s σ H v u Q I r h;exact wpAny_assign_Name (oX I hN hi hx r (λs' I'=>⟨_,H,I',h⟩) hf)
def VZ:Rb:=λvs σ H Q=>vs=[]/\Q σ H
noncomputable def Rf(t:TG)(u:Rb):Rb:=λvs σ H Q=>∃v r,vs=v::r/\t v σ H λdn H'=>u r dn H' Q
theorem zi:UH X [] VZ:=by intro pins s σ H vs us Q I r h;obtain⟨e,h⟩:=h;subst e;cases r;exact assignInOrder_nil ⟨σ,H,I,h⟩
theorem kh(h1:PG X e t)(h2:UH X es u)(hs:(aeh (e::es) X.env).map (·.2)=ae7 e X.env::(aeh es X.env).map (·.2):=by rfl):UH X (e::es) (Rf t u):=by intro pins s σ H vs us Q I r h;revert h;refine bg λv vr e1 h=>?_;subst e1;cases r with|cons r rr=>rw[hs];refine assignInOrder_cons (b8 (h1 pins s σ H _ _ _ I r h) λ_ s1 V0=>?_);revert V0;refine bg λQy H1 I1 q1=>?_;exact h2 pins s1 Qy H1 _ _ Q I1 rr q1
def V1(K:ZE)(n:Nat)(t:Rb):TG:=λv σ H Q=>∃a xs,v=.ref a/\g7 K H a xs/\xs.length=n/\t xs σ H Q
theorem CP(hc:X.calm=Λ)(h:UH X es t)(hn:(aeh es X.env).length=n:=by rfl)(sf:(aeh es X.env).findIdx? (·.1)=Θ:=by rfl):PG X (.Tuple es k pos) (V1 X.K n t):=by intro pins s σ H v u Q I r hw;revert hw;refine bZ λa xs e1 hq hl hw=>?_;subst e1;obtain rfl:=r;refine aB (λits rv ht hz=>?_) (I.tuple hq);refine assign_Tuple_tuple (I.ok.hd hc) ht (by simp[hn,<-hl,rv.length]) sf λh' hx=>?_;have I1:Inv X pins σ H {s with heap:=h'}:=I.kept (t':=s.toks) λb o e=>hx b o (aaa (ZN e)) e;exact h pins _ σ H xs _ Q I1 (by simpa using rv) hw
noncomputable def V2(te:TE)(g:TG):TS:=λD σ H=>te σ H λx H1=>g x σ H1 D.nx
theorem G7(hN:X.N.Nodup)(hi:X.N[i]?=Δ x)(hx:Loc X.env.scope x)(he:PE X e te)(hs:acB e (Δ (.Name x pos')) pos.line X.env=pure Ξ:=by rfl)(hf:X.fn x=Λ\/X.env.scope.names.lookup x=Δ .local:=by first|exact .inl rfl|exact .inr rfl|assumption):
  PS X (.Assign [.Name x pos'] e pos) (V2 te (uL i)):=by
 intro pins s σ H D I h;refine wpAny_Assign_Name (b8 (he pins s σ H _ I h) λv s1 Nv=>?_) hs;obtain⟨y,H1,I1,r1,q1⟩:=Nv;exact oX I1 hN hi hx r1 (λs2 I2=>⟨_,H1,I2,q1⟩) hf
end
section
variable{X:Cx}{pos:Pos}
noncomputable def Nw(c:TT)(tb:TS):TS:=λD σ H=>∃W:Nat->St->Hp->Prop,(∃m,W m σ H)/\∀m σ H,W m σ H->
 c σ H λb H1=>if b=Λ then ∃N:St->Hp->Prop,(∀dn H',N dn H'->∃m',m' < m/\W m' dn H')/\tb {D with nx:=N,ct:=N,bk:=D.nx} σ H1 else D.nx σ H1
theorem G8(hp:PassesOwn (model X.prog X.w) X.A X.env X.xe)(hc:PT X c tc)(hb:nS X body tb):PS X (.While c body [] pos) (Nw tc tb):=by
 intro pins s σ H D I h;obtain⟨W,⟨m0,w0⟩,turn⟩:=h;refine wpAny_While (codeAny_whileLoop (λn s'=>∃dn H',Inv X pins dn H' s'/\W n dn H') ?_ m0 ⟨σ,H,I,w0⟩);intro n s1 V3;revert V3;refine bg λQy H1 I1 w1=>?_;refine abW hp (b8 (hc pins s1 Qy H1 _ I1 (turn n Qy H1 w1)) λb s2 V4=>?_);obtain⟨H2,I2,q2⟩:=V4;cases b with
 |true=>obtain⟨N,hN,q2⟩:=q2;rw[if_pos rfl];refine abW hp (b8 (hb pins s2 Qy H2 _ I2 q2) λf s3 q3=>?_);cases f with|next=>revert q3;refine bg λG9 H3 I3 n3=>?_;obtain⟨m',hm,w3⟩:=hN G9 H3 n3;exact⟨m',hm,G9,H3,I3,w3⟩|cont=>revert q3;refine bg λG9 H3 I3 n3=>?_;obtain⟨m',hm,w3⟩:=hN G9 H3 n3;exact⟨m',hm,G9,H3,I3,w3⟩|brk=>exact q3|ret v=>exact q3
 |false=>rw[if_neg aat];exact aek ⟨Qy,H2,I2,q2⟩
end
structure It where
 go:Nat->Hp->Prop
 Rg:Nat->Hp->V->Hp->Prop
 stop:Nat->Hp->Prop
noncomputable def nT(X:Cx)(pins:List (Addr×Obj))(H:Hp)(b:Addr):Prop:=
 H b=Θ/\b≠X.env.locals/\b∉X.fs/\(b∈X.ex\/X.iR.heap.objs.size<=b)/\(∀x c,X.env.cells.lookup x=Δ c->c≠b)/\∀p∈X.pn++pins,p.1≠b
theorem Inv.zj(I:Inv X pins σ H s)(hb:s.heap.objs.size<=b)(hn:H' b=Θ):nT X pins H' b:=by
 refine⟨hn,aaD (ZZ I.lt hb),I.VI hb,.inr (aap I.sz hb),λx c e z=>?_,λp hp z=>?_⟩;·obtain⟨v,q⟩:=I.cell x c e;exact absurd (ZZ q.lt (by rw[z];exact hb)) (abg _)
 ·exact absurd (ZZ (ZN (I.pin p hp).1) (by rw[z];exact hb)) (abg _)
structure Turn(P:aav)(w:World)(K:ZE)(tg:Expr)(J:It)(fp:List Addr)(it:Addr)(tn:Nat->Heap->Prop):Prop where
 mem:it∈fp
 obj:∀i h,tn i h->∀b∈fp,∃o,h.get? b=Δ o/\∀v,o.data≠.cell v
 keep:∀i h h',tn i h->(∀b∈fp,∀o,h.get? b=Δ o->h'.get? b=Δ o)->tn i h'
 item:∀(X:Cx),X.prog=P->X.w=w->X.K=K->X.calm=Λ->∀(i:Nat) (pins:List (Addr×Obj)) (s:ZR) (σ:St) (H:Hp) (E:Value->ZR->Prop),Inv X pins σ H s->(∀b∈fp,nT X pins H b)->tn i s.heap->J.go i H->
  wpAny (model P w) X.A (adY (.ref it)) (λr s1=>∃u,r=Δ u/\
   wpAny (model P w) X.A (adC tg (.ref it) u) (λ_ s2=>∃x H',Inv X pins σ H' s2/\RelV x u/\J.Rg i H x H'/\tn (i+1) s2.heap/\∀b∈fp,H' b=Θ) E s1) E s
 done:∀(X:Cx),X.prog=P->X.w=w->X.K=K->X.calm=Λ->∀(i:Nat) (pins:List (Addr×Obj)) (s:ZR) (σ:St) (H:Hp) (E:Value->ZR->Prop),Inv X pins σ H s->(∀b∈fp,nT X pins H b)->tn i s.heap->J.stop i H->
  wpAny (model P w) X.A (adY (.ref it)) (λr s1=>r=Θ/\Inv X pins σ H s1) E s
 self:∀(A:aaZ) (i:Nat) (s:ZR) (Q:Value->ZR->Prop) (E:Value->ZR->Prop),tn i s.heap->Q (.ref it) s->wpAny (model P w) A (pyIter (.ref it)) Q E s
abbrev TI:=St->Hp->(It->Hp->Prop)->Prop
def PIE(X:Cx)(pins:List (Addr×Obj))(σ:St)(tg:Expr)(R:It->Hp->Prop)(UI:Value)(s2:ZR):Prop:=
 ∃(it:Addr) (fp:List Addr) (tn:Nat->Heap->Prop) (J:It) (H':Hp),UI=.ref it/\Inv X pins σ H' s2/\Turn X.prog X.w X.K tg J fp it tn/\tn 0 s2.heap/\(∀b∈fp,nT X pins H' b)/\R J H'
def PI(X:Cx)(tg iter:Expr)(wi:TI):Prop:=
 ∀(pins:List (Addr×Obj)) (s:ZR) (σ:St) (H:Hp) (R:It->Hp->Prop),Inv X pins σ H s->wi σ H R->
  wpAny (model X.prog X.w) X.A (eval iter X.env) (λv s1=>wpAny (model X.prog X.w) X.A (pyIter v) (PIE X pins σ tg R) X.xe s1) X.xe s
theorem Ha(ho:s.heap.get? it=Δ o)(hc:o.cls=.type n)(hd:o.data=.fields vs)(hn:["enumerate","zip","dict_itemiterator","dict_reverseitemiterator","odict_iterator","itertools.zip_longest","itertools.pairwise"].contains n=Ξ)(hQ:Q () s):wpAny M A (adC tg (.ref it) u) Q E s:=by
 unfold adC;cases tg<;>first
  |exact ZT hQ
  |(cases u<;>first
    |exact ZT hQ
    |(refine Zv (wpAny_load ho ?_)
      rw[hc,hd];show wpAny M A (if(["enumerate","zip","dict_itemiterator","dict_reverseitemiterator","odict_iterator","itertools.zip_longest","itertools.pairwise"].contains n&&vs[0]?==Δ (abB _))=Λ then _ else _) Q E s;rw[if_neg (by intro h;rw[hn,ade] at h;exact ft h)];exact ZT hQ))
def V5(K:ZE)(a:Addr):It:=
 ⟨λi H=>∃xs x,nz K H a xs/\xs[i]?=Δ x,λi H x H'=>H'=H/\∀xs,nz K H a xs->xs[i]?=Δ x,λi H=>∃xs,nz K H a xs/\xs.length<=i⟩
def V6(K:ZE)(a:Addr):It:=
 ⟨λi H=>∃xs x,g7 K H a xs/\xs[i]?=Δ x,λi H x H'=>H'=H/\∀xs,g7 K H a xs->xs[i]?=Δ x,λi H=>∃xs,g7 K H a xs/\xs.length<=i⟩
noncomputable def Nx(lo:Int)(n:Nat):It:=⟨λi _=>i < n,λi H x H'=>H'=H/\x=.int (lo+i),λi _=>n<=i⟩
theorem Fe{P:aav}{w:World}{K:ZE}{tg:Expr}(a it:Addr):Turn P w K tg (V5 K a) [it] it (λi h=>h.IsListIter it a i) where
 mem:=by simp
 obj:=λi h st b hb=>by
  have e:b=it:=by simpa using hb
  subst e;revert st;refine aB λo e c d=>?_;exact⟨o,e,λv z=>by rw[d] at z;cases z⟩
 keep:=λi h h' st k=>st.at λo e=>k it (by simp) o e
 item:=by intro X hP hw hK hc i pins s σ H E I hf st hg;subst hP hw hK;refine cps λgG kG=>?_;obtain⟨xs,x,hq,hx⟩:=hg;obtain⟨its,rv,p,hz⟩:=I.list hq;obtain⟨u,hu,ru⟩:=rv.get hx;obtain⟨f0,f1,f2,f3,f4,f5⟩:=hf it (by simp);refine kG ?_;refine wpAny_pyNext_list_item st p.isList (x:=u) (by simpa using hu) λh' aO sb=>?_;have I1:Inv X pins σ H {s with heap:=h'}:=I.turned (t':=s.toks) (λb o hb e=>(sb.2 b hb).trans e) f0 f1 f3 f4 f5;refine aB (λo e c d=>?_) (id aO);exact⟨u,rfl,Ha (s:={s with heap:=h'}) e c d (by decide) ⟨x,H,I1,ru,⟨rfl,λys hy=>by rw[I.AK hy hq];exact hx⟩,aO,λb hb=>(hf b hb).1⟩⟩
 done:=by intro X hP hw hK hc i pins s σ H E I hf st hg;subst hP hw hK;refine cps λgG kG=>?_;obtain⟨xs,hq,hx⟩:=hg;obtain⟨its,rv,p,hz⟩:=I.list hq;obtain⟨f0,f1,f2,f3,f4,f5⟩:=hf it (by simp);refine kG ?_;have hl:=rv.length;exact wpAny_pyNext_list_end (I.ok.hd hc) st p.isList (by simp;lia) λh' eb=>⟨rfl,I.turned (t':=s.toks) (λb o hb e=>eb b o hb e) f0 f1 f3 f4 f5⟩
 self:=λ_ _ _ _ _ st h=>wpAny_pyIter_listiter st h
theorem CQ{P:aav}{w:World}{K:ZE}{tg:Expr}(a it:Addr):Turn P w K tg (V6 K a) [it] it (λi h=>h.IsTupleIter it a i) where
 mem:=by simp
 obj:=λi h st b hb=>by
  have e:b=it:=by simpa using hb
  subst e;revert st;refine aB λo e c d=>?_;exact⟨o,e,λv z=>by rw[d] at z;cases z⟩
 keep:=λi h h' st k=>st.at λo e=>k it (by simp) o e
 item:=by intro X hP hw hK hc i pins s σ H E I hf st hg;subst hP hw hK;refine cps λgG kG=>?_;obtain⟨xs,x,hq,hx⟩:=hg;obtain⟨its,rv,p,hz⟩:=I.tuple hq;obtain⟨u,hu,ru⟩:=rv.get hx;obtain⟨f0,f1,f2,f3,f4,f5⟩:=hf it (by simp);refine kG ?_;refine wpAny_pyNext_tuple_item st (show s.heap.IsTuple a its.toArray from p) (x:=u) (by simpa using hu) λh' aO sb=>?_;have I1:Inv X pins σ H {s with heap:=h'}:=I.turned (t':=s.toks) (λb o hb e=>(sb.2 b hb).trans e) f0 f1 f3 f4 f5;refine aB (λo e c d=>?_) (id aO);exact⟨u,rfl,Ha (s:={s with heap:=h'}) e c d (by decide) ⟨x,H,I1,ru,⟨rfl,λys hy=>by rw[I.xW hy hq];exact hx⟩,aO,λb hb=>(hf b hb).1⟩⟩
 done:=by intro X hP hw hK hc i pins s σ H E I hf st hg;subst hP hw hK;refine cps λgG kG=>?_;obtain⟨xs,hq,hx⟩:=hg;obtain⟨its,rv,p,hz⟩:=I.tuple hq;obtain⟨f0,f1,f2,f3,f4,f5⟩:=hf it (by simp);refine kG ?_;have hl:=rv.length;exact wpAny_pyNext_tuple_end (I.ok.hd hc) st (show s.heap.IsTuple a its.toArray from p) (by simp;lia) λh' eb=>⟨rfl,I.turned (t':=s.toks) (λb o hb e=>eb b o hb e) f0 f1 f3 f4 f5⟩
 self:=λ_ _ _ _ _ st h=>wpAny_pyIter_tupleiter st h
theorem CS{P:aav}{w:World}{K:ZE}{tg:Expr}(it:Addr)(lo:Int)(n:Nat):Turn P w K tg (Nx lo n) [it] it (λi h=>IsRangeIter h it (lo+(i:Nat)*1) ((n:Int) - (i:Nat)) 1) where
 mem:=by simp
 obj:=λi h st b hb=>by
  have e:b=it:=by simpa using hb
  subst e;exact⟨_,st,λv z=>by have z':Data.fields _=Data.cell v:=z;cases z'⟩
 keep:=λi h h' st k=>k it (by simp) _ st
 item:=by intro X hP hw hK hc i pins s σ H E I hf st hg;subst hP hw hK;refine kK (λf0 f1 f2 f3 f4 f5=>?_) (hf it (by simp));have W:=Walks.range (prog:=X.prog) (w:=X.w) (I.ok.hd hc) it lo 1 n;refine W.item i s _ _ hg st λv h' tk hv aO kk=>?_;obtain⟨t,rfl⟩:=hv;have I1:Inv X pins σ H {s with heap:=h',toks:=tk}:=I.turned (λb o hb e=>kk b o (by simpa using hb) e) f0 f1 f3 f4 f5;refine⟨_,rfl,Ha (s:={s with heap:=h',toks:=tk}) (n:="range_iterator") aO rfl rfl (by decide) ⟨.int (lo+i),H,I1,⟨t,?_⟩,⟨rfl,rfl⟩,aO,λb hb=>(hf b hb).1⟩⟩;rw[Int.mul_one]
 done:=by intro X hP hw hK hc i pins s σ H E I hf st hg;subst hP hw hK;refine kK (λf0 f1 f2 f3 f4 f5=>?_) (hf it (by simp));exact wpAny_pyNext_range_end (I.ok.hd hc) st (by have:n<=i:=hg;lia) λh' eb=>⟨rfl,I.turned (t':=s.toks) (λb o hb e=>eb b o hb e) f0 f1 f3 f4 f5⟩
 self:=λ_ _ _ _ _ st h=>wpAny_pyIter_rangeiter st h
section
variable{X:Cx}{tg:Expr}
def Mv(K:ZE)(tl:TE):TI:=λσ H R=>tl σ H λx H1=>∃a,x=.ref a/\(∃xs,nz K H1 a xs)/\R (V5 K a) H1
def V7(K:ZE)(tl:TE):TI:=λσ H R=>tl σ H λx H1=>∃a,x=.ref a/\(∃xs,g7 K H1 a xs)/\R (V6 K a) H1
theorem uh(hl:PE X l tl):PI X tg l (Mv X.K tl):=by
 intro pins s σ H R I h;refine b8 (hl pins s σ H _ I h) λv s1 V8=>?_;obtain⟨x,H1,I1,r1,q1⟩:=V8;revert q1;refine aB λa e V9 q=>?_;obtain⟨xs,hq⟩:=V9;subst e;obtain rfl:=r1;refine aB (λits rv p hz=>?_) (I1.list hq);refine wpAny_pyIter_list p.isList ?_;refine⟨s1.heap.objs.size,[s1.heap.objs.size],_,_,H1,rfl,I1.kept (t':=s1.toks) λb o e=>Zt _ e,Fe a _,⟨_,ZM _ rfl,rfl,rfl⟩,λb hb=>?_,q⟩;have e:b=s1.heap.objs.size:=by simpa using hb
 subst e;exact I1.zj (ZC _) (I1.aN.fresh (ZC _))
theorem Ny(hl:PE X l tl):PI X tg l (V7 X.K tl):=by
 intro pins s σ H R I h;refine b8 (hl pins s σ H _ I h) λv s1 Wa=>?_;obtain⟨x,H1,I1,r1,q1⟩:=Wa;revert q1;refine aB λa e Wb q=>?_;obtain⟨xs,hq⟩:=Wb;subst e;obtain rfl:=r1;refine aB (λits rv p hz=>?_) (I1.tuple hq);refine abR (show s1.heap.IsTuple a its.toArray from p) ?_;refine⟨s1.heap.objs.size,[s1.heap.objs.size],_,_,H1,rfl,I1.kept (t':=s1.toks) λb o e=>Zt _ e,CQ a _,⟨_,ZM _ rfl,rfl,rfl⟩,λb hb=>?_,q⟩;have e:b=s1.heap.objs.size:=by simpa using hb
 subst e;exact I1.zj (ZC _) (I1.aN.fresh (ZC _))
theorem AL{lo hi:Int}(I:Inv X pins σ H s)(h1: -(2 ^ 62)<=lo)(h2:lo < 2 ^ 62)(h3: -(2 ^ 62)<=hi)(h4:hi < 2 ^ 62)(q:R (Nx lo (hi - lo).toNat) H):wpAny (model X.prog X.w) X.A (pyIter (.ref s.heap.objs.size)) (PIE X pins σ tg R) E {s with heap:=s.heap.push {cls:=.type "range",data:=.fields #[.int lo t,.int hi u,.int 1 v]},toks:=tk}:=by
 refine wpAny_pyIter_range (IsRange.new ..) (small_one h1 h2 h3 h4) ?_;have I1:Inv X pins σ H {s with heap:=s.heap.push {cls:=.type "range",data:=.fields #[.int lo t,.int hi u,.int 1 v]},toks:=tk}:=I.kept λb o e=>Zt _ e;refine⟨(s.heap.push {cls:=.type "range",data:=.fields #[.int lo t,.int hi u,.int 1 v]}).objs.size,[(s.heap.push {cls:=.type "range",data:=.fields #[.int lo t,.int hi u,.int 1 v]}).objs.size],_,_,H,rfl,
  I1.kept (t':=tk) λb o e=>Zt _ e,CS _ lo (hi - lo).toNat,?_,λb hb=>?_,q⟩
 ·have e1:lo+((0:Nat):Int)*1=lo:=by simp
  have e2:(((hi - lo).toNat:Nat):Int) - ((0:Nat):Int)=adu.Range.rangeSize lo hi 1:=by rw[rangeSize_one];split<;>lia
  show IsRangeIter _ _ (lo+((0:Nat):Int)*1) ((((hi - lo).toNat:Nat):Int) - ((0:Nat):Int)) 1;rw[e1,e2];exact ZM _ rfl
 ·have e:b=(s.heap.push {cls:=.type "range",data:=.fields #[.int lo t,.int hi u,.int 1 v]}).objs.size:=by simpa using hb
  subst e;exact I1.zj (ZC _) (I1.aN.fresh (ZC _))
def Rh(ta:TA):TI:=λσ H R=>ta σ H λvs H1=>∃j:Int,vs=[.int j]/\ -(2 ^ 62)<=j/\j < 2 ^ 62/\R (Nx 0 j.toNat) H1
def Ri(ta:TA):TI:=λσ H R=>ta σ H λvs H1=>∃i j:Int,vs=[.int i,.int j]/\(-(2 ^ 62)<=i/\i < 2 ^ 62/\ -(2 ^ 62)<=j/\j < 2 ^ 62)/\R (Nx i (j - i).toNat) H1
theorem Ff(hg:Gl X "range")(hm:X.mg "range"=Θ)(ha:PA X [a] ta)(hs:Z9 [a] X.env=[(Ξ,eval a X.env)]:=by rfl):PI X tg (.Call (.Name "range" p) [a] [] pos) (Rh ta):=by intro pins s σ H R I h;refine Call_ (kM I hg hm boot_range (aaA (b8 (ha pos pins s σ H _ I h) λus s1 Wc=>?_) hs rfl));obtain⟨vs,H1,I1,r1,q1⟩:=Wc;revert q1;refine gM λj e q1 q2 q=>?_;subst e;cases r1 with|cons r rr=>cases rr;obtain⟨t,rfl⟩:=r;exact call_range_1 (AL I1 (by lia) (by lia) q1 q2 (by simpa using q))
theorem Fg(hg:Gl X "range")(hm:X.mg "range"=Θ)(ha:PA X [a,b] ta)(hs:Z9 [a,b] X.env=[(Ξ,eval a X.env),(Ξ,eval b X.env)]:=by rfl)(xX:Z9 [b] X.env=[(Ξ,eval b X.env)]:=by rfl):
  PI X tg (.Call (.Name "range" p) [a,b] [] pos) (Ri ta):=by
 intro pins s σ H R I h;refine Call_ (kM I hg hm boot_range (aaA (b8 (ha pos pins s σ H _ I h) λus s1 ⟨vs,H1,I1,r1,q1⟩=>?_) (by rw[hs,xX]) (by rw[xX];rfl)));revert q1;refine ah λi j e We q=>?_;revert We;refine jc λq1 q2 q3 q4=>?_;subst e;cases r1 with|cons r rr=>cases rr with|cons r' rr=>cases rr;obtain⟨t,rfl⟩:=r;obtain⟨t',rfl⟩:=r';exact call_range_2 (AL I1 q1 q2 q3 q4 q)
noncomputable def Wf(wi:TI)(g:TG)(tb:TS):TS:=λD σ H=>wi σ H λJ H1=>∃W:Nat->Nat->St->Hp->Prop,(∃m,W 0 m σ H1)/\∀i m σ H,W i m σ H->
 (J.stop i H/\D.nx σ H)\/(J.go i H/\∃N:St->Hp->Prop,(∀dn H',N dn H'->∃m',m' < m/\W (i+1) m' dn H')/\∀x H',J.Rg i H x H'->g x σ H' λQz H2=>tb {D with nx:=N,ct:=N,bk:=D.nx} Qz H2)
noncomputable def qz(fp:List Addr)(h:Heap):List (Addr×Obj):=fp.filterMap λb=>(h.get? b).map λo=>(b,o)
theorem fw(hb:b∈fp)(e:h.get? b=Δ o):(b,o)∈qz fp h:=List.mem_filterMap.mpr ⟨b,hb,by rw[e];rfl⟩
theorem Fh(hp:p∈qz fp h):p.1∈fp/\h.get? p.1=Δ p.2:=by obtain⟨b,hb,e⟩:=List.mem_filterMap.mp hp;cases q:h.get? b with|none=>rw[q] at e;exact aQ e|some o=>rw[q] at e;have e':(b,o)=p:=aaf e;subst e';exact⟨hb,q⟩
theorem Inv.pinned(I:Inv X pins σ H s)(hf:∀b∈fp,nT X pins H b)(ho:∀b∈fp,∃o,s.heap.get? b=Δ o/\∀v,o.data≠.cell v):Inv X (pins++qz fp s.heap) σ H s:=
 I.Eb λp hp=>(acQ.mp hp).elim (λz=>I.pin p (Z8 _ z)) λz=>by obtain⟨hb,e⟩:=Fh z;refine jc (λf0 f1 f2 _=>?_) (hf p.1 hb);obtain⟨o,e',d⟩:=ho p.1 hb;rw[e] at e';obtain rfl:=sj e';exact⟨e,f0,f1,f2,d⟩
theorem Inv.ki(I:Inv X (pins++pl) σ H s):Inv X pins σ H s:=I.Eb λp hp=>I.pin p (Z8 _ (aaG _ hp))
theorem zk(hp:PassesOwn (model X.prog X.w) X.A X.env X.xe)(hc:X.calm=Λ)(hi:PI X tg iter wi)(hg:PG X tg g)(hb:nS X body tb)(hs:∀x,adN iter X.env x=pure x:=by intro _;rfl):PS X (.For tg iter body [] pos) (Wf wi g tb):=by
 intro pins s σ H D I h;refine wpAny_For (b8 (hi pins s σ H _ I h) λv s1 h1=>b8 h1 λUI s2 h2=>?_) hs;refine cps λgG kG=>?_;obtain⟨it,fp,tn,J,H2,e,I2,T,st2,f2,W,⟨m0,w0⟩,turn⟩:=h2;refine kG ?_;subst e;have uM:∀{H':Hp},(∀b∈fp,H' b=Θ)->∀b∈fp,nT X pins H' b:=λhn b hb=>⟨hn b hb,(f2 b hb).2⟩;refine codeAny_forLoop_any (λn s'=>∃i dn H',Inv X pins dn H' s'/\tn i s'.heap/\(∀b∈fp,H' b=Θ)/\W i n dn H') ?_ m0 ⟨0,σ,H2,I2,st2,λb hb=>(f2 b hb).1,w0⟩;intro n s3 Wg;revert Wg;refine br λi G9 H3 I3 st3 fr3 w3=>?_;rcases turn i n G9 H3 w3 with ⟨stop,qn⟩|⟨go,N,hN,step⟩
 ·refine abW hp (b8 (T.done X rfl rfl rfl hc i pins s3 G9 H3 X.xe I3 (uM fr3) st3 stop) λr s4 Wh=>?_);obtain⟨hr,I4⟩:=Wh;subst hr;exact aek ⟨G9,H3,I4,qn⟩
 ·refine abW hp (b8 (T.item X rfl rfl rfl hc i pins s3 G9 H3 X.xe I3 (uM fr3) st3 go) λr s4 Wi=>?_);revert Wi;refine dJ λu hr h4=>?_;subst hr;refine abW hp (b8 h4 λ_ s5 Wj=>?_);revert Wj;refine bq λx H5 I5 r5 y5 CT Nz=>?_;have I5':=I5.pinned (uM Nz) (T.obj _ _ CT);refine abW hp (b8 (hg _ s5 G9 H5 x u _ I5' r5 (step x H5 y5)) λ_ s6 Wk=>?_);revert Wk;refine bg λσ6 H6 I6 q6=>?_;refine abW hp (b8 (hb _ s6 σ6 H6 _ I6 q6) λf s7 q7=>?_);have again:∀{Hb:St} {H7:Hp},Inv X (pins++qz fp s5.heap) Hb H7 s7->N Hb H7->∃m,m < n/\∃i dn H',Inv X pins dn H' s7/\tn i s7.heap/\(∀b∈fp,H' b=Θ)/\W i m dn H':=λ{Hb H7} I7 n7=>by obtain⟨m',hm,w7⟩:=hN Hb H7 n7;refine⟨m',hm,i+1,Hb,H7,I7.ki,T.keep _ _ _ CT λb hb o e=>(I7.pin (b,o) (Z8 _ (Z8 _ (fw hb e)))).1,λb hb=>?_,w7⟩;obtain⟨o,e,d⟩:=T.obj _ _ CT b hb;exact(I7.pin (b,o) (Z8 _ (Z8 _ (fw hb e)))).2.1
  cases f with|next=>obtain⟨Hb,H7,I7,n7⟩:=q7;exact again I7 n7|cont=>obtain⟨Hb,H7,I7,n7⟩:=q7;exact again I7 n7|brk=>obtain⟨Hb,H7,I7,q7⟩:=q7;exact⟨Hb,H7,I7.ki,q7⟩|ret v=>obtain⟨x7,Hb,H7,I7,r7,q7⟩:=q7;exact⟨x7,Hb,H7,I7.ki,r7,q7⟩
end
abbrev R2:=V->V->Hp->VK->Prop
def kj(X:Cx)(f:Value->Value->Sem Value)(r:R2):Prop:=
 ∀(pins:List (Addr×Obj)) (s:ZR) (σ:St) (H:Hp) (x y:V) (v u:Value) (Q:VK),Inv X pins σ H s->RelV x v->RelV y u->r x y H Q->
  wpAny (model X.prog X.w) X.A (f v u) (EP X pins σ Q) X.xe s
def je(X:Cx)(f:Value)(r:List V->Hp->VK->Prop):Prop:=
 ∀(pins:List (Addr×Obj)) (s:ZR) (σ:St) (H:Hp) (xs:List V) (us:List Value) (Q:VK),Inv X pins σ H s->aY xs us->r xs H Q->
  wpAny (model X.prog X.w) X.A (call f us) (EP X pins σ Q) X.xe s
def Wl(X:Cx)(r:V->Hp->(Bool->Hp->Prop)->Prop):Prop:=
 ∀(pins:List (Addr×Obj)) (s:ZR) (σ:St) (H:Hp) (x:V) (v:Value) (Q:Bool->Hp->Prop),Inv X pins σ H s->RelV x v->r x H Q->
  wpAny (model X.prog X.w) X.A (truthy v) (TP X pins σ Q) X.xe s
noncomputable def Rj(r:R2)(ta tb:TE):TE:=λσ H Q=>ta σ H λx H1=>tb σ H1 λy H2=>r x y H2 Q
noncomputable def rI(C:Int->Int->Prop)(g:Int->Int->V):R2:=λx y H Q=>∃i j,x=.int i/\y=.int j/\C i j/\Q (g i j) H
noncomputable def xY(g:Int->Int->V):R2:=λx y H Q=>∃i j,x=.int i/\y=.int j/\Q (g i j) H
section
variable{X:Cx}{a b c:Expr}{ta tb tc:TE}{pos:Pos}
theorem NA(ha:PE X a ta)(hb:PE X b tb){R:V->V->Hp->Prop}(I:Inv X pins σ H s)(h:ta σ H λx H1=>tb σ H1 λy H2=>R x y H2){f:Value->Value->Sem Value}(hf:∀v u s2 x y H2,Inv X pins σ H2 s2->RelV x v->RelV y u->R x y H2->wpAny (model X.prog X.w) X.A (f v u) Q X.xe s2):
  wpAny (model X.prog X.w) X.A (eval a X.env) (λv bI=>wpAny (model X.prog X.w) X.A (eval b X.env) (λu AM=>wpAny (model X.prog X.w) X.A (f v u) Q X.xe AM) X.xe bI) X.xe s:=by
 refine b8 (ha pins s σ H _ I h) λv s1 Wm=>?_;obtain⟨x,H1,I1,r1,q1⟩:=Wm;refine b8 (hb pins s1 σ H1 _ I1 q1) λu s2 Wn=>?_;obtain⟨y,H2,I2,r2,q2⟩:=Wn;exact hf v u s2 x y H2 I2 r1 r2 q2
theorem Rk(ho:kj X (abp op) r)(ha:PE X a ta)(hb:PE X b tb):PE X (.BinOp a op b pos) (Rj r ta tb):=by intro pins s σ H Q I h;exact wpAny_BinOp (NA ha hb I h λv u s2 x y H2 I2 rx ry q=>ho pins s2 σ H2 x y v u Q I2 rx ry q)
theorem mQ{g:Int->Int->Int}(rule:∀(i j:Int) (t u:Tok) (s:ZR) (Q:Value->ZR->Prop) (E:Value->ZR->Prop),C i j->Q (.int (g i j) s.toks) {s with toks:=s.toks+1}->wpAny (model X.prog X.w) X.A (f (.int i t) (.int j u)) Q E s):
  kj X f (rI C λi j=>.int (g i j)):=by
 intro pins s σ H x y v u Q I rx ry h;obtain⟨i,j,rfl,rfl,hc,q⟩:=h;obtain⟨t,rfl⟩:=rx;obtain⟨t',rfl⟩:=ry;exact rule i j t t' s _ _ hc ⟨.int (g i j),H,I.tok _,⟨_,rfl⟩,q⟩
theorem Hc{g:Int->Int->Int}(rule:∀(i j:Int) (t u:Tok) (s:ZR) (Q:Value->ZR->Prop) (E:Value->ZR->Prop),Q (.int (g i j) s.toks) {s with toks:=s.toks+1}->wpAny (model X.prog X.w) X.A (f (.int i t) (.int j u)) Q E s):
  kj X f (xY λi j=>.int (g i j)):=by
 intro pins s σ H x y v u Q I rx ry h;obtain⟨i,j,rfl,rfl,q⟩:=h;obtain⟨t,rfl⟩:=rx;obtain⟨t',rfl⟩:=ry;exact rule i j t t' s _ _ ⟨.int (g i j),H,I.tok _,⟨_,rfl⟩,q⟩
theorem J3{g:Int->Int->Bool}(rule:∀(i j:Int) (t u:Tok) (s:ZR) (Q:Value->ZR->Prop) (E:Value->ZR->Prop),Q (.bool (g i j)) s->wpAny (model X.prog X.w) X.A (f (.int i t) (.int j u)) Q E s):
  kj X f (xY λi j=>.bl (g i j)):=by
 intro pins s σ H x y v u Q I rx ry h;obtain⟨i,j,rfl,rfl,q⟩:=h;obtain⟨t,rfl⟩:=rx;obtain⟨t',rfl⟩:=ry;exact rule i j t t' s _ _ ⟨.bl (g i j),H,I,rfl,q⟩
def Wo(i j:Int):Prop:=0 < j/\j < 1073741824
noncomputable def J4(i j:Int):Prop:=(-(2 ^ 64) < i/\i < 2 ^ 64)\/(-(2 ^ 64) < j/\j < 2 ^ 64)
theorem J4.ok(h:J4 i j):IntMulOk i j:=by
 rcases h with ⟨h1,h2⟩|⟨h1,h2⟩
 ·exact .of_left (intBits_le_64 h1 h2)
 ·exact .of_right (intBits_le_64 h1 h2)
theorem NB:kj X (abp .Add) (xY λi j=>.int (i+j)):=Hc λ_ _ _ _ _ _ _ q=>add_int q
theorem NC:kj X (abp .Sub) (xY λi j=>.int (i - j)):=Hc λ_ _ _ _ _ _ _ q=>sub_int q
theorem ND:kj X (abp .Mult) (rI J4 λi j=>.int (i*j)):=mQ λ_ _ _ _ _ _ _ hc q=>mul_int q hc.ok
theorem UJ:kj X (abp .FloorDiv) (rI Wo λi j=>.int (i / j)):=mQ λi j _ _ _ _ _ hc q=>by have h1:(0:Int) < j:=hc.1;have h2:j < 1073741824:=hc.2;exact floordiv_int (by lia) (by rw[Int.fdiv_eq_ediv_of_nonneg i (by lia)];exact q) (.inl (PyProof.noPylong_small (by lia)))
theorem NG:kj X (abp .Mod) (rI (λ_ j=>0 < j) λi j=>.int (i % j)):=mQ λi j _ _ _ _ _ hc q=>by have h1:(0:Int) < j:=hc;exact mod_int' (by lia) (by rw[Int.fmod_eq_emod_of_nonneg i (by lia)];exact q)
theorem NH:kj X (abp .BitAnd) (xY λi j=>.int (aex i j)):=Hc λ_ _ _ _ _ _ _ q=>and_int q
theorem Rl:kj X (abp .BitOr) (xY λi j=>.int (aeH i j)):=Hc λ_ _ _ _ _ _ _ q=>or_int q
theorem NI:kj X (abp .BitXor) (xY λi j=>.int (aew i j)):=Hc λ_ _ _ _ _ _ _ q=>xor_int q
end
section
variable{X:Cx}{a b c:Expr}{ta tb tc:TE}{pos:Pos}
theorem Rm:kj X (aaQ .Lt) (xY λi j=>.bl (decide (i < j))):=J3 λ_ _ _ _ _ _ _ q=>lt_int q
theorem Rn:kj X (aaQ .LtE) (xY λi j=>.bl (decide (i<=j))):=J3 λ_ _ _ _ _ _ _ q=>le_int q
theorem Ro:kj X (aaQ .Gt) (xY λi j=>.bl (decide (j < i))):=J3 λ_ _ _ _ _ _ _ q=>gt_int q
theorem Rp:kj X (aaQ .GtE) (xY λi j=>.bl (decide (j<=i))):=J3 λ_ _ _ _ _ _ _ q=>ge_int q
theorem kj.or(h:kj X f r)(h':kj X f r'):kj X f (λx y H Q=>r x y H Q\/r' x y H Q):=by
 intro pins s σ H x y v u Q I rx ry q;rcases q with q|q;·exact h pins s σ H x y v u Q I rx ry q
 ·exact h' pins s σ H x y v u Q I rx ry q
theorem J5(ho:kj X (aaQ op) r)(ha:PE X a ta)(hb:PE X b tb)(hm:aeG op b=Ξ):PE X (.Compare a [op] [b] pos) (Rj r ta tb):=by intro pins s σ H Q I h;exact wpAny_Compare1 (NA ha hb I h λv u s2 x y H2 I2 rx ry q=>ho pins s2 σ H2 x y v u Q I2 rx ry q) hm
noncomputable def Mw(t:TE):TT:=λσ H Q=>t σ H λx H'=>∃k,x=.bl k/\Q k H'
theorem J6(ho:kj X (aaQ op) r)(ha:PE X a ta)(hb:PE X b tb)(hm:aeG op b=Ξ):PT X (.Compare a [op] [b] pos) (Mw (Rj r ta tb)):=by intro pins s σ H Q I h;refine wpAny_isTrue_Compare1 (b8 (ha pins s σ H _ I h) λv s1 ⟨x,H1,I1,r1,q1⟩=>b8 (hb pins s1 σ H1 _ I1 q1) λu s2 ⟨y,H2,I2,r2,q2⟩=>b8 (ho pins s2 σ H2 x y v u _ I2 r1 r2 q2) λc s3 Wp=>?_) hm;obtain⟨z,H3,I3,r3,k,e,q3⟩:=Wp;subst e;obtain rfl:=r3;exact abh ⟨H3,I3,q3⟩
noncomputable def CU(r r':R2)(ta tb tc:TE):TE:=λσ H Q=>ta σ H λx H1=>tb σ H1 λy H2=>r x y H2 λz H3=>∃k,z=.bl k/\
 (if k=Λ then tc σ H3 λw' H4=>r' y w' H4 Q else Q (.bl Ξ) H3)
theorem Hd(ho:kj X (aaQ op) r)(qx:kj X (aaQ Rq) r')(ha:PE X a ta)(hb:PE X b tb)(hc:PE X c tc)(hm:lastMarks [op,Rq] [b,c]=Ξ:=by with_unfolding_all rfl):PE X (.Compare a [op,Rq] [b,c] pos) (CU r r' ta tb tc):=by intro pins s σ H Q I h;refine Compare_chain (b8 (ha pins s σ H _ I h) λv s1 ⟨x,H1,I1,r1,q1⟩=>chain_link (b8 (hb pins s1 σ H1 _ I1 q1) λu s2 ⟨y,H2,I2,r2,q2⟩=>b8 (ho pins s2 σ H2 x y v u _ I2 r1 r2 q2) λd s3 Wq=>?_)) hm;obtain⟨z,H3,I3,r3,k,e,q3⟩:=Wq;subst e;obtain rfl:=r3;refine abh ?_;cases k with|false=>exact ite_ff ⟨.bl Ξ,H3,I3,rfl,q3⟩|true=>exact ite_tt (chain_last (b8 (hc pins s3 σ H3 _ I3 q3) λw' s4 ⟨z',H4,I4,r4,q4⟩=>qx pins s4 σ H4 y z' u w' Q I4 r2 r4 q4))
theorem He(ho:kj X (aaQ op) r)(qx:kj X (aaQ Rq) r')(ha:PE X a ta)(hb:PE X b tb)(hc:PE X c tc)(hm:lastMarks [op,Rq] [b,c]=Ξ:=by with_unfolding_all rfl):PT X (.Compare a [op,Rq] [b,c] pos) (Mw (CU r r' ta tb tc)):=by intro pins s σ H Q I h;refine isTrue_chain (b8 (ha pins s σ H _ I h) λv s1 ⟨x,H1,I1,r1,q1⟩=>test_link (b8 (hb pins s1 σ H1 _ I1 q1) λu s2 ⟨y,H2,I2,r2,q2⟩=>b8 (ho pins s2 σ H2 x y v u _ I2 r1 r2 q2) λd s3 Wr=>?_)) hm;obtain⟨z,H3,I3,r3,k,e,q3⟩:=Wr;subst e;obtain rfl:=r3;refine abh ?_;cases k with|false=>obtain⟨k',e',q'⟩:=q3;cases e';exact ite_ff ⟨H3,I3,q'⟩|true=>refine ite_tt (test_last (b8 (hc pins s3 σ H3 _ I3 q3) λw' s4 ⟨z',H4,I4,r4,q4⟩=>b8 (qx pins s4 σ H4 y z' u w' _ I4 r2 r4 q4) λd' s5 Wu=>?_));obtain⟨z2,H5,I5,r5,k2,e2,q5⟩:=Wu;subst e2;obtain rfl:=r5;exact abh ⟨H5,I5,q5⟩
def Fi(K:ZE)(x:V)(H:Hp)(k:Bool):Prop:=
 match x with|.bG=>k=Ξ|.bl b=>k=b|.int i=>k=(i !=0)|.str y=>y.length<=Z3/\k=((y.length:Int)!=0)|.Qw y=>y.size<=Z3/\k=((y.size:Int)!=0)|.ref p=>(∃xs,nz K H p xs/\k=!xs.isEmpty)\/(∃xs,g7 K H p xs/\k=!xs.isEmpty)\/∃kvs,H p=Δ (.dK kvs)/\k=!kvs.isEmpty|_=>False
theorem CV(r:KV kvs vs):(!vs.isEmpty)=!kvs.isEmpty:=by cases r<;>rfl
theorem uN(r:aY xs its):(!its.toArray.isEmpty)=!xs.isEmpty:=by cases r<;>simp
theorem qA:(Z3:Nat) < 2 ^ 63:=by rw[aa2];decide
theorem Hf:Wl X (λx H Q=>∃k,Fi X.K x H k/\Q k H):=by
 intro pins s σ H x v Q I rx h;obtain⟨k,e,q⟩:=h;have hl:=qA;have hs:Z3=16777216:=aa2;cases x with
 |bG=>obtain rfl:=rx;have e':k=Ξ:=e;subst e';exact truthy_none ⟨H,I,q⟩|bl b=>obtain rfl:=rx;have e':k=b:=e;subst e';exact abh ⟨H,I,q⟩|int i=>obtain⟨t,rfl⟩:=rx;have e':k=(i !=0):=e;subst e';exact PySem.P.truthy_int ⟨H,I,q⟩|str y=>obtain⟨t,rfl⟩:=rx;obtain⟨hy,e'⟩:y.length<=Z3/\k=((y.length:Int)!=0):=e;subst e';exact PySem.P.truthy_str (by lia) ⟨H,I.tok _,q⟩|Qw y=>obtain⟨t,rfl⟩:=rx;obtain⟨hy,e'⟩:y.size<=Z3/\k=((y.size:Int)!=0):=e;subst e';exact PySem.W.truthy_bytes (by lia) ⟨H,I.tok _,q⟩|ref p=>
  obtain rfl:=rx;have e':(∃xs,nz X.K H p xs/\k=!xs.isEmpty)\/(∃xs,g7 X.K H p xs/\k=!xs.isEmpty)\/∃kvs,H p=Δ (.dK kvs)/\k=!kvs.isEmpty:=e;rcases e' with ⟨xs,hx,e'⟩|⟨xs,hx,e'⟩|⟨kvs,hx,e'⟩
  ·subst e';refine aB (λits r pl hz=>?_) (I.list hx);have hlen:=r.length;exact wpAny_truthy_list pl.isList (by simp only[ZQ];lia) ⟨H,I.tok _,by rw[uN r];exact q⟩
  ·subst e';refine aB (λits r pl hz=>?_) (I.tuple hx);have hlen:=r.length;exact truthy_tuple pl (by simp only[ZQ];lia) ⟨H,I.tok _,by rw[uN r];exact q⟩
  ·subst e';obtain⟨hz,hS,vs,r,m⟩:kvs.length<=Z3/\(p==abi)=Ξ/\∃vs,KV kvs vs/\s.heap.DictOf (bh X.prog X.w) p vs:=I.aN p _ hx;have hlen:kvs.length=vs.length:=ad0 r;exact wpAny_truthy_dict hS m (by lia) ⟨H,I.tok _,by rw[CV r];exact q⟩
 |_=>exact(show False from e).elim
theorem Hg(ha:PE X a ta)(he:∀whole,aeW a X.env whole=(do let v<-whole;aee a.pos;aey [v] (truthy v))):
  PT X a (λσ H Q=>ta σ H λx H'=>∃k,Fi X.K x H' k/\Q k H'):=by
 intro pins s σ H Q I h;exact isTrue_plain (b8 (ha pins s σ H _ I h) λv s1 ⟨x,H1,I1,r1,q1⟩=>Hf pins s1 σ H1 x v Q I1 r1 q1) (he _)
theorem CW:kj X (abp .Add) (λx y H Q=>∃i j,x=.str i/\y=.str j/\i.length+j.length<=Z3/\Q (.str (i++j)) H):=by intro pins s σ H x y v u Q I rx ry h;obtain⟨i,j,rfl,rfl,hz,q⟩:=h;obtain⟨t,rfl⟩:=rx;obtain⟨t',rfl⟩:=ry;exact add_str (λt' tk=>⟨.str (i++j),H,I.tok _,⟨_,rfl⟩,q⟩) hz
theorem vals1(r:aY [x] us):∃u,us=[u]/\RelV x u:=by cases r with|cons r1 r2=>cases r2;exact⟨_,rfl,r1⟩
theorem vals2(r:aY [x,y] us):∃u w',us=[u,w']/\RelV x u/\RelV y w':=by cases r with|cons r1 r2=>cases r2 with|cons r3 r4=>cases r4;exact⟨_,_,rfl,r1,r3⟩
end
structure CY(h:Heap)(x dx C:Addr)(mA:Str->Option Value):Prop where
 obj:h.get? x=Δ (abE C dx)
 ns:h.Ns1 dx mA
 ne:dx≠x
theorem Fj{h:Heap}(n:h.Ns1 dx mA):∃od,h.get? dx=Δ od/\∀name,adJ name od=Δ (mA name):=by
 revert n;refine qu λo es ep ho hd hk _ hm=>?_;refine⟨o,ho,λname=>?_⟩;have e:=hm name;unfold nsFind findBy at e;rw[<-Array.find?_toList] at e;unfold adJ;rw[hd];dsimp only;split;·rename_i y q;rw[q] at e;exact congrArg Δ e
 ·rename_i q;rw[q] at e;have a:es.toList.any (·.refKey)=Ξ:=by rw[adT];intro y hy;obtain⟨z,t,Wv⟩:=hk y (Array.mem_toList_iff.mp hy);simp[DictEntry.refKey,Wv]
  have a':¬es.toList.any (·.refKey)=Λ:=by rw[a];exact aat
  rw[if_neg a'];exact congrArg Δ e
theorem CY.look(I:CY h x dx C mA):∃od,PySem.W.InstAt h x (abE C dx) C (Δ od)/\∀name,adJ name od=Δ (mA name):=
 let ⟨od,ho,hl⟩:=Fj I.ns
 ⟨od,⟨I.obj,rfl,rfl,ho⟩,hl⟩
section
variable{prog:aav}{w:World}{A:aaZ}{E:Value->ZR->Prop}{s:ZR}{K:ZE}{x dx C f:Addr}{mA:Str->Option Value}{name:Str}{v:Value}
theorem get_map(X:K.In s.heap)(I:CY s.heap x dx C mA)(hg:acD K C name=Λ)(hh:ac4 K C=Λ)(ha:aak K (.ref C) name=Δ Θ)(hv:mA name=Δ v)(UK:PySem.W.handedIn v=Λ)(h:Q v {s with toks:=s.toks+1}):
  wpAny (model prog w) A (getAttr (.ref x) name expr) Q E s:=by
 obtain⟨od,J,hl⟩:=I.look;exact PySem.W.get_value X J (adD hg).1 (PySem.W.findObj_own hh ha rfl (by rw[hl,hv])) UK h
theorem Hh(X:K.In s.heap)(I:CY s.heap x dx C mA)(hg:acD K C name=Λ)(hf:aak K (.ref C) name=Δ (Δ (.ref f)))(ht:acn K (.ref f)=Λ)(hv:mA name=Θ)(h:Q (.ref f,[.ref x]) s):
  wpAny (model prog w) A (ad5 (.ref x) name pl) Q E s:=by
 obtain⟨od,J,hl⟩:=I.look;exact PySem.W.method_fn X J (adD hg).1 (adD hg).2 hf (beq_iff_eq.mp ht) (by show(adJ name od).map (·.isSome)=Δ Ξ;rw[hl,hv];rfl) h
theorem J7(X:K.In s.heap)(I:CY s.heap x dx C mA)(hs:aak K (.ref C) "__setattr__"=Δ (Δ (.builtin "object.__setattr__")))(hp:adO K C=Λ)(ht:ael K C name=Δ Θ)(hh:ac4 K C=Λ)(hw:aeO mA ns)(hsz:ns.length<=Z3)(h:∀h',CY h' x dx C (λy=>if y=name then Δ v else mA y)->ab9 dx s.heap h'->Q () {s with heap:=h',toks:=s.toks+2}):
  wpAny (model prog w) A (setAttr (.ref x) name v) Q E s:=by
 obtain⟨od,J,hl⟩:=I.look;refine PySem.W.set_plain X J hs (PySem.W.osa_open (s:={s with toks:=s.toks+1}) (r:=Θ) X J hp ht λb=>?_);obtain⟨cd,hc,JI⟩:=PySem.W.any_some hh;have hx:s.heap.get? x=Δ ⟨.ref C,Δ dx,.plain,#[]⟩:=I.obj;refine Zv (ZT (Zv (Zv (wpAny_loadPart hx (Zv (PySem.W.Looks.here (s:={s with toks:=s.toks+1}) (PySem.W.looks_clsIn X hc) ?_))))));rw[JI];refine ZT (a:=Δ dx) (Zv (ZT (Zv ?_)));refine wpAny_nsSet1 (s:={s with toks:=s.toks+1}) I.ns λh' UL xX=>?_;refine cD (λoD esD epD hoD hdD hcD=>?_) (UL.count (aeO.cons name v hw));refine Zv (wpAny_lookBehind hoD (by rw[hdD];exact pastItsLine_dict (aap hcD (by rw[ZS];lia))) ?_);exact ZT (h _ ⟨(xX.2 _ (aaw I.ne)).trans I.obj,UL,I.ne⟩ xX)
theorem Hi(X:K.In s.heap)(hm:aem K C=Λ)(hi:aak K (.ref C) "__init__"=Δ (Δ (.ref f)))(hf:PySem.W.typeIn K (.ref f)=Δ (.type "function"))(h:adt (model prog w) (A.under (.builtin "type.__call__" ⟨.ref C::vs,kw⟩)) (.call (.ref f) ⟨.ref (s.heap.objs.size+1)::vs,kw⟩) (PySem.W.InitBack (s.heap.objs.size+1) R)
   {s with heap:=(s.heap.push aa3).push (abE C s.heap.objs.size)}):
  adt (model prog w) A (.call (.ref C) ⟨vs,kw⟩) R s:=by
 obtain⟨hh,g,d,t,os⟩:=s;exact PySem.W.make_core (PySem.W.makes_of X hm) (PySem.W.looks_findIn X hi) (λself=>PySem.W.bind_fn X self hf) (.inl rfl) h
end
noncomputable def kO(f:Str)(v:V):List (Str×V)->List (Str×V)
 |[]=>[(f,v)]|(g,x)::r=>if g=f then(g,v)::r else(g,x)::kO f v r
theorem si f g v:∀fs:List (Str×V),(kO f v fs).lookup g=if g=f then Δ v else fs.lookup g
 |[]=>by
  show abc g [(f,v)]=_;by_cases h:g=f;·have hb:(g==f)=Λ:=beq_iff_eq.mpr h;simp only[abc,hb,if_pos h]
  ·have hb:(g==f)=Ξ:=beq_eq_false_iff_ne.mpr h;simp only[abc,hb,if_neg h]
 |(k,x)::r=>by
  have ih:=si f g v r;rw[show kO f v ((k,x)::r)=(if k=f then(k,v)::r else(k,x)::kO f v r) from rfl];by_cases hk:k=f
  ·rw[if_pos hk];by_cases h:g=k;·have hb:(g==k)=Λ:=beq_iff_eq.mpr h;simp only[abc,hb,if_pos (h.trans hk)]
   ·have hb:(g==k)=Ξ:=beq_eq_false_iff_ne.mpr h;simp only[abc,hb,if_neg (λe:g=f=>h (e.trans hk.symm))]
  ·rw[if_neg hk];by_cases h:g=k;·have hb:(g==k)=Λ:=beq_iff_eq.mpr h;simp only[abc,hb,if_neg (λe:g=f=>hk (h.symm.trans e))]
   ·have hb:(g==k)=Ξ:=beq_eq_false_iff_ne.mpr h;simp only[abc,hb];exact ih
theorem qB f v:∀fs:List (Str×V),f∈(kO f v fs).map (·.1)/\∀g,g∈fs.map (·.1)->g∈(kO f v fs).map (·.1)
 |[]=>⟨by simp[kO],λg h=>by simp at h⟩|(k,x)::r=>by
  obtain⟨i1,i2⟩:=qB f v r;rw[show kO f v ((k,x)::r)=(if k=f then(k,v)::r else(k,x)::kO f v r) from rfl];by_cases hk:k=f;·rw[if_pos hk];subst hk;exact⟨by simp,λg h=>by simpa using h⟩
  ·rw[if_neg hk];refine⟨?_,λg h=>?_⟩;·rw[ZH];exact Zs _ i1
   ·rw[ZH] at h ⊢;rcases abM.mp h with e|e;·exact abM.mpr (.inl e)
    ·exact Zs _ (i2 g e)
theorem sk f v:∀fs:List (Str×V),(kO f v fs).length<=fs.length+1
 |[]=>by simp[kO]|(k,x)::r=>by
  have ih:=sk f v r;rw[show kO f v ((k,x)::r)=(if k=f then(k,v)::r else(k,x)::kO f v r) from rfl];by_cases hk:k=f;·rw[if_pos hk,ZS,ZS];lia
  ·rw[if_neg hk,ZS,ZS];lia
theorem lV.some_of(r:lV (Δ v) o):∃u,o=Δ u/\RelV v u:=by cases o with|none=>exact(show False from r).elim|some u=>exact⟨u,rfl,r⟩
theorem lV.none_of(r:lV Θ o):o=Θ:=by cases o with|none=>rfl|some u=>exact(show False from r).elim
theorem Fm(r:RelV v u):PySem.W.handedIn u=Λ:=by cases v with|bG=>obtain rfl:=show u=abw from r;rfl|bl b=>obtain rfl:=show u=acU b from r;rfl|int i=>obtain⟨t,e⟩:=(show ∃t,u=adp i t from r);subst e;rfl|str x=>obtain⟨t,e⟩:=(show ∃t,u=ado x t from r);subst e;rfl|Qw b=>obtain⟨t,e⟩:=(show ∃t,u=Value.bytes b t from r);subst e;rfl|Ni b=>obtain⟨t,e⟩:=(show ∃t,u=ae0 b t from r);subst e;rfl|ref a=>obtain rfl:=show u=Z7 a from r;rfl|ty n=>obtain rfl:=show u=acm n from r;rfl
section
variable{P:aav}{w:World}{H H':Hp}{h h':Heap}{a C dx:Addr}{fs fs':List (Str×V)}
theorem ui(aN:lW P w H h)(e:H a=Δ (.ins C dx fs)):∃mA,CY h a dx C mA/\(∀f,lV (fs.lookup f) (mA f))/\aeO mA (fs.map (·.1))/\fs.length<=1000/\H dx=Δ (.own a):=by refine cps λgG kG=>?_;obtain⟨d,z,ne,ob,mA,n,r,q⟩:=(show bR P w H h a (.ins C dx fs) from aN a _ e);refine kG ?_;exact⟨mA,⟨ob,n,ne⟩,r,q,z,d⟩
end
structure CG(K:ZE)(C:Addr):Prop where
 pg:acD K C Str.empty=Λ
 hd:ac4 K C=Λ
 po:adO K C=Λ
 sa:aak K (.ref C) "__setattr__"=Δ (Δ (.builtin "object.__setattr__"))
theorem CG.get{K:ZE}(c:CG K C)f:acD K C f=Λ:=c.pg
noncomputable def kP(K:ZE)(C:Addr)(f:Str):Prop:=aak K (.ref C) f=Δ Θ
theorem kP.Rr{K:ZE}(n:kP K C f):ael K C f=Δ Θ:=by unfold ael;rw[show aak K (.ref C) f=Δ Θ from n];rfl
structure CZ(K:ZE)(C:Addr)(m:Str)(f:Addr):Prop where
 at_:aak K (.ref C) m=Δ (Δ (.ref f))
 fn:acn K (.ref f)=Λ
 kp:abS K (.ref f)=Λ
section
variable{X:Cx}{pins:List (Addr×Obj)}{σ:St}{H:Hp}{s:ZR}{a C dx:Addr}{fs:List (Str×V)}{f:Str}{v:V}{A:aaZ}{E:Value->ZR->Prop}
theorem C0(I:Inv X pins σ H s)(e:H a=Δ (.ins C dx fs))(c:CG X.K C)(n:kP X.K C f)(l:fs.lookup f=Δ v)(h:∀u s',Inv X pins σ H s'->RelV v u->Q u s'):wpAny (model X.prog X.w) A (getAttr (.ref a) f b) Q E s:=by refine oT (λmA O r _ _ _=>?_) (ui I.aN e);obtain⟨u,hu,ru⟩:=lV.some_of (v:=v) (o:=mA f) (by rw[<-l];exact r f);exact get_map I.oV O (c.get f) c.hd n hu (Fm ru) (h u _ (I.tok _) ru)
theorem nU(I:Inv X pins σ H s)(e:H a=Δ (.ins C dx fs))(c:CG X.K C)(k:CZ X.K C m g)(l:fs.lookup m=Θ)(h:Q (.ref g,[.ref a]) s):wpAny (model X.prog X.w) A (ad5 (.ref a) m pl) Q E s:=by refine oT (λmA O r _ _ _=>?_) (ui I.aN e);have hn:mA m=Θ:=lV.none_of (by rw[<-l];exact r m);exact Hh I.oV O (c.get m) k.at_ k.fn hn h
theorem C1(I:Inv X pins σ H s)(e:H a=Δ (.ins C dx fs))(c:CG X.K C)(n:kP X.K C f)(hl:fs.length < 1000)(ry:RelV y u)(h:∀s',Inv X pins σ (upd H a (.ins C dx (kO f y fs))) s'->Q () s'):wpAny (model X.prog X.w) A (setAttr (.ref a) f u) Q E s:=by
 refine oT (λmA O r wi _ ho=>?_) (ui I.aN e);have hz:(fs.map (·.1)).length<=Z3:=by rw[ZA,aa2];lia
 refine J7 I.oV O c.sa c.po n.Rr c.hd wi hz λh' O' sb=>h _ ?_;have hd:∃o,h'.get? dx=Δ o:=let ⟨o,_,_,e',_⟩:=O'.ns;⟨o,e'⟩
 refine I.write (x:=a) (e:=dx) (by rw[e];exact aa0) (.inr ho) (λb q hb z=>(sb.2 b hb).trans z) hd ?_;refine⟨by rw[av O.ne];exact ho,?_,O.ne,O'.obj,_,O'.ns,λg=>?_,λg hg=>?_⟩;·have:=sk f y fs;lia
 ·show lV ((kO f y fs).lookup g) (if g=f then Δ u else mA g);rw[si];by_cases q:g=f;·rw[if_pos q,if_pos q];exact ry
  ·rw[if_neg q,if_neg q];exact r g
 ·by_cases q:g=f;·rw[q];exact(qB f y fs).1
  ·refine(qB f y fs).2 g (wi g λz=>hg ?_);show(if g=f then Δ u else mA g)=Θ;rw[if_neg q];exact z
theorem Inv.made(I:Inv X pins σ H s):Inv X pins σ (upd (upd H s.heap.objs.size (.own (s.heap.objs.size+1))) (s.heap.objs.size+1) (.ins C s.heap.objs.size []))
  {s with heap:=(s.heap.push aa3).push (abE C s.heap.objs.size)}:=by
 have e1:(s.heap.push aa3).get? s.heap.objs.size=Δ aa3:=ZM s.heap rfl;have e2:((s.heap.push aa3).push (abE C s.heap.objs.size)).get? (s.heap.objs.size+1)=Δ (abE C s.heap.objs.size):=by have:=ZM (s.heap.push aa3) (o:=abE C s.heap.objs.size) rfl;rwa [aaT] at this
 have e3:(s.heap.push aa3).Ns s.heap.objs.size (λ_=>Θ):=⟨aa3,#[],_,e1,rfl,(λe he=>absurd he (by simp)),λ_=>rfl⟩;have I1:=I.laid (a:=s.heap.objs.size) (o:=.own (s.heap.objs.size+1)) (h':=s.heap.push aa3) (t':=s.toks) (λb u q=>Zt _ q) (ZC _) ⟨_,e1⟩;refine I1.laid (a:=s.heap.objs.size+1) (o:=.ins C s.heap.objs.size []) (t':=s.toks) (λb u q=>Zt _ q) (adG (aaT _ _)) ?_;have ne:s.heap.objs.size≠s.heap.objs.size+1:=aaa (abb _);refine⟨by rw[av ne,aG],aaB _,ne,e2,λ_=>Θ,(Heap.Ns1.of_empty e3).at λo q=>Zt _ q,λ_=>aa0,λy hy=>absurd rfl hy⟩
theorem J8(hb:aca e f env (eval e env)=eval e env)(h:wpAny (model prog w) A (eval e env) (λo bI=>wpAny (model prog w) A (getAttr o f Λ) Q E bI) E s):wpAny (model prog w) A (eval (.Attribute e f pos) env) Q E s:=
 Attribute_any_ h (by rw[arm_eval_Attribute,hb])
end
def Ww(K:ZE)(ta:TE)(f:Str):TE:=λσ H Q=>ta σ H λx H1=>∃a C dx fs v,x=.ref a/\H1 a=Δ (.ins C dx fs)/\CG K C/\kP K C f/\fs.lookup f=Δ v/\Q v H1
def Wx(K:ZE)(ta tv:TE)(f:Str):TS:=λD σ H=>tv σ H λy H1=>ta σ H1 λx H2=>∃a C dx fs,x=.ref a/\H2 a=Δ (.ins C dx fs)/\CG K C/\kP K C f/\fs.length < 1000/\
 D.nx σ (upd H2 a (.ins C dx (kO f y fs)))
section
variable{X:Cx}{o e value:Expr}{f:Str}{pos pos' Wy:Pos}{ta tv:TE}
theorem NJ(he:PE X e ta)(hb:aca e f X.env (eval e X.env)=eval e X.env):PE X (.Attribute e f pos) (Ww X.K ta f):=by intro pins s σ H Q I h;refine J8 hb (b8 (he pins s σ H _ I h) λu s1 Wz=>?_);obtain⟨x,H1,I1,rx,a,C,dx,fs,v,ex,ea,c,n,l,q⟩:=Wz;subst ex;obtain rfl:u=Z7 a:=rx;exact C0 I1 ea c n l λu' s2 I2 ru=>⟨v,H1,I2,ru,q⟩
theorem NK(ha:PE X o ta)(hv:PE X value tv)(hs:acB value (Δ (.Attribute o f pos')) pos.line X.env=pure Ξ):PS X (.Assign [.Attribute o f pos'] value pos) (Wx X.K ta tv f):=by intro pins s σ H D I h;refine plainObj_wpAny_Assign_Attribute (b8 (hv pins s σ H _ I h) λu s1 ⟨y,H1,I1,ry,q⟩=>b8 (ha pins s1 σ H1 _ I1 q) λov s2 WA=>?_) hs;obtain⟨x,H2,I2,rx,a,C,dx,fs,ex,ea,c,n,l,q2⟩:=WA;subst ex;obtain rfl:ov=Z7 a:=rx;exact C1 I2 ea c n l ry λs3 I3=>⟨σ,_,I3,q2⟩
theorem Mx(he:PE X e te)(I:Inv X pins σ H s)(h:te σ H λx H1=>∃a C dx fs g,x=.ref a/\H1 a=Δ (.ins C dx fs)/\CG X.K C/\CZ X.K C m g/\fs.lookup m=Θ/\
   ∀s1,Inv X pins σ H1 s1->wpAny (model X.prog X.w) X.A (aeN pos (.ref g) [.ref a] (abC pos (Z9 args X.env)) (adw pos (ack [] X.env))) Q X.xe s1)(ht:eval (.Call (.Attribute e m apos) args [] pos) X.env=(do
   let ov<-eval e X.env
   aee apos.atName
   let (f,first)<-aey [ov] (ad5 ov m pl)
   aeN pos f first (abC pos (Z9 args X.env)) (adw pos (ack [] X.env)))):
  wpAny (model X.prog X.w) X.A (eval (.Call (.Attribute e m apos) args [] pos) X.env) Q X.xe s:=by
 refine adf (pl:=pl) (b8 (he pins s σ H _ I h) λu s1 WB=>?_) ht;obtain⟨x,H1,I1,rx,a,C,dx,fs,g,ex,ea,c,k,l,q⟩:=WB;subst ex;obtain rfl:u=Z7 a:=rx;exact nU I1 ea c k l (q s1 I1)
end
section
variable{X:Cx}{pins:List (Addr×Obj)}{σ:St}{H:Hp}{s:ZR}{A:aaZ}{E:Value->ZR->Prop}{Q:Value->ZR->Prop}{c:Value}{b:Bool}
inductive nW (K:ZE) (H:Hp):V->Value->Prop where
 |bG:nW K H .bG (.type "NoneType")
 |bl (x:Bool):nW K H (.bl x) (.type "bool")
 |int (i:Int):nW K H (.int i) (.type "int")
 |str (x:Str):nW K H (.str x) (.type "str")
 |Ni (x:UInt64):nW K H (.Ni x) (.type "float")
 |lst {a:Addr} {xs:List V} (e:H a=Δ (.lst xs)):nW K H (.ref a) (.type "list")
 |dM {a:Addr} {o:Obj} {xs:List V} (e:H a=Δ (.dM o (.lst xs))):nW K H (.ref a) (.type "list")
 |tup {a:Addr} {xs:List V} (e:H a=Δ (.tup xs)):nW K H (.ref a) (.type "tuple")
 |dK {a:Addr} {kvs:List (Key×V)} (e:H a=Δ (.dK kvs)):nW K H (.ref a) (.type "dict")
 |dT {a:Addr} {kvs:List (List Key×V)} (e:H a=Δ (.dT kvs)):nW K H (.ref a) (.type "dict")
 |ins {a C dx:Addr} {fs:List (Str×V)} (e:H a=Δ (.ins C dx fs)) (cl:CG K C) (ha:aak K (.ref C) "__class__"=Δ (Δ (.builtin "object.__class__")))
   (hn:PySem.W.specialIn K (.builtin "object.__class__") "__get__"=Δ (Δ (.builtin "getset_descriptor.__get__"))) (htk:PySem.W.takesIn K (.builtin "object.__class__")=Δ Λ)
   (hm:PySem.W.mroIn K C (.type "object")=Δ Λ):nW K H (.ref a) (.ref C)
theorem qC(I:Inv X pins σ H s)(rx:RelV x u)(ty:nW X.K H x t)(e:aes X.K t c=Δ b)(h:∀tk,Q (.bool b) {s with toks:=tk}):
  wpAny (model X.prog X.w) A (call (.builtin "isinstance") [u,c]) Q E s:=by
 cases ty with
 |bG=>obtain rfl:=show u=abw from rx;exact aaM PySem.W.kitx_none I.oV aa0 e (λz=>nomatch z) h|bl y=>obtain rfl:=show u=acU y from rx;exact aaM PySem.W.kitx_bool I.oV aa0 e (λz=>nomatch z) h|int i=>obtain⟨t,q⟩:=(show ∃t,u=adp i t from rx);subst q;exact aaM PySem.W.kitx_int I.oV aa0 e (λz=>nomatch z) h|str y=>obtain⟨t,q⟩:=(show ∃t,u=ado y t from rx);subst q;exact aaM PySem.W.kitx_str I.oV aa0 e (λz=>nomatch z) h|Ni y=>obtain⟨t,q⟩:=(show ∃t,u=ae0 y t from rx);subst q;exact aaM PySem.W.kitx_float I.oV aa0 e (λz=>nomatch z) h|@lst a xs ea=>obtain rfl:=show u=Z7 a from rx;refine qt (λ_ _ n _ h1=>?_) ((show bR X.prog X.w H s.heap a (.lst xs) from I.aN a _ ea));exact aaM PySem.W.kitx_list I.oV ⟨_,h1,rfl⟩ e (λz=>nomatch z) h
 |@dM a ob xs ea=>obtain rfl:=show u=Z7 a from rx;obtain⟨_,_,_,n,_,h1⟩:=(show bR X.prog X.w H s.heap a (.dM ob (.lst xs)) from I.aN a _ ea);exact aaM PySem.W.kitx_list I.oV ⟨_,h1,rfl⟩ e (λz=>nomatch z) h|@tup a xs ea=>obtain rfl:=show u=Z7 a from rx;refine uI (λ_ _ _ p=>?_) ((show bR X.prog X.w H s.heap a (.tup xs) from I.aN a _ ea));revert p;refine aB λo h1 h2 _=>?_;exact aaM PySem.W.kitx_tuple I.oV ⟨o,h1,h2⟩ e (λz=>nomatch z) h|@dK a kvs ea=>obtain rfl:=show u=Z7 a from rx;refine du (λ_ _ vs _ p=>?_) ((show bR X.prog X.w H s.heap a (.dK kvs) from I.aN a _ ea));revert p;refine cD λo es ep h1 h2 _=>?_;exact aaM PySem.W.kitx_dict I.oV ⟨o,h1,h2.1⟩ e (λz=>nomatch z) h|@dT a kvs ea=>obtain rfl:=show u=Z7 a from rx;refine hU (λ_ _ xs _ o es ep h1 h2 _=>?_) ((show bR X.prog X.w H s.heap a (.dT kvs) from I.aN a _ ea));exact aaM PySem.W.kitx_dict I.oV ⟨o,h1,h2.1⟩ e (λz=>nomatch z) h|@ins a C dx fs ea cl ha hn htk hm=>obtain rfl:=show u=Z7 a from rx;refine dJ (λmA O _=>?_) (ui I.aN ea);obtain⟨od,J,_⟩:=O.look;exact aaM (PySem.W.kitx_own (cl.get _) cl.hd ha hn htk hm) I.oV J e (λz=>nomatch z) h
end
structure dy(k:Nat)(A:aaZ):Prop where
 hd:A.handled=Θ
 dp:A.depth+3*k+5 < recursionLimit
 un:A.units+16*k+200 < cLine
theorem dy.mono(r:dy k A)(h:j<=k):dy j A:=⟨r.hd,by have:=r.dp;lia,by have:=r.un;lia⟩
theorem dy.deeper(r:dy (k+1) A)env:dy k (A.deeper env):=
 ⟨r.hd,by have:=r.dp;show A.depth+1+3*k+5 < _;lia,by have:=r.un;show A.units+3+16*k+200 < _;lia⟩
theorem C2{A:aaZ}:(A.under (.builtin "type.__call__" ⟨.ref C::us,kw⟩)).depth=A.depth+1:=by first|rfl|simp[aeU,Code.weight,Code.isCreation,Code.isGuard,Code.isCaller,Code.frames,aeT,guardIds]
theorem C3{A:aaZ}:(A.under (.builtin "type.__call__" ⟨.ref C::us,kw⟩)).units=A.units+1:=by first|rfl|simp[aeU,Code.cUnits,Code.frames,aeT]
theorem dy.make(r:dy (k+1) A)C us kw:dy k (A.under (.builtin "type.__call__" ⟨.ref C::us,kw⟩)):=
 ⟨r.hd,by have:=r.dp;rw[C2];lia,by have:=r.un;rw[C3];lia⟩
theorem dy.depth(r:dy k A):A.depth < recursionLimit:=by have:=r.dp;lia
def NL:TA:=λ_ H Q=>Q [] H
def Rt(ta:TE)(tr:TA):TA:=λσ H Q=>ta σ H λx H1=>tr σ H1 λxs H2=>Q (x::xs) H2
section
variable{X:Cx}{e:Expr}{es:List Expr}{te:TE}{t:TA}{pos:Pos}
theorem C4:PA X [] NL:=λ_ _ _ _ H Q I h=>adb ⟨[],H,I,.nil,h⟩
theorem uj(ha:PE X e te)(hr:PA X es t)(hs:Z9 (e::es) X.env=(Ξ,eval e X.env)::Z9 es X.env:=by rfl):PA X (e::es) (Rt te t):=by intro pos pins s σ H Q I h;rw[hs];show wpAny _ _ (spliced ((Ξ,eval e X.env)::abC pos (Z9 es X.env))) _ _ s;refine acp (b8 (ha pins s σ H _ I h) λu s1 WC=>?_);obtain⟨x,H1,I1,r1,q1⟩:=WC;exact b8 (hr pos pins s1 σ H1 _ I1 q1) λus s2 ⟨xs,H2,I2,r2,q2⟩=>⟨x::xs,H2,I2,.cons r1 r2,q2⟩
def WD(t:TA):TE:=λσ H Q=>t σ H λxs H1=>xs.length<=Z3/\∀p,H1 p=Θ->Q (.ref p) (upd H1 p (.tup xs))
def WE(t:TA):TE:=λσ H Q=>t σ H λxs H1=>xs.length<=Z3/\∀p,H1 p=Θ->Q (.ref p) (upd H1 p (.lst xs))
theorem NM{x1}(h:PA X es t):PE X (.Tuple es x1 pos) (WD t):=by intro pins s σ H Q I hq;refine wpAny_Tuple_spliced (b8 (h pos pins s σ H _ I hq) λus s1 ⟨xs,H1,I1,r,z,q⟩=>⟨by rw[<-r.length];exact z,?_⟩);have hf:H1 s1.heap.objs.size=Θ:=I1.aN.fresh (ZC _);refine⟨.ref s1.heap.objs.size,upd H1 s1.heap.objs.size (.tup xs),I1.laid (t':=s1.toks) (λb u e=>Zt _ e) (ZC _) ?_,rfl,q _ hf⟩;exact⟨z,us,r,⟨_,ZM _ rfl,rfl,_,rfl⟩⟩
theorem NN(h:PA X es t):PE X (.List es pos) (WE t):=by intro pins s σ H Q I hq;refine wpAny_List_spliced (b8 (h pos pins s σ H _ I hq) λus s1 ⟨xs,H1,I1,r,z,q⟩=>⟨by rw[<-r.length];exact z,?_⟩);have hf:H1 s1.heap.objs.size=Θ:=I1.aN.fresh (ZC _);refine⟨.ref s1.heap.objs.size,upd H1 s1.heap.objs.size (.lst xs),I1.laid (t':=s1.toks) (λb u e=>Zt _ e) (ZC _) ?_,rfl,q _ hf⟩;exact⟨z,us,0,r,ZM _ rfl⟩
end
abbrev Sp:=List V->Hp->VK->XK->Prop
abbrev JK:=List Env->Hp->ZR->XK->Value->ZR->Prop
structure zl(P:aav)(w:World)(K:ZE)(mg:Str->Option Value)(base:Heap)(A:aaZ)(outer:List Env)(s:ZR)(H:Hp):Prop where
 frames:A.frames=Δ outer
 mod:Mod K mg base
 bs:∀b o,base.get? b=Δ o->s.heap.get? b=Δ o/\H b=Θ
 GL:base.objs.size<=s.heap.objs.size
 nR:s.heap.FunFrames base outer
 JW:∀b∈kI outer,H b=Θ
 aN:lW P w H s.heap
 bare:adV s.gens
def CE(outer:List Env)(P:aav)(w:World)(H:Hp)(s:ZR)(Q:VK)(u:Value)(s':ZR):Prop:=
 ∃v H',s'.os=s.os/\adV s'.gens/\Un (kI outer) [] H H' s.heap s'.heap/\lW P w H' s'.heap/\RelV v u/\Q v H'
def CR(CX:JK)(outer:List Env)(P:aav)(w:World)(H:Hp)(s:ZR)(Q:VK)(E:XK)(r:Result)(s':ZR):Prop:=
 match r with|.ok (.ret u)=>CE outer P w H s Q u s'|.ok _=>False|.error e=>CX outer H s E e s'
structure iy(P:aav)(w:World)(K:ZE)(mg:Str->Option Value)(base:Heap)(CX:JK)(k:Nat)(f:Addr)(fd:abt)(ps:List Str)(sp:Sp):Prop where
 len:∀vs H Q E,sp vs H Q E->vs.length=ps.length
 run:∀(A:aaZ) (outer:List Env) (s:ZR) (H:Hp) (args:Args) (us:List Value) (vs:List V) (Q:VK) (E:XK),dy k A->zl P w K mg base A outer s H->aei s fd args (ps.zip us)->aY vs us->sp vs H Q E->
  adt (model P w) A (.call (.ref f) args) (CR CX outer P w H s Q E) s
theorem zl.make{K:ZE}(e:zl P w K mg base A outer s H)C us kw:
  zl P w K mg base (A.under (.builtin "type.__call__" ⟨.ref C::us,kw⟩)) outer s H:=⟨by first|exact e.frames|(simpa[aeU,Code.envs,aeT,pushEnvs] using e.frames),e.mod,e.bs,e.GL,e.nR,e.JW,e.aN,e.bare⟩
section
variable{X:Cx}{pins:List (Addr×Obj)}{σ:St}{H:Hp}{s s':ZR}
theorem Inv.Ru(I:Inv X pins σ H s):zl X.prog X.w X.K X.mg X.base X.A X.stack s H:=
 ⟨I.ok.frames,I.ok.mod,I.bs,aap I.ok.GL I.sz,I.stack,I.oW,I.aN,I.bare⟩
theorem Inv.after(I:Inv X pins σ H s)(h:CE X.stack X.prog X.w H s Q u s'):EP X pins σ Q u s':=by obtain⟨v,H',os,bare,un,aN,r,q⟩:=h;obtain⟨hh,g,d,t,os'⟩:=s';obtain rfl:os'=s.os:=os;exact⟨v,H',I.call (h':=hh) (g':=g) (d':=d) (t':=t) (ch:=[]) un aN bare (λb z=>absurd z (by simp)),r,q⟩
end
noncomputable def Hj(sp:Sp)(dvs:List V)(E:XK)(t:TA):TE:=λσ H Q=>t σ H λvs H1=>sp (vs++dvs) H1 Q E
noncomputable def Ed(C:Addr)(m:Str)(sp:Sp)(dvs:List V)(E:XK)(ta:TE)(t:TA):TE:=λσ H Q=>ta σ H λx H1=>∃a dx fs,x=.ref a/\H1 a=Δ (.ins C dx fs)/\fs.lookup m=Θ/\
 t σ H1 λvs H2=>sp (x::(vs++dvs)) H2 Q E
def Rv(C:Addr)(sp:Sp)(dvs:List V)(E:XK)(t:TA):TE:=λσ H Q=>t σ H λvs H1=>∀x dx,H1 x=Θ->H1 dx=Θ->dx≠x->
 sp (.ref x::(vs++dvs)) (upd (upd H1 dx (.own x)) x (.ins C dx [])) (λv H2=>v=.bG/\Q (.ref x) H2) E
noncomputable def Binds(K:ZE)(fd:abt)(ps:List Str)(ds:List Value):Prop:=
 ∀(s:ZR) (us:List Value),K.In s.heap->(us++ds).length=ps.length->aei s fd ⟨us,[]⟩ (ps.zip (us++ds))
theorem Binds.all{K:ZE}(h:∀us:List Value,us.length=ps.length->ae6 fd ⟨us,[]⟩=pure (ps.zip us)):Binds K fd ps []:=λs us _ hl=>by rw[aau] at hl ⊢;exact .of_eq (h us hl)
noncomputable def lZ(CX:JK)(X:Cx)(E:XK):Prop:=∀(pins:List (Addr×Obj)) (σ:St) (H:Hp) (s:ZR) (e:Value) (s':ZR),Inv X pins σ H s->CX X.stack H s E e s'->X.xe e s'
section
variable{X:Cx}{CX:JK}{k:Nat}{f C:Addr}{fd:abt}{ps:List Str}{sp:Sp}{dvs:List V}{ds:List Value}{E:XK}{x m:Str}{p pos apos:Pos}{e o:Expr}{es:List Expr}{ta:TE}{t:TA}
theorem uO(F:iy X.prog X.w X.K X.mg X.base CX k f fd ps sp)(hr:dy k X.A)(hb:Binds X.K fd ps ds)(hd:aY dvs ds)(hx:lZ CX X E)(I:Inv X pins σ H s)(r:aY vs us)(h:sp (vs++dvs) H Q E):wpAny (model X.prog X.w) X.A (call (.ref f) us) (EP X pins σ Q) X.xe s:=by
 have r2:aY (vs++dvs) (us++ds):=r.append hd;have hl:(us++ds).length=ps.length:=by rw[<-r2.length];exact F.len _ _ _ _ h
 refine ae3 (adE (F.run X.A X.stack s H ⟨us,[]⟩ (us++ds) (vs++dvs) Q E hr I.Ru (hb s us I.oV hl) r2 h) λr s' hq=>?_);cases r with|error e=>exact hx pins σ H s e s' I hq|ok fl=>cases fl with|ret u=>exact I.after hq|next=>exact aaL hq|brk=>exact aaL hq|cont=>exact aaL hq
theorem J9(F:iy X.prog X.w X.K X.mg X.base CX k f fd ps sp)(hr:dy k X.A)(hg:Gl X x)(hm:X.mg x=Δ (.ref f))(hk:abS X.K (.ref f)=Λ)(hb:Binds X.K fd ps ds)(hd:aY dvs ds)(hx:lZ CX X E)
  (ha:PA X (e::es) t) (Ka:(x==("__debug__":Str))=Ξ:=by decide) (he:Z9 (e::es) X.env=(Ξ,eval e X.env)::Z9 es X.env:=by rfl) (Ax:(abC pos (Z9 es X.env)).any (·.1)=Ξ:=by rfl):
  PE X (.Call (.Name x p) (e::es) [] pos) (Hj sp dvs E t):=by
 intro pins s σ H Q I h;refine aaR (oZ I hg hm ?_ Ka);refine acV (h₀:=X.base) I.ok.mod.Nl hk (b8 (ha pos pins s σ H _ I h) λus s1 ⟨vs,H1,I1,r,q⟩=>⟨I1.oV,?_⟩) he Ax;exact uO F hr hb hd hx I1 r q
theorem Hk(F:iy X.prog X.w X.K X.mg X.base CX k f fd ps sp)(hr:dy k X.A)(hg:Gl X x)(hm:X.mg x=Δ (.ref f))(hk:abS X.K (.ref f)=Λ)(hb:Binds X.K fd ps ds)(hd:aY dvs ds)(hx:lZ CX X E)
  (Ka:(x==("__debug__":Str))=Ξ:=by decide):PE X (.Call (.Name x p) [] [] pos) (Hj sp dvs E NL):=by
 intro pins s σ H Q I h;refine aaR (oZ I hg hm ?_ Ka);exact PySem.W.callWith_K0 I.oV hk (uO (us:=[]) F hr hb hd hx I .nil h)
theorem Kb(he:PE X o ta)(c:CG X.K C)(hm:CZ X.K C m f)(F:iy X.prog X.w X.K X.mg X.base CX k f fd ps sp)(hr:dy k X.A)(hb:Binds X.K fd ps ds)(hd:aY dvs ds)(hx:lZ CX X E)(ha:PA X (e::es) t)(sf:Z9 (e::es) X.env=(Ξ,eval e X.env)::Z9 es X.env:=by rfl)(Ax:(abC pos (Z9 es X.env)).any (·.1)=Ξ:=by rfl)(ht:eval (.Call (.Attribute o m apos) (e::es) [] pos) X.env=(do
   let ov<-eval o X.env
   aee apos.atName
   let (f,first)<-aey [ov] (ad5 ov m pl)
   aeN pos f first (abC pos (Z9 (e::es) X.env)) (adw pos (ack [] X.env))):=by rfl):
  PE X (.Call (.Attribute o m apos) (e::es) [] pos) (Ed C m sp dvs E ta t):=by
 intro pins s σ H Q I h;refine adf (pl:=pl) (b8 (he pins s σ H _ I h) λu s1 WG=>?_) ht;obtain⟨x,H1,I1,rx,a,dx,fs,ex,ea,l,q⟩:=WG;subst ex;obtain rfl:u=Z7 a:=rx;refine nU I1 ea c hm l ?_;refine acV (first:=[.ref a]) (h₀:=X.base) I.ok.mod.Nl hm.kp (b8 (ha pos pins s1 σ H1 _ I1 q) λus s2 ⟨vs,H2,I2,r,q2⟩=>⟨I2.oV,?_⟩) sf Ax;exact uO (us:=.ref a::us) (vs:=.ref a::vs) F hr hb hd hx I2 (.cons rfl r) q2
theorem Hl(he:PE X o ta)(c:CG X.K C)(hm:CZ X.K C m f)(F:iy X.prog X.w X.K X.mg X.base CX k f fd ps sp)(hr:dy k X.A)(hb:Binds X.K fd ps ds)(hd:aY dvs ds)(hx:lZ CX X E)(ht:eval (.Call (.Attribute o m apos) [] [] pos) X.env=(do
   let ov<-eval o X.env
   aee apos.atName
   let (f,first)<-aey [ov] (ad5 ov m pl)
   aeN pos f first (abC pos (Z9 [] X.env)) (adw pos (ack [] X.env))):=by rfl):
  PE X (.Call (.Attribute o m apos) [] [] pos) (Ed C m sp dvs E ta NL):=by
 intro pins s σ H Q I h;refine adf (pl:=pl) (b8 (he pins s σ H _ I h) λu s1 WH=>?_) ht;obtain⟨x,H1,I1,rx,a,dx,fs,ex,ea,l,q⟩:=WH;subst ex;obtain rfl:u=Z7 a:=rx;refine nU I1 ea c hm l ?_;exact PySem.W.callWith_K0 (first:=[.ref a]) I1.oV hm.kp (uO (us:=[.ref a]) (vs:=[.ref a]) F hr hb hd hx I1 (.cons rfl .nil) q)
structure Mk(K:ZE)(C f:Addr):Prop where
 makes:aem K C=Λ
 init:aak K (.ref C) "__init__"=Δ (Δ (.ref f))
 fn:acn K (.ref f)=Λ
 kp:abS K (.ref C)=Λ
theorem Hm(M:Mk X.K C f)(F:iy X.prog X.w X.K X.mg X.base CX k f fd ps sp)(hr:dy (k+1) X.A)(hb:Binds X.K fd ps ds)(hd:aY dvs ds)(hx:lZ CX X E)(I:Inv X pins σ H s)(r:aY vs us)(h:∀x dx,H x=Θ->H dx=Θ->dx≠x->sp (.ref x::(vs++dvs)) (upd (upd H dx (.own x)) x (.ins C dx [])) (λv H2=>v=.bG/\Q (.ref x) H2) E):
  wpAny (model X.prog X.w) X.A (call (.ref C) us) (EP X pins σ Q) X.xe s:=by
 have hq:=h (s.heap.objs.size+1) s.heap.objs.size (I.aN.fresh (abn _)) (I.aN.fresh (ZC _)) (aaa (abb _));have I2:=Inv.made (C:=C) I;have r2:aY (V.ref (s.heap.objs.size+1)::(vs++dvs)) (Z7 (s.heap.objs.size+1)::(us++ds)):=.cons rfl (r.append hd);have hl:(Z7 (s.heap.objs.size+1)::us++ds).length=ps.length:=by have e:=r2.length;rw[F.len _ _ _ _ hq] at e;exact e.symm
 refine ae3 (Hi (f:=f) I.oV M.makes M.init (beq_iff_eq.mp M.fn) (adE (F.run _ X.stack _ _ ⟨Z7 (s.heap.objs.size+1)::us,[]⟩ (Z7 (s.heap.objs.size+1)::(us++ds)) _ _ E (hr.make C us [])
  (I2.Ru.make C us []) (hb _ (Z7 (s.heap.objs.size+1)::us) I2.oV hl) r2 hq) λr s' xZ=>?_))
 cases r with|error e=>exact hx pins σ _ _ e s' I2 xZ|ok fl=>cases fl with|ret u=>obtain⟨v,H',I3,rv,ev,q3⟩:=I2.after xZ;subst ev;exact⟨rv,⟨V.ref (s.heap.objs.size+1),H',I3,rfl,q3⟩⟩|next=>exact aaL xZ|brk=>exact aaL xZ|cont=>exact aaL xZ
theorem Kc(M:Mk X.K C f)(F:iy X.prog X.w X.K X.mg X.base CX k f fd ps sp)(hr:dy (k+1) X.A)(hg:Gl X x)(hm:X.mg x=Δ (.ref C))(hb:Binds X.K fd ps ds)(hd:aY dvs ds)(hx:lZ CX X E)
  (ha:PA X (e::es) t) (Ka:(x==("__debug__":Str))=Ξ:=by decide) (he:Z9 (e::es) X.env=(Ξ,eval e X.env)::Z9 es X.env:=by rfl) (Ax:(abC pos (Z9 es X.env)).any (·.1)=Ξ:=by rfl):
  PE X (.Call (.Name x p) (e::es) [] pos) (Rv C sp dvs E t):=by
 intro pins s σ H Q I h;refine aaR (oZ I hg hm ?_ Ka);refine acV (h₀:=X.base) I.ok.mod.Nl M.kp (b8 (ha pos pins s σ H _ I h) λus s1 ⟨vs,H1,I1,r,q⟩=>⟨I1.oV,?_⟩) he Ax;exact Hm M F hr hb hd hx I1 r q
end
section
variable{X:Cx}{CX:JK}{k:Nat}{f C:Addr}{fd:abt}{ps ks:List Str}{sp:Sp}{E:XK}{x m:Str}{p pos apos kpos:Pos}{e o:Expr}{es:List Expr}{jZ:List adU}{te ta:TE}{t tk:TA}{nm:Option Str}
variable{g:List Value->List Value->List Value}{gV:List V->List V->List V}
end
structure bb(N P:List Str)(sc:Scope):Prop where
 kind:sc.kind=.function
 co:sc.isCoroutine=Ξ
 gen:sc.isGenerator=Ξ
 nd:N.Nodup
 pre:N.take P.length=P
 par:∀x∈P,sc.names.lookup x=Δ .local\/sc.names.lookup x=Δ .cell
 NO:∀y∈sc.names,y.2≠.free
theorem ya{adn:Str->Option ab5}:∀{binds} {m},(∀v,(x,v)∉binds)->bindL adn binds m x=m x
 |[],_,_=>rfl|(n,v)::r,m,h=>by
  unfold bindL;rw[ya λw hw=>h w (Zs _ hw)];split
  ·have:x≠n:=by rintro rfl;exact h v Zx
   simp[this]
  ·rfl
theorem yb{adn:Str->Option ab5}:∀{binds} {m},(∀v,(x,v)∉binds)->bindC adn binds m x=m x
 |[],_,_=>rfl|(n,v)::r,m,h=>by
  unfold bindC;rw[yb λw hw=>h w (Zs _ hw)];split;·rfl
  ·have:x≠n:=by rintro rfl;exact h v Zx
   simp[this]
theorem yc{adn:Str->Option ab5}:∀{P:List Str} {vs} {i:Nat} {m},P.Nodup->P[i]?=Δ x->vs[i]?=Δ v->adn x=Δ .local->
  bindL adn (P.zip vs) m x=Δ v
 |[],_,_,_,_,h,_,_=>by simp at h|_::_,[],_,_,_,_,h,_=>by simp at h|p::P,w::vs,0,m,nd,h1,h2,hk=>by simp at h1 h2;subst h1;subst h2;show bindL adn ((p,w)::P.zip vs) m p=_;unfold bindL;rw[ya λv hv=>(aaW.mp nd).1 (abF hv).1,if_pos hk];simp
 |p::P,w::vs,i+1,m,nd,h1,h2,hk=>by show bindL adn ((p,w)::P.zip vs) m x=_;unfold bindL;exact yc (i:=i) (aaW.mp nd).2 (by simpa using h1) (by simpa using h2) hk
theorem yd{adn:Str->Option ab5}:∀{P:List Str} {vs} {i:Nat} {m},P.Nodup->P[i]?=Δ x->vs[i]?=Δ v->adn x≠Δ .local->
  bindC adn (P.zip vs) m x=Δ v
 |[],_,_,_,_,h,_,_=>by simp at h|_::_,[],_,_,_,_,h,_=>by simp at h|p::P,w::vs,0,m,nd,h1,h2,hk=>by simp at h1 h2;subst h1;subst h2;show bindC adn ((p,w)::P.zip vs) m p=_;unfold bindC;rw[yb λv hv=>(aaW.mp nd).1 (abF hv).1,if_neg hk];simp
 |p::P,w::vs,i+1,m,nd,h1,h2,hk=>by show bindC adn ((p,w)::P.zip vs) m x=_;unfold bindC;exact yd (i:=i) (aaW.mp nd).2 (by simpa using h1) (by simpa using h2) hk
noncomputable def start(N:List Str)(vs:List V):St:=vs.map Δ++aaS (N.length - vs.length) Θ
noncomputable def zo(CX:JK)(P:aav)(w:World)(K:ZE)(mg:Str->Option Value)(base:Heap)(N:List Str)(qual:Str)(scope:Scope)(f:Addr)(cd:Value)(A:aaZ)(outer:List Env)(s:ZR)(H:Hp)(E:XK):Cx where
 prog:=P
 w:=w
 K:=K
 mg:=mg
 base:=base
 A:=A.deeper (aef qual scope s.heap.objs.size f cd)
 N:=N
 iR:=s
 AI:=H
 env:=aef qual scope s.heap.objs.size f cd
 outer:=outer
 stack:=aef qual scope s.heap.objs.size f cd::outer
 ex:=[]
 calm:=Λ
 fn:=λ_=>Λ
 pn:=[]
 xe:=λe s'=>wpAny (model P w) (A.deeper (aef qual scope s.heap.objs.size f cd)) (leaving (aef qual scope s.heap.objs.size f cd) e) (λ_ NP=>CX outer H s E e NP) (λe' NP=>CX outer H s E e' NP) s'
theorem uP{sc:Scope}(h:sc.names.lookup x=Δ .cell):∃c,(cellsFrom n sc.names []).lookup x=Δ c:=by have q:=PySem.W.cellsFrom_some sc.names n [] (.inl h);exact Option.isSome_iff_exists.mp q
theorem Fo{K:ZE}(S:bb N ps scope)(hd:A.handled=Θ)(e0:zl P w K mg base A outer s H)(hl:vs.length=ps.length)(r:aY vs us)(x:InCallC s s.heap.objs.size (bindL (aef qual scope s.heap.objs.size f cd).kindOf (ps.zip us) λ_=>Θ) (cellsFrom (s.heap.objs.size+1) scope.names []) (bindC (aef qual scope s.heap.objs.size f cd).kindOf (ps.zip us) λ_=>Θ) s1):
  Inv (zo CX P w K mg base N qual scope f cd A outer s H E) [] (start N vs) H s1:=by
 have Ax:ps.length<=N.length:=by have:=congrArg adR S.pre;rw[abQ] at this;lia
 refine bg (λh1 tk aH hk=>?_) (x.done);subst aH;have JL:∀b:Addr,b∉(zo CX P w K mg base N qual scope f cd A outer s H E).ex:=λb z=>absurd (show b∈([]:List Addr) from z) (by simp);refine⟨⟨e0.mod,S.kind,rfl,rfl,ZC _,λy z c h1 h2=>?_,λy hy=>?_,λy c _ h=>?_,λ_=>hd,aaZ.frames_deeper e0.frames,.inr ⟨rfl,rfl⟩,λb z=>absurd z (JL b),e0.bs,e0.GL,λb _ _=>JL b,λb z=>absurd z (JL b),e0.nR,e0.JW⟩,
  rfl,e0.bare,Un.kept hk,⟨_,x.toInCall.ns,λi y v h1 h2 h3=>?_⟩,λy c h=>⟨_,x.cell y c h⟩,e0.aN.fresh (ZC _),λy c h=>?_,λp hp=>absurd (show p∈([]:List (Addr×Obj)) from hp) (by simp),e0.aN.kept hk,?_⟩
 ·exact name_of_addr x.apart (aaq h1) (aaq h2)
 ·have hy:scope.names.lookup y=Δ .cell\/scope.names.lookup y=Δ .free:=hy;rcases hy with hy|hy;·exact uP hy
  ·exact absurd rfl (S.NO _ (aaq hy))
 ·exact acG (x.above y c (aaq h))
 ·have hi:i < vs.length:=by
   unfold start at h2;by_cases hi:i < vs.length;·exact hi
   ·rw[ZX (by simpa using hi)] at h2;rw[acj] at h2;split at h2<;>cases h2
  have ha:vs[i]?=Δ v:=by unfold start at h2;rw[Zy (by simpa using hi),ZD] at h2;cases e:vs[i]? with|none=>rw[e] at h2;exact aQ h2|some a=>rw[e] at h2;cases h2;rfl
  obtain⟨u,hu,rv⟩:=r.get ha;have hp:ps[i]?=Δ y:=by rw[<-S.pre,List.getElem?_take_of_lt (by lia)];exact h1
  have UM:ps.Nodup:=by rw[<-S.pre];exact S.nd.sublist (List.take_sublist _ _)
  refine⟨u,rv,?_⟩;rcases S.par y (ZG hp) with k|k;·exact .inl ⟨k,yc UM hp hu k⟩
  ·obtain⟨c,e⟩:=uP (n:=s.heap.objs.size+1) k;refine .inr ⟨.inl k,c,e,?_⟩;have q:=x.cell y c e;rw[yd UM hp hu (by show scope.names.lookup y≠_;rw[k];decide)] at q;exact q
 ·exact e0.aN.fresh (acG (x.above y c (aaq h)))
 ·unfold start;show _=N.length;rw[ZW,ZA,acs]
  lia
theorem Rw{K:ZE}{dV kV doc pm lS ct oc:Value}(lk:K.lookup f=Δ ⟨oc,od,.func (ac5 name qual params body scope dV kV doc pm an lS ct),Kd⟩)(oQ:aet K lS qual=Λ)(S:bb N ps scope)(len:∀vs H Q E,sp vs H Q E->vs.length=ps.length)(uQ:∀(A:aaZ) (outer:List Env) (s:ZR) (H:Hp) (vs:List V) (Q:VK) (E:XK),dy k (A.deeper (aef qual scope s.heap.objs.size f lS))->sp vs H Q E->
   ∃t,nS (zo CX P w K mg base N qual scope f lS A outer s H E) body t/\t {nx:=λ_ H'=>Q .bG H',rt:=Q} (start N vs) H):
  iy P w K mg base CX (k+1) f (ac5 name qual params body scope dV kV doc pm an lS ct) ps sp:=by
 refine⟨len,λA outer s H args us vs Q E hr e0 hb r zp=>?_⟩;have hl:=len _ _ _ _ zp;have KX:K.In s.heap:=e0.mod.Nl.keeps λb o e=>(e0.bs b o e).1;have lim:s.heap.NoLimit:=e0.mod.nolimit.keeps λb o e=>(e0.bs b o e).1;have Hn:∀y∈ps.zip us,scope.names.lookup y.1=Δ .local\/(scope.names.lookup y.1=Δ .cell/\((cellsFrom (s.heap.objs.size+1) scope.names []).lookup y.1).isSome=Λ):=λtm hy=>by
  obtain⟨n,v⟩:=tm;rcases S.par n (abF hy).1 with q|q;·exact .inl q
  ·exact .inr ⟨q,PySem.W.cellsFrom_some _ _ _ (.inl q)⟩
 refine codeAny_call_function hr.depth (KX _ _ lk) rfl S.co S.gen rfl (PySem.W.codeRec_of KX oQ) (hb _ _ _ _ ?_);refine wpAny_newFunctionEnv_cells S.kind Hn λenv he s1 x=>?_;subst he;refine⟨lim.keeps x.toInCall.keep,codeAny_func ?_⟩;obtain⟨t,ht,hq⟩:=uQ A outer s H vs Q E (hr.deeper _) zp;have I:Inv (zo CX P w K mg base N qual scope f lS A outer s H E) [] (start N vs) H s1:=Fo S hr.hd e0 hl r x;refine aa9 (ht [] s1 (start N vs) H _ I hq) (λfl s' hs=>?_) λe s' hs=>hs;have fin:∀{dn:St} {H':Hp} {v:V} {u:Value},Inv (zo CX P w K mg base N qual scope f lS A outer s H E) [] dn H' s'->RelV v u->Q v H'->CE outer P w H s Q u s':=
  λ{dn H' v u} J rv q=>⟨v,H',J.os,J.bare,J.base,J.aN,rv,q⟩
 cases fl with|ret u=>revert hs;refine cD λv dn H' J rv q=>?_;exact fin J rv q|next=>revert hs;refine bg λdn H' J q=>?_;exact fin (v:=V.bG) (u:=abw) J rfl q|brk=>revert hs;refine bg λ_ _ _ q=>?_;exact aaL q|cont=>revert hs;refine bg λ_ _ _ q=>?_;exact aaL q
section
variable{X:Cx}{x:Str}{p pos:Pos}{e:Expr}{es:List Expr}{t:TA}{id T:String}{r:List V->Hp->VK->Prop}
noncomputable def WI(r:List V->Hp->VK->Prop)(t:TA):TE:=λσ H Q=>t σ H λvs H1=>r vs H1 Q
theorem uR(hc:je X (.builtin id) r)(hg:Gl X x)(hm:X.mg x=Θ)(hv:acC x=Δ (.builtin id))(ha:PA X (e::es) t)(hn:x≠"__name__":=by decide)(Ka:(x==("__debug__":Str))=Ξ:=by decide)
  (he:Z9 (e::es) X.env=(Ξ,eval e X.env)::Z9 es X.env:=by rfl) (Ax:(abC pos (Z9 es X.env)).any (·.1)=Ξ:=by rfl):PE X (.Call (.Name x p) (e::es) [] pos) (WI r t):=by
 intro pins s σ H Q I h;refine aaR (kM I hg hm hv ?_ hn Ka);exact PyProof.Rows.callWith_builtin1 (b8 (ha pos pins s σ H _ I h) λus s1 ⟨vs,H1,I1,r1,q1⟩=>hc pins s1 σ H1 vs us Q I1 r1 q1) he Ax
theorem mR(hc:je X (.type T) r)(hg:Gl X x)(hm:X.mg x=Θ)(hv:acC x=Δ (.type T))(ha:PA X (e::es) t)(hn:x≠"__name__":=by decide)(Ka:(x==("__debug__":Str))=Ξ:=by decide)
  (he:Z9 (e::es) X.env=(Ξ,eval e X.env)::Z9 es X.env:=by rfl) (Ax:(abC pos (Z9 es X.env)).any (·.1)=Ξ:=by rfl):PE X (.Call (.Name x p) (e::es) [] pos) (WI r t):=by
 intro pins s σ H Q I h;refine aaR (kM I hg hm hv ?_ hn Ka);exact aaA (b8 (ha pos pins s σ H _ I h) λus s1 ⟨vs,H1,I1,r1,q1⟩=>hc pins s1 σ H1 vs us Q I1 r1 q1) he Ax
end
end L2
namespace HT
open PySem PyProof.Rows
section
open PySem.SeqAt
open PySem.AutoSeq1 (wpAny_loadPart')
open PySem.MeetsSeq PySem.MeetsSeq2 PySem.MeetsSeq3
end
section
variable{prog:aav}{w:World}{A:aaZ}{E:Value->ZR->Prop}{s:ZR}
theorem Ke(ht:IsTup s.heap t vs.toArray)(hb:IsTup s.heap b ws.toArray)(hv:vs≠[])(h1:ws=[]->Q (.ref t) s)(h2:ws≠[]->Q (.ref s.heap.objs.size) {s with heap:=s.heap.push {cls:=.type "tuple",data:=.seq (vs++ws).toArray}})(hsz:vs.length+ws.length<=Z3):wpAny (model prog w) A (abp .Add (.ref t) (.ref b)) Q E s:=by
 refine eV (λWJ ho hc n hd=>?_) (id ht);obtain⟨cls,dd,data,sl⟩:=WJ;refine eV (λWK JM Rx n2 hd2=>?_) (id hb);obtain⟨WL,UN,data2,UO⟩:=WK;simp only at hc hd Rx hd2;subst hc hd Rx hd2;have e:vs.toArray++ws.toArray=(vs++ws).toArray:=by simp
 by_cases hw:ws=[]
 ·exact aeM ⟨_,ho,rfl⟩ ⟨_,JM,rfl⟩ ad4 aeF ac7 ac0 (acN _ _)
   (tuple_addW1 t b vs.toArray ws.toArray n n2 dd UN sl UO (by simpa using hv) (by simp[hw])) ⟨ho,JM,h1 hw⟩
 ·refine aeM ⟨_,ho,rfl⟩ ⟨_,JM,rfl⟩ ad4 aeF ac7 ac0 (acN _ _)
   (tuple_addW2 t b vs.toArray ws.toArray n n2 dd UN sl UO (by simpa using hv) (by simpa using hw) (by rw[ZQ,ZQ];exact hsz)) ⟨ho,JM,?_⟩
  rw[e];exact h2 hw
noncomputable def C5(n d:Nat):Option Int->Nat
 |none=>d|some v=>if v < 0 then(v+(n:Int)).toNat else min v.toNat n
end
end HT
namespace L2
open PySem PySem.Spec PyProof.Rows
abbrev TO:=St->Hp->(Option Int->Hp->Prop)->Prop
noncomputable def PO(X:Cx)(e:Option Expr)(t:TO):Prop:=
 ∀(pins:List (Addr×Obj)) (s:ZR) (σ:St) (H:Hp) (Q:Option Int->Hp->Prop),Inv X pins σ H s->t σ H Q->
  wpAny (model X.prog X.w) X.A (evalPart e X.env) (λu s'=>∃o H',Inv X pins σ H' s'/\IsPart u o/\Q o H') X.xe s
def Kg:TO:=λ_ H Q=>Q Θ H
noncomputable def Ry(t:TE):TO:=λσ H Q=>t σ H λx H1=>∃i,x=.int i/\Q (Δ i) H1
section
variable{X:Cx}{e:Expr}{te:TE}{lo hi:Option Expr}{tl th:TO}{pos p2:Pos}
theorem Kh:PO X Θ Kg:=by intro pins s σ H Q I h;rw[evalPart_none];exact ZT ⟨Θ,H,I,.none,h⟩
theorem Ki(h:PE X e te):PO X (Δ e) (Ry te):=by intro pins s σ H Q I hw;rw[evalPart_some];refine b8 (h pins s σ H _ I hw) λu s1 WM=>?_;obtain⟨x,H1,I1,r1,q1⟩:=WM;obtain⟨i,rfl,q⟩:=q1;obtain⟨t,rfl⟩:=r1;exact⟨Δ i,H1,I1,.int i t,q⟩
def SlR(X:Cx)(r:V->Option Int->Option Int->Hp->VK->Prop):Prop:=
 ∀(pins:List (Addr×Obj)) (s:ZR) (σ:St) (H:Hp) (x:V) (v vl vu:Value) (lo hi:Option Int) (sl:Addr) (Q:VK),Inv X pins σ H s->RelV x v->s.heap.IsSliceOf sl vl vu .none->IsPart vl lo->IsPart vu hi->r x lo hi H Q->
  ∃T id,ae5 (.type T) "__getitem__"=pure (Δ (.builtin id))/\s.TypeIs v T/\wpAny (model X.prog X.w) X.A (aez v (.ref sl)) (EP X pins σ Q) X.xe s
def Kj(xs:List V)(lo hi:Option Int):List V:=(xs.drop (HT.C5 xs.length 0 lo)).take (HT.C5 xs.length xs.length hi - HT.C5 xs.length 0 lo)
theorem AN xs lo hi:(Kj xs lo hi).length<=xs.length:=by
 unfold Kj;rw[abQ,List.length_drop]
 lia
def Rz(K:ZE):R2:=λx y H Q=>∃a b xs ys,x=.ref a/\y=.ref b/\g7 K H a xs/\g7 K H b ys/\xs≠[]/\xs.length+ys.length<=Z3/\
 (ys=[]->Q (.ref a) H)/\(ys≠[]->∀p,H p=Θ->Q (.ref p) (upd H p (.tup (xs++ys))))
theorem aY.o4(r:aY xs us):us=[]↔xs=[]:=by cases r with|nil=>simp|cons _ _=>simp
theorem Kk:kj X (abp .Add) (Rz X.K):=by intro pins s σ H x y v u Q I rx ry h;revert h;refine g6 λa b xs ys aH iz ha hb hx hz q1 q2=>?_;subst aH;subst iz;obtain rfl:=rx;obtain rfl:=ry;refine aB (λits r1 p1 _=>?_) (I.tuple ha);refine aB (λHo r2 p2 _=>?_) (I.tuple hb);refine HT.Ke p1 p2 (λz=>hx (r1.o4.mp z)) (λz=>⟨.ref a,H,I,rfl,q1 (r2.o4.mp z)⟩) (λz=>?_) (by rw[<-r1.length,<-r2.length];exact hz);refine⟨.ref s.heap.objs.size,_,I.laid (t':=s.toks) (o:=.tup (xs++ys)) (λb ob q=>Zt _ q) (ZC _) ?_,rfl,q2 (λw=>z (r2.o4.mpr w)) _ (I.aN.fresh (ZC _))⟩;exact⟨by rw[ZW];exact hz,_,r1.append r2,IsTup.new _ _⟩
end
noncomputable def C6(n:Nat)(i:Int):Option Nat:=if 0<=i then(if i < n then Δ i.toNat else Θ) else if -(n:Int)<=i then Δ (i+n).toNat else Θ
def qD{α:Type}(xs:List α)(i:Int):Option α:=(C6 xs.length i).bind λj=>xs[j]?
theorem Ee(h:C6 n i=Δ j):seqIndex? i n=Δ j/\j < n/\ -(n:Int)<=i/\i < n:=by
 unfold C6 at h;by_cases h0:0<=i
 ·rw[if_pos h0] at h;by_cases h1:i < n;·rw[if_pos h1] at h;have e:i.toNat=j:=aaf h;exact⟨by rw[aeZ h0 h1,e],by lia,by lia,h1⟩
  ·rw[if_neg h1] at h;exact aQ h
 ·rw[if_neg h0] at h;by_cases h1: -(n:Int)<=i;·rw[if_pos h1] at h;have e:(i+n).toNat=j:=aaf h;exact⟨by rw[aeL (by lia) h1,e],by lia,h1,by lia⟩
  ·rw[if_neg h1] at h;exact aQ h
theorem Ef(h:qD xs i=Δ v):∃j,seqIndex? i xs.length=Δ j/\xs[j]?=Δ v/\j < xs.length/\ -(xs.length:Int)<=i/\i < xs.length:=by unfold qD at h;cases e:C6 xs.length i with|none=>rw[e] at h;exact aQ h|some j=>rw[e] at h;refine jc (λh1 h2 h3 h4=>?_) (Ee e);exact⟨j,h1,h,h2,h3,h4⟩
noncomputable def Eg(b:Expr):Prop:=∀o i,aep b Ξ o i=operate [o,i] (aez o i)
def My(X:Cx)(r:R2):Prop:=
 ∀(value slice:Expr) (pins:List (Addr×Obj)) (s:ZR) (σ:St) (H:Hp) (x y:V) (v u:Value) (Q:VK),Inv X pins σ H s->RelV x v->RelV y u->r x y H Q->
  aep slice Ξ v u=operate [v,u] (aez v u)->wpAny (model X.prog X.w) X.A (aeE value slice v u) (EP X pins σ Q) X.xe s
def MtR(X:Cx)(id:String)(r:V->List V->Hp->VK->Prop):Prop:=
 ∀(pins:List (Addr×Obj)) (s:ZR) (σ:St) (H:Hp) (x:V) (xs:List V) (v:Value) (us:List Value) (Q:VK),Inv X pins σ H s->RelV x v->aY xs us->r x xs H Q->
  wpAny (model X.prog X.w) X.A (call (.builtin id) (v::us)) (EP X pins σ Q) X.xe s
section
variable{X:Cx}{a b:Expr}{ta tb:TE}{pos:Pos}
theorem My.or(h:My X r)(h':My X r'):My X (λx y H Q=>r x y H Q\/r' x y H Q):=by
 intro value slice pins s σ H x y v u Q I rx ry q hs;rcases q with q|q;·exact h value slice pins s σ H x y v u Q I rx ry q hs
 ·exact h' value slice pins s σ H x y v u Q I rx ry q hs
theorem RA(hr:My X r)(ha:PE X a ta)(hb:PE X b tb)(hs:Eg b):PE X (.Subscript a b pos) (Rj r ta tb):=by intro pins s σ H Q I h;exact Subscript_ (NA ha hb I h λv u s2 x y H2 I2 rx ry q=>hr a b pins s2 σ H2 x y v u Q I2 rx ry q (hs _ _))
def WN(K:ZE):R2:=λx y H Q=>∃p xs i v,x=.ref p/\y=.int i/\nz K H p xs/\qD xs i=Δ v/\Q v H
def WO(K:ZE):R2:=λx y H Q=>∃p xs i v,x=.ref p/\y=.int i/\g7 K H p xs/\qD xs i=Δ v/\Q v H
theorem Kl:My X (WN X.K):=by
 intro value slice pins s σ H x y v u Q I rx ry h hs;revert h;refine jd λp xs i z aH iz hq he q=>?_;subst aH;subst iz;obtain rfl:=rx;obtain⟨t,rfl⟩:=ry;refine aB (λits r pl hz=>?_) (I.list hq);refine oT (λj h1 h2 h3 h4 h5=>?_) (Ef he);obtain⟨w,ew,nX⟩:=r.get h2;have hl:=r.length;have hn:=qA;have fin:EP X pins σ Q w s:=⟨z,H,I,nX,q⟩;by_cases h0:0<=i
 ·have hj:i.toNat=j:=by rw[aeZ h0 h5] at h1;exact aaf h1
  exact item_listR pl.isList h0 (by lia) (by rw[hj];simpa using ew) fin hs
 ·have hj:(i+(its.toArray.size:Int)).toNat=j:=by rw[aeL (by lia) h4] at h1;rw[ZQ,<-hl];exact aaf h1
  exact subscriptTail_builtinR (x:=w) pl.isList.typeIs slot_list_getitem.lookup
   (wpAny_getItem_list_neg (Q:=λr s'=>r=w/\EP X pins σ Q r s') pl.isList (by lia) (by rw[ZQ]<;>lia) (by lia) (by rw[hj];simpa using ew) ⟨rfl,fin⟩) hs
theorem NQ:My X (WO X.K):=by
 intro value slice pins s σ H x y v u Q I rx ry h hs;revert h;refine jd λp xs i z aH iz hq he q=>?_;subst aH;subst iz;obtain rfl:=rx;obtain⟨t,rfl⟩:=ry;refine aB (λits r pl hz=>?_) (I.tuple hq);refine oT (λj h1 h2 h3 h4 h5=>?_) (Ef he);obtain⟨w,ew,nX⟩:=r.get h2;have hl:=r.length;have hn:=qA;have fin:EP X pins σ Q w s:=⟨z,H,I,nX,q⟩;exact subscriptTail_builtinR (x:=w) pl.typeIs slot_tuple_getitem.lookup
  (getItem_tuple (j:=j) (Q:=λr s'=>r=w/\EP X pins σ Q r s') pl (by lia) (by lia) (by rw[ZQ,<-hl];exact h1) (by simpa using ew) ⟨rfl,fin⟩) hs
theorem C7(its:List Value)n j u:acb (·.setIfInBounds j u) {cls:=.type "list",data:=.seq its.toArray n}={cls:=.type "list",data:=.seq (its.set j u).toArray n}:=by simp[acb]
theorem Inv.lst(I:Inv X pins σ H s)(h:H p=Δ (.lst xs)):
  ∃(its:List Value) (n:Nat),aY xs its/\s.heap.get? p=Δ {cls:=.type "list",data:=.seq its.toArray n}/\xs.length<=Z3:=by
 refine qt (λz its n r e=>?_) (I.aN p _ h);exact⟨its,n,r,e,z⟩
theorem Inv.NR{its its':List Value}(I:Inv X pins σ H s)(h:H p=Δ (.lst xs))(ho:s.heap.get? p=Δ {cls:=.type "list",data:=.seq its.toArray n})(hf:f {cls:=.type "list",data:=.seq its.toArray n}={cls:=.type "list",data:=.seq its'.toArray n'})(r:aY ys its')(hz:ys.length<=Z3)t:
  Inv X pins σ (upd H p (.lst ys)) {s with heap:=s.heap.update p f,toks:=t}:=by
 have e:(s.heap.update p f).get? p=Δ {cls:=.type "list",data:=.seq its'.toArray n'}:=by rw[abr f ho (by rw[hf]<;>rfl),hf]
 refine I.write (x:=p) (e:=p) (by rw[h];trivial) (.inl rfl) (λb u hb q=>(aaK _ _ (aaw hb)).trans q) ⟨_,e⟩ ?_;exact⟨hz,its',n',r,e⟩
def RB:V->V->V->Hp->(Hp->Prop)->Prop:=λo i v H Q=>∃p xs k j,o=.ref p/\i=.int k/\H p=Δ (.lst xs)/\C6 xs.length k=Δ j/\Q (upd H p (.lst (xs.set j v)))
theorem set_list:Fd X RB:=by
 intro pins s σ H o i v ov iv u Q I ro ri rv h;revert h;refine jd λp xs k j aH iz hp hj q=>?_;subst aH;subst iz;obtain rfl:=ro;obtain⟨t,rfl⟩:=ri;refine ah (λits n r ho hz=>?_) (I.lst hp);refine jc (λh1 h2 h3 h4=>?_) (Ee hj);have hl:=r.length;have hn:=qA;have I':Inv X pins σ (upd H p (.lst (xs.set j v))) {s with heap:=s.heap.update p (acb (·.setIfInBounds j u))}:=
  I.NR hp ho (C7 its n j u) (r.set rv j) (by rw[aaX];exact hz) s.toks
 by_cases h0:0<=k
 ·have hk:k.toNat=j:=by rw[aeZ h0 h4] at h1;exact aaf h1
  exact PySem.W.ki_setAt ho h0 (by lia) (by rw[ZQ,<-hl];exact h4) (by rw[hk];exact⟨_,I',q⟩)
 ·have hk:(k+(its.toArray.size:Int)).toNat=j:=by rw[aeL (by lia) h3] at h1;rw[ZQ,<-hl];exact aaf h1
  exact PySem.W.ki_setBack ho (by lia) (by rw[ZQ,<-hl];exact h3) (by lia) (by rw[hk];exact⟨_,I',q⟩)
theorem zq lo hi n:(acX lo hi Θ n).1=((HT.C5 n 0 lo:Nat):Int)/\(acX lo hi Θ n).2.1=((HT.C5 n n hi:Nat):Int)/\(acX lo hi Θ n).2.2=1:=by
 refine⟨?_,?_,rfl⟩
 ·cases lo with
  |none=>simp[acX,HT.C5]|some i=>
   simp only[acX,HT.C5,ad6,show(1:Int) > 0 by decide,if_true];by_cases h:i < 0;·simp only[h,if_true]<;>lia
   ·simp only[h,if_false]<;>lia
 ·cases hi with
  |none=>simp[acX,HT.C5]|some i=>
   simp only[acX,HT.C5,ad6,show(1:Int) > 0 by decide,if_true];by_cases h:i < 0;·simp only[h,if_true]<;>lia
   ·simp only[h,if_false]<;>lia
theorem xc(its:List Value)lo hi:slicePick its.toArray lo hi Θ=((its.drop (HT.C5 its.length 0 lo)).take (HT.C5 its.length its.length hi - HT.C5 its.length 0 lo)).toArray:=by obtain⟨h1,h2,h3⟩:=zq lo hi its.toArray.size;unfold slicePick;rw[h1,h2,h3];simp only[sliceRange_one,pick_run,ZQ]<;>rfl
def WQ(K:ZE):V->Option Int->Option Int->Hp->VK->Prop:=λx lo hi H Q=>∃a xs,x=.ref a/\nz K H a xs/\∀p,H p=Θ->Q (.ref p) (upd H p (.lst (Kj xs lo hi)))
theorem UP:SlR X (WQ X.K):=by intro pins s σ H x v vl vu lo hi sl Q I rx hs pl pu h;revert h;refine ah λa xs aH hx q=>?_;subst aH;obtain rfl:=rx;refine aB (λits r ht hz=>?_) (I.list hx);have hlen:=r.length;refine⟨"list",_,slot_list_getitem.lookup,ht.isList.typeIs,?_⟩;refine wpAny_getItem_list_slice ht.isList hs pl pu .none (by simp) ?_ (by rw[ZQ]<;>lia);rw[xc,<-hlen];refine⟨.ref s.heap.objs.size,_,I.laid (t':=s.toks) (o:=.lst (Kj xs lo hi)) (λb ob q=>Zt _ q) (ZC _) ?_,rfl,q _ (I.aN.fresh (ZC _))⟩;exact⟨aap (AN xs lo hi) hz,_,0,(r.drop (HT.C5 xs.length 0 lo)).take (HT.C5 xs.length xs.length hi - HT.C5 xs.length 0 lo),ZM _ rfl⟩
noncomputable def nA:V->Bool
 |.bG=>Λ|.bl _=>Λ|.int _=>Λ|.str _=>Λ|_=>Ξ
noncomputable def Km:V->V->Bool
 |.bG,.bG=>Λ|.bl a,.bl b=>a==b|.bl a,.int b=>(if a then 1 else 0)==b|.int a,.bl b=>a==(if b then 1 else 0)|.int a,.int b=>a==b|.str a,.str b=>a==b|_,_=>Ξ
theorem NS(ry:RelV y u)(rx:RelV x v)(fy:nA y=Λ)(fx:nA x=Λ):SeqAt.EqAt A s u v (Km y x):=by
 cases y with
 |bG=>obtain rfl:=ry;cases x with|bG=>obtain rfl:=rx;exact SeqAt.EqAt.same _|bl b=>obtain rfl:=rx;exact SeqAt.EqAt.none_bool b|int b=>obtain⟨t,rfl⟩:=rx;exact SeqAt.EqAt.none_int b t|str b=>obtain⟨t,rfl⟩:=rx;exact SeqAt.EqAt.none_str b t|_=>exact absurd (show Ξ=Λ from fx) aat
 |bl a=>obtain rfl:=ry;cases x with|bG=>obtain rfl:=rx;exact SeqAt.EqAt.bool_none a|bl b=>obtain rfl:=rx;exact SeqAt.EqAt.bool_bool a b|int b=>obtain⟨t,rfl⟩:=rx;exact SeqAt.EqAt.bool_int a b t|str b=>obtain⟨t,rfl⟩:=rx;exact SeqAt.EqAt.bool_str a b t|_=>exact absurd (show Ξ=Λ from fx) aat
 |int a=>obtain⟨t',rfl⟩:=ry;cases x with|bG=>obtain rfl:=rx;exact SeqAt.EqAt.int_none a t'|bl b=>obtain rfl:=rx;exact SeqAt.EqAt.int_bool a t' b|int b=>obtain⟨t,rfl⟩:=rx;exact SeqAt.EqAt.int_int a t' b t|str b=>obtain⟨t,rfl⟩:=rx;exact SeqAt.EqAt.int_str a t' b t|_=>exact absurd (show Ξ=Λ from fx) aat
 |str a=>obtain⟨t',rfl⟩:=ry;cases x with|bG=>obtain rfl:=rx;exact SeqAt.EqAt.str_none a t'|bl b=>obtain rfl:=rx;exact SeqAt.EqAt.str_bool a t' b|int b=>obtain⟨t,rfl⟩:=rx;exact SeqAt.EqAt.str_int a t' b t|str b=>obtain⟨t,rfl⟩:=rx;exact SeqAt.EqAt.str_str a t' b t|_=>exact absurd (show Ξ=Λ from fx) aat
 |_=>exact absurd (show Ξ=Λ from fy) aat
def C8(x:V)(u:Value):Bool:=match u with|.none=>Km .bG x|.bool b=>Km (.bl b) x|.int i _=>Km (.int i) x|.str z _=>Km (.str z) x|_=>Ξ
theorem Hq(r:RelV y u)(f:nA y=Λ):C8 x u=Km y x:=by cases y with|bG=>obtain rfl:=r;rfl|bl b=>obtain rfl:=r;rfl|int i=>obtain⟨t,rfl⟩:=r;rfl|str z=>obtain⟨t,rfl⟩:=r;rfl|_=>exact absurd (show Ξ=Λ from f) aat
theorem o5:∀{xs} {us},aY xs us->xs.all nA=Λ->us.any (C8 x)=xs.any λy=>Km y x
 |_,_,.nil,_=>rfl|y::xs,u::us,.cons r t,f=>by rw[abO,Zr] at f;rw[abN,abN,Hq r f.1,o5 t f.2]
theorem l4(rx:RelV x v)(fx:nA x=Λ):∀{xs} {us},aY xs us->xs.all nA=Λ->∀u∈us,SeqAt.EqAt A s u v (C8 x u)
 |_,_,.nil,_=>λu hu=>by cases hu|y::xs,u::us,.cons r t,f=>λu' hu=>by
  rw[abO,Zr] at f;rcases abM.mp hu with rfl|hu;·rw[Hq r f.1];exact NS r rx f.1 fx
  ·exact l4 rx fx t f.2 u' hu
def UQ(x:V)(xs:List V):Bool:=xs.any λy=>Km y x
def RC(K:ZE)(neg:Bool):R2:=λx y H Q=>∃p xs,y=.ref p/\(nz K H p xs\/g7 K H p xs)/\nA x=Λ/\xs.all nA=Λ/\Q (.bl (if neg then !UQ x xs else UQ x xs)) H
theorem Fp:kj X (aaQ .In) (RC X.K Ξ):=by
 intro pins s σ H x y v u Q I rx ry h;revert h;refine bq λp xs aH hq fx fs q=>?_;subst aH;obtain rfl:=ry;rcases hq with hq|hq;·refine aB (λits r pl hz=>?_) (I.list hq);refine SeqAt.in_listAt (C8 x) pl.isList (λw hw=>l4 rx fx r fs w (by simpa using hw)) ⟨.bl _,H,I,rfl,?_⟩;rw[show its.toArray.any (C8 x)=its.any (C8 x) by simp,o5 r fs];exact q
 ·refine aB (λits r pl hz=>?_) (I.tuple hq);refine SeqAt.in_tupleAt (C8 x) pl (λw hw=>l4 rx fx r fs w (by simpa using hw)) ⟨.bl _,H,I,rfl,?_⟩;rw[show its.toArray.any (C8 x)=its.any (C8 x) by simp,o5 r fs];exact q
theorem zr:kj X (aaQ .NotIn) (RC X.K Λ):=by
 intro pins s σ H x y v u Q I rx ry h;revert h;refine bq λp xs aH hq fx fs q=>?_;subst aH;obtain rfl:=ry;rcases hq with hq|hq;·refine aB (λits r pl hz=>?_) (I.list hq);refine SeqAt.notIn_listAt (C8 x) pl.isList (λw hw=>l4 rx fx r fs w (by simpa using hw)) ⟨.bl _,H,I,rfl,?_⟩;rw[show its.toArray.any (C8 x)=its.any (C8 x) by simp,o5 r fs];exact q
 ·refine aB (λits r pl hz=>?_) (I.tuple hq);refine SeqAt.notIn_tupleAt (C8 x) pl (λw hw=>l4 rx fx r fs w (by simpa using hw)) ⟨.bl _,H,I,rfl,?_⟩;rw[show its.toArray.any (C8 x)=its.any (C8 x) by simp,o5 r fs];exact q
theorem zu:je X (.builtin "len") (λxs H Q=>∃p ys,xs=[.ref p]/\(nz X.K H p ys\/g7 X.K H p ys)/\Q (.int ys.length) H):=by
 intro pins s σ H xs us Q I r h;revert h;refine ah λp ys aH hq q=>?_;subst aH;obtain⟨u,rfl,rx⟩:=vals1 r;obtain rfl:=rx;have hn:=qA;rcases hq with hq|hq;·refine aB (λits r' pl hz=>?_) (I.list hq);have hlen:=r'.length;exact Calls.call_len_list pl.isList (by simp only[ZQ]<;>lia) ⟨.int ys.length,H,I.tok _,⟨s.toks+1,by rw[ZQ,hlen]⟩,q⟩
 ·refine aB (λits r' pl hz=>?_) (I.tuple hq);have hlen:=r'.length;exact len_tuple pl (by simp only[ZQ]<;>lia) ⟨.int ys.length,H,I.tok _,⟨s.toks+1,by rw[ZQ,hlen]⟩,q⟩
theorem zv:je X (.builtin "len") (λxs H Q=>∃z,xs=[.str z]/\z.length<=Z3/\Q (.int z.length) H):=by intro pins s σ H xs us Q I r h;revert h;refine aB λz aH hz q=>?_;subst aH;obtain⟨u,rfl,t,rfl⟩:=vals1 r;have hn:=qA;exact len_str (by lia) ⟨.int z.length,H,I.tok _,⟨_,rfl⟩,q⟩
theorem xf:je X (.type "tuple") (λxs H Q=>∃p ys,xs=[.ref p]/\((nz X.K H p ys/\∀l,H l=Θ->Q (.ref l) (upd H l (.tup ys)))\/(g7 X.K H p ys/\Q (.ref p) H))):=by
 intro pins s σ H xs us Q I r h;revert h;refine bg λp ys aH h=>?_;subst aH;obtain⟨u,rfl,rx⟩:=vals1 r;obtain rfl:=rx;rcases h with ⟨hq,q⟩|⟨hq,q⟩
 ·refine aB (λits r' pl hz=>?_) (I.list hq);have hlen:=r'.length;refine call_tuple_list pl.isList (λh' kp=>?_) (by simp only[ZQ]<;>lia);have I1:Inv X pins σ H {s with heap:=h'}:=I.kept (t':=s.toks) kp;have I2:Inv X pins σ (upd H h'.objs.size (.tup ys)) {s with heap:=h'.push {cls:=.type "tuple",data:=.seq its.toArray}}:=
   I1.laid (t':=s.toks) (λb o e=>Zt _ e) (ZC _) (show bR X.prog X.w _ _ _ (.tup ys) from⟨hz,its,r',IsTup.new _ _⟩)
  exact⟨.ref h'.objs.size,_,I2,rfl,q _ (I1.aN.fresh (ZC _))⟩
 ·refine aB (λits r' pl hz=>?_) (I.tuple hq);exact call_tuple_same pl ⟨.ref p,H,I,rfl,q⟩
def WR(K:ZE)(T:String)(x:V)(H:Hp):Prop:=match x with
 |.str _=>T="str"|.int _=>T="int"
 |.ref p=>(T="list"/\∃xs,nz K H p xs)\/(T="tuple"/\∃o,K.lookup p=Δ o/\o.cls=.type "tuple"/\o.dict=Θ)\/
   (T="dict"/\((∃kvs,H p=Δ (.dK kvs))\/∃kvs,H p=Δ (.dT kvs)))\/(T="set"/\∃S n,H p=Δ (.set S n))
 |_=>False
theorem Hr(I:Inv X pins σ H s)(r:RelV x v)(ty:WR X.K T x H):
  s.TypeIs v T/\∀a,v=.ref a->∃ob,s.heap.get? a=Δ ob/\ob.dict=Θ:=by
 cases x with
 |str z=>obtain⟨t,rfl⟩:=r;obtain rfl:=show T="str" from ty;exact⟨typeIs_str s z t,λ_ e=>nomatch e⟩|int i=>obtain⟨t,rfl⟩:=r;obtain rfl:=show T="int" from ty;exact⟨adl s i t,λ_ e=>nomatch e⟩|ref p=>
  obtain rfl:=r;rcases ty with ⟨rfl,xs,hq⟩|⟨rfl,o,hk,hc,hd⟩|⟨rfl,hk⟩|⟨rfl,S,n,hk⟩
  ·refine aB (λits _ pl _=>?_) (I.list hq);refine⟨pl.isList.typeIs,λa e=>?_⟩;cases e;revert pl;refine bZ λo n e c hd _=>?_;exact⟨o,e,hd⟩
  ·refine⟨⟨o,I.oV p o hk,hc⟩,λa e=>?_⟩;cases e;exact⟨o,I.oV _ o hk,hd⟩
  ·have z:∃o,s.heap.get? p=Δ o/\o.ExactDict:=by
    rcases hk with ⟨kvs,hk⟩|⟨kvs,hk⟩
    ·refine hU (λ_ _ _ _ o _ _ e ex _=>?_) (I.aN p _ hk);exact⟨o,e,ex⟩
    ·refine hU (λ_ _ _ _ o _ _ e ex _=>?_) (I.aN p _ hk);exact⟨o,e,ex⟩
   obtain⟨o,e,ex⟩:=z;refine⟨⟨o,e,ex.1⟩,λa e2=>?_⟩;cases e2;exact⟨o,e,ex.2.1⟩
  ·obtain⟨o,_,_,_,e,ex,_⟩:=I.aN p _ hk;refine⟨⟨o,e,ex.1⟩,λa e2=>?_⟩;cases e2;exact⟨o,e,ex.2.1⟩
 |_=>exact aaL ty
def WS(K:ZE)(T:String)(r:V->List V->Hp->VK->Prop)(to:TE):TE:=λσ H Q=>to σ H λx H1=>WR K T x H1/\r x [] H1 Q
def tBM(K:ZE)(T:String)(r:V->List V->Hp->VK->Prop)(to:TE)(t:TA):TE:=λσ H Q=>to σ H λx H1=>WR K T x H1/\t σ H1 λxs H2=>r x xs H2 Q
variable{o e:Expr}{es:List Expr}{to:TE}{t:TA}{name:Str}{apos gN:Pos}{T id:String}{r:V->List V->Hp->VK->Prop}
theorem NT(pa:PlainAttrs T)(slot:Slot T name id)(WT:typeOf (.builtin id)=pure (.type "method_descriptor"))(hm:MtR X id r)(ho:PE X o to)
  (AO:aca o name X.env (eval o X.env)=eval o X.env:=by rfl) (nB:(apos.endLine==gN.line)=Λ:=by rfl):PE X (.Call (.Attribute o name apos) [] [] gN) (WS X.K T r to):=by
 intro pins s σ H Q I h;refine wpAny_Call_method0_late AO nB (b8 (ho pins s σ H _ I h) λv s1 WU=>?_);obtain⟨x,H1,I1,r1,ty,q1⟩:=WU;obtain⟨h1,h2⟩:=Hr I1 r1 ty;exact⟨T,id,pa,slot,WT,h1,h2,abK rfl (PySem.evalArgs_none (hm pins s1 σ H1 x [] v [] Q I1 r1 .nil q1))⟩
theorem RD(pa:PlainAttrs T)(slot:Slot T name id)(WT:typeOf (.builtin id)=pure (.type "method_descriptor"))(hm:MtR X id r)(ho:PE X o to)(ha:PA X (e::es) t)
  (AO:aca o name X.env (eval o X.env)=eval o X.env:=by rfl)
  (WV:((abC gN (Z9 (e::es) X.env)).all (λx=>!x.1)&&(adw gN (ack [] X.env)).all (λx=>x.1.isSome)
   &&decide ((e::es).length+([]:List adU).length+(if([]:List adU).isEmpty then 0 else 1) < 30))=Λ:=by rfl)
  (nB:(apos.endLine==gN.line)=Λ:=by rfl) (hs:Z9 (e::es) X.env=(Ξ,eval e X.env)::Z9 es X.env:=by rfl) (NU:(abC gN (Z9 es X.env)).any (·.1)=Ξ:=by rfl):
  PE X (.Call (.Attribute o name apos) (e::es) [] gN) (tBM X.K T r to t):=by
 intro pins s σ H Q I h;refine wpAny_Call_method_late AO WV nB rfl (b8 (ho pins s σ H _ I h) λv s1 WW=>?_);obtain⟨x,H1,I1,r1,ty,q1⟩:=WW;obtain⟨h1,h2⟩:=Hr I1 r1 ty;refine⟨T,id,pa,slot,WT,h1,h2,?_⟩;have hA:=ha gN pins s1 σ H1 _ I1 q1;rw[hs] at hA ⊢;refine abK (by show(Ξ||(abC gN (Z9 es X.env)).any (·.1))=Ξ;rw[NU]<;>rfl) (adA ?_);exact b8 hA λus s2 ⟨vs,H2,I2,r2,q2⟩=>hm pins s2 σ H2 x vs v us Q I2 r1 r2 q2
end
def MtM(X:Cx)(id:String)(r:V->List V->Hp->VK->Prop):Prop:=
 ∀(pins:List (Addr×Obj)) (s:ZR) (σ:St) (H:Hp) (x:V) (xs:List V) (v:Value) (us:List Value) (Q:VK),Inv X pins σ H s->RelV x v->aY xs us->r x xs H Q->
  wpAny (model X.prog X.w) X.A (call (.builtin id) (v::us)) (EP X pins σ Q) X.xe s
theorem aY.one:∀{x} {us},aY [x] us->∃u,us=[u]/\RelV x u:=by intro x us h;cases h with|cons r t=>cases t with|nil=>exact⟨_,rfl,r⟩
theorem aY.zero:∀{us},aY [] us->us=[]
 |_,.nil=>rfl
theorem aY.dropLast(h:aY xs us):aY xs.dropLast us.dropLast:=by induction h with|nil=>exact .nil|cons r t ih=>cases t with|nil=>exact .nil|cons q t'=>exact .cons r ih
theorem C9{α:Type}(l:List α):l.eraseIdx (l.length - 1)=l.dropLast:=by
 induction l with
 |nil=>rfl|cons a r ih=>
  cases r with
  |nil=>rfl|cons b r=>
   have e:(a::b::r).length - 1=((b::r).length - 1)+1:=by
    have h1:(a::b::r).length=r.length+2:=rfl;have h2:(b::r).length=r.length+1:=rfl
    lia
   rw[e,List.eraseIdx_cons_succ,ih];all_goals rfl
section
variable{X:Cx}{pins:List (Addr×Obj)}{σ:St}{H:Hp}{s:ZR}{l b:Addr}{xs ys zs:List V}
theorem Inv.RE{its its':List Value}(I:Inv X pins σ H s)(hH:H l=Δ (.lst xs))(e:s.heap.get? l=Δ {cls:=.type "list",data:=.seq its.toArray n})(hf:f its.toArray=its'.toArray)(hv:aY ys its')(hz:ys.length<=Z3):
  Inv X pins σ (upd H l (.lst ys)) {s with heap:=s.heap.update l (acb f),toks:=t'}:=by
 have q:=PySem.IsL.update e f;rw[hf] at q;refine I.write (x:=l) (e:=l) (by rw[hH];exact trivial) (.inl rfl) (λb' u hb hu=>(aaK s.heap (acb f) (aaw hb)).trans hu) ⟨_,q⟩ ?_;exact⟨hz,its',_,hv,q⟩
theorem Inv.WX(I:Inv X pins σ H s)(hv:aY ys its)(hz:ys.length<=Z3):
  Inv X pins σ (upd H s.heap.objs.size (.lst ys)) {s with heap:=s.heap.push {cls:=.type "list",data:=.seq its.toArray},toks:=t'}:=
 I.laid (λ_ _ q=>Zt _ q) (ZC _) ⟨hz,its,0,hv,ZM _ rfl⟩
theorem Inv.fresh(I:Inv X pins σ H s):H s.heap.objs.size=Θ:=I.aN.fresh (ZC _)
theorem Inv.RG(I:Inv X pins σ H s)(hH:H l=Δ (.lst xs)):xs.length<=Z3/\∃(its:List Value) (n:Nat),aY xs its/\xs.length=its.length/\s.heap.get? l=Δ {cls:=.type "list",data:=.seq its.toArray n}:=by refine qt (λz its n r e=>?_) (I.aN l _ hH);exact⟨z,its,n,r,r.length,e⟩
end
section
variable{X:Cx}
def Kn:V->List V->Hp->VK->Prop:=λx vs H Q=>∃l xs y,x=.ref l/\vs=[y]/\H l=Δ (.lst xs)/\xs.length < Z3/\Q .bG (upd H l (.lst (xs++[y])))
theorem qE:MtM X "list.append" Kn:=by
 intro pins s σ H x vs v us Q I rx rv h;refine cps λgG kG=>?_;obtain⟨l,xs,y,rfl,rfl,hH,hz,q⟩:=h;obtain rfl:=rx;obtain⟨u,rfl,ru⟩:=rv.one;obtain⟨z,its,n,r,hl,e⟩:=I.RG hH;refine kG ?_;refine acT F.slot_list_append ⟨_,e,rfl⟩ F.entry_list_append (F.args_list_append_2 _ _) (PySem.list_append l its.toArray n u (by rw[ZQ];lia)) ⟨e,?_⟩;refine⟨.bG,_,I.RE (its':=its++[u]) hH e (by simp) (r.append (.cons ru .nil)) ?_,rfl,q⟩;rw[ZW,List.length_singleton]
 lia
def WY:V->List V->Hp->VK->Prop:=λx vs H Q=>∃l xs y,x=.ref l/\vs=[]/\H l=Δ (.lst xs)/\xs[xs.length - 1]?=Δ y/\Q y (upd H l (.lst xs.dropLast))
theorem NV:MtM X "list.pop" WY:=by
 intro pins s σ H x vs v us Q I rx rv h;refine cps λgG kG=>?_;obtain⟨l,xs,y,rfl,rfl,hH,hy,q⟩:=h;obtain rfl:=rx;have hus:=rv.zero;subst hus;obtain⟨z,its,n,r,hl,e⟩:=I.RG hH;obtain⟨u,hu,ru⟩:=r.get hy;refine kG ?_;have hy':its.toArray[its.toArray.size - 1]?=Δ u:=by show its.toArray[its.length - 1]?=Δ u;rw[<-adk,<-hl];exact hu
 refine acT F.slot_list_pop ⟨_,e,rfl⟩ F.entry_list_pop (F.args_list_pop_1 _) (MeetsSeq.list_pop_last l its.toArray n u hy' (by rw[ZQ];lia)) ⟨e,?_⟩;refine⟨y,_,I.RE (its':=its.dropLast) hH e ?_ r.dropLast ?_,ru,q⟩;·show its.toArray.eraseIdxIfInBounds (its.toArray.size - 1)=its.dropLast.toArray;rw[ZQ,List.eraseIdxIfInBounds_toArray,C9]
 ·rw[List.length_dropLast]
  lia
end
section
variable{prog:aav}{w:World}{A:aaZ}{E:Value->ZR->Prop}{s:ZR}
end
section
variable{X:Cx}
end
section
variable{κ:Type}[DecidableEq κ]
noncomputable def gz(kvs:List (κ×V))(k:κ):Option V:=(kvs.find? λkv=>decide (kv.1=k)).map (·.2)
noncomputable def putK(kvs:List (κ×V))(k:κ)(v:V):List (κ×V):=
 if(kvs.any λkv=>decide (kv.1=k))=Λ then kvs.map (λkv=>if kv.1=k then(kv.1,v) else kv) else kvs++[(k,v)]
noncomputable def o6(kvs:List (κ×V))(k:κ):List (κ×V):=kvs.filter λkv=>decide (kv.1≠k)
theorem o7{r:List (κ×V)}{k:κ}(e:p.1=k):gz (p::r) k=Δ p.2:=by simp[gz,aaO,e]
theorem o8{r:List (κ×V)}{k:κ}(e:¬p.1=k):gz (p::r) k=gz r k:=by simp[gz,aaO,e]
theorem uS(k:κ):∀kvs:List (κ×V),(kvs.any λkv=>decide (kv.1=k))=(gz kvs k).isSome
 |[]=>rfl|p::r=>by
  rw[abN];by_cases e:p.1=k;·simp only[o7 e,decide_eq_true e,Bool.true_or,Option.isSome_some]
  ·rw[o8 e,decide_eq_false e,Bool.false_or];exact uS k r
theorem jH kvs(k:κ)v:(putK kvs k v).length<=kvs.length+1:=by
 unfold putK;split;·rw[ZA];lia
 ·rw[ZW,ZS,abG];lia
theorem lV.ja(r:lV o u):o.isSome=u.isSome:=by
 cases o with
 |none=>cases u with|none=>rfl|some _=>exact(show False from r).elim
 |some _=>cases u with|none=>exact(show False from r).elim|some _=>rfl
theorem KV.val(r:KV kvs vs)(k:κ):lV (gz kvs k) (aed vs k):=by
 unfold KV at r;induction r with
 |nil=>exact aa0|@cons p q ps qs h t ih=>
  obtain⟨h1,h2⟩:=h;by_cases e:p.1=k
  ·have e':q.1=k:=h1.symm.trans e;have b:aed (q::qs) k=Δ q.2:=by simp[aed,aaO,e']
   rw[o7 e,b];exact h2
  ·have e':¬q.1=k:=λz=>e (h1.trans z);have b:aed (q::qs) k=aed qs k:=by simp[aed,aaO,e']
   rw[o8 e,b];exact ih
theorem KV.any(r:KV kvs vs)(k:κ):(kvs.any λkv=>decide (kv.1=k))=vs.any λkv=>decide (kv.1=k):=by unfold KV at r;induction r with|nil=>rfl|cons h t ih=>rw[abN,abN,ih,h.1]
theorem KV.Fq(r:KV kvs vs)(k:κ)(ry:RelV y u):
  KV (kvs.map λkv=>if kv.1=k then(kv.1,y) else kv) (vs.map λkv=>if kv.1=k then(kv.1,u) else kv):=by
 unfold KV at r ⊢;induction r with
 |nil=>exact .nil|@cons p q ps qs h t ih=>
  rw[ZH,ZH];refine .cons ?_ ih;obtain⟨h1,h2⟩:=h;by_cases e:p.1=k;·rw[if_pos e,if_pos (h1.symm.trans e)];exact⟨h1,ry⟩
  ·rw[if_neg e,if_neg (λz=>e (h1.trans z))];exact⟨h1,h2⟩
theorem KV.put(r:KV kvs vs)(k:κ)(ry:RelV y u):KV (putK kvs k y) (stored vs k u):=by
 unfold putK stored;rw[r.any k];by_cases e:(vs.any λkv=>decide (kv.1=k))=Λ;·rw[if_pos e,if_pos e];exact r.Fq k ry
 ·rw[if_neg e,if_neg e];exact aeK.snoc r ⟨rfl,ry⟩
theorem KV.drop(r:KV kvs vs)(k:κ):KV (o6 kvs k) (without vs k):=by
 unfold KV at r ⊢;unfold o6 without;induction r with
 |nil=>exact .nil|@cons p q ps qs h t ih=>
  obtain⟨h1,h2⟩:=h;rw[List.filter_cons,List.filter_cons];by_cases e:p.1=k
  ·have a:¬decide (p.1≠k)=Λ:=by simp[e]
   have b:¬decide (q.1≠k)=Λ:=by simp[h1.symm.trans e]
   rw[if_neg a,if_neg b];exact ih
  ·have e':¬q.1=k:=λz=>e (h1.trans z);have a:decide (p.1≠k)=Λ:=by simp[e]
   have b:decide (q.1≠k)=Λ:=by simp[e']
   rw[if_pos a,if_pos b];exact .cons ⟨h1,h2⟩ ih
theorem KV.length{vs:List (κ×Value)}(r:KV kvs vs):kvs.length=vs.length:=ad0 r
theorem AQ kvs(k:κ):(o6 kvs k).length<=kvs.length:=abU _ _
end
theorem o9(r:RelV (kV k) u):(bh P w).is k u=Λ:=by cases k with|inl i=>obtain⟨t,e⟩:=(show ∃t,u=adp i t from r);subst e;exact AF P w i t|inr x=>obtain⟨t,e⟩:=(show ∃t,u=ado x t from r);subst e;exact AG P w x t
theorem ye:∀{ks} {us},aY (ks.map kV) us->ItemsAre (bh P w) ks us
 |[],_,r=>by rw[ab6] at r;cases r;exact .nil|k::ks,_,r=>by rw[ZH] at r;cases r with|cons h t=>exact .cons (o9 h) (ye t)
abbrev KT(H:Hp):List (List Key×V)->List (List Key×Addr×Value)->Prop:=aeK λp q=>p.1=q.1/\H q.2.1=Δ (.tup (p.1.map kV))/\RelV p.2 q.2.2
theorem KT.val(r:KT H kvs xs)k:lV (gz kvs k) ((atKey xs k).map (·.2)):=by
 induction r with
 |nil=>exact aa0|@cons p q ps qs h t ih=>
  obtain⟨h1,_,h2⟩:=h;by_cases e:p.1=k
  ·have e':q.1=k:=h1.symm.trans e;have b:atKey (q::qs) k=Δ q.2:=by simp[atKey,aaO,e']
   rw[o7 e,b];exact h2
  ·have e':¬q.1=k:=λz=>e (h1.trans z);have b:atKey (q::qs) k=atKey qs k:=by simp[atKey,aaO,e']
   rw[o8 e,b];exact ih
theorem KT.Fq(r:KT H kvs xs)k(ry:RelV y u):
  KT H (kvs.map λkv=>if kv.1=k then(kv.1,y) else kv) (xs.map (putAt k u)):=by
 induction r with
 |nil=>exact .nil|@cons p q ps qs h t ih=>
  rw[ZH,ZH];refine .cons ?_ ih;obtain⟨h1,h2,h3⟩:=h;unfold putAt;by_cases e:p.1=k;·rw[if_pos e,if_pos (h1.symm.trans e)];exact⟨h1,h2,ry⟩
  ·rw[if_neg e,if_neg (λz=>e (h1.trans z))];exact⟨h1,h2,h3⟩
theorem KT.put(r:KT H kvs xs)k(hb:H b=Δ (.tup (k.map kV)))(ry:RelV y u):
  KT H (putK kvs k y) (storedH xs k b u):=by
 have e:(kvs.any λkv=>decide (kv.1=k))=(atKey xs k).isSome:=by rw[uS,(r.val k).ja,acu]
 unfold putK storedH;rw[e];by_cases q:(atKey xs k).isSome=Λ;·rw[if_pos q,if_pos q];exact r.Fq k ry
 ·rw[if_neg q,if_neg q];exact aeK.snoc r ⟨rfl,hb,ry⟩
theorem KT.keeps(r:KT H kvs xs)(ht:∀b ys,H b=Δ (.tup ys)->H' b=Δ (.tup ys)):KT H' kvs xs:=
 aeK.Nj r λ_ _ z=>⟨z.1,ht _ _ z.2.1,z.2.2⟩
section
variable{P:aav}{w:World}{H:Hp}{h:Heap}{a:Addr}
theorem Mz(ok:lW P w H h)(e:Rd H a u):bR P w H h a u:=e.ok ok
theorem sr(ok:lW P w H h)(e:Rd H a (.dK kvs)):kvs.length<=Z3/\(a==abi)=Ξ/\∃vs,KV kvs vs/\h.DictOf (bh P w) a vs:=
 show bR P w H h a (.dK kvs) from Mz ok e
theorem yf(ok:lW P w H h)(e:H a=Δ (.dK kvs)):kvs.length<=Z3/\(a==abi)=Ξ/\∃vs,KV kvs vs/\h.DictOf (bh P w) a vs:=sr ok (.inl e)
theorem qF(ok:lW P w H h)(e:H a=Δ (.tup (ks.map kV))):(ad3 (bh P w)).is h ks a:=by obtain⟨_,its,r,o,h1,h2,n,h3⟩:=(show bR P w H h a (.tup (ks.map kV)) from ok a _ e);exact⟨o,its.toArray,n,h1,h2,h3,by simpa using ye r⟩
theorem su(ok:lW P w H h)(e:Rd H a (.dT kvs)):kvs.length<=Z3/\(a==abi)=Ξ/\
  ∃xs,KT H kvs xs/\h.DictOfH (ad3 (bh P w)) a xs:=by
 refine cps λgG kG=>?_;obtain⟨z,y,xs,r,o,es,ep,h1,h2,h3,h4,h5⟩:=(show bR P w H h a (.dT kvs) from Mz ok e);refine kG ?_;refine⟨z,y,xs,r,o,es,ep,h1,h2,h3,h4,λx hx=>?_,h5⟩;have all:∀{l:List (List Key×V)} {m:List (List Key×Addr×Value)},KT H l m->∀x∈m,(ad3 (bh P w)).is h x.1 x.2.1:=by
  intro l m q;induction q with
  |nil=>intro x hx;exact nomatch hx|@cons p q ps qs hq t ih=>
   intro x hx;rcases abM.mp hx with e|hx;·subst e;exact qF ok (by rw[<-hq.1];exact hq.2.1)
   ·exact ih x hx
 exact all r x hx
theorem MA(ok:lW P w H h)(e:H a=Δ (.dT kvs)):kvs.length<=Z3/\(a==abi)=Ξ/\
  ∃xs,KT H kvs xs/\h.DictOfH (ad3 (bh P w)) a xs:=su ok (.inl e)
end
def pd(H:Hp)(a:Addr)(y:V)(r:Option V):Prop:=
 (∃kvs k,Rd H a (.dK kvs)/\y=kV k/\r=gz kvs k)\/∃kvs k b,Rd H a (.dT kvs)/\y=.ref b/\H b=Δ (.tup (k.map kV))/\r=gz kvs k
def AR(H:Hp)(a:Addr)(y v:V)(H':Hp):Prop:=
 (∃kvs k,H a=Δ (.dK kvs)/\y=kV k/\kvs.length < Z3/\H'=upd H a (.dK (putK kvs k v)))\/
 ∃kvs k b,H a=Δ (.dT kvs)/\y=.ref b/\H b=Δ (.tup (k.map kV))/\kvs.length < Z3/\H'=upd H a (.dT (putK kvs k v))
theorem pd.k{k:Key}(e:H a=Δ (.dK kvs)):pd H a (kV k) (gz kvs k):=.inl ⟨kvs,k,.inl e,rfl,rfl⟩
theorem pd.t{k:List Key}(e:H a=Δ (.dT kvs))(eb:H b=Δ (.tup (k.map kV))):pd H a (.ref b) (gz kvs k):=.inr ⟨kvs,k,b,.inl e,rfl,eb,rfl⟩
theorem AR.k{k:Key}(e:H a=Δ (.dK kvs))(hl:kvs.length < Z3):AR H a (kV k) v (upd H a (.dK (putK kvs k v))):=.inl ⟨kvs,k,e,rfl,hl,rfl⟩
theorem AR.t{k:List Key}(e:H a=Δ (.dT kvs))(eb:H b=Δ (.tup (k.map kV)))(hl:kvs.length < Z3):
  AR H a (.ref b) v (upd H a (.dT (putK kvs k v))):=.inr ⟨kvs,k,b,e,rfl,eb,hl,rfl⟩
section
variable{X:Cx}{pins:List (Addr×Obj)}{σ:St}{H:Hp}{s:ZR}{a:Addr}{y v:V}{u r:Value}{o:Option V}{A:aaZ}{E:Value->ZR->Prop}
theorem Inv.UR(I:Inv X pins σ H s):abi < s.heap.objs.size:=by have h:ZL < s.heap.objs.size:=(I.mod.glob.keeps I.bk).lt;exact ac9 (by decide) h
theorem Ft(hu:A.units+1 < cLine)(I:Inv X pins σ H s)(g:pd H a y (Δ v))(ry:RelV y u)(h:∀w' s',Inv X pins σ H s'->RelV v w'->Q w' s'):
  wpAny (model X.prog X.w) A (aez (.ref a) u) Q E s:=by
 rcases g with ⟨kvs,k,e,ey,l⟩|⟨kvs,k,b,e,ey,eb,l⟩
 ·subst ey;refine du (λz hd vs rel dd=>?_) (sr I.aN e);obtain⟨w',hw,nX⟩:=lV.some_of (v:=v) (o:=aed vs k) (by rw[l];exact rel.val k);exact wpAny_getItem_of (o9 ry) dd.mapOf hw (h w' _ (I.tok _) nX)
 ·subst ey;obtain rfl:=show u=Z7 b from ry;refine du (λz hd xs rel dd=>?_) (su I.aN e);obtain⟨w',hw,nX⟩:=lV.some_of (v:=v) (o:=(atKey xs k).map (·.2)) (by rw[l];exact rel.val k);obtain⟨p,hp,hp2⟩:=Option.map_eq_some_iff.mp hw;refine wpAny_getItem_heap (acS hu) (qF I.aN eb) dd hp ?_;rw[hp2];exact h w' _ (I.tok _) nX
theorem WZ(hu:A.units+1 < cLine)(I:Inv X pins σ H s)(g:pd H a y o)(ry:RelV y u)(h:∀s',Inv X pins σ H s'->Q (.bool o.isSome) s'):
  wpAny (model X.prog X.w) A (aaQ .In u (.ref a)) Q E s:=by
 rcases g with ⟨kvs,k,e,ey,l⟩|⟨kvs,k,b,e,ey,eb,l⟩
 ·subst ey;refine du (λz hd vs rel dd=>?_) (sr I.aN e);refine wpAny_in_of (o9 ry) hd dd.mapOf ?_;rw[<-(rel.val k).ja,<-l];exact h _ (I.tok _)
 ·subst ey;obtain rfl:=show u=Z7 b from ry;refine du (λz hd xs rel dd=>?_) (su I.aN e);refine wpAny_in_heap (acS hu) (qF I.aN eb) hd dd ?_;have q:=(rel.val k).ja;rw[acu] at q;rw[<-q,<-l];exact h _ (I.tok _)
theorem Ko(hu:A.units+1 < cLine)(I:Inv X pins σ H s)(g:pd H a y o)(ry:RelV y u)(h:∀s',Inv X pins σ H s'->Q (.bool (!o.isSome)) s'):
  wpAny (model X.prog X.w) A (aaQ .NotIn u (.ref a)) Q E s:=by
 rcases g with ⟨kvs,k,e,ey,l⟩|⟨kvs,k,b,e,ey,eb,l⟩
 ·subst ey;refine du (λz hd vs rel dd=>?_) (sr I.aN e);refine wpAny_notIn_of (o9 ry) hd dd.mapOf ?_;rw[<-(rel.val k).ja,<-l];exact h _ (I.tok _)
 ·subst ey;obtain rfl:=show u=Z7 b from ry;refine du (λz hd xs rel dd=>?_) (su I.aN e);refine wpAny_notIn_heap (acS hu) (qF I.aN eb) hd dd ?_;have q:=(rel.val k).ja;rw[acu] at q;rw[<-q,<-l];exact h _ (I.tok _)
theorem kQ(I:Inv X pins σ H s)(mu:QW (H a))(hs:ab9 a s.heap h')(he:∃q,h'.get? a=Δ q)(new:bR X.prog X.w (upd H a ob) h' a ob):
  Inv X pins σ (upd H a ob) {s with heap:=h',toks:=t'}:=
 I.write (x:=a) (e:=a) mu (.inl rfl) (λb q hb z=>(hs.2 b hb).trans z) he new
theorem uT(z:kvs.length<=Z3)(hd:(a==abi)=Ξ)(rel:KV kvs vs)(dd:h'.DictOf (bh P w) a vs):
  bR P w H' h' a (.dK kvs):=⟨z,hd,vs,rel,dd⟩
theorem Fu(hu:A.units+1 < cLine)(I:Inv X pins σ H s)(g:AR H a y v H')(ry:RelV y u)(rv:RelV v r)(h:∀s',Inv X pins σ H' s'->Q () s'):
  wpAny (model X.prog X.w) A (setItem (.ref a) u r) Q E s:=by
 rcases g with ⟨kvs,k,e,ey,l,eH⟩|⟨kvs,k,b,e,ey,eb,l,eH⟩
 ·subst ey eH;refine du (λz hd vs rel dd=>?_) (yf I.aN e);have hz:vs.length<=Z3:=by rw[<-rel.length];exact z
  have hl:(putK kvs k v).length<=Z3:=by have:=jH kvs k v;lia
  refine wpAny_setItem_pairs (hsz:=hz) (o9 ry) dd λh' Ay hs=>h _ ?_;have he:∃q,h'.get? a=Δ q:=let ⟨q,_,_,hq,_⟩:=Ay;⟨q,hq⟩
  exact kQ I (by rw[e];exact aa0) hs he (uT hl hd (rel.put k rv) Ay)
 ·subst ey eH;obtain rfl:=show u=Z7 b from ry;refine du (λz hd xs rel dd=>?_) (MA I.aN e);have hz:xs.length<=Z3:=by rw[<-ad0 rel];exact z
  have hl:(putK kvs k v).length<=Z3:=by have:=jH kvs k v;lia
  refine wpAny_setItem_heap (hsz:=hz) (acS hu) (qF I.aN eb) dd λh' Ay hs=>h _ ?_;revert Ay;refine kL λq es ep hq h2 h3 h4 _ h5=>?_;refine kQ I (by rw[e];exact aa0) hs ⟨q,hq⟩ ⟨hl,hd,_,(rel.put k eb rv).keeps λc ys ec=>?_,q,es,ep,hq,h2,h3,h4,h5⟩;rw[av (Ms ec e (λz=>nomatch z))];exact ec
end
section
variable{X:Cx}{pins:List (Addr×Obj)}{σ:St}{H:Hp}{s:ZR}{a:Addr}{kvs:List (Key×V)}{k:Key}{u:Value}{A:aaZ}{E:Value->ZR->Prop}
theorem QA(I:Inv X pins σ H s)(e:H a=Δ (.dK kvs))(ry:RelV (kV k) u)(l:(gz kvs k).isSome=Λ)(h:∀s',Inv X pins σ (upd H a (.dK (o6 kvs k))) s'->Q () s'):
  wpAny (model X.prog X.w) A (delItem (.ref a) u) Q E s:=by
 refine du (λz hd vs rel dd=>?_) (yf I.aN e);refine wpAny_delItem_slot dd.typeIs (by decide) PySem.F.slot_dict_delitem
  (adF PySem.F.slot_dict_delitem dd.typeIs PySem.F.entry_dict_delitem (PySem.F.args_dict_delitem_2 _ _) (meets_dict_delitem_pairs (bh X.prog X.w) a (o9 ry)) ⟨vs,dd,by rw[<-rel.length];exact z,by rw[<-(rel.val k).ja];exact l,λh' Ay hs=>h _ ?_⟩)
 have he:∃q,h'.get? a=Δ q:=let ⟨q,_,_,hq,_⟩:=Ay;⟨q,hq⟩
 exact kQ I (by rw[e];exact aa0) hs he (uT (aap (AQ kvs k) z) hd (rel.drop k) Ay)
theorem RI(I:Inv X pins σ H s)(e:H a=Δ (.dK kvs))(ry:RelV (kV k) u)(l:gz kvs k=Δ v)(hm:more=[]\/∃x,more=[x])(h:∀w' s',Inv X pins σ (upd H a (.dK (o6 kvs k))) s'->RelV v w'->Q w' s'):wpAny (model X.prog X.w) A (call (.builtin "dict.pop") (.ref a::u::more)) Q E s:=by
 refine du (λz hd vs rel dd=>?_) (yf I.aN e);obtain⟨w',hw,nX⟩:=lV.some_of (v:=v) (o:=aed vs k) (by rw[<-l];exact rel.val k);have hp:(keyPart u).isSome=Λ:=by cases k with|inl i=>obtain⟨t,q⟩:=(show ∃t,u=adp i t from ry);subst q;rfl|inr x=>obtain⟨t,q⟩:=(show ∃t,u=ado x t from ry);subst q;rfl
 have ha:argsOk "dict.pop" ⟨.ref a::u::more,[]⟩:=by
  rcases hm with q|⟨x,q⟩;·subst q;exact PySem.F.args_dict_pop_2 _ _
  ·subst q;exact PySem.F.args_dict_pop_3 _ _ _
 refine adF PySem.F.slot_dict_pop dd.typeIs PySem.F.entry_dict_pop ha (meets_dict_pop_there (bh X.prog X.w) a (o9 ry) more hm hp)
  ⟨vs,w',dd,by rw[<-rel.length];exact z,hw,λh' Ay hs=>h w' _ ?_ nX⟩
 have he:∃q,h'.get? a=Δ q:=let ⟨q,_,_,hq,_⟩:=Ay;⟨q,hq⟩
 exact kQ I (by rw[e];exact aa0) hs he (uT (aap (AQ kvs k) z) hd (rel.drop k) Ay)
theorem RJ(I:Inv X pins σ H s)(e:Rd H a (.dK kvs))(h:∀t s',Inv X pins σ H s'->Q (.int kvs.length t) s'):wpAny (model X.prog X.w) A (call (.builtin "len") [.ref a]) Q E s:=by refine du (λz hd vs rel dd=>?_) (sr I.aN e);refine call_len_dict hd dd (by rw[<-rel.length];rw[aa2] at z;lia) ?_;rw[<-rel.length];exact h _ _ (I.tok _)
end
theorem AS(I:Inv X pins σ H s)(g:pd H a y o):s.TypeIs (.ref a) "dict":=by
 rcases g with ⟨kvs,k,e,_,_⟩|⟨kvs,k,b,e,_,_,_⟩
 ·refine du (λ_ _ vs _ dd=>?_) (sr I.aN e);exact dd.typeIs
 ·refine du (λ_ _ xs _ dd=>?_) (su I.aN e);exact dd.typeIs
theorem AU(I:Inv X pins σ H s)(g:pd H a y o):
  ∀b,Z7 a=.ref b->∃ob,s.heap.get? b=Δ ob/\ob.dict=Θ:=λb q=>by
 cases q;rcases g with ⟨kvs,k,e,_,_⟩|⟨kvs,k,b,e,_,_,_⟩
 ·refine hU (λ_ _ vs _ ob _ _ h1 h2 _=>?_) (sr I.aN e);exact⟨ob,h1,h2.2.1⟩
 ·refine hU (λ_ _ xs _ ob _ _ h1 h2 _=>?_) (su I.aN e);exact⟨ob,h1,h2.2.1⟩
section
variable{X:Cx}{o i e value:Expr}{pos pos' Wy:Pos}{td ty tv:TE}
end
theorem AV(h:Heap)(hb:abi < h.objs.size):bR P w H (h.push {cls:=.type "dict",data:=.dict #[]}) h.objs.size (.dK []):=
 ⟨aaB _,beq_eq_false_iff_ne.mpr (aaw (aaa hb)),[],.nil,Heap.DictOf.new h⟩
theorem AW(h:Heap)(hb:abi < h.objs.size):bR P w H (h.push {cls:=.type "dict",data:=.dict #[]}) h.objs.size (.dT []):=
 ⟨aaB _,beq_eq_false_iff_ne.mpr (aaw (aaa hb)),[],.nil,_,#[],0,ZM _ rfl,⟨rfl,rfl,rfl⟩,rfl,rfl,List.nodup_nil⟩
def NW:TE:=λ_ H Q=>∀p,H p=Θ->Q (.ref p) (upd H p (.dK []))
def NX:TE:=λ_ H Q=>∀p,H p=Θ->Q (.ref p) (upd H p (.dT []))
section
variable{X:Cx}{pos:Pos}
theorem Hs:PE X (.Dict [] [] pos) NW:=λpins s σ H Q I h=>wpAny_Dict_empty ⟨.ref s.heap.objs.size,_,I.laid (a:=s.heap.objs.size) (o:=.dK []) (t':=s.toks) (λ_ _ q=>Zt _ q) (ZC _) (AV s.heap I.UR),rfl,h _ (I.aN.fresh (ZC _))⟩
theorem Ht:PE X (.Dict [] [] pos) NX:=λpins s σ H Q I h=>wpAny_Dict_empty ⟨.ref s.heap.objs.size,_,I.laid (a:=s.heap.objs.size) (o:=.dT []) (t':=s.toks) (λ_ _ q=>Zt _ q) (ZC _) (AW s.heap I.UR),rfl,h _ (I.aN.fresh (ZC _))⟩
end
noncomputable def Dc:List (TE×TE)->St->Hp->(List (V×V)->Hp->Prop)->Prop
 |[],_,H,Q=>Q [] H|(tk,tv)::r,σ,H,Q=>tk σ H λx H1=>tv σ H1 λy H2=>Dc r σ H2 λps H3=>Q ((x,y)::ps) H3
abbrev VV:List (V×V)->List (Value×Value)->Prop:=aeK λp q=>RelV p.1 q.1/\RelV p.2 q.2
def US(X:Cx)(pos:Pos)(keys:List (Option Expr))(values:List Expr)(NY:List (TE×TE)):Prop:=
 ∀(pins:List (Addr×Obj)) (s:ZR) (σ:St) (H:Hp) (Q:List (V×V)->Hp->Prop),Inv X pins σ H s->Dc NY σ H Q->
  wpAny (model X.prog X.w) X.A (evalPairs (pairTrees keys values X.env pos)) (λvs s'=>∃ps H',Inv X pins σ H' s'/\VV ps vs/\Q ps H') X.xe s
theorem Eh:US X pos [] [] []:=λpins s σ H Q I h=>pairTrees_nil_walk ⟨[],H,I,.nil,h⟩
theorem AX(hk:PE X k tk)(hv:PE X v tv)(hr:US X pos ks vs NY):
  US X pos (Δ k::ks) (v::vs) ((tk,tv)::NY):=λpins s σ H Q I h=>
 pairTrees_cons_walk (b8 (hk pins s σ H _ I h) λu s1 ⟨x,H1,I1,rx,q1⟩=>b8 (hv pins s1 σ H1 _ I1 q1) λw2 s2 ⟨y,H2,I2,ry,q2⟩=>b8 (hr pins s2 σ H2 _ I2 q2) λws s3 ⟨ps,H3,I3,rel,q3⟩=>⟨(x,y)::ps,H3,I3,.cons ⟨rx,ry⟩ rel,q3⟩)
def qG(kvs more:List (Key×V)):List (Key×V):=more.foldl (λacc kv=>putK acc kv.1 kv.2) kvs
theorem KV.merge:∀{more} {rs} {kvs} {vs},KV more rs->KV kvs vs->KV (qG kvs more) (merged vs rs):=by
 intro more rs kvs vs r;unfold KV at r;induction r generalizing kvs vs with
 |nil=>intro q;exact q|@cons p q ps qs h t ih=>
  intro r0;have e:KV (putK kvs p.1 p.2) (stored vs q.1 q.2):=by have:=r0.put p.1 h.2;rw[<-h.1];exact this
  exact ih e
theorem nC:∀(more kvs),(qG kvs more).length<=kvs.length+more.length
 |[],kvs=>by show kvs.length<=kvs.length+0;lia|p::r,kvs=>by have h1:=nC r (putK kvs p.1 p.2);have h2:=jH kvs p.1 p.2;show(qG (putK kvs p.1 p.2) r).length<=_;rw[ZS];lia
theorem uU:∀{kvs} {ws},VV (kvs.map λkv=>(kV kv.1,kv.2)) ws->∃rs,Carries (bh P w) ws rs/\KV kvs rs
 |[],_,r=>by rw[ab6] at r;cases r;exact⟨[],aa0,.nil⟩|p::kvs,_,r=>by rw[ZH] at r;cases r with|@cons a b as bs h t=>obtain⟨rs,c,q⟩:=uU (P:=P) (w:=w) t;obtain⟨b1,b2⟩:=b;exact⟨(p.1,b2)::rs,⟨o9 h.1,rfl,c⟩,.cons ⟨rfl,h.2⟩ q⟩
def RK(NY:List (TE×TE)):TE:=λσ H Q=>∀p,H p=Θ->Dc NY σ (upd H p (.dK [])) λps H2=>H2 p=Δ (.dK [])/\∃kvs:List (Key×V),ps=kvs.map (λkv=>(kV kv.1,kv.2))/\kvs.length<=15/\Q (.ref p) (upd H2 p (.dK (qG [] kvs)))
theorem Kp(h:US X pos keys values NY)(Dd:keys.all (·.isSome)=Λ)(hl:keys.length=values.length)(h0:keys≠[])(h15:keys.length<=15):PE X (.Dict keys values pos) (RK NY):=by
 intro pins s σ H Q I q;have hn:=I.aN.fresh (ZC s.heap.objs.size);have I1:=I.laid (a:=s.heap.objs.size) (o:=.dK []) (h':=s.heap.push {cls:=.type "dict",data:=.dict #[]}) (t':=s.toks) (λ_ _ q=>Zt _ q) (ZC _) (AV s.heap I.UR);refine wpAny_Dict_walk (knd:=bh X.prog X.w) Dd hl h0 h15 (b8 (h pins _ σ _ _ I1 (q _ hn)) λws s2 W0=>?_);refine cps λgG kG=>?_;obtain⟨ps,H2,I2,rel,e,kvs,ep,lk,q2⟩:=W0;subst ep;obtain⟨rs,c,rk⟩:=uU (P:=X.prog) (w:=X.w) rel;obtain⟨z,hd,vs0,r0,dd⟩:=yf I2.aN e;refine kG ?_;cases r0;refine⟨rs,c,dd,λh' Ay hs=>⟨.ref s.heap.objs.size,_,?_,rfl,q2⟩⟩;have hz:(qG [] kvs).length<=Z3:=by have h1:=nC kvs [];rw[abG] at h1;rw[aa2];lia
 have he:∃q,h'.get? s.heap.objs.size=Δ q:=let ⟨q,_,_,hq,_⟩:=Ay;⟨q,hq⟩
 exact kQ I2 (by rw[e];exact aa0) hs he (uT hz hd (rk.merge .nil) Ay)
structure M1(X:Cx)(o:Expr)(m:Str)(apos:Pos)(e:Expr)(gN:Pos):Prop where
 base:aca o m X.env (eval o X.env)=eval o X.env
 W1:((abC gN (Z9 [e] X.env)).all (λx=>!x.1)&&(adw gN (ack [] X.env)).all (λx=>x.1.isSome)
  &&decide (([e]:List Expr).length+([]:List adU).length+(if([]:List adU).isEmpty then 0 else 1) < 30))=Λ
 line:(apos.endLine==gN.line)=Λ
 trees:abC gN (Z9 [e] X.env)=[(Ξ,eval e X.env)]
structure M2(X:Cx)(o:Expr)(m:Str)(apos:Pos)(e f:Expr)(gN:Pos):Prop where
 base:aca o m X.env (eval o X.env)=eval o X.env
 W1:((abC gN (Z9 [e,f] X.env)).all (λx=>!x.1)&&(adw gN (ack [] X.env)).all (λx=>x.1.isSome)
  &&decide (([e,f]:List Expr).length+([]:List adU).length+(if([]:List adU).isEmpty then 0 else 1) < 30))=Λ
 line:(apos.endLine==gN.line)=Λ
 trees:abC gN (Z9 [e,f] X.env)=[(Ξ,eval e X.env),(Ξ,eval f X.env)]
def UT(H:Hp)(a:Addr):Prop:=(∃kvs,Rd H a (.dK kvs))\/∃kvs,Rd H a (.dT kvs)
theorem De(I:Inv X pins σ H s)(d:UT H a):
  s.TypeIs (.ref a) "dict"/\(∀b,Z7 a=.ref b->∃ob,s.heap.get? b=Δ ob/\ob.dict=Θ)/\(a==abi)=Ξ:=by
 rcases d with ⟨kvs,e⟩|⟨kvs,e⟩
 ·refine du (λ_ hd vs _ dd=>?_) (sr I.aN e);refine⟨dd.typeIs,λb q=>?_,hd⟩;cases q;revert dd;refine cD λob _ _ h1 h2 _=>?_;exact⟨ob,h1,h2.2.1⟩
 ·refine du (λ_ hd xs _ dd=>?_) (su I.aN e);refine⟨dd.typeIs,λb q=>?_,hd⟩;cases q;revert dd;refine cD λob _ _ h1 h2 _=>?_;exact⟨ob,h1,h2.2.1⟩
section
variable{X:Cx}{pins:List (Addr×Obj)}{σ:St}{H:Hp}{s:ZR}{a:Addr}{y d:V}{u r:Value}{o:Option V}{A:aaZ}{E:Value->ZR->Prop}
end
def NZ(td ty:TE):TE:=λσ H Q=>td σ H λx H1=>∃a,x=.ref a/\UT H1 a/\ty σ H1 λy H2=>∃kvs k v,H2 a=Δ (.dK kvs)/\y=kV k/\gz kvs k=Δ v/\Q v (upd H2 a (.dK (o6 kvs k)))
section
variable{X:Cx}{o e f:Expr}{apos gN:Pos}{td ty tx:TE}
theorem Hu(ho:PE X o td)(he:PE X e ty)(m:M1 X o "pop" apos e gN):PE X (.Call (.Attribute o "pop" apos) [e] [] gN) (NZ td ty):=by intro pins s σ H Q I h;refine wpAny_Call_method m.base m.W1 m.line acY PySem.F.slot_dict_pop PySem.F.type_dict_pop (b8 (ho pins s σ H _ I h) λu s1 W2=>?_);obtain⟨x,H1,I1,rx,a,ex,d,q1⟩:=W2;subst ex;obtain rfl:u=Z7 a:=rx;obtain⟨t1,t2,_⟩:=De I1 d;refine⟨t1,t2,?_⟩;rw[m.trees];refine abK rfl (adA (acp (b8 (he pins s1 σ H1 _ I1 q1) λiv s2 ⟨y,H2,I2,ry,kvs,k,v,ea,ey,l,q2⟩=>adb ?_)));subst ey;exact RI I2 ea ry l (.inl rfl) λw' s3 I3 nX=>⟨v,_,I3,nX,q2⟩
end
section
variable{X:Cx}{pins:List (Addr×Obj)}{σ:St}{H:Hp}{s:ZR}{a:Addr}{kvs:List (Key×V)}{A:aaZ}{E:Value->ZR->Prop}
end
section
variable{X:Cx}{pins:List (Addr×Obj)}{σ:St}{H:Hp}{s:ZR}{a:Addr}{y:V}{u:Value}{A:aaZ}{E:Value->ZR->Prop}
end
end L2
namespace Att
open PySem PySem.W PySem.Calls PyProof.Rows
theorem tp:∀(ns) (vs),WellAll P h vs (ns.map WData.int)->IntsAre vs ns:=by intro ns;induction ns with|nil=>intro vs w;rw[ab6] at w;cases w;exact .nil|cons n ns ih=>intro vs w;rw[ZH] at w;cases w with|cons a b=>cases a;exact .cons _ _ (ih _ b)
theorem Fv{l:OpenLaw}(hn:l.most=Δ n)(Kq:l.row.toRowW.claim.pre args=Λ)(UU:WellAll P h vals args):
  ∃a vs ns,vals=[Z7 a]/\args=[WData.list (ns.map WData.int)]/\h.get? a=Δ {cls:=.type "list",data:=.seq vs.toArray}/\IntsAre vs ns/\ns.length<=n:=by
 have Ei:WShape.hasAll [] args [.list .int]=Λ:=(pre_splitW Kq).1;have hc:l.pre.holds [] {args:=args}=Λ:=(pre_splitW Kq).2;refine cps λgG kG=>?_;refine ah (λd r aH h1 h2=>?_) (hasAllW_cons Ei);subst aH;obtain rfl:=hasAllW_nil h2;obtain⟨xs,rfl,h3⟩:=hasW_list h1;obtain⟨ns,rfl⟩:=items_int h3;refine kG ?_;have hlen:ns.length<=n:=by
  unfold OpenLaw.pre at hc;have h4:(WTm.not (.lt (.lit (.int (n:Int))) (.len (.arg 0)))).holds [] {args:=[.list (ns.map .int)]}=Λ:=by have h4:=(holds_andW hc).1;rw[hn] at h4;exact h4
  have h5:=condW_of h4 (w_not (w_lt w_lit (w_len_list (w_arg rfl))));rw[ZA] at h5;refine Nat.le_of_not_lt λq=>?_;have q':(n:Int) < ((ns.length:Nat):Int):=by lia
  first
   |(rw[decide_eq_true q'] at h5;exact absurd h5 (by decide))
   |(simp at h5;lia)
 cases UU with|cons w1 w2=>cases w2;cases w1 with|list ho Dd=>exact⟨_,_,ns,rfl,rfl,ho,tp ns _ Dd,hlen⟩
theorem Fw(l:OpenLaw)args:l.row.toRowW.claim.post args (.bool Λ) args=Λ:=
 postW_of (r:=l.row.toRowW) (X:=(Λ==Λ))
  (show WShape.has [] (.bool Λ) .bool=Λ by first|rfl|decide|simp[WShape.has,WShape.arms,WShape.armsAll])
  (show(WTm.eq .res (.lit (.bool Λ))).value [] {args:=args,res:=Δ (.bool Λ),after:=args}=Δ (.bool (Λ==Λ)) from w_eq_bool (w_res rfl) w_lit) rfl
theorem AY{l:OpenLaw}(hn:l.most=Δ n)(RL:d.params.defaults=[])(call:∀(w:World) (iR bI:ZR) (mg mb:Str->Option Value) (fa:Addr) (o:Obj) (pm cd doc:Value) (a:Addr) (vs:List Value) (ns:List Int),
   Ground q loose [] XP w iR mg mb bI.heap->YP w bI.heap->
   bI.heap.get? fa=Δ o->o.data=.func (docDef d.name d.params d.body d.scope pm cd doc)->bI.heap.CodeRec cd d.name->mg d.name=Δ (.ref fa)->
   bI.heap.get? a=Δ {cls:=.type "list",data:=.seq vs.toArray}->IntsAre vs ns->ns.length<=n->bI.gens=#[]->
   adt (model l.prog w) aeA (.call (.ref fa) ⟨[.ref a],[]⟩) (λr s'=>r=.ok (.ret (.bool Λ))/\OldK bI.heap s'.heap/\s'.os=bI.os/\adV s'.gens) bI):
  WalkO q loose XP YP l.row.toRowW d [] (λf vs=>ae8 f vs):=by
 intro w iR bI mg mb G Y fa o pm cd doc dV kV ho hd oQ hD RM hg args vals as Kq hlay hrd UU hlo;obtain rfl:dV=.none:=Dflts.none hD RL;obtain rfl:kV=.none:=Dflts.noKw hD;refine qu (λa vs ns aH iz Fx hints hlen=>?_) (Fv hn Kq UU);subst aH;subst iz;refine enter_call (adE (call w iR bI mg mb fa o pm cd doc a vs ns G Y ho (fd_plain hd) oQ RM Fx hints hlen hg) λr s' hq=>?_);revert hq;refine jc λaH h2 h3 h4=>?_;subst aH;exact⟨.inl ⟨.bool Λ,.bool Λ,[],rfl,λ_=>rfl,.bool Λ,Fw l _,λ_=>⟨List.Pairwise.nil,λ_ hm=>(nomatch hm)⟩⟩,h2,h3,h4⟩
section
variable{prog:aav}{w:World}{A:aaZ}{E:Value->ZR->Prop}{s:ZR}{K:Frag}
end
end Att
namespace L2
open PySem PySem.Spec PyProof.Rows
theorem yg:∀{vs} {ns},IntsAre vs ns->aY (ns.map V.int) vs
 |_,_,.nil=>.nil|_,_,.cons n t h=>.cons ⟨t,rfl⟩ (yg h)
noncomputable def uk(s:Stmt):ab2:=match s with|.FunctionDef _ a _ _ _ _ _ _ _ _=>a|_=>{posonlyargs:=[],args:=[],vararg:=Θ,kwonlyargs:=[],kw_defaults:=[],kwarg:=Θ,defaults:=[]}
noncomputable def mS(s:Stmt):List Stmt:=match s with|.FunctionDef _ _ b _ _ _ _ _ _ _=>b|_=>[]
noncomputable def ax(s:Stmt):Scope:=match s with|.FunctionDef _ _ _ _ _ _ sc _ _ _=>sc|_=>{kind:=.function,names:=[],isGenerator:=Ξ,isCoroutine:=Ξ}
abbrev w6:JK:=λ_ _ _ _ _ _=>False
abbrev E0:XK:=λ_ _ _=>False
theorem AZ:lZ w6 X E0:=λ_ _ _ _ _ _ _ h=>h.elim
structure oR(K:ZE)(x qual:Str)(st:Stmt)(f:Addr)(fd:abt):Prop where
 ex:∃(oc:Value) (od:Option Addr) (kV doc pm:Value) (an:Option Addr) (lS ct:Value) (Kd:Array (Option Value)),
  fd=ac5 x qual (uk st) (mS st) (ax st) .none kV doc pm an lS ct/\K.lookup f=Δ ⟨oc,od,.func fd,Kd⟩/\aet K lS qual=Λ
 kp:abS K (.ref f)=Λ
section
variable{P:aav}{w:World}{K:ZE}{mg:Str->Option Value}{base:Heap}
theorem oR.binds{st:Stmt}(F:oR K x qual st f fd)(h:∀(kV doc pm:Value) (an:Option Addr) (lS ct:Value) (us:List Value),us.length=ps.length->ae6 (ac5 x qual (uk st) (mS st) (ax st) .none kV doc pm an lS ct) ⟨us,[]⟩=pure (ps.zip us)):Binds K fd ps []:=by obtain⟨oc,od,kV,doc,pm,an,lS,ct,Kd,rfl,lk,oQ⟩:=F.ex;exact .all (h kV doc pm an lS ct)
theorem N1{st:Stmt}{kV doc pm lS ct:Value}(l:K.lookup f=Δ ⟨oc,od,.func (ac5 x qual (uk st) (mS st) (ax st) .none kV doc pm an lS ct),Kd⟩)(c:aet K lS qual=Λ)(k:abS K (.ref f)=Λ):oR K x qual st f (ac5 x qual (uk st) (mS st) (ax st) .none kV doc pm an lS ct):=⟨⟨oc,od,kV,doc,pm,an,lS,ct,Kd,rfl,l,c⟩,k⟩
end
section
variable{X:Cx}
end
def lQ(H H':Hp):Prop:=∀b o,H b=Δ o->H' b=Δ o
theorem lQ.refl H:lQ H H:=λ_ _ h=>h
section
variable{κ:Type}[DecidableEq κ]
end
noncomputable def dZ(env:Env):List (Str×ab5)->List (Str×Addr)->List (Str×Addr)
 |[],cs=>cs|(n,k)::r,cs=>dZ env r (if(k==ZV)=Λ then(n,(env.cells.lookup n).getD 0)::cs else cs)
theorem uV(h:∀x∈sc.names,x.2=.free->∃c,env.cells.lookup x.1=Δ c):adI sc env=pure (dZ env sc.names []):=by
 have go:∀(l:List (Str×ab5)) (cs:List (Str×Addr)),(∀x∈l,x.2=.free->∃c,env.cells.lookup x.1=Δ c)->
   (forIn l cs (λ(x:Str×ab5) (r:List (Str×Addr))=>if(x.2==ZV)=Λ then do let a<-aeX env x.1;pure (aa8 ((x.1,a)::r)) else pure (aa8 r)):Sem (List (Str×Addr)))=pure (dZ env l cs):=by
  intro l;induction l with
  |nil=>intro cs _;rfl|cons x r ih=>
   intro cs hx;obtain⟨n,k⟩:=x;have hr:∀y∈r,y.2=.free->∃c,env.cells.lookup y.1=Δ c:=λy hy=>hx y (Zs _ hy);rw[abZ];by_cases hk:(k==ZV)=Λ
   ·obtain⟨c,hc⟩:=hx (n,k) Zx (by simpa using hk);have e:aeX env n=pure c:=by unfold aeX;simp only at hc;rw[hc]
    simp only[hk,if_true,e];show _=pure (dZ env r (if(k==ZV)=Λ then(n,(env.cells.lookup n).getD 0)::cs else cs));rw[if_pos hk];simp only at hc;rw[hc];exact ih _ hr
   ·simp only[hk];show _=pure (dZ env r (if(k==ZV)=Λ then(n,(env.cells.lookup n).getD 0)::cs else cs));rw[if_neg hk];exact ih _ hr
 have q:=go sc.names [] h;unfold adI;show((forIn sc.names [] (λ(x:Str×ab5) (r:List (Str×Addr))=>if(x.2==ZV)=Λ then do let a<-aeX env x.1;pure (aa8 ((x.1,a)::r)) else pure (aa8 r)):Sem (List (Str×Addr))) >>=λcs=>pure cs)=_;rw[q];rfl
theorem l6:∀{l} {cs},((x,ZV)∈l\/∃c,cs.lookup x=Δ c)->∃c,(dZ env l cs).lookup x=Δ c
 |[],cs,h=>by
  rcases h with h|h;·exact nomatch h
  ·exact h
 |(n,k)::r,cs,h=>by
  show ∃c,(dZ env r (if(k==ZV)=Λ then(n,(env.cells.lookup n).getD 0)::cs else cs)).lookup x=Δ c;refine l6 ?_;rcases h with h|⟨c,h⟩
  ·rcases abM.mp h with e|e;·injection e with e1 e2;subst e1 e2;right;rw[if_pos (by rfl)];exact⟨_,by rw[Z6];simp;rfl⟩
   ·exact .inl e
  ·right;by_cases hk:(k==ZV)=Λ
   ·rw[if_pos hk,Z6];split;·exact⟨_,rfl⟩
    ·exact⟨c,h⟩
   ·rw[if_neg hk];exact⟨c,h⟩
theorem sv:∀{l} {cs},(∀y∈l,y.2=.free->∃d,env.cells.lookup y.1=Δ d)->
  (dZ env l cs).lookup x=Δ c->cs.lookup x=Δ c\/((x,ZV)∈l/\env.cells.lookup x=Δ c)
 |[],cs,_,h=>.inl h|(n,k)::r,cs,hx,h=>by
  have h':(dZ env r (if(k==ZV)=Λ then(n,(env.cells.lookup n).getD 0)::cs else cs)).lookup x=Δ c:=h;rcases sv (λy hy=>hx y (Zs _ hy)) h' with q|⟨q1,q2⟩
  ·by_cases hk:(k==ZV)=Λ
   ·rw[if_pos hk,Z6] at q;split at q
    ·rename_i e;have e':x=n:=by simpa using e
     subst e';have RN:k=.free:=by simpa using hk
     subst RN;obtain⟨d,hd⟩:=hx (x,.free) Zx rfl;simp only at hd;rw[hd] at q;simp only[Option.getD_some] at q;exact .inr ⟨Zx,by rw[hd];exact q⟩
    ·exact .inl q
   ·rw[if_neg hk] at q;exact .inl q
  ·exact .inr ⟨Zs _ q1,q2⟩
section
variable{prog:aav}{w:World}{A:aaZ}{R:Result->ZR->Prop}{s:ZR}
theorem yh(I:Nat->ZR->Prop)(turn:∀n s,I n s->wpAny (model prog w) A (adY it) (λr bI=>match r with
   |none=>R (.ok .next) bI
   |some v=>wpAny (model prog w) A (adC target it v) (λ_ MB=>wpAny (model prog w) A (ae7 target env v) (λ_ AM=>
     wpAny (model prog w) A (forIn ifs Λ λc r=>if r=Λ then do let ok<-aeW c env (eval c env);pure (aa8 ok) else pure (aa8 r)) (λok Fy=>
      if ok=Λ then wpAny (model prog w) A (eval elt env) (λx RO=>wpAny (model prog w) A (call (.builtin "list.append") [acc,x]) (λ_ RP=>∃m,m < n/\I m RP) (λ_ _=>False) RO) (λ_ _=>False) Fy
      else ∃m,m < n/\I m Fy) (λ_ _=>False) AM) (λ_ _=>False) MB) (λ_ _=>False) bI) (λ_ _=>False) s)n(h:I n s):
  adt (model prog w) A (.compLoop (.ListComp elt [⟨target,iter,ifs,0⟩] scope pos) 0 it acc env) R s:=by
 refine codeAny_loop rfl I (λn s hI=>?_) n h;show wpAny _ A ((compTurn (.ListComp elt [⟨target,iter,ifs,0⟩] scope pos) 0 it acc env).onRaise (λx=>do noteFrame x env;theTreesLotGoes x)) _ _ s;refine wpAny_noted ?_;rw[compTurn_list];refine Zv (aeD (Zv (aa9 (turn n s hI) (λr bI dN=>?_) λ_ _ h'=>h'.elim)));cases r with|none=>exact ZT dN|some v=>refine Zv (aa9 dN (λ_ MB RQ=>?_) λ_ _ h'=>h'.elim);refine Zv (aa9 RQ (λ_ AM l7=>Zv (aa9 l7 (λok Fy j0=>?_) λ_ _ h'=>h'.elim)) λ_ _ h'=>h'.elim);cases ok with|false=>exact ZT ⟨rfl,j0⟩|true=>exact Zv (Zv (aa9 j0 (λx RO Fz=>Zv (aa9 Fz (λ_ RP ng=>ZT (ZT ⟨rfl,ng⟩)) λ_ _ h'=>h'.elim)) λ_ _ h'=>h'.elim))
end
theorem kR{env:Env}:∀{names:List (Str×ab5)} {x},names.lookup x=Δ .free->
  (names.map λ(n,k)=>if(k==ZV&&env.scope.kind==.function&&env.kindOf n==Δ .cell) then(n,aa5) else(n,k)).lookup x=Δ .cell\/
  (names.map λ(n,k)=>if(k==ZV&&env.scope.kind==.function&&env.kindOf n==Δ .cell) then(n,aa5) else(n,k)).lookup x=Δ .free
 |[],_,h=>by simp at h|(n,k)::r,x,h=>by
  have ih:=@kR env r x;show abc x ((if(k==ZV&&env.scope.kind==.function&&env.kindOf n==Δ .cell)=Λ then(n,aa5) else(n,k))::_)=_\/abc x ((if(k==ZV&&env.scope.kind==.function&&env.kindOf n==Δ .cell)=Λ then(n,aa5) else(n,k))::_)=_;cases hx:x==n with
  |true=>
   simp only[Z6,hx] at h;obtain rfl:=sj h;by_cases hc:(ZV==ZV&&env.scope.kind==.function&&env.kindOf n==Δ .cell)=Λ;·rw[if_pos hc];simp[Z6,hx]
   ·rw[if_neg hc];simp[Z6,hx]
  |false=>
   simp only[Z6,hx] at h;by_cases hc:(k==ZV&&env.scope.kind==.function&&env.kindOf n==Δ .cell)=Λ;·rw[if_pos hc];simp only[Z6,hx];exact ih h
   ·rw[if_neg hc];simp only[Z6,hx];exact ih h
theorem sA{env:Env}:∀{names:List (Str×ab5)} {x} {q},q=.cell\/q=.free->
  (names.map λ(n,k)=>if(k==ZV&&env.scope.kind==.function&&env.kindOf n==Δ .cell) then(n,aa5) else(n,k)).lookup x=Δ q->∃k,(x,k)∈names/\(k=.free\/k=.cell)
 |[],_,_,_,h=>by simp at h|(n,k)::r,x,q,hq,h=>by
  have h':abc x ((if(k==ZV&&env.scope.kind==.function&&env.kindOf n==Δ .cell)=Λ then(n,aa5) else(n,k))::(r.map λ(n,k)=>if(k==ZV&&env.scope.kind==.function&&env.kindOf n==Δ .cell) then(n,aa5) else(n,k)))=Δ q:=h;cases hx:x==n with
  |true=>
   have e:x=n:=by simpa using hx
   by_cases hc:(k==ZV&&env.scope.kind==.function&&env.kindOf n==Δ .cell)=Λ
   ·have hk:k=.free:=by simp only[Zr] at hc;simpa using hc.1.1
    exact⟨k,by rw[e];exact Zx,.inl hk⟩
   ·rw[if_neg hc] at h';simp only[Z6,hx] at h';obtain rfl:=sj h';exact⟨k,by rw[e];exact Zx,hq.symm⟩
  |false=>
   have h2:abc x (r.map λ(n,k)=>if(k==ZV&&env.scope.kind==.function&&env.kindOf n==Δ .cell) then(n,aa5) else(n,k))=Δ q:=by
    by_cases hc:(k==ZV&&env.scope.kind==.function&&env.kindOf n==Δ .cell)=Λ;·rw[if_pos hc] at h';simpa only[Z6,hx] using h'
    ·rw[if_neg hc] at h';simpa only[Z6,hx] using h'
   obtain⟨k',m,z⟩:=sA hq h2;exact⟨k',Zs _ m,z⟩
def nY(X:Cx)(pins:List (Addr×Obj))(N:List Str)(sc:Scope)(fp:List Addr)(C:Addr)(s:ZR)(H:Hp):Cx where
 prog:=X.prog
 w:=X.w
 K:=X.K
 mg:=X.mg
 base:=X.base
 A:=X.A
 N:=N
 iR:=s
 AI:=H
 env:=compEnvC sc (dZ X.env sc.names []) C X.env
 outer:=X.stack
 stack:=X.stack
 ex:=fp
 calm:=X.calm
 fn:=λ_=>Ξ
 pn:=X.pn++pins
 xe:=λ_ _=>False
structure kT(X:Cx)(N:List Str)(ts:Nat)(js:List Nat)(sc:Scope):Prop where
 kind:sc.kind=.function
 len:N.length=ts+js.length
 gO:∀x∈sc.names,x.2≠.cell
 names:∀x∈sc.names,x.2=.local->sc.names.lookup x.1=Δ .local
 frees:∀x∈sc.names,x.2=.free->X.env.kindOf x.1=Δ .cell\/X.env.kindOf x.1=Δ .free
 slots:∀(i:Nat) (y:Str) (j:Nat),N[ts+i]?=Δ y->js[i]?=Δ j->X.N[j]?=Δ y/\sc.names.lookup y=Δ .free
noncomputable def jI(ts:Nat)(js:List Nat)(σ:St):St:=aaS ts Θ++js.map λj=>(σ[j]?).join
section
variable{X:Cx}{pins:List (Addr×Obj)}{σ:St}{H:Hp}{s:ZR}{N:List Str}{ts:Nat}{js:List Nat}{sc:Scope}{fp:List Addr}
theorem kT.cl(B:kT X N ts js sc)(ok:X.Ok):∀x∈sc.names,x.2=.free->∃c,X.env.cells.lookup x.1=Δ c:=λx hx hk=>ok.has x.1 (B.frees x hx hk)
theorem kT.get(B:kT X N ts js sc)(ok:X.Ok)(h:(dZ X.env sc.names []).lookup x=Δ c):X.env.cells.lookup x=Δ c:=by
 rcases sv (B.cl ok) h with q|⟨_,q⟩;·exact aQ q
 ·exact q
theorem Inv.W3(I:Inv X pins σ H s)(f:nT X pins H b):b∉kI X.stack:=λz=>by
 rcases abM.mp (I.qy b z) with e|e;·exact f.2.1 e
 ·exact f.2.2.1 e
theorem Inv.okB(I:Inv X pins σ H s)(B:kT X N ts js sc)(hf:∀b∈fp,nT X pins H b)(ho:∀b∈fp,b < s.heap.objs.size):(nY X pins N sc fp s.heap.objs.size s H).Ok where
 mod:=I.ok.mod
 kind:=B.kind
 glob:=I.ok.glob
 blt:=I.ok.blt
 above:=ZC _
 inj:=λx y c h1 h2=>I.ok.inj x y c (B.get I.ok h1) (B.get I.ok h2)
 has:=λx hx=>by
  have yi:∃q,(q=aa5\/q=.free)/\(sc.names.map λ(n,k)=>if(k==ZV&&X.env.scope.kind==.function&&X.env.kindOf n==Δ .cell) then(n,aa5) else(n,k)).lookup x=Δ q:=by
   rcases hx with h|h;·exact⟨_,.inl rfl,h⟩
   ·exact⟨_,.inr rfl,h⟩
  revert yi;refine dJ λq hq hl=>?_;obtain⟨k,hm,hk⟩:=sA hq hl;have RN:k=.free:=hk.resolve_right (B.gO _ hm);subst RN;exact l6 (.inl hm)
 Nm:=λx c h=>absurd (show Ξ=Λ from h) aat
 hd:=I.ok.hd
 frames:=I.ok.frames
 QZ:=.inl rfl
 VH:=λb hb=>⟨aaa (ho b hb),λx c h=>(hf b hb).2.2.2.2.1 x c (B.get I.ok h)⟩
 bs:=I.bs
 GL:=aap I.ok.GL I.sz
 E9:=λb o e hb=>by
  rcases(hf b hb).2.2.2.1 with z|z;·exact I.ok.E9 b o e z
  ·exact absurd (ZZ (ZN e) (aap I.ok.GL z)) (abg _)
 GX:=λb hb=>I.W3 (hf b hb)
 nR:=I.stack
 JW:=I.oW
theorem Inv.block(I:Inv X pins σ H s)(B:kT X N ts js sc)(hf:∀b∈fp,nT X pins H b)(ho:∀b∈fp,b < s.heap.objs.size)(hn:h'.Ns s.heap.objs.size m)(k:∀b o,s.heap.get? b=Δ o->h'.get? b=Δ o):Inv (nY X pins N sc fp s.heap.objs.size s H) [] (jI ts js σ) H {s with heap:=h',toks:=tk}:=by
 refine⟨I.okB B hf ho,rfl,I.bare,Un.kept k,⟨m,hn,λi y v h1 h2 h3=>?_⟩,λx c h=>?_,I.aN.fresh (ZC _),λx c h=>I.lH x c (B.get I.ok h),λp hp=>?_,I.aN.kept k,?_⟩
 ·have hi:ts<=i:=by
   by_cases hi:ts<=i;·exact hi
   ·unfold jI at h2;rw[Zy (by simpa using hi),acj] at h2;split at h2<;>cases h2
  obtain⟨d,rfl⟩:∃d,i=ts+d:=⟨i - ts,by lia⟩;have um:(js.map λj=>(σ[j]?).join)[d]?=Δ (Δ v):=by unfold jI at h2;rw[ZX (by simp)] at h2;simpa using h2
  rw[ZD] at um;cases ej:js[d]? with
  |none=>rw[ej] at um;exact aQ um|some j=>
   rw[ej] at um;have h4:(σ[j]?).join=Δ v:=by simpa using um
   have h5:σ[j]?=Δ (Δ v):=by cases e:σ[j]? with|none=>rw[e] at h4;exact aQ h4|some o=>rw[e] at h4;simp at h4;rw[h4]
   obtain⟨g1,g2⟩:=B.slots d y j h1 ej;have hm:(y,ZV)∈sc.names:=aaq g2;have hk:=B.frees _ hm rfl;refine dJ (λm0 hn0 hl0=>?_) (I.loc);have hv:QY X.env.scope y:=by
    rcases hk with z|z;·exact .inr (.inl z)
    ·exact .inr (.inr z)
   obtain⟨u,ru,lk⟩:=hl0 j y v g1 h5 hv;refine⟨u,ru,.inr ⟨kR g2,?_⟩⟩;rcases lk with ⟨z,_⟩|⟨_,c,hc,oY⟩
   ·rcases hk with z'|z'<;>(rw[z] at z';cases z')
   ·obtain⟨c',CF⟩:=l6 (env:=X.env) (l:=sc.names) (cs:=[]) (.inl hm);have e:=B.get I.ok CF;rw[hc] at e;obtain rfl:=sj e;obtain⟨o,qx,JI⟩:=oY;exact⟨c,CF,o,k _ _ qx,JI⟩
 ·refine bg (λv o qx JI=>?_) (I.cell x c (B.get I.ok h));exact⟨v,o,k _ _ qx,JI⟩
 ·have Hv:p∈X.pn++pins:=by simpa[nY] using hp
  refine kJ (λe n ne nf d=>?_) (I.pin p Hv);refine⟨k _ _ e,n,aaa (ZN e),λz=>?_,d⟩;rcases abM.mp (I.qy p.1 z) with q|q;·exact ne q
  ·exact nf q
 ·show(jI ts js σ).length=N.length;unfold jI;rw[ZW,acs,ZA,B.len]
end
noncomputable def Hw(X:Cx)(ifs:List Expr)(t:TT):Prop:=
 ∀(pins:List (Addr×Obj)) (s:ZR) (σ:St) (H:Hp) (Q:Bool->Hp->Prop),Inv X pins σ H s->t σ H Q->
  wpAny (model X.prog X.w) X.A (forIn ifs Λ λc r=>if r=Λ then do let ok<-aeW c X.env (eval c X.env);pure (aa8 ok) else pure (aa8 r)) (TP X pins σ Q) X.xe s
def W4:TT:=λ_ H Q=>Q Λ H
theorem Kr:Hw X [] W4:=λ_ _ _ H _ I h=>wpAny_tests_nil ⟨H,I,h⟩
theorem Ks(h:PT X c t):Hw X [c] t:=λpins s σ H Q I q=>wpAny_tests_one (h pins s σ H Q I q)
def A0(wi:TI)(g:TG)(tc:TT)(te:TE)(ts:Nat)(js:List Nat):TE:=λσ H Q=>wi σ H λJ H1=>∀acc,H1 acc=Θ->
 ∃W:Nat->Nat->St->Hp->Prop,(∃m,W 0 m (jI ts js σ) (upd H1 acc (.lst [])))/\∀i m τ H,W i m τ H->
  (J.stop i H/\Q (.ref acc) H)\/(J.go i H/\∀x H',J.Rg i H x H'->g x τ H' λUW H2=>tc UW H2 λb H3=>
   if b=Λ then te UW H3 λy H4=>∃ys,H4 acc=Δ (.lst ys)/\ys.length < Z3/\∃m',m' < m/\W (i+1) m' UW (upd H4 acc (.lst (ys++[y])))
   else ∃m',m' < m/\W (i+1) m' UW H3)
section
variable{X:Cx}{elt iter tg:Expr}{ifs:List Expr}{sc:Scope}{pos:Pos}{N:List Str}{ts:Nat}{js:List Nat}{wi:TI}{g:TG}{tc:TT}{te:TE}
theorem Inv.A1(I:Inv X pins σ H s)(hf:∀b∈fp,nT X pins H b)(J:Inv (nY X pins N sc fp s.heap.objs.size s H) [] τ H' s')(sb:ab9 s.heap.objs.size s'.heap h''):Inv X pins σ H' {s' with heap:=h''}:=by
 have hC:H' s.heap.objs.size=Θ:=J.free;have k:∀b o,b≠s.heap.objs.size->s'.heap.get? b=Δ o->h''.get? b=Δ o:=λb o hb e=>sb.extBut b o hb e;have ne:∀b o,s.heap.get? b=Δ o->b≠s.heap.objs.size:=λb o e=>aaa (ZN e);have u:Un (kI X.stack) fp H H' s.heap h'':=
  ⟨λb o e n hb hx=>k b o (ne b o e) (J.base.keep b o e n hb hx),
   λb o e n hb hx=>by
   obtain⟨sl,q⟩:=J.base.slot b o e n hb hx;exact⟨sl,k b _ (ne b o e) q⟩,
   J.base.free,
   λb o e hx=>by
   obtain⟨o',q⟩:=J.base.there b o e hx;exact⟨o',k b _ (ne b o e) q⟩,
   J.base.uJ,J.base.qw,J.base.sX⟩
 have aN:lW X.prog X.w H' h'':=λb ob e=>by
  refine(J.aN b ob e).oU (λc v hc q=>k c v ?_ q) (λ_ q=>q) λ_ _ q=>q;rintro rfl;rcases hc with z|z;·rw[z] at hC;rw[hC] at e;exact aQ e
  ·rw[hC] at z;exact aQ z
 exact I.G0 (s':={s' with heap:=h''}) (ch:=fp) J.os u aN J.bare λb hb=>⟨(hf b hb).2.2.2.1,(hf b hb).2.1,(hf b hb).2.2.2.2.1,(hf b hb).2.2.2.2.2⟩
theorem Ej(hc:X.calm=Λ)(B:kT X N ts js sc)(hi:PI X tg iter wi)
  (hg:∀pins fp C s H,PG (nY X pins N sc fp C s H) tg g) (ht:∀pins fp C s H,Hw (nY X pins N sc fp C s H) ifs tc) (he:∀pins fp C s H,PE (nY X pins N sc fp C s H) elt te)
  (hs:∀x,adN iter X.env x=pure x:=by intro _;rfl):PE X (.ListComp elt [⟨tg,iter,ifs,0⟩] sc pos) (A0 wi g tc te ts js):=by
 intro pins s σ H Q I h;rw[eval_ListComp];refine wpAny_comprehension_free (use:=Θ) rfl hs (uV (B.cl I.ok)) B.kind B.names (b8 (hi pins s σ H _ I h) λv s1 h1=>b8 h1 λUI s2 h2=>?_);refine cps λgG kG=>?_;obtain⟨it,fp,tn,J,H2,e,I2,T,st2,f2,um⟩:=h2;subst e;have FA:H2 s2.heap.objs.size=Θ:=I2.aN.fresh (ZC _);obtain⟨W,⟨m0,w0⟩,turn⟩:=um s2.heap.objs.size FA;refine kG ?_;refine ab3 (acw B.gO (by intro y hy;simp at hy) (λdN Df Dg=>?_) B.kind);obtain⟨s3,Kt⟩:∃s3:ZR,({s2 with heap:=s2.heap.push {cls:=.type "list",dict:=Θ,data:=.seq ([]:List Value).toArray}}:ZR)=s3:=⟨_,rfl⟩;have e3:s3.heap=s2.heap.push {cls:=.type "list",dict:=Θ,data:=.seq ([]:List Value).toArray}:=by rw[<-Kt]
 have Dh:dN.Ns s3.heap.objs.size λx=>([]:List (Str×Value)).reverse.lookup x:=by rw[e3];exact Df
 have Di:ab9 s3.heap.objs.size (s3.heap.push {cls:=.type (if(Δ X.env).isSome then "dict" else "frame"),data:=.dict #[]}) dN:=by rw[e3];exact Dg
 have I3:Inv X pins σ (upd H2 s2.heap.objs.size (.lst [])) s3:=by rw[<-Kt];exact I2.laid (t':=s2.toks) (λb u e=>Zt _ e) (ZC _) ⟨aaB _,[],0,.nil,ZM _ rfl⟩
 have RR:∀b∈fp,b < s2.heap.objs.size:=λb hb=>by obtain⟨o,e,_⟩:=T.obj _ _ st2 b hb;exact ZN e
 have f3:∀b∈fp,nT X pins (upd H2 s2.heap.objs.size (.lst [])) b:=λb hb=>⟨by rw[av (aaa (RR b hb))];exact(f2 b hb).1,(f2 b hb).2⟩;have W5:s2.heap.objs.size < s3.heap.objs.size:=by rw[e3,aaT];exact abb _
 have RS:∀b∈fp,b < s3.heap.objs.size:=λb hb=>ac9 (RR b hb) W5;have k1:∀b o,s3.heap.get? b=Δ o->dN.get? b=Δ o:=λb o e=>Di.extBut b o (aaa (ZN e)) (Zt _ e);have IB:=I3.block (tk:=s3.toks+([]:List (Str×Value)).length) (N:=N) B f3 RS Dh k1;have nE:tn 0 dN:=T.keep _ _ _ st2 λb hb o e=>k1 b o (by rw[e3];exact Zt _ e);have uM:∀{H':Hp},(∀b∈fp,H' b=Θ)->∀b∈fp,nT (nY X pins N sc fp s3.heap.objs.size s3 (upd H2 s2.heap.objs.size (.lst []))) [] H' b:=λhn b hb=>⟨hn b hb,aaa (RS b hb),I3.W3 (f3 b hb),.inl hb,λx c h=>(f3 b hb).2.2.2.2.1 x c (B.get I3.ok h),λp hp=>(f3 b hb).2.2.2.2.2 p (by simpa[nY] using hp)⟩;have loop:adt (model X.prog X.w) X.A (.compLoop (.ListComp elt [⟨tg,iter,ifs,0⟩] sc pos) 0 (.ref it) (.ref s2.heap.objs.size) (compEnvC sc (dZ X.env sc.names []) s3.heap.objs.size X.env))
   (compPost (model X.prog X.w) X.A X.xe Θ (EP X pins σ Q) (.ref s2.heap.objs.size) s3.heap.objs.size) {s3 with heap:=dN,toks:=s3.toks+([]:List (Str×Value)).length}:=by
  refine yh (λn s'=>∃i τ H',Inv (nY X pins N sc fp s3.heap.objs.size s3 (upd H2 s2.heap.objs.size (.lst []))) [] τ H' s'/\tn i s'.heap/\(∀b∈fp,H' b=Θ)/\W i n τ H') ?_ m0
   ⟨0,jI ts js σ,_,IB,nE,λb hb=>(f3 b hb).1,w0⟩
  intro n s5 Q4;revert Q4;refine br λi τ H5 I5 CT Nz w5=>?_;rcases turn i n τ H5 w5 with ⟨stop,qn⟩|⟨go,step⟩
  ·refine b8 (T.done (nY X pins N sc fp s3.heap.objs.size s3 (upd H2 s2.heap.objs.size (.lst []))) rfl rfl rfl hc i [] s5 τ H5 (λ_ _=>False) I5 (uM Nz) CT stop) λr s6 tm=>?_;obtain⟨hr,I6⟩:=tm;subst hr;refine dJ (λm hn _=>?_) (I6.loc);exact⟨m,hn,λh' xg=>⟨.ref s2.heap.objs.size,H5,I3.A1 f3 I6 xg,rfl,qn⟩⟩
  ·refine b8 (T.item (nY X pins N sc fp s3.heap.objs.size s3 (upd H2 s2.heap.objs.size (.lst []))) rfl rfl rfl hc i [] s5 τ H5 (λ_ _=>False) I5 (uM Nz) CT go) λr s6 Ku=>?_;revert Ku;refine dJ λu hr h6=>?_;subst hr;refine b8 h6 λ_ s7 N2=>?_;revert N2;refine bq λx H7 I7 r7 y7 N3 W6=>?_;have W7:=I7.pinned (uM W6) (T.obj _ _ N3);refine b8 (hg _ _ _ _ _ _ s7 τ H7 x u _ W7 r7 (step x H7 y7)) λ_ s8 RT=>?_;revert RT;refine bg λKv H8 I8 q8=>?_;refine b8 (ht _ _ _ _ _ _ s8 Kv H8 _ I8 q8) λok s9 W8=>?_;obtain⟨H9,I9,q9⟩:=W8;have again:∀{s':ZR} {Kw:St} {H':Hp},Inv (nY X pins N sc fp s3.heap.objs.size s3 (upd H2 s2.heap.objs.size (.lst []))) ([]++qz fp s7.heap) Kw H' s'->(∃m',m' < n/\W (i+1) m' Kw H')->
     ∃m,m < n/\∃i τ H',Inv (nY X pins N sc fp s3.heap.objs.size s3 (upd H2 s2.heap.objs.size (.lst []))) [] τ H' s'/\tn i s'.heap/\(∀b∈fp,H' b=Θ)/\W i m τ H':=λ{s' Kw H'} I' gy=>by
    obtain⟨m',hm,w'⟩:=gy;refine⟨m',hm,i+1,Kw,H',I'.ki,T.keep _ _ _ N3 λb hb o e=>(I'.pin (b,o) (Z8 _ (Z8 _ (fw hb e)))).1,λb hb=>?_,w'⟩;obtain⟨o,e,d⟩:=T.obj _ _ N3 b hb;exact(I'.pin (b,o) (Z8 _ (Z8 _ (fw hb e)))).2.1
   cases ok with|false=>exact again I9 q9|true=>refine b8 (he _ _ _ _ _ _ s9 Kv H9 _ I9 q9) λxv RU RV=>?_;obtain⟨y,W9,Xa,Xb,ys,ha,hz,Xc⟩:=RV;refine b8 (qE _ RU Kv W9 (.ref s2.heap.objs.size) [y] (.ref s2.heap.objs.size) [xv] (λ_ H'=>∃m',m' < n/\W (i+1) m' Kv H') Xa rfl (.cons Xb .nil) ⟨_,ys,y,rfl,rfl,ha,hz,Xc⟩) λ_ s11 Xd=>?_;obtain⟨_,H11,Xe,_,Xf⟩:=Xd;exact again Xe Xf
 subst Kt;exact codeAny_compStart_list loop (T.self _ 0 _ _ _ nE loop)
end
end L2
namespace L2
open PySem
end L2
namespace L2
open PySem PySem.Spec PyProof.Rows PySem.SeqAt
open PySem.AutoSeq1 (wpAny_loadPart')
def fS(t T:String):Bool:=t==T||(t=="bool"&&T=="int")
noncomputable def RW(H:Hp):V->Option String
 |.bG=>Δ "NoneType"|.bl _=>Δ "bool"|.int _=>Δ "int"|.str _=>Δ "str"|.ref a=>match H a with|some (.lst _)=>Δ "list"|some (.tup _)=>Δ "tuple"|_=>Θ
 |_=>Θ
theorem N4(h:RW H v=Δ t):t="NoneType"\/t="bool"\/t="int"\/t="str"\/t="list"\/t="tuple":=by
 cases v with
 |ref a=>
  unfold RW at h;simp only at h;split at h<;>first
   |(cases h;simp)
   |exact aQ h
 |_=>first
  |(cases h;simp)
  |exact aQ h
theorem Kx{K:ZE}(h:RW H v=Δ t):nW K H v (.type t):=by
 cases v with
 |bG=>obtain rfl:=sj h;exact .bG|bl b=>obtain rfl:=sj h;exact .bl b|int i=>obtain rfl:=sj h;exact .int i|str x=>obtain rfl:=sj h;exact .str x|ref a=>
  unfold RW at h;simp only at h;split at h;·rename_i xs e;obtain rfl:=sj h;exact .lst e
  ·rename_i xs e;obtain rfl:=sj h;exact .tup e
  ·exact aQ h
 |_=>exact aQ h
theorem uo K(ht:t="NoneType"\/t="bool"\/t="int"\/t="str"\/t="list"\/t="tuple")(hT:T="int"\/T="bool"\/T="tuple"\/T="str"\/T="list"):
  aes K (.type t) (.type T)=Δ (fS t T):=by
 rcases ht with rfl|rfl|rfl|rfl|rfl|rfl<;>rcases hT with rfl|rfl|rfl|rfl|rfl<;>first
  |rfl
  |kernel_rfl
section
variable{X:Cx}
theorem bu(h:H p=Θ)o:lQ H (upd H p o):=λb u q=>by rw[av (aR q h)];exact q
def MC:R2:=λx y H Q=>∃a b xs ys,x=.ref a/\y=.ref b/\H a=Δ (.tup xs)/\H b=Δ (.tup ys)/\xs.length+ys.length<=Z3/\∀r H',lQ H H'->H' r=Δ (.tup (xs++ys))->Q (.ref r) H'
theorem Ky:kj X (abp .Add) MC:=by
 intro pins s σ H x y v u Q I rx ry h;revert h;refine fD λa b xs ys aH iz ha hb hz q=>?_;subst aH;subst iz;obtain rfl:=rx;obtain rfl:=ry;refine aB (λits r1 p1 _=>?_) (I.tuple (g7.of ha));refine aB (λHo r2 p2 _=>?_) (I.tuple (g7.of hb));by_cases hx:xs=[]
 ·subst hx;cases r1;refine eV (λCN ho hc n hd=>?_) (id p1);obtain⟨cls,dd,data,sl⟩:=CN;refine eV (λN5 JM Rx n2 hd2=>?_) (id p2);obtain⟨WL,UN,data2,UO⟩:=N5;simp only at hc hd Rx hd2;subst hc hd Rx hd2;exact aeM ⟨_,ho,rfl⟩ ⟨_,JM,rfl⟩ ad4 aeF ac7 ac0 (acN _ _)
   (tuple_addW0 a b ([]:List Value).toArray Ho.toArray n n2 dd UN sl UO (by simp)) ⟨ho,JM,⟨.ref b,H,I,rfl,q b H (lQ.refl H) hb⟩⟩
 ·refine Kk pins s σ H (.ref a) (.ref b) _ _ Q I rfl rfl ⟨a,b,xs,ys,rfl,rfl,g7.of ha,g7.of hb,hx,hz,λe=>?_,λe p hp=>?_⟩;·subst e;exact q a H (lQ.refl H) (by rw[aau];exact ha)
  ·exact q p _ (bu hp _) aG
theorem gP:fillsNumberSlot (.type "tuple") "mul"=pure Ξ:=
 PySem.fillsNumberSlot_seq (id:="tuple.__mul__") (r:=Δ (.builtin "tuple.__rmul__")) ac6.lookup (by decide+kernel) PySem.F.slot_tuple_rmul.lookup (by decide+kernel)
theorem kU:seqRepeat? (.type "tuple")=pure (Δ (.builtin "tuple.__mul__")):=by unfold seqRepeat?;rw[PySem.seqSlot_of (T:="tuple") (name:="__mul__") (id:="tuple.__mul__") ac6.lookup (by decide+kernel),PySem.seqSlot_of (T:="tuple") (name:="__rmul__") (id:="tuple.__rmul__") PySem.F.slot_tuple_rmul.lookup (by decide+kernel)];rfl
theorem jf a t l items n d sl:
  Meets (adu.«int.__rmul__» ⟨[.int a t,.ref l],[]⟩) (λ_ R s=>s.heap.get? l=Δ {cls:=.type "tuple",dict:=d,data:=.seq items n,slots:=sl}/\R (.ok (.ret Value.notImplemented)) s):=
 .of_wp λprog w A R s h=>by obtain⟨hp,g,d,tk,os⟩:=s;obtain⟨hl,h⟩:=h;wp_walk;exact⟨_,rfl,h⟩
theorem Dj l items n d sl u(fT:¬items.isEmpty=Λ)(hz:items.size*2<=1000000):
  Meets (adu.«tuple.__mul__» ⟨[.ref l,.int 2 u],[]⟩) (λ_ R s=>s.heap.get? l=Δ {cls:=.type "tuple",dict:=d,data:=.seq items n,slots:=sl}/\
   R (.ok (.ret (Z7 s.heap.objs.size))) {s with heap:=s.heap.push {cls:=acm "tuple",data:=Data.seq (#[]++items++items)},toks:=s.toks}):=
 .of_wp λprog w A R s h=>by
  obtain⟨hp,g,dr,tk,os⟩:=s;obtain⟨hl,h⟩:=h;have f1:=aec;have h1:¬((items.size:Int)*2 > (2 ^ 63 - 1) / 8):=by lia
  have h2:¬aaU ((items.size:Int)*2)=Λ:=by
   unfold aaU;simp[Z3]
   lia
  have h3:(items.isEmpty||(2:Int)==1)=Ξ:=by simpa using fT
  have h4:((2:Int)<=0||items.isEmpty)=Ξ:=by simpa using fT
  wp_walk using aa7 hl
  rw[if_neg h1];show wpAny _ _ (if aaU ((items.size:Int)*2)=Λ then _ else _) _ _ _;rw[if_neg h2];have hsz:sizeOk (.seq (adK (λx1 x2=>x1++x2) #[] (aaS (aea 2) items))):=by
   show(adK (λx1 x2=>x1++x2) #[] (aaS (aea 2) items)).size<=Z3;show(#[]++items++items).size<=Z3;simp[Z3]
   lia
  show wpAny _ _ (ace (adK (λx1 x2=>x1++x2) #[] (aaS (aea 2) items)) >>=λv=>ret v) _ _ _;exact Zv (m:=ace _) (ab3 (ZT ⟨_,rfl,h⟩) hsz)
def MD:R2:=λx y H Q=>∃a xs,x=.ref a/\y=.int 2/\H a=Δ (.tup xs)/\xs≠[]/\xs.length<=100000/\∀p,H p=Θ->Q (.ref p) (upd H p (.tup (xs++xs)))
theorem Hx:kj X (abp .Mult) MD:=by
 intro pins s σ H x y v u Q I rx ry h;revert h;refine cw λa xs aH iz ha fT hz q=>?_;subst aH;subst iz;obtain rfl:=rx;obtain⟨t,rfl⟩:=ry;refine aB (λits r ht RX=>?_) (I.tuple (g7.of ha));have hl:=r.length;refine eV (λFb ho hc n hd=>?_) (id ht);obtain⟨cls,dd,data,sl⟩:=Fb;simp only at hc hd;subst hc hd;have zw:¬its.toArray.isEmpty=Λ:=by
  intro z;have:its=[]:=by simpa using z
  exact fT (r.o4.mp this)
 refine acI (T:="tuple") (U:="int") (by decide) ⟨_,ho,rfl⟩ (λs'=>adl s' 2 t) gP adg abq kU PySem.F.slot_int_index.lookup
  (acT abq (adl s 2 t) ac8 (ac1 _ _) (jf 2 t a its.toArray n dd sl)
   ⟨ho,rfl,⟨_,ho,rfl⟩,acT ac6 ⟨_,ho,rfl⟩ acZ (acM _ _)
    (Dj a its.toArray n dd sl t zw (by rw[ZQ];lia)) ⟨ho,?_⟩⟩)
 refine⟨.ref s.heap.objs.size,_,I.laid (t':=s.toks) (o:=.tup (xs++xs)) (λb ob q=>Zt _ q) (ZC _) ?_,rfl,q _ (I.aN.fresh (ZC _))⟩;refine⟨by rw[ZW,aa2];lia,its++its,r.append r,?_⟩;have e:(#[]++its.toArray++its.toArray:Array Value)=(its++its).toArray:=by simp
 rw[e];exact IsTup.new _ _
noncomputable def ME:List DictEntry->Option (List (Str×Int))
 |[]=>Δ []|⟨_,.str x _,.int i _⟩::r=>(ME r).map λD=>(x,i)::D|_=>Θ
def Xg(o:Obj):Option (List (Str×Int)):=match o with|⟨.type t,Θ,.dict es _,sl⟩=>if t="dict"/\sl=#[] then ME es.toList else Θ|_=>Θ
open PyProof.Rows.KTD in
structure RY(K:ZE)(a:Addr)(D:List (Str×Int)):Prop where
 low:(a==abi)=Ξ
 at_:∃o,K.lookup a=Δ o/\Xg o=Δ D
end
end L2
namespace L2
open PySem PySem.Spec PyProof.Rows PySem.SeqAt
open PySem.AutoSeq1 (wpAny_loadPart')
section
variable{X:Cx}
theorem any_range(bs:List Bool):(Zq bs.length).any (λi=>bs.getD i Λ)=bs.any id:=by
 rw[ab1];simp only[abd,aaF,id];constructor;·rintro⟨i,hi,h⟩;rw[Zz,Zu hi] at h;exact⟨bs[i],aay hi,by simpa using h⟩
 ·rintro⟨b,hb,h⟩;obtain⟨i,hi,e⟩:=List.mem_iff_getElem.mp hb;refine⟨i,hi,?_⟩;rw[Zz,Zu hi];simpa[e] using h
theorem FC(hc:X.calm=Λ):je X (.builtin "any") (λxs H Q=>∃(p:Addr) (bs:List Bool),xs=[.ref p]/\nz X.K H p (bs.map V.bl)/\Q (.bl (bs.any id)) H):=by
 intro pins s σ H xs us Q I r h;revert h;refine ah λp bs aH hq q=>?_;subst aH;obtain⟨u,rfl,rx⟩:=vals1 r;obtain rfl:=rx;refine aB (λits rv pl hz=>?_) (I.list hq);have hl:=rv.length;rw[ZA] at hl;have gE:p < s.heap.objs.size:=by revert pl;refine bg λo n e _=>?_;exact ZN e
 refine call_any_walk (wpAny_pyIter_list pl.isList ?_);refine⟨s.heap.objs.size,_,_,its.toArray.size,_,_,λi=>bs.getD i Λ,rfl,Walks.list (A:=X.A.in1) (show X.A.in1.handled=Θ from I.ok.hd hc) s.heap.objs.size p (aaa gE) its.toArray,⟨⟨_,ZM _ rfl,rfl,rfl⟩,?_⟩,?_,?_⟩;·obtain⟨o,e,c⟩:=pl.isList;exact⟨o,Zt _ e,c⟩
 ·intro i v s' Q' E' hP hQ;have hP':its[i]?=Δ v:=by simpa using hP
  have hi:i < its.length:=(List.getElem?_eq_some_iff.mp hP').1;have hb:(bs.map V.bl)[i]?=Δ (V.bl (bs.getD i Λ)):=by rw[ZD,Zu (by lia),Zz,Zu (by lia)];rfl
  obtain⟨u,hu,ru⟩:=rv.get hb;rw[hP'] at hu;obtain rfl:=sj hu;obtain rfl:=ru;exact abh hQ
 ·intro h' tk hk;refine⟨.bl (bs.any id),H,I.kept (t':=tk) (λb o e=>hk b o (by simpa using aaa (ZN e)) (Zt _ e)),?_,q⟩;show acU _=acU _;rw[ZQ,<-hl,any_range]
theorem tq(hd:(d==abi)=Ξ)(ho:∀s:ZR,s.heap.get? d=Δ o->True):
  MeetsIn prog w (adu.«dict.__len__» ⟨[.ref d],[]⟩) (λ_ R s=>(s.heap.get? d=Δ o/\o.ExactDict/\o.data=.dict es ep)/\R (.ok (.ret (.int es.size s.toks))) {s with toks:=s.toks+1}):=
 .of_wp λA R s gy=>by obtain⟨⟨ho,hc,N6⟩,h⟩:=gy;show wpAny _ _ (dictSize d >>=_) _ _ s;unfold dictSize;refine Zv (Zv (wpAny_dictEntries ho N6 (ZT ?_)));show wpAny _ _ (adu.Dict.pendingCount d >>=_) _ _ s;refine Zv (wpAny_pendingCount_other hd ?_);refine wpAny_ret_mkInt ?_;rw[Nat.add_zero];exact h
theorem zx(hd:(d==abi)=Ξ)(ho:s.heap.get? d=Δ o)(hc:o.ExactDict)(N6:o.data=.dict es ep)(hfit:(es.size:Int) < 2 ^ 63)(h:Q (.int es.size (s.toks+1)) {s with toks:=s.toks+1+1}):wpAny (model prog w) A (call (.builtin "len") [.ref d]) Q E s:=by
 have hT:s.TypeIs (.ref d) "dict":=⟨o,ho,hc.1⟩;refine Calls.call_function_entry kind_len plain_len entry_len (args_len1 _) ?_;unfold adu.«len»;refine Zv (m:=oneArg "len" _) (ZT ?_);refine Zv (m:=callSpecial? (.ref d) (aaC "__len__")) (aaP (name:=aaC "__len__") hT F.slot_dict_len
  (adF F.slot_dict_len hT F.entry_dict_len (F.args_dict_len_1 _) (tq (o:=o) (es:=es) (ep:=ep) hd λ_ _=>trivial) ⟨⟨ho,hc,N6⟩,?_⟩))
 show wpAny _ _ _ _ _ {s with toks:=s.toks+1};refine Zv (acL (ZT ?_));refine Zv (adM ?_);show wpAny _ _ (if((es.size:Nat):Int) < 0 then _ else _) _ _ _;rw[if_neg (by lia)];show wpAny _ _ (if((es.size:Nat):Int)>=2 ^ 63 then _ else _) _ _ _;rw[if_neg (by lia)];exact Zv (wpAny_mkInt (ZT ⟨_,rfl,h⟩))
def RZ(H:Hp)(a:Addr)(n:Nat):Prop:=(∃kvs,Rd H a (.dK kvs)/\kvs.length=n)\/∃kvs,Rd H a (.dT kvs)/\kvs.length=n
theorem zy:je X (.builtin "len") (λxs H Q=>∃p n,xs=[.ref p]/\RZ H p n/\Q (.int n) H):=by
 intro pins s σ H xs us Q I r h;revert h;refine ah λp n aH hd q=>?_;subst aH;obtain⟨u,rfl,rx⟩:=vals1 r;obtain rfl:=rx;rcases hd with ⟨kvs,e,rfl⟩|⟨kvs,e,rfl⟩
 ·exact RJ I e λt s' I'=>⟨.int kvs.length,H,I',⟨t,rfl⟩,q⟩
 ·refine cps λgG kG=>?_;obtain⟨z,hd,xs,rel,o,es,ep,h1,h2,h3,h4,_⟩:=su I.aN e;refine kG ?_;have hl:es.size=kvs.length:=by
   have:es.toList.length=xs.length:=by rw[h4,ZA]
   rw[<-acg,this,<-rel.length]
  refine zx hd h1 h2 h3 (by rw[aa2] at z;lia) ?_;rw[hl];exact⟨.int kvs.length,H,I.tok _,⟨_,rfl⟩,q⟩
theorem pf(hT:AM.TypeIs o "dict")(l7:wpAny (model prog w) A (aez o i) Q E AM)(hs:aep slice Ξ o i=operate [o,i] (aez o i)):wpAny (model prog w) A (aeE value slice o i) Q E AM:=by
 unfold aeE;refine Zv ?_;rw[getitemInPython_of_ne hT.not_modules];refine Zv (aej hT PySem.F.slot_dict_getitem.lookup ?_);have fin:wpAny (model prog w) A (aep slice Ξ o i) (λr Fy=>wpAny (model prog w) A (letTemporaryGo value o r >>=λ_=>pure r) Q E Fy) E AM:=by rw[hs];exact wpAny_operating (aa9 l7 (λr Fy j0=>Zv (wpAny_letTemporaryGo (ZT j0))) λ_ _ x=>x)
 first
  |exact ZT (Zv fin)
  |exact Zv (ZT (Zv fin))
  |exact Zv fin
theorem A2:je X (.type "range") (λxs H Q=>∃lo hi,(xs=[.int lo,.int hi]\/(lo=0/\xs=[.int hi]))/\∀p,H p=Θ->Q (.ref p) (upd H p (.iQ lo hi))):=by
 intro pins s σ H xs us Q I r h;revert h;refine bg λlo hi hx q=>?_;rcases hx with rfl|⟨rfl,rfl⟩;·refine ah (λu w' aH rx ry=>?_) (vals2 r);subst aH;obtain⟨t,rfl⟩:=rx;obtain⟨t',rfl⟩:=ry;refine call_range_2 ⟨.ref s.heap.objs.size,_,I.laid (a:=s.heap.objs.size) (o:=.iQ lo hi) (λb o e=>Zt _ e) (ZC _) ⟨_,_,_,ZM _ rfl⟩,rfl,q _ (I.aN.fresh (ZC _))⟩
 ·obtain⟨u,rfl,rx⟩:=vals1 r;obtain⟨t,rfl⟩:=rx;refine call_range_1 ⟨.ref s.heap.objs.size,_,I.laid (a:=s.heap.objs.size) (o:=.iQ 0 hi) (λb o e=>Zt _ e) (ZC _) ⟨_,_,_,ZM _ rfl⟩,rfl,q _ (I.aN.fresh (ZC _))⟩
noncomputable def Dk(lo:Int)(n:Nat):List V:=(Zq n).map λk=>.int (lo+(k:Nat))
theorem Hy{lo:Int}:∀{acc} {n},acc.length=n->(∀(j:Nat) v,acc[j]?=Δ v->∃t,v=.int (lo+j*1) t)->aY (Dk lo n) acc:=by
 intro acc n hl h
 suffices ∀(k:Nat) (iT:List Value),iT.length+k=n->(∀(j:Nat) v,iT[j]?=Δ v->∃t,v=.int (lo+((k+j:Nat):Int)) t)->aY ((List.range' k iT.length).map λi=>V.int (lo+(i:Nat))) iT by
  have q:=this 0 acc (by lia) λj v hj=>by obtain⟨t,e⟩:=h j v hj;exact⟨t,by rw[e];congr 1<;>simp⟩
  unfold Dk;rw[List.range_eq_range',<-hl];exact q
 intro k iT;induction iT generalizing k with
 |nil=>intro _ _;exact .nil|cons x xs ih=>
  intro hn hx;rw[ZS,List.range'_succ,ZH];refine .cons ?_ ?_;·obtain⟨t,e⟩:=hx 0 x rfl;exact⟨t,by rw[e];simp⟩
  ·refine ih (k+1) (by rw[ZS] at hn;lia) λj v hj=>?_;obtain⟨t,e⟩:=hx (j+1) v (by simpa using hj);exact⟨t,by rw[e];congr 1;lia⟩
theorem xh(hc:X.calm=Λ):je X (.type "list") (λxs H Q=>∃p lo hi,xs=[.ref p]/\H p=Δ (.iQ lo hi)/\(-(2 ^ 62)<=lo/\lo < 2 ^ 62/\ -(2 ^ 62)<=hi/\hi < 2 ^ 62)/\(hi - lo).toNat<=Z3/\
  ∀l,H l=Θ->Q (.ref l) (upd H l (.lst (Dk lo (hi - lo).toNat)))):=by
 intro pins s σ H xs us Q I r h;refine cps λgG kG=>?_;obtain⟨p,lo,hi,rfl,hp,⟨h1,h2,h3,h4⟩,hz,q⟩:=h;obtain⟨u,rfl,rx⟩:=vals1 r;obtain rfl:=rx;obtain⟨t,u,v,e⟩:=(show bR X.prog X.w H s.heap p (.iQ lo hi) from I.aN p _ hp);refine kG ?_;refine call_list_range (n:=(hi - lo).toNat) (I.ok.hd hc) (show IsRange s.heap p lo hi 1 t u v from e) (small_one h1 h2 h3 h4) (by rw[rangeSize_one];split<;>lia) (by rw[aa2] at hz;lia) λh' tk iT c' hk hS yj=>?_;obtain⟨i1,i2⟩:=yj;have hv:aY (Dk lo (hi - lo).toNat) iT.toList:=Hy (by rw[acg];exact i1) λj v hj=>i2 j v (by simpa using hj);have hlen:=hv.length;refine⟨.ref s.heap.objs.size,_,I.laid (a:=s.heap.objs.size) (o:=.lst (Dk lo (hi - lo).toNat)) (t':=tk) hk (ZC _) ⟨by unfold Dk;rw[ZA,aad];exact hz,iT.toList,c',hv,by simpa using hS⟩,rfl,q _ (I.aN.fresh (ZC _))⟩
theorem Dl l items n d sl u(fT:¬items.isEmpty=Λ)(hz:items.size*3<=1000000):
  Meets (adu.«tuple.__mul__» ⟨[.ref l,.int 3 u],[]⟩) (λ_ R s=>s.heap.get? l=Δ {cls:=.type "tuple",dict:=d,data:=.seq items n,slots:=sl}/\
   R (.ok (.ret (Z7 s.heap.objs.size))) {s with heap:=s.heap.push {cls:=acm "tuple",data:=Data.seq (#[]++items++items++items)},toks:=s.toks}):=
 .of_wp λprog w A R s h=>by
  obtain⟨hp,g,dr,tk,os⟩:=s;obtain⟨hl,h⟩:=h;have f1:=aec;have h1:¬((items.size:Int)*3 > (2 ^ 63 - 1) / 8):=by lia
  have h2:¬aaU ((items.size:Int)*3)=Λ:=by
   unfold aaU;simp[Z3]
   lia
  have h3:(items.isEmpty||(3:Int)==1)=Ξ:=by simpa using fT
  have h4:((3:Int)<=0||items.isEmpty)=Ξ:=by simpa using fT
  wp_walk using aa7 hl
  rw[if_neg h1];show wpAny _ _ (if aaU ((items.size:Int)*3)=Λ then _ else _) _ _ _;rw[if_neg h2];have hsz:sizeOk (.seq (adK (λx1 x2=>x1++x2) #[] (aaS (aea 3) items))):=by
   show(adK (λx1 x2=>x1++x2) #[] (aaS (aea 3) items)).size<=Z3;show(#[]++items++items++items).size<=Z3;simp[Z3]
   lia
  show wpAny _ _ (ace (adK (λx1 x2=>x1++x2) #[] (aaS (aea 3) items)) >>=λv=>ret v) _ _ _;exact Zv (m:=ace _) (ab3 (ZT ⟨_,rfl,h⟩) hsz)
def MF:R2:=λx y H Q=>∃a xs,x=.ref a/\y=.int 3/\H a=Δ (.tup xs)/\xs≠[]/\xs.length<=100000/\∀p,H p=Θ->Q (.ref p) (upd H p (.tup (xs++xs++xs)))
theorem Hz:kj X (abp .Mult) MF:=by
 intro pins s σ H x y v u Q I rx ry h;revert h;refine cw λa xs aH iz ha fT hz q=>?_;subst aH;subst iz;obtain rfl:=rx;obtain⟨t,rfl⟩:=ry;refine aB (λits r ht RX=>?_) (I.tuple (g7.of ha));have hl:=r.length;refine eV (λN5 ho hc n hd=>?_) (id ht);obtain⟨cls,dd,data,sl⟩:=N5;simp only at hc hd;subst hc hd;have zw:¬its.toArray.isEmpty=Λ:=by
  intro z;have:its=[]:=by simpa using z
  exact fT (r.o4.mp this)
 refine acI (T:="tuple") (U:="int") (by decide) ⟨_,ho,rfl⟩ (λs'=>adl s' 3 t) gP adg abq kU PySem.F.slot_int_index.lookup
  (acT abq (adl s 3 t) ac8 (ac1 _ _) (jf 3 t a its.toArray n dd sl)
   ⟨ho,rfl,⟨_,ho,rfl⟩,acT ac6 ⟨_,ho,rfl⟩ acZ (acM _ _)
    (Dl a its.toArray n dd sl t zw (by rw[ZQ];lia)) ⟨ho,?_⟩⟩)
 refine⟨.ref s.heap.objs.size,_,I.laid (t':=s.toks) (o:=.tup (xs++xs++xs)) (λb ob q=>Zt _ q) (ZC _) ?_,rfl,q _ (I.aN.fresh (ZC _))⟩;refine⟨by rw[ZW,ZW,aa2];lia,its++its++its,(r.append r).append r,?_⟩;have e:(#[]++its.toArray++its.toArray++its.toArray:Array Value)=(its++its++its).toArray:=by simp
 rw[e];exact IsTup.new _ _
theorem Dm l items n d sl u:
  Meets (adu.«tuple.__mul__» ⟨[.ref l,.int 1 u],[]⟩) (λ_ R s=>s.heap.get? l=Δ {cls:=.type "tuple",dict:=d,data:=.seq items n,slots:=sl}/\R (.ok (.ret (Z7 l))) s):=
 .of_wp λprog w A R s h=>by
  obtain⟨hp,g,dr,tk,os⟩:=s;obtain⟨hl,h⟩:=h;have f1:=aec;have h3:(items.isEmpty||(1:Int)==1)=Λ:=by simp
  wp_walk using aa7 hl
  all_goals exact⟨_,rfl,h⟩
def MG:R2:=λx y H Q=>∃a xs,x=.ref a/\y=.int 1/\H a=Δ (.tup xs)/\Q (.ref a) H
theorem HA:kj X (abp .Mult) MG:=by
 intro pins s σ H x y v u Q I rx ry h;revert h;refine bZ λa xs aH iz ha q=>?_;subst aH;subst iz;obtain rfl:=rx;obtain⟨t,rfl⟩:=ry;refine aB (λits r ht RX=>?_) (I.tuple (g7.of ha));refine eV (λFb ho hc n hd=>?_) (id ht);obtain⟨cls,dd,data,sl⟩:=Fb;simp only at hc hd;subst hc hd;refine acI (T:="tuple") (U:="int") (by decide) ⟨_,ho,rfl⟩ (λs'=>adl s' 1 t) gP adg abq kU PySem.F.slot_int_index.lookup
  (acT abq (adl s 1 t) ac8 (ac1 _ _) (jf 1 t a its.toArray n dd sl)
   ⟨ho,rfl,⟨_,ho,rfl⟩,acT ac6 ⟨_,ho,rfl⟩ acZ (acM _ _)
    (Dm a its.toArray n dd sl t) ⟨ho,?_⟩⟩)
 exact⟨.ref a,H,I,rfl,q⟩
end
end L2
namespace L2
open PySem PySem.Spec PyProof.Rows
section
variable{X:Cx}{elt iter tg:Expr}{ifs:List Expr}{sc:Scope}{pos:Pos}{N:List Str}{ts:Nat}{js:List Nat}{wi:TI}{g:TG}{tc:TT}{te:TE}
theorem uW(hc:X.calm=Λ)(B:kT X N ts js sc)(hi:PI X tg iter wi)(hg:∀pins fp C s H,PG (nY X pins N sc fp C s H) tg g)(ht:∀pins fp C s H,Hw (nY X pins N sc fp C s H) ifs tc)(he:∀pins fp C s H,PE (nY X pins N sc fp C s H) elt te)(hs:∀x,adN iter X.env x=pure x)(hsw:X.Ok->acB (.ListComp elt [⟨tg,iter,ifs,0⟩] sc pos) (Δ (.Name y py)) Xh.line X.env=pure Λ)(hgt:PG X (.Name y py) gt):
  PS X (.Assign [.Name y py] (.ListComp elt [⟨tg,iter,ifs,0⟩] sc pos) Xh) (λD σ H=>A0 wi g tc te ts js σ H λv H1=>gt v σ H1 D.nx):=by
 intro pins s σ H D I h;rw[exec_Assign_Name_used _ _ _ _ (hsw I.ok)];refine Zv (aeD (Zv ?_));show wpAny _ X.A (do let _<-comprehension (.ListComp elt [⟨tg,iter,ifs,0⟩] sc pos) sc X.env _ (newList []) Ξ (eval iter X.env) (Δ (ae7 (.Name y py) X.env))) _ _ s;refine Zv (aa9 (wpAny_comprehension_free (use:=Δ (ae7 (.Name y py) X.env)) (Q:=λ_ s'=>SP X pins D .next s') rfl hs (uV (B.cl I.ok)) B.kind B.names
  (b8 (hi pins s σ H _ I h) λv s1 h1=>b8 h1 λUI s2 h2=>?_)) (λ_ s' hq=>ZT (ZT hq)) λ_ _ e=>e)
 refine cps λgG kG=>?_;obtain⟨it,fp,tn,J,H2,e,I2,T,st2,f2,um⟩:=h2;subst e;have FA:H2 s2.heap.objs.size=Θ:=I2.aN.fresh (ZC _);obtain⟨W,⟨m0,w0⟩,turn⟩:=um s2.heap.objs.size FA;refine kG ?_;refine ab3 (acw B.gO (by intro y hy;simp at hy) (λdN Df Dg=>?_) B.kind);obtain⟨s3,Kt⟩:∃s3:ZR,({s2 with heap:=s2.heap.push {cls:=.type "list",dict:=Θ,data:=.seq ([]:List Value).toArray}}:ZR)=s3:=⟨_,rfl⟩;have e3:s3.heap=s2.heap.push {cls:=.type "list",dict:=Θ,data:=.seq ([]:List Value).toArray}:=by rw[<-Kt]
 have Dh:dN.Ns s3.heap.objs.size λx=>([]:List (Str×Value)).reverse.lookup x:=by rw[e3];exact Df
 have Di:ab9 s3.heap.objs.size (s3.heap.push {cls:=.type (if(Δ X.env).isSome then "dict" else "frame"),data:=.dict #[]}) dN:=by rw[e3];exact Dg
 have I3:Inv X pins σ (upd H2 s2.heap.objs.size (.lst [])) s3:=by rw[<-Kt];exact I2.laid (t':=s2.toks) (λb u e=>Zt _ e) (ZC _) ⟨aaB _,[],0,.nil,ZM _ rfl⟩
 have RR:∀b∈fp,b < s2.heap.objs.size:=λb hb=>by obtain⟨o,e,_⟩:=T.obj _ _ st2 b hb;exact ZN e
 have f3:∀b∈fp,nT X pins (upd H2 s2.heap.objs.size (.lst [])) b:=λb hb=>⟨by rw[av (aaa (RR b hb))];exact(f2 b hb).1,(f2 b hb).2⟩;have W5:s2.heap.objs.size < s3.heap.objs.size:=by rw[e3,aaT];exact abb _
 have RS:∀b∈fp,b < s3.heap.objs.size:=λb hb=>ac9 (RR b hb) W5;have k1:∀b o,s3.heap.get? b=Δ o->dN.get? b=Δ o:=λb o e=>Di.extBut b o (aaa (ZN e)) (Zt _ e);have IB:=I3.block (tk:=s3.toks+([]:List (Str×Value)).length) (N:=N) B f3 RS Dh k1;have nE:tn 0 dN:=T.keep _ _ _ st2 λb hb o e=>k1 b o (by rw[e3];exact Zt _ e);have uM:∀{H':Hp},(∀b∈fp,H' b=Θ)->∀b∈fp,nT (nY X pins N sc fp s3.heap.objs.size s3 (upd H2 s2.heap.objs.size (.lst []))) [] H' b:=λhn b hb=>⟨hn b hb,aaa (RS b hb),I3.W3 (f3 b hb),.inl hb,λx c h=>(f3 b hb).2.2.2.2.1 x c (B.get I3.ok h),λp hp=>(f3 b hb).2.2.2.2.2 p (by simpa[nY] using hp)⟩;have loop:adt (model X.prog X.w) X.A (.compLoop (.ListComp elt [⟨tg,iter,ifs,0⟩] sc pos) 0 (.ref it) (.ref s2.heap.objs.size) (compEnvC sc (dZ X.env sc.names []) s3.heap.objs.size X.env))
   (compPost (model X.prog X.w) X.A X.xe (Δ (ae7 (.Name y py) X.env)) (λ_ s'=>SP X pins D .next s') (.ref s2.heap.objs.size) s3.heap.objs.size) {s3 with heap:=dN,toks:=s3.toks+([]:List (Str×Value)).length}:=by
  refine yh (λn s'=>∃i τ H',Inv (nY X pins N sc fp s3.heap.objs.size s3 (upd H2 s2.heap.objs.size (.lst []))) [] τ H' s'/\tn i s'.heap/\(∀b∈fp,H' b=Θ)/\W i n τ H') ?_ m0
   ⟨0,jI ts js σ,_,IB,nE,λb hb=>(f3 b hb).1,w0⟩
  intro n s5 Np;revert Np;refine br λi τ H5 I5 CT Nz w5=>?_;rcases turn i n τ H5 w5 with ⟨stop,qn⟩|⟨go,step⟩
  ·refine b8 (T.done (nY X pins N sc fp s3.heap.objs.size s3 (upd H2 s2.heap.objs.size (.lst []))) rfl rfl rfl hc i [] s5 τ H5 (λ_ _=>False) I5 (uM Nz) CT stop) λr s6 tm=>?_;refine cps λgG kG=>?_;obtain⟨hr,I6⟩:=tm;subst hr;refine dJ (λm hn _=>?_) (I6.loc);have IO:Inv X pins σ H5 s6:=I3.A1 (h'':=s6.heap) f3 I6 ⟨rfl,λ_ _=>rfl⟩;have fC:nT X pins H5 s3.heap.objs.size:=I3.zj (ZC _) I6.free;refine cD (λoC esC epC eC dC rC=>?_) (id hn);refine kG ?_;have IOp:=IO.pinned (fp:=[s3.heap.objs.size]) (λb hb=>by rw[aaJ.mp hb];exact fC) λb hb=>by rw[aaJ.mp hb];exact⟨oC,eC,λv z=>by rw[dC] at z;cases z⟩
   refine b8 (hgt _ s6 σ H5 (.ref s2.heap.objs.size) (.ref s2.heap.objs.size) D.nx IOp rfl qn) λ_ s8 Ku=>?_;revert Ku;refine bg λσ8 H8 I8 q8=>?_;refine AE (λpC fC8 _=>?_) (I8.pin (s3.heap.objs.size,oC) (Z8 _ (Z8 _ (fw (by simp) eC))));refine⟨m,hn.at' λo e=>?_,λh' xg=>⟨σ8,H8,?_,q8⟩⟩;·rw[eC] at e;obtain rfl:=sj e;exact pC
   ·exact(I8.ki).turned (it:=s3.heap.objs.size) (t':=s8.toks) (λb o hb e=>xg.extBut b o hb e) fC8 fC.2.1 fC.2.2.2.1 fC.2.2.2.2.1 fC.2.2.2.2.2
  ·refine b8 (T.item (nY X pins N sc fp s3.heap.objs.size s3 (upd H2 s2.heap.objs.size (.lst []))) rfl rfl rfl hc i [] s5 τ H5 (λ_ _=>False) I5 (uM Nz) CT go) λr s6 N2=>?_;revert N2;refine dJ λu hr h6=>?_;subst hr;refine b8 h6 λ_ s7 RT=>?_;revert RT;refine bq λx H7 I7 r7 y7 N3 W6=>?_;have W7:=I7.pinned (uM W6) (T.obj _ _ N3);refine b8 (hg _ _ _ _ _ _ s7 τ H7 x u _ W7 r7 (step x H7 y7)) λ_ s8 W8=>?_;revert W8;refine bg λKv H8 I8 q8=>?_;refine b8 (ht _ _ _ _ _ _ s8 Kv H8 _ I8 q8) λok s9 RV=>?_;obtain⟨H9,I9,q9⟩:=RV;have again:∀{s':ZR} {Kw:St} {H':Hp},Inv (nY X pins N sc fp s3.heap.objs.size s3 (upd H2 s2.heap.objs.size (.lst []))) ([]++qz fp s7.heap) Kw H' s'->(∃m',m' < n/\W (i+1) m' Kw H')->
     ∃m,m < n/\∃i τ H',Inv (nY X pins N sc fp s3.heap.objs.size s3 (upd H2 s2.heap.objs.size (.lst []))) [] τ H' s'/\tn i s'.heap/\(∀b∈fp,H' b=Θ)/\W i m τ H':=λ{s' Kw H'} I' gy=>by
    obtain⟨m',hm,w'⟩:=gy;refine⟨m',hm,i+1,Kw,H',I'.ki,T.keep _ _ _ N3 λb hb o e=>(I'.pin (b,o) (Z8 _ (Z8 _ (fw hb e)))).1,λb hb=>?_,w'⟩;obtain⟨o,e,d⟩:=T.obj _ _ N3 b hb;exact(I'.pin (b,o) (Z8 _ (Z8 _ (fw hb e)))).2.1
   cases ok with|false=>exact again I9 q9|true=>refine b8 (he _ _ _ _ _ _ s9 Kv H9 _ I9 q9) λxv RU Xd=>?_;obtain⟨y,W9,Xa,Xb,ys,ha,hz,Xc⟩:=Xd;refine b8 (qE _ RU Kv W9 (.ref s2.heap.objs.size) [y] (.ref s2.heap.objs.size) [xv] (λ_ H'=>∃m',m' < n/\W (i+1) m' Kv H') Xa rfl (.cons Xb .nil) ⟨_,ys,y,rfl,rfl,ha,hz,Xc⟩) λ_ s11 Q4=>?_;obtain⟨_,H11,Xe,_,Xf⟩:=Q4;exact again Xe Xf
 subst Kt;exact codeAny_compStart_list loop (T.self _ 0 _ _ _ nE loop)
end
section
variable{prog:aav}{w:World}{A:aaZ}{E:Value->ZR->Prop}{s:ZR}
theorem ph{items}(hit:s.heap.IsTupleIter it t i)(ht:s.heap.IsTuple t items)(hx:items[i]?=Δ x)(hQ:∀h',h'.IsTupleIter it t (i+1)->ab9 it s.heap h'->Q x {s with heap:=h'}):
  wpAny (model prog w) A (aah (.ref it)) Q E s:=by
 refine aB (λo ho hc hd=>?_) (id hit);revert ht;refine eV λol Xi _ nl R0=>?_;unfold aah;refine Zv (aaP (name:=aaC "__next__") hit.typeIs abj
  (abv abj hit.typeIs PySem.F.entry_tuple_iterator_next ?_ (PySem.F.args_tuple_iterator_next_1 _)))
 show wpAny _ _ (field (.ref it) 0 >>=_) _ _ s;refine Zv (aba ho hd (x:=.ref t) rfl ?_);show wpAny _ _ (if(Z7 t==abw)=Λ then _ else _) _ _ s;rw[if_neg (show ¬((Z7 t==abw)=Λ) from aat)];show wpAny _ _ (field (.ref it) 1 >>=_) _ _ s;refine Zv (aba ho hd (x:=.int i 0) rfl ?_);show wpAny _ _ (seqItems? (.ref t) >>=_) _ _ s;refine Zv (abA Xi R0 ?_);simp only[Int.toNat_natCast,hx];refine Zv (wpAny_setField ho hd (by simp) (ZT ⟨x,rfl,ZT (hQ _ ?_ (ab9.update ..))⟩));exact⟨_,abr _ ho (Obj.isFreed_of_fields (Obj.data_mapFields hd _)),(Obj.cls_mapFields ..).trans hc,by rw[Obj.data_mapFields hd];simp[abB]⟩
theorem kl{items}(hh:A.handled=Θ)(hit:s.heap.IsTupleIter it t i)(ht:s.heap.IsTuple t items)(hx:items[i]?=Θ)(hE:∀h' e,Heap.ExtBut it s.heap h'->(∃o,h'.get? e=Δ o/\o.cls=.type "StopIteration")->E (.ref e) {s with heap:=h'}):
  wpAny (model prog w) A (aah (.ref it)) Q E s:=by
 refine aB (λo ho hc hd=>?_) (id hit);revert ht;refine eV λol Xi _ nl R0=>?_;unfold aah;refine Zv (aaP (name:=aaC "__next__") hit.typeIs abj
  (abv abj hit.typeIs PySem.F.entry_tuple_iterator_next ?_ (PySem.F.args_tuple_iterator_next_1 _)))
 show wpAny _ _ (field (.ref it) 0 >>=_) _ _ s;refine Zv (aba ho hd (x:=.ref t) rfl ?_);show wpAny _ _ (if(Z7 t==abw)=Λ then _ else _) _ _ s;rw[if_neg (show ¬((Z7 t==abw)=Λ) from aat)];show wpAny _ _ (field (.ref it) 1 >>=_) _ _ s;refine Zv (aba ho hd (x:=.int i 0) rfl ?_);show wpAny _ _ (seqItems? (.ref t) >>=_) _ _ s;refine Zv (abA Xi R0 ?_);simp only[Int.toNat_natCast,hx];refine Zv (aeJ (Zv (wpAny_setField ho hd (by simp) ?_)));show wpAny _ _ (newExc (.type "StopIteration") [] >>=_) _ _ _;refine Zv ?_;simp only[newExc,newTuple];refine Zv (ab3 ?_ (by size_fits));refine Zv (m:=firstArgMember _ _) (wpAny_of_eq (a:=abw) (by first|rfl|(simp only[firstArgMember];rfl)) ?_);refine ab3 ?_ (by size_fits);simp only[raiseNew];refine Zv (wpAny_handled ?_);first|rw[show A.in1.handled=Θ from hh]|rw[hh]
 refine Zv (ZT (wpAny_throw ?_));exact hE _ _ (((ab9.update ..).extBut.push _).push _) ⟨_,ZM _ rfl,rfl⟩
end
theorem l8{prog:aav}{w:World}{A:aaZ}(hh:A.handled=Θ)(it l:Addr)(fT:l≠it)(items:Array Value):
  Draws prog w A it [it,l] items.size (λi v=>items[i]?=Δ v) (λi h=>h.IsTupleIter it l i/\h.IsTuple l items) where
 live:=λ_ _ st=>let ⟨o,ho,_⟩:=st.1;⟨o,ho⟩
 frame:=λ_ _ _ st hk=>⟨st.1.at λo e=>hk it (by simp) o e,let ⟨o,ho,r⟩:=st.2;⟨o,hk l (by simp) o ho,r⟩⟩
 item:=λi s Q E hi st hQ=>by refine ph st.1 st.2 (x:=items[i]) (by simp[hi]) λh' Xj xg=>?_;exact hQ _ h' s.toks (by simp[hi]) ⟨Xj,st.2.extBut xg.extBut fT⟩ xg
 done:=λs Q E st hE=>kl hh st.1 st.2 (by simp) hE
abbrev Az(h:Heap)(z TI TO:Addr)(f0 f1:Value):Prop:=
 h.get? z=Δ {cls:=.type "zip",dict:=Θ,data:=.fields #[f0,f1,.bool Ξ,.ref TI,.ref TO],slots:=#[]}
noncomputable def ZF(f0 f1:Value):Prop:=(f0=.none\/∃(T:Int) (t:Tok),f0=.int T t)/\∃b,f1=.bool b
structure Kz(z TI TO i1 i2:Addr)(qH qI:List Addr):Prop where
 TIz:TI≠z
 TOz:TO≠z
 i1z:i1≠z
 i2z:i2≠z
 TITO:TI≠TO
 TIi1:TI≠i1
 TIi2:TI≠i2
 TOi1:TO≠i1
 TOi2:TO≠i2
 i12:i1≠i2
 z1:z∉qH
 z2:z∉qI
 T1:TO∉qH
 T2:TO∉qI
 x1:i2∉qH
 x2:i1∉qI
section
variable{prog:aav}{w:World}{A:aaZ}{E:Value->ZR->Prop}{s:ZR}{z TI TO i1 i2:Addr}{qH qI:List Addr}{n1 n2:Nat}{P1 P2:Nat->Value->Prop}{xi xj:Nat->Heap->Prop}
theorem A3(h:Q (s.heap.get? a) s):wpAny M A (loadIfAlive a) Q E s:=λΓ p _=>by unfold loadIfAlive;rw[Sem.wp_loadIfAlive];exact ZT (M:=M) (A:=A) (E:=E) (Q:=Q) h Γ p (by assumption)
theorem MH(hf:ZF f0 f1)(hz:Az s.heap z TI TO f0 f1)(h1:Q Λ s)(h2:∀h',Az h' z TI TO f0 (.bool Λ)->ab9 z s.heap h'->Q Ξ {s with heap:=h'}):
  wpAny (model prog w) A (aa6 (.ref z)) Q E s:=by
 unfold aa6;refine Zv (aba hz rfl (x:=f0) rfl ?_);obtain⟨hf0,b,rfl⟩:=hf;rcases hf0 with rfl|⟨T,t,rfl⟩;·exact ZT h1
 ·dsimp only;refine Zv (A3 ?_);cases s.heap.get? T.toNat with|none=>exact ZT h1|some o=>show wpAny _ _ (field (.ref z) 1 >>=_) _ _ _;refine Zv (aba hz rfl (x:=.bool b) rfl ?_);cases b with|true=>exact ZT (h2 s.heap hz ⟨rfl,λ_ _=>rfl⟩)|false=>show wpAny _ _ (setField (.ref z) 1 (.bool Λ) >>=_) _ _ _;exact Zv (abu hz (by simp) λdN kn eO=>ZT (h2 dN kn eO))
theorem HB(D1:Draws prog w A i1 qH n1 P1 xi)(D2:Draws prog w A i2 qI n2 P2 xj)(ap:Kz z TI TO i1 i2 qH qI){Q:Value->ZR->Prop}(hf:ZF f0 f1)(hz:Az s.heap z TI TO f0 f1)(N7:abT s.heap TI (.ref i1) (.ref i2))(MI:abT s.heap TO a b)(xk:k < n1)(yk:k < n2)(h1:xi k s.heap)(h2:xj k s.heap)(hQ:∀h' tk T x y f0 f1 a b,ZF f0 f1->Az h' z TI TO f0 f1->abT h' TO a b->xi (k+1) h'->xj (k+1) h'->P1 k x->P2 k y->s.heap.objs.size<=T->abT h' T x y->
   (∀c o,c≠z->c≠TO->c≠i1->c≠i2->s.heap.get? c=Δ o->h'.get? c=Δ o)->Q (.ref T) {s with heap:=h',toks:=tk}):
  wpAny (model prog w) A (adu.«zip.__next__» ⟨[.ref z],[]⟩) (λfin s'=>∃v,fin=.done (.ret v)/\Q v s') E s:=by
 show wpAny _ _ (field (.ref z) 2 >>=_) _ _ _;refine Zv (aba hz rfl (x:=.bool Ξ) rfl ?_);show wpAny _ _ (field (.ref z) 3 >>=_) _ _ _;refine Zv (aba hz rfl (x:=.ref TI) rfl ?_);refine Zv (abA N7 rfl ?_);show wpAny _ _ (aa6 (.ref z) >>=_) _ _ _;refine Zv (MH hf hz ?_ ?_)
 ·simp only[if_true];refine Zv (aeJ ?_);refine Zv (aba hz rfl (x:=.ref TO) rfl ?_);refine Zv (abu hz (by simp) λdN kn eO=>?_);replace kn:Az dN z TI TO .ellipsis f1:=kn;refine Zv ?_;simp only[ad7,List.zipIdx_nil,abZ,acz];refine Zv (Zv (adW ?_));show wpAny _ _ (aah (.ref i1) >>=_) _ _ _;refine Zv (D1.item k _ _ _ xk (D1.frame k _ dN h1 λc hc o e=>eO.extBut _ _ (λx=>ap.z1 (x▸hc)) e) λx l7 R1 px A4 eQ=>ZT ?_);have uX:abT l7 TO a b:=eQ.extBut _ _ ap.TOi1 (eO.extBut _ _ ap.TOz MI);refine Zv (abA uX rfl ?_);refine Zv (adv uX λj0 zA gF=>?_);replace zA:abT j0 TO x b:=zA;refine Zv (adM (ZT ?_));refine Zv (Zv (adW ?_));show wpAny _ _ (aah (.ref i2) >>=_) _ _ _;have k3:∀c o,c≠z->c≠TO->c≠i1->s.heap.get? c=Δ o->j0.get? c=Δ o:=λc o c1 c2 c3 e=>gF.extBut _ _ c2 (eQ.extBut _ _ c3 (eO.extBut _ _ c1 e));refine Zv (D2.item k _ _ _ yk (D2.frame k _ j0 h2 λc hc o e=>k3 c o (λx=>ap.z2 (x▸hc)) (λx=>ap.T2 (x▸hc)) (λx=>ap.x2 (x▸hc)) e) λy Fz tk4 py R3 sC=>ZT ?_);have HC:abT Fz TO x b:=sC.extBut _ _ ap.TOi2 zA;refine Zv (abA HC rfl ?_);refine Zv (adv HC λng zB sD=>?_);replace zB:abT ng TO x y:=zB;refine Zv (adM (ZT (ZT ?_)));refine Zv (abA zB rfl ?_);refine Zv (wpAny_newTuple ?_);have hsz:ng.objs.size=s.heap.objs.size:=by rw[sD.1,sC.1,gF.1,eQ.1,eO.1]
  have MJ:Az ng z TI TO .ellipsis f1:=sD.extBut _ _ ap.TOz.symm (sC.extBut _ _ ap.i2z.symm (gF.extBut _ _ ap.TOz.symm (eQ.extBut _ _ ap.i1z.symm kn)));have R4:∀c o,c≠z->c≠TO->c≠i1->c≠i2->s.heap.get? c=Δ o->ng.get? c=Δ o:=λc o c1 c2 c3 c4 e=>sD.extBut _ _ c2 (sC.extBut _ _ c4 (k3 c o c1 c2 c3 e));have R5:z < ng.objs.size:=ZN MJ;show wpAny _ _ (adu.SmallTypes.ownedTupleHandOut (.ref z) (.ref ng.objs.size) >>=_) _ _ _;refine Zv ?_;unfold adu.SmallTypes.ownedTupleHandOut;have R6:Az (ng.push {cls:=.type "tuple",data:=.seq #[x,y]}) z TI TO .ellipsis f1:=Zt _ MJ;refine Zv (abu R6 (by simp) λXk HD MK=>?_);replace HD:Az Xk z TI TO (abB ng.objs.size) f1:=HD;refine abu HD (by simp) λFD HE ML=>?_;replace HE:Az FD z TI TO (abB ng.objs.size) (.bool Ξ):=HE;have up:∀c o,c≠z->ng.get? c=Δ o->FD.get? c=Δ o:=λc o c1 e=>ML.extBut _ _ c1 (MK.extBut _ _ c1 (Zt _ e));have R7:abT FD ng.objs.size x y:=ML.extBut _ _ (aaD R5) (MK.extBut _ _ (aaD R5) (ZM _ rfl));refine ZT ⟨_,rfl,?_⟩;refine hQ FD _ ng.objs.size x y _ _ x y ⟨.inr ⟨_,_,rfl⟩,Ξ,rfl⟩ HE (up _ _ ap.TOz zB) (D1.frame _ l7 FD A4 λc hc o e=>?_) (D2.frame _ Fz FD R3 λc hc o e=>?_) px py (by rw[hsz];exact ZC _) R7 λc o c1 c2 c3 c4 e=>up c o c1 (R4 c o c1 c2 c3 c4 e);·exact up c o (λx=>ap.z1 (x▸hc)) (sD.extBut _ _ (λx=>ap.T1 (x▸hc)) (sC.extBut _ _ (λx=>ap.x1 (x▸hc)) (gF.extBut _ _ (λx=>ap.T1 (x▸hc)) e)))
  ·exact up c o (λx=>ap.z2 (x▸hc)) (sD.extBut _ _ (λx=>ap.T2 (x▸hc)) e)
 ·intro dN kn eO;simp only[aaj,if_false,List.forIn_toArray,abZ,acz];refine Zv ?_;refine Zv ?_;refine Zv ?_;refine acL ?_;show wpAny _ _ (aah (.ref i1) >>=_) _ _ _;refine Zv (D1.item k _ _ _ xk (D1.frame k _ dN h1 λc hc o e=>eO.extBut _ _ (λx=>ap.z1 (x▸hc)) e) λx l7 R1 px A4 eQ=>ZT ?_);refine ZT ?_;refine Zv ?_;refine Zv ?_;refine acL ?_;show wpAny _ _ (aah (.ref i2) >>=_) _ _ _;refine Zv (D2.item k _ _ _ yk (D2.frame k _ l7 h2 λc hc o e=>eQ.extBut _ _ (λx=>ap.x2 (x▸hc)) (eO.extBut _ _ (λx=>ap.z2 (x▸hc)) e)) λy j0 tk3 py R8 gF=>ZT ?_);refine ZT ?_;refine ZT ?_;show wpAny _ _ (newTuple [x,y] >>=_) _ _ _;refine Zv (wpAny_newTuple (items:=[x,y]) ?_);have hsz:j0.objs.size=s.heap.objs.size:=by rw[gF.1,eQ.1,eO.1]
  have up:∀c o,j0.get? c=Δ o->(j0.push {cls:=.type "tuple",data:=.seq #[x,y]}).get? c=Δ o:=λc o e=>Zt _ e;refine ZT ⟨_,rfl,?_⟩;refine hQ _ _ j0.objs.size x y f0 (.bool Λ) a b ⟨hf.1,Λ,rfl⟩ (up _ _ (gF.extBut _ _ ap.i2z.symm (eQ.extBut _ _ ap.i1z.symm kn))) (up _ _ (gF.extBut _ _ ap.TOi2 (eQ.extBut _ _ ap.TOi1 (eO.extBut _ _ ap.TOz MI))))
   (D1.frame _ l7 _ A4 λc hc o e=>up _ _ (gF.extBut _ _ (λx=>ap.x1 (x▸hc)) e)) (D2.frame _ j0 _ R8 λc hc o e=>up _ _ e) px py (by rw[hsz];exact ZC _) (ZM _ rfl) λc o c1 c2 c3 c4 e=>up _ _ (gF.extBut _ _ c4 (eQ.extBut _ _ c3 (eO.extBut _ _ c1 e)))
theorem HF(D1:Draws prog w A i1 qH n1 P1 xi)(D2:Draws prog w A i2 qI n2 P2 xj)(ap:Kz z TI TO i1 i2 qH qI)(hf:ZF f0 f1)(hz:Az s.heap z TI TO f0 f1)(N7:abT s.heap TI (.ref i1) (.ref i2))(MI:abT s.heap TO a b)(hk:k=n1\/(k < n1/\k=n2))(h1:xi k s.heap)(h2:xj k s.heap)(hE:∀h' tk e,(∀c o,c≠z->c≠TO->c≠i1->c≠i2->s.heap.get? c=Δ o->h'.get? c=Δ o)->(∃o,h'.get? e=Δ o/\o.cls=.type "StopIteration")->E (.ref e) {s with heap:=h',toks:=tk}):
  wpAny (model prog w) A (adu.«zip.__next__» ⟨[.ref z],[]⟩) Q E s:=by
 show wpAny _ _ (field (.ref z) 2 >>=_) _ _ _;refine Zv (aba hz rfl (x:=.bool Ξ) rfl ?_);show wpAny _ _ (field (.ref z) 3 >>=_) _ _ _;refine Zv (aba hz rfl (x:=.ref TI) rfl ?_);refine Zv (abA N7 rfl ?_);show wpAny _ _ (aa6 (.ref z) >>=_) _ _ _;refine Zv (MH hf hz ?_ ?_)
 ·simp only[if_true];refine Zv (aeJ ?_);refine Zv (aba hz rfl (x:=.ref TO) rfl ?_);refine Zv (abu hz (by simp) λdN kn eO=>?_);replace kn:Az dN z TI TO .ellipsis f1:=kn;refine Zv ?_;simp only[ad7,List.zipIdx_nil,abZ,acz];refine Zv (Zv (adW ?_));show wpAny _ _ (aah (.ref i1) >>=_) _ _ _;have A5:=D1.frame k _ dN h1 λc hc o e=>eO.extBut _ _ (λx=>ap.z1 (x▸hc)) e;rcases hk with rfl|⟨hk,rfl⟩
  ·refine Zv (D1.done _ _ _ A5 λl7 e eQ he=>?_);obtain⟨oe,N8,R9⟩:=he;have MM:Az l7 z TI TO .ellipsis f1:=eQ _ _ ap.i1z.symm kn;have Xl:e≠z:=λx=>by subst x;rw[MM] at N8;obtain rfl:=sj N8;simp at R9
   exact abu MM (by simp) λj0 _ gF=>hE j0 s.toks e (λc o c1 _ c3 _ x=>gF.extBut _ _ c1 (eQ _ _ c3 (eO.extBut _ _ c1 x))) ⟨oe,gF.extBut _ _ Xl N8,R9⟩
  ·refine Zv (D1.item k _ _ _ hk A5 λx l7 R1 px A4 eQ=>ZT ?_);have uX:abT l7 TO a b:=eQ.extBut _ _ ap.TOi1 (eO.extBut _ _ ap.TOz MI);refine Zv (abA uX rfl ?_);refine Zv (adv uX λj0 zA gF=>?_);refine Zv (adM (ZT ?_));refine Zv (Zv (adW ?_));show wpAny _ _ (aah (.ref i2) >>=_) _ _ _;have k3:∀c o,c≠z->c≠TO->c≠i1->s.heap.get? c=Δ o->j0.get? c=Δ o:=λc o c1 c2 c3 e=>gF.extBut _ _ c2 (eQ.extBut _ _ c3 (eO.extBut _ _ c1 e));refine Zv (D2.done _ _ _ (D2.frame k _ j0 h2 λc hc o e=>k3 c o (λx=>ap.z2 (x▸hc)) (λx=>ap.T2 (x▸hc)) (λx=>ap.x2 (x▸hc)) e) λFz e sC he=>?_);obtain⟨oe,N8,R9⟩:=he;have MN:Az Fz z TI TO .ellipsis f1:=sC _ _ ap.i2z.symm (gF.extBut _ _ ap.TOz.symm (eQ.extBut _ _ ap.i1z.symm kn));have Xl:e≠z:=λx=>by subst x;rw[MN] at N8;obtain rfl:=sj N8;simp at R9
   exact abu MN (by simp) λng _ sD=>hE ng R1 e (λc o c1 c2 c3 c4 x=>sD.extBut _ _ c1 (sC _ _ c4 (k3 c o c1 c2 c3 x))) ⟨oe,sD.extBut _ _ Xl N8,R9⟩
 ·intro dN kn eO;simp only[aaj,if_false,List.forIn_toArray,abZ,acz];refine Zv ?_;refine Zv ?_;refine Zv ?_;refine acL ?_;show wpAny _ _ (aah (.ref i1) >>=_) _ _ _;have A5:=D1.frame k _ dN h1 λc hc o e=>eO.extBut _ _ (λx=>ap.z1 (x▸hc)) e;rcases hk with rfl|⟨hk,rfl⟩;·exact Zv (D1.done _ _ _ A5 λl7 e eQ he=>hE l7 s.toks e (λc o c1 _ c3 _ x=>eQ _ _ c3 (eO.extBut _ _ c1 x)) he)
  ·refine Zv (D1.item k _ _ _ hk A5 λx l7 R1 px A4 eQ=>ZT ?_);refine ZT ?_;refine Zv ?_;refine Zv ?_;refine acL ?_;show wpAny _ _ (aah (.ref i2) >>=_) _ _ _;exact Zv (D2.done _ _ _ (D2.frame k _ l7 h2 λc hc o e=>eQ.extBut _ _ (λx=>ap.x2 (x▸hc)) (eO.extBut _ _ (λx=>ap.z2 (x▸hc)) e)) λj0 e gF he=>hE j0 R1 e (λc o c1 _ c3 c4 x=>gF _ _ c4 (eQ.extBut _ _ c3 (eO.extBut _ _ c1 x))) he)
theorem tu(D1:Draws prog w A.in1 i1 qH n1 P1 xi)(D2:Draws prog w A.in1 i2 qI n2 P2 xj)(ap:Kz z TI TO i1 i2 qH qI)(hf:ZF f0 f1)(hz:Az s.heap z TI TO f0 f1)(N7:abT s.heap TI (.ref i1) (.ref i2))(MI:abT s.heap TO a b)(xk:k < n1)(yk:k < n2)(h1:xi k s.heap)(h2:xj k s.heap)(hQ:∀h' tk T x y f0 f1 a b,ZF f0 f1->Az h' z TI TO f0 f1->abT h' TO a b->xi (k+1) h'->xj (k+1) h'->P1 k x->P2 k y->s.heap.objs.size<=T->abT h' T x y->
   (∀c o,c≠z->c≠TO->c≠i1->c≠i2->s.heap.get? c=Δ o->h'.get? c=Δ o)->Q (Δ (.ref T)) {s with heap:=h',toks:=tk}):wpAny (model prog w) A (adY (.ref z)) Q E s:=by
 have hT:s.TypeIs (.ref z) "zip":=⟨_,hz,rfl⟩;unfold adY;exact Zv (adX (aaP (name:=aaC "__next__") hT acq
  (abv acq hT PySem.F.entry_zip_next
   (HB D1 D2 ap hf hz N7 MI xk yk h1 h2 λh' tk T x y f0 f1 a b c1 c2 c3 c4 c5 c6 c7 c8 c9 c10=>ZT (hQ h' tk T x y f0 f1 a b c1 c2 c3 c4 c5 c6 c7 c8 c9 c10)) (PySem.F.args_zip_next_1 _))))
theorem tw(D1:Draws prog w A.in1 i1 qH n1 P1 xi)(D2:Draws prog w A.in1 i2 qI n2 P2 xj)(ap:Kz z TI TO i1 i2 qH qI)(hf:ZF f0 f1)(hz:Az s.heap z TI TO f0 f1)(N7:abT s.heap TI (.ref i1) (.ref i2))(MI:abT s.heap TO a b)(hk:k=n1\/(k < n1/\k=n2))(h1:xi k s.heap)(h2:xj k s.heap)(hQ:∀h' tk,(∀c o,c≠z->c≠TO->c≠i1->c≠i2->s.heap.get? c=Δ o->h'.get? c=Δ o)->Q Θ {s with heap:=h',toks:=tk}):wpAny (model prog w) A (adY (.ref z)) Q E s:=by
 have hT:s.TypeIs (.ref z) "zip":=⟨_,hz,rfl⟩;unfold adY;refine Zv (adX (aaP (name:=aaC "__next__") hT acq
  (abv acq hT PySem.F.entry_zip_next (HF D1 D2 ap hf hz N7 MI hk h1 h2 λh' tk e FE he=>?_) (PySem.F.args_zip_next_1 _))))
 obtain⟨o,ho,hc⟩:=he;refine Zv (ad2 (T:="StopIteration") (b:=Λ) ⟨o,ho,hc⟩ aeq ?_);exact ZT (hQ _ _ FE)
def ZI(z TI TO i1 i2:Addr)(xi xj:Nat->Heap->Prop)(k:Nat)(h:Heap):Prop:=∃f0 f1 a b,ZF f0 f1/\Az h z TI TO f0 f1/\abT h TI (.ref i1) (.ref i2)/\abT h TO a b/\xi k h/\xj k h
theorem ZI.frame(ap:Kz z TI TO i1 i2 qH qI)(D1:Draws prog w A i1 qH n1 P1 xi)(D2:Draws prog w A i2 qI n2 P2 xj)(x:ZI z TI TO i1 i2 xi xj k h)(hk:∀b,(b=z\/b=TI\/b=TO\/b∈qH\/b∈qI)->∀o,h.get? b=Δ o->h'.get? b=Δ o):ZI z TI TO i1 i2 xi xj k h':=by revert x;refine fD λf0 f1 a b c1 c2 c3 c4 c5 c6=>?_;exact⟨f0,f1,a,b,c1,hk _ (.inl rfl) _ c2,hk _ (.inr (.inl rfl)) _ c3,hk _ (.inr (.inr (.inl rfl))) _ c4,D1.frame _ _ _ c5 λb hb=>hk b (.inr (.inr (.inr (.inl hb)))),D2.frame _ _ _ c6 λb hb=>hk b (.inr (.inr (.inr (.inr hb))))⟩
noncomputable def ZP(B:Nat)(bad:List Addr)(P1 P2:Nat->Value->Prop)(acc:Array Value)(k:Nat)(h:Heap):Prop:=acc.size=k/\(∀j v,acc[j]?=Δ v->∃T x y,v=.ref T/\B<=T/\T∉bad/\abT h T x y/\P1 j x/\P2 j y)/\∀(i j:Nat) (v:Value),acc[i]?=Δ v->acc[j]?=Δ v->i=j
theorem ZP.frame(x:ZP B bad P1 P2 acc k h)(hk:∀b o,b∉bad->h.get? b=Δ o->h'.get? b=Δ o):ZP B bad P1 P2 acc k h':=by refine⟨x.1,λj v hj=>?_,x.2.2⟩;refine kL (λT a b e c1 c2 c3 c4 c5=>?_) (x.2.1 j v hj);exact⟨T,a,b,e,c1,c2,hk _ _ c2 c3,c4,c5⟩
theorem ZP.push(x:ZP B bad P1 P2 acc k h)(c1:B<=T)(c2:T∉bad)(c3:abT h T a b)(c4:P1 k a)(c5:P2 k b)(c6:∀j:Nat,acc[j]?≠Δ (Z7 T)):ZP B bad P1 P2 (acc.push (.ref T)) (k+1) h:=by
 refine⟨by rw[Array.size_push,x.1],λj v hj=>?_,λi j v hi hj=>?_⟩
 ·rw[Array.getElem?_push] at hj;split at hj;·rename_i e;rw[x.1] at e;obtain rfl:=sj hj;exact⟨T,a,b,rfl,c1,c2,c3,by rw[e];exact c4,by rw[e];exact c5⟩
  ·exact x.2.1 j v hj
 ·rw[Array.getElem?_push] at hi hj;split at hi
  ·split at hj
   ·lia
   ·obtain rfl:=sj hi;exact absurd hj (c6 j)
  ·split at hj;·obtain rfl:=sj hj;exact absurd hi (c6 i)
   ·exact x.2.2 i j v hi hj
theorem Dp(ap:Kz z TI TO i1 i2 qH qI)(D1:Draws prog w A.in1.in1 i1 qH n1 P1 xi)(D2:Draws prog w A.in1.in1 i2 qI n2 P2 xj)(hn:n1<=Z3)(zC:S≠z/\S≠TI/\S≠TO/\S∉qH/\S∉qI)(Sa:i1∈qH)(FF:i2∈qI):
  ∀(m k) (s) (acc) (c),min n1 n2 - k=m->k<=n1->k<=n2->B<=s.heap.objs.size->ZI z TI TO i1 i2 xi xj k s.heap->s.heap.get? S=Δ {cls:=.type "list",dict:=Θ,data:=.seq acc c,slots:=#[]}->
  ZP B [z,TO,i1,i2,S] P1 P2 acc k s.heap->
  (∀h' tk iT c',(∀b o,b∉[z,TO,i1,i2,S]->s.heap.get? b=Δ o->h'.get? b=Δ o)->h'.get? S=Δ {cls:=.type "list",dict:=Θ,data:=.seq iT c',slots:=#[]}->ZP B [z,TO,i1,i2,S] P1 P2 iT (min n1 n2) h'->
   R (.ok (.ret res)) {s with heap:=h',toks:=tk})->
  adt (model prog w) A (.builtin "list.extend.loop" ⟨[.ref S,.ref z,res],[]⟩) R s:=by
 have Sb:S≠i1:=λe=>zC.2.2.2.1 (e▸Sa);have Sd:S≠i2:=λe=>zC.2.2.2.2 (e▸FF);intro m;induction m with
 |zero=>
  intro k s acc c hm xk yk hB MO hS fN hR;refine codeAny_builtin PySem.F.entry_extend_loop ?_;rw[aaZ.under_plainId abV _];show wpAny _ A.in1 (adY (.ref z) >>=_) _ _ s;revert MO;refine fD λf0 f1 a b c1 c2 c3 c4 c5 c6=>?_;have Xm:min n1 n2=k:=by lia
  refine Zv (tw D1 D2 ap c1 c2 c3 c4 (k:=k) (by lia) c5 c6 λh' tk hk=>ZT ?_);refine hR h' tk acc c (λb o hb e=>hk b o (λx=>hb (by simp[x])) (λx=>hb (by simp[x])) (λx=>hb (by simp[x])) (λx=>hb (by simp[x])) e) (hk _ _ zC.1 zC.2.2.1 Sb Sd hS) ?_;rw[Xm];exact fN.frame λb o hb e=>hk b o (λx=>hb (by simp[x])) (λx=>hb (by simp[x])) (λx=>hb (by simp[x])) (λx=>hb (by simp[x])) e
 |succ m ih=>
  intro k s acc c hm xk yk hB MO hS fN hR;refine codeAny_builtin PySem.F.entry_extend_loop ?_;rw[aaZ.under_plainId abV _];show wpAny _ A.in1 (adY (.ref z) >>=_) _ _ s;revert MO;refine fD λf0 f1 a b c1 c2 c3 c4 c5 c6=>?_;refine Zv (tu D1 D2 ap c1 c2 c3 c4 (k:=k) (ZZ (acr hm) (acP ..)) (ZZ (acr hm) (acF ..)) c5 c6 λh' tk T x y g0 g1 a' b' d1 d2 d3 d4 d5 px py hT hp hk=>?_);have kk:∀b o,b∉[z,TO,i1,i2,S]->s.heap.get? b=Δ o->h'.get? b=Δ o:=λb o hb e=>hk b o (λx=>hb (by simp[x])) (λx=>hb (by simp[x])) (λx=>hb (by simp[x])) (λx=>hb (by simp[x])) e;have QB:=hk _ _ zC.1 zC.2.2.1 Sb Sd hS;have Xn:=hk _ _ ap.TIz ap.TITO ap.TIi1 ap.TIi2 c3;have lt:∀{b o},s.heap.get? b=Δ o->T≠b:=λe=>aaD (ZZ (ZN e) hT);have Se:T∉[z,TO,i1,i2,S]:=by obtain⟨o1,e1⟩:=D1.live _ _ c5;obtain⟨o2,e2⟩:=D2.live _ _ c6;simp only[abM,abx,or_false,not_or];exact⟨lt c2,lt c4,lt e1,lt e2,lt hS⟩
  show wpAny _ A.in1 (aeV S (·.push (.ref T)) >>=_) _ _ _;refine Zv ?_;refine adB QB rfl (ZT ⟨plainId_quiet abV _,ih (k+1) _ (acc.push (.ref T)) _ (by rw[Nat.sub_succ,hm];rfl) (ZZ (acr hm) (acP ..)) (ZZ (acr hm) (acF ..)) ?_ ?_ (abr _ QB rfl) ?_ λh'' tk' iT c' Xo Xp Sf=>?_⟩)
   (by rw[fN.1];lia) (by show(acc.push (Z7 T)).size<=Z3+1;rw[Array.size_push,fN.1];lia)
  ·show B<=(h'.update S _).objs.size;rw[ads];exact aap hB (aap hT (acG (ZN hp)))
  ·refine ZI.frame ap D1 D2 ⟨g0,g1,a',b',d1,d2,Xn,d3,d4,d5⟩ λb hb o e=>(aaK _ _ (λh:S=b=>?_)).trans e;subst h;rcases hb with h|h|h|h|h;·exact zC.1 h
   ·exact zC.2.1 h
   ·exact zC.2.2.1 h
   ·exact zC.2.2.2.1 h
   ·exact zC.2.2.2.2 h
  ·refine ZP.frame ((fN.frame kk).push (aap hB hT) Se hp px py λj hj=>by refine qu (λT' _ _ e _ _ c3' _=>?_) (fN.2.1 j _ hj);cases e;exact lt c3' rfl) λb o hb e=>(aaK _ _ (λh:S=b=>hb (by simp[h]))).trans e
  ·refine hR h'' tk' iT c' (λb o hb e=>Xo b o hb ((aaK _ _ (λh:S=b=>hb (by simp[h]))).trans (kk b o hb e))) Xp Sf
theorem Dq:ae5 (.type "zip") "__len__"=pure Θ:=by rw[typeLookup_type,builtinLookup_eq_fast];kernel_rfl
theorem A6:ae5 (.type "zip") "__length_hint__"=pure Θ:=by rw[typeLookup_type,builtinLookup_eq_fast];kernel_rfl
theorem uY(ap:Kz z TI TO i1 i2 qH qI)(D1:Draws prog w A.in1.in1 i1 qH n1 P1 xi)(D2:Draws prog w A.in1.in1 i2 qI n2 P2 xj)(hn:n1<=Z3)(zC:S≠z/\S≠TI/\S≠TO/\S∉qH/\S∉qI)(Sa:i1∈qH)(FF:i2∈qI)(hB:B<=s.heap.objs.size)(MO:ZI z TI TO i1 i2 xi xj 0 s.heap)(hS:s.heap.get? S=Δ {cls:=.type "list",data:=.seq #[] c₀})(hR:∀h' tk iT c',(∀b o,b∉[z,TO,i1,i2,S]->s.heap.get? b=Δ o->h'.get? b=Δ o)->h'.get? S=Δ {cls:=.type "list",dict:=Θ,data:=.seq iT c',slots:=#[]}->ZP B [z,TO,i1,i2,S] P1 P2 iT (min n1 n2) h'->
   R (.ok (.ret res)) {s with heap:=h',toks:=tk}):
  wpAny (model prog w) A.in1 (abL (.ref S) (.ref z) res)
   (λfin s'=>match fin with|.done f=>R (.ok f) s'|.again c'=>c'.quiet=Λ/\adt (model prog w) A c' R s') (λe s'=>R (.error e) s') s:=by
 refine fD (λf0 f1 a b c1 c2 c3 c4 c5 c6=>?_) (id MO);have hT:s.TypeIs (.ref z) "zip":=⟨_,c2,rfl⟩;unfold abL;refine Zv (wpAny_typeOf hT ?_);have h1:adu.List.listSameRef (.ref S) (.ref z)=Ξ:=by simp[adu.List.listSameRef,zC.1]
 have h2:(acm "zip"==acm "list")=Ξ:=by decide
 have h3:(acm "zip"==acm "tuple")=Ξ:=by decide
 simp only[h1,h2,h3,Bool.or_false,aaj,if_false];refine Zv (wpAny_pyIter_slot hT PySem.F.slot_zip_iter (abv PySem.F.slot_zip_iter hT PySem.F.entry_zip_iter ?_ (PySem.F.args_zip_iter_1 _)));show wpAny _ _ (ret (.ref z)) _ _ s;refine ZT ⟨_,rfl,"zip",_,hT,acq.lookup,?_⟩;refine Zv (acL ?_);unfold adu.List.listLengthHint;refine Zv (aej hT Dq ?_);show wpAny _ A.in1 (specialOf (Z7 z) (aaC "__length_hint__") >>=_) _ _ _;refine Zv (aej hT A6 ?_);refine ZT ?_;show wpAny _ A.in1 (rule "list.extend.makes-room" >>=λ_=>adu.List.listTouch (.ref S) >>=λ_=>again (.builtin "list.extend.loop" ⟨[.ref S,.ref z,res],[]⟩)) _ _ _;refine Zv (aeJ ?_);refine Zv ?_;show wpAny _ A.in1 (aeV S (·.push .none) >>=λ_=>aeV S (·.pop)) _ _ _;refine Zv (adB hS rfl ?_);have Ek:=abr (acb (·.push abw)) hS rfl;refine adB (hz:=by seq_fits) Ek rfl ?_;have Sg:=abr (acb (·.pop)) Ek rfl;have KA:∀b o,b≠S->s.heap.get? b=Δ o->((s.heap.update S (acb (·.push abw))).update S (acb (·.pop))).get? b=Δ o:=
  λb o hb e=>(aaK _ _ (aaw hb)).trans ((aaK _ _ (aaw hb)).trans e)
 refine ZT ⟨plainId_quiet abV _,Dp ap D1 D2 (B:=B) hn zC Sa FF _ 0 _ _ _ rfl (aaB _) (aaB _) ?_ (ZI.frame ap D1 D2 MO λb hb o e=>KA b o (λh=>?_) e) Sg ⟨rfl,(λj v hj=>by simp at hj),(λi j v hi _=>by simp at hi)⟩ λh' tk iT c' hk QB fN=>?_⟩;·show B<=((s.heap.update S _).update S _).objs.size;rw[ads,ads];exact hB
 ·subst h;rcases hb with h|h|h|h|h;·exact zC.1 h
  ·exact zC.2.1 h
  ·exact zC.2.2.1 h
  ·exact zC.2.2.2.1 h
  ·exact zC.2.2.2.2 h
 ·exact hR h' tk iT c' (λb o hb e=>hk b o hb (KA b o (λh=>hb (by simp[h])) e)) QB fN
theorem xl(ap:Kz z TI TO i1 i2 qH qI)(D1:Draws prog w A.in1.in1.in1 i1 qH n1 P1 xi)(D2:Draws prog w A.in1.in1.in1 i2 qI n2 P2 xj)(hn:n1<=Z3)(gE:z < s.heap.objs.size/\TI < s.heap.objs.size/\TO < s.heap.objs.size/\(∀b∈qH,b < s.heap.objs.size)/\∀b∈qI,b < s.heap.objs.size)(Sa:i1∈qH)(FF:i2∈qI)(hB:B<=s.heap.objs.size)(MO:ZI z TI TO i1 i2 xi xj 0 s.heap)(hQ:∀h' tk iT c',(∀b o,b∉[z,TO,i1,i2]->s.heap.get? b=Δ o->h'.get? b=Δ o)->h'.get? s.heap.objs.size=Δ {cls:=.type "list",dict:=Θ,data:=.seq iT c',slots:=#[]}->ZP B [z,TO,i1,i2,s.heap.objs.size] P1 P2 iT (min n1 n2) h'->
   Q (.ref s.heap.objs.size) {s with heap:=h',toks:=tk}):
  wpAny (model prog w) A (call (.type "list") [.ref z]) Q E s:=by
 refine callType_codes (Q₁:=λobj bI=>obj=.ref s.heap.objs.size/\bI={s with heap:=s.heap.push {cls:=.type "list",data:=.seq #[]}}) PySem.F.called_list (PySem.F.typeCall_list_1 _) PySem.F.entry_list_init
  (code_list_new _ ⟨rfl,rfl⟩) λobj bI dN=>?_
 obtain⟨rfl,rfl⟩:=dN;have hS:(s.heap.push {cls:=.type "list",data:=.seq #[]}).get? s.heap.objs.size=Δ {cls:=.type "list",data:=.seq #[]}:=ZM _ rfl;refine⟨⟨_,hS,rfl⟩,PySem.F.args_list_init_2 _ _,?_⟩;show wpAny _ A.in1.in1 (do let old<-adu.List.listItems (.ref s.heap.objs.size);adu.List.listUpdate (.ref s.heap.objs.size) (λ_=>#[]);letGo old.toList.reverse;abL (.ref s.heap.objs.size) (.ref z) .none) _ _ _;refine Zv ?_;unfold adu.List.listItems;refine Zv (abA hS rfl (ZT ?_));show wpAny _ _ (aeV s.heap.objs.size (λ_=>#[]) >>=λ_=>letGo (#[]:Array Value).toList.reverse >>=λ_=>abL (.ref s.heap.objs.size) (.ref z) .none) _ _ _;refine Zv (adB hS rfl ?_);have Ek:=abr (acb (λ_=>(#[]:Array Value))) hS rfl;have KA:∀b o,s.heap.get? b=Δ o->((s.heap.push {cls:=.type "list",data:=.seq #[]}).update s.heap.objs.size (acb (λ_=>(#[]:Array Value)))).get? b=Δ o:=
  λb o e=>(aaK _ _ (aaD (ZN e))).trans (Zt _ e)
 refine Zv (adM ?_);refine uY ap D1 D2 (B:=B) hn ⟨aaD gE.1,aaD gE.2.1,aaD gE.2.2.1,λh=>abg _ (gE.2.2.2.1 _ h),λh=>abg _ (gE.2.2.2.2 _ h)⟩ Sa FF ?_ (ZI.frame ap D1 D2 MO λb _ o e=>KA b o e) Ek λh' tk iT c' hk QB fN=>?_
 ·show B<=((s.heap.push _).update _ _).objs.size;rw[ads,aaT]
  lia
 ·refine⟨rfl,hQ h' tk iT c' (λb o hb e=>hk b o ?_ (KA b o e)) QB fN⟩;intro hm;simp only[abM,abx,or_false] at hm hb;rcases hm with h|h|h|h|h;·exact hb (.inl h)
  ·exact hb (.inr (.inl h))
  ·exact hb (.inr (.inr (.inl h)))
  ·exact hb (.inr (.inr (.inr h)))
  ·exact absurd (ZN e) (by rw[h];exact abg _)
abbrev UX(h:Heap)(l1:Addr):Heap:=h.push {cls:=.type "tuple_iterator",data:=.fields #[.ref l1,.int 0 0]}
abbrev UY(h:Heap)(l1 l2:Addr):Heap:=(UX h l1).push {cls:=.type "tuple_iterator",data:=.fields #[.ref l2,.int 0 0]}
abbrev UZ(h:Heap)(l1 l2:Addr):Heap:=(UY h l1 l2).push {cls:=.type "tuple",data:=.seq #[.ref h.objs.size,.ref (UX h l1).objs.size]}
abbrev U0(h:Heap)(l1 l2:Addr):Heap:=(UZ h l1 l2).push {cls:=.type "tuple",data:=.seq #[.none,.none]}
abbrev N9(h:Heap)(l1 l2:Addr):Heap:=(U0 h l1 l2).push {cls:=.type "zip",data:=.fields #[.none,.bool Ξ,.bool Ξ,.ref (UY h l1 l2).objs.size,.ref (UZ h l1 l2).objs.size]}
theorem uZ l1 l2 xs ys:
  Meets (adu.«zip.__new__» ⟨[.type "zip",.ref l1,.ref l2],[]⟩) (λ_ R s=>s.heap.IsTuple l1 xs/\s.heap.IsTuple l2 ys/\
   R (.ok (.ret (.ref (U0 s.heap l1 l2).objs.size))) {s with heap:=N9 s.heap l1 l2}):=
 .of_wp λprog w A R s h=>by
  obtain⟨hp,g,d,tk,os⟩:=s;obtain⟨Xq,A7,h⟩:=h;have Oa:=sub_zip;have hL1:aeS (ae1 ⟨hp,g,d,tk,os⟩) l1 xs:=Xq;have hL2:aeS (ae1 ⟨hp.push {cls:=.type "tuple_iterator",data:=.fields #[.ref l1,.int 0 0]},g,d,tk,os⟩) l2 ys:=aeS.push A7 _
  wp_walk using abR hL1,abR hL2
  exact⟨_,rfl,h⟩
theorem Dr(Xq:s.heap.IsTuple l1 xs)(A7:s.heap.IsTuple l2 ys)(h:∀h',Az h' (s.heap.objs.size+4) (s.heap.objs.size+2) (s.heap.objs.size+3) .none (.bool Ξ)->abT h' (s.heap.objs.size+2) (.ref s.heap.objs.size) (.ref (s.heap.objs.size+1))->
   abT h' (s.heap.objs.size+3) .none .none->h'.IsTupleIter s.heap.objs.size l1 0->h'.IsTupleIter (s.heap.objs.size+1) l2 0->h'.objs.size=s.heap.objs.size+5->
   (∀c o,s.heap.get? c=Δ o->h'.get? c=Δ o)->Q (.ref (s.heap.objs.size+4)) {s with heap:=h'}):
  wpAny (model prog w) A (call (.type "zip") [.ref l1,.ref l2]) Q E s:=by
 refine callType_new PySem.F.called_zip (by decide) (PySem.F.typeCall_zip_2 _ _) (PySem.F.newCall_zip_2 _ _) (λobj=>PySem.F.args_object_init_3 obj _ _) PySem.F.entry_zip_new
  (uZ l1 l2 xs ys) ⟨Xq,A7,?_⟩
 have z1:(UX s.heap l1).objs.size=s.heap.objs.size+1:=aaT ..;have z2:(UY s.heap l1 l2).objs.size=s.heap.objs.size+2:=by rw[aaT,z1]
 have z3:(UZ s.heap l1 l2).objs.size=s.heap.objs.size+3:=by rw[aaT,z2]
 have z4:(U0 s.heap l1 l2).objs.size=s.heap.objs.size+4:=by rw[aaT,z3]
 have z5:(N9 s.heap l1 l2).objs.size=s.heap.objs.size+5:=by rw[aaT,z4]
 have g5:(N9 s.heap l1 l2).get? (U0 s.heap l1 l2).objs.size=Δ _:=ZM _ rfl;have g4:(N9 s.heap l1 l2).get? (UZ s.heap l1 l2).objs.size=Δ _:=Zt _ (ZM _ rfl);have g3:(N9 s.heap l1 l2).get? (UY s.heap l1 l2).objs.size=Δ _:=Zt _ (Zt _ (ZM _ rfl));have g2:(N9 s.heap l1 l2).get? (UX s.heap l1).objs.size=Δ _:=Zt _ (Zt _ (Zt _ (ZM _ rfl)));have g1:(N9 s.heap l1 l2).get? s.heap.objs.size=Δ _:=Zt _ (Zt _ (Zt _ (Zt _ (ZM _ rfl))));show _/\_;rw[z2,z3,z4] at g5;rw[z1,z2] at g3;rw[z3] at g4;rw[z1] at g2;rw[z4];exact⟨⟨_,g5,rfl⟩,h _ g5 g3 g4 ⟨_,g1,rfl,rfl⟩ ⟨_,g2,rfl,rfl⟩ z5 λc o x=>Zt _ (Zt _ (Zt _ (Zt _ (Zt _ x))))⟩
theorem Inv.Xr(I:Inv X pins σ H s)(k:∀b u,s.heap.get? b=Δ u->h'.get? b=Δ u)(hs:lQ H H')(FA:∀b o,H' b=Δ o->H b=Δ o\/(s.heap.objs.size<=b/\bR X.prog X.w H' h' b o)):Inv X pins σ H' {s with heap:=h',toks:=t'}:=by
 refine I.un ⟨λb u q _ _ _=>k b u q,λb u q _ _ _=>⟨u.slots,k b u q⟩,λb u q n _=>?_,λb u q _=>⟨u,k b u q⟩,λb xs q=>hs _ _ q,λb u xs q=>hs _ _ q,λb ps q=>⟨#[],by rw[hs _ _ q];simp⟩⟩ λb o e=>?_
 ·cases e:H' b with
  |none=>rfl|some o=>
   rcases FA b o e with z|⟨z,_⟩;·rw[n] at z;exact aQ z
   ·exact absurd (ZN q) (Nat.not_lt.mpr z)
 ·rcases FA b o e with z|⟨_,z⟩;·exact(I.aN b o z).oU (λc v _ q=>k c v q) (λc q=>hs _ _ q) λc xs q=>hs _ _ q
  ·exact z
noncomputable def Ob(H:Hp)(us ws ts:List V):Prop:=ts.length=min us.length ws.length/\∀(j:Nat) t,ts[j]?=Δ t->∃T u w,t=.ref T/\H T=Δ (.tup [u,w])/\us[j]?=Δ u/\ws[j]?=Δ w
def HG:Value->V
 |.ref a=>.ref a|_=>.bG
theorem ym:∀{l},(∀v∈l,∃T,v=Z7 T)->aY (l.map HG) l
 |[],_=>.nil|v::l,h=>by obtain⟨T,rfl⟩:=h v Zx;exact .cons rfl (ym λv hv=>h v (Zs _ hv))
theorem Xs(h:a=c)(k:b=d):(Δ (HO.tup [a,b]):Option HO)=Δ (HO.tup [c,d]):=by rw[h,k]
theorem KC(N a b:Nat)(la:a < N)(lb:b < N):Kz (N+4) (N+2) (N+3) N (N+1) [N,a] [N+1,b]:=by
 have e2:∀{x y z:Nat},x≠y->x≠z->x∉[y,z]:=λh1 h2 h=>by
  rcases abM.mp h with h|h;·exact h1 h
  ·exact h2 (by simpa using h)
 have ne:∀{x y:Nat},x < y\/y < x->x≠y:=λh=>by lia
 exact⟨ne (by lia),ne (by lia),ne (by lia),ne (by lia),ne (by lia),ne (by lia),ne (by lia),ne (by lia),ne (by lia),ne (by lia),e2 (by lia) (by lia),e2 (by lia) (by lia),e2 (by lia) (by lia),e2 (by lia) (by lia),e2 (by lia) (by lia),e2 (by lia) (by lia)⟩
theorem HH(la:a < N)(hc:c∈[N+k,a])(hk:k < 5):c < N+5:=by simp at hc;rcases hc with rfl|rfl<;>lia
open Classical in
theorem A8(hc:X.calm=Λ)(hgL:Gl X "list")(hmL:X.mg "list"=Θ)(hgZ:Gl X "zip")(hmZ:X.mg "zip"=Θ)(ha:PA X [x1,x2] t)(he:Z9 [x1,x2] X.env=(Ξ,eval x1 X.env)::Z9 [x2] X.env)(Ax:(abC pos (Z9 [x2] X.env)).any (·.1)=Ξ):
  PE X (.Call (.Name "list" p2) [.Call (.Name "zip" p) [x1,x2] [] pos] [] KD) (λσ H Q=>t σ H λvs H1=>∃a b us ws,vs=[.ref a,.ref b]/\g7 X.K H1 a us/\g7 X.K H1 b ws/\
   ∀l H' ts,lQ H1 H'->H1 l=Θ->H' l=Δ (.lst ts)->Ob H' us ws ts->Q (.ref l) H'):=by
 intro pins s σ H Q I h;refine aaR (kM I hgL hmL boot_list ?_ (by decide+kernel) (by decide+kernel));refine aaA ?_ rfl rfl;show wpAny _ _ (spliced [(Ξ,eval (.Call (.Name "zip" p) [x1,x2] [] pos) X.env)]) _ _ s;refine acp ?_;refine aaR (kM I hgZ hmZ PyProof.Rows.boot_zip ?_ (by decide+kernel) (by decide+kernel));refine aaA (b8 (ha pos pins s σ H _ I h) λus s1 gy=>?_) he Ax;refine cps λgG kG=>?_;obtain⟨vs,H1,I1,r1,q1⟩:=gy;revert q1;refine fB λa b ua ub aH ta tb q=>?_;subst aH;refine ah (λva vb aH ra rb=>?_) (vals2 r1);subst aH;obtain rfl:=ra;obtain rfl:=rb;refine aB (λia Xt pa za=>?_) (I1.tuple ta);refine aB (λib rvb pb zb=>?_) (I1.tuple tb);have Xu:s1.heap.IsTuple a ia.toArray:=pa;have Xv:s1.heap.IsTuple b ib.toArray:=pb;obtain⟨N,hN⟩:∃N:Nat,N=s1.heap.objs.size:=⟨_,rfl⟩;refine kG ?_;have la:(a:Nat) < s1.heap.objs.size:=by obtain⟨o,e,_⟩:=Xu;exact ZN e
 have lb:(b:Nat) < s1.heap.objs.size:=by obtain⟨o,e,_⟩:=Xv;exact ZN e
 refine Dr Xu Xv λh2 g1 g2 g3 g4 g5 hsz hk=>?_;refine adb ?_;have hh:X.A.in1.in1.in1.handled=Θ:=I1.ok.hd hc;have KE:({s1 with heap:=h2}:ZR).heap.objs.size=s1.heap.objs.size+5:=hsz;have up:∀{c:Addr} {items:Array Value},s1.heap.IsTuple c items->h2.IsTuple c items:=λ{c items} x=>let ⟨o,e,r⟩:=x;⟨o,hk _ _ e,r⟩
 have ap:=KC s1.heap.objs.size a b la lb;have U1:∀k:Nat,k < 5->s1.heap.objs.size+k < ({s1 with heap:=h2}:ZR).heap.objs.size:=λk hk=>by rw[KE];exact Nat.add_lt_add_left hk _
 refine xl (s:={s1 with heap:=h2}) ap (l8 hh s1.heap.objs.size a (aaa la) ia.toArray) (l8 hh (s1.heap.objs.size+1) b (aaa (Nat.lt_succ_of_lt lb)) ib.toArray) (B:=s1.heap.objs.size) (by rw[ZQ,<-Xt.length];exact za)
  ⟨U1 4 (by decide),U1 2 (by decide),U1 3 (by decide),λc hc=>?_,λc hc=>?_⟩ (by simp) (by simp) (acG (U1 0 (by decide))) ⟨.none,.bool Ξ,.none,.none,⟨.inl rfl,Ξ,rfl⟩,g1,g2,g3,⟨g4,up Xu⟩,⟨g5,up Xv⟩⟩ λh' tk acc c' RN hS fN=>?_
 ·rw[KE];exact HH (k:=0) la hc (by decide)
 ·rw[KE];exact HH (k:=1) lb hc (by decide)
 rw[KE] at hS fN ⊢;revert fN;refine AE λa1 a2 a3=>?_;have n5:∀b o,s1.heap.get? b=Δ o->h'.get? b=Δ o:=λb o e=>by
  have hb:(b:Nat) < s1.heap.objs.size:=ZN e;refine RN b o (λhm=>?_) (hk b o e);simp only[abM,abx,or_false] at hm;have:(b:Nat)>=s1.heap.objs.size:=by
   rcases hm with h|h|h|h;·exact h▸abP _ _
   ·exact h▸abP _ _
   ·exact h▸ZC _
   ·exact h▸abP _ _
  exact absurd hb (Nat.not_lt.mpr this)
 have hrefs:∀v∈acc.toList,∃T,v=Z7 T:=λv hv=>by obtain⟨j,hj,e⟩:=List.mem_iff_getElem.mp hv;refine fQ (λT _ _ e' _=>?_) (a2 j v (by rw[<-adk,Zu hj,e]));exact⟨T,e'⟩
 have hV:=ym hrefs
 let H2:Hp:=λc=>if c=s1.heap.objs.size+5 then Δ (.lst (acc.toList.map HG)) else
  if hj:∃(j:Nat) (u w':V),acc[j]?=Δ (Z7 c)/\ua[j]?=Δ u/\ub[j]?=Δ w' then Δ (.tup [hj.choose_spec.choose,hj.choose_spec.choose_spec.choose]) else H1 c
 have fr:∀c,s1.heap.objs.size<=c->H1 c=Θ:=λc hc=>I1.aN.fresh hc;have Xw:∀(j:Nat) T,acc[j]?=Δ (Z7 T)->T≠s1.heap.objs.size+5:=λj T e z=>by refine br (λT' _ _ e' _ hb _=>?_) (a2 j _ e);cases e';exact hb (by rw[z];simp)
 have Xx:∀(j:Nat) T,acc[j]?=Δ (Z7 T)->s1.heap.objs.size<=T:=λj T e=>by refine cD (λT' _ _ e' h1 _=>?_) (a2 j _ e);cases e';exact h1
 have atT:∀(j:Nat) T u w',acc[j]?=Δ (Z7 T)->ua[j]?=Δ u->ub[j]?=Δ w'->H2 T=Δ (.tup [u,w']):=λj T u w' e1 e2 e3=>by have hj:∃(j:Nat) (u w':V),acc[j]?=Δ (Z7 T)/\ua[j]?=Δ u/\ub[j]?=Δ w':=⟨j,u,w',e1,e2,e3⟩;show(if T=s1.heap.objs.size+5 then _ else if hj:_ then _ else _)=_;rw[if_neg (Xw j T e1),dif_pos hj];refine AE (λc1 c2 c3=>?_) (hj.choose_spec.choose_spec.choose_spec);have ej:=a3 _ _ _ c1 e1;have q1:=aaf (c2.symm.trans (show ua[hj.choose]?=Δ u by rw[ej];exact e2));have q2:=aaf (c3.symm.trans (show ub[hj.choose]?=Δ w' by rw[ej];exact e3));exact Xs q1 q2
 have hS2:H2 (s1.heap.objs.size+5)=Δ (.lst (acc.toList.map HG)):=if_pos rfl;have sm:lQ H1 H2:=λc o e=>by
  show(if c=s1.heap.objs.size+5 then _ else if hj:_ then _ else _)=_;rw[if_neg,dif_neg];·exact e
  ·intro tm;revert tm;refine fQ λj u w' e1 _=>?_;rw[fr c (Xx j c e1)] at e;exact aQ e
  ·rintro rfl;rw[fr _ (abP _ _)] at e;exact aQ e
 have hlen:acc.toList.length=min ua.length ub.length:=by rw[acg,a1,ZQ,ZQ,<-Xt.length,<-rvb.length]
 have I2:Inv X pins σ H2 {s1 with heap:=h',toks:=tk}:=by
  refine I1.Xr n5 sm λc o e=>?_;have e':(if c=s1.heap.objs.size+5 then Δ (HO.lst (acc.toList.map HG)) else
   if hj:∃(j:Nat) (u w':V),acc[j]?=Δ (Z7 c)/\ua[j]?=Δ u/\ub[j]?=Δ w' then Δ (.tup [hj.choose_spec.choose,hj.choose_spec.choose_spec.choose]) else H1 c)=Δ o:=e
  split at e';·rename_i hc;obtain rfl:=sj e';refine .inr ⟨by rw[hc];exact abP _ _,?_⟩;rw[hc];refine⟨?_,acc.toList,c',hV,by simpa using hS⟩;rw[ZA,hlen];exact aap (acP _ _) za
  ·split at e'
   ·rename_i hj;obtain rfl:=sj e';refine AE (λc1 c2 c3=>?_) (hj.choose_spec.choose_spec.choose_spec);refine kL (λT x y eT b1 b2 b3 b4 b5=>?_) (a2 _ _ c1);cases eT;refine .inr ⟨b1,?_,[x,y],?_,⟨_,b3,rfl,_,rfl⟩⟩;·rw[aa2];simp
    ·refine cps λgG kG=>?_;refine dJ (λx' ex rx=>?_) (Xt.get c2);refine dJ (λy' ey ry=>?_) (rvb.get c3);have e1:ia[hj.choose]?=Δ x:=by simpa using b4
     have e2:ib[hj.choose]?=Δ y:=by simpa using b5
     rw[ex] at e1;rw[ey] at e2;obtain rfl:=sj e1;obtain rfl:=sj e2;refine kG ?_;exact .cons rx (.cons ry .nil)
   ·exact .inl e'
 refine⟨.ref (s1.heap.objs.size+5),H2,I2,rfl,q _ H2 _ sm (fr _ (abP _ _)) hS2 ⟨by rw[ZA,hlen],λj t ht=>?_⟩⟩;rw[ZD] at ht;obtain⟨v,hv,rfl⟩:∃v,acc.toList[j]?=Δ v/\HG v=t:=by cases hq:acc.toList[j]? with|none=>rw[hq] at ht;exact aQ ht|some v=>rw[hq] at ht;exact⟨v,rfl,by simpa using ht⟩
 have U2:j < min ua.length ub.length:=by rw[<-hlen];exact(List.getElem?_eq_some_iff.mp hv).1
 have UK:acc[j]?=Δ v:=by rw[<-adk];exact hv
 refine fQ (λT x y aH _=>?_) (a2 j v UK);subst aH;have l1:j < ua.length:=ZZ U2 (acP _ _);have l2:j < ub.length:=ZZ U2 (acF _ _);exact⟨T,ua[j],ub[j],rfl,atT j T _ _ UK (Zu l1) (Zu l2),Zu l1,Zu l2⟩
end
theorem l9 l items o(ht:o.cls=.type "tuple")n(hd:o.data=.seq items n):
  Meets (adu.«enumerate.__new__» ⟨[.type "enumerate",.ref l],[]⟩) (λ_ R s=>s.heap.get? l=Δ o/\
   R (.ok (.ret (.ref (s.heap.push {cls:=.type "tuple_iterator",data:=.fields #[.ref l,.int 0 0]}).objs.size)))
    {s with heap:=(s.heap.push {cls:=.type "tuple_iterator",data:=.fields #[.ref l,.int 0 0]}).push {cls:=.type "enumerate",data:=.fields #[.none,.bool Ξ,.ref s.heap.objs.size,abB 0,.none,.none]}}):=
 .of_wp λprog w A R s h=>by
  obtain⟨hp,g,d,tk,os⟩:=s;obtain⟨hl,h⟩:=h;have Oa:=sub_enumerate;have hL:aeS (ae1 ⟨hp,g,d,tk,os⟩) l items:=⟨_,hl,ht,n,hd⟩
  wp_walk using aa7 hl
  refine wpAny_stack_any λst=>ZT ?_;split
  ·rename_i c _ _ _ _ _;cases (c==acm "enumerate")
   ·wp_walk using aa7 hl,abR hL
    exact⟨_,rfl,h⟩
   ·wp_walk using aa7 hl,abR hL
    exact⟨_,rfl,h⟩
  ·wp_walk using aa7 hl,abR hL
   exact⟨_,rfl,h⟩
section
variable{prog:aav}{w:World}{A:aaZ}{E:Value->ZR->Prop}{s:ZR}
theorem qJ(hl:s.heap.IsTuple l items)(h:∀h',IsEnum h' (s.heap.objs.size+1) s.heap.objs.size 0 .none->h'.IsTupleIter s.heap.objs.size l 0->h'.objs.size=s.heap.objs.size+2->
   (∀b o,s.heap.get? b=Δ o->h'.get? b=Δ o)->Q (.ref (s.heap.objs.size+1)) {s with heap:=h'}):
  wpAny (model prog w) A (call (.type "enumerate") [.ref l]) Q E s:=by
 revert hl;refine eV λo ho hc n hd=>?_;refine callType_new PySem.F.called_enumerate (by decide) (PySem.F.typeCall_enumerate_1 _) (PySem.F.newCall_enumerate_1 _) (λobj=>PySem.F.args_object_init_2 obj _) PySem.F.entry_enumerate_new
  (l9 l items o hc n hd) ⟨ho,?_⟩
 have hz:(s.heap.push {cls:=.type "tuple_iterator",data:=.fields #[.ref l,.int 0 0]}).objs.size=s.heap.objs.size+1:=aaT ..;show _/\_;rw[hz];have he:IsEnum ((s.heap.push {cls:=.type "tuple_iterator",data:=.fields #[.ref l,.int 0 0]}).push
   {cls:=.type "enumerate",data:=.fields #[.none,.bool Ξ,.ref s.heap.objs.size,abB 0,.none,.none]}) (s.heap.objs.size+1) s.heap.objs.size 0 .none:=by
  have:=ZM (s.heap.push {cls:=.type "tuple_iterator",data:=.fields #[.ref l,.int 0 0]})
   (o:={cls:=.type "enumerate",data:=.fields #[.none,.bool Ξ,.ref s.heap.objs.size,abB 0,.none,.none]}) rfl
  rw[hz] at this;exact this
 refine⟨⟨_,he,rfl⟩,h _ he ⟨_,Zt _ (ZM _ rfl),rfl,rfl⟩ (by rw[aaT,hz]) λb o x=>Zt _ (Zt _ x)⟩
end
def Xy(K:ZE)(a:Addr):It:=
 ⟨λi H=>∃xs x,g7 K H a xs/\xs[i]?=Δ x,λi H x H'=>∃T v,H T=Θ/\H'=upd H T (.tup [.int i,v])/\x=.ref T/\∀xs,g7 K H a xs->xs[i]?=Δ v,λi H=>∃xs,g7 K H a xs/\xs.length<=i⟩
theorem Ds{P:aav}{w:World}{K:ZE}{elts:List Expr}{kk:Nat}{pos:Pos}(a it e:Addr)(QC:e≠it):Turn P w K (.Tuple elts kk pos) (Xy K a) [e,it] e (λi h=>(∃old,IsEnum h e it i old)/\h.IsTupleIter it a i) where
 mem:=by simp
 obj:=λi h st b hb=>by
  obtain⟨⟨old,he⟩,o,eo,c,d⟩:=st;have jJ:b=e\/b=it:=by simpa using hb
  rcases jJ with z|z;·rw[z];exact⟨_,he,λv z=>nomatch z⟩
  ·rw[z];exact⟨o,eo,λv z=>by rw[d] at z;cases z⟩
 keep:=λi h h' st k=>⟨let ⟨old,he⟩:=st.1;⟨old,k e (by simp) _ he⟩,st.2.at λo x=>k it (by simp) o x⟩
 item:=by
  intro X hP hw hK hc i pins s σ H E I hf st hg;subst hP hw hK;refine cps λgG kG=>?_;obtain⟨xs,x,hq,hx⟩:=hg;obtain⟨its,rv,p,hz⟩:=I.tuple hq;have p':s.heap.IsTuple a its.toArray:=p;obtain⟨u,hu,ru⟩:=rv.get hx;obtain⟨f0,f1,f2,f3,f4,f5⟩:=hf it (by simp);obtain⟨g0,g1,g2,g3,g4,g5⟩:=hf e (by simp);obtain⟨⟨old,he⟩,hit⟩:=st;refine kG ?_;have hai:a≠it:=λz=>by revert p';refine aB λo1 e1 c1 _=>?_;refine aB (λo2 e2 c2 _=>?_) (id hit);rw[z,e2] at e1;obtain rfl:=sj e1;rw[c1] at c2;simp at c2
  have hae:a≠e:=λz=>by revert p';refine aB λo1 e1 c1 _=>?_;rw[z,he] at e1;obtain rfl:=sj e1;simp at c1
  have gE:i < its.toArray.size:=by have:=(List.getElem?_eq_some_iff.mp hu).1;simpa using this
  refine wpAny_pyNext_enum_itemD (l8 (A:=X.A.in1) (I.ok.hd hc) it a hai its.toArray) he ⟨hit,p'⟩ gE QC (by simp[QC,aaw hae]) λx1 h' tk px ho xg hT hsz hk=>?_;have ex1:x1=u:=by
   have:its[i]?=Δ x1:=by simpa using px
   rw[hu] at this;obtain rfl:=sj this;rfl
  subst ex1;refine⟨_,rfl,?_⟩;refine wpAny_letOwnedTupleGo_enum ho λh2 MP JN=>?_;have Sh:s.heap.objs.size≠e:=aaD (ZN he);have QD:s.heap.objs.size≠it:=by obtain⟨o,eo,_⟩:=hit;exact aaD (ZN eo)
  have A9:∀b o,b≠e->b≠it->s.heap.get? b=Δ o->h2.get? b=Δ o:=λb o h1 h3 q=>JN.extBut b o h1 (hk b o h1 h3 q);have hn:H s.heap.objs.size=Θ:=I.aN.fresh (ZC _);have GY:∀b v,H b=Δ v->b≠e/\b≠it:=λb v q=>⟨(λz=>by rw[z,g0] at q;exact aQ q),(λz=>by rw[z,f0] at q;exact aQ q)⟩;have Si:h2.get? s.heap.objs.size=Δ {cls:=.type "tuple",data:=.seq #[.int i tk,x1]}:=JN.extBut _ _ Sh hT;have I1:Inv X pins σ (upd H s.heap.objs.size (.tup [.int i,x])) {s with heap:=h2,toks:=tk+1}:=by
   refine I.step (g':=s.gens) (d':=s.drawn) (ch:=[e,it]) (λb hb=>?_) (λb o _ _ hc q _=>A9 b o (λz=>hc (by simp[z])) (λz=>hc (by simp[z])) q) (λb o _ _ hc q _=>⟨o.slots,A9 b o (λz=>hc (by simp[z])) (λz=>hc (by simp[z])) q⟩)
    (λb o _ q n=>by rw[av (aaa (ZN q))];exact n) (λb o hc q=>⟨o,A9 b o (λz=>hc (by simp[z])) (λz=>hc (by simp[z])) q⟩) (λb xs q=>by rw[av (aR q hn)];exact q) (λb o v q=>by rw[av (aR q hn)];exact q)
    (λb ps q=>⟨#[],by rw[av (aR q hn),q];simp⟩) (λm hm=>?_) (λb v q=>?_) I.bare
   ·have jJ:b=e\/b=it:=by simpa using hb
    rcases jJ with z|z;·rw[z];exact⟨g3,g1,g4,g5⟩
    ·rw[z];exact⟨f3,f1,f4,f5⟩
   ·revert hm;refine fQ λo es ep qx r=>?_;exact⟨o,es,ep,A9 _ o (aaw g1) (aaw f1) qx,r⟩
   ·by_cases hb:b=s.heap.objs.size;·rw[hb,aG] at q;obtain rfl:=sj q;rw[hb];exact⟨by rw[aa2];simp,[.int i tk,x1],.cons ⟨tk,rfl⟩ (.cons ru .nil),⟨_,Si,rfl,_,rfl⟩⟩
    ·rw[av hb] at q;refine(I.aN b v q).oU (λc y hc qq=>?_) (λc qq=>by rw[av (aR qq hn)];exact qq) λc xs qq=>by rw[av (aR qq hn)];exact qq
     have:c≠e/\c≠it:=by
      rcases hc with z|z;·rw[z];exact GY b v q
      ·exact GY c _ z
     exact A9 c y this.1 this.2 qq
  refine⟨.ref s.heap.objs.size,_,I1,rfl,⟨s.heap.objs.size,x,hn,rfl,rfl,λys hy=>by rw[I.xW hy hq];exact hx⟩,⟨⟨x1,by simpa using MP⟩,xg.1.at λo q=>JN.extBut _ _ (aaw QC) q⟩,λb hb=>?_⟩;have jJ:b=e\/b=it:=by simpa using hb
  rcases jJ with z|z;·rw[z,av (aaw Sh)];exact g0
  ·rw[z,av (aaw QD)];exact f0
 done:=by
  intro X hP hw hK hc i pins s σ H E I hf st hg;subst hP hw hK;refine cps λgG kG=>?_;obtain⟨xs,hq,hx⟩:=hg;obtain⟨its,rv,p,hz⟩:=I.tuple hq;obtain⟨f0,f1,f2,f3,f4,f5⟩:=hf it (by simp);obtain⟨⟨old,he⟩,hit⟩:=st;refine kG ?_;have hl:=rv.length;have hT:s.TypeIs (.ref e) "enumerate":=⟨_,he,rfl⟩;unfold adY;refine Zv (adX (aaP (name:=aaC "__next__") hT abI
   (abv abI hT PySem.F.entry_enumerate_next ?_ (PySem.F.args_enumerate_next_1 _))))
  show wpAny _ _ (field (.ref e) 2 >>=_) _ _ _;refine Zv (aba he rfl (x:=.ref it) rfl ?_);refine Zv (kl (I.ok.hd hc) hit (show s.heap.IsTuple a its.toArray from p) (by simp;lia) λh' y Xz yi=>?_);obtain⟨o,ho,zD⟩:=yi;refine Zv (ad2 (T:="StopIteration") (b:=Λ) ⟨o,ho,zD⟩ aeq ?_);exact ZT ⟨rfl,I.turned (t':=s.toks) (λb o hb q=>Xz b o hb q) f0 f1 f3 f4 f5⟩
 self:=λ_ _ _ _ _ st h=>let ⟨old,he⟩:=st.1;ac2 he h
section
variable{X:Cx}
def Sj(K:ZE)(ta:TA):TI:=λσ H R=>ta σ H λvs H1=>∃a,vs=[.ref a]/\(∃xs,g7 K H1 a xs)/\R (Xy K a) H1
theorem HI(hg:Gl X "enumerate")(hm:X.mg "enumerate"=Θ)(ha:PA X [x] ta)(hs:Z9 [x] X.env=[(Ξ,eval x X.env)]):
  PI X (.Tuple elts kk p3) (.Call (.Name "enumerate" p) [x] [] pos) (Sj X.K ta):=by
 intro pins s σ H R I h;refine Call_ (kM I hg hm boot_enumerate (aaA (b8 (ha pos pins s σ H _ I h) λus s1 gy=>?_) hs rfl) (by decide+kernel) (by decide+kernel));refine cps λgG kG=>?_;obtain⟨vs,H1,I1,r1,q1⟩:=gy;revert q1;refine aB λa aH Fb q=>?_;subst aH;obtain⟨xs,hq⟩:=Fb;obtain⟨u,rfl,ru⟩:=vals1 r1;obtain rfl:=ru;refine aB (λits rv pl hz=>?_) (I1.tuple hq);refine kG ?_;refine qJ (show s1.heap.IsTuple a its.toArray from pl) λh' he hit hsz hk=>?_;refine ac2 he ?_;have I2:Inv X pins σ H1 {s1 with heap:=h'}:=I1.kept (t':=s1.toks) hk;refine⟨s1.heap.objs.size+1,[s1.heap.objs.size+1,s1.heap.objs.size],_,_,H1,rfl,I2,Ds a _ _ (Nat.succ_ne_self _),⟨⟨_,he⟩,hit⟩,λb hb=>?_,q⟩;have jJ:b=s1.heap.objs.size+1\/b=s1.heap.objs.size:=by simpa using hb
 rcases jJ with z|z;·rw[z];exact I1.zj (abn _) (I1.aN.fresh (abn _))
 ·rw[z];exact I1.zj (ZC _) (I1.aN.fresh (ZC _))
end
section
variable{prog:aav}{w:World}{A:aaZ}{E:Value->ZR->Prop}{s:ZR}
end
section
variable{X:Cx}
end
def dO(c:Addr)(q:Str):Heap->Prop:=λh=>h.CodeRec (.ref c) q
structure ma(N P F:List Str)(sc:Scope):Prop where
 kind:sc.kind=.function
 co:sc.isCoroutine=Ξ
 gen:sc.isGenerator=Ξ
 nd:N.Nodup
 pre:N.take (P.length+F.length)=P++F
 par:∀x∈P,sc.names.lookup x=Δ .local
 fre:∀x∈F,sc.names.lookup x=Δ .free
 gO:∀y∈sc.names,y.2≠.cell
 Sk:∀y∈sc.names,y.2=.free->y.1∈F
structure JO(B:Heap)(cl:List (Str×Addr))(F:List Str)(b9:List V):Prop where
 inj:∀x y c,cl.lookup x=Δ c->cl.lookup y=Δ c->x=y
 only:∀x c,cl.lookup x=Δ c->x∈F
 at_:∀(i:Nat) (x:Str) (v:V),F[i]?=Δ x->b9[i]?=Δ v->∃c u,cl.lookup x=Δ c/\B.IsCell c (Δ u)/\RelV v u
 len:b9.length=F.length
theorem JO.get(C:JO B cl F b9)(h:x∈F):∃(i:Nat) (v:V) (c:Addr) (u:Value),F[i]?=Δ x/\b9[i]?=Δ v/\cl.lookup x=Δ c/\B.IsCell c (Δ u)/\RelV v u:=by
 obtain⟨i,hi,e⟩:=List.mem_iff_getElem.mp h;have h1:F[i]?=Δ x:=by rw[Zu hi,e]
 have h2:b9[i]?=Δ (b9[i]'(by rw[C.len];exact hi)):=Zu _;refine ah (λc u a b d=>?_) (C.at_ i x _ h1 h2);exact⟨i,_,c,u,h1,h2,a,b,d⟩
abbrev Ba(qual:Str)(scope:Scope)(L f:Addr)(cd:Value)(cl:List (Str×Addr)):Env:=PySem.W.envX qual scope L f cd cl
noncomputable def MQ(CX:JK)(P:aav)(w:World)(K:ZE)(mg:Str->Option Value)(base:Heap)(N:List Str)(qual:Str)(scope:Scope)(f:Addr)(cd:Value)(cl:List (Str×Addr))(A:aaZ)(outer:List Env)(s:ZR)(H:Hp)(E:XK):Cx where
 prog:=P
 w:=w
 K:=K
 mg:=mg
 base:=base
 A:=A.deeper (Ba qual scope s.heap.objs.size f cd cl)
 N:=N
 iR:=s
 AI:=H
 env:=Ba qual scope s.heap.objs.size f cd cl
 outer:=outer
 stack:=Ba qual scope s.heap.objs.size f cd cl::outer
 ex:=[]
 calm:=Λ
 fn:=λ_=>Ξ
 pn:=[]
 xe:=λe s'=>wpAny (model P w) (A.deeper (Ba qual scope s.heap.objs.size f cd cl)) (leaving (Ba qual scope s.heap.objs.size f cd cl) e) (λ_ NP=>CX outer H s E e NP) (λe' NP=>CX outer H s E e' NP) s'
theorem HJ:∀{ps:List Str} {us} {i:Nat} {y:Str} {u:Value},ps.Nodup->ps[i]?=Δ y->us[i]?=Δ u->(ps.zip us).reverse.lookup y=Δ u:=by
 intro ps us i y u nd h1 h2;have hm:(y,u)∈(ps.zip us).reverse:=by rw[List.mem_reverse];refine List.mem_iff_getElem?.mpr ⟨i,?_⟩;rw[acJ];exact⟨h1,h2⟩
 have un:∀u',(y,u')∈(ps.zip us).reverse->u'=u:=λu' h'=>by
  rw[List.mem_reverse] at h';obtain⟨j,hj⟩:=List.mem_iff_getElem?.mp h';rw[acJ] at hj;obtain⟨a,b⟩:=hj;have hi:i < ps.length:=(List.getElem?_eq_some_iff.mp h1).1;have U3:j < ps.length:=(List.getElem?_eq_some_iff.mp a).1;have e:i=j:=by
   have e1:ps[i]'hi=y:=(List.getElem?_eq_some_iff.mp h1).2;have e2:ps[j]'U3=y:=(List.getElem?_eq_some_iff.mp a).2;rcases Nat.lt_trichotomy i j with z|z|z;·exact absurd (e1.trans e2.symm) (List.pairwise_iff_getElem.mp (List.nodup_iff_pairwise_ne.mp nd) i j hi U3 z)
   ·exact z
   ·exact absurd (e2.trans e1.symm) (List.pairwise_iff_getElem.mp (List.nodup_iff_pairwise_ne.mp nd) j i U3 hi z)
  subst e;rw[h2] at b;exact(aaf b).symm
 cases q:(ps.zip us).reverse.lookup y with
 |none=>
  exfalso;have key:∀(l:List (Str×Value)),(y,u)∈l->l.lookup y≠Θ:=λl=>by
   induction l with
   |nil=>intro h;cases h|cons p l ih=>
    intro h;obtain⟨p1,p2⟩:=p;rw[Z6];rcases abM.mp h with e|e;·injection e with e1 _;rw[<-e1];simp
    ·cases hb:y==p1 with|true=>exact λz=>nomatch z|false=>exact ih e
  exact key _ hm q
 |some u'=>rw[un u' (aaq q)]
theorem El{K:ZE}(S:ma N ps F scope)(C:JO base cl F b9)(hd:A.handled=Θ)(e0:zl P w K mg base A outer s H)(hl:vs.length=ps.length)(r:aY vs us)(MR:dN.Ns s.heap.objs.size (λx=>(ps.zip us).reverse.lookup x))(hk:∀b o,s.heap.get? b=Δ o->dN.get? b=Δ o):
  Inv (MQ CX P w K mg base N qual scope f cd cl A outer s H E) [] (start N (vs++b9)) H {s with heap:=dN,toks:=tk}:=by
 have Ax:ps.length+F.length<=N.length:=by have:=congrArg adR S.pre;rw[abQ,ZW] at this;lia
 have JL:∀b:Addr,b∉(MQ CX P w K mg base N qual scope f cd cl A outer s H E).ex:=λb z=>absurd (show b∈([]:List Addr) from z) (by simp);have old:∀b o,base.get? b=Δ o->dN.get? b=Δ o:=λb o e=>hk b o (e0.bs b o e).1;have JP:∀x c,cl.lookup x=Δ c->∃u,base.IsCell c (Δ u):=λx c h=>by refine jd (λi v c' u _ _ h3 h4 _=>?_) (C.get (C.only x c h));rw[h] at h3;obtain rfl:=sj h3;exact⟨u,h4⟩
 refine⟨⟨e0.mod,S.kind,rfl,rfl,ZC _,λy z c h1 h2=>C.inj y z c h1 h2,λy hy=>?_,(λy c h _=>absurd (show Ξ=Λ from h) (by decide)),λ_=>hd,aaZ.frames_deeper e0.frames,.inr ⟨rfl,rfl⟩,λb z=>absurd z (JL b),e0.bs,e0.GL,λb _ _=>JL b,λb z=>absurd z (JL b),e0.nR,e0.JW⟩,
  rfl,e0.bare,Un.kept hk,⟨_,MR,λi y v h1 h2 h3=>?_⟩,λy c h=>?_,e0.aN.fresh (ZC _),λy c h=>?_,λp hp=>absurd (show p∈([]:List (Addr×Obj)) from hp) (by simp),e0.aN.kept hk,?_⟩
 ·have hy:scope.names.lookup y=Δ .cell\/scope.names.lookup y=Δ .free:=hy;rcases hy with hy|hy;·exact absurd rfl (S.gO _ (aaq hy))
  ·refine fB (λ_ _ c _ _ _ h _=>?_) (C.get (S.Sk _ (aaq hy) rfl));exact⟨c,h⟩
 ·have hlen:(vs++b9).length=ps.length+F.length:=by rw[ZW,hl,C.len]
  have hi:i < (vs++b9).length:=by
   unfold start at h2;by_cases hi:i < (vs++b9).length;·exact hi
   ·rw[ZX (by simpa using hi)] at h2;rw[acj] at h2;split at h2<;>cases h2
  have ha:(vs++b9)[i]?=Δ v:=by unfold start at h2;rw[Zy (by simpa using hi),ZD] at h2;cases e:(vs++b9)[i]? with|none=>rw[e] at h2;exact aQ h2|some a=>rw[e] at h2;cases h2;rfl
  have hp:(ps++F)[i]?=Δ y:=by rw[<-S.pre,List.getElem?_take_of_lt (by lia)];exact h1
  have UM:ps.Nodup:=by
   have:(ps++F).Nodup:=by rw[<-S.pre];exact S.nd.sublist (List.take_sublist _ _)
   exact(aar.mp this).1
  by_cases FF:i < vs.length;·rw[Zy FF] at ha;rw[Zy (by lia)] at hp;obtain⟨u,hu,rv⟩:=r.get ha;exact⟨u,rv,.inl ⟨S.par y (ZG hp),HJ UM hp hu⟩⟩
  ·rw[ZX (by lia)] at ha;rw[ZX (by lia),<-hl] at hp;refine ah (λc u hc oY rv=>?_) (C.at_ _ y v hp ha);exact⟨u,rv,.inr ⟨.inr (S.fre y (ZG hp)),c,hc,oY.keeps old⟩⟩
 ·obtain⟨u,hc⟩:=JP y c h;exact⟨_,hc.keeps old⟩
 ·refine bg (λu o ho _=>?_) (JP y c h);exact(e0.bs c o ho).2
 ·unfold start;show _=N.length;rw[ZW,ZA,acs,ZW,hl,C.len]
  lia
section
variable{CX:JK}{P:aav}{w:World}{K:ZE}{mg:Str->Option Value}{base:Heap}{k:Nat}{f:Addr}{name qual:Str}{params:ab2}{scope:Scope}{cl:List (Str×Addr)}{dV kV doc pm lS ct oc:Value}{an od:Option Addr}
  {Kd:Array (Option Value)} {N ps F:List Str} {b9:List V} {sp:Sp}
theorem Oc(lk:base.get? f=Δ ⟨oc,od,.func (ae2 name qual params body scope cl dV kV doc pm an lS ct),Kd⟩)(oQ:∀vs H Q E,sp vs H Q E->∃c,lS=.ref c/\H c=Δ (.ext (dO c qual)))(S:ma N ps F scope)(C:JO base cl F b9)(len:∀vs H Q E,sp vs H Q E->vs.length=ps.length)(uQ:∀(A:aaZ) (outer:List Env) (s:ZR) (H:Hp) (vs:List V) (Q:VK) (E:XK),dy k (A.deeper (Ba qual scope s.heap.objs.size f lS cl))->sp vs H Q E->
   ∃t,nS (MQ CX P w K mg base N qual scope f lS cl A outer s H E) body t/\t {nx:=λ_ H'=>Q .bG H',rt:=Q} (start N (vs++b9)) H):
  iy P w K mg base CX (k+1) f (ae2 name qual params body scope cl dV kV doc pm an lS ct) ps sp:=by
 refine⟨len,λA outer s H args us vs Q E hr e0 hb r zp=>?_⟩;have hl:=len _ _ _ _ zp;have old:∀b o,base.get? b=Δ o->s.heap.get? b=Δ o:=λb o e=>(e0.bs b o e).1;have lim:s.heap.NoLimit:=e0.mod.nolimit.keeps old;have Od:s.heap.CodeRec lS qual:=by obtain⟨c,rfl,hc⟩:=oQ _ _ _ _ zp;exact(e0.aN c _ hc).1
 have HK:∀y∈ps.zip us,scope.names.lookup y.1=Δ .local:=λ⟨n,v⟩ hy=>S.par n (abF hy).1;refine codeAny_call_function hr.depth (old _ _ lk) rfl S.co S.gen rfl Od (hb _ _ _ _ ?_);refine acw S.gO HK (λdN MR Sl=>⟨lim.fresh _ Sl,codeAny_func ?_⟩) S.kind;have hk:∀b o,s.heap.get? b=Δ o->dN.get? b=Δ o:=λb o e=>Sl.extBut b o (aaa (ZN e)) (Zt _ e);refine dJ (λt ht hq=>?_) (uQ A outer s H vs Q E (hr.deeper _) zp);have I:=El (CX:=CX) (qual:=qual) (f:=f) (cd:=lS) (tk:=s.toks+(ps.zip us).length) (E:=E) S C hr.hd e0 hl r MR hk;refine aa9 (ht [] _ (start N (vs++b9)) H _ I hq) (λfl s' hs=>?_) λe s' hs=>hs;have fin:∀{dn:St} {H':Hp} {v:V} {u:Value},Inv (MQ CX P w K mg base N qual scope f lS cl A outer s H E) [] dn H' s'->RelV v u->Q v H'->CE outer P w H s Q u s':=
  λ{dn H' v u} J rv q=>⟨v,H',J.os,J.bare,J.base,J.aN,rv,q⟩
 cases fl with|ret u=>revert hs;refine cD λv dn H' J rv q=>?_;exact fin J rv q|next=>revert hs;refine bg λdn H' J q=>?_;exact fin (v:=V.bG) (u:=abw) J rfl q|brk=>revert hs;refine bg λ_ _ _ q=>?_;exact aaL q|cont=>revert hs;refine bg λ_ _ _ q=>?_;exact aaL q
theorem Oe(lk:base.get? f=Δ ⟨oc,od,.func (aer name qual params body scope cl pm lS ct),Kd⟩)(oQ:∀vs H Q E,sp vs H Q E->∃c,lS=.ref c/\H c=Δ (.ext (dO c qual)))(S:ma N ps F scope)(C:JO base cl F b9)(len:∀vs H Q E,sp vs H Q E->vs.length=ps.length)(uQ:∀(A:aaZ) (outer:List Env) (s:ZR) (H:Hp) (vs:List V) (Q:VK) (E:XK),dy k (A.deeper (Ba qual scope s.heap.objs.size f lS cl))->sp vs H Q E->
   ∃t,PE (MQ CX P w K mg base N qual scope f lS cl A outer s H E) body t/\t (start N (vs++b9)) H Q):
  iy P w K mg base CX (k+1) f (aer name qual params body scope cl pm lS ct) ps sp:=by
 refine⟨len,λA outer s H args us vs Q E hr e0 hb r zp=>?_⟩;have hl:=len _ _ _ _ zp;have old:∀b o,base.get? b=Δ o->s.heap.get? b=Δ o:=λb o e=>(e0.bs b o e).1;have lim:s.heap.NoLimit:=e0.mod.nolimit.keeps old;have Od:s.heap.CodeRec lS qual:=by obtain⟨c,rfl,hc⟩:=oQ _ _ _ _ zp;exact(e0.aN c _ hc).1
 have HK:∀y∈ps.zip us,scope.names.lookup y.1=Δ .local:=λ⟨n,v⟩ hy=>S.par n (abF hy).1;refine PySem.W.kla_callFunE hr.depth (old _ _ lk) rfl S.co S.gen rfl Od (hb _ _ _ _ ?_);refine acw S.gO HK (λdN MR Sl=>⟨lim.fresh _ Sl,PySem.W.kla_codeExpr ?_⟩) S.kind;have hk:∀b o,s.heap.get? b=Δ o->dN.get? b=Δ o:=λb o e=>Sl.extBut b o (aaa (ZN e)) (Zt _ e);obtain⟨t,ht,hq⟩:=uQ A outer s H vs Q E (hr.deeper _) zp;have I:=El (CX:=CX) (qual:=qual) (f:=f) (cd:=lS) (tk:=s.toks+(ps.zip us).length) (E:=E) S C hr.hd e0 hl r MR hk;refine aa9 (ht [] _ (start N (vs++b9)) H _ I hq) (λu s' hs=>?_) λe s' hs=>hs;obtain⟨v,H',J,rv,q⟩:=hs;exact⟨v,H',J.os,J.bare,J.base,J.aN,rv,q⟩
end
open Classical in
noncomputable def iw(H:Hp):Hp:=λb=>match H b with|some (.ext φ)=>if ∃q,φ=dO b q then Δ (.ext φ) else Θ|o=>o
open Classical in
noncomputable def Bb(H H2:Hp):Hp:=λb=>match H b with|some (.ext φ)=>if ∃q,φ=dO b q then H2 b else Δ (.ext φ)|_=>H2 b
def Dt(b:Addr)(φ:Heap->Prop):Prop:=∀q,φ≠dO b q
theorem kW(h:H b=Θ):iw H b=Θ:=by unfold iw;rw[h]
theorem zE(h:H b=Δ (.ext φ))(hf:Dt b φ):iw H b=Θ:=by unfold iw;rw[h];exact if_neg λ⟨q,e⟩=>hf q e
theorem hW(h:H b=Δ (.ext (dO b q))):iw H b=Δ (.ext (dO b q)):=by unfold iw;rw[h];exact if_pos ⟨q,rfl⟩
theorem me(h:iw H b=Δ o):H b=Δ o/\∀φ,o=.ext φ->¬Dt b φ:=by
 unfold iw at h;split at h
 ·rename_i φ e;split at h;·rename_i hq;obtain rfl:=sj h;obtain⟨q,hq⟩:=hq;exact⟨e,λψ z hf=>by cases z;exact hf q hq⟩
  ·exact aQ h
 ·rename_i fT;exact⟨h,λφ z=>absurd (h.trans (by rw[z])) (fT φ)⟩
theorem bx(h:H b=Δ o)(fT:∀φ,o≠.ext φ):iw H b=Δ o:=by unfold iw;rw[h];cases o with|ext φ=>exact absurd rfl (fT φ)|_=>rfl
theorem Em(h:H b=Δ (.ext φ))(hf:Dt b φ):Bb H H2 b=Δ (.ext φ):=by unfold Bb;rw[h];exact if_neg λ⟨q,e⟩=>hf q e
theorem u0(h:∀φ,H b=Δ (.ext φ)->¬Dt b φ):Bb H H2 b=H2 b:=by
 unfold Bb;split;·rename_i φ q;have:∃q,φ=dO b q:=Z5 λz=>h φ q λq' e=>z ⟨q',e⟩;exact if_pos this
 ·rfl
noncomputable def tz(h:Heap)(H:Hp)(fs:List Addr):Heap:=PySem.W.hideAll (sZ h (iw H)) fs
theorem HL h H fs:(tz h H fs).objs.size=h.objs.size:=(PySem.W.hideAll_size _ _).trans (xV _ _)
theorem zG(e:h.get? b=Δ o)(n:iw H b=Θ)(hb:b∉fs):(tz h H fs).get? b=Δ o:=PySem.W.hideAll_get _ (AH e n) hb
theorem Of(e:(tz h H fs).get? b=Δ o):h.get? b=Δ o/\iw H b=Θ:=Ea (PySem.W.of_hideAll _ e)
theorem HM(hb:b∈fs):(tz h H fs).get? b=Θ:=PySem.W.hideAll_none _ hb
theorem lW.iw{P:aav}{w:World}{H:Hp}{h:Heap}(x:lW P w H h):lW P w (iw H) h:=λa o e=>by obtain⟨e1,_⟩:=me e;exact(x a o e1).oU (λ_ _ _ z=>z) (λb z=>bx z (λ_ q=>nomatch q)) λb xs z=>bx z (λ_ q=>nomatch q)
theorem funFrames_base{h base Bc:Heap}:∀{l},(∀b∈kI l,Bc.get? b=Θ)->h.FunFrames base l->h.FunFrames Bc l
 |[],_,_=>trivial|env::r,hb,⟨hk,⟨L,o,hf,hn,ho,hd⟩,hr⟩=>by
  have e:kI (env::r)=L::kI r:=by unfold kI;rw[acf,hf]
  rw[e] at hb;exact⟨hk,⟨L,o,hf,hb L Zx,ho,hd⟩,funFrames_base (λb z=>hb b (Zs _ z)) hr⟩
section
variable{X:Cx}{pins:List (Addr×Obj)}{σ:St}{H:Hp}{s s':ZR}
theorem Inv.HN(I:Inv X pins σ H s)(e:X.base.get? b=Δ o):(tz s.heap H (kI X.stack)).get? b=Δ o:=by
 obtain⟨h1,h2⟩:=I.bs b o e;refine zG h1 (kW h2) λz=>?_;rcases abM.mp (I.qy b z) with q|q;·have l1:=ZN e;have l2:=I.ok.GL;have l3:=I.ok.above;exact abg _ (ZZ l1 (aap l2 (by rw[q];exact l3)))
 ·exact I.ok.JX e q
theorem Inv.XA(I:Inv X pins σ H s):Mod X.K X.mg (tz s.heap H (kI X.stack)):=by have k:∀b o,X.base.get? b=Δ o->(tz s.heap H (kI X.stack)).get? b=Δ o:=λb o e=>I.HN e;obtain⟨mb,h1,h2⟩:=I.mod.blt;exact⟨I.mod.Nl.keeps k,I.mod.glob.keeps k,⟨mb,h1.keeps k,h2⟩,I.mod.nolimit.keeps k⟩
theorem Inv.Sm(I:Inv X pins σ H s):zl X.prog X.w X.K X.mg (tz s.heap H (kI X.stack)) X.A X.stack s (iw H):=
 ⟨I.ok.frames,I.XA,λb o e=>Of e,adG (HL _ _ _),funFrames_base (λb hb=>HM hb) I.stack,λb hb=>kW (I.oW b hb),I.aN.iw,I.bare⟩
theorem Inv.Og(I:Inv X pins σ H s)(h:CE X.stack X.prog X.w (iw H) s Q u s'):EP X pins σ (λv H3=>∃H2,H3=Bb H H2/\(∀b φ,H b=Δ (.ext φ)->Dt b φ->H2 b=Θ)/\Q v H2) u s':=by
 revert h;refine cw λv H2 os bare un aN r q=>?_;have JX:∀b φ,H b=Δ (.ext φ)->b∉kI X.stack:=λb φ e z=>by rw[I.oW b z] at e;exact aQ e
 have kept:∀b φ,H b=Δ (.ext φ)->Dt b φ->H2 b=Θ/\φ s'.heap/\∃o,s'.heap.get? b=Δ o:=λb φ e hf=>by obtain⟨p1,⟨o,p2⟩,p3⟩:=I.aN b _ e;have k1:=un.keep b o p2 (zE e hf) (JX b φ e) (by simp);exact⟨un.free b o p2 (zE e hf) (by simp),p3 _ _ p1 (λo' qx=>by rw[p2] at qx;obtain rfl:=sj qx;exact k1),o,k1⟩
 have mono:∀b o,H2 b=Δ o->Bb H H2 b=Δ o:=λb o e=>by rw[u0 λφ z hf=>by rw[(kept b φ z hf).1] at e;exact aQ e];exact e
 refine I.after ⟨v,Bb H H2,os,bare,⟨λb o e n hb hx=>un.keep b o e (kW n) hb hx,λb o e n hb hx=>un.slot b o e (kW n) hb hx,λb o e n hx=>?_,λb o e hx=>un.there b o e hx,λb xs e=>?_,λb o x e=>?_,λb ps e=>?_⟩,λb o e=>?_,r,H2,rfl,λb φ e hf=>(kept b φ e hf).1,q⟩;·rw[u0 λφ z _=>by rw[n] at z;exact aQ z];exact un.free b o e (kW n) hx
 ·exact mono _ _ (un.uJ b xs (bx e (λ_ z=>nomatch z)))
 ·exact mono _ _ (un.qw b o x (bx e (λ_ z=>nomatch z)))
 ·obtain⟨more,e2⟩:=un.sX b ps (bx e (λ_ z=>nomatch z));exact⟨more,mono _ _ e2⟩
 ·by_cases c:∃φ,H b=Δ (.ext φ)/\Dt b φ;·obtain⟨φ,c,hf⟩:=c;rw[Em c hf] at e;obtain rfl:=sj e;obtain⟨_,_,p3⟩:=I.aN b _ c;obtain⟨_,k2,k3⟩:=kept b φ c hf;exact⟨k2,k3,p3⟩
  ·rw[u0 λφ z hf=>c ⟨φ,z,hf⟩] at e;exact(aN b o e).oU (λ_ _ _ z=>z) (λb' z=>mono _ _ z) λb' xs z=>mono _ _ z
theorem KG(I:Inv X pins σ H s)(F:iy X.prog X.w X.K X.mg (tz s.heap H (kI X.stack)) w6 k f fd ps sp)(hr:dy k X.A)(hb:aei s fd ⟨us,[]⟩ (ps.zip us))(r:aY vs us)(h:sp vs (iw H) Q E0):wpAny (model X.prog X.w) X.A (call (.ref f) us) (EP X pins σ (λv H3=>∃H2,H3=Bb H H2/\(∀b φ,H b=Δ (.ext φ)->Dt b φ->H2 b=Θ)/\Q v H2)) X.xe s:=by refine ae3 (adE (F.run X.A X.stack s (iw H) ⟨us,[]⟩ us vs Q E0 hr I.Sm hb r h) λr s' hq=>?_);cases r with|error e=>exact aaL hq|ok fl=>cases fl with|ret u=>exact I.Og hq|next=>exact aaL hq|brk=>exact aaL hq|cont=>exact aaL hq
def Oh(X:Cx)(i:Nat)(t:TA):TE:=λσ H Q=>∃a,σ[i]?=Δ (Δ (.ref a))/\(∃oc od fd sl,X.base.get? a=Δ ⟨oc,od,.func fd,sl⟩)/\t σ H λvs H1=>∃k fd ps sp,iy X.prog X.w X.K X.mg X.base w6 k a fd ps sp/\dy k X.A/\Binds X.K fd ps []/\sp vs H1 Q E0
theorem HP(hN:X.N[i]?=Δ x)(hv:QY X.env.scope x)(ha:PA X (e::es) t)(hd:(x==("__debug__":Str))=Ξ:=by decide)(oQ:(x==("__classdict__":Str))=Ξ:=by decide)(he:Z9 (e::es) X.env=(Ξ,eval e X.env)::Z9 es X.env:=by rfl)(Ax:(abC pos (Z9 es X.env)).any (·.1)=Ξ:=by rfl):
  PE X (.Call (.Name x p) (e::es) [] pos) (Oh X i t):=by
 intro pins s σ H Q I h;revert h;refine aB λa ea CN h=>?_;obtain⟨oc,od,fd0,sl,eo⟩:=CN;refine aaR (aa9 (CO (pos:=p) hN hv hd oQ pins s σ H (λv H'=>v=.ref a/\H'=H) I ⟨_,ea,rfl,rfl⟩) (λu s0 gy=>?_) λ_ _ z=>z);obtain⟨v,H0,I0,rv,ev,eH⟩:=gy;subst ev;subst eH;obtain rfl:u=Z7 a:=rv;have Sn:∀{pins:List (Addr×Obj)} {σ:St} {H:Hp} {s:ZR},Inv X pins σ H s->PySem.W.FnAt a s.heap:=λJ=>⟨oc,od,fd0,sl,J.bk _ _ eo⟩;refine PySem.W.callWith_F (Sn I0) (b8 (ha pos pins s0 σ H0 _ I0 h) λus s1 ⟨vs,H1,I1,r,k,fd,ps,sp,F,hr,hb,q⟩=>⟨Sn I1,?_⟩) he Ax;exact uO F hr hb (dvs:=[]) (ds:=[]) (E:=E0) .nil (λ_ _ _ _ _ _ _ z=>z.elim) I1 r (by rw[aau];exact q)
end
def gH(H:Hp)(b7:List (Pos×Str))(ps:Array Value):Prop:=adH ps.toList/\∀p∈b7,∀cv,ach p.1 ps.toList=Δ cv->∃c,cv=.ref c/\H c=Δ (.ext (dO c p.2))
noncomputable def BMain(mg:Str->Option Value)(B:Heap):Prop:=∃bm ob,mg "__builtins__"=Δ (.ref bm)/\bm≠aeg/\B.get? bm=Δ ob/\ob.cls=.type "module"/\ob.dict=Δ aeg/\ob.data=.plain
structure Made(H H':Hp)(P f c:Addr)(b7:List (Pos×Str))(q:Str)(φ:Heap->Prop):Prop where
 fresh:H f=Θ
 fn:H' f=Δ (.ext φ)
 code:H' c=Δ (.ext (dO c q))
 tab:∃ps,H' P=Δ (.gv ps)/\gH H' b7 ps
 keep:∀b u,H b=Δ u->b≠P->H' b=Δ u
 grow:∀ps,H P=Δ (.gv ps)->∃more,H' P=Δ (.gv (ps++more))
 new:∀b,H b=Θ->H' b=Θ\/∃ψ,H' b=Δ (.ext ψ)
theorem pw:∀(l),adH l->adH (l++[.int i ti,.int j tj,c])
 |[],_=>trivial|.int _ _::.int _ _::_::rest,h=>pw rest h
theorem nF{pos p:Pos}(fT:¬(p.line=pos.line/\p.col=pos.col)):∀(l),adH l->ach pos (l++[abB p.line,abB p.col,c])=ach pos l
 |[],_=>by show(if((p.line:Int)==(pos.line:Int)&&(p.col:Int)==(pos.col:Int))=Λ then Δ c else Θ)=Θ;rw[if_neg];rw[Zr,beq_iff_eq,beq_iff_eq];rintro⟨a,b⟩;exact fT ⟨by lia,by lia⟩
 |.int a ta::.int b tb::d::rest,h=>by have ih:=nF (c:=c) fT rest h;simp only[abz,ach];rw[ih]
theorem tB l(h:adH l)(hn:ach p l=Θ):ach p (l++[abB p.line,abB p.col,c])=Δ c:=codeAmong_snoc l h hn
theorem Bd{p:Pos}(h:adH l):adH (l++[abB p.line,abB p.col,c]):=pw l h
def Apart(b7:List (Pos×Str)):Prop:=∀p∈b7,∀q∈b7,p.1.line=q.1.line/\p.1.col=q.1.col->p=q
section
variable{X:Cx}{pins:List (Addr×Obj)}{σ:St}{H:Hp}{s:ZR}
theorem Inv.Be(XB:fo.isFreed=Ξ)(I:Inv X pins σ H s)(hP:H P=Δ (.gv ps))(tb:gH H b7 ps)(hs:(pos,q)∈b7)(ap:Apart b7)(hnf:ach pos ps.toList=Θ)(hx:Heap.ExtBut P s.heap h')(Oi:s.heap.objs.size<=c')(gE:c' < h'.objs.size)(zH:h'.CodeRec (.ref c') q)(QE:h'.get? P=Δ (aci (ps++#[abB pos.line,abB pos.col,.ref c'])))(hf:f=h'.objs.size)φ(h1:φ (h'.push fo))(h2:∀g1 g2:Heap,φ g1->(∀o,g1.get? f=Δ o->g2.get? f=Δ o)->φ g2):
  ∃H',Inv X pins σ H' {s with heap:=h'.push fo,toks:=tk}/\Made H H' P f c' b7 q φ:=by
 have Oj:s.heap.get? P=Δ (aci ps):=I.aN P _ hP;have lP:P < s.heap.objs.size:=ZN Oj;have fr:∀b,s.heap.objs.size<=b->H b=Θ:=λb hb=>I.aN.fresh hb;have lcf:c' < f:=by rw[hf];exact gE
 have Ol:s.heap.objs.size < f:=Nat.lt_of_le_of_lt Oi lcf;have nPc:c'≠P:=aaD (ZZ lP Oi);have nPf:f≠P:=aaD (ac9 lP Ol);have ncf:f≠c':=aaD lcf;have U4:∀b,b < s.heap.objs.size->b≠c'/\b≠f:=λb hb=>⟨aaa (ZZ hb Oi),aaa (ac9 hb Ol)⟩;revert zH;refine fB λcc oc vs tt ecc Nn hd hv=>?_;cases ecc
 let H':Hp:=upd (upd (upd H P (.gv (ps++#[abB pos.line,abB pos.col,.ref c']))) c' (.ext (dO c' q))) f (.ext φ)
 have eP:H' P=Δ (.gv (ps++#[abB pos.line,abB pos.col,.ref c'])):=by show upd _ _ _ P=_;rw[av (aaw nPf),av (aaw nPc),aG]
 have ec:H' c'=Δ (.ext (dO c' q)):=by show upd _ _ _ c'=_;rw[av (aaw ncf),aG]
 have ef:H' f=Δ (.ext φ):=aG;have eo:∀b,b≠P->b≠c'->b≠f->H' b=H b:=λb n1 n2 n3=>by show upd _ _ _ b=_;rw[av n3,av n2,av n1]
 have hsf:s.heap.objs.size<=f:=acG Ol;have hold:∀b u,H b=Δ u->b≠P->H' b=Δ u:=λb u e n=>by
  have hb:b < s.heap.objs.size:=by
   rcases Nat.lt_or_ge b s.heap.objs.size with z|z;·exact z
   ·rw[fr b z] at e;exact aQ e
  rw[eo b n (U4 b hb).1 (U4 b hb).2];exact e
 have kp:∀b o,b≠P->s.heap.get? b=Δ o->(h'.push fo).get? b=Δ o:=λb o n e=>Zt _ (hx b o n e);refine⟨H',I.G0 (ch:=[]) rfl ⟨λb o e n _ _=>?_,λb o e n _ _=>⟨o.slots,?_⟩,λb o e n _=>?_,λb o e _=>?_,λb xs e=>?_,λb o x e=>?_,λb qs e=>?_⟩ (λb o e=>?_) I.bare (λb z=>absurd z (by simp)),⟨fr f hsf,ef,ec,⟨_,eP,?_,?_⟩,hold,λqs e=>⟨#[abB pos.line,abB pos.col,.ref c'],?_⟩,λb n=>?_⟩⟩;·exact kp b o (λz=>by rw[z,hP] at n;exact GU n) e
 ·exact kp b o (λz=>by rw[z,hP] at n;exact GU n) e
 ·have lb:=ZN e;rw[eo b (λz=>by rw[z,hP] at n;exact GU n) (U4 b lb).1 (U4 b lb).2];exact n
 ·by_cases z:b=P;·subst z;exact⟨_,Zt _ QE⟩
  ·exact⟨o,kp b o z e⟩
 ·exact hold b _ e λz=>by rw[z,hP] at e;cases e
 ·exact hold b _ e λz=>by rw[z,hP] at e;cases e
 ·by_cases z:b=P;·subst z;rw[hP] at e;cases e;exact⟨_,eP⟩
  ·exact⟨#[],by rw[hold b _ e z];simp⟩
 ·by_cases z1:b=f;·subst z1;rw[ef] at e;obtain rfl:=sj e;exact⟨h1,⟨fo,by rw[hf];exact ZM _ XB⟩,h2⟩
  ·by_cases z2:b=c';·subst z2;rw[ec] at e;obtain rfl:=sj e;refine⟨⟨b,oc,vs,tt,rfl,Zt _ Nn,hd,hv⟩,⟨oc,Zt _ Nn⟩,λg1 g2 ⟨c2,o2,v2,t2,e2,a2,r2⟩ k=>?_⟩;cases e2;exact⟨b,o2,v2,t2,rfl,k _ a2,r2⟩
   ·by_cases z3:b=P;·subst z3;rw[eP] at e;obtain rfl:=sj e;exact Zt _ QE
    ·rw[eo b z3 z2 z1] at e;refine(I.aN b o e).oU (λb' u jJ eu=>?_) (λb' z=>hold b' _ z λy=>by rw[y,hP] at z;cases z) λb' xs z=>hold b' _ z λy=>by rw[y,hP] at z;cases z
     refine kp b' u (λy=>?_) eu;rcases jJ with w1|w1;·exact z3 (w1▸y)
     ·rw[y,hP] at w1;cases w1
 ·rw[Array.toList_append];exact Bd tb.1
 ·intro p hp cv CH;rw[Array.toList_append] at CH;by_cases z:pos.line=p.1.line/\pos.col=p.1.col;·have e:=ap (pos,q) hs p hp z;subst e;have:ach pos (ps.toList++[abB pos.line,abB pos.col,.ref c'])=Δ (.ref c'):=tB _ tb.1 hnf;have So:ach pos (ps.toList++[abB pos.line,abB pos.col,.ref c'])=Δ cv:=CH;rw[this] at So;obtain rfl:=sj So;exact⟨c',rfl,ec⟩
  ·have:ach p.1 (ps.toList++[abB pos.line,abB pos.col,.ref c'])=Δ cv:=CH;rw[nF z _ tb.1] at this;obtain⟨c,e1,e2⟩:=tb.2 p hp cv this;exact⟨c,e1,hold c _ e2 λy=>by rw[y,hP] at e2;cases e2⟩
 ·rw[hP] at e;cases e;exact eP
 ·by_cases z1:b=f;·subst z1;exact .inr ⟨_,ef⟩
  ·by_cases z2:b=c';·subst z2;exact .inr ⟨_,ec⟩
   ·have z3:b≠P:=λy=>by rw[y,hP] at n;exact GU n
    rw[eo b z3 z2 z1];exact .inl n
theorem Inv.Bg{h':Heap}(XB:fo.isFreed=Ξ)(I:Inv X pins σ H s)(hP:H P=Δ (.gv ps))(tb:gH H b7 ps)(oQ:H c'=Δ (.ext (dO c' q)))(hk:∀b o,s.heap.get? b=Δ o->h'.get? b=Δ o)(hsz:s.heap.objs.size<=h'.objs.size)(hf:f=h'.objs.size)φ(h1:φ (h'.push fo))(h2:∀g1 g2:Heap,φ g1->(∀o,g1.get? f=Δ o->g2.get? f=Δ o)->φ g2):
  ∃H',Inv X pins σ H' {s with heap:=h'.push fo,toks:=tk}/\Made H H' P f c' b7 q φ:=by
 have Ol:s.heap.objs.size<=f:=by rw[hf];exact hsz
 have hn:H f=Θ:=I.aN.fresh Ol;have kp:∀b o,s.heap.get? b=Δ o->(h'.push fo).get? b=Δ o:=λb o e=>Zt _ (hk b o e);have hold:∀b u,H b=Δ u->upd H f (.ext φ) b=Δ u:=λb u e=>by rw[av (aR e hn)];exact e
 refine⟨upd H f (.ext φ),I.G0 (ch:=[]) rfl (Un.laid kp Ol hn) (I.aN.laid kp Ol ⟨h1,⟨fo,by rw[hf];exact ZM _ XB⟩,h2⟩) I.bare (λb z=>absurd z (by simp)),⟨hn,aG,hold _ _ oQ,⟨ps,hold _ _ hP,tb.1,λp hp cv CH=>?_⟩,λb u e _=>hold b u e,λqs e=>⟨#[],by rw[hold _ _ e];simp⟩,λb n=>?_⟩⟩;·obtain⟨c,e1,e2⟩:=tb.2 p hp cv CH;exact⟨c,e1,hold _ _ e2⟩
 ·by_cases z:b=f;·subst z;exact .inr ⟨_,aG⟩
  ·rw[av z];exact .inl n
structure Maker(X:Cx)(c P:Addr)(b7:List (Pos×Str)):Prop where
 code:X.env.code=.ref c
 hd:abD X.base c P
 bm:BMain X.mg X.base
 ap:Apart b7
theorem Maker.bt(M:Maker X c P b7)(I:Inv X pins σ H s)(hP:H P=Δ (.gv ps)):ZL≠P/\s.heap.BuiltinsAt X.mg P:=by
 refine cw (λbm ob b1 b2 b3 b4 b5 b6=>?_) (M.bm);refine cD (λog es ep g1 g2 _=>?_) (I.mod.glob);have n1:ZL≠P:=λz=>by have:=(I.bs _ _ g1).2;rw[z,hP] at this;exact GU this
 have n2:bm≠P:=λz=>by have:=(I.bs _ _ b3).2;rw[z,hP] at this;exact GU this
 have n3:bm≠ZL:=λz=>by rw[z,g1] at b3;obtain rfl:=sj b3;rw[g2] at b6;cases b6
 exact⟨n1,bm,ob,b1,b2,n3,n2,I.bk _ _ b3,b4,b5,b6⟩
noncomputable def XC(f:Addr)(qual:Str)(params:ab2)(body:Expr)(scope:Scope)(Du:List (Str×Addr))(pm:Value)(c:Addr)(ct:Value):Heap->Prop:=λh=>h.get? f=Δ (PySem.W.kla_obj "<lambda>" qual params body scope Du pm c ct)
def XD(X:Cx)(P:Addr)(b7:List (Pos×Str))(qual:Str)(φ:Addr->Addr->Value->Heap->Prop):TE:=λσ H Q=>∃ps,H P=Δ (.gv ps)/\gH H b7 ps/\
 ∀f c ct H',Made H H' P f c b7 qual (φ f c ct)->Q (.ref f) H'
theorem Om(M:Maker X c P b7)(hs:(pos,X.env.qual++"<lambda>")∈b7)(XE:defaultsOf params X.env=([],[]))(zD:adI scope X.env=pure Du)(h1:∀f c ct h,XC f (X.env.qual++"<lambda>") params body scope Du ((X.mg "__name__").getD .none) c ct h->φ f c ct h)(h2:∀f c ct (g1 g2:Heap),φ f c ct g1->(∀o,g1.get? f=Δ o->g2.get? f=Δ o)->φ f c ct g2):
  PE X (.Lambda params body scope pos) (XD X P b7 (X.env.qual++"<lambda>") φ):=by
 intro pins s σ H Q I h;revert h;refine aB λps hP tb h=>?_;have Oj:s.heap.get? P=Δ (aci ps):=I.aN P _ hP;obtain⟨XF,hb⟩:=M.bt I hP;have hg:s.heap.Ns ZL X.mg:=I.mod.glob.keeps I.bk;refine PySem.W.kla_eval XE ?_;cases hf:ach pos ps.toList with|none=>refine PySem.W.kla_makeFunction zD I.ok.glob hg M.code (M.hd.keeps I.bk) Oj tb.1 hf XF hb λc' Oo h' tk hx Oi gE zH QE=>?_;refine dJ (λH' I' md=>?_) (Inv.Be rfl I (f:=h'.objs.size) (tk:=tk) hP tb hs M.ap hf hx Oi gE zH QE rfl (φ h'.objs.size c' Oo) (h1 _ _ _ _ (ZM _ rfl)) (h2 _ _ _));exact⟨.ref h'.objs.size,H',I',rfl,h _ _ _ _ md⟩|some cv=>obtain⟨c',rfl,oQ⟩:=tb.2 _ hs cv hf;refine PySem.W.kla_makeFunctionHit zD I.ok.glob hg M.code (M.hd.keeps I.bk) Oj tb.1 hf hb λOo h' tk hk hsz=>?_;refine dJ (λH' I' md=>?_) (Inv.Bg rfl I (f:=h'.objs.size) (tk:=tk) hP tb oQ hk hsz rfl (φ h'.objs.size c' Oo) (h1 _ _ _ _ (ZM _ rfl)) (h2 _ _ _));exact⟨.ref h'.objs.size,H',I',rfl,h _ _ _ _ md⟩
noncomputable def XG(f:Addr)(name qual:Str)(params:ab2)(body:List Stmt)(scope:Scope)(Du:List (Str×Addr))(doc pm:Value)(c:Addr)(ct:Value):Heap->Prop:=λh=>h.get? f=Δ (PySem.W.fnMade name qual params body scope Du doc pm c ct)
def XH(X:Cx)(i:Nat)(P:Addr)(b7:List (Pos×Str))(qual:Str)(φ:Addr->Addr->Value->Heap->Prop):TS:=λD σ H=>∃ps,H P=Δ (.gv ps)/\gH H b7 ps/\
 ∀f c ct H',Made H H' P f c b7 qual (φ f c ct)->D.nx (σ.set i (Δ (.ref f))) H'
theorem Oq(M:Maker X c P b7)(hs:(pos,adm X.env name name)∈b7)(hd0:params.defaults=[])(Sq:params.kw_defaults=[])(ha:annTrees params Θ X.env=[])(zD:adI scope X.env=pure Du)(hN:X.N.Nodup)(hi:X.N[i]?=Δ name)(hx:Loc X.env.scope name)(GN:X.fn name=Λ\/X.env.scope.names.lookup name=Δ .local)(h1:∀f c ct doc h,XG f name (adm X.env name name) params body scope Du doc ((X.mg "__name__").getD .none) c ct h->φ f c ct h)(h2:∀f c ct (g1 g2:Heap),φ f c ct g1->(∀o,g1.get? f=Δ o->g2.get? f=Δ o)->φ f c ct g2):
  PS X (.FunctionDef name params body [] Θ [] scope Θ name pos) (XH X i P b7 (adm X.env name name) φ):=by
 intro pins s σ H D I h;revert h;refine aB λps hP tb h=>?_;have Oj:s.heap.get? P=Δ (aci ps):=I.aN P _ hP;obtain⟨XF,hb⟩:=M.bt I hP;have hg:s.heap.Ns ZL X.mg:=I.mod.glob.keeps I.bk;refine PySem.W.nestDef_K hd0 Sq ha ?_;cases hf:ach pos ps.toList with|none=>refine PySem.W.makeFunction_K zD I.ok.glob hg M.code (M.hd.keeps I.bk) Oj tb.1 hf XF hb λc' Oo doc h' tk yi Oi gE zH QE=>?_;refine dJ (λH' I' md=>?_) (Inv.Be rfl I (f:=h'.objs.size) (tk:=tk) hP tb hs M.ap hf yi Oi gE zH QE rfl (φ h'.objs.size c' Oo) (h1 _ _ _ doc _ (ZM _ rfl)) (h2 _ _ _));exact oX I' hN hi hx (v:=.ref h'.objs.size) rfl (λs' I2=>⟨_,H',I2,h _ _ _ _ md⟩) GN|some cv=>obtain⟨c',rfl,oQ⟩:=tb.2 _ hs cv hf;refine PySem.W.makeFunction_hit zD I.ok.glob hg M.code (M.hd.keeps I.bk) Oj tb.1 hf hb λOo doc h' tk hk hsz=>?_;refine dJ (λH' I' md=>?_) (Inv.Bg rfl I (f:=h'.objs.size) (tk:=tk) hP tb oQ hk hsz rfl (φ h'.objs.size c' Oo) (h1 _ _ _ doc _ (ZM _ rfl)) (h2 _ _ _));exact oX I' hN hi hx (v:=.ref h'.objs.size) rfl (λs' I2=>⟨_,H',I2,h _ _ _ _ md⟩) GN
end
def En(tabs:List (Addr×Addr))(H:Hp):Prop:=(∀b,H b=Θ\/(∃o xs,H b=Δ (.dM o (.lst xs)))\/(H b=Δ (.gv #[])/\b∈tabs.map (·.2)))/\∀q∈tabs,H q.2=Δ (.gv #[])
theorem FG{K:ZE}{sp:Heap->Sp}(KX:K.In bI.heap)(MR:bI.heap.Ns ZL mg)(hb:bI.heap.Ns aeg mb)(hbb:∀x:Str,x≠"__name__"->mb x=acC x)(XI:bI.heap.NoLimit)(hg:bI.gens=#[])(hT:PySem.W.TabsAt tabs bI.heap)(XJ:tabs≠[]->ac3 K=Λ)(hbm:BMain mg bI.heap)(ha:bI.heap.get? a=Δ {cls:=.type "list",data:=.seq vs.toArray})(hi:IntsAre vs ns)(hl:ns.length<=Z3)(hr:dy k aeA)(F:∀base:Heap,K.In base->base.Ns ZL mg->(∀q∈tabs,abD base q.1 q.2)->BMain mg base->iy P w K mg base CX k fa fd [x] (sp base))(HQ:∀(s:ZR) (u:Value),aei s fd ⟨[u],[]⟩ [(x,u)])(zp:∀(base:Heap) (H:Hp),(∀q∈tabs,abD base q.1 q.2)->BMain mg base->En tabs H->nz K H a (ns.map V.int)->sp base [.ref a] H (λv _=>v=.bl Λ) λ_ _ _=>False)(XM:∀H e s',CX [] H bI (λ_ _ _=>False) e s'->False):
  adt (model P w) aeA (.call (.ref fa) ⟨[.ref a],[]⟩) (λr s'=>r=.ok (.ret (.bool Λ))/\OldK bI.heap s'.heap/\s'.os=bI.os/\adV s'.gens) bI:=by
 have rv:=yg hi;have XN:=hi.length;have FH:∀b,b∈tabs.map (·.2)->bI.heap.get? b=Δ (aci #[]):=λb hb=>by obtain⟨q,hq,rfl⟩:=abk.mp hb;exact(hT q hq).2
 have aT:a∉tabs.map (·.2):=λz=>by have:=FH a z;rw[ha] at this;cases this
 have core:∀H:Hp,En tabs H->nz K H a (ns.map V.int)->lW P w H bI.heap->(∀b,H b≠Θ->b=a\/b∈tabs.map (·.2))->(H a≠Θ->K.lookup a=Θ)->
   adt (model P w) aeA (.call (.ref fa) ⟨[.ref a],[]⟩) (λr s'=>r=.ok (.ret (.bool Λ))/\OldK bI.heap s'.heap/\s'.os=bI.os/\adV s'.gens) bI:=by
  intro H hO hS aN hA hK;have uq:∀{b:Addr} {o:Obj},bI.heap.get? b=Δ o->H b=Θ->(sZ bI.heap H).get? b=Δ o:=λe n=>AH e n;have JL:∀{b:Addr} {o:Obj},bI.heap.get? b=Δ o->o.cls≠.none->(∀its n,o.data≠.seq its n)->H b=Θ:=λ{b o} e d1 d2=>by
   cases q:H b with
   |none=>rfl|some u=>
    rcases hA b (by rw[q];simp) with e'|e';·subst e';rw[ha] at e;obtain rfl:=sj e;exact absurd rfl (d2 _ _)
    ·rw[FH b e'] at e;obtain rfl:=sj e;exact absurd rfl d1
  have noD:∀{b:Addr} {o:Obj} {es:Array DictEntry} {ep:Nat},bI.heap.get? b=Δ o->o.data=.dict es ep->H b=Θ:=λ{b o es ep} e d=>by
   cases q:H b with
   |none=>rfl|some u=>
    rcases hA b (by rw[q];simp) with e'|e';·subst e';rw[ha] at e;obtain rfl:=sj e;cases d
    ·rw[FH b e'] at e;obtain rfl:=sj e;cases d
  have U5:∀{b:Addr} {m:Str->Option Value},bI.heap.Ns b m->(sZ bI.heap H).Ns b m:=λ{b m} ⟨o,es,ep,e,d,r⟩=>⟨o,es,ep,uq e (noD e d),d,r⟩;have hKb:K.In (sZ bI.heap H):=λb o e=>uq (KX b o e) (by
   cases q:H b with
   |none=>rfl|some u=>
    rcases hA b (by rw[q];simp) with e'|e';·subst e';rw[hK (by rw[q];simp)] at e;exact aQ e
    ·have e2:=KX b o e;rw[FH b e'] at e2;obtain rfl:=sj e2;have h2:=abe.mp (XJ λz=>by rw[z] at e';cases e') _ (PySem.W.mem_of_lookupK e);exact absurd (show Ξ=Λ from h2) aat)
  have hM:Mod K mg (sZ bI.heap H):=⟨hKb,U5 MR,⟨mb,U5 hb,hbb⟩,let ⟨mc,h1,h2⟩:=XI;⟨mc,U5 h1,h2⟩⟩;have e0:zl P w K mg (sZ bI.heap H) aeA [] bI H:=⟨rfl,hM,λb o e=>Ea e,adG (xV _ _),trivial,λb hb=>absurd (show b∈([]:List Addr) from hb) (by simp),aN,.of_eq hg⟩;have oQ:∀q∈tabs,abD (sZ bI.heap H) q.1 q.2:=λq hq=>by obtain⟨o,us,file,tf,flags,tg,inF,text,tt,e1,r1,r2,r⟩:=(hT q hq).1;exact⟨o,us,file,tf,flags,tg,inF,text,tt,uq e1 (JL e1 (by rw[r1];nofun) (by rw[r2];nofun)),r1,r2,r⟩
  have Sr:BMain mg (sZ bI.heap H):=by revert hbm;refine cw λbm ob b1 b2 b3 b4 b5 b6=>?_;exact⟨bm,ob,b1,b2,uq b3 (JL b3 (by rw[b4];nofun) (by rw[b6];nofun)),b4,b5,b6⟩
  refine adE ((F _ hKb (U5 MR) oQ Sr).run aeA [] bI H ⟨[.ref a],[]⟩ [.ref a] [.ref a] _ _ hr e0 (HQ bI (.ref a)) (.cons rfl .nil) (zp _ H oQ Sr hO hS)) λr s' h=>?_;cases r with
  |error e=>exact(XM H e s' h).elim|ok fl=>
   cases fl with
   |next=>exact aaL h|brk=>exact aaL h|cont=>exact aaL h|ret u=>
    revert h;refine cw λv H' os bare un Ss r' q=>?_;have q':v=.bl Λ:=q;subst q';obtain rfl:u=acU Λ:=r';have way:∀b o,bI.heap.get? b=Δ o->s'.heap.get? b=Δ o\/(isCodeTable bI.heap b/\o=aci #[]/\∃ps,s'.heap.get? b=Δ (aci ps)):=λb o e=>by
     rcases hO.1 b with z|⟨ob,xs,z⟩|⟨z,zt⟩;·exact .inl (un.keep b o e z (by intro z;exact absurd (show b∈([]:List Addr) from z) (by simp)) (by simp))
     ·have z2:=un.qw b ob _ z;obtain⟨e1,_⟩:=aN b _ z;obtain⟨e2,_⟩:=Ss b _ z2;rw[e] at e1;obtain rfl:=sj e1;exact .inl e2
     ·obtain⟨more,z2⟩:=un.sX b _ z;have e2:=Ss b _ z2;have e3:=FH b zt;rw[e] at e3;obtain⟨q,hq,rfl⟩:=abk.mp zt;exact .inr ⟨((hT q hq).1.tab (hT q hq).2).isCodeTable,aaf e3,_,e2⟩
    refine⟨rfl,⟨λb o e=>?_,λb o e=>?_⟩,os,bare⟩
    ·rcases way b o e with z|⟨z1,rfl,ps,z2⟩;·exact .inl z
     ·exact .inr (.inl ⟨z1,rfl,#[],ps,rfl,by rw[Array.empty_append];exact z2⟩)
    ·rcases way b o e with z|⟨_,_,ps,z2⟩;·exact⟨o,z⟩
     ·exact⟨_,z2⟩
 have tb:∀(b:Addr) (u:HO),u=.gv #[]->b∈tabs.map (·.2)->∀H:Hp,bR P w H bI.heap b u:=λb u e hb H=>by rw[e];exact FH b hb
 let H0:Hp:=λb=>if b∈tabs.map (·.2) then Δ (.gv #[]) else Θ
 cases hk:K.lookup a with
 |some o=>
  have e:=KX a o hk;rw[ha] at e;obtain rfl:=sj e;refine core H0 ⟨λb=>?_,λq hq=>if_pos (acK hq)⟩ (.inr ⟨_,vs.toArray,_,hk,rfl,rfl,rfl,by rw[ZQ,XN];exact hl,by simpa using rv⟩) (λb u z=>?_) (λb z=>.inr ?_) λz=>absurd (if_neg aT) z
  ·by_cases hb:b∈tabs.map (·.2);·exact .inr (.inr ⟨if_pos hb,hb⟩)
   ·exact .inl (if_neg hb)
  ·by_cases hb:b∈tabs.map (·.2);·have z':=(if_pos hb).symm.trans z;exact tb b u (aaf z').symm hb _
   ·have z':=(if_neg hb).symm.trans z;exact aQ z'
  ·by_cases hb:b∈tabs.map (·.2);·exact hb
   ·exact absurd (if_neg hb) z
 |none=>
  let H1:Hp:=λb=>if b=a then Δ (.dM {cls:=.type "list",data:=.seq vs.toArray} (.lst (ns.map V.int))) else H0 b
  have U6:∀b,b≠a->H1 b=H0 b:=λb hb=>if_neg hb;refine core H1 ⟨λb=>?_,λq hq=>?_⟩ (.inl (.inr ⟨{cls:=.type "list",data:=.seq vs.toArray},if_pos rfl⟩)) (λb u z=>?_) (λb z=>?_) λ_=>hk
  ·by_cases hb:b=a;·exact .inr (.inl ⟨_,_,if_pos hb⟩)
   ·rw[U6 b hb];by_cases yn:b∈tabs.map (·.2);·exact .inr (.inr ⟨if_pos yn,yn⟩)
    ·exact .inl (if_neg yn)
  ·rw[U6 q.2 λz=>aT (z▸acK hq)];exact if_pos (acK hq)
  ·by_cases hb:b=a;·have z':=(if_pos hb).symm.trans z;obtain rfl:=sj z';subst hb;exact⟨ha,by rw[ZA];exact hl,vs,_,rv,ha⟩
   ·rw[U6 b hb] at z;by_cases yn:b∈tabs.map (·.2);·have z':=(if_pos yn).symm.trans z;exact tb b u (aaf z').symm yn _
    ·have z':=(if_neg yn).symm.trans z;exact aQ z'
  ·by_cases hb:b=a;·exact .inl hb
   ·rw[U6 b hb] at z;by_cases yn:b∈tabs.map (·.2);·exact .inr yn
    ·exact absurd (if_neg yn) z
theorem HR{l:aen}{K:Params->ZE}{CX:World->JK}{sp:World->(Str->Option Value)->List (Addr×Addr)->Heap->Sp}xs(hn:l.most=Δ n)(UL:n<=Z3)(RL:d.params.defaults=[])(hr:dy k aeA)(hY:∀(w:World) (h:Heap),YP w h->(K w.params).In h)(zH:∀y∈xs,∃dr,(recsOf q).find? (λe=>e.name==y)=Δ dr)(F:∀(w:World) (mg:Str->Option Value) (fa:Addr) (h:Heap),(K w.params).In h->h.Ns ZL mg->mg d.name=Δ (.ref fa)->
   (xs≠[]->ac3 (K w.params)=Λ)/\∃(tabs:List (Addr×Addr)) (fd:abt),xs.map (aaV (K w.params))=tabs.map Δ/\(∀(s:ZR) (u:Value),aei s fd ⟨[u],[]⟩ [(x,u)])/\
    (∀base:Heap,(K w.params).In base->base.Ns ZL mg->(∀q∈tabs,abD base q.1 q.2)->BMain mg base->iy l.prog w (K w.params) mg base (CX w) k fa fd [x] (sp w mg tabs base))/\
    ∀(base:Heap) (H:Hp) (a:Addr) (ns:List Int),ns.length<=n->(∀q∈tabs,abD base q.1 q.2)->BMain mg base->En tabs H->nz (K w.params) H a (ns.map V.int)->sp w mg tabs base [.ref a] H (λv _=>v=.bl Λ) λ_ _ _=>False)(XM:∀(w:World) (H:Hp) (s:ZR) (e:Value) (s':ZR),CX w [] H s (λ_ _ _=>False) e s'->False):
  PySem.W.WalkO q loose XP YP l.row.toRowW d [] (λf vs=>ae8 f vs):=by
 refine Att.AY hn RL λw iR bI mg mb fa o pm cd doc a vs ns G Y ho hd oQ RM Fx hints hlen hg=>?_;have KX:=hY w _ Y;obtain⟨XJ,tabs,fd,Ot,hb,hF,zp⟩:=F w mg fa _ KX G.T.g RM;have hT:PySem.W.TabsAt tabs bI.heap:=λt ht=>by
  have hm:Δ t∈xs.map (aaV (K w.params)):=by rw[Ot];exact acK ht
  obtain⟨y,hy,e⟩:=abk.mp hm;obtain⟨dr,hdr⟩:=zH y hy;exact PySem.W.tab_of G.T KX hdr e
 exact FG KX G.T.g G.T.b G.T.builtins G.T.nolimit hg hT (λz=>XJ λy=>z (by rw[y] at Ot;exact List.map_eq_nil_iff.mp Ot.symm)) G.T.bmain Fx hints (aap hlen UL) hr hF hb (λbase H h1 h2 h3 h4=>zp base H a ns hlen h1 h2 h3 h4) λH e s'=>XM w H bI e s'
noncomputable def fE(a:ab2)(ps:List Str):Bool:=a.posonlyargs.isEmpty&&a.vararg.isNone&&a.kwonlyargs.isEmpty&&a.kw_defaults.isEmpty&&a.kwarg.isNone&&a.defaults.isEmpty&&decide (a.args.map (·.arg)=ps)&&decide ps.Nodup&&a.args.all λx=>x.annotation.isNone
theorem u5:∀{ps:List Str} {us:List Value},us.length=ps.length->∀n∈ps,((ps.zip us).lookup n).isSome=Λ
 |[],_,_,n,h=>by cases h|p::ps,[],hl,_,_=>by simp at hl|p::ps,u::us,hl,n,h=>by
  rw[acW,Z6];cases hb:n==p with
  |true=>rfl|false=>
   rcases abM.mp h with e|e;·rw[e] at hb;simp at hb
   ·exact u5 (by simpa using hl) n e
theorem nG:∀{ps:List Str} {us} {l:List (Str×Value)},us.length=ps.length->ps.Nodup->(∀n∈ps,l.lookup n=(ps.zip us).lookup n)->ps.filterMap (λn=>(l.lookup n).map λv=>(n,v))=ps.zip us
 |[],us,l,_,_,_=>by simp|p::ps,[],l,hl,_,_=>by simp at hl|p::ps,u::us,l,hl,nd,h=>by
  rw[aaW] at nd;have h0:=h p Zx;rw[acW,Z6,beq_self_eq_true] at h0;have h0':l.lookup p=Δ u:=h0;rw[acf,h0',acW];show(p,u)::_=_;congr 1;refine nG (by simpa using hl) nd.2 λn hn=>?_;have:=h n (Zs _ hn);rw[acW,Z6] at this;have hb:(n==p)=Ξ:=by rw[beq_eq_false_iff_ne];exact λz=>nd.1 (z▸hn)
  rw[hb] at this;exact this
theorem jK(ha:fE fd.params ps=Λ)(hd:fd.defaults=.none)(hl:us.length=ps.length):ae6 fd ⟨us,[]⟩=pure (ps.zip us):=by
 obtain⟨fname,fq,XO,fbody,fsc,fgl,fcl,nh,fkw,fdoc,fpm,fan,fcd,fct,fbi⟩:=fd;obtain⟨po,as,va,ko,kd,ka,df⟩:=XO;dsimp only at ha hd;unfold fE at ha;simp only[Zr,ZO,abo,decide_eq_true_eq] at ha;obtain⟨⟨⟨⟨⟨⟨⟨⟨rfl,rfl⟩,rfl⟩,rfl⟩,rfl⟩,rfl⟩,e⟩,nd⟩,_⟩:=ha;have q:seqItems? abw=pure Θ:=rfl;have m0:((as.map (·.arg)).take (as.map (·.arg)).length).filter (λn=>(((as.map (·.arg)).zip us).lookup n).isNone)=[]:=by rw[abJ];intro n hn hc;have GZ:n∈as.map (·.arg):=List.mem_of_mem_take hn;have:=u5 (us:=us) (by rw[e];exact hl) n GZ;cases hx:((as.map (·.arg)).zip us).lookup n with|none=>rw[hx] at this;exact ft this|some v=>rw[hx] at hc;exact ft hc
 have g0:¬(us.length > (as.map (·.arg)).length):=by rw[e];lia
 have z0:(as.map (·.arg)).filterMap (λn=>(((as.map (·.arg)).zip us).lookup n).map λv=>(n,v))=(as.map (·.arg)).zip us:=nG (by rw[e];exact hl) (by rw[e];exact nd) λ_ _=>rfl;unfold ae6;simp only[hd,q,ab6,abY,acz,pure_bind,ad6,abG,Nat.sub_zero,List.drop_nil,Nat.zero_sub,m0,List.isEmpty_nil,Bool.not_true,aaj,if_false,List.zip_nil_right,aau,z0];have g1:(decide (us.length > (as.map (·.arg)).length)&&(Θ:Option Arg).isNone)=Ξ:=by rw[decide_eq_false g0];rfl
 simp[g0,m0,z0,e];intro h
 lia
noncomputable def jL(cells:List (Str×Addr)):List (Str×ab5)->List (Str×Addr)->List (Str×Addr)
 |[],acc=>acc|(x,k)::r,acc=>if k=.free then jL cells r ((x,(cells.lookup x).getD 0)::acc) else jL cells r acc
theorem nZ:∀{names} {acc},(∀x,(x,ZV)∈names->∃c,env.cells.lookup x=Δ c)->
  (forIn names acc λ(p:Str×ab5) (cs:List (Str×Addr))=>(match p with|(name,kind)=>if(kind==ZV)=Λ then do {let c<-aeX env name;pure (aa8 ((name,c)::cs))} else pure (aa8 cs):Sem (ForInStep (List (Str×Addr)))))=pure (jL env.cells names acc)
 |[],acc,_=>rfl|(x,k)::r,acc,h=>by
  rw[abZ];by_cases hk:k=.free
  ·subst hk;obtain⟨c,hc⟩:=h x Zx;have e:aeX env x=pure c:=by unfold aeX;rw[hc]
   simp only[beq_self_eq_true,if_true,e,pure_bind];rw[nZ λy hy=>h y (Zs _ hy)];simp only[jL,if_true,hc,Option.getD_some]
  ·have hb:(k==ZV)=Ξ:=by rw[beq_eq_false_iff_ne];exact hk
   simp only[hb,aaj,if_false,pure_bind];rw[nZ λy hy=>h y (Zs _ hy)];simp only[jL,if_neg hk]
theorem nH(h:∀x,(x,ZV)∈scope.names->∃c,env.cells.lookup x=Δ c):adI scope env=pure (jL env.cells scope.names []):=by unfold adI;have:=nZ (acc:=[]) h;simp only[bind_pure];exact this
theorem kX:∀{names} {acc},(∀y,(y,ZV)∈names->∃c,cells.lookup y=Δ c)->
  ((x,ZV)∈names->(jL cells names acc).lookup x=cells.lookup x)/\((x,ZV)∉names->(jL cells names acc).lookup x=acc.lookup x)
 |[],acc,_=>⟨(λh=>nomatch h),λ_=>rfl⟩|(y,k)::r,acc,h=>by
  have hr:∀z,(z,ZV)∈r->∃c,cells.lookup z=Δ c:=λz hz=>h z (Zs _ hz);by_cases hk:k=.free
  ·subst hk;simp only[jL,if_true];obtain⟨i1,i2⟩:=kX (x:=x) (acc:=(y,(cells.lookup y).getD 0)::acc) hr;by_cases hx:(x,ZV)∈r;·exact⟨λ_=>i1 hx,λz=>absurd (Zs _ hx) z⟩
   ·by_cases XQ:x=y;·subst XQ;obtain⟨c,hc⟩:=h x Zx;refine⟨λ_=>?_,λz=>absurd Zx z⟩;rw[i2 hx,Z6,beq_self_eq_true,hc];rfl
    ·have hb:(x==y)=Ξ:=by rw[beq_eq_false_iff_ne];exact XQ
     refine⟨λz=>?_,λ_=>?_⟩
     ·rcases abM.mp z with z|z;·injection z with z1 _;exact absurd z1 XQ
      ·exact absurd z hx
     ·rw[i2 hx,Z6,hb]
  ·simp only[jL,if_neg hk];obtain⟨i1,i2⟩:=kX (x:=x) (acc:=acc) hr;refine⟨λz=>?_,λz=>i2 λy=>z (Zs _ y)⟩;rcases abM.mp z with z|z;·injection z with _ z2;exact absurd z2.symm hk
   ·exact i1 z
theorem mf(h:fE a ps=Λ)env:defaultsOf a env=([],[])/\a.defaults=[]/\a.kw_defaults=[]:=by obtain⟨po,as,va,ko,kd,ka,df⟩:=a;unfold fE at h;simp only[Zr,ZO,abo,decide_eq_true_eq] at h;obtain⟨⟨⟨⟨⟨⟨⟨⟨rfl,rfl⟩,rfl⟩,rfl⟩,rfl⟩,rfl⟩,e⟩,nd⟩,_⟩:=h;exact⟨rfl,rfl,rfl⟩
theorem Bh:∀{as},(as.all λx=>x.annotation.isNone)=Λ->adZ as env=[]
 |[],_=>by unfold adZ;rfl|⟨x,an,p⟩::r,h=>by
  rw[abO,Zr] at h;have e:an=Θ:=abo.mp h.1;subst e;have ih:=Bh (env:=env) h.2;first
   |(unfold adZ;exact ih)
   |(simp only[adZ,ih])
theorem FI(h:fE a ps=Λ)env:annTrees a Θ env=[]:=by obtain⟨po,as,va,ko,kd,ka,df⟩:=a;unfold fE at h;simp only[Zr,ZO,abo,decide_eq_true_eq] at h;obtain⟨⟨⟨⟨⟨⟨⟨⟨rfl,rfl⟩,rfl⟩,rfl⟩,rfl⟩,rfl⟩,e⟩,nd⟩,an⟩:=h;unfold annTrees;simp only[aau,Option.toList_none];rw[Bh an];rfl
section
variable{X:Cx}{pins:List (Addr×Obj)}{σ:St}{H:Hp}{s:ZR}{a:Addr}{kvs:List (Key×V)}{k:Key}{u r:Value}{z:V}{A:aaZ}{E:Value->ZR->Prop}
theorem HU(I:Inv X pins σ H s)(e:H a=Δ (.dK kvs))(ry:RelV (kV k) u)(rz:RelV z r)(hl:kvs.length < Z3)(h1:∀v w' s',gz kvs k=Δ v->Inv X pins σ H s'->RelV v w'->Q w' s')(h2:gz kvs k=Θ->∀s',Inv X pins σ (upd H a (.dK (putK kvs k z))) s'->Q r s'):
  wpAny (model X.prog X.w) A (call (.builtin "dict.setdefault") [.ref a,u,r]) Q E s:=by
 refine du (λzz hd vs rel dd=>?_) (yf I.aN e);refine adF PySem.F.slot_dict_setdefault dd.typeIs PySem.F.entry_dict_setdefault (PySem.F.args_dict_setdefault_3 _ _ _) (kt_meets_setdefault (bh X.prog X.w) a (o9 ry) hd r)
  ⟨vs,dd,by rw[<-rel.length];exact zz,λw' hw=>?_,λhn h' Ay hs=>?_⟩
 ·have rr:=rel.val k;rw[hw] at rr;cases hv:gz kvs k with|none=>rw[hv] at rr;exact(show False from rr).elim|some v=>rw[hv] at rr;exact h1 v w' _ hv (I.tok _) rr
 ·have rr:=rel.val k;rw[hn] at rr;cases hv:gz kvs k with
  |some v=>rw[hv] at rr;exact(show False from rr).elim|none=>
   have he:∃q,h'.get? a=Δ q:=let ⟨q,_,_,hq,_⟩:=Ay;⟨q,hq⟩
   have pz:(putK kvs k z).length<=Z3:=by have:=jH kvs k z;lia
   exact h2 hv _ (kQ I (by rw[e];exact aa0) hs he (uT pz hd (rel.put k rz) Ay))
end
def Ou(td ty tx:TE):TE:=λσ H Q=>td σ H λx H1=>∃a,x=.ref a/\UT H1 a/\ty σ H1 λy H2=>tx σ H2 λz H3=>∃kvs k,H3 a=Δ (.dK kvs)/\y=kV k/\kvs.length < Z3/\
 (∀v,gz kvs k=Δ v->Q v H3)/\(gz kvs k=Θ->Q z (upd H3 a (.dK (putK kvs k z))))
section
variable{X:Cx}{o e f:Expr}{apos gN:Pos}{td ty tx:TE}
theorem HV(ho:PE X o td)(he:PE X e ty)(hf:PE X f tx)(m:M2 X o "setdefault" apos e f gN):PE X (.Call (.Attribute o "setdefault" apos) [e,f] [] gN) (Ou td ty tx):=by intro pins s σ H Q I h;refine wpAny_Call_method m.base m.W1 m.line acY PySem.F.slot_dict_setdefault PySem.F.type_dict_setdefault (b8 (ho pins s σ H _ I h) λu s1 gy=>?_);obtain⟨x,H1,I1,rx,a,ex,d,q1⟩:=gy;subst ex;obtain rfl:u=Z7 a:=rx;obtain⟨t1,t2,_⟩:=De I1 d;refine⟨t1,t2,?_⟩;rw[m.trees];refine abK rfl (adA (acp (b8 (he pins s1 σ H1 _ I1 q1) λiv s2 ⟨y,H2,I2,ry,q2⟩=>acp (b8 (hf pins s2 σ H2 _ I2 q2) λfv s3 ⟨z,H3,I3,rz,kvs,k,ea,ey,hl,q3,q4⟩=>adb ?_))));subst ey;exact HU I3 ea ry rz hl (λv w' s4 hv I4 nX=>⟨v,H3,I4,nX,q3 v hv⟩) λhn s4 I4=>⟨z,_,I4,rz,q4 hn⟩
end
def Su(K:ZE)(a:Addr):It:=
 ⟨λi H=>∃xs x,nz K H a xs/\xs[i]?=Δ x,λi H x H'=>∃T v,H T=Θ/\H'=upd H T (.tup [.int i,v])/\x=.ref T/\∀xs,nz K H a xs->xs[i]?=Δ v,λi H=>∃xs,nz K H a xs/\xs.length<=i⟩
theorem Dv{P:aav}{w:World}{K:ZE}{elts:List Expr}{kk:Nat}{pos:Pos}(a it e:Addr)(QC:e≠it):Turn P w K (.Tuple elts kk pos) (Su K a) [e,it] e (λi h=>(∃old,IsEnum h e it i old)/\h.IsListIter it a i) where
 mem:=by simp
 obj:=λi h st b hb=>by
  obtain⟨⟨old,he⟩,o,eo,c,d⟩:=st;have jJ:b=e\/b=it:=by simpa using hb
  rcases jJ with z|z;·rw[z];exact⟨_,he,λv z=>nomatch z⟩
  ·rw[z];exact⟨o,eo,λv z=>by rw[d] at z;cases z⟩
 keep:=λi h h' st k=>⟨let ⟨old,he⟩:=st.1;⟨old,k e (by simp) _ he⟩,st.2.at λo x=>k it (by simp) o x⟩
 item:=by
  intro X hP hw hK hc i pins s σ H E I hf st hg;subst hP hw hK;refine cps λgG kG=>?_;obtain⟨xs,x,hq,hx⟩:=hg;obtain⟨its,rv,p,hz⟩:=I.list hq;have p':s.heap.IsList a its.toArray:=p.isList;obtain⟨u,hu,ru⟩:=rv.get hx;obtain⟨f0,f1,f2,f3,f4,f5⟩:=hf it (by simp);obtain⟨g0,g1,g2,g3,g4,g5⟩:=hf e (by simp);obtain⟨⟨old,he⟩,hit⟩:=st;refine kG ?_;refine wpAny_pyNext_enum_item he hit p' (x:=u) (by simpa using hu) QC λh' ho xg hT hsz hk=>?_;refine⟨_,rfl,?_⟩;refine wpAny_letOwnedTupleGo_enum ho λh2 MP JN=>?_;have Sh:s.heap.objs.size≠e:=aaD (ZN he);have QD:s.heap.objs.size≠it:=by obtain⟨o,eo,_⟩:=hit;exact aaD (ZN eo)
  have A9:∀b o,b≠e->b≠it->s.heap.get? b=Δ o->h2.get? b=Δ o:=λb o h1 h3 q=>JN.extBut b o h1 (hk b o h1 h3 q);have hn:H s.heap.objs.size=Θ:=I.aN.fresh (ZC _);have GY:∀b v,H b=Δ v->b≠e/\b≠it:=λb v q=>⟨(λz=>by rw[z,g0] at q;exact aQ q),(λz=>by rw[z,f0] at q;exact aQ q)⟩;have Si:h2.get? s.heap.objs.size=Δ {cls:=.type "tuple",data:=.seq #[.int i s.toks,u]}:=JN.extBut _ _ Sh hT;have I1:Inv X pins σ (upd H s.heap.objs.size (.tup [.int i,x])) {s with heap:=h2,toks:=s.toks+1}:=by
   refine I.step (g':=s.gens) (d':=s.drawn) (ch:=[e,it]) (λb hb=>?_) (λb o _ _ hc q _=>A9 b o (λz=>hc (by simp[z])) (λz=>hc (by simp[z])) q) (λb o _ _ hc q _=>⟨o.slots,A9 b o (λz=>hc (by simp[z])) (λz=>hc (by simp[z])) q⟩)
    (λb o _ q n=>by rw[av (aaa (ZN q))];exact n) (λb o hc q=>⟨o,A9 b o (λz=>hc (by simp[z])) (λz=>hc (by simp[z])) q⟩) (λb xs q=>by rw[av (aR q hn)];exact q) (λb o v q=>by rw[av (aR q hn)];exact q)
    (λb ps q=>⟨#[],by rw[av (aR q hn),q];simp⟩) (λm hm=>?_) (λb v q=>?_) I.bare
   ·have jJ:b=e\/b=it:=by simpa using hb
    rcases jJ with z|z;·rw[z];exact⟨g3,g1,g4,g5⟩
    ·rw[z];exact⟨f3,f1,f4,f5⟩
   ·revert hm;refine fQ λo es ep qx r=>?_;exact⟨o,es,ep,A9 _ o (aaw g1) (aaw f1) qx,r⟩
   ·by_cases hb:b=s.heap.objs.size;·rw[hb,aG] at q;obtain rfl:=sj q;rw[hb];exact⟨by rw[aa2];simp,[.int i s.toks,u],.cons ⟨_,rfl⟩ (.cons ru .nil),⟨_,Si,rfl,_,rfl⟩⟩
    ·rw[av hb] at q;refine(I.aN b v q).oU (λc y hc qq=>?_) (λc qq=>by rw[av (aR qq hn)];exact qq) λc xs qq=>by rw[av (aR qq hn)];exact qq
     have:c≠e/\c≠it:=by
      rcases hc with z|z;·rw[z];exact GY b v q
      ·exact GY c _ z
     exact A9 c y this.1 this.2 qq
  refine⟨.ref s.heap.objs.size,_,I1,rfl,⟨s.heap.objs.size,x,hn,rfl,rfl,λys hy=>by rw[I.AK hy hq];exact hx⟩,⟨⟨u,by simpa using MP⟩,xg.at λo q=>JN.extBut _ _ (aaw QC) q⟩,λb hb=>?_⟩;have jJ:b=e\/b=it:=by simpa using hb
  rcases jJ with z|z;·rw[z,av (aaw Sh)];exact g0
  ·rw[z,av (aaw QD)];exact f0
 done:=by
  intro X hP hw hK hc i pins s σ H E I hf st hg;subst hP hw hK;refine cps λgG kG=>?_;obtain⟨xs,hq,hx⟩:=hg;obtain⟨its,rv,p,hz⟩:=I.list hq;obtain⟨f0,f1,f2,f3,f4,f5⟩:=hf it (by simp);obtain⟨⟨old,he⟩,hit⟩:=st;refine kG ?_;have hl:=rv.length;have hT:s.TypeIs (.ref e) "enumerate":=⟨_,he,rfl⟩;unfold adY;refine Zv (adX (aaP (name:=aaC "__next__") hT abI
   (abv abI hT PySem.F.entry_enumerate_next ?_ (PySem.F.args_enumerate_next_1 _))))
  show wpAny _ _ (field (.ref e) 2 >>=_) _ _ _;refine Zv (aba he rfl (x:=.ref it) rfl ?_);refine Zv (wpAny_nextOf_list_end (I.ok.hd hc) hit p.isList (by simp;lia) λh' y Xz yi=>?_);obtain⟨o,ho,zD⟩:=yi;refine Zv (ad2 (T:="StopIteration") (b:=Λ) ⟨o,ho,zD⟩ aeq ?_);exact ZT ⟨rfl,I.turned (t':=s.toks) (λb o hb q=>Xz b o hb q) f0 f1 f3 f4 f5⟩
 self:=λ_ _ _ _ _ st h=>let ⟨old,he⟩:=st.1;ac2 he h
section
variable{X:Cx}
def Ov(K:ZE)(ta:TA):TI:=λσ H R=>ta σ H λvs H1=>∃a,vs=[.ref a]/\(∃xs,nz K H1 a xs)/\R (Su K a) H1
theorem HW(hg:Gl X "enumerate")(hm:X.mg "enumerate"=Θ)(ha:PA X [x] ta)(hs:Z9 [x] X.env=[(Ξ,eval x X.env)]):
  PI X (.Tuple elts kk p3) (.Call (.Name "enumerate" p) [x] [] pos) (Ov X.K ta):=by
 intro pins s σ H R I h;refine Call_ (kM I hg hm boot_enumerate (aaA (b8 (ha pos pins s σ H _ I h) λus s1 gy=>?_) hs rfl) (by decide+kernel) (by decide+kernel));refine cps λgG kG=>?_;obtain⟨vs,H1,I1,r1,q1⟩:=gy;revert q1;refine aB λa aH Fb q=>?_;subst aH;obtain⟨xs,hq⟩:=Fb;obtain⟨u,rfl,ru⟩:=vals1 r1;obtain rfl:=ru;refine aB (λits rv pl hz=>?_) (I1.list hq);refine kG ?_;refine call_enumerate_list pl.isList λh' he hit hsz hk=>?_;refine ac2 he ?_;have I2:Inv X pins σ H1 {s1 with heap:=h'}:=I1.kept (t':=s1.toks) hk;refine⟨s1.heap.objs.size+1,[s1.heap.objs.size+1,s1.heap.objs.size],_,_,H1,rfl,I2,Dv a _ _ (Nat.succ_ne_self _),⟨⟨_,he⟩,hit⟩,λb hb=>?_,q⟩;have jJ:b=s1.heap.objs.size+1\/b=s1.heap.objs.size:=by simpa using hb
 rcases jJ with z|z;·rw[z];exact I1.zj (abn _) (I1.aN.fresh (abn _))
 ·rw[z];exact I1.zj (ZC _) (I1.aN.fresh (ZC _))
end
theorem aeK.get'{α β:Type}{F:α->β->Prop}{GV:List α}{GW:List β}(r:aeK F GV GW):∀{i:Nat} {x},GV[i]?=Δ x->∃u,GW[i]?=Δ u/\F x u:=by induction r with|nil=>intro i x e;simp at e|@cons a b as bs h t ih=>intro i x e;cases i with|zero=>simp at e;subst e;exact⟨b,rfl,h⟩|succ i=>simpa using ih (by simpa using e)
def Iti(d:Addr)(o:Obj)(kvs:List (Key×V)):It:=
 ⟨λi H=>H d=Δ (.dM o (.dK kvs))/\i < kvs.length,λi H x H'=>∃T k v,kvs[i]?=Δ (k,v)/\H T=Θ/\H'=upd H T (.tup [kV k,v])/\x=.ref T,λi H=>H d=Δ (.dM o (.dK kvs))/\kvs.length<=i⟩
theorem HX(ok:lW P w H h)(e:H d=Δ (.dM o (.dK kvs)))(ho:o.data=.dict es ep):
  ∃vs,KV kvs vs/\Heap.DictAt (bh P w) h d vs ep:=by
 refine cps λgG kG=>?_;obtain⟨h1,z,hs,vs,r,o',UD,UE,h2,h3,h4,h5⟩:=(show bR P w H h d (.dM o (.dK kvs)) from ok d _ e);rw[h1] at h2;obtain rfl:=sj h2;refine kG ?_;rw[ho] at h4;cases h4;exact⟨vs,r,o,es,h1,h3,ho,h5⟩
theorem HY(h:(bh P w).is k u=Λ):RelV (kV k) u:=by
 rcases cn h with ⟨i,t,rfl,rfl⟩|⟨x,t,rfl,rfl⟩
 ·exact⟨t,rfl⟩
 ·exact⟨t,rfl⟩
theorem ni:entryFor table "dict_itemiterator.__iter__"=Δ adu.«dict_keyiterator.__iter__»:=
 entryFor_alias (id':="dict_keyiterator.__iter__") (by kernel_rfl) rfl (by decide+kernel) (by kernel_rfl)
theorem xm(hit:IsItemIter s.heap it d i n ep ok ov)(h:Q (.ref it) s):wpAny (model prog w) A (pyIter (.ref it)) Q E s:=by have ht:s.TypeIs (.ref it) "dict_itemiterator":=⟨_,hit,rfl⟩;refine wpAny_pyIter_slot ht F.slot_dict_itemiterator_iter (abv F.slot_dict_itemiterator_iter ht ni ?_ (F.args_dict_itemiterator_iter_1 _));show wpAny _ _ (ret (.ref it)) _ _ s;exact ZT ⟨_,rfl,"dict_itemiterator",_,ht,F.slot_dict_itemiterator_next.lookup,h⟩
theorem Dw{P:aav}{w:World}{K:ZE}{elts:List Expr}{kk:Nat}{pos:Pos}(d it:Addr)(o:Obj)(kvs:List (Key×V))(es:Array DictEntry)(ep:Nat)(ho:o.data=.dict es ep):
  Turn P w K (.Tuple elts kk pos) (Iti d o kvs) [it] it (λi h=>∃ok ov,IsItemIter h it d i kvs.length ep ok ov) where
 mem:=by simp
 obj:=λi h st b hb=>by
  obtain⟨ok,ov,he⟩:=st;have jJ:b=it:=by simpa using hb
  rw[jJ];exact⟨_,he,λv z=>nomatch z⟩
 keep:=λi h h' st k=>let ⟨ok,ov,he⟩:=st;⟨ok,ov,k it (by simp) _ he⟩
 item:=by
  intro X hP hw hK hc i pins s σ H E I hf st hg;subst hP hw hK;refine cps λgG kG=>?_;obtain⟨hd,hi⟩:=hg;obtain⟨ok,ov,hit⟩:=st;obtain⟨vs,rel,da⟩:=HX I.aN hd ho;have hlen:kvs.length=vs.length:=rel.length;refine kK (λf0 f1 f2 f3 f4 f5=>?_) (hf it (by simp));obtain⟨⟨k,v⟩,sE⟩:∃p,kvs[i]?=Δ p:=⟨kvs[i],Zu hi⟩;refine aB (λQ1 hu ek ru=>?_) (aeK.get' rel sE);obtain⟨k',u⟩:=Q1;obtain rfl:=show k=k' from ek;refine kG ?_;rw[hlen] at hit;refine wpAny_pyNext_items_item hit da hu λkey h' hk out hT hsz FE=>?_;refine⟨_,rfl,?_⟩;refine wpAny_letOwnedTupleGo_items out λh2 MP JN=>?_;have QD:s.heap.objs.size≠it:=aaD (ZN hit);have A9:∀b o,b≠it->s.heap.get? b=Δ o->h2.get? b=Δ o:=λb o h1 q=>JN.extBut b o h1 (FE b o h1 q);have hn:H s.heap.objs.size=Θ:=I.aN.fresh (ZC _);have GY:∀b v,H b=Δ v->b≠it:=λb v q z=>by rw[z,f0] at q;exact aQ q
  have Si:h2.get? s.heap.objs.size=Δ {cls:=.type "tuple",data:=.seq #[key,u]}:=JN.extBut _ _ QD hT;have I1:Inv X pins σ (upd H s.heap.objs.size (.tup [kV k,v])) {s with heap:=h2}:=by
   refine I.step (g':=s.gens) (d':=s.drawn) (t':=s.toks) (ch:=[it]) (λb hb=>?_) (λb o _ _ hc q _=>A9 b o (λz=>hc (by simp[z])) q) (λb o _ _ hc q _=>⟨o.slots,A9 b o (λz=>hc (by simp[z])) q⟩)
    (λb o _ q n=>by rw[av (aaa (ZN q))];exact n) (λb o hc q=>⟨o,A9 b o (λz=>hc (by simp[z])) q⟩) (λb xs q=>by rw[av (aR q hn)];exact q) (λb o v q=>by rw[av (aR q hn)];exact q)
    (λb ps q=>⟨#[],by rw[av (aR q hn),q];simp⟩) (λm hm=>?_) (λb v' q=>?_) I.bare
   ·have jJ:b=it:=by simpa using hb
    rw[jJ];exact⟨f3,f1,f4,f5⟩
   ·revert hm;refine fQ λo es ep qx r=>?_;exact⟨o,es,ep,A9 _ o (aaw f1) qx,r⟩
   ·by_cases hb:b=s.heap.objs.size;·rw[hb,aG] at q;obtain rfl:=sj q;rw[hb];exact⟨by rw[aa2];simp,[key,u],.cons (HY hk) (.cons ru .nil),⟨_,Si,rfl,_,rfl⟩⟩
    ·rw[av hb] at q;refine(I.aN b v' q).oU (λc y hc qq=>?_) (λc qq=>by rw[av (aR qq hn)];exact qq) λc xs qq=>by rw[av (aR qq hn)];exact qq
     have:c≠it:=by
      rcases hc with z|z;·rw[z];exact GY b v' q
      ·exact GY c _ z
     exact A9 c y this qq
  refine⟨.ref s.heap.objs.size,_,I1,rfl,⟨s.heap.objs.size,k,v,sE,hn,rfl,rfl⟩,⟨key,u,by rw[hlen];exact MP⟩,λb hb=>?_⟩;have jJ:b=it:=by simpa using hb
  rw[jJ,av (aaw QD)];exact f0
 done:=by intro X hP hw hK hc i pins s σ H E I hf st hg;subst hP hw hK;obtain⟨hd,hi⟩:=hg;obtain⟨ok,ov,hit⟩:=st;obtain⟨vs,rel,da⟩:=HX I.aN hd ho;have hlen:kvs.length=vs.length:=rel.length;refine kK (λf0 f1 f2 f3 f4 f5=>?_) (hf it (by simp));rw[hlen] at hit;exact wpAny_pyNext_items_end (I.ok.hd hc) hit da (aac (by lia)) λh' eb=>⟨rfl,I.turned (t':=s.toks) (λb o hb q=>eb b o hb q) f0 f1 f3 f4 f5⟩
 self:=λA i s Q E st h=>by obtain⟨ok,ov,he⟩:=st;exact xm he h
section
variable{X:Cx}{pins:List (Addr×Obj)}{σ:St}{H:Hp}{s:ZR}
theorem Inv.re(I:Inv X pins σ H s)(e:H d=Δ u)(h1:∀xs,u≠.tup xs)(h2:∀ps,u≠.gv ps)(h3:∀b,u≠.own b)(hf:∀o v,X.AI d=Δ (.dM o v)->u'=.dM o v)(new:bR X.prog X.w H s.heap d u'):Inv X pins σ (upd H d u') s:=by
 have st:∀{b:Addr} {v:HO},bR X.prog X.w H s.heap b v->bR X.prog X.w (upd H d u') s.heap b v:=λx=>x.oU (λ_ _ _ q=>q) (λc q=>by
  rw[av (λz=>by rw[z,e] at q;exact h3 _ (aaf q))];exact q) λc xs q=>by
  rw[av (λz=>by rw[z,e] at q;exact h1 _ (aaf q))];exact q
 have nn:∀{b:Addr},H b=Θ->upd H d u' b=Θ:=λ{b} q=>by rw[av (λz=>by rw[z,e] at q;exact GU q)];exact q
 refine⟨I.ok,I.os,I.bare,⟨I.base.keep,I.base.slot,λb o q n hx=>nn (I.base.free b o q n hx),I.base.there,λb xs q=>?_,λb o v q=>?_,λb ps q=>?_⟩,I.loc,I.cell,nn I.free,λx c q=>nn (I.lH x c q),λp hp=>?_,λb v q=>?_,I.len⟩;·have:=I.base.uJ b xs q;rw[av (λz=>by rw[z,e] at this;exact h1 _ (aaf this))];exact this
 ·by_cases z:b=d;·rw[z] at q ⊢;rw[aG,hf o v q]
  ·rw[av z];exact I.base.qw b o v q
 ·obtain⟨more,this⟩:=I.base.sX b ps q;exact⟨more,by rw[av (λz=>by rw[z,e] at this;exact h2 _ (aaf this))];exact this⟩
 ·obtain⟨q1,q2,q3⟩:=I.pin p hp;exact⟨q1,nn q2,q3⟩
 ·by_cases z:b=d;·rw[z,aG] at q;obtain rfl:=sj q;rw[z];exact st new
  ·rw[av z] at q;exact st (I.aN b v q)
def NF(X:Cx)(d:Addr):Prop:=∀o v,X.AI d≠Δ (.dM o v)
theorem Inv.hold(I:Inv X pins σ H s)(e:H d=Δ (.dK kvs)):∃o es ep,s.heap.get? d=Δ o/\o.data=.dict es ep/\NF X d/\Inv X pins σ (upd H d (.dM o (.dK kvs))) s:=by
 have ok:bR X.prog X.w H s.heap d (.dK kvs):=I.aN d _ e;refine cps λgG kG=>?_;obtain⟨z,hs,vs,r,o,es,ep,h2,h3,h4,h5⟩:=id ok;refine kG ?_;have nf:NF X d:=λo' v q=>by have:=I.base.qw d o' v q;rw[e] at this;cases this
 exact⟨o,es,ep,h2,h4,nf,I.re e (λ_ z=>nomatch z) (λ_ z=>nomatch z) (λ_ z=>nomatch z) (λo' v q=>absurd q (nf o' v)) ⟨h2,ok⟩⟩
theorem Inv.FJ(I:Inv X pins σ H s)(e:H d=Δ (.dM o u))(nf:NF X d):Inv X pins σ (upd H d u) s:=by obtain⟨h1,h2⟩:=(show bR X.prog X.w H s.heap d (.dM o u) from I.aN d _ e);exact I.re e (λ_ z=>nomatch z) (λ_ z=>nomatch z) (λ_ z=>nomatch z) (λo' v q=>absurd q (nf o' v)) h2
def yo(X:Cx)(D:Ends):Ends where
 nx:=λσ H=>∃d o u,H d=Δ (.dM o u)/\NF X d/\D.nx σ (upd H d u)
 rt:=λv H=>∃d o u,H d=Δ (.dM o u)/\NF X d/\D.rt v (upd H d u)
 bk:=λσ H=>∃d o u,H d=Δ (.dM o u)/\NF X d/\D.bk σ (upd H d u)
 ct:=λσ H=>∃d o u,H d=Δ (.dM o u)/\NF X d/\D.ct σ (upd H d u)
theorem KH{st:Stmt}(h:PS X st t):PS X st (λD σ H=>t (yo X D) σ H):=by intro pins s σ H D I q;refine b8 (h pins s σ H _ I q) λf s1 q1=>?_;cases f with|next=>obtain⟨dn,H',I',d,o,u,e,nf,q'⟩:=q1;exact⟨dn,_,I'.FJ e nf,q'⟩|brk=>obtain⟨dn,H',I',d,o,u,e,nf,q'⟩:=q1;exact⟨dn,_,I'.FJ e nf,q'⟩|cont=>obtain⟨dn,H',I',d,o,u,e,nf,q'⟩:=q1;exact⟨dn,_,I'.FJ e nf,q'⟩|ret w'=>obtain⟨v,dn,H',I',r,d,o,u,e,nf,q'⟩:=q1;exact⟨v,dn,_,I'.FJ e nf,r,q'⟩
end
section
variable{X:Cx}
def Ow(X:Cx)(td:TE):TI:=λσ H R=>td σ H λx H1=>∃d kvs,x=.ref d/\H1 d=Δ (.dK kvs)/\∀o,NF X d->R (Iti d o kvs) (upd H1 d (.dM o (.dK kvs)))
theorem HZ(ho:PE X x td)(AO:aca x "items" X.env (eval x X.env)=eval x X.env)(nB:(apos.endLine==gN.line)=Λ):
  PI X (.Tuple elts kk p3) (.Call (.Attribute x "items" apos) [] [] gN) (Ow X td):=by
 intro pins s σ H R I h;refine wpAny_Call_method0_late AO nB (b8 (ho pins s σ H _ I h) λv s1 tm=>?_);obtain⟨y,H1,I1,r1,d,kvs,ey,ed,q1⟩:=tm;subst ey;obtain rfl:=r1;obtain⟨t1,t2,XR⟩:=De I1 (.inl ⟨kvs,.inl ed⟩);refine⟨"dict","dict.items",acY,PySem.F.slot_dict_items,PySem.F.type_dict_items,t1,t2,abK rfl (PySem.evalArgs_none ?_)⟩;refine br (λo es ep qx JI nf I2=>?_) (I1.hold ed);obtain⟨vs,rel,da⟩:=HX I2.aN aG JI;have dd:Heap.DictOf (bh X.prog X.w) s1.heap d vs:=da.dictOf;refine adF PySem.F.slot_dict_items dd.typeIs PySem.F.entry_dict_items (PySem.F.args_dict_items_1 _) (meets_dict_items (bh X.prog X.w) d XR) ⟨⟨vs,dd⟩,?_⟩;have hv:Heap.IsItemsView (s1.heap.push {cls:=.type "dict_items",data:=.fields #[.ref d]}) s1.heap.objs.size d:=⟨_,ZM _ rfl,rfl,rfl⟩;refine wpAny_pyIter_items (knd:=bh X.prog X.w) (ep:=ep) (kvs:=vs) hv (da.at' λo' q=>Zt _ q) ?_;have hlen:kvs.length=vs.length:=rel.length;have I3:Inv X pins σ (upd H1 d (.dM o (.dK kvs))) {s1 with heap:=s1.heap.push {cls:=.type "dict_items",data:=.fields #[.ref d]}}:=I2.kept (t':=s1.toks) λb o' q=>Zt _ q;refine⟨_,[_],_,_,_,rfl,I3.kept (t':=s1.toks) λb o' q=>Zt _ q,Dw d _ o kvs es ep JI,⟨.none,.none,?_⟩,λb hb=>?_,q1 o nf⟩;·rw[hlen];exact ZM _ rfl
 ·have jJ:b=(s1.heap.push {cls:=.type "dict_items",data:=.fields #[.ref d]}).objs.size:=by simpa using hb
  rw[jJ];exact I3.zj (ZC _) (I3.aN.fresh (ZC _))
theorem FK(rel:KV kvs vs):∀{us},us.length=vs.length->(∀(j:Nat) (v),us[j]?=Δ v->∃k x,vs[j]?=Δ (k,x)/\(bh P w).is k v=Λ)->aY (kvs.map λkv=>kV kv.1) us:=by
 unfold KV at rel;induction rel with
 |nil=>intro us hl h;cases us with|nil=>exact .nil|cons _ _=>simp at hl
 |@cons p q ps qs e t ih=>
  intro us hl h;cases us with
  |nil=>simp at hl|cons v us=>
   refine .cons ?_ (ih (by simpa using hl) λj v' hv=>h (j+1) v' (by simpa using hv));refine bg (λk x hk hi=>?_) (h 0 v rfl);simp at hk;have e1:p.1=k:=by rw[e.1,hk]
   show RelV (kV p.1) v;rw[e1];exact HY hi
theorem xn(hc:X.calm=Λ):je X (.type "list") (λxs H Q=>∃p kvs,xs=[.ref p]/\H p=Δ (.dK kvs)/\∀l,H l=Θ->Q (.ref l) (upd H l (.lst (kvs.map λkv=>kV kv.1)))):=by intro pins s σ H xs us Q I r h;revert h;refine ah λp kvs aH hq q=>?_;subst aH;obtain⟨u,rfl,rx⟩:=vals1 r;obtain rfl:=rx;refine du (λz XR vs rel dd=>?_) (yf I.aN hq);have hlen:kvs.length=vs.length:=rel.length;obtain⟨ep,da⟩:=dd.dictAt;refine PySem.W.kdl_call (PySem.W.kdl_dict (knd:=bh X.prog X.w) (kvs:=vs) (ep:=ep) XR) (I.ok.hd hc) da (by lia) λh' tk acc c' kp e io=>?_;obtain⟨hsz,hit⟩:=io;have rv:aY (kvs.map λkv=>kV kv.1) acc.toList:=FK rel (by simpa using hsz) λj v hv=>hit j v (by simpa using hv);refine⟨.ref s.heap.objs.size,_,I.laid (t':=tk) kp (ZC _) (show bR X.prog X.w _ h' _ (.lst (kvs.map λkv=>kV kv.1)) from⟨by simpa using z,acc.toList,c',rv,by simpa using e⟩),rfl,q _ (I.aN.fresh (ZC _))⟩
end
def Ox(tk tv:TE):TE:=λσ H Q=>∀p,H p=Θ->tk σ (upd H p (.dT [])) λx H1=>tv σ H1 λy H2=>H2 p=Δ (.dT [])/\∃ks b,x=.ref b/\H2 b=Δ (.tup (ks.map kV))/\Q (.ref p) (upd H2 p (.dT [(ks,y)]))
theorem Ia(hu:X.A.units+1 < cLine)(hk:PE X k tk)(hv:PE X v tv):PE X (.Dict [Δ k] [v] pos) (Ox tk tv):=by
 intro pins s σ H Q I q;have hn:=I.aN.fresh (ZC s.heap.objs.size);have I1:=I.laid (a:=s.heap.objs.size) (o:=.dT []) (h':=s.heap.push {cls:=.type "dict",data:=.dict #[]}) (t':=s.toks) (λ_ _ q=>Zt _ q) (ZC _) (AW s.heap I.UR);rw[arm_eval_Dict];have e0:(evalEachOpt [Δ k] X.env).zip (ady (λv=>do let x<-v;aee pos;pure x) (evalEach [v] X.env))=ady (λp=>(Δ p.1,p.2)) (pairTrees [Δ k] [v] X.env pos):=by rfl
 rw[e0,dictDisplay_pairs (pairTrees [Δ k] [v] X.env pos) (List.cons_ne_nil _ _) (Nat.le_of_ble_eq_true rfl)];refine Zv (aeD (Zv (wpAny_subDict_any (Nat.le_of_ble_eq_true rfl) (b8 ((AX hk hv Eh) pins _ σ _ (λps H2=>match ps with
  |[(x,y)]=>H2 s.heap.objs.size=Δ (.dT [])/\∃ks b,x=.ref b/\H2 b=Δ (.tup (ks.map kV))/\Q (.ref s.heap.objs.size) (upd H2 s.heap.objs.size (.dT [(ks,y)]))
  |_=>False) I1 (q _ hn)) λws s2 gy=>?_))))
 revert gy;refine ah λps H2 I2 rel h=>?_;cases rel with
 |nil=>exact h.elim|@cons p1 q1 ps1 qs1 r rs=>
  cases rs with
  |cons _ _=>exact h.elim|nil=>
  refine cps λgG kG=>?_;obtain⟨x,y⟩:=p1;obtain⟨w1,w2⟩:=q1;obtain⟨e,ks,b,ex,eb,q2⟩:=h;subst ex;obtain rfl:=show w1=Z7 b from r.1;refine du (λz hd xs rl dd=>?_) (MA I2.aN e);refine kG ?_;cases rl;unfold storeAll;rw[abZ];have room:(ad3 (bh X.prog X.w)).room X.A:=by
   show X.A.units < cLine
   lia
  refine Zv (Zv (wpAny_dictSet_heap room (qF I2.aN eb) dd (λh' Ay hs=>ZT ?_) (by simp)));dsimp only;rw[acz];refine ZT (ZT ?_);revert Ay;refine kL λqq es ep hq h2 h3 h4 _ h5=>?_;refine⟨.ref s.heap.objs.size,_,kQ (ob:=.dT [(ks,y)]) I2 (by rw[e];exact aa0) hs ⟨qq,hq⟩ ⟨by simp[aa2],hd,_,(KT.put (H:=H2) .nil ks eb r.2).keeps λc ys ec=>?_,qq,es,ep,hq,h2,h3,h4,h5⟩,rfl,q2⟩;rw[av (Ms ec e (λz=>nomatch z))];exact ec
end L2
namespace Y
open PySem
inductive D where
 |bG|bl (b:Bool)|int (i:Int)|str (x:Str)|tup (xs:List D)|pl (xs:List D)
inductive P where
 |d (x:D)|obj (n:Nat)|jg (ns:List Int)
 |fn (k:Nat) (bz:List P)|lf (k:Nat)
inductive O where
 |lst (xs:List P)|dK (kvs:List (Sum Int Str×P))|dT (kvs:List (List (Sum Int Str)×P))|ins (c:Str) (fs:List (Str×P))
 |xo
abbrev aM:=List O
abbrev cb:=List (Option P)
inductive R (α:Type) where
 |ok (a:α) (st:aM)|ex (x:Str) (st:aM)|no
noncomputable def R.bind{α β:Type}(r:R α)(k:α->aM->R β):R β:=match r with|.ok a st=>k a st|.ex x st=>.ex x st|.no=>.no
noncomputable def R.of{α:Type}(o:Option α)(st:aM):R α:=match o with|some a=>.ok a st|none=>.no
@[simp] theorem ae{α β:Type}(a:α)st(k:α->aM->R β):(R.ok a st).bind k=k a st:=rfl
@[simp] theorem U7{α β:Type}x st(k:α->aM->R β):(R.ex x st:R α).bind k=.ex x st:=rfl
@[simp] theorem pE{α β:Type}(k:α->aM->R β):(R.no:R α).bind k=.no:=rfl
@[simp] theorem ay{α:Type}(a:α)st:R.of (Δ a) st=.ok a st:=rfl
@[simp] theorem of_none{α:Type}st:R.of (Θ:Option α) st=.no:=rfl
inductive Sv where|add|sub|mul|mod|band|bor|bxor
inductive MS where|lt|le|gt|ge|eq|ne|isin|pF
inductive Bf where|len|any|tuple
mutual
inductive E where
 |var (i:Nat)
 |cst (x:D)
 |op (o:Sv) (a b:E)
 |not (a:E)
 |cmp (o:MS) (a b:E)
 |chain (o o':MS) (a b c:E)
 |and (es:List E)
 |or (es:List E)
 |tup (es:List E)
 |lst (m:Bool) (l:L)
 |call (f:Nat) (es:List E)
 |Ib (a:E) (T:String)
 |bf (f:Bf) (es:List E)
 |ix (a b:E)
 |qK (t:Bool)
 |nI (i:Nat) (es:List E)
 |eR (f:Nat) (es:List E) (ls:List (Nat×List Nat))
 |j8 (i:Nat) (es:List E) (ls:List (Nat×List Nat))
 |lam (k:Nat)
 |attr (c f:Str) (i:Nat)
 |qL (k:Nat) (c m:Str) (i:Nat) (es:List E)
 |make (k:Nat) (c:Str) (es:List E)
 |FO (a b:E)
 |FP (a:E)
 |u6 (a b c:E)
 |FQ (k:E) (x:D)
inductive L where
 |fO (es:List E)
 |comp (it:W) (ts:Nat) (js:List Nat) (c:Option E) (e:E)
 |iQ (es:List E)
 |zip (a b:E)
 |cF (e:E) (js:List Nat) (c:Option E) (ee:E)
 |keys (e:E)
inductive W where
 |ex (e:E)
 |iQ (es:List E)
 |enum (e:E)
end
inductive Tg where
 |nm (i:Nat)
 |tup (is:List Nat)
 |two (i j:Nat)
inductive S where
 |ret (e:E)
 |FR
 |set (i:Nat) (e:E)
 |ifs (c:E) (a b:List S)
 |hZ (t:Tg) (w:W) (b:List S)
 |mh (c:E) (b:List S)
 |jE (t:Tg) (e:E) (b:List S)
 |Dx (i j:Nat) (e:E) (b:List S)
 |j9 (i j:Nat) (e:E) (b:List S)
 |expr (e:E)
 |nh (i k:Nat)
 |nj (c f:Str) (i:Nat) (e:E)
 |app (a e:E)
 |put (a i e:E)
inductive Fl where
 |nx (r:cb)|bk (r:cb)|ct (r:cb)|rt (v:P)
def au:Nat:=16777216
noncomputable def n4:Int:=18446744073709551616
def n6:Int:=4611686018427387904
def bit(i:Int):Prop:=i=0\/i=1
instance(i:Int):Decidable (bit i):=inferInstanceAs (Decidable (i=0\/i=1))
def mQ(o:Sv)(i j:Int):Option Int:=match o with|.add=>Δ (i+j)|.sub=>Δ (i - j)|.mul=>if(-n4 < i/\i < n4)\/(-n4 < j/\j < n4) then Δ (i*j) else Θ|.mod=>if 0 < j then Δ (i % j) else Θ|.band=>if bit i/\bit j then Δ (if i=1/\j=1 then 1 else 0) else Θ|.bor=>if bit i/\bit j then Δ (if i=1\/j=1 then 1 else 0) else Θ|.bxor=>if bit i/\bit j then Δ (if i=j then 0 else 1) else Θ
def Ic:P->Option D
 |.d x=>Δ x|_=>Θ
def bC:List P->Option (List D)
 |[]=>Δ []|p::r=>(Ic p).bind λx=>(bC r).map λxs=>x::xs
def de(st:aM):P->Option (List P)
 |.d (.pl xs)=>Δ (xs.map .d)|.obj n=>match st[n]? with|some (.lst xs)=>Δ xs|_=>Θ
 |_=>Θ
def KJ(o:Sv)(a b:P)(st:aM):Option P:=match o,a,b with|o,.d (.int i),.d (.int j)=>(mQ o i j).map λk=>.d (.int k)|.add,.d (.str x),.d (.str y)=>if x.length+y.length<=au then Δ (.d (.str (x++y))) else Θ|.add,.d (.tup xs),.d (.tup ys)=>if xs.length+ys.length<=au then Δ (.d (.tup (xs++ys))) else Θ|.mul,.d (.tup xs),.d (.int k)=>if k=1 then Δ (.d (.tup xs)) else if k=2/\0 < xs.length/\xs.length<=100000 then Δ (.d (.tup (xs++xs))) else if k=3/\0 < xs.length/\xs.length<=100000 then Δ (.d (.tup (xs++xs++xs))) else Θ|.add,a,b=>(de st a).bind λxs=>(de st b).bind λys=>(bC (xs++ys)).bind λzs=>if zs.length<=au then Δ (.d (.pl zs)) else Θ|_,_,_=>Θ
mutual
def xp:D->D->Bool
 |.bG,.bG=>Λ|.bl a,.bl b=>a==b|.bl a,.int j=>(if a then 1 else 0)==j|.int i,.bl b=>i==(if b then 1 else 0)|.int i,.int j=>i==j|.str x,.str y=>x==y|.tup xs,.tup ys=>iU xs ys|.pl xs,.pl ys=>iU xs ys|_,_=>Ξ
def iU:List D->List D->Bool
 |[],[]=>Λ|x::xs,y::ys=>xp x y&&iU xs ys|_,_=>Ξ
end
mutual
def nk:D->Nat
 |.tup xs=>lI xs+1|.pl xs=>lI xs+1|_=>0
def lI:List D->Nat
 |[]=>0|x::xs=>max (nk x) (lI xs)
end
theorem Ie:xp (.int i) (.int j)=(i==j):=rfl
theorem Eo:iU (x::xs) (y::ys)=(xp x y&&iU xs ys):=rfl
theorem Oy:nk (.tup xs)=lI xs+1:=rfl
theorem zI:lI (x::xs)=max (nk x) (lI xs):=rfl
def tD(x y:D):Option Bool:=if min (nk x) (nk y)<=100 then Δ (xp x y) else Θ
def sG:D->Bool
 |.tup _=>Ξ|.pl _=>Ξ|_=>Λ
noncomputable def Sw(o:MS)(i j:Int):Option Bool:=match o with|.lt=>Δ (decide (i < j))|.le=>Δ (decide (i<=j))|.gt=>Δ (decide (j < i))|.ge=>Δ (decide (j<=i))|_=>Θ
def fz(st:aM):P->Option (List P)
 |.d (.tup xs)=>Δ (xs.map .d)|.jg ns=>Δ (ns.map λi=>.d (.int i))|p=>de st p
def kY(st:aM):P->Option D
 |.d x=>Δ x|.obj n=>match st[n]? with|some (.lst xs)=>(bC xs).map .pl|_=>Θ
 |_=>Θ
mutual
noncomputable def cH:P->Bool
 |.d _=>Λ|.fn _ bz=>cJ bz|_=>Ξ
noncomputable def cJ:List P->Bool
 |[]=>Λ|p::r=>cH p&&cJ r
end
def zJ(st:aM):P->Option P
 |.jg ns=>Δ (.jg ns)|.fn k bz=>if cJ bz then Δ (.fn k bz) else Θ|p=>(kY st p).map .d
def iI(st:aM):List P->Option (List P)
 |[]=>Δ []|p::r=>(zJ st p).bind λx=>(iI st r).map λxs=>x::xs
noncomputable def keyOf:P->Option (Sum Int Str)
 |.d (.int i)=>Δ (.inl i)|.d (.str x)=>Δ (.inr x)|_=>Θ
def keysOf:List D->Option (List (Sum Int Str))
 |[]=>Δ []|x::r=>(keyOf (.d x)).bind λk=>(keysOf r).map λks=>k::ks
def kZ:P->Option (List (Sum Int Str))
 |.d (.tup xs)=>keysOf xs|_=>Θ
noncomputable def fU{κ:Type}[DecidableEq κ](kvs:List (κ×P))(k:κ):Option P:=(kvs.find? λkv=>decide (kv.1=k)).map (·.2)
noncomputable def nq{κ:Type}[DecidableEq κ](kvs:List (κ×P))(k:κ)(v:P):List (κ×P):=
 if(kvs.any λkv=>decide (kv.1=k))=Λ then kvs.map (λkv=>if kv.1=k then(kv.1,v) else kv) else kvs++[(k,v)]
def pH(o:O)(k:P):Option (Option P):=match o with|.lst _=>Θ|.ins _ _=>Θ|.xo=>Θ|.dK kvs=>(keyOf k).map λk=>fU kvs k|.dT kvs=>(kZ k).map λk=>fU kvs k
def kq:O->Bool
 |.lst _=>Ξ|.ins _ _=>Ξ|.xo=>Ξ|_=>Λ
def FT(st:aM):P->Option O
 |.obj n=>st[n]?|_=>Θ
def bJ(st:aM)(p:P):Option O:=(FT st p).bind λo=>if kq o then Δ o else Θ
def Ig:O->Nat
 |.lst xs=>xs.length|.ins _ _=>0|.xo=>0|.dK kvs=>kvs.length|.dT kvs=>kvs.length
def Ep(o:O)(k v:P):Option O:=match o with|.lst _=>Θ|.ins _ _=>Θ|.xo=>Θ|.dK kvs=>if kvs.length < au then(keyOf k).map λk=>.dK (nq kvs k v) else Θ|.dT kvs=>if kvs.length < au then(kZ k).map λk=>.dT (nq kvs k v) else Θ
def Oz(o:MS)(a b:P):Option Bool:=match a,b with|.d (.int i),.d (.int j)=>Sw o i j|_,_=>Θ
def Ih(a b:P)(st:aM):Option Bool:=match bJ st b with|some o=>(pH o a).map λr=>r.isSome|none=>(Ic a).bind λx=>(fz st b).bind λps=>(bC ps).bind λys=>if sG x&&ys.all sG then Δ (ys.any λy=>xp y x) else Θ
def kr(o:MS)(a b:P)(st:aM):Option Bool:=match o with|.eq=>(kY st a).bind λx=>(kY st b).bind λy=>tD x y|.ne=>(kY st a).bind λx=>(kY st b).bind λy=>(tD x y).map not|.isin=>Ih a b st|.pF=>(Ih a b st).map not|_=>Oz o a b
def zK(st:aM):P->Option Bool
 |.d .bG=>Δ Ξ|.d (.bl b)=>Δ b|.d (.int i)=>Δ (i !=0)|.d (.str x)=>if x.length<=au then Δ ((x.length:Int)!=0) else Θ|.d (.tup xs)=>Δ (!xs.isEmpty)|p=>(de st p).map λxs=>!xs.isEmpty
noncomputable def KL:P->aM->Option String
 |.d .bG,_=>Δ "NoneType"|.d (.bl _),_=>Δ "bool"|.d (.int _),_=>Δ "int"|.d (.str _),_=>Δ "str"|.d (.tup _),_=>Δ "tuple"|.d (.pl _),_=>Δ "list"|.obj n,st=>match st[n]? with|some (.lst _)=>Δ "list"|_=>Θ
 |_,_=>Θ
def fS(t T:String):Bool:=t==T||(t=="bool"&&T=="int")
noncomputable def C6(n:Nat)(i:Int):Option Nat:=if 0<=i then(if i < n then Δ i.toNat else Θ) else if -(n:Int)<=i then Δ (i+n).toNat else Θ
def qD{α:Type}(xs:List α)(i:Int):Option α:=(C6 xs.length i).bind λj=>xs[j]?
noncomputable def Ii:Option P->Option (Option Int)
 |none=>Δ Θ|some (.d (.int i))=>Δ (Δ i)|_=>Θ
def XS(a b:P)(st:aM):Option P:=match b with|.d (.int i)=>(fz st a).bind λxs=>qD xs i|_=>Θ
def CJ(a b:P)(st:aM):Option P:=match bJ st a with|some o=>(pH o b).bind id|none=>XS a b st
def zL(a v:P)(st:aM):Option aM:=match a with
 |.obj n=>match st[n]? with|some (.lst xs)=>if xs.length < au then Δ (st.set n (.lst (xs++[v]))) else Θ|_=>Θ
 |_=>Θ
def Bi(o:O)(k v:P):Option O:=match o with
 |.lst xs=>match k with|.d (.int i)=>(C6 xs.length i).map λj=>.lst (xs.set j v)|_=>Θ
 |o=>Ep o k v
def pI(a k v:P)(st:aM):Option aM:=match a with|.obj n=>(st[n]?).bind λo=>(Bi o k v).map λo'=>st.set n o'|_=>Θ
noncomputable def boolsOf:List P->Option (List Bool)
 |[]=>Δ []|.d (.bl b)::r=>(boolsOf r).map λbs=>b::bs|_=>Θ
noncomputable def yp{κ:Type}[DecidableEq κ](kvs:List (κ×P))(k:κ):List (κ×P):=kvs.filter λkv=>decide (kv.1≠k)
def Ij(x y:P)(st:aM):Option (P×aM):=match x with
 |.obj n=>match st[n]? with|some (.dK kvs)=>(keyOf y).bind λk=>(fU kvs k).map λv=>(v,st.set n (.dK (yp kvs k)))|_=>Θ
 |_=>Θ
def Ik(x:P)(st:aM):Option (P×aM):=match x with
 |.obj n=>match st[n]? with|some (.lst xs)=>(xs[xs.length - 1]?).map λv=>(v,st.set n (.lst xs.dropLast))|_=>Θ
 |_=>Θ
def sH(x y z:P)(st:aM):Option (P×aM):=match x with
 |.obj n=>match st[n]? with
  |some (.dK kvs)=>if kvs.length < au then(keyOf y).map λk=>match fU kvs k with|some v=>(v,st)|none=>(z,st.set n (.dK (nq kvs k z)))
   else Θ
  |_=>Θ
 |_=>Θ
noncomputable def zM:Sum Int Str->P
 |.inl i=>.d (.int i)|.inr x=>.d (.str x)
def KN(x y:P):Option O:=match keyOf x with|some k=>Δ (.dK [(k,y)])|none=>(kZ x).map λk=>.dT [(k,y)]
noncomputable def u7(st:aM):P->Option (Nat×List (Sum Int Str×P))
 |.obj n=>match st[n]? with|some (.dK kvs)=>Δ (n,kvs)|_=>Θ
 |_=>Θ
noncomputable def qM(c:Str)(st:aM):P->Option (Nat×List (Str×P))
 |.obj n=>match st[n]? with|some (.ins c' fs)=>if c'=c then Δ (n,fs) else Θ|_=>Θ
 |_=>Θ
noncomputable def xq(f:Str)(v:P):List (Str×P)->List (Str×P)
 |[]=>[(f,v)]|(g,x)::r=>if g=f then(g,v)::r else(g,x)::xq f v r
def conv(ls:List (Nat×List Nat))(r:cb):Nat->P->Option P
 |0,_=>Θ|n+1,p=>match p with|.d x=>Δ (.d x)|.jg ns=>Δ (.jg ns)|.fn k bz=>if cJ bz then Δ (.fn k bz) else Θ|.lf k=>(ls.lookup k).bind λjs=>(js.mapM λj=>((r[j]?).join).bind (conv ls r n)).map λbz=>.fn k bz|.obj _=>Θ
section
variable(C:Nat->List P->aM->R P)
def lR(r:cb)(i:Nat):Option P:=(r[i]?).join
def ur(f:Bf)(ps:List P)(st:aM):Option P:=match f,ps with
 |.len,[p]=>match p with|.d (.str x)=>if x.length<=au then Δ (.d (.int x.length)) else Θ|p=>match bJ st p with|some o=>Δ (.d (.int (Ig o)))|none=>(fz st p).map λxs=>.d (.int xs.length)
 |.any,[p]=>(de st p).bind λxs=>(boolsOf xs).map λbs=>.d (.bl (bs.any id))|.tuple,[p]=>(fz st p).bind λxs=>(bC xs).map λys=>.d (.tup ys)|_,_=>Θ
def qN:P->Option (List P)
 |.d (.tup xs)=>Δ (xs.map .d)|.d (.pl xs)=>Δ (xs.map .d)|_=>Θ
noncomputable def Il(lo hi:Int):List P:=(Zq (hi - lo).toNat).map λk=>.d (.int (lo+(k:Nat)))
def tF:List P->Option (List P)
 |[.d (.int j)]=>if -n6<=j/\j < n6 then Δ (Il 0 j) else Θ|[.d (.int i),.d (.int j)]=>if -n6<=i/\i < n6/\ -n6<=j/\j < n6 then Δ (Il i j) else Θ|_=>Θ
def eZ:Nat->List D->List P
 |_,[]=>[]|k,x::xs=>.d (.tup [.int k,x])::eZ (k+1) xs
def FU:P->P->Option (List D)
 |.d (.tup xs),.d (.tup ys)=>Δ ((xs.zip ys).map λp=>.tup [p.1,p.2])|_,_=>Θ
def dq(g:P->cb)(c:cb->aM->R Bool)(e:cb->aM->R P):List P->aM->R (List P)
 |[],st=>.ok [] st|p::r,st=>(c (g p) st).bind λb st1=>if b then(e (g p) st1).bind λy st2=>(dq g c e r st2).bind λys st3=>.ok (y::ys) st3 else dq g c e r st1
def yq(n:Nat)(st:aM)(i:Nat):Option (Option P):=match st[n]? with|some (.lst xs)=>Δ xs[i]?|_=>Θ
def cF(n:Nat)(g:P->cb)(c:cb->aM->R Bool)(e:cb->aM->R P):Nat->Nat->aM->R (List P)
 |0,_,_=>.no|k+1,i,st=>match yq n st i with|none=>.no|some Θ=>.ok [] st|some (Δ p)=>(c (g p) st).bind λb st1=>if b then(e (g p) st1).bind λy st2=>(cF n g c e k (i+1) st2).bind λys st3=>.ok (y::ys) st3 else cF n g c e k (i+1) st1
def jM(c:List P->aM->R P)(o:Option (List P))(st:aM):R P:=match o,st with
 |some qs,[]=>(c qs []).bind λp st2=>match p,st2 with|.d x,[]=>.ok (.d x) []|_,_=>.no
 |_,_=>.no
def bO(js:List Nat)(r:cb):cb:=js.map λj=>(r[j]?).join
def isPr:P->Bool
 |.d (.tup [_,_])=>Λ|_=>Ξ
mutual
def aa:E->cb->aM->R P
 |.var i,r,st=>R.of (lR r i) st|.cst x,_,st=>.ok (.d x) st|.op o a b,r,st=>(aa a r st).bind λx st1=>(aa b r st1).bind λy st2=>R.of (KJ o x y st2) st2|.not a,r,st=>(aa a r st).bind λx st1=>(R.of (zK st1 x) st1).bind λb st2=>.ok (.d (.bl (!b))) st2|.cmp o a b,r,st=>(aa a r st).bind λx st1=>(aa b r st1).bind λy st2=>(R.of (kr o x y st2) st2).bind λb st3=>.ok (.d (.bl b)) st3|.chain o o' a b c,r,st=>(aa a r st).bind λx st1=>(aa b r st1).bind λy st2=>(R.of (kr o x y st2) st2).bind λk st3=>if k then(aa c r st3).bind λz nE=>(R.of (kr o' y z nE) nE).bind λb CT=>.ok (.d (.bl b)) CT else .ok (.d (.bl Ξ)) st3
 |.and es,r,st=>ic es r st|.or es,r,st=>ie es r st|.tup es,r,st=>(aE es r st).bind λps st1=>if ps.length<=au then(R.of (bC ps) st1).bind λxs st2=>.ok (.d (.tup xs)) st2 else .no|.lst m l,r,st=>(be l r st).bind λps st1=>if m then .ok (.obj st1.length) (st1++[.lst ps]) else(R.of (bC ps) st1).bind λxs st2=>.ok (.d (.pl xs)) st2|.call f es,r,st=>(aE es r st).bind λps st1=>C f ps st1|.Ib a T,r,st=>(aa a r st).bind λx st1=>(R.of (KL x st1) st1).bind λt st2=>.ok (.d (.bl (fS t T))) st2|.bf f es,r,st=>(aE es r st).bind λps st1=>R.of (ur f ps st1) st1|.ix a b,r,st=>(aa a r st).bind λx st1=>(aa b r st1).bind λy st2=>R.of (CJ x y st2) st2|.qK t,r,st=>.ok (.obj st.length) (st++[if t then .dT [] else .dK []])|.nI i es,r,st=>(R.of (lR r i) st).bind λp bN=>(aE es r bN).bind λps st1=>match p with|.fn k bz=>C k (ps++bz) st1|_=>.no
 |.eR f es ls,r,st=>(aE es r st).bind λps st1=>jM (C f) (ps.mapM (conv ls r 3)) st1|.j8 i es ls,r,st=>(R.of (lR r i) st).bind λp bN=>(aE es r bN).bind λps st1=>match conv ls r 3 p with|some (.fn k bz)=>jM (C k) ((ps.mapM (conv ls r 3)).map λqs=>qs++bz) st1|_=>.no
 |.lam k,_,st=>.ok (.lf k) st|.attr c f i,r,st=>(R.of (lR r i) st).bind λx st1=>R.of ((qM c st1 x).bind λq=>q.2.lookup f) st1|.qL k c m i es,r,st=>(R.of (lR r i) st).bind λx bN=>(R.of ((qM c bN x).bind λq=>if(q.2.lookup m).isNone then Δ () else Θ) bN).bind λ_ bN=>(aE es r bN).bind λps st1=>C k (x::ps) st1|.FO a b,r,st=>(aa a r st).bind λx st1=>(R.of (bJ st1 x) st1).bind λ_ st1=>(aa b r st1).bind λy st2=>(R.of (Ij x y st2) st2).bind λq _=>.ok q.1 q.2|.u6 a b c,r,st=>(aa a r st).bind λx st1=>(R.of (bJ st1 x) st1).bind λ_ st1=>(aa b r st1).bind λy st2=>(aa c r st2).bind λz st3=>(R.of (sH x y z st3) st3).bind λq _=>.ok q.1 q.2|.FQ k x,r,st=>(aa k r st).bind λy st1=>(R.of (KN y (.d x)) st1).bind λo st2=>.ok (.obj st2.length) (st2++[o])|.FP a,r,st=>(aa a r st).bind λx st1=>(R.of (Ik x st1) st1).bind λq _=>.ok q.1 q.2|.make k c es,r,st=>(aE es r st).bind λps st1=>(C k (.obj st1.length::ps) (st1++[.ins c []])).bind λv st2=>match v with|.d .bG=>.ok (.obj st1.length) st2|_=>.no
def yr:Option E->cb->aM->R (Option P)
 |none,_,st=>.ok Θ st|some e,r,st=>(aa e r st).bind λx st1=>.ok (Δ x) st1
def aE:List E->cb->aM->R (List P)
 |[],_,st=>.ok [] st|e::es,r,st=>(aa e r st).bind λx st1=>(aE es r st1).bind λxs st2=>.ok (x::xs) st2
def ic:List E->cb->aM->R P
 |[],_,_=>.no|[e],r,st=>aa e r st|e::e'::es,r,st=>(aa e r st).bind λx st1=>match x with|.d (.bl b)=>if b then ic (e'::es) r st1 else .ok (.d (.bl Ξ)) st1|_=>.no
def ie:List E->cb->aM->R P
 |[],_,_=>.no|[e],r,st=>aa e r st|e::e'::es,r,st=>(aa e r st).bind λx st1=>match x with|.d (.bl b)=>if b then .ok (.d (.bl Λ)) st1 else ie (e'::es) r st1|_=>.no
def be:L->cb->aM->R (List P)
 |.fO es,r,st=>(aE es r st).bind λps st1=>if ps.length<=au then .ok ps st1 else .no|.comp w ts js c e,r,st=>(cK w r st).bind λps st1=>if ts=1/\ps.length<=au then dq (λp=>Δ p::bO js r) (bH c) (λr' aO=>aa e r' aO) ps st1 else .no|.iQ es,r,st=>(aE es r st).bind λps st1=>(R.of (tF ps) st1).bind λqs st2=>if qs.length<=au then .ok qs st2 else .no|.zip a b,r,st=>(aa a r st).bind λx st1=>(aa b r st1).bind λy st2=>(R.of (FU x y) st2).bind λzs st3=>.ok (zs.map .d) st3|.cF e js c ee,r,st=>(aa e r st).bind λx st1=>match x with|.obj n=>cF n (λp=>Δ p::bO js r) (bH c) (λr' aO=>aa ee r' aO) au 0 st1|_=>.no
 |.keys e,r,st=>(aa e r st).bind λx st1=>(R.of (u7 st1 x) st1).bind λq st2=>.ok (q.2.map λkv=>zM kv.1) st2
def bH:Option E->cb->aM->R Bool
 |none,_,st=>.ok Λ st|some c,r,st=>(aa c r st).bind λx st2=>R.of (zK st2 x) st2
def cK:W->cb->aM->R (List P)
 |.ex e,r,st=>(aa e r st).bind λx st1=>R.of (qN x) st1|.iQ es,r,st=>(aE es r st).bind λps st1=>R.of (tF ps) st1|.enum e,r,st=>(aa e r st).bind λx st1=>match x with|.d (.tup xs)=>.ok (eZ 0 xs) st1|_=>.no
end
noncomputable def jb:Tg->P->cb->Option cb
 |.nm i,p,r=>Δ (r.set i (Δ p))|.tup _,_,_=>Θ|.two i j,p,r=>match p with|.d (.tup [x,y])=>Δ ((r.set i (Δ (.d x))).set j (Δ (.d y)))|_=>Θ
def forL(g:P->cb->Option cb)(b:cb->aM->R Fl):List P->cb->aM->R Fl
 |[],r,st=>.ok (.nx r) st|p::ps,r,st=>(R.of (g p r) st).bind λr1 bN=>(b r1 bN).bind λf st1=>match f with|.nx r2=>forL g b ps r2 st1|.ct r2=>forL g b ps r2 st1|.bk r2=>.ok (.nx r2) st1|.rt v=>.ok (.rt v) st1
def jE(n:Nat)(g:P->cb->Option cb)(b:cb->aM->R Fl):Nat->Nat->cb->aM->R Fl
 |0,_,_,_=>.no|k+1,i,r,st=>match yq n st i with|none=>.no|some Θ=>.ok (.nx r) st|some (Δ p)=>(R.of (g p r) st).bind λr1 bN=>(b r1 bN).bind λf st1=>match f with|.nx r2=>jE n g b k (i+1) r2 st1|.ct r2=>jE n g b k (i+1) r2 st1|.bk r2=>.ok (.nx r2) st1|.rt v=>.ok (.rt v) st1
def n8(i j:Nat)(b:cb->aM->R Fl):List (Sum Int Str×P)->cb->aM->R Fl
 |[],r,st=>.ok (.nx r) st|kv::ps,r,st=>(b ((r.set i (Δ (zM kv.1))).set j (Δ kv.2)) st).bind λf st1=>match f with|.nx r2=>n8 i j b ps r2 st1|.ct r2=>n8 i j b ps r2 st1|.bk r2=>.ok (.nx r2) st1|.rt v=>.ok (.rt v) st1
def j9(n i j:Nat)(b:cb->aM->R Fl):Nat->Nat->cb->aM->R Fl
 |0,_,_,_=>.no|k+1,q,r,st=>match yq n st q with|none=>.no|some Θ=>.ok (.nx r) st|some (Δ p)=>(b ((r.set i (Δ (.d (.int q)))).set j (Δ p)) st).bind λf st1=>match f with|.nx r2=>j9 n i j b k (q+1) r2 st1|.ct r2=>j9 n i j b k (q+1) r2 st1|.bk r2=>.ok (.nx r2) st1|.rt v=>.ok (.rt v) st1
def iA(c:cb->aM->R Bool)(b:cb->aM->R Fl):Nat->cb->aM->R Fl
 |0,_,_=>.no|n+1,r,st=>(c r st).bind λk st1=>if k then(b r st1).bind λf st2=>match f with|.nx r2=>iA c b n r2 st2|.ct r2=>iA c b n r2 st2|.bk r2=>.ok (.nx r2) st2|.rt v=>.ok (.rt v) st2 else .ok (.nx r) st1
def cx(d:cb->aM->R P)(r:cb)(st:aM):R Bool:=(d r st).bind λx st1=>R.of (zK st1 x) st1
def eU:Nat:=1000000
mutual
def aV:S->cb->aM->R Fl
 |.ret e,r,st=>(aa C e r st).bind λv st1=>.ok (.rt v) st1|.FR,r,st=>.ok (.rt (.d .bG)) st|.set i e,r,st=>(aa C e r st).bind λv st1=>.ok (.nx (r.set i (Δ v))) st1|.ifs c a b,r,st=>(cx (aa C c) r st).bind λk st1=>if k then ai a r st1 else ai b r st1|.hZ t w b,r,st=>(cK C w r st).bind λps st1=>forL (jb t) (ai b) ps r st1|.mh c b,r,st=>iA (cx (aa C c)) (ai b) eU r st|.jE t e b,r,st=>(aa C e r st).bind λx st1=>match x with|.obj n=>jE n (jb t) (ai b) eU 0 r st1|_=>.no
 |.Dx i j e b,r,st=>(aa C e r st).bind λx st1=>(R.of (u7 st1 x) st1).bind λq st1=>(n8 i j (ai b) q.2 r (st1.set q.1 .xo)).bind λf st2=>.ok f (st2.set q.1 (.dK q.2))|.j9 i j e b,r,st=>(aa C e r st).bind λx st1=>match x with|.obj n=>j9 n i j (ai b) eU 0 r st1|_=>.no
 |.expr e,r,st=>(aa C e r st).bind λ_ st1=>.ok (.nx r) st1|.nh i k,r,st=>.ok (.nx (r.set i (Δ (.lf k)))) st|.nj c f i e,r,st=>(aa C e r st).bind λv st1=>(R.of (lR r i) st1).bind λx st2=>(R.of ((qM c st2 x).bind λq=>if q.2.length < 1000 then Δ (st2.set q.1 (.ins c (xq f v q.2))) else Θ) st2).bind λst3 _=>.ok (.nx r) st3|.app a e,r,st=>(aa C a r st).bind λx st1=>(R.of (de st1 x) st1).bind λ_ st1=>(aa C e r st1).bind λv st2=>(R.of (zL x v st2) st2).bind λst3 _=>.ok (.nx r) st3|.put a i e,r,st=>(aa C e r st).bind λv st1=>(aa C a r st1).bind λx st2=>(aa C i r st2).bind λk st3=>(R.of (pI x k v st3) st3).bind λnE _=>.ok (.nx r) nE
def ai:List S->cb->aM->R Fl
 |[],r,st=>.ok (.nx r) st|s::rest,r,st=>(aV s r st).bind λf st1=>match f with|.nx r1=>ai rest r1 st1|.bk r1=>.ok (.bk r1) st1|.ct r1=>.ok (.ct r1) st1|.rt v=>.ok (.rt v) st1
end
variable{C}
theorem mT{i}:aa C (.var i) r st=R.of (lR r i) st:=rfl
@[simp]theorem fF{x}:aa C (.cst x) r st=.ok (.d x) st:=rfl
theorem mi{o a b}:aa C (.op o a b) r st=(aa C a r st).bind λx st1=>(aa C b r st1).bind λy st2=>R.of (KJ o x y st2) st2:=rfl
theorem yt{a}:aa C (.not a) r st=(aa C a r st).bind λx st1=>(R.of (zK st1 x) st1).bind λb st2=>.ok (.d (.bl (!b))) st2:=rfl
theorem bV{o a b}:aa C (.cmp o a b) r st=(aa C a r st).bind λx st1=>(aa C b r st1).bind λy st2=>(R.of (kr o x y st2) st2).bind λb st3=>.ok (.d (.bl b)) st3:=rfl
theorem sI{o o' a b c}:aa C (.chain o o' a b c) r st=(aa C a r st).bind λx st1=>(aa C b r st1).bind λy st2=>(R.of (kr o x y st2) st2).bind λk st3=>if k then(aa C c r st3).bind λz nE=>(R.of (kr o' y z nE) nE).bind λb CT=>.ok (.d (.bl b)) CT else .ok (.d (.bl Ξ)) st3:=rfl
@[simp]theorem FV{es}:aa C (.and es) r st=ic C es r st:=rfl
@[simp]theorem u9{es}:aa C (.or es) r st=ie C es r st:=rfl
theorem yu{es}:aa C (.tup es) r st=(aE C es r st).bind λps st1=>if ps.length<=au then(R.of (bC ps) st1).bind λxs st2=>.ok (.d (.tup xs)) st2 else .no:=rfl
theorem FW{m l}:aa C (.lst m l) r st=(be C l r st).bind λps st1=>if m then .ok (.obj st1.length) (st1++[.lst ps]) else(R.of (bC ps) st1).bind λxs st2=>.ok (.d (.pl xs)) st2:=rfl
theorem jh{f es}:aa C (.call f es) r st=(aE C es r st).bind λps st1=>C f ps st1:=rfl
theorem FX{a T}:aa C (.Ib a T) r st=(aa C a r st).bind λx st1=>(R.of (KL x st1) st1).bind λt st2=>.ok (.d (.bl (fS t T))) st2:=rfl
theorem cL{f es}:aa C (.bf f es) r st=(aE C es r st).bind λps st1=>R.of (ur f ps st1) st1:=rfl
theorem bA{a b}:aa C (.ix a b) r st=(aa C a r st).bind λx st1=>(aa C b r st1).bind λy st2=>R.of (CJ x y st2) st2:=rfl
@[simp]theorem ji{t}:aa C (.qK t) r st=.ok (.obj st.length) (st++[if t then .dT [] else .dK []]):=rfl
theorem Bj{i es}:aa C (.nI i es) r st=(R.of (lR r i) st).bind λp bN=>(aE C es r bN).bind λps st1=>match p with|.fn k bz=>C k (ps++bz) st1|_=>.no:=rfl
theorem fG{f es ls}:aa C (.eR f es ls) r st=(aE C es r st).bind λps st1=>jM (C f) (ps.mapM (conv ls r 3)) st1:=rfl
@[simp]theorem qO{k}:aa C (.lam k) r st=.ok (.lf k) st:=rfl
theorem Dy{c f i}:aa C (.attr c f i) r st=(R.of (lR r i) st).bind λx st1=>R.of ((qM c st1 x).bind λq=>q.2.lookup f) st1:=rfl
theorem Dz{k c m i es}:aa C (.qL k c m i es) r st=(R.of (lR r i) st).bind λx bN=>(R.of ((qM c bN x).bind λq=>if(q.2.lookup m).isNone then Δ () else Θ) bN).bind λ_ bN=>(aE C es r bN).bind λps st1=>C k (x::ps) st1:=rfl
theorem vc{a b}:aa C (.FO a b) r st=(aa C a r st).bind λx st1=>(R.of (bJ st1 x) st1).bind λ_ st1=>(aa C b r st1).bind λy st2=>(R.of (Ij x y st2) st2).bind λq _=>.ok q.1 q.2:=rfl
theorem mj{a b c}:aa C (.u6 a b c) r st=(aa C a r st).bind λx st1=>(R.of (bJ st1 x) st1).bind λ_ st1=>(aa C b r st1).bind λy st2=>(aa C c r st2).bind λz st3=>(R.of (sH x y z st3) st3).bind λq _=>.ok q.1 q.2:=rfl
theorem vd{k x}:aa C (.FQ k x) r st=(aa C k r st).bind λy st1=>(R.of (KN y (.d x)) st1).bind λo st2=>.ok (.obj st2.length) (st2++[o]):=rfl
theorem ve{a}:aa C (.FP a) r st=(aa C a r st).bind λx st1=>(R.of (Ik x st1) st1).bind λq _=>.ok q.1 q.2:=rfl
theorem vf{k c es}:aa C (.make k c es) r st=(aE C es r st).bind λps st1=>(C k (.obj st1.length::ps) (st1++[.ins c []])).bind λv st2=>match v with|.d .bG=>.ok (.obj st1.length) st2|_=>.no:=rfl
@[simp]theorem vg:yr C Θ r st=.ok Θ st:=rfl
theorem DA{e}:yr C (Δ e) r st=(aa C e r st).bind λx st1=>.ok (Δ x) st1:=rfl
@[simp]theorem aF:aE C [] r st=.ok [] st:=rfl
theorem aw{e es}:aE C (e::es) r st=(aa C e r st).bind λx st1=>(aE C es r st1).bind λxs st2=>.ok (x::xs) st2:=rfl
@[simp]theorem FY{e}:ic C [e] r st=aa C e r st:=rfl
theorem yv{e e' es}:ic C (e::e'::es) r st=(aa C e r st).bind λx st1=>match x with|.d (.bl b)=>if b then ic C (e'::es) r st1 else .ok (.d (.bl Ξ)) st1|_=>.no:=rfl
@[simp]theorem FZ{e}:ie C [e] r st=aa C e r st:=rfl
theorem mU{e e' es}:ie C (e::e'::es) r st=(aa C e r st).bind λx st1=>match x with|.d (.bl b)=>if b then .ok (.d (.bl Λ)) st1 else ie C (e'::es) r st1|_=>.no:=rfl
theorem jj{es}:be C (.fO es) r st=(aE C es r st).bind λps st1=>if ps.length<=au then .ok ps st1 else .no:=rfl
theorem k7{w ts js c e}:be C (.comp w ts js c e) r st=(cK C w r st).bind λps st1=>if ts=1/\ps.length<=au then dq (λp=>Δ p::bO js r) (bH C c) (λr' aO=>aa C e r' aO) ps st1 else .no:=rfl
theorem yw{es}:be C (.iQ es) r st=(aE C es r st).bind λps st1=>(R.of (tF ps) st1).bind λqs st2=>if qs.length<=au then .ok qs st2 else .no:=rfl
theorem qP{a b}:be C (.zip a b) r st=(aa C a r st).bind λx st1=>(aa C b r st1).bind λy st2=>(R.of (FU x y) st2).bind λzs st3=>.ok (zs.map .d) st3:=rfl
theorem sJ{e js c ee}:be C (.cF e js c ee) r st=(aa C e r st).bind λx st1=>match x with|.obj n=>cF n (λp=>Δ p::bO js r) (bH C c) (λr' aO=>aa C ee r' aO) au 0 st1|_=>.no:=rfl
theorem vh{e}:be C (.keys e) r st=(aa C e r st).bind λx st1=>(R.of (u7 st1 x) st1).bind λq st2=>.ok (q.2.map λkv=>zM kv.1) st2:=rfl
@[simp]theorem n9:bH C Θ r st=.ok Λ st:=rfl
theorem vi{c}:bH C (Δ c) r st=(aa C c r st).bind λx st2=>R.of (zK st2 x) st2:=rfl
theorem Bk{e}:cK C (.ex e) r st=(aa C e r st).bind λx st1=>R.of (qN x) st1:=rfl
theorem yx{es}:cK C (.iQ es) r st=(aE C es r st).bind λps st1=>R.of (tF ps) st1:=rfl
theorem DB{e}:cK C (.enum e) r st=(aa C e r st).bind λx st1=>match x with|.d (.tup xs)=>.ok (eZ 0 xs) st1|_=>.no:=rfl
theorem qQ{e}:aV C (.ret e) r st=(aa C e r st).bind λv st1=>.ok (.rt v) st1:=rfl
theorem vk:aV C .FR r st=.ok (.rt (.d .bG)) st:=rfl
theorem qR{i e}:aV C (.set i e) r st=(aa C e r st).bind λv st1=>.ok (.nx (r.set i (Δ v))) st1:=rfl
theorem qS{c a b}:aV C (.ifs c a b) r st=(cx (aa C c) r st).bind λk st1=>if k then ai C a r st1 else ai C b r st1:=rfl
theorem vm{t w b}:aV C (.hZ t w b) r st=(cK C w r st).bind λps st1=>forL (jb t) (ai C b) ps r st1:=rfl
theorem pJ{c b}:aV C (.mh c b) r st=iA (cx (aa C c)) (ai C b) eU r st:=rfl
theorem vn{t e b}:aV C (.jE t e b) r st=(aa C e r st).bind λx st1=>match x with|.obj n=>jE n (jb t) (ai C b) eU 0 r st1|_=>.no:=rfl
theorem vo{i j e b}:aV C (.Dx i j e b) r st=(aa C e r st).bind λx st1=>(R.of (u7 st1 x) st1).bind λq st1=>(n8 i j (ai C b) q.2 r (st1.set q.1 .xo)).bind λf st2=>.ok f (st2.set q.1 (.dK q.2)):=rfl
theorem vp{i j e b}:aV C (.j9 i j e b) r st=(aa C e r st).bind λx st1=>match x with|.obj n=>j9 n i j (ai C b) eU 0 r st1|_=>.no:=rfl
theorem vq{e}:aV C (.expr e) r st=(aa C e r st).bind λ_ st1=>.ok (.nx r) st1:=rfl
theorem vt{i k}:aV C (.nh i k) r st=.ok (.nx (r.set i (Δ (.lf k)))) st:=rfl
theorem vz{c f i e}:aV C (.nj c f i e) r st=(aa C e r st).bind λv st1=>(R.of (lR r i) st1).bind λx st2=>(R.of ((qM c st2 x).bind λq=>if q.2.length < 1000 then Δ (st2.set q.1 (.ins c (xq f v q.2))) else Θ) st2).bind λst3 _=>.ok (.nx r) st3:=rfl
theorem yy{a e}:aV C (.app a e) r st=(aa C a r st).bind λx st1=>(R.of (de st1 x) st1).bind λ_ st1=>(aa C e r st1).bind λv st2=>(R.of (zL x v st2) st2).bind λst3 _=>.ok (.nx r) st3:=rfl
theorem yz{a i e}:aV C (.put a i e) r st=(aa C e r st).bind λv st1=>(aa C a r st1).bind λx st2=>(aa C i r st2).bind λk st3=>(R.of (pI x k v st3) st3).bind λnE _=>.ok (.nx r) nE:=rfl
theorem vA:ai C [] r st=.ok (.nx r) st:=rfl
theorem jN{s rest}:ai C (s::rest) r st=(aV C s r st).bind λf st1=>match f with|.nx r1=>ai C rest r1 st1|.bk r1=>.ok (.bk r1) st1|.ct r1=>.ok (.ct r1) st1|.rt v=>.ok (.rt v) st1:=rfl
end
theorem Im:forL g b [] r st=.ok (.nx r) st:=rfl
theorem qT:forL g b (p::ps) r st=(R.of (g p r) st).bind λr1 bN=>(b r1 bN).bind λf st1=>match f with|.nx r2=>forL g b ps r2 st1|.ct r2=>forL g b ps r2 st1|.bk r2=>.ok (.nx r2) st1|.rt v=>.ok (.rt v) st1:=rfl
theorem qU:jE n g b (k+1) i r st=match yq n st i with|none=>.no|some Θ=>.ok (.nx r) st|some (Δ p)=>(R.of (g p r) st).bind λr1 bN=>(b r1 bN).bind λf st1=>match f with|.nx r2=>jE n g b k (i+1) r2 st1|.ct r2=>jE n g b k (i+1) r2 st1|.bk r2=>.ok (.nx r2) st1|.rt v=>.ok (.rt v) st1:=rfl
theorem qV:j9 n i j b (k+1) q r st=match yq n st q with|none=>.no|some Θ=>.ok (.nx r) st|some (Δ p)=>(b ((r.set i (Δ (.d (.int q)))).set j (Δ p)) st).bind λf st1=>match f with|.nx r2=>j9 n i j b k (q+1) r2 st1|.ct r2=>j9 n i j b k (q+1) r2 st1|.bk r2=>.ok (.nx r2) st1|.rt v=>.ok (.rt v) st1:=rfl
theorem Io:n8 i j b [] r st=.ok (.nx r) st:=rfl
theorem yA:n8 i j b (kv::ps) r st=(b ((r.set i (Δ (zM kv.1))).set j (Δ kv.2)) st).bind λf st1=>match f with|.nx r2=>n8 i j b ps r2 st1|.ct r2=>n8 i j b ps r2 st1|.bk r2=>.ok (.nx r2) st1|.rt v=>.ok (.rt v) st1:=rfl
theorem mn:iA c b (n+1) r st=(c r st).bind λk st1=>if k then(b r st1).bind λf st2=>match f with|.nx r2=>iA c b n r2 st2|.ct r2=>iA c b n r2 st2|.bk r2=>.ok (.nx r2) st2|.rt v=>.ok (.rt v) st2 else .ok (.nx r) st1:=rfl
theorem yB:dq g c e [] st=.ok [] st:=rfl
theorem jk:dq g c e (p::r) st=(c (g p) st).bind λb st1=>if b then(e (g p) st1).bind λy st2=>(dq g c e r st2).bind λys st3=>.ok (y::ys) st3 else dq g c e r st1:=rfl
theorem oa:cF n g c e (k+1) i st=match yq n st i with|none=>.no|some Θ=>.ok [] st|some (Δ p)=>(c (g p) st).bind λb st1=>if b then(e (g p) st1).bind λy st2=>(cF n g c e k (i+1) st2).bind λys st3=>.ok (y::ys) st3 else cF n g c e k (i+1) st1:=rfl
structure Fn where
 np:Nat
 nn:Nat
 body:List S
 sh:Bool:=Ξ
mutual
def pK:D->Bool
 |.pl _=>Ξ|.tup xs=>Er xs|_=>Λ
def Er:List D->Bool
 |[]=>Λ|x::xs=>pK x&&Er xs
end
def isObj:P->Bool
 |.obj _=>Λ|_=>Ξ
def outF(r:R Fl):Option D:=match r with|.ok (.rt p) st=>kY st p|.ok (.nx _) _=>Δ .bG|_=>Θ
noncomputable def aA(nn:Nat)(ps:List P):cb:=ps.map Δ++aaS (nn - ps.length) Θ
def xt(C:Nat->List P->aM->R P)(F:Fn)(ps:List P):Option D:=if ps.length=F.np then outF (ai C F.body (aA F.nn ps) []) else Θ
def vB(ps:List P)(d:D)(st:aM):R P:=if ps.any isObj&&!pK d then .no else .ok (.d d) st
noncomputable def KO(r:R Fl):R P:=match r with|.ok (.rt p) st=>.ok p st|.ok (.nx _) st=>.ok (.d .bG) st|_=>.no
def yC(Fs:List Fn):Nat->Nat->List P->aM->R P
 |0,_,_,_=>.no|n+1,f,ps,st=>match Fs[f]? with|none=>.no|some F=>if F.sh then(if ps.length=F.np then KO (ai (yC Fs n) F.body (aA F.nn ps) st) else .no) else match iI st ps with|none=>.no|some qs=>match xt (yC Fs n) F qs with|none=>.no|some d=>vB ps d st
theorem Ip:∃f:List Fn->Nat->Nat->List P->aM->R P,f=yC:=⟨yC,rfl⟩
noncomputable def callC:List Fn->Nat->Nat->List P->aM->R P:=aeb Ip
theorem Bl:callC=yC:=adj Ip
theorem vC Fs f ps st:callC Fs 0 f ps st=.no:=by rw[Bl];rfl
theorem jm(Fs:List Fn)(n f:Nat)(ps:List P)(st:aM):callC Fs (n+1) f ps st=match Fs[f]? with|none=>.no|some F=>if F.sh then(if ps.length=F.np then KO (ai (callC Fs n) F.body (aA F.nn ps) st) else .no) else match iI st ps with|none=>.no|some qs=>match xt (callC Fs n) F qs with|none=>.no|some d=>vB ps d st:=by rw[Bl,yC]
end Y
namespace Y
open PySem L2
structure KB where
 K:ZE
 B:Heap
 tabs:List (Addr×List (Pos×Str))
 sL:Nat->Addr->Addr->List V->Prop
 JQ:Nat->Addr->Addr->Value->Heap->Prop
 Bm:Nat->Str
structure KT where
 tabs:List (Addr×List (Pos×Str)):=[]
 sL:Nat->Addr->Addr->List V->Prop:=λ_ _ _ _=>False
 JQ:Nat->Addr->Addr->Value->Heap->Prop:=λ_ _ _ _ _=>False
 Bm:Nat->Str:=λ_=>""
abbrev af(X:Cx)(t:KT):KB:=⟨X.K,X.base,t.tabs,t.sL,t.JQ,t.Bm⟩
mutual
def aI(K:KB)(H:Hp)(m Z:List Addr):D->V->Prop
 |.bG,v=>v=.bG|.bl b,v=>v=.bl b|.int i,v=>v=.int i|.str x,v=>v=.str x|.tup xs,v=>∃a us,v=.ref a/\H a=Δ (.tup us)/\aq K H m Z xs us|.pl xs,v=>∃a us,v=.ref a/\Rd H a (.lst us)/\a∉m/\a∉Z/\aq K H m Z xs us
def aq(K:KB)(H:Hp)(m Z:List Addr):List D->List V->Prop
 |[],us=>us=[]|x::xs,us=>∃v vs,us=v::vs/\aI K H m Z x v/\aq K H m Z xs vs
end
noncomputable def OA(K:ZE)(H:Hp)(a:Addr)(us:List V):Prop:=(∃o,H a=Δ (.dM o (.lst us)))\/
 ∃(o:Obj) (its:Array Value) (n:Nat),K.lookup a=Δ o/\o.cls=.type "list"/\o.dict=Θ/\o.data=.seq its n/\its.size<=Z3/\aY us its.toList
theorem OA.sq(h:OA K H a us):nz K H a us:=by
 rcases h with h|h;·exact .inl (.inr h)
 ·exact .inr h
mutual
def ak(K:KB)(H:Hp)(m Z:List Addr):P->V->Prop
 |.d x,v=>aI K H m Z x v|.obj n,v=>∃a,m[n]?=Δ a/\v=.ref a|.jg ns,v=>∃a,v=.ref a/\OA K.K H a (ns.map V.int)|.fn k bz,v=>∃a c b9,v=.ref a/\K.sL k a c b9/\H c=Δ (.ext (dO c (K.Bm k)))/\aj K H m Z bz b9|.lf k,v=>∃a c ct,v=.ref a/\H a=Δ (.ext (K.JQ k a c ct))/\H c=Δ (.ext (dO c (K.Bm k)))
def aj(K:KB)(H:Hp)(m Z:List Addr):List P->List V->Prop
 |[],us=>us=[]|x::xs,us=>∃v vs,us=v::vs/\ak K H m Z x v/\aj K H m Z xs vs
end
def aS{κ:Type}(K:KB)(H:Hp)(m Z:List Addr):List (κ×P)->List (κ×V)->Prop
 |[],us=>us=[]|x::xs,us=>∃v vs,us=(x.1,v)::vs/\ak K H m Z x.2 v/\aS K H m Z xs vs
def tG(K:KB)(H:Hp)(m Z:List Addr)(a:Addr):O->Prop
 |.lst ps=>∃us,H a=Δ (.lst us)/\aj K H m Z ps us|.dK kvs=>∃us,H a=Δ (.dK us)/\aS K H m Z kvs us|.dT kvs=>∃us,H a=Δ (.dT us)/\aS K H m Z kvs us|.ins c fs=>∃C dx us,ZU K.K ZL c=Δ (Δ (.ref C))/\H a=Δ (.ins C dx us)/\H dx=Δ (.own a)/\aS K H m Z fs us|.xo=>∃o us,H a=Δ (.dM o (.dK us))
theorem aj.mono(f:∀p v,ak K H m Z p v->ak K H' m' Z' p v):∀{xs} {us},aj K H m Z xs us->aj K H' m' Z' xs us
 |[],_,h=>h|x::xs,us,h=>by rw[aj] at h ⊢;revert h;refine ah λv vs e r rs=>?_;exact⟨v,vs,e,f _ _ r,aj.mono f rs⟩
theorem aS.mono{κ:Type}{H H':Hp}{m m' Z Z':List Addr}(f:∀p v,ak K H m Z p v->ak K H' m' Z' p v):∀{xs:List (κ×P)} {us:List (κ×V)},aS K H m Z xs us->aS K H' m' Z' xs us
 |[],_,h=>h|x::xs,us,h=>by refine ah (λv vs e r rs=>?_) ((show ∃v vs,us=(x.1,v)::vs/\ak K H m Z x.2 v/\aS K H m Z xs vs from h));exact⟨v,vs,e,f _ _ r,aS.mono f rs⟩
theorem tG.mono(he:∀b u,(b=a\/H b=Δ (.own a))->H b=Δ u->H' b=Δ u)(f:∀p v,ak K H m Z p v->ak K H' m' Z' p v)(h:tG K H m Z a o):tG K H' m' Z' a o:=by cases o with|lst ps=>obtain⟨us,e,r⟩:=h;exact⟨us,he _ _ (.inl rfl) e,r.mono f⟩|dK ps=>obtain⟨us,e,r⟩:=h;exact⟨us,he _ _ (.inl rfl) e,r.mono f⟩|dT ps=>obtain⟨us,e,r⟩:=h;exact⟨us,he _ _ (.inl rfl) e,r.mono f⟩|ins c fs=>obtain⟨C,dx,us,n,e,e2,r⟩:=h;exact⟨C,dx,us,n,he _ _ (.inl rfl) e,he _ _ (.inr e2) e2,r.mono f⟩|xo=>obtain⟨o,us,e⟩:=h;exact⟨o,us,he _ _ (.inl rfl) e⟩
theorem tG.sY(h:tG K H m Z a o):H a≠Θ/\(∀us,H a≠Δ (.tup us))/\(o≠.xo->∀o' u,H a≠Δ (.dM o' u))/\(∀φ,H a≠Δ (.ext φ))/\(∀ps,H a≠Δ (.gv ps))/\∀b,H a≠Δ (.own b):=by cases o with|lst ps=>obtain⟨us,e,r⟩:=h;rw[e];exact⟨(λz=>nomatch z),(λ_ z=>nomatch z),(λ_ _ _ z=>nomatch z),(λ_ z=>nomatch z),(λ_ z=>nomatch z),(λ_ z=>nomatch z)⟩|dK ps=>obtain⟨us,e,r⟩:=h;rw[e];exact⟨(λz=>nomatch z),(λ_ z=>nomatch z),(λ_ _ _ z=>nomatch z),(λ_ z=>nomatch z),(λ_ z=>nomatch z),(λ_ z=>nomatch z)⟩|dT ps=>obtain⟨us,e,r⟩:=h;rw[e];exact⟨(λz=>nomatch z),(λ_ z=>nomatch z),(λ_ _ _ z=>nomatch z),(λ_ z=>nomatch z),(λ_ z=>nomatch z),(λ_ z=>nomatch z)⟩|ins c fs=>obtain⟨C,dx,us,n,e,e2,r⟩:=h;rw[e];exact⟨(λz=>nomatch z),(λ_ z=>nomatch z),(λ_ _ _ z=>nomatch z),(λ_ z=>nomatch z),(λ_ z=>nomatch z),(λ_ z=>nomatch z)⟩|xo=>obtain⟨o,us,e⟩:=h;rw[e];exact⟨(λz=>nomatch z),(λ_ z=>nomatch z),(λz=>absurd rfl z),(λ_ z=>nomatch z),(λ_ z=>nomatch z),(λ_ z=>nomatch z)⟩
structure aC(K:KB)(H:Hp)(m Z:List Addr)(st:aM):Prop where
 len:m.length=st.length
 nd:m.Nodup
 at_:∀(n:Nat) (o:O),st[n]?=Δ o->∃a,m[n]?=Δ a/\tG K H m Z a o
 zt:∀a∈Z,iw H a≠Θ
 zm:∀a∈Z,a∉m
 tab:∀t∈K.tabs,∃ps,H t.1=Δ (.gv ps)/\gH H t.2 ps
structure cI(K:KB)(H:Hp)(m Z:List Addr)(r:cb)(σ:St):Prop where
 len:r.length=σ.length
 at_:∀(i:Nat) (p:P),r[i]?=Δ (Δ p)->∃v,σ[i]?=Δ (Δ v)/\ak K H m Z p v
structure Le(K:KB)(m:List Addr)(H:Hp)(m':List Addr)(H':Hp):Prop where
 pre:∃t,m'=m++t
 tup:∀a xs,H a=Δ (.tup xs)->H' a=Δ (.tup xs)
 keep:∀a u,H a=Δ u->a∉m->(∀ps,u≠.gv ps)->H' a=Δ u
 new:∀a∈m',a∈m\/H a=Θ
 sY:∀a,H a≠Θ->H' a≠Θ
 Es:∀a,iw H a≠Θ->iw H' a≠Θ
 dM:∀a o u,H a=Δ (.dM o u)->H' a=Δ (.dM o u)
 ext:∀a φ,H a=Δ (.ext φ)->H' a=Δ (.ext φ)
 gv:∀a ps,H a=Δ (.gv ps)->∃more,H' a=Δ (.gv (ps++more))
section
variable{K:KB}{H H' H1 H2:Hp}{m m' m1 m2 Z:List Addr}{α β:Type}
theorem Iq(h:Rd H a u):H a≠Θ:=by rcases h with h|⟨o,h⟩<;>(rw[h];exact λz=>nomatch z)
theorem Le.refl:Le K m H m H:=⟨⟨[],by simp⟩,λ_ _ h=>h,λ_ _ h _ _=>h,λ_ h=>.inl h,λ_ h=>h,λ_ h=>h,λ_ _ _ h=>h,λ_ _ h=>h,λ_ ps h=>⟨#[],by rw[h];simp⟩⟩
theorem Le.trans(a:Le K m H m1 H1)(b:Le K m1 H1 m2 H2):Le K m H m2 H2 where
 pre:=by obtain⟨t,e⟩:=a.pre;obtain⟨u,e'⟩:=b.pre;exact⟨t++u,by rw[e',e,aas]⟩
 tup:=λc xs h=>b.tup c xs (a.tup c xs h)
 keep:=λc u h hc hu=>b.keep c u (a.keep c u h hc hu) (λz=>by
  rcases a.new c z with q|q;·exact hc q
  ·rw[h] at q;exact GU q) hu
 new:=λc hc=>by
  rcases b.new c hc with q|q;·exact a.new c q
  ·cases e:H c with|none=>exact .inr rfl|some o=>exact absurd q (a.sY c (by rw[e];exact λz=>nomatch z))
 sY:=λc h=>b.sY c (a.sY c h)
 Es:=λc h=>b.Es c (a.Es c h)
 dM:=λc o u h=>b.dM c o u (a.dM c o u h)
 ext:=λc φ h=>b.ext c φ (a.ext c φ h)
 gv:=λc ps h=>by obtain⟨m1,e1⟩:=a.gv c ps h;obtain⟨m2,e2⟩:=b.gv c _ e1;exact⟨m1++m2,by rw[e2,Array.append_assoc]⟩
theorem KP(e:lQ H H')(h:H a≠Θ):H' a≠Θ:=by cases q:H a with|none=>exact absurd q h|some o=>rw[e _ _ q];exact λz=>nomatch z
theorem vD(e:lQ H H')(h:iw H a≠Θ):iw H' a≠Θ:=by cases q:iw H a with|none=>exact absurd q h|some o=>obtain⟨h1,h2⟩:=me q;have h3:=e _ _ h1;cases o with|ext φ=>have:∃q,φ=dO a q:=Z5 λz=>h2 φ rfl λq' e'=>z ⟨q',e'⟩;obtain⟨q',rfl⟩:=this;rw[hW h3];exact λz=>nomatch z|_=>rw[bx h3 (λ_ z=>nomatch z)];exact λz=>nomatch z
theorem Le.same(e:lQ H H'):Le K m H m H':=⟨⟨[],by simp⟩,λ_ _ h=>e _ _ h,λ_ _ h _ _=>e _ _ h,λ_ h=>.inl h,λ_ h=>KP e h,λ_ h=>vD e h,λ_ _ _ h=>e _ _ h,λ_ _ h=>e _ _ h,λ_ ps h=>⟨#[],by rw[e _ _ h];simp⟩⟩
theorem Le.rd(le:Le K m H m' H')(h:Rd H a (.lst us))(hm:a∉m):Rd H' a (.lst us):=by
 rcases h with h|⟨o,h⟩;·exact .inl (le.keep _ _ h hm (λ_ z=>nomatch z))
 ·exact .inr ⟨o,le.keep _ _ h hm (λ_ z=>nomatch z)⟩
mutual
theorem aI.le(le:Le K m H m' H'):∀{x:D} {v:V},aI K H m Z x v->aI K H' m' Z x v
 |.bG,_,h=>h|.bl _,_,h=>h|.int _,_,h=>h|.str _,_,h=>h|.tup xs,v,h=>by refine ah (λa us e q r=>?_) ((show ∃a us,v=.ref a/\H a=Δ (.tup us)/\aq K H m Z xs us from h));exact⟨a,us,e,le.tup _ _ q,aq.le le r⟩
 |.pl xs,v,h=>by
  refine bq (λa us e q hm hz r=>?_) ((show ∃a us,v=.ref a/\Rd H a (.lst us)/\a∉m/\a∉Z/\aq K H m Z xs us from h));refine⟨a,us,e,le.rd q hm,λz=>?_,hz,aq.le le r⟩;rcases le.new a z with y|y;·exact hm y
  ·exact Iq q y
theorem aq.le(le:Le K m H m' H'):∀{xs:List D} {us:List V},aq K H m Z xs us->aq K H' m' Z xs us
 |[],_,h=>h|x::xs,us,h=>by refine ah (λv vs e r rs=>?_) ((show ∃v vs,us=v::vs/\aI K H m Z x v/\aq K H m Z xs vs from h));exact⟨v,vs,e,aI.le le r,aq.le le rs⟩
end
mutual
theorem ak.le(le:Le K m H m' H'):∀{x:P} {v:V},ak K H m Z x v->ak K H' m' Z x v
 |.d _,_,h=>by rw[ak] at h ⊢;exact aI.le le h|.obj n,v,h=>by rw[ak] at h ⊢;obtain⟨a,e,r⟩:=h;obtain⟨t,q⟩:=le.pre;refine⟨a,?_,r⟩;rw[q,Zy (List.getElem?_eq_some_iff.mp e).1];exact e
 |.jg ns,v,h=>by
  rw[ak] at h ⊢;obtain⟨a,e,r⟩:=h;refine⟨a,e,?_⟩;rcases r with ⟨o,r⟩|r
  ·exact .inl ⟨o,le.dM _ _ _ r⟩
  ·exact .inr r
 |.fn k bz,v,h=>by rw[ak] at h ⊢;revert h;refine br λa c b9 e q hc r=>?_;exact⟨a,c,b9,e,q,le.ext _ _ hc,aj.le le r⟩|.lf k,v,h=>by rw[ak] at h ⊢;revert h;refine cD λa c ct e q r=>?_;exact⟨a,c,ct,e,le.ext _ _ q,le.ext _ _ r⟩
theorem aj.le(le:Le K m H m' H'):∀{xs:List P} {us:List V},aj K H m Z xs us->aj K H' m' Z xs us
 |[],_,h=>h|x::xs,us,h=>by refine ah (λv vs e r rs=>?_) ((show ∃v vs,us=v::vs/\ak K H m Z x v/\aj K H m Z xs vs by rw[aj] at h;exact h));rw[aj];exact⟨v,vs,e,ak.le le r,aj.le le rs⟩
end
theorem cI.le(A:cI K H m Z r σ)(le:Le K m H m' H'):cI K H' m' Z r σ:=⟨A.len,λi p h=>by obtain⟨v,e,q⟩:=A.at_ i p h;exact⟨v,e,q.le le⟩⟩
theorem gH.same(e:∀a φ,H a=Δ (.ext φ)->H' a=Δ (.ext φ))(h:gH H b7 ps):gH H' b7 ps:=
 ⟨h.1,λp hp cv CH=>by obtain⟨c,e1,e2⟩:=h.2 p hp cv CH;exact⟨c,e1,e _ _ e2⟩⟩
theorem aC.same(A:aC K H m Z st)(e:lQ H H'):aC K H' m Z st:=by
 refine⟨A.len,A.nd,λn o h=>?_,λa h=>vD e (A.zt a h),A.zm,λt ht=>?_⟩;·obtain⟨a,q,r⟩:=A.at_ n o h;exact⟨a,q,r.mono (λb u _ hu=>e _ _ hu) λp v z=>z.le (Le.same e)⟩
 ·obtain⟨ps,h1,h2⟩:=A.tab t ht;exact⟨ps,e _ _ h1,gH.same (λa φ z=>e _ _ z) h2⟩
noncomputable def Ok(K:KB)(Z:List Addr)(r:R α)(m:List Addr)(H:Hp)(Q:α->aM->List Addr->Hp->Prop):Prop:=match r with|.ok a aO=>∀m' H',Le K m H m' H'->aC K H' m' Z aO->Q a aO m' H'|_=>False
theorem Ok.le(h:Ok K Z r m H Q)(le:Le K m H m' H'):Ok K Z r m' H' Q:=by cases r with|ok a aO=>exact λm2 H2 l2 a2=>h m2 H2 (le.trans l2) a2|ex x aO=>exact h|no=>exact h
theorem Ok.bind(h:Ok K Z (r.bind k) m H Q):Ok K Z r m H (λa aO m' H'=>Ok K Z (k a aO) m' H' Q):=by cases r with|ok a aO=>exact λm' H' le _=>Ok.le (r:=k a aO) h le|ex x aO=>exact h|no=>exact h
theorem Ok.pE{r:R α}{Q:β->aM->List Addr->Hp->Prop}(hk:∀a st,k a st=.no)(h:Ok K Z (r.bind k) m H Q):False:=by cases r with|ok a aO=>rw[ae,hk] at h;exact h|ex x aO=>exact h|no=>exact h
theorem Ok.mono(h:Ok K Z r m H Q)(f:∀a aO m' H',Le K m H m' H'->aC K H' m' Z aO->Q a aO m' H'->Q' a aO m' H'):Ok K Z r m H Q':=by cases r with|ok a aO=>exact λm' H' le as=>f a aO m' H' le as (h m' H' le as)|ex x aO=>exact h|no=>exact h
theorem Ok.yD(h:Ok K Z r m H Q)(f:∀a aO m' H',r=.ok a aO->Le K m H m' H'->aC K H' m' Z aO->Q a aO m' H'->Q' a aO m' H'):Ok K Z r m H Q':=by cases r with|ok a aO=>exact λm' H' le as=>f a aO m' H' rfl le as (h m' H' le as)|ex x aO=>exact h|no=>exact h
theorem Ok.of(h:Ok K Z (R.of o st) m H Q)(as:aC K H m Z st):∃a,o=Δ a/\Q a st m H/\∀m' H',Le K m H m' H'->aC K H' m' Z st->Q a st m' H':=by cases o with|none=>exact(show False from h).elim|some a=>exact⟨a,rfl,h m H Le.refl as,h⟩
theorem Ok.here(h:Ok K Z (R.ok a st) m H Q)(as:aC K H m Z st):Q a st m H:=h m H Le.refl as
inductive tE (K:KB) (Z:List Addr) (d:cb->aM->R P) (σ:St) (H:Hp) (Q:VK):Prop
 |mk (m:List Addr) (r:cb) (st:aM) (a:cI K H m Z r σ) (b:aC K H m Z st) (c:Ok K Z (d r st) m H (λp _ m' H'=>∀v,ak K H' m' Z p v->Q v H')):tE K Z d σ H Q
inductive tT (K:KB) (Z:List Addr) (d:cb->aM->R Bool) (σ:St) (H:Hp) (Q:Bool->Hp->Prop):Prop
 |mk (m:List Addr) (r:cb) (st:aM) (a:cI K H m Z r σ) (b:aC K H m Z st) (c:Ok K Z (d r st) m H (λb _ _ H'=>Q b H')):tT K Z d σ H Q
inductive tA (K:KB) (Z:List Addr) (d:cb->aM->R (List P)) (σ:St) (H:Hp) (Q:List V->Hp->Prop):Prop
 |mk (m:List Addr) (r:cb) (st:aM) (a:cI K H m Z r σ) (b:aC K H m Z st) (c:Ok K Z (d r st) m H (λps _ m' H'=>∀vs,aj K H' m' Z ps vs->Q vs H')):tA K Z d σ H Q
def LQ(K:KB)(Z:List Addr)(r:R (List P))(m:List Addr)(H:Hp)(Q:VK):Prop:=match r with|.ok ps aO=>∀m' H' a vs,Le K m H m' H'->H a=Θ->a∉m'->H' a=Δ (.lst vs)->aC K H' m' (a::Z) aO->aj K H' m' (a::Z) ps vs->Q (.ref a) H'|_=>False
inductive tL (K:KB) (Z:List Addr) (d:cb->aM->R (List P)) (σ:St) (H:Hp) (Q:VK):Prop
 |mk (m:List Addr) (r:cb) (st:aM) (a:cI K H m Z r σ) (b:aC K H m Z st) (c:LQ K Z (d r st) m H Q):tL K Z d σ H Q
def sM(K:KB)(Z:List Addr)(D:Ends):Fl->aM->List Addr->Hp->Prop:=λf _ m' H'=>match f with|.nx r=>∀σ,cI K H' m' Z r σ->D.nx σ H'|.bk r=>∀σ,cI K H' m' Z r σ->D.bk σ H'|.ct r=>∀σ,cI K H' m' Z r σ->D.ct σ H'|.rt p=>∀v,ak K H' m' Z p v->D.rt v H'
mutual
theorem aI.sub{Z':List Addr}(sm:∀a∈m',a∈m)(s:∀a∈Z,a∈Z'):∀{x:D} {v:V},aI K H m Z' x v->aI K H m' Z x v
 |.bG,_,h=>h|.bl _,_,h=>h|.int _,_,h=>h|.str _,_,h=>h|.tup xs,v,h=>by refine ah (λa us e q r=>?_) ((show ∃a us,v=.ref a/\H a=Δ (.tup us)/\aq K H m Z' xs us from h));exact⟨a,us,e,q,aq.sub sm s r⟩
 |.pl xs,v,h=>by refine bq (λa us e q hm hz r=>?_) ((show ∃a us,v=.ref a/\Rd H a (.lst us)/\a∉m/\a∉Z'/\aq K H m Z' xs us from h));exact⟨a,us,e,q,λz=>hm (sm a z),λz=>hz (s a z),aq.sub sm s r⟩
theorem aq.sub{Z':List Addr}(sm:∀a∈m',a∈m)(s:∀a∈Z,a∈Z'):∀{xs:List D} {us:List V},aq K H m Z' xs us->aq K H m' Z xs us
 |[],_,h=>h|x::xs,us,h=>by refine ah (λv vs e r rs=>?_) ((show ∃v vs,us=v::vs/\aI K H m Z' x v/\aq K H m Z' xs vs from h));exact⟨v,vs,e,aI.sub sm s r,aq.sub sm s rs⟩
end
theorem aI.xu(s:∀a∈Z,a∈Z')(h:aI K H m Z' x v):aI K H m Z x v:=aI.sub (λ_ h=>h) s h
theorem aI.bare(h:aI K H m Z x v):aI K H [] [] x v:=aI.sub (λ_ h=>by cases h) (λ_ h=>by cases h) h
theorem aq.bare(h:aq K H m Z x v):aq K H [] [] x v:=aq.sub (λ_ h=>by cases h) (λ_ h=>by cases h) h
mutual
theorem ak.xu{Z':List Addr}(s:∀a∈Z,a∈Z'):∀{x:P} {v:V},ak K H m Z' x v->ak K H m Z x v
 |.d _,_,h=>by rw[ak] at h ⊢;exact aI.xu s h|.obj _,_,h=>by rw[ak] at h ⊢;exact h|.jg _,_,h=>by rw[ak] at h ⊢;exact h|.fn k bz,v,h=>by rw[ak] at h ⊢;revert h;refine br λa c b9 e q hc r=>?_;exact⟨a,c,b9,e,q,hc,aj.xu s r⟩
 |.lf k,v,h=>by rw[ak] at h ⊢;exact h
theorem aj.xu{Z':List Addr}(s:∀a∈Z,a∈Z'):∀{xs:List P} {us:List V},aj K H m Z' xs us->aj K H m Z xs us
 |[],_,h=>h|x::xs,us,h=>by rw[aj] at h ⊢;revert h;refine ah λv vs e r rs=>?_;exact⟨v,vs,e,ak.xu s r,aj.xu s rs⟩
end
mutual
theorem aI.mo{b:Addr}(hb:H b=Θ):∀{x:D} {v:V},aI K H m Z x v->aI K H m (b::Z) x v
 |.bG,_,h=>h|.bl _,_,h=>h|.int _,_,h=>h|.str _,_,h=>h|.tup xs,v,h=>by refine ah (λa us e q r=>?_) ((show ∃a us,v=.ref a/\H a=Δ (.tup us)/\aq K H m Z xs us from h));exact⟨a,us,e,q,aq.mo hb r⟩
 |.pl xs,v,h=>by
  refine bq (λa us e q hm hz r=>?_) ((show ∃a us,v=.ref a/\Rd H a (.lst us)/\a∉m/\a∉Z/\aq K H m Z xs us from h));refine⟨a,us,e,q,hm,λz=>?_,aq.mo hb r⟩;rcases abM.mp z with z|z;·rw[z] at q;exact Iq q hb
  ·exact hz z
theorem aq.mo{b:Addr}(hb:H b=Θ):∀{xs:List D} {us:List V},aq K H m Z xs us->aq K H m (b::Z) xs us
 |[],_,h=>h|x::xs,us,h=>by refine ah (λv vs e r rs=>?_) ((show ∃v vs,us=v::vs/\aI K H m Z x v/\aq K H m Z xs vs from h));exact⟨v,vs,e,aI.mo hb r,aq.mo hb rs⟩
end
mutual
theorem ak.mo{b:Addr}(hb:H b=Θ):∀{x:P} {v:V},ak K H m Z x v->ak K H m (b::Z) x v
 |.d _,_,h=>by rw[ak] at h ⊢;exact aI.mo hb h|.obj _,_,h=>by rw[ak] at h ⊢;exact h|.jg _,_,h=>by rw[ak] at h ⊢;exact h|.fn k bz,v,h=>by rw[ak] at h ⊢;revert h;refine br λa c b9 e q hc r=>?_;exact⟨a,c,b9,e,q,hc,aj.mo hb r⟩
 |.lf k,v,h=>by rw[ak] at h ⊢;exact h
theorem aj.mo{b:Addr}(hb:H b=Θ):∀{xs:List P} {us:List V},aj K H m Z xs us->aj K H m (b::Z) xs us
 |[],_,h=>h|x::xs,us,h=>by rw[aj] at h ⊢;revert h;refine ah λv vs e r rs=>?_;exact⟨v,vs,e,ak.mo hb r,aj.mo hb rs⟩
end
theorem aC.Sx(A:aC K H m Z st)(h:a∈m):H a≠Θ:=by
 obtain⟨n,hn,e⟩:=List.mem_iff_getElem.mp h;have GZ:n < st.length:=by rw[<-A.len];exact hn
 obtain⟨a',e',r⟩:=A.at_ n st[n] (Zu GZ);rw[Zu hn,e] at e';obtain rfl:=sj e';exact r.sY.1
theorem aC.fresh(A:aC K H m Z st)(h:H a=Θ):a∉m/\a∉Z:=⟨λz=>A.Sx z h,λz=>A.zt a z (kW h)⟩
theorem mW(hx:∀φ,o≠.ext φ)(h:iw H b≠Θ):iw (upd H a o) b≠Θ:=by
 by_cases hb:b=a;·rw[hb,bx aG hx];exact λz=>nomatch z
 ·unfold iw at h ⊢;rw[av hb];exact h
theorem aC.laid(A:aC K H m Z st)(h:H a=Θ)o(hx:∀φ,o≠.ext φ:=by exact λ_ z=>nomatch z):aC K (upd H a o) m (a::Z) st:=by
 have e:lQ H (upd H a o):=bu h o;have A':=A.same e;refine⟨A.len,A.nd,λn ob hn=>?_,λb hb=>?_,λb hb=>?_,A'.tab⟩;·obtain⟨c,q,r⟩:=A.at_ n ob hn;exact⟨c,q,r.mono (λb u _ hu=>e _ _ hu) λp v z=>(z.mo h).le (Le.same e)⟩
 ·rcases abM.mp hb with z|z;·rw[z,bx aG hx];exact λz=>nomatch z
  ·exact A'.zt b z
 ·rcases abM.mp hb with z|z;·rw[z];exact(A.fresh h).1
  ·exact A.zm b z
theorem aC.Sy(A:aC K H m Z st)(h:H a=Θ)(e:lQ H H')(h':iw H' a≠Θ):aC K H' m (a::Z) st:=by
 refine⟨A.len,A.nd,λn ob hn=>?_,λb hb=>?_,λb hb=>?_,(A.same e).tab⟩;·obtain⟨c,q,r⟩:=A.at_ n ob hn;exact⟨c,q,r.mono (λb u _ hu=>e _ _ hu) λp v z=>(z.mo h).le (Le.same e)⟩
 ·rcases abM.mp hb with z|z;·rw[z];exact h'
  ·exact vD e (A.zt b z)
 ·rcases abM.mp hb with z|z;·rw[z];exact(A.fresh h).1
  ·exact A.zm b z
theorem aC.xu(A:aC K H m Z' st)(s:∀a∈Z,a∈Z'):aC K H m Z st:=
 ⟨A.len,A.nd,λn o h=>by obtain⟨a,q,r⟩:=A.at_ n o h;exact⟨a,q,r.mono (λb u _ hu=>hu) λp v z=>z.xu s⟩,λa h=>A.zt a (s a h),λa h=>A.zm a (s a h),A.tab⟩
mutual
theorem aI.adopt{b:Addr}:∀{x:D} {v:V},aI K H m (b::Z) x v->aI K H (m++[b]) Z x v
 |.bG,_,h=>h|.bl _,_,h=>h|.int _,_,h=>h|.str _,_,h=>h|.tup xs,v,h=>by refine ah (λa us e q r=>?_) ((show ∃a us,v=.ref a/\H a=Δ (.tup us)/\aq K H m (b::Z) xs us from h));exact⟨a,us,e,q,aq.adopt r⟩
 |.pl xs,v,h=>by
  refine bq (λa us e q hm hz r=>?_) ((show ∃a us,v=.ref a/\Rd H a (.lst us)/\a∉m/\a∉b::Z/\aq K H m (b::Z) xs us from h));refine⟨a,us,e,q,λz=>?_,λz=>hz (Zs _ z),aq.adopt r⟩;rcases acQ.mp z with z|z;·exact hm z
  ·exact hz (by simp at z;rw[z];exact Zx)
theorem aq.adopt{b:Addr}:∀{xs:List D} {us:List V},aq K H m (b::Z) xs us->aq K H (m++[b]) Z xs us
 |[],_,h=>h|x::xs,us,h=>by refine ah (λv vs e r rs=>?_) ((show ∃v vs,us=v::vs/\aI K H m (b::Z) x v/\aq K H m (b::Z) xs vs from h));exact⟨v,vs,e,aI.adopt r,aq.adopt rs⟩
end
mutual
theorem ak.adopt{b:Addr}:∀{x:P} {v:V},ak K H m (b::Z) x v->ak K H (m++[b]) Z x v
 |.d _,_,h=>by rw[ak] at h ⊢;exact aI.adopt h|.obj n,v,h=>by rw[ak] at h ⊢;obtain⟨a,e,r⟩:=h;exact⟨a,by rw[Zy (List.getElem?_eq_some_iff.mp e).1];exact e,r⟩
 |.jg _,_,h=>by rw[ak] at h ⊢;exact h|.fn k bz,v,h=>by rw[ak] at h ⊢;revert h;refine br λa c b9 e q hc r=>?_;exact⟨a,c,b9,e,q,hc,aj.adopt r⟩
 |.lf k,v,h=>by rw[ak] at h ⊢;exact h
theorem aj.adopt{b:Addr}:∀{xs:List P} {us:List V},aj K H m (b::Z) xs us->aj K H (m++[b]) Z xs us
 |[],_,h=>h|x::xs,us,h=>by rw[aj] at h ⊢;revert h;refine ah λv vs e r rs=>?_;exact⟨v,vs,e,ak.adopt r,aj.adopt rs⟩
end
theorem lY{l:List Addr}(nd:l.Nodup)(hi:i < l.length)(hj:j < l.length)(h:l[i]=l[j]):i=j:=by
 rcases Nat.lt_trichotomy i j with z|z|z;·exact absurd h (List.pairwise_iff_getElem.mp nd i j hi hj z)
 ·exact z
 ·exact absurd h.symm (List.pairwise_iff_getElem.mp nd j i hj hi z)
theorem aC.vE(A:aC K H m (a::Z) st)(hz:a∉Z)(r:tG K H m (a::Z) a ob):aC K H (m++[a]) Z (st++[ob]):=by
 refine⟨by rw[ZW,ZW,A.len];rfl,?_,λn o h=>?_,λb h=>A.zt b (Zs _ h),λb h z=>?_,A.tab⟩
 ·refine aar.mpr ⟨A.nd,by simp,λx hx y hy=>?_⟩;have e:y=a:=by simpa using hy
  rw[e];rintro rfl;exact A.zm x Zx hx
 ·by_cases hn:n < st.length;·rw[Zy hn] at h;obtain⟨b,q,rr⟩:=A.at_ n o h;exact⟨b,by rw[Zy (by rw[A.len];exact hn)];exact q,rr.mono (λb u _ hu=>hu) λp v z=>z.adopt⟩
  ·rw[ZX (by lia)] at h;have U8:n - st.length=0:=by
    have:=(List.getElem?_eq_some_iff.mp h).1;simp at this
    lia
   rw[U8] at h;obtain rfl:=sj h;refine⟨a,?_,r.mono (λb u _ hu=>hu) λp v z=>z.adopt⟩;rw[ZX (by rw[A.len];lia),A.len,U8];rfl
 ·rcases acQ.mp z with z|z;·exact A.zm b (Zs _ h) z
  ·have e:b=a:=by simpa using z
   rw[e] at h;exact hz h
theorem aC.adopt(A:aC K H m (a::Z) st)(hz:a∉Z)(ha:H a=Δ (.lst vs))(r:aj K H m (a::Z) ps vs):aC K H (m++[a]) Z (st++[.lst ps]):=A.vE hz ⟨vs,ha,r⟩
theorem aC.write(A:aC K H m Z st)(hn:st[n]?=Δ o)(ha:m[n]?=Δ a)(qx:∀H',H' a=Δ ho->(∀b u,b≠a->H b=Δ u->H' b=Δ u)->(∀p v,ak K H m Z p v->ak K H' m Z p v)->tG K H' m Z a o')(hx:∀φ,ho≠.ext φ:=by exact λ_ z=>nomatch z)(hl:o≠.xo:=by exact λz=>nomatch z):
  Le K m H m (upd H a ho)/\aC K (upd H a ho) m Z (st.set n o'):=by
 obtain⟨a',e,r⟩:=A.at_ n o hn;rw[ha] at e;obtain rfl:=sj e;refine kK (λt1 t2 t3 t4 t5 t6=>?_) (r.sY);replace t3:=t3 hl;have le:Le K m H m (upd H a ho):=by
  refine⟨⟨[],by simp⟩,λb xs h=>?_,λb u h hb _=>?_,λb h=>.inl h,λb h=>?_,λb h=>mW hx h,λb o u h=>?_,λb φ h=>?_,λb ps h=>⟨#[],?_⟩⟩;·rw[av (λz=>t2 xs (by rw[<-z];exact h))];exact h
  ·rw[av (λz=>hb (by rw[z];exact ZG ha))];exact h
  ·by_cases OB:b=a;·rw[OB,aG];exact λz=>nomatch z
   ·rw[av OB];exact h
  ·rw[av (λz=>t3 o u (by rw[<-z];exact h))];exact h
  ·rw[av (λz=>t4 φ (by rw[<-z];exact h))];exact h
  ·rw[av (λz=>t5 ps (by rw[<-z];exact h)),h];simp
 refine⟨le,⟨by rw[aaX];exact A.len,A.nd,λk ob hk=>?_,λb hb=>le.Es b (A.zt b hb),A.zm,λt ht=>?_⟩⟩
 rotate_left
 ·obtain⟨ps,h1,h2⟩:=A.tab t ht;exact⟨ps,by rw[av (λz=>t5 ps (by rw[<-z];exact h1))];exact h1,gH.same le.ext h2⟩
 by_cases OC:n=k;·subst OC;have gE:=(List.getElem?_eq_some_iff.mp hn).1;rw[ZY gE] at hk;obtain rfl:=sj hk;exact⟨a,ha,qx _ aG (λb u hb hu=>by rw[av hb];exact hu) λp v z=>z.le le⟩
 ·rw[Zw OC] at hk;obtain⟨b,q,rr⟩:=A.at_ k ob hk;have OB:b≠a:=by rintro rfl;have h1:=(List.getElem?_eq_some_iff.mp ha);have h2:=(List.getElem?_eq_some_iff.mp q);obtain⟨l1,e1⟩:=h1;obtain⟨l2,e2⟩:=h2;exact OC (lY A.nd l1 l2 (e1.trans e2.symm))
  exact⟨b,q,rr.mono (λb' u jJ hu=>by
   rw[av (λz=>by
    rcases jJ with w1|w1;·exact OB (w1▸z)
    ·exact t6 b (by rw[<-z];exact w1))]
   exact hu) λp v z=>z.le le⟩
end
mutual
def RH(h:Heap):D->Value->Prop
 |.bG,u=>u=.none|.bl b,u=>u=.bool b|.int i,u=>∃t,u=.int i t|.str x,u=>∃t,u=.str x t|.tup xs,u=>∃a its,u=.ref a/\h.IsTuple a its.toArray/\w8 h xs its|.pl xs,u=>∃a its,u=.ref a/\h.IsList a its.toArray/\w8 h xs its
def w8(h:Heap):List D->List Value->Prop
 |[],us=>us=[]|x::xs,us=>∃u r,us=u::r/\RH h x u/\w8 h xs r
end
section
variable{h:Heap}
theorem w8.length:∀{xs} {us},w8 h xs us->us.length=xs.length
 |[],us,r=>by obtain rfl:=show us=[] from r;rfl|x::xs,us,r=>by refine ah (λu q aH _ rs=>?_) ((show ∃u r,us=u::r/\RH h x u/\w8 h xs r from r));subst aH;rw[ZS,ZS,w8.length rs]
theorem sN(p:h.IsTuple a x)(q:h.IsTuple a y):x=y:=by revert p;refine eV λo e _ n d=>?_;revert q;refine eV λo' e' _ n' d'=>?_;rw[e] at e';obtain rfl:=sj e';rw[d] at d';cases d';rfl
theorem vF(p:h.IsList a x)(q:h.IsList a y):x=y:=by revert p;refine eV λo e _ n d=>?_;revert q;refine eV λo' e' _ n' d'=>?_;rw[e] at e';obtain rfl:=sj e';rw[d] at d';cases d';rfl
theorem Bn(p:h.IsTuple a x)(q:h.IsList a y):False:=by revert p;refine aB λo e c _=>?_;revert q;refine aB λo' e' c' _=>?_;rw[e] at e';obtain rfl:=sj e';rw[c] at c';exact absurd c' (by decide+kernel)
mutual
theorem RH.self:∀{x y:D} {u:Value},RH h x u->RH h y u->xp x y=Λ
 |.bG,y,u,p,q=>by obtain rfl:=show u=.none from p;cases y with|bG=>rfl|bl b=>exact nomatch (show abw=.bool b from q)|int i=>obtain⟨t,e⟩:=q;exact nomatch e|str i=>obtain⟨t,e⟩:=q;exact nomatch e|tup i=>obtain⟨t,_,e,_⟩:=q;exact nomatch e|pl i=>obtain⟨t,_,e,_⟩:=q;exact nomatch e
 |.bl b,y,u,p,q=>by obtain rfl:=show u=.bool b from p;cases y with|bG=>exact nomatch (show acU b=.none from q)|bl c=>cases (show acU b=.bool c from q);simp[xp]|int i=>obtain⟨t,e⟩:=q;exact nomatch e|str i=>obtain⟨t,e⟩:=q;exact nomatch e|tup i=>obtain⟨t,_,e,_⟩:=q;exact nomatch e|pl i=>obtain⟨t,_,e,_⟩:=q;exact nomatch e
 |.int b,y,u,p,q=>by obtain⟨t0,rfl⟩:=p;cases y with|bG=>exact nomatch (show adp b t0=.none from q)|bl c=>exact nomatch (show adp b t0=.bool c from q)|int i=>obtain⟨t,e⟩:=q;cases e;simp[xp]|str i=>obtain⟨t,e⟩:=q;exact nomatch e|tup i=>obtain⟨t,_,e,_⟩:=q;exact nomatch e|pl i=>obtain⟨t,_,e,_⟩:=q;exact nomatch e
 |.str b,y,u,p,q=>by obtain⟨t0,rfl⟩:=p;cases y with|bG=>exact nomatch (show ado b t0=.none from q)|bl c=>exact nomatch (show ado b t0=.bool c from q)|int i=>obtain⟨t,e⟩:=q;exact nomatch e|str i=>obtain⟨t,e⟩:=q;cases e;simp[xp]|tup i=>obtain⟨t,_,e,_⟩:=q;exact nomatch e|pl i=>obtain⟨t,_,e,_⟩:=q;exact nomatch e
 |.tup xs,y,u,p,q=>by
  revert p;refine ah λa its aH ht rs=>?_;subst aH;cases y with
  |bG=>exact nomatch (show Z7 a=.none from q)|bl c=>exact nomatch (show Z7 a=.bool c from q)|int i=>obtain⟨t,e⟩:=q;exact nomatch e|str i=>obtain⟨t,e⟩:=q;exact nomatch e|tup ys=>
   revert q;refine ah λb its' e yE zN=>?_;cases e;have e2:its=its':=by simpa using sN ht yE
   subst e2;show iU xs ys=Λ;exact w8.self rs zN
  |pl ys=>revert q;refine ah λb its' e yE zN=>?_;cases e;exact(Bn ht yE).elim
 |.pl xs,y,u,p,q=>by
  revert p;refine ah λa its aH ht rs=>?_;subst aH;cases y with
  |bG=>exact nomatch (show Z7 a=.none from q)|bl c=>exact nomatch (show Z7 a=.bool c from q)|int i=>obtain⟨t,e⟩:=q;exact nomatch e|str i=>obtain⟨t,e⟩:=q;exact nomatch e|tup ys=>revert q;refine ah λb its' e yE zN=>?_;cases e;exact(Bn yE ht).elim
  |pl ys=>
   revert q;refine ah λb its' e yE zN=>?_;cases e;have e2:its=its':=by simpa using vF ht yE
   subst e2;show iU xs ys=Λ;exact w8.self rs zN
theorem w8.self:∀{xs ys:List D} {us:List Value},w8 h xs us->w8 h ys us->iU xs ys=Λ
 |[],ys,us,p,q=>by obtain rfl:=show us=[] from p;cases ys with|nil=>rfl|cons y ys=>obtain⟨u,r,e,_⟩:=q;exact nomatch e
 |x::xs,ys,us,p,q=>by refine ah (λu r aH p1 p2=>?_) ((show ∃u r,us=u::r/\RH h x u/\w8 h xs r from p));subst aH;cases ys with|nil=>exact nomatch (show u::r=[] from q)|cons y ys=>refine ah (λu' r' e q1 q2=>?_) ((show ∃u' r',u::r=u'::r'/\RH h y u'/\w8 h ys r' from q));cases e;show(xp x y&&iU xs ys)=Λ;rw[RH.self p1 q1,w8.self p2 q2];rfl
end
def pairD(xs ys:List D)(j:Nat):Bool:=xp (xs.getD j .bG) (ys.getD j .bG)
theorem pL:∀xs ys,((Zq (min xs.length ys.length)).all (pairD xs ys)&&xs.length==ys.length)=iU xs ys
 |[],[]=>rfl|[],_::_=>by simp[iU]|_::_,[]=>by simp[iU]|x::xs,y::ys=>by
  have ih:=pL xs ys;have e1:min (x::xs).length (y::ys).length=min xs.length ys.length+1:=by simp only[ZS];lia
  have e2:((x::xs).length==(y::ys).length)=(xs.length==ys.length):=by simp
  have e3:(Zq (min xs.length ys.length+1)).all (pairD (x::xs) (y::ys))=(xp x y&&(Zq (min xs.length ys.length)).all (pairD xs ys)):=by rw[List.range_succ_eq_map,abO,List.all_map];first|rfl|simp[pairD,aaz]
  rw[e1,e2,e3,iU,<-ih,Bool.and_assoc]
theorem Bo(h:xs.length=ys.length):(Zq xs.length).all (pairD xs ys)=iU xs ys:=by have:=pL xs ys;rw[<-h,Nat.min_self] at this;simpa using this
theorem vG(h:xs.length≠ys.length):iU xs ys=Ξ:=by rw[<-pL xs ys];simp[h]
open SeqAt
mutual
theorem Sz:∀(x y:D) (A:aaZ) (s:ZR) (u v:Value),RH s.heap x u->RH s.heap y v->A.units+min (nk x) (nk y) < cLine->RcAt A s u v (xp x y)/\RcNeAt A s u v (!xp x y)
 |.bG,y,A,s,u,v,p,q,hu=>by obtain rfl:=show u=.none from p;cases y with|bG=>obtain rfl:=show v=.none from q;exact⟨RcAt.none_none,RcNeAt.none_none⟩|bl b=>obtain rfl:=show v=.bool b from q;exact⟨RcAt.none_bool b,RcNeAt.none_bool b⟩|int b=>obtain⟨t,rfl⟩:=q;exact⟨RcAt.none_int b t,RcNeAt.none_int b t⟩|str b=>obtain⟨t,rfl⟩:=q;exact⟨RcAt.none_str b t,RcNeAt.none_str b t⟩|tup ys=>obtain⟨a,its,rfl,hl,_⟩:=q;exact⟨RcAt.none_tuple hl (room_here hu),RcNeAt.none_tuple hl (room_here hu)⟩|pl ys=>obtain⟨a,its,rfl,hl,_⟩:=q;exact⟨RcAt.none_list hl (room_here hu),RcNeAt.none_list hl (room_here hu)⟩
 |.bl x,y,A,s,u,v,p,q,hu=>by obtain rfl:=show u=.bool x from p;cases y with|bG=>obtain rfl:=show v=.none from q;exact⟨RcAt.bool_none x,RcNeAt.bool_none x⟩|bl b=>obtain rfl:=show v=.bool b from q;exact⟨RcAt.bool_bool x b,RcNeAt.bool_bool x b⟩|int b=>obtain⟨t,rfl⟩:=q;exact⟨RcAt.bool_int x b t,RcNeAt.bool_int x b t⟩|str b=>obtain⟨t,rfl⟩:=q;exact⟨RcAt.bool_str x b t,RcNeAt.bool_str x b t⟩|tup ys=>obtain⟨a,its,rfl,hl,_⟩:=q;exact⟨RcAt.bool_tuple x hl (room_here hu),RcNeAt.bool_tuple x hl (room_here hu)⟩|pl ys=>obtain⟨a,its,rfl,hl,_⟩:=q;exact⟨RcAt.bool_list x hl (room_here hu),RcNeAt.bool_list x hl (room_here hu)⟩
 |.int x,y,A,s,u,v,p,q,hu=>by obtain⟨t0,rfl⟩:=p;cases y with|bG=>obtain rfl:=show v=.none from q;exact⟨RcAt.int_none x t0,RcNeAt.int_none x t0⟩|bl b=>obtain rfl:=show v=.bool b from q;exact⟨RcAt.int_bool x t0 b,RcNeAt.int_bool x t0 b⟩|int b=>obtain⟨t,rfl⟩:=q;exact⟨RcAt.int_int x t0 b t,RcNeAt.int_int x t0 b t⟩|str b=>obtain⟨t,rfl⟩:=q;exact⟨RcAt.int_str x t0 b t,RcNeAt.int_str x t0 b t⟩|tup ys=>obtain⟨a,its,rfl,hl,_⟩:=q;exact⟨RcAt.int_tuple x t0 hl (room_here hu),RcNeAt.int_tuple x t0 hl (room_here hu)⟩|pl ys=>obtain⟨a,its,rfl,hl,_⟩:=q;exact⟨RcAt.int_list x t0 hl (room_here hu),RcNeAt.int_list x t0 hl (room_here hu)⟩
 |.str x,y,A,s,u,v,p,q,hu=>by obtain⟨t0,rfl⟩:=p;cases y with|bG=>obtain rfl:=show v=.none from q;exact⟨RcAt.str_none x t0,RcNeAt.str_none x t0⟩|bl b=>obtain rfl:=show v=.bool b from q;exact⟨RcAt.str_bool x t0 b,RcNeAt.str_bool x t0 b⟩|int b=>obtain⟨t,rfl⟩:=q;exact⟨RcAt.str_int x t0 b t,RcNeAt.str_int x t0 b t⟩|str b=>obtain⟨t,rfl⟩:=q;exact⟨RcAt.str_str x t0 b t,RcNeAt.str_str x t0 b t⟩|tup ys=>obtain⟨a,its,rfl,hl,_⟩:=q;exact⟨RcAt.str_tuple x t0 hl (room_here hu),RcNeAt.str_tuple x t0 hl (room_here hu)⟩|pl ys=>obtain⟨a,its,rfl,hl,_⟩:=q;exact⟨RcAt.str_list x t0 hl (room_here hu),RcNeAt.str_list x t0 hl (room_here hu)⟩
 |.tup xs,y,A,s,u,v,p,q,hu=>by
  revert p;refine ah λa its aH hl rs=>?_;subst aH;cases y with
  |bG=>obtain rfl:=show v=.none from q;exact⟨RcAt.tuple_none hl (room_here hu),RcNeAt.tuple_none hl (room_here hu)⟩|bl b=>obtain rfl:=show v=.bool b from q;exact⟨RcAt.tuple_bool b hl (room_here hu),RcNeAt.tuple_bool b hl (room_here hu)⟩|int b=>obtain⟨t,rfl⟩:=q;exact⟨RcAt.tuple_int b t hl (room_here hu),RcNeAt.tuple_int b t hl (room_here hu)⟩|str b=>obtain⟨t,rfl⟩:=q;exact⟨RcAt.tuple_str b t hl (room_here hu),RcNeAt.tuple_str b t hl (room_here hu)⟩|pl ys=>obtain⟨b,its',rfl,pz,_⟩:=q;exact⟨RcAt.tuple_list hl pz (room_here hu),RcNeAt.tuple_list hl pz (room_here hu)⟩|tup ys=>
   revert q;refine ah λb its' aH pz zN=>?_;subst aH;have n1:its.toArray.size=xs.length:=by rw[ZQ];exact rs.length
   have n2:its'.toArray.size=ys.length:=by rw[ZQ];exact zN.length
   have he:∀j (j1:j < its.toArray.size) (j2:j < its'.toArray.size),EqAt A.in1 s its.toArray[j] its'.toArray[j] (pairD xs ys j):=λj j1 j2=>by have:=Bp xs ys A.in1 s its its' rs zN (room_in hu) j (by simpa using j1) (by simpa using j2);simpa using this
   show RcAt A s (.ref a) (.ref b) (iU xs ys)/\RcNeAt A s (.ref a) (.ref b) (!iU xs ys);rw[<-pL xs ys,<-n1,<-n2];exact⟨RcAt.tuples hl pz (room_here hu) he,RcNeAt.tuples hl pz (room_here hu) he⟩
 |.pl xs,y,A,s,u,v,p,q,hu=>by
  revert p;refine ah λa its aH hl rs=>?_;subst aH;cases y with
  |bG=>obtain rfl:=show v=.none from q;exact⟨RcAt.list_none hl (room_here hu),RcNeAt.list_none hl (room_here hu)⟩|bl b=>obtain rfl:=show v=.bool b from q;exact⟨RcAt.list_bool b hl (room_here hu),RcNeAt.list_bool b hl (room_here hu)⟩|int b=>obtain⟨t,rfl⟩:=q;exact⟨RcAt.list_int b t hl (room_here hu),RcNeAt.list_int b t hl (room_here hu)⟩|str b=>obtain⟨t,rfl⟩:=q;exact⟨RcAt.list_str b t hl (room_here hu),RcNeAt.list_str b t hl (room_here hu)⟩|tup ys=>obtain⟨b,its',rfl,pz,_⟩:=q;exact⟨RcAt.list_tuple hl pz (room_here hu),RcNeAt.list_tuple hl pz (room_here hu)⟩|pl ys=>
   revert q;refine ah λb its' aH pz zN=>?_;subst aH;have n1:its.toArray.size=xs.length:=by rw[ZQ];exact rs.length
   have n2:its'.toArray.size=ys.length:=by rw[ZQ];exact zN.length
   have he:∀j (j1:j < its.toArray.size) (j2:j < its'.toArray.size),EqAt A.in1 s its.toArray[j] its'.toArray[j] (pairD xs ys j):=λj j1 j2=>by have:=Bp xs ys A.in1 s its its' rs zN (room_in hu) j (by simpa using j1) (by simpa using j2);simpa using this
   show RcAt A s (.ref a) (.ref b) (iU xs ys)/\RcNeAt A s (.ref a) (.ref b) (!iU xs ys);by_cases hsz:its.toArray.size=its'.toArray.size;·rw[<-Bo (by lia:xs.length=ys.length),<-n1];exact⟨RcAt.lists hl pz hsz (room_here hu) he,RcNeAt.lists hl pz hsz (room_here hu) he⟩
   ·rw[vG (by lia:xs.length≠ys.length)];exact⟨RcAt.lists_lengths hl pz (by simpa using hsz) (room_here hu),RcNeAt.lists_lengths hl pz (by simpa using hsz) (room_here hu)⟩
theorem XT:∀(x y:D) (A:aaZ) (s:ZR) (u v:Value),RH s.heap x u->RH s.heap y v->A.units+min (nk x) (nk y) < cLine->EqAt A s u v (xp x y)
 |.bG,y,A,s,u,v,p,q,hu=>by obtain rfl:=show u=.none from p;cases y with|bG=>obtain rfl:=show v=.none from q;exact EqAt.same _|bl b=>obtain rfl:=show v=.bool b from q;exact EqAt.none_bool b|int b=>obtain⟨t,rfl⟩:=q;exact EqAt.none_int b t|str b=>obtain⟨t,rfl⟩:=q;exact EqAt.none_str b t|tup ys=>obtain⟨a,its,rfl,hl,_⟩:=q;exact EqAt.none_tuple hl (room_here hu)|pl ys=>obtain⟨a,its,rfl,hl,_⟩:=q;exact EqAt.none_list hl (room_here hu)
 |.bl x,y,A,s,u,v,p,q,hu=>by obtain rfl:=show u=.bool x from p;cases y with|bG=>obtain rfl:=show v=.none from q;exact EqAt.bool_none x|bl b=>obtain rfl:=show v=.bool b from q;exact EqAt.bool_bool x b|int b=>obtain⟨t,rfl⟩:=q;exact EqAt.bool_int x b t|str b=>obtain⟨t,rfl⟩:=q;exact EqAt.bool_str x b t|tup ys=>obtain⟨a,its,rfl,hl,_⟩:=q;exact EqAt.bool_tuple x hl (room_here hu)|pl ys=>obtain⟨a,its,rfl,hl,_⟩:=q;exact EqAt.bool_list x hl (room_here hu)
 |.int x,y,A,s,u,v,p,q,hu=>by obtain⟨t0,rfl⟩:=p;cases y with|bG=>obtain rfl:=show v=.none from q;exact EqAt.int_none x t0|bl b=>obtain rfl:=show v=.bool b from q;exact EqAt.int_bool x t0 b|int b=>obtain⟨t,rfl⟩:=q;exact EqAt.int_int x t0 b t|str b=>obtain⟨t,rfl⟩:=q;exact EqAt.int_str x t0 b t|tup ys=>obtain⟨a,its,rfl,hl,_⟩:=q;exact EqAt.int_tuple x t0 hl (room_here hu)|pl ys=>obtain⟨a,its,rfl,hl,_⟩:=q;exact EqAt.int_list x t0 hl (room_here hu)
 |.str x,y,A,s,u,v,p,q,hu=>by obtain⟨t0,rfl⟩:=p;cases y with|bG=>obtain rfl:=show v=.none from q;exact EqAt.str_none x t0|bl b=>obtain rfl:=show v=.bool b from q;exact EqAt.str_bool x t0 b|int b=>obtain⟨t,rfl⟩:=q;exact EqAt.str_int x t0 b t|str b=>obtain⟨t,rfl⟩:=q;exact EqAt.str_str x t0 b t|tup ys=>obtain⟨a,its,rfl,hl,_⟩:=q;exact EqAt.str_tuple x t0 hl (room_here hu)|pl ys=>obtain⟨a,its,rfl,hl,_⟩:=q;exact EqAt.str_list x t0 hl (room_here hu)
 |.tup xs,y,A,s,u,v,p,q,hu=>by
  revert p;refine ah λa its aH hl rs=>?_;subst aH;cases y with
  |bG=>obtain rfl:=show v=.none from q;exact EqAt.tuple_none hl (room_here hu)|bl b=>obtain rfl:=show v=.bool b from q;exact EqAt.tuple_bool b hl (room_here hu)|int b=>obtain⟨t,rfl⟩:=q;exact EqAt.tuple_int b t hl (room_here hu)|str b=>obtain⟨t,rfl⟩:=q;exact EqAt.tuple_str b t hl (room_here hu)|pl ys=>obtain⟨b,its',rfl,pz,_⟩:=q;exact EqAt.tuple_list hl pz (room_here hu)|tup ys=>
   revert q;refine ah λb its' aH pz zN=>?_;subst aH;have n1:its.toArray.size=xs.length:=by rw[ZQ];exact rs.length
   have n2:its'.toArray.size=ys.length:=by rw[ZQ];exact zN.length
   have he:∀j (j1:j < its.toArray.size) (j2:j < its'.toArray.size),EqAt A.in1 s its.toArray[j] its'.toArray[j] (pairD xs ys j):=λj j1 j2=>by have:=Bp xs ys A.in1 s its its' rs zN (room_in hu) j (by simpa using j1) (by simpa using j2);simpa using this
   show EqAt A s (.ref a) (.ref b) (iU xs ys);by_cases OD:a=b
   ·subst OD;have e2:its=its':=by simpa using sN hl pz
    subst e2;rw[w8.self rs zN];exact EqAt.same _
   ·rw[<-pL xs ys,<-n1,<-n2];exact EqAt.of_refs OD (RcAt.tuples hl pz (room_here hu) he)
 |.pl xs,y,A,s,u,v,p,q,hu=>by
  revert p;refine ah λa its aH hl rs=>?_;subst aH;cases y with
  |bG=>obtain rfl:=show v=.none from q;exact EqAt.list_none hl (room_here hu)|bl b=>obtain rfl:=show v=.bool b from q;exact EqAt.list_bool b hl (room_here hu)|int b=>obtain⟨t,rfl⟩:=q;exact EqAt.list_int b t hl (room_here hu)|str b=>obtain⟨t,rfl⟩:=q;exact EqAt.list_str b t hl (room_here hu)|tup ys=>obtain⟨b,its',rfl,pz,_⟩:=q;exact EqAt.list_tuple hl pz (room_here hu)|pl ys=>
   revert q;refine ah λb its' aH pz zN=>?_;subst aH;have n1:its.toArray.size=xs.length:=by rw[ZQ];exact rs.length
   have n2:its'.toArray.size=ys.length:=by rw[ZQ];exact zN.length
   have he:∀j (j1:j < its.toArray.size) (j2:j < its'.toArray.size),EqAt A.in1 s its.toArray[j] its'.toArray[j] (pairD xs ys j):=λj j1 j2=>by have:=Bp xs ys A.in1 s its its' rs zN (room_in hu) j (by simpa using j1) (by simpa using j2);simpa using this
   show EqAt A s (.ref a) (.ref b) (iU xs ys);by_cases OD:a=b
   ·subst OD;have e2:its=its':=by simpa using vF hl pz
    subst e2;rw[w8.self rs zN];exact EqAt.same _
   ·by_cases hsz:its.toArray.size=its'.toArray.size;·rw[<-Bo (by lia:xs.length=ys.length),<-n1];exact EqAt.of_refs OD (RcAt.lists hl pz hsz (room_here hu) he)
    ·rw[vG (by lia:xs.length≠ys.length)];exact EqAt.of_refs OD (RcAt.lists_lengths hl pz (by simpa using hsz) (room_here hu))
theorem Bp:∀(xs ys:List D) (A:aaZ) (s:ZR) (us vs:List Value),w8 s.heap xs us->w8 s.heap ys vs->A.units+min (lI xs) (lI ys) < cLine->
  ∀j (h1:j < us.length) (h2:j < vs.length),EqAt A s us[j] vs[j] (pairD xs ys j)
 |[],_,_,_,us,_,ra,_,_,j,h1,_=>by obtain rfl:=show us=[] from ra;exact absurd h1 (abX _)|_::_,[],_,_,_,vs,_,rb,_,j,_,h2=>by obtain rfl:=show vs=[] from rb;exact absurd h2 (abX _)|x::xs,y::ys,A,s,us,vs,ra,rb,hu,j,h1,h2=>by refine ah (λu r aH p1 p2=>?_) ((show ∃u r,us=u::r/\RH s.heap x u/\w8 s.heap xs r from ra));subst aH;refine ah (λv r' aH q1 q2=>?_) ((show ∃u r,vs=u::r/\RH s.heap y u/\w8 s.heap ys r from rb));subst aH;cases j with|zero=>exact XT x y A s u v p1 q1 (room_head hu)|succ j=>exact Bp xs ys A s r r' p2 q2 (room_tail hu) j (Nat.lt_of_succ_lt_succ h1) (Nat.lt_of_succ_lt_succ h2)
end
end
section
variable{X:Cx}{pins:List (Addr×Obj)}{σ:St}{H:Hp}{s:ZR}{m Z:List Addr}
mutual
theorem aI.rh(I:Inv X pins σ H s):∀{x:D} {v:V} {u:Value},aI (af X kt) H m Z x v->RelV v u->RH s.heap x u
 |.bG,v,u,p,r=>by obtain rfl:=show v=.bG from p;exact r|.bl b,v,u,p,r=>by obtain rfl:=show v=.bl b from p;exact r|.int b,v,u,p,r=>by obtain rfl:=show v=.int b from p;exact r|.str b,v,u,p,r=>by obtain rfl:=show v=.str b from p;exact r|.tup xs,v,u,p,r=>by refine ah (λa us aH q rs=>?_) ((show ∃a us,v=.ref a/\H a=Δ (.tup us)/\aq (af X kt) H m Z xs us from p));subst aH;obtain rfl:=show u=.ref a from r;refine aB (λits rv ht _=>?_) (I.tuple (g7.of q));exact⟨a,its,rfl,ht,aq.rh I rs rv⟩
 |.pl xs,v,u,p,r=>by refine bq (λa us aH q _ _ rs=>?_) ((show ∃a us,v=.ref a/\Rd H a (.lst us)/\a∉m/\a∉Z/\aq (af X kt) H m Z xs us from p));subst aH;obtain rfl:=show u=.ref a from r;refine aB (λits rv ht _=>?_) (I.list (.inl q));exact⟨a,its,rfl,ht.isList,aq.rh I rs rv⟩
theorem aq.rh(I:Inv X pins σ H s):∀{xs:List D} {vs:List V} {us:List Value},aq (af X kt) H m Z xs vs->aY vs us->w8 s.heap xs us
 |[],vs,us,p,r=>by obtain rfl:=show vs=[] from p;cases r;rfl|x::xs,vs,us,p,r=>by refine ah (λv w' aH p1 p2=>?_) ((show ∃v w',vs=v::w'/\aI (af X kt) H m Z x v/\aq (af X kt) H m Z xs w' from p));subst aH;cases r with|cons r1 r2=>exact⟨_,_,rfl,aI.rh I p1 r1,aq.rh I p2 r2⟩
end
theorem OE(hu:X.A.units+100 < cLine):kj X (aaQ .Eq) (λv u H Q=>∃m Z x y k,aI (af X kt) H m Z x v/\aI (af X kt) H m Z y u/\tD x y=Δ k/\Q (.bl k) H):=by
 intro pins s σ H v u a b Q I rx ry h;obtain⟨m,Z,x,y,k,p,q,e,hq⟩:=h;unfold tD at e;split at e;·rename_i hd;obtain rfl:=sj e;exact(Sz x y X.A s a b (p.rh I rx) (q.rh I ry) (by lia)).1 X.prog X.w X.xe _ ⟨.bl (xp x y),H,I,rfl,hq⟩
 ·exact aQ e
theorem OF(hu:X.A.units+100 < cLine):kj X (aaQ .NotEq) (λv u H Q=>∃m Z x y k,aI (af X kt) H m Z x v/\aI (af X kt) H m Z y u/\tD x y=Δ k/\Q (.bl (!k)) H):=by
 intro pins s σ H v u a b Q I rx ry h;obtain⟨m,Z,x,y,k,p,q,e,hq⟩:=h;unfold tD at e;split at e;·rename_i hd;obtain rfl:=sj e;exact(Sz x y X.A s a b (p.rh I rx) (q.rh I ry) (by lia)).2 X.prog X.w X.xe _ ⟨.bl (!xp x y),H,I,rfl,hq⟩
 ·exact aQ e
end
end Y
namespace Y
open PySem L2 PySem.Spec PyProof.Rows
structure G where
 N:List Str
 names:List (Str×ab5)
 fns:List (Str×Nat)
 jn:List (Str×Int)
 tabs:List (Str×List (Str×Int))
 SA:Nat->ab2->Expr->Scope->Pos->Bool:=λ_ _ _ _ _=>Ξ
 SD:Nat->Nat->Str->ab2->List Stmt->Scope->Pos->Bool:=λ_ _ _ _ _ _ _=>Ξ
 MT:Nat->Str->Nat->List (Nat×List Nat)->Bool:=λ_ _ _ _=>Ξ
 SF:Nat->Str->List (Nat×List Nat)->Bool:=λ_ _ _=>Ξ
 AA:Str->Str->Bool:=λ_ _=>Ξ
 CL:Nat->Str->Str->Nat->Bool:=λ_ _ _ _=>Ξ
 CM:Nat->Str->Nat->Bool:=λ_ _ _=>Ξ
 cv:Bool:=Λ
def notStar(e:Expr):Bool:=e.ctorIdx !=22
def G.zO(g:G)(x:Str):Bool:=match g.names.lookup x with|some .local=>Λ|some .cell=>Λ|some .free=>Λ|_=>Ξ
noncomputable def G.gl(g:G)(x:Str):Bool:=decide (g.names.lookup x=Δ .globalImplicit)
noncomputable def aX(x:Str):Bool:=!(x==("__debug__":Str))&&!(x==("__classdict__":Str))&&!(x==("__name__":Str))
noncomputable def Et:Sv->Operator
 |.add=>.Add|.sub=>.Sub|.mul=>.Mult|.mod=>.Mod|.band=>.BitAnd|.bor=>.BitOr|.bxor=>.BitXor
noncomputable def lJ:MS->CmpOp
 |.lt=>.Lt|.le=>.LtE|.gt=>.Gt|.ge=>.GtE|.eq=>.Eq|.ne=>.NotEq|.isin=>.In|.pF=>.NotIn
def zP:Bf->Str
 |.len=>"len"|.any=>"any"|.tuple=>"tuple"
def mX:List String:=["int","bool","tuple","str","list"]
def zQ(e:Expr):Bool:=e.ctorIdx==26
noncomputable def oh(e:Expr):Bool:=e.ctorIdx==8||e.ctorIdx==9||e.ctorIdx==10
def cV(e:Expr):Bool:=e.ctorIdx==7
def KQ(g:G)(ts:Nat)(N:List Str)(js:List Nat)(sc:Scope):Bool:=
 decide (sc.kind=.function)&&decide (N.length=ts+js.length)&&
 sc.names.all (λx=>decide (x.2≠.cell)&&(decide (x.2≠.local)||decide (sc.names.lookup x.1=Δ .local))&&(decide (x.2≠.free)||(decide (g.names.lookup x.1=Δ .cell)||decide (g.names.lookup x.1=Δ .free))))&&
 (Zq js.length).all (λi=>match N[ts+i]?,js[i]? with
  |some y,Δ j=>decide (g.N[j]?=Δ y)&&decide (sc.names.lookup y=Δ .free)
  |_,_=>Λ)
noncomputable def iJ(g:G)(x:Str)(js:List Nat):List Str:=x::js.map λj=>(g.N[j]?).getD "?"
def G.inner(g:G)(N:List Str)(sc:Scope):G:={N:=N,names:=sc.names,fns:=g.fns,jn:=g.jn,tabs:=g.tabs,cv:=g.cv,AA:=g.AA,CL:=g.CL,CM:=g.CM}
theorem ke{c:Prop}[Decidable c]{a:c->Bool}{g:Prop}(hi:¬c)(h:(if q:c then a q else Ξ)=Λ):g:=by rw[dif_neg hi] at h;exact ft h
noncomputable def bj{α:Type}(l:List α)(k:α->List α->Bool):Bool:=match l with|x::r=>k x r|[]=>Ξ
@[elab_as_elim] theorem aJ{α:Type}{P:List α->Prop}{l:List α}{k:α->List α->Bool}(h:bj l k=Λ)(c:∀x r,k x r=Λ->P (x::r)):P l:=by cases l<;>first|exact c _ _ h|exact ft h
noncomputable def zR{α:Type}(l:Option α)(k:α->Bool):Bool:=match l with|some x=>k x|none=>Ξ
@[elab_as_elim] theorem vH{α:Type}{P:Option α->Prop}{l:Option α}{k:α->Bool}(h:zR l k=Λ)(c:∀x,k x=Λ->P (Δ x)):P l:=by cases l<;>first|exact c _ h|exact ft h
noncomputable def Ir(l:ad1)(k:Expr->Expr->List Expr->Int->Bool):Bool:=k l.target l.iter l.ifs l.is_async
@[elab_as_elim] theorem uu{P:ad1->Prop}{l:ad1}{k:Expr->Expr->List Expr->Int->Bool}(h:Ir l k=Λ)(c:∀a b d e,k a b d e=Λ->P ⟨a,b,d,e⟩):P l:=by cases l;exact c _ _ _ _ h
noncomputable def ku(e:Stmt)(k:(List Expr)->Expr->Pos->Bool):Bool:=if h:e.ctorIdx=5 then @Stmt.Assign.elim (λ_=>Bool) e h k else Ξ
noncomputable def cq(e:Expr)(k:Expr->Str->Pos->Bool):Bool:=if h:e.ctorIdx=20 then @Expr.Attribute.elim (λ_=>Bool) e h k else Ξ
noncomputable def zS(e:Expr)(k:Expr->Operator->Expr->Pos->Bool):Bool:=if h:e.ctorIdx=2 then @Expr.BinOp.elim (λ_=>Bool) e h k else Ξ
noncomputable def pM(e:Expr)(k:BoolOp->(List Expr)->Pos->Bool):Bool:=if h:e.ctorIdx=0 then @Expr.BoolOp.elim (λ_=>Bool) e h k else Ξ
noncomputable def cg(e:Expr)(k:Expr->(List Expr)->(List adU)->Pos->Bool):Bool:=if h:e.ctorIdx=16 then @Expr.Call.elim (λ_=>Bool) e h k else Ξ
noncomputable def mY(e:Expr)(k:Expr->(List CmpOp)->(List Expr)->Pos->Bool):Bool:=if h:e.ctorIdx=15 then @Expr.Compare.elim (λ_=>Bool) e h k else Ξ
noncomputable def oi(e:Expr)(k:Const->Nat->Pos->Bool):Bool:=if h:e.ctorIdx=19 then @Expr.Constant.elim (λ_=>Bool) e h k else Ξ
noncomputable def zT(e:Expr)(k:(List (Option Expr))->(List Expr)->Pos->Bool):Bool:=if h:e.ctorIdx=6 then @Expr.Dict.elim (λ_=>Bool) e h k else Ξ
noncomputable def uv(e:Stmt)(k:Expr->Pos->Bool):Bool:=if h:e.ctorIdx=24 then @Stmt.Expr.elim (λ_=>Bool) e h k else Ξ
noncomputable def qW(e:Stmt)(k:Expr->Expr->(List Stmt)->(List Stmt)->Pos->Bool):Bool:=if h:e.ctorIdx=9 then @Stmt.For.elim (λ_=>Bool) e h k else Ξ
noncomputable def jo(e:Stmt)(k:Str->ab2->(List Stmt)->(List Expr)->(Option Expr)->(List TypeParam)->Scope->(Option Scope)->Str->Pos->Bool):Bool:=if h:e.ctorIdx=0 then @Stmt.FunctionDef.elim (λ_=>Bool) e h k else Ξ
noncomputable def Iu(e:Stmt)(k:Expr->(List Stmt)->(List Stmt)->Pos->Bool):Bool:=if h:e.ctorIdx=12 then @Stmt.If.elim (λ_=>Bool) e h k else Ξ
noncomputable def vI(e:Expr)(k:ab2->Expr->Scope->Pos->Bool):Bool:=if h:e.ctorIdx=4 then @Expr.Lambda.elim (λ_=>Bool) e h k else Ξ
noncomputable def DC(e:Expr)(k:(List Expr)->Pos->Bool):Bool:=if h:e.ctorIdx=24 then @Expr.List.elim (λ_=>Bool) e h k else Ξ
noncomputable def k8(e:Expr)(k:Expr->(List ad1)->Scope->Pos->Bool):Bool:=if h:e.ctorIdx=8 then @Expr.ListComp.elim (λ_=>Bool) e h k else Ξ
noncomputable def bE(e:Expr)(k:Str->Pos->Bool):Bool:=if h:e.ctorIdx=23 then @Expr.Name.elim (λ_=>Bool) e h k else Ξ
noncomputable def mZ(e:Stmt)(k:(Option Expr)->Pos->Bool):Bool:=if h:e.ctorIdx=3 then @Stmt.Return.elim (λ_=>Bool) e h k else Ξ
noncomputable def jO(e:Expr)(k:Expr->Expr->Pos->Bool):Bool:=if h:e.ctorIdx=21 then @Expr.Subscript.elim (λ_=>Bool) e h k else Ξ
noncomputable def uw(e:Expr)(k:(List Expr)->Nat->Pos->Bool):Bool:=if h:e.ctorIdx=25 then @Expr.Tuple.elim (λ_=>Bool) e h k else Ξ
noncomputable def qX(e:Expr)(k:UnaryOp->Expr->Pos->Bool):Bool:=if h:e.ctorIdx=3 then @Expr.UnaryOp.elim (λ_=>Bool) e h k else Ξ
noncomputable def vJ(e:Stmt)(k:Expr->(List Stmt)->(List Stmt)->Pos->Bool):Bool:=if h:e.ctorIdx=11 then @Stmt.While.elim (λ_=>Bool) e h k else Ξ
section
variable{P:Expr->Prop}{e:Expr}
@[elab_as_elim] theorem cu{k}(h:cq e k=Λ)(c:∀x1 x2 x3,k x1 x2 x3=Λ->P (.Attribute x1 x2 x3)):P e:=if i:e.ctorIdx=20 then @Expr.Attribute.elim (λe=>cq e k=Λ->P e) e i c h else ke i h
@[elab_as_elim] theorem Ga{k}(h:zS e k=Λ)(c:∀x1 x2 x3 x4,k x1 x2 x3 x4=Λ->P (.BinOp x1 x2 x3 x4)):P e:=if i:e.ctorIdx=2 then @Expr.BinOp.elim (λe=>zS e k=Λ->P e) e i c h else ke i h
@[elab_as_elim] theorem vK{k}(h:pM e k=Λ)(c:∀x1 x2 x3,k x1 x2 x3=Λ->P (.BoolOp x1 x2 x3)):P e:=if i:e.ctorIdx=0 then @Expr.BoolOp.elim (λe=>pM e k=Λ->P e) e i c h else ke i h
@[elab_as_elim] theorem bc{k}(h:cg e k=Λ)(c:∀x1 x2 x3 x4,k x1 x2 x3 x4=Λ->P (.Call x1 x2 x3 x4)):P e:=if i:e.ctorIdx=16 then @Expr.Call.elim (λe=>cg e k=Λ->P e) e i c h else ke i h
@[elab_as_elim] theorem sO{k}(h:mY e k=Λ)(c:∀x1 x2 x3 x4,k x1 x2 x3 x4=Λ->P (.Compare x1 x2 x3 x4)):P e:=if i:e.ctorIdx=15 then @Expr.Compare.elim (λe=>mY e k=Λ->P e) e i c h else ke i h
@[elab_as_elim] theorem pN{k}(h:oi e k=Λ)(c:∀x1 x2 x3,k x1 x2 x3=Λ->P (.Constant x1 x2 x3)):P e:=if i:e.ctorIdx=19 then @Expr.Constant.elim (λe=>oi e k=Λ->P e) e i c h else ke i h
@[elab_as_elim] theorem Bq{k}(h:zT e k=Λ)(c:∀x1 x2 x3,k x1 x2 x3=Λ->P (.Dict x1 x2 x3)):P e:=if i:e.ctorIdx=6 then @Expr.Dict.elim (λe=>zT e k=Λ->P e) e i c h else ke i h
@[elab_as_elim] theorem DD{k}(h:vI e k=Λ)(c:∀x1 x2 x3 x4,k x1 x2 x3 x4=Λ->P (.Lambda x1 x2 x3 x4)):P e:=if i:e.ctorIdx=4 then @Expr.Lambda.elim (λe=>vI e k=Λ->P e) e i c h else ke i h
@[elab_as_elim] theorem Br{k}(h:DC e k=Λ)(c:∀x1 x2,k x1 x2=Λ->P (.List x1 x2)):P e:=if i:e.ctorIdx=24 then @Expr.List.elim (λe=>DC e k=Λ->P e) e i c h else ke i h
@[elab_as_elim] theorem iV{k}(h:k8 e k=Λ)(c:∀x1 x2 x3 x4,k x1 x2 x3 x4=Λ->P (.ListComp x1 x2 x3 x4)):P e:=if i:e.ctorIdx=8 then @Expr.ListComp.elim (λe=>k8 e k=Λ->P e) e i c h else ke i h
@[elab_as_elim] theorem aP{k}(h:bE e k=Λ)(c:∀x1 x2,k x1 x2=Λ->P (.Name x1 x2)):P e:=if i:e.ctorIdx=23 then @Expr.Name.elim (λe=>bE e k=Λ->P e) e i c h else ke i h
@[elab_as_elim] theorem nJ{k}(h:jO e k=Λ)(c:∀x1 x2 x3,k x1 x2 x3=Λ->P (.Subscript x1 x2 x3)):P e:=if i:e.ctorIdx=21 then @Expr.Subscript.elim (λe=>jO e k=Λ->P e) e i c h else ke i h
@[elab_as_elim] theorem qY{k}(h:uw e k=Λ)(c:∀x1 x2 x3,k x1 x2 x3=Λ->P (.Tuple x1 x2 x3)):P e:=if i:e.ctorIdx=25 then @Expr.Tuple.elim (λe=>uw e k=Λ->P e) e i c h else ke i h
@[elab_as_elim] theorem Bs{k}(h:qX e k=Λ)(c:∀x1 x2 x3,k x1 x2 x3=Λ->P (.UnaryOp x1 x2 x3)):P e:=if i:e.ctorIdx=3 then @Expr.UnaryOp.elim (λe=>qX e k=Λ->P e) e i c h else ke i h
end
section
variable{P:Stmt->Prop}{e:Stmt}
@[elab_as_elim] theorem mq{k}(h:ku e k=Λ)(c:∀x1 x2 x3,k x1 x2 x3=Λ->P (.Assign x1 x2 x3)):P e:=if i:e.ctorIdx=5 then @Stmt.Assign.elim (λe=>ku e k=Λ->P e) e i c h else ke i h
@[elab_as_elim] theorem yF{k}(h:uv e k=Λ)(c:∀x1 x2,k x1 x2=Λ->P (.Expr x1 x2)):P e:=if i:e.ctorIdx=24 then @Stmt.Expr.elim (λe=>uv e k=Λ->P e) e i c h else ke i h
@[elab_as_elim] theorem pO{k}(h:qW e k=Λ)(c:∀x1 x2 x3 x4 x5,k x1 x2 x3 x4 x5=Λ->P (.For x1 x2 x3 x4 x5)):P e:=if i:e.ctorIdx=9 then @Stmt.For.elim (λe=>qW e k=Λ->P e) e i c h else ke i h
@[elab_as_elim] theorem qZ{k}(h:jo e k=Λ)(c:∀x1 x2 x3 x4 x5 x6 x7 x8 x9 x10,k x1 x2 x3 x4 x5 x6 x7 x8 x9 x10=Λ->P (.FunctionDef x1 x2 x3 x4 x5 x6 x7 x8 x9 x10)):P e:=if i:e.ctorIdx=0 then @Stmt.FunctionDef.elim (λe=>jo e k=Λ->P e) e i c h else ke i h
@[elab_as_elim] theorem KR{k}(h:Iu e k=Λ)(c:∀x1 x2 x3 x4,k x1 x2 x3 x4=Λ->P (.If x1 x2 x3 x4)):P e:=if i:e.ctorIdx=12 then @Stmt.If.elim (λe=>Iu e k=Λ->P e) e i c h else ke i h
@[elab_as_elim] theorem sP{k}(h:mZ e k=Λ)(c:∀x1 x2,k x1 x2=Λ->P (.Return x1 x2)):P e:=if i:e.ctorIdx=3 then @Stmt.Return.elim (λe=>mZ e k=Λ->P e) e i c h else ke i h
@[elab_as_elim] theorem DE{k}(h:vJ e k=Λ)(c:∀x1 x2 x3 x4,k x1 x2 x3 x4=Λ->P (.While x1 x2 x3 x4)):P e:=if i:e.ctorIdx=11 then @Stmt.While.elim (λe=>vJ e k=Λ->P e) e i c h else ke i h
end
def isCall(e:Expr):Bool:=cg e λf xs ks _=>bE f λ_ _=>xs.isEmpty&&ks.isEmpty
def DF:W->Bool
 |.enum _=>Λ|_=>Ξ
noncomputable def XU:D->Const->Bool
 |.int i,c=>decide (c=.int i)|.bl i,c=>decide (c=.bool i)|.bG,c=>decide (c=.none)|.str i,c=>decide (c=.str i)|_,_=>Ξ
def Bt(d:D)(e:Expr):Bool:=oi e λc _ _=>XU d c
def glB(g:G):D->Str->Bool
 |.int i,x=>g.gl x&&decide (g.jn.lookup x=Δ i)&&aX x|_,_=>Ξ
def Eu(g:G)(k:E)(e:Expr):Bool:=match k with|.var i=>bE e λx _=>decide (g.N[i]?=Δ x)&&g.zO x&&aX x|.cst d=>Bt d e|_=>Ξ
mutual
def jq(g:G):E->Expr->Bool
 |.var i=>λe=>bE e λx _=>decide (g.N[i]?=Δ x)&&g.zO x&&aX x|.cst d=>λe=>Bt d e||bE e λx _=>glB g d x
 |.op o a b=>λe=>zS e λx p y _=>decide (p=Et o)&&jq g a x&&jq g b y|.not a=>λe=>qX e λop x _=>decide (op=.Not)&&jq g a x|.cmp o a b=>λe=>mY e λx ops ys _=>bj ops λp r=>bj ys λy s=>r.isEmpty&&s.isEmpty&&decide (p=lJ o)&&jq g a x&&jq g b y&&!cV y|.chain o o' a b c=>λe=>mY e λx ops ys _=>bj ops λp r=>bj r λq r'=>bj ys λy s=>bj s λz s'=>r'.isEmpty&&s'.isEmpty&&decide (p=lJ o)&&decide (q=lJ o')&&jq g a x&&jq g b y&&jq g c z&&!cV y&&!cV z|.and es=>λe=>pM e λop xs _=>decide (op=.And)&&iW g es xs|.or es=>λe=>pM e λop xs _=>decide (op=.Or)&&iW g es xs|.tup es=>λe=>uw e λxs _ _=>iW g es xs|.lst _ l=>λe=>MT g l e|.call f es=>λe=>cg e λf0 xs jZ _=>bE f0 λx _=>jZ.isEmpty&&decide (g.fns[f]?=Δ (x,es.length))&&g.gl x&&aX x&&iW g es xs|.Ib a T=>λe=>cg e λf0 xs jZ _=>bE f0 λn _=>bj xs λx r=>bj r λt0 r'=>bE t0 λt _=>jZ.isEmpty&&r'.isEmpty&&decide (n="isinstance")&&g.gl "isinstance"&&decide (t=aaC T)&&g.gl (aaC T)&&decide (T∈mX)&&jq g a x&&notStar x|.bf f es=>λe=>cg e λf0 xs jZ _=>bE f0 λn _=>jZ.isEmpty&&decide (n=zP f)&&g.gl (zP f)&&iW g es xs&&!xs.isEmpty|.ix a b=>λe=>jO e λx y _=>jq g a x&&jq g b y&&!zQ y|.qK _=>λe=>zT e λks vs _=>ks.isEmpty&&vs.isEmpty|.nI i es=>λe=>cg e λf0 xs jZ _=>bE f0 λx _=>jZ.isEmpty&&decide (g.N[i]?=Δ x)&&g.zO x&&aX x&&iW g es xs&&!xs.isEmpty&&g.cv|.eR f es ls=>λe=>cg e λf0 xs jZ _=>bE f0 λx _=>jZ.isEmpty&&g.MT f x es.length ls&&g.gl x&&aX x&&iW g es xs&&!xs.isEmpty|.j8 i es ls=>λe=>cg e λf0 xs jZ _=>bE f0 λx _=>jZ.isEmpty&&decide (g.N[i]?=Δ x)&&g.zO x&&aX x&&g.SF i x ls&&iW g es xs&&!xs.isEmpty|.lam k=>λe=>vI e λparams body scope pos=>g.SA k params body scope pos|.FO a b=>λe=>cg e λf0 xs jZ cp=>cq f0 λo n ap=>bj xs λx r=>r.isEmpty&&jZ.isEmpty&&(ap.endLine==cp.line)&&decide (n="pop")&&!isCall o&&jq g a o&&jq g b x&&notStar x|.u6 a b c=>λe=>cg e λf0 xs jZ cp=>cq f0 λo n ap=>bj xs λx r=>bj r λy r'=>r'.isEmpty&&jZ.isEmpty&&(ap.endLine==cp.line)&&decide (n="setdefault")&&!isCall o&&jq g a o&&jq g b x&&notStar x&&jq g c y&&notStar y|.FQ k d=>λe=>zT e λks vs _=>bj ks λk0 r=>zR k0 λkx=>bj vs λv0 r'=>r.isEmpty&&r'.isEmpty&&Eu g k kx&&Bt d v0|.FP a=>λe=>cg e λf0 xs jZ cp=>cq f0 λo n ap=>xs.isEmpty&&jZ.isEmpty&&(ap.endLine==cp.line)&&decide (n="pop")&&!isCall o&&jq g a o|.attr c f i=>λe=>cq e λo m _=>bE o λx _=>decide (m=f)&&g.AA c f&&decide (g.N[i]?=Δ x)&&g.zO x&&aX x|.qL k c m i es=>λe=>cg e λf0 xs jZ cp=>cq f0 λo mm ap=>bE o λx _=>jZ.isEmpty&&decide (mm=m)&&g.CL k c m es.length&&decide (g.N[i]?=Δ x)&&g.zO x&&aX x&&iW g es xs&&(ap.endLine==cp.line)&&decide (xs.length < 30)|.make k c es=>λe=>cg e λf0 xs jZ _=>bE f0 λx _=>jZ.isEmpty&&decide (x=c)&&g.CM k c es.length&&g.gl x&&aX x&&iW g es xs&&!xs.isEmpty
def okM(g:G):Option E->Option Expr->Bool
 |none=>λo=>o.isNone|some e=>λo=>zR o λx=>jq g e x
def iW(g:G):List E->List Expr->Bool
 |[]=>λl=>l.isEmpty|e::es=>λl=>bj l λx xs=>jq g e x&&notStar x&&iW g es xs
def XW(g:G):Option E->List Expr->Bool
 |none=>λl=>l.isEmpty|some c=>λl=>bj l λi r=>r.isEmpty&&jq g c i
def MT(g:G):L->Expr->Bool
 |.fO es=>λe=>DC e λxs _=>iW g es xs|.comp w ts js c e=>λe0=>k8 e0 λelt gens sc _=>bj gens λge r=>Ir ge λtg iter ifs a=>bE tg λx _=>r.isEmpty&&decide (ts=1)&&decide (a=0)&&XX g w iter&&!DF w&&KQ g 1 (iJ g x js) js sc&&decide (sc.names.lookup x=Δ .local)&&decide (iJ g x js).Nodup&&XW (g.inner (iJ g x js) sc) c ifs&&jq (g.inner (iJ g x js) sc) e elt&&!cV iter|.keys e=>λe0=>cg e0 λf0 xs jZ _=>bE f0 λn _=>bj xs λx r=>r.isEmpty&&jZ.isEmpty&&decide (n="list")&&g.gl "list"&&jq g e x&&notStar x|.iQ es=>λe0=>cg e0 λf0 ys jZ _=>bE f0 λn _=>bj ys λy r=>cg y λf1 xs OG _=>bE f1 λn1 _=>r.isEmpty&&jZ.isEmpty&&OG.isEmpty&&decide (n="list")&&g.gl "list"&&decide (n1="range")&&g.gl "range"&&iW g es xs|.zip a b=>λe0=>cg e0 λf0 ys jZ _=>bE f0 λn _=>bj ys λy r=>cg y λf1 xs OG _=>bE f1 λn1 _=>bj xs λx1 r1=>bj r1 λx2 r2=>r.isEmpty&&r2.isEmpty&&jZ.isEmpty&&OG.isEmpty&&decide (n="list")&&g.gl "list"&&decide (n1="zip")&&g.gl "zip"&&jq g a x1&&notStar x1&&jq g b x2&&notStar x2|.cF e js c ee=>λe0=>k8 e0 λelt gens sc _=>bj gens λge r=>Ir ge λtg iter ifs a=>bE tg λx _=>r.isEmpty&&decide (a=0)&&jq g e iter&&KQ g 1 (iJ g x js) js sc&&decide (sc.names.lookup x=Δ .local)&&decide (iJ g x js).Nodup&&XW (g.inner (iJ g x js) sc) c ifs&&jq (g.inner (iJ g x js) sc) ee elt&&!cV iter
def XX(g:G):W->Expr->Bool
 |.ex e=>λx=>jq g e x&&!cV x|.iQ es=>λx=>cg x λf0 xs jZ _=>bE f0 λn _=>jZ.isEmpty&&decide (n="range")&&g.gl "range"&&iW g es xs|.enum e=>λx=>cg x λf0 xs jZ _=>bE f0 λn _=>bj xs λy r=>r.isEmpty&&jZ.isEmpty&&decide (n="enumerate")&&g.gl "enumerate"&&jq g e y&&notStar y
end
def DG(K:KB)(c:List P->aM->R P)(n:Nat):Sp:=λvs H Q _=>∃m Z qs st,vs.length=n/\aj K H m Z qs vs/\aC K H m Z st/\Ok K Z (c qs st) m H (λp _ m' H'=>∀v,ak K H' m' Z p v->Q v H')
structure vL(X:Cx)(kt:KT)(c:List P->aM->R P)(x:Str)(n:Nat):Prop where
 ex:∃(k:Nat) (f:Addr) (fd:abt) (ps:List Str),iy X.prog X.w X.K X.mg X.base w6 k f fd ps (DG (af X kt) c n)/\
  dy k X.A/\X.mg x=Δ (.ref f)/\abS X.K (.ref f)=Λ/\Binds X.K fd ps []
noncomputable def vM:List Str:=["len","min","max","all","any","sum","str","tuple","list","int","bool","isinstance","range","zip","enumerate","sorted"]
def SG(K:KB)(c:List P->aM->R P)(cd:Addr)(q:Str)(b9:List V):Sp:=λvs H Q _=>H cd=Δ (.ext (dO cd q))/\∃m Z qs bz st,aj K H m Z qs vs/\aj K H m Z bz b9/\aC K H m Z st/\Ok K Z (c (qs++bz) st) m H (λp _ m' H'=>∀v,ak K H' m' Z p v->Q v H')
structure Ew(X:Cx)(kt:KT)(C:Nat->List P->aM->R P)(k:Nat)(a c:Addr)(b9:List V):Prop where
 ob:∃oc od fd sl,X.base.get? a=Δ ⟨oc,od,.func fd,sl⟩
 ex:∃(n:Nat) (fd:abt) (ps:List Str),iy X.prog X.w X.K X.mg X.base w6 n a fd ps (SG (af X kt) (C k) c (kt.Bm k) b9)/\dy n X.A/\Binds X.K fd ps []
structure Good(X:Cx)(kt:KT)(g:G)(C:Nat->List P->aM->R P):Prop where
 N:X.N=g.N
 loc:∀x,g.names.lookup x=Δ .local->X.env.scope.names.lookup x=Δ .local
 JP:∀x,(g.names.lookup x=Δ .cell\/g.names.lookup x=Δ .free)->(X.env.scope.names.lookup x=Δ .cell\/X.env.scope.names.lookup x=Δ .free)
 gl:∀x,g.names.lookup x=Δ .globalImplicit->X.env.scope.names.lookup x=Δ .globalImplicit
 calm:X.calm=Λ
 hu:X.A.units+100 < cLine
 bl:∀x∈vM,X.mg x=Θ
 fn:∀(k:Nat) (x:Str) (n:Nat),g.fns[k]?=Δ (x,n)->vL X kt (C k) x n
 cs:∀x i,g.jn.lookup x=Δ i->∃t,X.mg x=Δ (.int i t)
 tb:∀x t,g.tabs.lookup x=Δ t->∃a,X.mg x=Δ (.ref a)/\RY X.K a t
 fld:∀c f,g.AA c f=Λ->∃A,ZU X.K ZL c=Δ (Δ (.ref A))/\CG X.K A/\kP X.K A f
 QF:∀k c m n,g.CL k c m n=Λ->∃A l fa fd ps,ZU X.K ZL c=Δ (Δ (.ref A))/\CG X.K A/\CZ X.K A m fa/\iy X.prog X.w X.K X.mg X.base w6 l fa fd ps (DG (af X kt) (C k) (n+1))/\dy l X.A/\Binds X.K fd ps []
 QG:∀k c n,g.CM k c n=Λ->∃A l fa fd ps,X.mg c=Δ (.ref A)/\ZU X.K ZL c=Δ (Δ (.ref A))/\Mk X.K A fa/\iy X.prog X.w X.K X.mg X.base w6 l fa fd ps (DG (af X kt) (C k) (n+1))/\dy (l+1) X.A/\Binds X.K fd ps []
 sL:g.cv=Λ->∀k a c b9,kt.sL k a c b9->Ew X kt C k a c b9
 lam:∀k params body scope pos,g.SA k params body scope pos=Λ->∀Z,PE X (.Lambda params body scope pos) (tE (af X kt) Z (aa C (.lam k)))
 eR:∀f x n ls,g.MT f x n ls=Λ->∀(Z:List Addr) (e:Expr) (es:List Expr) (cy:List E) (p pos:Pos),cy.length=n->g.gl x=Λ->aX x=Λ->(∀y∈e::es,notStar y=Λ)->PA X (e::es) (tA (af X kt) Z (aE C cy))->
  PE X (.Call (.Name x p) (e::es) [] pos) (tE (af X kt) Z (aa C (.eR f cy ls)))
 j8:∀i x ls,g.SF i x ls=Λ->∀(Z:List Addr) (e:Expr) (es:List Expr) (cy:List E) (p pos:Pos),g.N[i]?=Δ x->g.zO x=Λ->aX x=Λ->(∀y∈e::es,notStar y=Λ)->PA X (e::es) (tA (af X kt) Z (aE C cy))->
  PE X (.Call (.Name x p) (e::es) [] pos) (tE (af X kt) Z (aa C (.j8 i cy ls)))
section
variable{X:Cx}{g:G}{C:Nat->List P->aM->R P}{Z:List Addr}{e:Expr}{es:List Expr}
theorem Good.zO(T:Good X kt g C)(h:g.zO x=Λ):QY X.env.scope x:=by
 unfold G.zO at h;split at h;·exact .inl (T.loc _ ‹_›)
 ·rcases T.JP x (.inl ‹_›) with q|q;·exact .inr (.inl q)
  ·exact .inr (.inr q)
 ·rcases T.JP x (.inr ‹_›) with q|q;·exact .inr (.inl q)
  ·exact .inr (.inr q)
 ·exact ft h
theorem Good.glob(T:Good X kt g C)(h:g.gl x=Λ):Gl X x:=T.gl x (of_decide_eq_true h)
theorem PE.imp(h:PE X e t)(i:∀σ H Q,t' σ H Q->t σ H Q):PE X e t':=λpins s σ H Q I q=>h pins s σ H Q I (i σ H Q q)
theorem PT.imp(h:PT X e t)(i:∀σ H Q,t' σ H Q->t σ H Q):PT X e t':=λpins s σ H Q I q=>h pins s σ H Q I (i σ H Q q)
theorem PW.imp(h:PW X e t)(i:∀σ H Q,t' σ H Q->t σ H Q):PW X e t':=λwh pins s σ H Q I q=>h wh pins s σ H Q I (i σ H Q q)
theorem PA.imp(h:PA X es t)(i:∀σ H Q,t' σ H Q->t σ H Q):PA X es t':=λpos pins s σ H Q I q=>h pos pins s σ H Q I (i σ H Q q)
theorem pn(h:aX x=Λ):(x==("__debug__":Str))=Ξ/\(x==("__classdict__":Str))=Ξ/\x≠"__name__":=by unfold aX at h;simp only[Zr,aab] at h;exact⟨h.1.1,h.1.2,λz=>by rw[z] at h;exact absurd h.2 (by simp)⟩
theorem bP(h:notStar e=Λ):Z9 (e::es) env=(Ξ,eval e env)::Z9 es env:=by
 cases e<;>first
  |rfl
  |exact absurd (show Ξ=Λ from h) aat
theorem Bu(T:Good X kt g C)(h1:g.N[i]?=Δ x)(h2:g.zO x=Λ)(h3:aX x=Λ):PE X (.Name x pos) (tE (af X kt) Z (aa C (.var i))):=by
 refine PE.imp (CO (i:=i) (by rw[T.N];exact h1) (T.zO h2) (pn h3).1 (pn h3).2.1) ?_;rintro σ H Q ⟨m,r,st,ar,as,h⟩;refine aB (λp e q _=>?_) (Ok.of (show Ok (af X kt) Z (R.of (lR r i) st) m H _ from h) as);have e':r[i]?=Δ (Δ p):=by unfold lR at e;cases q:r[i]? with|none=>rw[q] at e;exact aQ e|some o=>rw[q] at e;simp at e;rw[e]
 obtain⟨v,ev,rv⟩:=ar.at_ i p e';exact⟨v,ev,q v rv⟩
theorem Bv(h:PE X e (tC v))(hr:∀H m,aI (af X kt) H m Z x v):PE X e (tE (af X kt) Z (aa C (.cst x))):=by refine PE.imp h ?_;rintro σ H Q ⟨m,r,st,ar,as,q⟩;exact Ok.here (show Ok (af X kt) Z (R.ok (P.d x) st) m H _ from q) as v (hr H m)
theorem Iv(h:Bt d e=Λ):∃v,PE X e (tC v)/\∀K H m Z,aI K H m Z d v:=by refine pN h λc _ _ h=>?_;cases d with|int i=>obtain rfl:=of_decide_eq_true h;exact⟨_,G1,λ_ _ _ _=>rfl⟩|bl i=>obtain rfl:=of_decide_eq_true h;exact⟨_,Mu,λ_ _ _ _=>rfl⟩|bG=>obtain rfl:=of_decide_eq_true h;exact⟨_,G3,λ_ _ _ _=>rfl⟩|str i=>obtain rfl:=of_decide_eq_true h;exact⟨_,G4,λ_ _ _ _=>rfl⟩|tup _=>exact ft h|pl _=>exact ft h
theorem KS(T:Good X kt g C)(h:Eu g k e=Λ):∃tk,PE X e tk/\∀{σ} {H} {m} {ρ} {st},cI (af X kt) H m Z ρ σ->aa C k ρ st=.no\/∃y v,aa C k ρ st=.ok y st/\ak (af X kt) H m Z y v/\∀(Q) (H'),Q v H'->tk σ H' Q:=by
 unfold Eu at h;split at h
 ·rename_i i;refine aP h λ_ _ h=>?_
  ·simp only[Zr,decide_eq_true_eq] at h;refine⟨_,CO (i:=i) (by rw[T.N];exact h.1.1) (T.zO h.1.2) (pn h.2).1 (pn h.2).2.1,λ{σ H m ρ st} ar=>?_⟩;rw[mT];cases e:lR ρ i with
   |none=>exact .inl rfl|some p=>
    have e':ρ[i]?=Δ (Δ p):=by unfold lR at e;cases q:ρ[i]? with|none=>rw[q] at e;exact aQ e|some o=>rw[q] at e;simp at e;rw[e]
    obtain⟨v,ev,rv⟩:=ar.at_ i p e';exact .inr ⟨p,v,rfl,rv,λQ H' q=>⟨v,ev,q⟩⟩
 ·rename_i d;obtain⟨v,hv,hr⟩:=Iv (X:=X) h;exact⟨_,hv,λ{σ H m ρ st} ar=>.inr ⟨.d d,v,rfl,(show aI (af X kt) H m Z d v from hr _ _ _ _),λQ H' q=>q⟩⟩
 ·exact ft h
theorem Ex{f:Value->Value->Sem Value}{r:R2}{da db:cb->aM->R P}{k:P->P->aM->R P}{σ:L2.St}{H:Hp}{Q:VK}
  (hr:∀(x y:P) (v u:V) (m:List Addr) (H:Hp) (st:aM) (Q:VK),aC (af X kt) H m Z st->ak (af X kt) H m Z x v->ak (af X kt) H m Z y u->Ok (af X kt) Z (k x y st) m H (λp _ m' H'=>∀v,ak (af X kt) H' m' Z p v->Q v H')->r v u H Q)
  (h:tE (af X kt) Z (λρ st=>(da ρ st).bind λx st1=>(db ρ st1).bind λy st2=>k x y st2) σ H Q):Rj r (tE (af X kt) Z da) (tE (af X kt) Z db) σ H Q:=by
 obtain⟨m,ρ,st,ar,as,h⟩:=h;refine⟨m,ρ,st,ar,as,(Ok.bind h).mono λx st1 m1 H1 bY bp h1 v rv=>?_⟩;refine⟨m1,ρ,st1,ar.le bY,bp,(Ok.bind h1).mono λy st2 m2 H2 fP fA h2 u ru=>?_⟩;exact hr x y v u m2 H2 st2 Q fA (rv.le fP) ru h2
theorem aq.map{K:KB}:∀{xs} {us},aq K H m Z xs us->aj K H m Z (xs.map .d) us
 |[],_,h=>h|x::xs,us,h=>by refine ah (λv vs e r rs=>?_) ((show ∃v vs,us=v::vs/\aI K H m Z x v/\aq K H m Z xs vs from h));exact⟨v,vs,e,r,aq.map rs⟩
theorem aj.bC{K:KB}:∀{ps} {xs} {us},aj K H m Z ps us->Y.bC ps=Δ xs->aq K H m Z xs us
 |[],xs,us,h,e=>by obtain rfl:=sj e;exact h|p::ps,xs,us,h,e=>by refine ah (λv vs e1 r rs=>?_) ((show ∃v vs,us=v::vs/\ak K H m Z p v/\aj K H m Z ps vs from h));cases p with|obj n=>exact aQ e|jg n=>exact aQ e|fn k c=>exact aQ e|lf k=>exact aQ e|d x=>have e':(Y.bC ps).map (λxs=>x::xs)=Δ xs:=e;cases q:Y.bC ps with|none=>rw[q] at e';exact aQ e'|some zs=>rw[q] at e';obtain rfl:=sj e';exact⟨v,vs,e1,r,aj.bC rs q⟩
theorem aj.append{K:KB}:∀{ps qs} {us vs},aj K H m Z ps us->aj K H m Z qs vs->aj K H m Z (ps++qs) (us++vs)
 |[],_,us,_,h,h'=>by obtain rfl:=show us=[] from h;exact h'|p::ps,qs,us,vs,h,h'=>by refine ah (λv w' aH r rs=>?_) ((show ∃v vs,us=v::vs/\ak K H m Z p v/\aj K H m Z ps vs from h));subst aH;exact⟨v,w'++vs,rfl,r,aj.append rs h'⟩
theorem aq.append{K:KB}:∀{ps qs} {us vs},aq K H m Z ps us->aq K H m Z qs vs->aq K H m Z (ps++qs) (us++vs)
 |[],_,us,_,h,h'=>by obtain rfl:=show us=[] from h;exact h'|p::ps,qs,us,vs,h,h'=>by refine ah (λv w' aH r rs=>?_) ((show ∃v vs,us=v::vs/\aI K H m Z p v/\aq K H m Z ps vs from h));subst aH;exact⟨v,w'++vs,rfl,r,aq.append rs h'⟩
theorem aq.length{K:KB}:∀{ps} {us},aq K H m Z ps us->us.length=ps.length
 |[],us,h=>by obtain rfl:=show us=[] from h;rfl|p::ps,us,h=>by refine ah (λv w' aH r rs=>?_) ((show ∃v vs,us=v::vs/\aI K H m Z p v/\aq K H m Z ps vs from h));subst aH;rw[ZS,ZS,aq.length rs]
theorem aj.length{K:KB}:∀{ps} {us},aj K H m Z ps us->us.length=ps.length
 |[],us,h=>by obtain rfl:=show us=[] from h;rfl|p::ps,us,h=>by refine ah (λv w' aH r rs=>?_) ((show ∃v vs,us=v::vs/\ak K H m Z p v/\aj K H m Z ps vs from h));subst aH;rw[ZS,ZS,aj.length rs]
theorem aj.get{K:KB}:∀{ps} {us} {i:Nat} {p},aj K H m Z ps us->ps[i]?=Δ p->∃v,us[i]?=Δ v/\ak K H m Z p v
 |[],us,i,p,h,e=>by simp at e|q::ps,us,i,p,h,e=>by refine ah (λv w' aH r rs=>?_) ((show ∃v vs,us=v::vs/\ak K H m Z q v/\aj K H m Z ps vs from h));subst aH;cases i with|zero=>simp at e;subst e;exact⟨v,by simp,r⟩|succ i=>simpa using aj.get rs (by simpa using e)
theorem fH{K:KB}{st:aM}(as:aC K H m Z st)(h:de st p=Δ ps)(r:ak K H m Z p v):∃a us,v=.ref a/\Rd H a (.lst us)/\aj K H m Z ps us:=by
 cases p with
 |d x=>cases x with|pl xs=>have e:Δ (xs.map P.d)=Δ ps:=h;obtain rfl:=sj e;revert r;refine bq λa us e q _ _ rs=>?_;exact⟨a,us,e,q,rs.map⟩|_=>exact aQ h
 |obj n=>
  obtain⟨a,e,rfl⟩:=r;have h':(match st[n]? with|some (.lst xs)=>Δ xs|_=>Θ)=Δ ps:=h;split at h';·rename_i xs hs;obtain rfl:=sj h';obtain⟨a',e',o⟩:=as.at_ n _ hs;rw[e] at e';obtain rfl:=sj e';obtain⟨us,hu,rs⟩:=o;exact⟨a,us,rfl,.inl hu,rs⟩
  ·exact aQ h'
 |jg n=>exact aQ h|fn k c=>exact aQ h|lf k=>exact aQ h
theorem Bw{K:KB}:∀ns:List Int,aj K H m Z (ns.map λi=>P.d (.int i)) (ns.map V.int)
 |[]=>rfl|n::ns=>⟨_,_,rfl,rfl,Bw ns⟩
theorem m5{K:KB}{st:aM}(as:aC K H m Z st)(h:fz st p=Δ ps)(r:ak K H m Z p v):∃a us,v=.ref a/\(nz K.K H a us\/H a=Δ (.tup us))/\aj K H m Z ps us:=by
 cases p with
 |d x=>cases x with|tup xs=>have e:Δ (xs.map P.d)=Δ ps:=h;obtain rfl:=sj e;revert r;refine ah λa us e q rs=>?_;exact⟨a,us,e,.inr q,rs.map⟩|pl xs=>refine ah (λa us e q rs=>?_) (fH as (show de st (.d (.pl xs))=Δ ps from h) r);exact⟨a,us,e,.inl (.inl q),rs⟩|bG=>exact aQ h|bl b=>exact aQ h|int b=>exact aQ h|str b=>exact aQ h
 |obj n=>refine ah (λa us e q rs=>?_) (fH as (show de st (.obj n)=Δ ps from h) r);exact⟨a,us,e,.inl (.inl q),rs⟩|jg n=>have e:Δ (n.map λi=>P.d (.int i))=Δ ps:=h;obtain rfl:=sj e;obtain⟨a,e,q⟩:=r;exact⟨a,_,e,.inl q.sq,Bw n⟩|fn k c=>exact aQ h|lf k=>exact aQ h
theorem MU{K:ZE}(h:nz K H a us\/H a=Δ (.tup us)):nz K H a us\/g7 K H a us:=h.imp_right g7.of
theorem ux{K:KB}{H:Hp}{m Z:List Addr}{st:aM}{xs:List D}{us:List V}{α:Type}{Q:V->Hp->Prop}(as:aC K H m Z st)(r:aq K H m Z xs us){a:Addr}(ha:H a=Θ)
  (h:Ok K Z (R.ok (P.d (.tup xs)) st) m H (λp _ m' H'=>∀v,ak K H' m' Z p v->Q v H')):Q (.ref a) (upd H a (.tup us)):=by
 have le:Le K m H m (upd H a (.tup us)):=Le.same (bu ha _);exact h m (upd H a (.tup us)) le (as.same (bu ha _)) (.ref a) ⟨a,us,rfl,aG,r.le le⟩
theorem OH{K:KB}{st:aM}{Q:V->Hp->Prop}(as:aC K H m Z st)(r:aq K H m Z xs us)(ha:H a=Θ)(h:Ok K Z (R.ok (P.d (.pl xs)) st) m H (λp _ m' H'=>∀v,ak K H' m' Z p v->Q v H')):Q (.ref a) (upd H a (.lst us)):=by have le:Le K m H m (upd H a (.lst us)):=Le.same (bu ha _);exact h m (upd H a (.lst us)) le (as.same (bu ha _)) (.ref a) ⟨a,us,rfl,.inl aG,(as.fresh ha).1,(as.fresh ha).2,r.le le⟩
end
section
variable{X:Cx}{g:G}{C:Nat->List P->aM->R P}{Z:List Addr}{e:Expr}{es:List Expr}
theorem dG:au=Z3:=by rw[aa2];rfl
theorem Ey(h:Rd H a (.lst xs))(I:Inv X pins σ H s):
  xs.length<=Z3/\∃(its:List Value) (n:Nat),aY xs its/\s.heap.get? a=Δ {cls:=.type "list",data:=.seq its.toArray n}:=h.ok I.aN
def MV:R2:=λx y H Q=>∃l b xs zs,x=.ref l/\y=.ref b/\Rd H l (.lst xs)/\Rd H b (.lst zs)/\xs.length+zs.length<=Z3/\∀p,H p=Θ->Q (.ref p) (upd H p (.lst (xs++zs)))
theorem KU:kj X (abp .Add) MV:=by
 intro pins s σ H x y v u Q I rx ry h;revert h;refine fD λl b xs zs aH iz hH hB hz q=>?_;subst aH;subst iz;obtain rfl:=rx;obtain rfl:=ry;refine qt (λz its n r e=>?_) (Ey hH I);refine qt (λz2 Ho n2 r2 e2=>?_) (Ey hB I);have hl:=r.length;have A7:=r2.length;refine PySem.P.add_list e e2 ?_ (by rw[ZQ,ZQ];lia);have ea:its.toArray++Ho.toArray=(its++Ho).toArray:=by simp
 rw[ea];exact⟨.ref _,_,I.WX (t':=s.toks) (r.append r2) (by rw[ZW];lia),rfl,q _ I.fresh⟩
noncomputable def XY:R2:=λx y H Q=>∃i j,x=.str i/\y=.str j/\i.length+j.length<=Z3/\Q (.str (i++j)) H
def SH(K:ZE):Sv->R2
 |.add=>λv u H Q=>xY (λi j=>.int (i+j)) v u H Q\/XY v u H Q\/MC v u H Q\/MV v u H Q|.sub=>xY λi j=>.int (i - j)|.mul=>λv u H Q=>rI J4 (λi j=>.int (i*j)) v u H Q\/MD v u H Q\/MF v u H Q\/MG v u H Q|.mod=>rI (λ_ j=>0 < j) λi j=>.int (i % j)|.band=>xY λi j=>.int (aex i j)|.bor=>xY λi j=>.int (aeH i j)|.bxor=>xY λi j=>.int (aew i j)
theorem OI:∀o,kj X (abp (Et o)) (SH X.K o)
 |.add=>NB.or (CW.or (Ky.or KU))|.sub=>NC|.mul=>ND.or (Hx.or (Hz.or HA))|.mod=>NG|.band=>NH|.bor=>Rl|.bxor=>NI
theorem KW(hi:bit i)(hj:bit j):aex i j=if i=1/\j=1 then 1 else 0:=by rcases hi with rfl|rfl<;>rcases hj with rfl|rfl<;>decide+kernel
theorem OJ(hi:bit i)(hj:bit j):aeH i j=if i=1\/j=1 then 1 else 0:=by rcases hi with rfl|rfl<;>rcases hj with rfl|rfl<;>decide+kernel
theorem KY(hi:bit i)(hj:bit j):aew i j=if i=j then 0 else 1:=by rcases hi with rfl|rfl<;>rcases hj with rfl|rfl<;>decide+kernel
theorem OK{K:KB}{st:aM}(as:aC K H m Z st)(rx:ak K H m Z x v)(ry:ak K H m Z y u)(h:Ok K Z (R.of (KJ o x y st) st) m H (λp _ m' H'=>∀v,ak K H' m' Z p v->Q v H')):SH K.K o v u H Q:=by
 refine aB (λp e q qq=>?_) (Ok.of h as);unfold KJ at e;split at e
 ·rename_i i j;obtain rfl:=show v=.int i from rx;obtain rfl:=show u=.int j from ry;cases o with
  |add=>obtain rfl:=sj e;exact .inl ⟨i,j,rfl,rfl,q _ rfl⟩|sub=>obtain rfl:=sj e;exact⟨i,j,rfl,rfl,q _ rfl⟩|mul=>
   unfold mQ at e;simp only at e;split at e;·rename_i hc;obtain rfl:=sj e;exact .inl ⟨i,j,rfl,rfl,hc,q _ rfl⟩
   ·exact aQ e
  |mod=>
   unfold mQ at e;simp only at e;split at e;·rename_i hc;obtain rfl:=sj e;exact⟨i,j,rfl,rfl,hc,q _ rfl⟩
   ·exact aQ e
  |band=>
   unfold mQ at e;simp only at e;split at e;·rename_i hc;obtain rfl:=sj e;refine⟨i,j,rfl,rfl,?_⟩;dsimp only;rw[KW hc.1 hc.2];exact q _ rfl
   ·exact aQ e
  |bor=>
   unfold mQ at e;simp only at e;split at e;·rename_i hc;obtain rfl:=sj e;refine⟨i,j,rfl,rfl,?_⟩;dsimp only;rw[OJ hc.1 hc.2];exact q _ rfl
   ·exact aQ e
  |bxor=>
   unfold mQ at e;simp only at e;split at e;·rename_i hc;obtain rfl:=sj e;refine⟨i,j,rfl,rfl,?_⟩;dsimp only;rw[KY hc.1 hc.2];exact q _ rfl
   ·exact aQ e
 ·rename_i x y;obtain rfl:=show v=.str x from rx;obtain rfl:=show u=.str y from ry;split at e;·rename_i hc;obtain rfl:=sj e;exact .inr (.inl ⟨x,y,rfl,rfl,by rw[<-dG];exact hc,q _ rfl⟩)
  ·exact aQ e
 ·rename_i xs ys;revert rx;refine ah λa us aH ha ra=>?_;subst aH;revert ry;refine ah λb vs aH hb rb=>?_;subst aH;split at e;·rename_i hc;obtain rfl:=sj e;refine .inr (.inr (.inl ⟨a,b,us,vs,rfl,rfl,ha,hb,by rw[ra.length,rb.length,<-dG];exact hc,λr H' sm hr=>?_⟩));have le:Le K m H m H':=Le.same sm;exact qq m H' le (as.same sm) (.ref r) ⟨r,us++vs,rfl,hr,(ra.append rb).le le⟩
  ·exact aQ e
 ·rename_i xs k;revert rx;refine ah λa us aH ha ra=>?_;subst aH;obtain rfl:=show u=.int k from ry;split at e;·rename_i hc;obtain rfl:=sj e;subst hc;exact .inr (.inr (.inr ⟨a,us,rfl,rfl,ha,q (.ref a) ⟨a,us,rfl,ha,ra⟩⟩))
  split at e
  ·rename_i hc;obtain rfl:=sj e;obtain⟨rfl,h1,h2⟩:=hc;refine .inr (.inl ⟨a,us,rfl,rfl,ha,λz=>?_,by rw[ra.length];exact h2,λp hp=>?_⟩)
   ·have:=ra.length;rw[z] at this;simp at this
    lia
   ·exact ux (α:=Unit) as (ra.append ra) hp qq
  split at e
  ·rename_i hc;obtain rfl:=sj e;obtain⟨rfl,h1,h2⟩:=hc;refine .inr (.inr (.inl ⟨a,us,rfl,rfl,ha,λz=>?_,by rw[ra.length];exact h2,λp hp=>?_⟩))
   ·have:=ra.length;rw[z] at this;simp at this
    lia
   ·exact ux (α:=Unit) as ((ra.append ra).append ra) hp qq
  ·exact aQ e
 ·rename_i h1 h2 h3;cases ha:de st x with
  |none=>rw[ha] at e;exact aQ e|some ps=>
   cases hb:de st y with
   |none=>rw[ha,hb] at e;exact aQ e|some qs=>
    rw[ha,hb] at e;simp only[aax] at e;cases hz:bC (ps++qs) with
    |none=>rw[hz] at e;exact aQ e|some zs=>
     rw[hz] at e;simp only[aax] at e;split at e;·rename_i hc;obtain rfl:=sj e;refine ah (λc us aH hc1 rc=>?_) (fH as ha rx);subst aH;refine ah (λd vs aH hd1 rd=>?_) (fH as hb ry);subst aH;have rr:=(rc.append rd).bC hz;have hlen:=rr.length;rw[ZW] at hlen;refine .inr (.inr (.inr ⟨c,d,us,vs,rfl,rfl,hc1,hd1,by rw[<-dG];lia,λp hp=>?_⟩));exact OH as rr hp qq
     ·exact aQ e
 ·exact aQ e
theorem XZ(ha:PE X a (tE (af X kt) Z (aa C ea)))(hb:PE X b (tE (af X kt) Z (aa C eb))):PE X (.BinOp a (Et o) b pos) (tE (af X kt) Z (aa C (.op o ea eb))):=
 PE.imp (Rk (OI o) ha hb) λσ H Q h=>Ex (f:=abp (Et o)) (λx y v u m H st Q as rx ry h=>OK as rx ry h) h
theorem dt{α β:Type}{o:Option α}{f:α->Option β}{b:β}(h:o.bind f=Δ b):∃a,o=Δ a/\f a=Δ b:=by cases o with|none=>exact aQ h|some a=>exact⟨a,rfl,h⟩
theorem iX{α β:Type}{o:Option α}{f:α->β}{b:β}(h:o.map f=Δ b):∃a,o=Δ a/\f a=b:=by cases o with|none=>exact aQ h|some a=>exact⟨a,rfl,by simpa using h⟩
theorem mr{K:KB}{st:aM}(as:aC K H m Z st)(h:kY st p=Δ x)(r:ak K H m Z p v):aI K H [] [] x v:=by
 cases p with
 |d y=>obtain rfl:=sj h;exact aI.bare r|obj n=>
  obtain⟨a,e,rfl⟩:=r;have h':(match st[n]? with|some (.lst xs)=>(bC xs).map D.pl|_=>Θ)=Δ x:=h;split at h';·rename_i xs hs;obtain⟨a',e',o⟩:=as.at_ n _ hs;rw[e] at e';obtain rfl:=sj e';obtain⟨us,hu,rs⟩:=o;cases hd:bC xs with|none=>rw[hd] at h';exact aQ h'|some ys=>rw[hd] at h';obtain rfl:=sj h';exact⟨a,us,rfl,.inl hu,by simp,by simp,(rs.bC hd).bare⟩
  ·exact aQ h'
 |jg n=>exact aQ h|fn k c=>exact aQ h|lf k=>exact aQ h
theorem ak.key{K:KB}(r:ak K H m Z p v)(e:keyOf p=Δ k):v=kV k:=by
 unfold keyOf at e;split at e;·obtain rfl:=sj e;exact r
 ·obtain rfl:=sj e;exact r
 ·exact aQ e
theorem aq.keys{K:KB}:∀{xs} {ks} {us},aq K H m Z xs us->keysOf xs=Δ ks->us=ks.map kV
 |[],ks,us,h,e=>by obtain rfl:=sj e;exact h|x::xs,ks,us,h,e=>by refine ah (λv vs aH r rs=>?_) ((show ∃v vs,us=v::vs/\aI K H m Z x v/\aq K H m Z xs vs from h));subst aH;unfold keysOf at e;cases e1:keyOf (.d x) with|none=>rw[e1] at e;exact aQ e|some k=>rw[e1] at e;cases e2:keysOf xs with|none=>rw[e2] at e;exact aQ e|some k2=>rw[e2] at e;obtain rfl:=sj e;rw[aq.keys rs e2,ak.key (show ak K H m Z (.d x) v from r) e1];rfl
theorem ak.kZ{K:KB}(r:ak K H m Z p v)(e:Y.kZ p=Δ k):∃b,v=.ref b/\H b=Δ (.tup (k.map kV)):=by
 unfold Y.kZ at e;split at e;·revert r;refine ah λb us aH h1 rs=>?_;subst aH;exact⟨b,rfl,by rw[<-aq.keys rs e];exact h1⟩
 ·exact aQ e
theorem aS.val{κ:Type}[DecidableEq κ]{K:KB}{k:κ}:∀{kvs} {us},aS K H m Z kvs us->(gz us k).isSome=(fU kvs k).isSome/\∀p,fU kvs k=Δ p->∃v,gz us k=Δ v/\ak K H m Z p v
 |[],us,h=>by obtain rfl:=show us=[] from h;exact⟨rfl,λp e=>by exact aQ e⟩|x::xs,us,h=>by
  refine ah (λv vs aH r rs=>?_) ((show ∃v vs,us=(x.1,v)::vs/\ak K H m Z x.2 v/\aS K H m Z xs vs from h));subst aH;obtain⟨i1,i2⟩:=aS.val (k:=k) rs;by_cases hk:x.1=k
  ·have e1:gz ((x.1,v)::vs) k=Δ v:=o7 hk;have e2:fU (x::xs) k=Δ x.2:=by simp[fU,aaO,hk]
   rw[e1,e2];exact⟨rfl,λp e=>by obtain rfl:=sj e;exact⟨v,rfl,r⟩⟩
  ·have e1:gz ((x.1,v)::vs) k=gz vs k:=o8 hk;have e2:fU (x::xs) k=fU xs k:=by simp[fU,aaO,hk]
   rw[e1,e2];exact⟨i1,i2⟩
theorem aS.length{κ:Type}{K:KB}{m:List Addr}:∀{kvs:List (κ×P)} {us:List (κ×V)},aS K H m Z kvs us->us.length=kvs.length
 |[],us,h=>by obtain rfl:=show us=[] from h;rfl|x::xs,us,h=>by refine ah (λv vs aH r rs=>?_) ((show ∃v vs,us=(x.1,v)::vs/\ak K H m Z x.2 v/\aS K H m Z xs vs from h));subst aH;rw[ZS,ZS,aS.length rs]
theorem aS.app{κ:Type}{K:KB}{k:κ}(rp:ak K H m Z p v):∀{kvs} {us},aS K H m Z kvs us->aS K H m Z (kvs++[(k,p)]) (us++[(k,v)])
 |[],us,h=>by obtain rfl:=show us=[] from h;exact⟨v,[],rfl,rp,rfl⟩|x::xs,us,h=>by refine ah (λv' vs aH r rs=>?_) ((show ∃v vs,us=(x.1,v)::vs/\ak K H m Z x.2 v/\aS K H m Z xs vs from h));subst aH;exact⟨v',vs++[(k,v)],rfl,r,aS.app rp rs⟩
theorem aS.Fq{κ:Type}[DecidableEq κ]{K:KB}{k:κ}(rp:ak K H m Z p v):∀{kvs} {us},aS K H m Z kvs us->
  aS K H m Z (kvs.map λkv=>if kv.1=k then(kv.1,p) else kv) (us.map λkv=>if kv.1=k then(kv.1,v) else kv)
 |[],us,h=>by obtain rfl:=show us=[] from h;rfl|x::xs,us,h=>by
  refine ah (λv' vs aH r rs=>?_) ((show ∃v vs,us=(x.1,v)::vs/\ak K H m Z x.2 v/\aS K H m Z xs vs from h));subst aH;have ih:=aS.Fq (k:=k) rp rs;rw[ZH,ZH];by_cases hk:x.1=k;·rw[if_pos hk,if_pos hk];exact⟨v,_,rfl,rp,ih⟩
  ·rw[if_neg hk,if_neg hk];exact⟨v',_,rfl,r,ih⟩
theorem aS.put{κ:Type}[DecidableEq κ]{K:KB}{k:κ}{kvs:List (κ×P)}{us:List (κ×V)}(rs:aS K H m Z kvs us)(rp:ak K H m Z p v):aS K H m Z (nq kvs k p) (putK us k v):=by
 have e:(us.any λkv=>decide (kv.1=k))=(kvs.any λkv=>decide (kv.1=k)):=by
  have e2:∀kvs:List (κ×P),(kvs.any λkv=>decide (kv.1=k))=(fU kvs k).isSome:=λkvs=>by
   unfold fU;rw[acu];induction kvs with
   |nil=>rfl|cons x xs ih=>
    rw[abN,aaO];cases hx:decide (x.1=k);·simpa using ih
    ·rfl
  rw[uS,(rs.val (k:=k)).1,e2]
 unfold nq putK;rw[e];split;·exact rs.Fq rp
 ·exact rs.app rp
theorem vN{K:KB}{st:aM}(as:aC K H m Z st)(h:bJ st p=Δ o)(r:ak K H m Z p v):∃n a,p=.obj n/\st[n]?=Δ o/\m[n]?=Δ a/\v=.ref a/\tG K H m Z a o/\kq o=Λ:=by
 unfold bJ at h;cases p with
 |d x=>exact aQ h|jg x=>exact aQ h|fn k c=>exact aQ h|lf k=>exact aQ h|obj n=>
  obtain⟨a,e,rfl⟩:=r;cases hs:st[n]? with
  |none=>rw[show FT st (.obj n)=st[n]? from rfl,hs] at h;exact aQ h|some o'=>
   rw[show FT st (.obj n)=st[n]? from rfl,hs] at h;have h':(if kq o'=Λ then Δ o' else Θ)=Δ o:=h;split at h';·rename_i hd;obtain rfl:=sj h';obtain⟨a',e',q⟩:=as.at_ n _ hs;rw[e] at e';obtain rfl:=sj e';exact⟨n,a,rfl,hs,e,rfl,q,hd⟩
   ·exact aQ h'
theorem Ez{K:KB}(ao:tG K H m Z a o)(rk:ak K H m Z k y)(h:pH o k=Δ res):∃ov,pd H a y ov/\ov.isSome=res.isSome/\∀p,res=Δ p->∃v,ov=Δ v/\ak K H m Z p v:=by
 cases o with
 |lst xs=>exact aQ h|ins c fs=>exact aQ h|xo=>exact aQ h|dK kvs=>obtain⟨us,hu,rs⟩:=ao;cases hk:keyOf k with|none=>rw[show pH (.dK kvs) k=(keyOf k).map _ from rfl,hk] at h;exact aQ h|some kk=>rw[show pH (.dK kvs) k=(keyOf k).map _ from rfl,hk] at h;obtain rfl:=sj h;obtain⟨i1,i2⟩:=rs.val (k:=kk);refine⟨gz us kk,?_,i1,λp hp=>i2 p hp⟩;rw[rk.key hk];exact pd.k hu
 |dT kvs=>obtain⟨us,hu,rs⟩:=ao;cases hk:kZ k with|none=>rw[show pH (.dT kvs) k=(kZ k).map _ from rfl,hk] at h;exact aQ h|some kk=>rw[show pH (.dT kvs) k=(kZ k).map _ from rfl,hk] at h;obtain rfl:=sj h;obtain⟨i1,i2⟩:=rs.val (k:=kk);obtain⟨b,rfl,hb⟩:=rk.kZ hk;exact⟨gz us kk,pd.t hu hb,i1,λp hp=>i2 p hp⟩
def Iw(neg:Bool):R2:=λy x H Q=>∃a o,x=.ref a/\pd H a y o/\Q (.bl (if neg then !o.isSome else o.isSome)) H
theorem OL(hu:X.A.units+100 < cLine):kj X (aaQ .In) (Iw Ξ):=by intro pins s σ H x y v u Q I rx ry h;revert h;refine ah λa o aH g q=>?_;subst aH;obtain rfl:=ry;exact WZ (by lia) I g rx λs3 I3=>⟨.bl o.isSome,H,I3,rfl,q⟩
theorem Gb(hu:X.A.units+100 < cLine):kj X (aaQ .NotIn) (Iw Λ):=by intro pins s σ H x y v u Q I rx ry h;revert h;refine ah λa o aH g q=>?_;subst aH;obtain rfl:=ry;exact Ko (by lia) I g rx λs3 I3=>⟨.bl (!o.isSome),H,I3,rfl,q⟩
def KZ(K:KB):MS->R2
 |.lt=>xY λi j=>.bl (decide (i < j))|.le=>xY λi j=>.bl (decide (i<=j))|.gt=>xY λi j=>.bl (decide (j < i))|.ge=>xY λi j=>.bl (decide (j<=i))|.eq=>λv u H Q=>∃m Z x y k,aI K H m Z x v/\aI K H m Z y u/\tD x y=Δ k/\Q (.bl k) H|.ne=>λv u H Q=>∃m Z x y k,aI K H m Z x v/\aI K H m Z y u/\tD x y=Δ k/\Q (.bl (!k)) H|.isin=>λv u H Q=>RC K.K Ξ v u H Q\/Iw Ξ v u H Q|.pF=>λv u H Q=>RC K.K Λ v u H Q\/Iw Λ v u H Q
theorem rf(hu:X.A.units+100 < cLine):∀o,kj X (aaQ (lJ o)) (KZ (af X kt) o)
 |.lt=>Rm|.le=>Rn|.gt=>Ro|.ge=>Rp|.eq=>OE hu|.ne=>OF hu|.isin=>Fp.or (OL hu)|.pF=>zr.or (Gb hu)
theorem Iy{K:KB}(h:aI K H m Z x v)(f:sG x=Λ):nA v=Λ:=by cases x with|bG=>obtain rfl:=show v=.bG from h;rfl|bl b=>obtain rfl:=show v=.bl b from h;rfl|int b=>obtain rfl:=show v=.int b from h;rfl|str b=>obtain rfl:=show v=.str b from h;rfl|tup xs=>exact ft f|pl xs=>exact ft f
theorem X2{K:KB}(h:aI K H m Z x v)(h':aI K H m Z y u)(f:sG x=Λ)(f':sG y=Λ):Km v u=xp x y:=by
 cases x with
 |tup xs=>exact ft f|pl xs=>exact ft f|bG=>obtain rfl:=show v=.bG from h;cases y with|tup xs=>exact ft f'|pl xs=>exact ft f'|bG=>obtain rfl:=show u=.bG from h';rfl|bl b=>obtain rfl:=show u=.bl b from h';rfl|int b=>obtain rfl:=show u=.int b from h';rfl|str b=>obtain rfl:=show u=.str b from h';rfl
 |bl a=>obtain rfl:=show v=.bl a from h;cases y with|tup xs=>exact ft f'|pl xs=>exact ft f'|bG=>obtain rfl:=show u=.bG from h';rfl|bl b=>obtain rfl:=show u=.bl b from h';rfl|int b=>obtain rfl:=show u=.int b from h';rfl|str b=>obtain rfl:=show u=.str b from h';rfl
 |int a=>obtain rfl:=show v=.int a from h;cases y with|tup xs=>exact ft f'|pl xs=>exact ft f'|bG=>obtain rfl:=show u=.bG from h';rfl|bl b=>obtain rfl:=show u=.bl b from h';rfl|int b=>obtain rfl:=show u=.int b from h';rfl|str b=>obtain rfl:=show u=.str b from h';rfl
 |str a=>obtain rfl:=show v=.str a from h;cases y with|tup xs=>exact ft f'|pl xs=>exact ft f'|bG=>obtain rfl:=show u=.bG from h';rfl|bl b=>obtain rfl:=show u=.bl b from h';rfl|int b=>obtain rfl:=show u=.int b from h';rfl|str b=>obtain rfl:=show u=.str b from h';rfl
theorem MW{K:KB}(h:aI K H m Z x v)(f:sG x=Λ):∀{ys} {us},aq K H m Z ys us->ys.all sG=Λ->us.all nA=Λ/\UQ v us=ys.any λy=>xp y x
 |[],us,r,_=>by obtain rfl:=show us=[] from r;exact⟨rfl,rfl⟩|y::ys,us,r,q=>by refine ah (λw' ws aH r1 r2=>?_) ((show ∃v vs,us=v::vs/\aI K H m Z y v/\aq K H m Z ys vs from r));subst aH;rw[abO,Zr] at q;obtain⟨i1,i2⟩:=MW h f r2 q.2;refine⟨by rw[abO,Iy r1 q.1,i1];rfl,?_⟩;unfold UQ at i2 ⊢;rw[abN,abN,X2 r1 h q.1 f,i2]
theorem in_of{K:KB}{st:aM}(as:aC K H m Z st)(rx:ak K H m Z x v)(ry:ak K H m Z y u)(e:Ih x y st=Δ k)(q:Q (.bl (if neg then !k else k)) H):RC K.K neg v u H Q\/Iw neg v u H Q:=by
 unfold Ih at e;split at e;·rename_i o ho;obtain⟨res,e1,rfl⟩:=iX e;refine cw (λn a aH hs hm iz ao _=>?_) (vN as ho ry);subst aH;subst iz;refine aB (λov hg h1 _=>?_) (Ez ao rx e1);refine .inr ⟨a,ov,rfl,hg,?_⟩;rw[h1];exact q
 ·left;refine dJ (λxd e1 e=>?_) (dt e);obtain⟨ps,e2,e⟩:=dt e;obtain⟨ys,e3,e9⟩:=dt e;clear e;split at e9;·rename_i hf;rw[Zr] at hf;cases x with|obj n=>exact aQ e1|jg n=>exact aQ e1|fn k c=>exact aQ e1|lf k=>exact aQ e1|d x=>obtain rfl:=sj e1;refine ah (λa us aH hs rs=>?_) (m5 as e2 ry);subst aH;obtain⟨f1,f2⟩:=MW rx hf.1 (rs.bC e3) hf.2;refine⟨a,us,rfl,MU hs,Iy rx hf.1,f1,?_⟩;rw[f2];obtain rfl:=sj e9;cases neg<;>exact q
  ·exact aQ e9
theorem zU{K:KB}{st:aM}(as:aC K H m Z st)(rx:ak K H m Z x v)(ry:ak K H m Z y u)(e:kr o x y st=Δ k)(q:Q (.bl k) H):KZ K o v u H Q:=by
 have K0:∀{o:MS},Oz o x y=Δ k->∃i j,v=.int i/\u=.int j/\Sw o i j=Δ k:=λ{o} z=>by
  unfold Oz at z;split at z;·exact⟨_,_,rx,ry,z⟩
  ·exact aQ z
 cases o with
 |lt=>obtain⟨i,j,rfl,rfl,z⟩:=K0 e;obtain rfl:=sj z;exact⟨i,j,rfl,rfl,q⟩|le=>obtain⟨i,j,rfl,rfl,z⟩:=K0 e;obtain rfl:=sj z;exact⟨i,j,rfl,rfl,q⟩|gt=>obtain⟨i,j,rfl,rfl,z⟩:=K0 e;obtain rfl:=sj z;exact⟨i,j,rfl,rfl,q⟩|ge=>obtain⟨i,j,rfl,rfl,z⟩:=K0 e;obtain rfl:=sj z;exact⟨i,j,rfl,rfl,q⟩|eq=>obtain⟨a,e1,e⟩:=dt (show((kY st x).bind λx=>(kY st y).bind λy=>tD x y)=Δ k from e);obtain⟨b,e2,e⟩:=dt e;exact⟨[],[],a,b,k,mr as e1 rx,mr as e2 ry,e,q⟩
 |ne=>obtain⟨a,e1,e⟩:=dt (show((kY st x).bind λx=>(kY st y).bind λy=>(tD x y).map not)=Δ k from e);obtain⟨b,e2,e⟩:=dt e;obtain⟨c,e3,rfl⟩:=iX e;exact⟨[],[],a,b,c,mr as e1 rx,mr as e2 ry,e3,q⟩|isin=>exact in_of (neg:=Ξ) as rx ry e q|pF=>obtain⟨k',e',rfl⟩:=iX (show(Ih x y st).map not=Δ k from e);exact in_of (neg:=Λ) as rx ry e' q
theorem Ok.truth{K:KB}{st:aM}{Q:VK}(as:aC K H m Z st)(h:Ok K Z ((R.of o st).bind λb st3=>R.ok (P.d (.bl b)) st3) m H (λp _ m' H'=>∀v,ak K H' m' Z p v->Q v H')):∃k,o=Δ k/\Q (.bl k) H:=by refine aB (λk e q _=>?_) (Ok.of (Ok.bind h) as);exact⟨k,e,Ok.here q as (.bl k) rfl⟩
theorem EA(h:cV b=Ξ):aeG op b=Ξ:=by
 cases b<;>first
  |rfl
  |exact absurd (show Λ=Ξ from h) aat.symm
theorem SI(T:Good X kt g C)(ha:PE X a (tE (af X kt) Z (aa C ea)))(hb:PE X b (tE (af X kt) Z (aa C eb)))(hn:cV b=Ξ):
  PE X (.Compare a [lJ o] [b] pos) (tE (af X kt) Z (aa C (.cmp o ea eb))):=
 PE.imp (J5 (rf T.hu o) ha hb (EA hn)) λσ H Q h=>Ex (f:=aaQ (lJ o)) (λx y v u m H st Q as rx ry h=>by obtain⟨k,e,q⟩:=Ok.truth as h;exact zU as rx ry e q) h
theorem nK{α β:Type}{r:R α}{f:α->aM->R β}{b:β}{st:aM}(h:r.bind f=.ok b st):∃a st1,r=.ok a st1/\f a st1=.ok b st:=by cases r with|ok a st1=>exact⟨a,st1,rfl,h⟩|ex x st1=>cases h|no=>cases h
theorem Iz{K:KB}{st:aM}(as:aC K H m Z st)(r:ak K H m Z p v)(e:zK st p=Δ k):Fi K.K v H k:=by
 have lists:(de st p).map (λxs=>!xs.isEmpty)=Δ k->Fi K.K v H k:=λz=>by obtain⟨ps,e1,rfl⟩:=iX z;refine ah (λa us aH hr rs=>?_) (fH as e1 r);subst aH;refine .inl ⟨us,.inl hr,?_⟩;have:=rs.length;cases ps<;>cases us<;>simp at this ⊢
 cases p with
 |obj n=>exact lists e|jg n=>exact lists e|fn k c=>exact lists e|lf k=>exact lists e|d x=>
  cases x with
  |bG=>obtain rfl:=show v=.bG from r;obtain rfl:=sj e;rfl|bl b=>obtain rfl:=show v=.bl b from r;obtain rfl:=sj e;rfl|int b=>obtain rfl:=show v=.int b from r;obtain rfl:=sj e;rfl|str b=>
   obtain rfl:=show v=.str b from r;have e':(if b.length<=au then Δ ((b.length:Int)!=0) else Θ)=Δ k:=e;split at e';·rename_i hc;obtain rfl:=sj e';exact⟨by rw[<-dG];exact hc,rfl⟩
   ·exact aQ e'
  |tup xs=>revert r;refine ah λa us aH hs rs=>?_;subst aH;obtain rfl:=sj e;refine .inr (.inl ⟨us,g7.of hs,?_⟩);have:=rs.length;cases xs<;>cases us<;>simp at this ⊢|pl xs=>exact lists e
theorem OM(h:tT (af X kt) Z (cx d) σ H Q):tE (af X kt) Z d σ H λx H'=>∃k,Fi X.K x H' k/\Q k H':=by obtain⟨m,r,st,ar,as,h⟩:=h;refine⟨m,r,st,ar,as,(Ok.bind h).mono λp st1 m1 H1 bY bp h1 v rv=>?_⟩;refine aB (λk e q _=>?_) (Ok.of h1 bp);exact⟨k,Iz bp rv e,q⟩
theorem K3(ha:PE X e (tE (af X kt) Z d))(he:∀whole,aeW e X.env whole=(do let v<-whole;aee e.pos;aey [v] (truthy v))):PT X e (tT (af X kt) Z (cx d)):=
 PT.imp (Hg ha he) λσ H Q h=>OM h
theorem EB(hb:∀r st p st1,d r st=.ok p st1->∃b,p=.d (.bl b))(h:tT (af X kt) Z (cx d) σ H Q):tE (af X kt) Z d σ H λx H'=>∃k,x=.bl k/\Q k H':=by obtain⟨m,r,st,ar,as,h⟩:=h;refine⟨m,r,st,ar,as,(Ok.bind h).yD λp st1 m1 H1 hr bY bp h1 v rv=>?_⟩;obtain⟨b,rfl⟩:=hb r st p st1 hr;refine aB (λk e q _=>?_) (Ok.of h1 bp);obtain rfl:=sj e;obtain rfl:=show v=.bl b from rv;exact⟨b,rfl,q⟩
theorem IA:∀r st p st1,aa C (.cmp o a b) r st=.ok p st1->∃b,p=.d (.bl b):=λr st p st1 h=>by rw[bV] at h;refine bg (λx s1 _ h=>?_) (nK h);refine bg (λy s2 _ h=>?_) (nK h);refine bg (λk s3 _ h=>?_) (nK h);cases h;exact⟨k,rfl⟩
theorem ON(T:Good X kt g C)(ha:PE X a (tE (af X kt) Z (aa C ea)))(hb:PE X b (tE (af X kt) Z (aa C eb)))(hn:cV b=Ξ):
  PT X (.Compare a [lJ o] [b] pos) (tT (af X kt) Z (cx (aa C (.cmp o ea eb)))):=
 PT.imp (J6 (rf T.hu o) ha hb (EA hn)) λσ H Q h=>Ex (f:=aaQ (lJ o)) (λx y v u m H st Q as rx ry h=>by obtain⟨k,e,q⟩:=Ok.truth as h;exact zU as rx ry e q) (EB IA h)
theorem yG(h:cV b=Ξ)(h':cV c=Ξ):lastMarks [p,q] [b,c]=Ξ:=by
 cases c<;>first
  |rfl
  |exact absurd (show Λ=Ξ from h') aat.symm
theorem Bx(h:tE (af X kt) Z (aa C (.chain o o' a b c)) σ H Q):
  CU (KZ (af X kt) o) (KZ (af X kt) o') (tE (af X kt) Z (aa C a)) (tE (af X kt) Z (aa C b)) (tE (af X kt) Z (aa C c)) σ H Q:=by
 obtain⟨m,ρ,st,ar,as,h⟩:=h;rw[sI] at h;refine⟨m,ρ,st,ar,as,(Ok.bind h).mono λx st1 m1 H1 bY bp h1 v rv=>?_⟩;refine⟨m1,ρ,st1,ar.le bY,bp,(Ok.bind h1).mono λy st2 m2 H2 fP fA h2 u ru=>?_⟩;refine aB (λk e h3 _=>?_) (Ok.of (Ok.bind h2) fA);refine zU fA (rv.le fP) ru e ⟨k,rfl,?_⟩;cases k with|false=>exact Ok.here h3 fA (.bl Ξ) rfl|true=>refine⟨m2,ρ,st2,(ar.le bY).le fP,fA,(Ok.bind (show Ok (af X kt) Z ((aa C c ρ st2).bind _) m2 H2 _ from h3)).mono λz nE m4 H4 AB EC h4 w' nX=>?_⟩;obtain⟨k',e',q⟩:=Ok.truth EC h4;exact zU EC (ru.le AB) nX e' q
theorem K4(T:Good X kt g C)(ha:PE X a (tE (af X kt) Z (aa C ea)))(hb:PE X b (tE (af X kt) Z (aa C eb)))(hc:PE X c (tE (af X kt) Z (aa C ec)))(hn:cV b=Ξ)(GZ:cV c=Ξ):
  PE X (.Compare a [lJ o,lJ o'] [b,c] pos) (tE (af X kt) Z (aa C (.chain o o' ea eb ec))):=
 PE.imp (Hd (rf T.hu o) (rf T.hu o') ha hb hc (yG hn GZ)) λσ H Q h=>Bx h
theorem DH:∀r st p st1,aa C (.chain o o' a b c) r st=.ok p st1->∃b,p=.d (.bl b):=λr st p st1 h=>by rw[sI] at h;refine bg (λx s1 _ h=>?_) (nK h);refine bg (λy s2 _ h=>?_) (nK h);refine bg (λk s3 _ h=>?_) (nK h);cases k with|false=>cases h;exact⟨Ξ,rfl⟩|true=>refine bg (λz s4 _ h=>?_) (nK (show((aa C c r s3).bind _)=_ from h));refine bg (λk' s5 _ h=>?_) (nK h);cases h;exact⟨k',rfl⟩
theorem IC(T:Good X kt g C)(ha:PE X a (tE (af X kt) Z (aa C ea)))(hb:PE X b (tE (af X kt) Z (aa C eb)))(hc:PE X c (tE (af X kt) Z (aa C ec)))(hn:cV b=Ξ)(GZ:cV c=Ξ):
  PT X (.Compare a [lJ o,lJ o'] [b,c] pos) (tT (af X kt) Z (cx (aa C (.chain o o' ea eb ec)))):=
 PT.imp (He (rf T.hu o) (rf T.hu o') ha hb hc (yG hn GZ)) λσ H Q h=>Bx (EB DH h)
theorem K5(ha:PE X a ta):PE X (.UnaryOp .Not a pos) (λσ H Q=>ta σ H λx H1=>∃k,Fi X.K x H1 k/\Q (.bl (!k)) H1):=by intro pins s σ H Q I h;refine UnaryOp_ (b8 (ha pins s σ H _ I h) λv s1 ⟨x,H1,I1,r1,q1⟩=>not_of ?_);exact b8 (Hf pins s1 σ H1 x v (λk H'=>Q (.bl (!k)) H') I1 r1 q1) λc s2 ⟨H2,I2,q2⟩=>⟨.bl (!c),H2,I2,rfl,q2⟩
theorem SJ(ha:PE X a (tE (af X kt) Z (aa C ea))):PE X (.UnaryOp .Not a pos) (tE (af X kt) Z (aa C (.not ea))):=by refine PE.imp (K5 ha) ?_;rintro σ H Q ⟨m,ρ,st,ar,as,h⟩;rw[yt] at h;refine⟨m,ρ,st,ar,as,(Ok.bind h).mono λx st1 m1 H1 bY bp h1 v rv=>?_⟩;refine aB (λk e h2 _=>?_) (Ok.of (Ok.bind h1) bp);exact⟨k,Iz bp rv e,Ok.here h2 bp (.bl (!k)) rfl⟩
theorem OO(ha:PT X a (tT (af X kt) Z (cx (aa C ea)))):PT X (.UnaryOp .Not a pos) (tT (af X kt) Z (cx (aa C (.not ea)))):=by refine PT.imp (Nq ha) ?_;rintro σ H Q ⟨m,ρ,st,ar,as,h⟩;unfold cx at h;rw[yt] at h;refine⟨m,ρ,st,ar,as,?_⟩;unfold cx;cases hr:aa C ea ρ st with|ex x s=>rw[hr] at h;exact h|no=>rw[hr] at h;exact h|ok p s1=>rw[hr] at h;simp only[ae] at h ⊢;cases ht:zK s1 p with|none=>rw[ht] at h;exact h|some k=>rw[ht] at h;exact h
theorem OP(ha:PE X a (tE (af X kt) Z (aa C ea))):PE X (.BoolOp .And [a] pos) (tE (af X kt) Z (ic C [ea])):=G5 ha
theorem SK(ha:PE X a (tE (af X kt) Z (aa C ea))):PE X (.BoolOp .Or [a] pos) (tE (af X kt) Z (ie C [ea])):=G5 ha
theorem OQ{rest:List Expr}(ha:PE X a (tE (af X kt) Z (aa C ea)))(hb:PE X (.BoolOp .And (b::rest) pos) (tE (af X kt) Z (ic C (eb::er)))):
  PE X (.BoolOp .And (a::b::rest) pos) (tE (af X kt) Z (ic C (ea::eb::er))):=by
 refine PE.imp (Nr ha hb) ?_;rintro σ H Q ⟨m,ρ,st,ar,as,h⟩;rw[yv] at h;refine⟨m,ρ,st,ar,as,(Ok.bind h).mono λx st1 m1 H1 bY bp h1 v rv=>?_⟩;split at h1;·rename_i k;obtain rfl:=show v=.bl k from rv;refine⟨k,rfl,?_⟩;cases k with|true=>exact⟨m1,ρ,st1,ar.le bY,bp,h1⟩|false=>exact Ok.here h1 bp (.bl Ξ) rfl
 ·exact h1.elim
theorem SN{rest:List Expr}(ha:PE X a (tE (af X kt) Z (aa C ea)))(hb:PE X (.BoolOp .Or (b::rest) pos) (tE (af X kt) Z (ie C (eb::er)))):
  PE X (.BoolOp .Or (a::b::rest) pos) (tE (af X kt) Z (ie C (ea::eb::er))):=by
 refine PE.imp (Q6 ha hb) ?_;rintro σ H Q ⟨m,ρ,st,ar,as,h⟩;rw[mU] at h;refine⟨m,ρ,st,ar,as,(Ok.bind h).mono λx st1 m1 H1 bY bp h1 v rv=>?_⟩;split at h1;·rename_i k;obtain rfl:=show v=.bl k from rv;refine⟨k,rfl,?_⟩;cases k with|false=>exact⟨m1,ρ,st1,ar.le bY,bp,h1⟩|true=>exact Ok.here h1 bp (.bl Λ) rfl
 ·exact h1.elim
theorem K6(ha:PT X a (tT (af X kt) Z (cx (aa C ea)))):PW X (.BoolOp .And [a] pos) (tT (af X kt) Z (cx (ic C [ea]))):=pw_and1 ha
theorem OR(ha:PT X a (tT (af X kt) Z (cx (aa C ea)))):PW X (.BoolOp .Or [a] pos) (tT (af X kt) Z (cx (ie C [ea]))):=pw_or1 ha
theorem K7{rest:List Expr}(ha:PT X a (tT (af X kt) Z (cx (aa C ea))))(hb:PW X (.BoolOp .And (b::rest) pos) (tT (af X kt) Z (cx (ic C (eb::er))))):
  PW X (.BoolOp .And (a::b::rest) pos) (tT (af X kt) Z (cx (ic C (ea::eb::er)))):=by
 refine PW.imp (pw_and ha hb) ?_;rintro σ H Q ⟨m,ρ,st,ar,as,h⟩;refine⟨m,ρ,st,ar,as,?_⟩;unfold cx at h ⊢;rw[yv] at h;cases hr:aa C ea ρ st with
 |ex x s=>rw[hr] at h;exact h|no=>rw[hr] at h;exact h|ok p s1=>
  rw[hr] at h;simp only[ae] at h ⊢;split at h;·rename_i k;refine λm1 H1 bY bp=>?_;cases k with|true=>exact⟨m1,ρ,s1,ar.le bY,bp,Ok.le h bY⟩|false=>exact h m1 H1 bY bp
  ·exact h.elim
theorem OS{rest:List Expr}(ha:PT X a (tT (af X kt) Z (cx (aa C ea))))(hb:PW X (.BoolOp .Or (b::rest) pos) (tT (af X kt) Z (cx (ie C (eb::er))))):
  PW X (.BoolOp .Or (a::b::rest) pos) (tT (af X kt) Z (cx (ie C (ea::eb::er)))):=by
 refine PW.imp (pw_or ha hb) ?_;rintro σ H Q ⟨m,ρ,st,ar,as,h⟩;refine⟨m,ρ,st,ar,as,?_⟩;unfold cx at h ⊢;rw[mU] at h;cases hr:aa C ea ρ st with
 |ex x s=>rw[hr] at h;exact h|no=>rw[hr] at h;exact h|ok p s1=>
  rw[hr] at h;simp only[ae] at h ⊢;split at h;·rename_i k;refine λm1 H1 bY bp=>?_;cases k with|false=>exact⟨m1,ρ,s1,ar.le bY,bp,Ok.le h bY⟩|true=>exact h m1 H1 bY bp
  ·exact h.elim
end
section
variable{X:Cx}{g:G}{C:Nat->List P->aM->R P}{Z:List Addr}{e:Expr}{es:List Expr}
theorem gQ:∀{es} {r} {st st1} {ps},aE C es r st=.ok ps st1->ps.length=es.length
 |[],r,st,st1,ps,h=>by rw[aF] at h;cases h;rfl|e::es,r,st,st1,ps,h=>by rw[aw] at h;refine bg (λx s1 _ h=>?_) (nK h);refine bg (λxs s2 h2 h=>?_) (nK h);cases h;rw[ZS,ZS,gQ h2]
theorem yH:PA X [] (tA (af X kt) Z (aE C [])):=by refine PA.imp C4 ?_;rintro σ H Q ⟨m,ρ,st,ar,as,h⟩;rw[aF] at h;exact Ok.here h as [] rfl
theorem oj(ha:PE X x (tE (af X kt) Z (aa C a)))(hr:PA X xs (tA (af X kt) Z (aE C cy)))(hs:notStar x=Λ):PA X (x::xs) (tA (af X kt) Z (aE C (a::cy))):=by refine PA.imp (uj ha hr (bP hs)) ?_;rintro σ H Q ⟨m,ρ,st,ar,as,h⟩;rw[aw] at h;refine⟨m,ρ,st,ar,as,(Ok.bind h).mono λp st1 m1 H1 bY bp h1 v rv=>?_⟩;refine⟨m1,ρ,st1,ar.le bY,bp,(Ok.bind h1).mono λps st2 m2 H2 fP fA h2 vs jP=>?_⟩;exact Ok.here h2 fA (v::vs) ⟨v,vs,rfl,rv.le fP,jP⟩
theorem gR(h:iW g (a::cy) xs=Λ):∃x ys,xs=x::ys/\jq g a x=Λ/\notStar x=Λ/\iW g cy ys=Λ:=by refine aJ h λx ys h=>?_;simp only[Zr] at h;exact⟨x,ys,rfl,h.1.1,h.1.2,h.2⟩
theorem mv(h:iW g [] xs=Λ):xs=[]:=ZO.mp h
theorem cW:∀{cy} {xs},iW g cy xs=Λ->∀x∈xs,notStar x=Λ
 |[],xs,h=>by rw[mv h];intro x hx;cases hx|a::cy,xs,h=>by
  refine bZ (λx ys aH _ h2 h3=>?_) (gR h);subst aH;intro y hy;rcases abM.mp hy with z|z;·rw[z];exact h2
  ·exact cW h3 y z
theorem ig:∀{cy} {xs},iW g cy xs=Λ->xs.length=cy.length
 |[],xs,h=>by rw[mv h];rfl|a::cy,xs,h=>by refine bZ (λx ys aH _ _ h3=>?_) (gR h);subst aH;rw[ZS,ZS,ig h3]
theorem g8:∀{xs},(∀x∈xs,notStar x=Λ)->(abC pos (Z9 xs env)).any (·.1)=Ξ
 |[],_=>rfl|x::xs,h=>by rw[bP (h x Zx)];show(Ξ||(abC pos (Z9 xs env)).any (·.1))=Ξ;rw[g8 λy hy=>h y (Zs _ hy)];rfl
theorem SO(h:PA X xs (tA (af X kt) Z (aE C cy))):PE X (.Tuple xs k pos) (tE (af X kt) Z (aa C (.tup cy))):=by
 refine PE.imp (NM h) ?_;rintro σ H Q ⟨m,ρ,st,ar,as,h⟩;rw[yu] at h;refine⟨m,ρ,st,ar,as,(Ok.bind h).mono λps st1 m1 H1 bY bp h1 vs jP=>?_⟩;split at h1;·rename_i hc;refine aB (λxs e h2 _=>?_) (Ok.of (Ok.bind h1) bp);exact⟨by rw[jP.length,<-dG];exact hc,λp hp=>ux (α:=Unit) bp (jP.bC e) hp h2⟩
 ·exact h1.elim
theorem Le.grow{K:KB}{m m':List Addr}{H H':Hp}{a:Addr}(le:Le K m H m' H')(ha:H a=Θ):Le K m H (m'++[a]) H' where
 pre:=by obtain⟨t,e⟩:=le.pre;exact⟨t++[a],by rw[e,aas]⟩
 tup:=le.tup
 keep:=le.keep
 new:=λb hb=>by
  rcases acQ.mp hb with z|z;·exact le.new b z
  ·have:b=a:=by simpa using z
   rw[this];exact .inr ha
 sY:=le.sY
 Es:=le.Es
 dM:=le.dM
 ext:=le.ext
 gv:=le.gv
theorem zV(h:tE (af X kt) Z (aa C (.lst mu l)) σ H Q):tL (af X kt) Z (be C l) σ H Q:=by obtain⟨m,ρ,st,ar,as,h⟩:=h;rw[FW] at h;refine⟨m,ρ,st,ar,as,?_⟩;cases hr:be C l ρ st with|ex x s=>rw[hr] at h;exact h|no=>rw[hr] at h;exact h|ok ps st1=>rw[hr] at h;simp only[ae] at h;intro m' H' a vs le ha hm hH cy rs;have hz:a∉Z:=(as.fresh ha).2;cases mu with|true=>refine h (m'++[a]) H' (le.grow ha) (cy.adopt hz hH rs) (.ref a) ⟨a,?_,rfl⟩;rw[ZX (by rw[cy.len];exact ZC _),cy.len];simp|false=>have fA:=cy.xu (Z:=Z) λb hb=>Zs _ hb;refine aB (λxs e h2 _=>?_) (Ok.of (Ok.bind (Ok.le (show Ok (af X kt) Z ((R.of (bC ps) st1).bind λxs st2=>R.ok (P.d (.pl xs)) st2) m H _ from h) le)) fA);exact Ok.here h2 fA (.ref a) ⟨a,vs,rfl,.inl hH,hm,hz,(rs.xu λb hb=>Zs _ hb).bC e⟩
theorem SQ(h:PE X e (tL (af X kt) Z (be C l))):PE X e (tE (af X kt) Z (aa C (.lst mu l))):=PE.imp h λσ H Q q=>zV q
theorem Le.ED{K:KB}(le:Le K m H m' H')(ha:H' a=Θ):H a=Θ:=by cases q:H a with|none=>rfl|some o=>exact absurd ha (le.sY a (by rw[q];exact λz=>nomatch z))
theorem vO{K:KB}(bY:Le K m H m1 H1)(bp:aC K H1 m1 Z st1)(jP:aj K H1 m1 Z ps vs)(ha:H1 a=Θ)(h:LQ K Z (R.ok ps st1) m H Q):Q (.ref a) (upd H1 a (.lst vs)):=
 h m1 (upd H1 a (.lst vs)) a vs (bY.trans (Le.same (bu ha _))) (bY.ED ha) (bp.fresh ha).1 aG (bp.laid ha _) ((jP.mo ha).le (Le.same (bu ha _)))
theorem OT(h:PA X xs (tA (af X kt) Z (aE C cy))):PE X (.List xs pos) (tL (af X kt) Z (be C (.fO cy))):=by
 refine PE.imp (NN h) ?_;rintro σ H Q ⟨m,ρ,st,ar,as,h⟩;refine⟨m,ρ,st,ar,as,?_⟩;rw[jj] at h;cases hr:aE C cy ρ st with
 |ex x s=>rw[hr] at h;exact h|no=>rw[hr] at h;exact h|ok ps st1=>
  rw[hr] at h;simp only[ae] at h;split at h;·rename_i hc;intro m1 H1 bY bp vs jP;exact⟨by rw[jP.length,<-dG];exact hc,λa ha=>vO bY bp jP ha h⟩
  ·exact h.elim
theorem aS.keys{K:KB}:∀{kvs} {us},aS K H m Z kvs us->aj K H m Z (kvs.map λkv=>zM kv.1) (us.map λkv=>kV kv.1)
 |[],us,h=>by obtain rfl:=show us=[] from h;exact rfl|(k,p)::kvs,us,h=>by refine ah (λv vs aH r rs=>?_) ((show ∃v vs,us=(k,v)::vs/\ak K H m Z p v/\aS K H m Z kvs vs from h));subst aH;refine⟨kV k,_,rfl,?_,aS.keys rs⟩;cases k<;>rfl
theorem EE{K:KB}{st:aM}(as:aC K H m Z st)(h:u7 st p=Δ q)(r:ak K H m Z p v):∃a us,p=.obj q.1/\st[q.1]?=Δ (.dK q.2)/\m[q.1]?=Δ a/\v=.ref a/\H a=Δ (.dK us)/\aS K H m Z q.2 us:=by
 unfold u7 at h;split at h
 ·rename_i n;split at h;·rename_i kvs hk;refine cps λgG kG=>?_;obtain rfl:=sj h;obtain⟨a,ha,rfl⟩:=(show ∃a,m[n]?=Δ a/\v=.ref a from r);refine lU (λa' U9 us hu rs=>?_) (as.at_ n _ hk);rw[ha] at U9;obtain rfl:=sj U9;refine kG ?_;exact⟨a,us,rfl,hk,ha,rfl,hu,rs⟩
  ·exact aQ h
 ·exact aQ h
theorem OU(T:Good X kt g C)(hg:g.gl "list"=Λ)(ha:PE X x (tE (af X kt) Z (aa C a)))(hs:notStar x=Λ):PE X (.Call (.Name "list" p) [x] [] pos) (tL (af X kt) Z (be C (.keys a))):=by refine PE.imp (mR (xn T.calm) (T.glob hg) (T.bl _ (by decide+kernel)) boot_list (oj ha yH hs) (by decide+kernel) (by decide+kernel) (bP hs) rfl) ?_;rintro σ H Q ⟨m,ρ,st,ar,as,h⟩;refine⟨m,ρ,st,ar,as,?_⟩;rw[vh] at h;show Ok (af X kt) Z (aE C [a] ρ st) m H _;simp only[aw,aF];cases hr:aa C a ρ st with|ex x s=>rw[hr] at h;exact h|no=>rw[hr] at h;exact h|ok y st1=>rw[hr] at h;simp only[ae] at h ⊢;intro m1 H1 bY bp vs jP;refine ah (λv vP aH rv e=>?_) ((show ∃v vP,vs=v::vP/\ak (af X kt) H1 m1 Z y v/\vP=[] from jP));subst aH;subst e;cases hi:u7 st1 y with|none=>rw[hi] at h;exact(show False from h).elim|some q=>rw[hi] at h;refine cw (λb us aH hk hm iz hu rs=>?_) (EE bp hi rv);subst aH;subst iz;exact⟨b,us,rfl,hu,λl hl=>vO bY bp rs.keys hl h⟩
theorem K8(T:Good X kt g C)(CH:g.cv=Λ)(h1:g.N[i]?=Δ x)(h2:g.zO x=Λ)(hp:aX x=Λ)(hs:∀z∈y::ys,notStar z=Λ)(h:PA X (y::ys) (tA (af X kt) Z (aE C cy))):
  PE X (.Call (.Name x p) (y::ys) [] pos) (tE (af X kt) Z (aa C (.nI i cy))):=by
 refine PE.imp (HP (i:=i) (by rw[T.N];exact h1) (T.zO h2) h (pn hp).1 (pn hp).2.1 (bP (hs y Zx)) (g8 λz hz=>hs z (Zs _ hz))) ?_;rintro σ H Q ⟨m,ρ,st,ar,as,h⟩;rw[Bj] at h;refine aB (λq e h' _=>?_) (Ok.of (Ok.bind h) as);have e':ρ[i]?=Δ (Δ q):=by unfold lR at e;cases z:ρ[i]? with|none=>rw[z] at e;exact aQ e|some o=>rw[z] at e;simp at e;rw[e]
 obtain⟨v,ev,rv⟩:=ar.at_ i q e';cases q with|fn k bz=>rw[ak] at rv;revert rv;refine br λa c b9 aH hc X3 rc=>?_;subst aH;refine cD (λn fd ps F hr hb=>?_) ((T.sL CH k a c b9 hc).ex);refine⟨a,ev,(T.sL CH k a c b9 hc).ob,m,ρ,st,ar,as,(Ok.bind h').yD λqs st1 m1 H1 hq bY bp h1 vs jP=>⟨n,fd,ps,_,F,hr,hb,?_⟩⟩;exact⟨bY.ext _ _ X3,m1,Z,qs,bz,st1,jP,rc.le bY,bp,h1⟩|d x=>exact(Ok.pE (λ_ _=>rfl) h').elim|obj x=>exact(Ok.pE (λ_ _=>rfl) h').elim|jg x=>exact(Ok.pE (λ_ _=>rfl) h').elim|lf x=>exact(Ok.pE (λ_ _=>rfl) h').elim
theorem aS.look{K:KB}{m:List Addr}{f:Str}:∀{fs:List (Str×P)} {us:List (Str×V)},aS K H m Z fs us->(∀p,fs.lookup f=Δ p->∃v,us.lookup f=Δ v/\ak K H m Z p v)/\(fs.lookup f=Θ->us.lookup f=Θ)
 |[],us,h=>by obtain rfl:=show us=[] from h;exact⟨(λp z=>nomatch z),λ_=>rfl⟩|(k,p)::fs,us,h=>by refine ah (λv vs aH r rs=>?_) ((show ∃v vs,us=(k,v)::vs/\ak K H m Z p v/\aS K H m Z fs vs from h));subst aH;obtain⟨i1,i2⟩:=aS.look (f:=f) rs;rw[Z6,Z6];cases hb:f==k with|true=>exact⟨λq z=>by obtain rfl:=sj z;exact⟨v,rfl,r⟩,λz=>nomatch z⟩|false=>exact⟨i1,i2⟩
theorem DI{K:KB}{st:aM}(as:aC K H m Z st)(r:ak K H m Z p v)(h:qM c st p=Δ (n,fs)):
  ∃a A dx us,p=.obj n/\m[n]?=Δ a/\v=.ref a/\st[n]?=Δ (.ins c fs)/\ZU K.K ZL c=Δ (Δ (.ref A))/\H a=Δ (.ins A dx us)/\H dx=Δ (.own a)/\aS K H m Z fs us:=by
 unfold qM at h;split at h
 ·rename_i n';split at h
  ·rename_i c' fs' hs;split at h;·rename_i hc;cases h;subst hc;rw[ak] at r;refine cps λgG kG=>?_;obtain⟨a,e,rfl⟩:=r;obtain⟨a',e',ao⟩:=as.at_ n _ hs;rw[e] at e';obtain rfl:=sj e';revert ao;refine br λA dx us g1 g2 g3 g4=>?_;refine kG ?_;exact⟨a,A,dx,us,rfl,e,rfl,hs,g1,g2,g3,g4⟩
   ·exact aQ h
  ·exact aQ h
 ·exact aQ h
theorem OV(T:Good X kt g C)(hf:g.AA c f=Λ)(h1:g.N[i]?=Δ x)(h2:g.zO x=Λ)(h3:aX x=Λ):PE X (.Attribute (.Name x p) f pos) (tE (af X kt) Z (aa C (.attr c f i))):=by refine PE.imp (NJ (Bu (Z:=Z) (kt:=kt) T h1 h2 h3) rfl) ?_;rintro σ H Q ⟨m,ρ,st,ar,as,h⟩;rw[Dy] at h;refine⟨m,ρ,st,ar,as,?_⟩;rw[mT];refine(Ok.bind h).mono λq st1 m1 H1 bY bp h1 v rv=>?_;refine cps λgG kG=>?_;refine aB (λq2 e h2 _=>?_) (Ok.of h1 bp);obtain⟨⟨n,fs⟩,e1,e2⟩:=dt e;refine g6 (λa A dx us aH hm iz hs g1 g2 g3 g4=>?_) (DI bp rv e1);subst aH;subst iz;refine aB (λA' k1 k2 k3=>?_) (T.fld c f hf);refine kG ?_;rw[show ZU X.K ZL c=Δ (Δ (.ref A)) from g1] at k1;cases k1;obtain⟨w,hw,nX⟩:=(aS.look (f:=f) g4).1 q2 e2;exact⟨a,A,dx,us,w,rfl,g2,k2,k3,hw,h2 w nX⟩
theorem s_call(T:Good X kt g C)(hf:g.fns[f]?=Δ (x,cy.length))(hg:g.gl x=Λ)(hp:aX x=Λ)(hs:∀x∈xs,notStar x=Λ)(hl:xs.length=cy.length)(h:PA X xs (tA (af X kt) Z (aE C cy))):
  PE X (.Call (.Name x p) xs [] pos) (tE (af X kt) Z (aa C (.call f cy))):=by
 refine jd (λk fa fd ps F hr hm hk hb=>?_) ((T.fn f x cy.length hf).ex);have red:∀σ H Q,tE (af X kt) Z (aa C (.call f cy)) σ H Q->Hj (DG (af X kt) (C f) cy.length) [] E0 (tA (af X kt) Z (aE C cy)) σ H Q:=by rintro σ H Q ⟨m,ρ,st,ar,as,h⟩;rw[jh] at h;refine⟨m,ρ,st,ar,as,(Ok.bind h).yD λqs st1 m1 H1 hq bY bp h1 vs jP=>?_⟩;show DG (af X kt) (C f) cy.length (vs++[]) H1 Q E0;rw[aau];exact⟨m1,Z,qs,st1,by rw[jP.length,gQ hq],jP,bp,h1⟩
 cases xs with
 |nil=>
  have e:cy=[]:=by cases cy with|nil=>rfl|cons a b=>simp at hl
  subst e;refine PE.imp (Hk F hr (T.glob hg) hm hk hb .nil AZ (pn hp).1) λσ H Q h=>?_;obtain⟨m,ρ,st,ar,as,h1⟩:=red σ H Q h;rw[aF] at h1;exact Ok.here h1 as [] rfl
 |cons y ys=>exact PE.imp (J9 F hr (T.glob hg) hm hk hb .nil AZ h (pn hp).1 (bP (hs y Zx)) (g8 λz hz=>hs z (Zs _ hz))) red
theorem DJ{E:Value->ZR->Prop}(I:Inv X pins σ H s)(q:g7 X.K H a xs)(e:aes X.K (.type "tuple") c=Δ b)(h:∀tk,Q (.bool b) {s with toks:=tk}):wpAny (model X.prog X.w) A (call (.builtin "isinstance") [.ref a,c]) Q E s:=by refine aB (λ_ _ p _=>?_) (I.tuple q);revert p;refine aB λo h1 h2 _=>?_;exact aaM PySem.W.kitx_tuple I.oV ⟨o,h1,h2⟩ e (λz=>nomatch z) h
theorem ID:je X (.builtin "isinstance") (λxs H Q=>∃x T,xs=[x,.ty T]/\T∈mX/\((∃t,L2.RW H x=Δ t/\Q (.bl (L2.fS t T)) H)\/(∃a ys,x=.ref a/\g7 X.K H a ys/\Q (.bl (L2.fS "tuple" T)) H)\/(∃a ys,x=.ref a/\Rd H a (.lst ys)/\Q (.bl (L2.fS "list" T)) H))):=by
 intro pins s σ H xs us Q I r h;revert h;refine ah λx T aH hT h=>?_;subst aH;refine ah (λu w' aH rx ry=>?_) (vals2 r);subst aH;obtain rfl:=show w'=acm T from ry;have Va:T="int"\/T="bool"\/T="tuple"\/T="str"\/T="list":=by simpa[mX] using hT
 rcases h with ⟨t,ht,q⟩|⟨a,ys,rfl,hq,q⟩|⟨a,ys,rfl,hq,q⟩
 ·exact qC I rx (Kx ht) (uo X.K (N4 ht) Va) λtk=>⟨.bl (L2.fS t T),H,I.tok _,rfl,q⟩
 ·obtain rfl:=rx;exact DJ I hq (uo X.K (by simp) Va) λtk=>⟨.bl (L2.fS "tuple" T),H,I.tok _,rfl,q⟩
 ·rcases hq with hq|⟨o,hq⟩;·exact qC I rx (nW.lst hq) (uo X.K (by simp) Va) λtk=>⟨.bl (L2.fS "list" T),H,I.tok _,rfl,q⟩
  ·exact qC I rx (nW.dM hq) (uo X.K (by simp) Va) λtk=>⟨.bl (L2.fS "list" T),H,I.tok _,rfl,q⟩
theorem K9(h:T∈mX):acC (aaC T)=Δ (.type T)/\aaC T∈vM/\aaC T≠"__name__"/\(aaC T==("__debug__":Str))=Ξ:=by
 have h':T="int"\/T="bool"\/T="tuple"\/T="str"\/T="list":=by simpa[mX] using h
 rcases h' with rfl|rfl|rfl|rfl|rfl;·exact⟨boot_int,by decide+kernel,by decide+kernel,by decide+kernel⟩
 ·exact⟨boot_bool,by decide+kernel,by decide+kernel,by decide+kernel⟩
 ·exact⟨boot_tuple,by decide+kernel,by decide+kernel,by decide+kernel⟩
 ·exact⟨boot_str,by decide+kernel,by decide+kernel,by decide+kernel⟩
 ·exact⟨boot_list,by decide+kernel,by decide+kernel,by decide+kernel⟩
theorem SR(T:Good X kt g C)(hg:g.gl "isinstance"=Λ)(ht:t∈mX)(La:g.gl (aaC t)=Λ)(ha:PE X x (tE (af X kt) Z (aa C a)))(hs:notStar x=Λ):
  PE X (.Call (.Name "isinstance" p) [x,.Name (aaC t) q] [] pos) (tE (af X kt) Z (aa C (.Ib a t))):=by
 refine jc (λb1 b2 b3 b4=>?_) (K9 ht);refine PE.imp (uR ID (T.glob hg) (T.bl _ (by decide+kernel)) boot_isinstance (uj ha (uj (JZ (v:=.ty t) (T.glob La) (T.bl _ b2) b1 rfl b3 b4) C4) (bP hs)) (by decide+kernel) (by decide+kernel) (bP hs) rfl) ?_;rintro σ H Q ⟨m,ρ,st,ar,as,h⟩;rw[FX] at h;refine⟨m,ρ,st,ar,as,(Ok.bind h).mono λy st1 m1 H1 bY bp h1 v rv=>?_⟩;refine aB (λk e h2 _=>?_) (Ok.of (Ok.bind h1) bp);have q:=Ok.here h2 bp (.bl (fS k t)) rfl;have eqt:Y.fS k t=L2.fS k t:=rfl;refine⟨v,t,rfl,ht,?_⟩;cases y with
 |d x=>cases x with|bG=>obtain rfl:=show v=.bG from rv;obtain rfl:=sj e;exact .inl ⟨_,rfl,q⟩|bl b=>obtain rfl:=show v=.bl b from rv;obtain rfl:=sj e;exact .inl ⟨_,rfl,q⟩|int b=>obtain rfl:=show v=.int b from rv;obtain rfl:=sj e;exact .inl ⟨_,rfl,q⟩|str b=>obtain rfl:=show v=.str b from rv;obtain rfl:=sj e;exact .inl ⟨_,rfl,q⟩|tup xs=>obtain⟨b,us,rfl,hq,_⟩:=rv;obtain rfl:=sj e;exact .inr (.inl ⟨b,us,rfl,g7.of hq,q⟩)|pl xs=>obtain⟨b,us,rfl,hq,_⟩:=rv;obtain rfl:=sj e;exact .inr (.inr ⟨b,us,rfl,hq,q⟩)
 |obj n=>
  have e':(match st1[n]? with|some (.lst _)=>Δ "list"|_=>Θ)=Δ k:=e;split at e';·rename_i xs hx;obtain rfl:=sj e';refine ah (λb us aH hq _=>?_) (fH bp (show de st1 (.obj n)=Δ xs by show(match st1[n]? with|some (.lst xs)=>Δ xs|_=>Θ)=Δ xs;rw[hx]) rv);subst aH;exact .inr (.inr ⟨b,us,rfl,hq,q⟩)
  ·exact aQ e'
 |jg n=>exact aQ e|fn k c=>exact aQ e|lf k=>exact aQ e
end
section
variable{X:Cx}{g:G}{C:Nat->List P->aM->R P}{Z:List Addr}{e:Expr}{es:List Expr}
theorem IE(h:zQ y=Ξ):Eg y:=by
 intro o i;cases y<;>first
  |rfl
  |exact absurd (show Λ=Ξ from h) aat.symm
def X4:R2:=λx y H Q=>∃a v,x=.ref a/\pd H a y (Δ v)/\Q v H
theorem DK(hu:X.A.units+100 < cLine):My X X4:=by intro value slice pins s σ H x y v u Q I rx ry h hs;revert h;refine ah λa w' aH g q=>?_;subst aH;obtain rfl:=rx;obtain⟨ob,h1,h2⟩:=AU I g a rfl;refine pf (AS I g) ?_ hs;exact Ft (by lia) I g ry λw2 s3 I3 nX=>⟨w',H,I3,nX,q⟩
theorem X5(hu:X.A.units+100 < cLine)(ha:PE X a (tE (af X kt) Z (aa C ea)))(hb:PE X b (tE (af X kt) Z (aa C eb)))(hs:zQ b=Ξ):PE X (.Subscript a b pos) (tE (af X kt) Z (aa C (.ix ea eb))):=by
 refine PE.imp (RA ((Kl.or NQ).or (DK hu)) ha hb (IE hs)) λσ H Q h=>Ex (f:=λa b=>aez a b) (λx y v u m H st Q as rx ry h=>?_) h;refine aB (λp e q _=>?_) (Ok.of h as);unfold CJ at e;split at e;·rename_i o ho;obtain⟨res,e1,e2⟩:=dt e;obtain rfl:=show res=Δ p from e2;refine cw (λn a aH hs hm iz ao _=>?_) (vN as ho rx);subst aH;subst iz;refine aB (λov hg h1 h2=>?_) (Ez ao ry e1);obtain⟨w',rfl,nX⟩:=h2 p rfl;exact .inr ⟨a,w',rfl,hg,q w' nX⟩
 left;unfold XS at e;split at e
 ·rename_i i;obtain rfl:=show u=.int i from ry;obtain⟨ps,e1,e2⟩:=dt e;refine ah (λa us aH hq rs=>?_) (m5 as e1 rx);subst aH;obtain⟨j,e3,e4⟩:=dt (show(Y.C6 ps.length i).bind (λj=>ps[j]?)=Δ p from e2);obtain⟨w',e5,nX⟩:=rs.get e4;have e6:L2.qD us i=Δ w':=by show(L2.C6 us.length i).bind (λj=>us[j]?)=Δ w';rw[rs.length];have:L2.C6 ps.length i=Δ j:=e3;rw[this];exact e5
  rcases hq with hq|hq;·exact .inl ⟨a,us,i,w',rfl,rfl,hq,e6,q w' nX⟩
  ·exact .inr ⟨a,us,i,w',rfl,rfl,g7.of hq,e6,q w' nX⟩
 ·exact aQ e
inductive tO (K:KB) (Z:List Addr) (d:cb->aM->R (Option P)) (σ:L2.St) (H:Hp) (Q:Option Int->Hp->Prop):Prop
 |mk (m:List Addr) (r:cb) (st:aM) (a:cI K H m Z r σ) (b:aC K H m Z st) (c:Ok K Z (d r st) m H (λo _ _ H'=>∃l,Ii o=Δ l/\Q l H')):tO K Z d σ H Q
theorem PO.imp(h:PO X x t)(i:∀σ H Q,t' σ H Q->t σ H Q):PO X x t':=λpins s σ H Q I q=>h pins s σ H Q I (i σ H Q q)
theorem Lb:PO X Θ (tO (af X kt) Z (yr C Θ)):=by refine PO.imp Kh ?_;rintro σ H Q ⟨m,ρ,st,ar,as,h⟩;rw[vg] at h;obtain⟨l,e,q⟩:=Ok.here h as;obtain rfl:=sj e;exact q
theorem Lc(ha:PE X x (tE (af X kt) Z (aa C a))):PO X (Δ x) (tO (af X kt) Z (yr C (Δ a))):=by refine PO.imp (Ki ha) ?_;rintro σ H Q ⟨m,ρ,st,ar,as,h⟩;rw[DA] at h;refine⟨m,ρ,st,ar,as,(Ok.bind h).mono λp st1 m1 H1 bY bp h1 v rv=>?_⟩;obtain⟨l,e,q⟩:=Ok.here h1 bp;cases p with|obj n=>exact aQ e|jg n=>exact aQ e|fn k c=>exact aQ e|lf k=>exact aQ e|d y=>cases y with|int i=>obtain rfl:=sj e;obtain rfl:=show v=.int i from rv;exact⟨i,rfl,q⟩|_=>exact aQ e
theorem By{K:KB}(h:aj K H m Z [p] vs):∃v,vs=[v]/\ak K H m Z p v:=by refine ah (λv vP aH rv e=>?_) ((show ∃v vP,vs=v::vP/\ak K H m Z p v/\vP=[] from h));subst aH;subst e;exact⟨v,rfl,rv⟩
theorem OW{K:KB}(h:aj K H m Z [p,q] vs):∃v u,vs=[v,u]/\ak K H m Z p v/\ak K H m Z q u:=by refine ah (λv vP aH rv h'=>?_) ((show ∃v vP,vs=v::vP/\ak K H m Z p v/\aj K H m Z [q] vP from h));subst aH;obtain⟨u,rfl,ru⟩:=By h';exact⟨v,u,rfl,rv,ru⟩
def X6(K:ZE):Bf->List V->Hp->VK->Prop
 |.any=>λxs H Q=>∃(p:Addr) (bs:List Bool),xs=[.ref p]/\nz K H p (bs.map V.bl)/\Q (.bl (bs.any id)) H|.len=>λxs H Q=>(∃p n,xs=[.ref p]/\RZ H p n/\Q (.int n) H)\/(∃p ys,xs=[.ref p]/\(nz K H p ys\/g7 K H p ys)/\Q (.int ys.length) H)\/(∃z,xs=[.str z]/\z.length<=Z3/\Q (.int z.length) H)|.tuple=>λxs H Q=>∃p ys,xs=[.ref p]/\((nz K H p ys/\∀l,H l=Θ->Q (.ref l) (upd H l (.tup ys)))\/(g7 K H p ys/\Q (.ref p) H))
noncomputable def SS:Bf->Value
 |.len=>.builtin "len"|.any=>.builtin "any"|.tuple=>.type "tuple"
theorem Bz(h:je X f r)(h':je X f r'):je X f (λxs H Q=>r xs H Q\/r' xs H Q):=by
 intro pins s σ H xs us Q I rv q;rcases q with q|q;·exact h pins s σ H xs us Q I rv q
 ·exact h' pins s σ H xs us Q I rv q
theorem Ld(hc:X.calm=Λ):∀f,je X (SS f) (X6 X.K f)
 |.len=>Bz zy (Bz zu zv)|.any=>FC hc|.tuple=>xf
theorem BA{K:KB}:∀{ps} {bs} {us},aj K H m Z ps us->boolsOf ps=Δ bs->us=bs.map V.bl
 |[],bs,us,h,e=>by obtain rfl:=sj e;exact h|p::ps,bs,us,h,e=>by
  refine ah (λv vs aH r rs=>?_) ((show ∃v vs,us=v::vs/\ak K H m Z p v/\aj K H m Z ps vs from h));subst aH;unfold boolsOf at e;split at e;·rename_i e0;cases e0
  ·rename_i b r' e0;cases e0;obtain⟨cs,e1,rfl⟩:=iX e;obtain rfl:=show v=.bl b from r;rw[BA rs e1];rfl
  ·exact aQ e
theorem SU{K:KB}{st:aM}(as:aC K H m Z st)(rx:aj K H m Z ps vs)(h:Ok K Z (R.of (ur f ps st) st) m H (λp _ m' H'=>∀v,ak K H' m' Z p v->Q v H')):X6 K.K f vs H Q:=by
 refine aB (λp e q qq=>?_) (Ok.of h as);unfold ur at e;split at e
 ·rename_i p0;obtain⟨v,rfl,rv⟩:=By rx;split at e
  ·rename_i x;obtain rfl:=show v=.str x from rv;split at e;·rename_i hc;obtain rfl:=sj e;exact .inr (.inr ⟨x,rfl,by rw[<-dG];exact hc,q _ rfl⟩)
   ·exact aQ e
  ·split at e
   ·rename_i o ho;obtain rfl:=sj e;refine cw (λn a aH hs hm iz ao hd=>?_) (vN as ho rv);subst aH;subst iz;refine .inl ⟨a,Ig o,rfl,?_,q _ rfl⟩;cases o with
    |lst xs=>exact ft hd|ins c fs=>exact ft hd|xo=>exact ft hd|dK kvs=>obtain⟨us,hu,rs⟩:=ao;exact .inl ⟨us,.inl hu,rs.length⟩
    |dT kvs=>obtain⟨us,hu,rs⟩:=ao;exact .inr ⟨us,.inl hu,rs.length⟩
   ·obtain⟨xs,e1,rfl⟩:=iX e;refine ah (λa us aH hq rs=>?_) (m5 as e1 rv);subst aH;refine .inr (.inl ⟨a,us,rfl,MU hq,?_⟩);rw[rs.length];exact q _ rfl
 ·obtain⟨v,rfl,rv⟩:=By rx;obtain⟨xs,e1,e⟩:=dt e;obtain⟨bs,e2,rfl⟩:=iX e;refine ah (λa us aH hq rs=>?_) (fH as e1 rv);subst aH;have:=BA rs e2;subst this;exact⟨a,bs,rfl,.inl hq,q _ rfl⟩
 ·obtain⟨v,rfl,rv⟩:=By rx;obtain⟨xs,e1,e⟩:=dt e;obtain⟨ys,e2,rfl⟩:=iX e;refine ah (λa us aH hq rs=>?_) (m5 as e1 rv);subst aH;have rr:=rs.bC e2;rcases hq with hq|hq;·exact⟨a,us,rfl,.inl ⟨hq,λl hl=>ux (α:=Unit) as rr hl qq⟩⟩
  ·exact⟨a,us,rfl,.inr ⟨g7.of hq,q (.ref a) ⟨a,us,rfl,hq,rr⟩⟩⟩
 ·exact aQ e
theorem X7(T:Good X kt g C)(hg:g.gl (zP f)=Λ)(hs:∀y∈x::xs,notStar y=Λ)(h:PA X (x::xs) (tA (af X kt) Z (aE C cy))):
  PE X (.Call (.Name (zP f) p) (x::xs) [] pos) (tE (af X kt) Z (aa C (.bf f cy))):=by
 have red:∀σ H Q,tE (af X kt) Z (aa C (.bf f cy)) σ H Q->WI (X6 X.K f) (tA (af X kt) Z (aE C cy)) σ H Q:=by rintro σ H Q ⟨m,ρ,st,ar,as,h⟩;rw[cL] at h;exact⟨m,ρ,st,ar,as,(Ok.bind h).mono λqs st1 m1 H1 bY bp h1 vs jP=>SU bp jP h1⟩
 have s1:=bP (env:=X.env) (es:=xs) (hs x Zx);have s2:(abC pos (Z9 xs X.env)).any (·.1)=Ξ:=g8 λz hz=>hs z (Zs _ hz);have hc:=Ld (X:=X) T.calm f;cases f with|len=>exact PE.imp (uR (id:="len") hc (T.glob hg) (T.bl _ (by decide+kernel)) PySem.boot_len h (by decide+kernel) (by decide+kernel) s1 s2) red|any=>exact PE.imp (uR (id:="any") hc (T.glob hg) (T.bl _ (by decide+kernel)) boot_any h (by decide+kernel) (by decide+kernel) s1 s2) red|tuple=>exact PE.imp (mR (T:="tuple") hc (T.glob hg) (T.bl _ (by decide+kernel)) boot_tuple h (by decide+kernel) (by decide+kernel) s1 s2) red
theorem OX:PE X (.Dict [] [] pos) (tE (af X kt) Z (aa C (.qK t))):=by
 have red:∀(ho:HO) (ob:O),(∀H m Z a,H a=Δ ho->tG (af X kt) H m Z a ob)->∀(σ:L2.St) (H:Hp) (Q:VK) m ρ st,cI (af X kt) H m Z ρ σ->aC (af X kt) H m Z st->
   Ok (af X kt) Z (R.ok (P.obj st.length) (st++[ob])) m H (λp _ m' H'=>∀v,ak (af X kt) H' m' Z p v->Q v H')->∀p,H p=Θ->Q (.ref p) (upd H p ho):=by
  intro ho ob OY σ H Q m ρ st ar as h p hp;have hz:p∉Z:=(as.fresh hp).2;refine h (m++[p]) (upd H p ho) ((Le.same (bu hp _)).grow hp) ((as.laid hp ho (λφ z=>(OY (upd H p ho) m Z p aG).sY.2.2.2.1 φ (by rw[aG,z]))).vE hz (OY _ _ _ _ aG)) (.ref p) ⟨p,?_,rfl⟩;rw[ZX (by rw[as.len];exact ZC _),as.len];simp
 cases t with
 |false=>refine PE.imp Hs ?_;rintro σ H Q ⟨m,ρ,st,ar,as,h⟩;rw[ji] at h;exact red (.dK []) (.dK []) (λH m Z a e=>⟨[],e,rfl⟩) σ H Q m ρ st ar as h
 |true=>refine PE.imp Ht ?_;rintro σ H Q ⟨m,ρ,st,ar,as,h⟩;rw[ji] at h;exact red (.dT []) (.dT []) (λH m Z a e=>⟨[],e,rfl⟩) σ H Q m ρ st ar as h
theorem PE.or(h1:PE X e t1)(h2:PE X e t2):PE X e (λσ H Q=>t1 σ H Q\/t2 σ H Q):=λpins s σ H Q I h=>h.elim (h1 pins s σ H Q I) (h2 pins s σ H Q I)
theorem OZ(T:Good X kt g C)(hk:Eu g k kx=Λ)(hv:Bt x vx=Λ):PE X (.Dict [Δ kx] [vx] pos) (tE (af X kt) Z (aa C (.FQ k x))):=by
 obtain⟨v,pv,rv⟩:=Iv (X:=X) hv;refine dJ (λtk pk rk=>?_) (KS (Z:=Z) T hk);refine PE.imp (PE.or (Kp (AX pk pv Eh) rfl rfl (by simp) (by simp)) (Ia (by have:=T.hu;lia) pk pv)) ?_;rintro σ H Q ⟨m,ρ,st,ar,as,h⟩;rw[vd] at h;rcases rk (st:=st) ar with e|⟨y,u,e,ru,q⟩;·rw[e] at h;exact h.elim
 rw[e,ae] at h;refine aB (λo eo h2 e7=>?_) (Ok.of (Ok.bind h) as);clear e7;unfold KN at eo;cases Sq:keyOf y with
 |some kk=>rw[Sq] at eo;obtain rfl:=sj eo;cases ru.key Sq;refine .inl λp hp=>q _ _ ⟨aG,[(kk,v)],rfl,by simp,?_⟩;rw[D9];have hz:p∉Z:=(as.fresh hp).2;have ho:upd H p (.dK (qG [] [(kk,v)]))=upd H p (.dK [(kk,v)]):=rfl;rw[ho];refine h2 (m++[p]) (upd H p (.dK [(kk,v)])) ((Le.same (bu hp _)).grow hp) ((as.laid hp (HO.dK [(kk,v)]) (λφ z=>nomatch z)).vE hz ⟨[(kk,v)],aG,v,[],rfl,rv _ _ _ _,rfl⟩) (.ref p) ⟨p,?_,rfl⟩;rw[ZX (by rw[as.len];exact ZC _),as.len];simp|none=>
  rw[Sq] at eo;obtain⟨kk,FE,rfl⟩:=iX (show(kZ y).map (λk=>O.dT [(k,P.d x)])=Δ o from eo);obtain⟨b,rfl,hb⟩:=ru.kZ FE;refine .inr λp hp=>q _ _ ⟨aG,kk,b,rfl,?_,?_⟩;·rw[av (λz=>by rw[z,hp] at hb;exact aQ hb)];exact hb
  rw[D9];have hz:p∉Z:=(as.fresh hp).2;refine h2 (m++[p]) (upd H p (.dT [(kk,v)])) ((Le.same (bu hp _)).grow hp) ((as.laid hp (HO.dT [(kk,v)]) (λφ z=>nomatch z)).vE hz ⟨[(kk,v)],aG,v,[],rfl,rv _ _ _ _,rfl⟩) (.ref p) ⟨p,?_,rfl⟩;rw[ZX (by rw[as.len];exact ZC _),as.len];simp
theorem vQ(h:isCall o=Ξ):aca o n env w=w:=by
 cases o with
 |Call f xs ks p=>
  cases f with
  |Name x q=>
   cases xs with
   |nil=>cases ks with|nil=>exact absurd (show Λ=Ξ from h) aat.symm|cons _ _=>rfl
   |cons _ _=>rfl
  |_=>rfl
 |_=>rfl
theorem IF{K:KB}(ao:tG K H m Z a o)(hd:kq o=Λ):UT H a:=by cases o with|lst xs=>exact ft hd|ins c fs=>exact ft hd|xo=>exact ft hd|dK kvs=>obtain⟨us,hu,_⟩:=ao;exact .inl ⟨us,.inl hu⟩|dT kvs=>obtain⟨us,hu,_⟩:=ao;exact .inr ⟨us,.inl hu⟩
noncomputable def WalksU(K:KB)(J:It)(us:List V)(m:List Addr)(H:Hp):Prop:=
 ∀m2 H2,Le K m H m2 H2->∀i:Nat,(i < us.length->J.go i H2/\∀x H3,J.Rg i H2 x H3->H3=H2/\us[i]?=Δ x)/\(us.length<=i->J.stop i H2)
def Walks(K:KB)(Z:List Addr)(J:It)(ps:List P)(m:List Addr)(H:Hp):Prop:=
 ∀m2 H2 Z2,Le K m H m2 H2->(∀a∈Z2,a∈Z\/H a=Θ)->∀i:Nat,(∀p,ps[i]?=Δ p->J.go i H2/\∀x H3,J.Rg i H2 x H3->lQ H2 H3/\ak K H3 m2 Z2 p x)/\(i=ps.length->J.stop i H2)
inductive tW (K:KB) (Z:List Addr) (d:cb->aM->R (List P)) (σ:L2.St) (H:Hp) (S:It->Hp->Prop):Prop
 |mk (m:List Addr) (r:cb) (st:aM) (a:cI K H m Z r σ) (b:aC K H m Z st) (c:Ok K Z (d r st) m H (λps _ m' H'=>∀J,Walks K Z J ps m' H'->S J H')):tW K Z d σ H S
mutual
theorem aI.ky{K:KB}{H:Hp}{m Z Z2:List Addr}(hz:∀a∈Z2,a∈Z\/H a=Θ):∀{x:D} {v:V},aI K H m Z x v->aI K H m Z2 x v
 |.bG,_,h=>h|.bl _,_,h=>h|.int _,_,h=>h|.str _,_,h=>h|.tup xs,v,h=>by refine ah (λa us e q r=>?_) ((show ∃a us,v=.ref a/\H a=Δ (.tup us)/\aq K H m Z xs us from h));exact⟨a,us,e,q,aq.ky hz r⟩
 |.pl xs,v,h=>by
  refine bq (λa us e q hm hn r=>?_) ((show ∃a us,v=.ref a/\Rd H a (.lst us)/\a∉m/\a∉Z/\aq K H m Z xs us from h));refine⟨a,us,e,q,hm,λz=>?_,aq.ky hz r⟩;rcases hz a z with y|y;·exact hn y
  ·exact Iq q y
theorem aq.ky{K:KB}{H:Hp}{m Z Z2:List Addr}(hz:∀a∈Z2,a∈Z\/H a=Θ):∀{xs:List D} {us:List V},aq K H m Z xs us->aq K H m Z2 xs us
 |[],_,h=>h|x::xs,us,h=>by refine ah (λv vs e r rs=>?_) ((show ∃v vs,us=v::vs/\aI K H m Z x v/\aq K H m Z xs vs from h));exact⟨v,vs,e,aI.ky hz r,aq.ky hz rs⟩
end
mutual
theorem ak.ky{K:KB}{H:Hp}{m Z Z2:List Addr}(hz:∀a∈Z2,a∈Z\/H a=Θ):∀{x:P} {v:V},ak K H m Z x v->ak K H m Z2 x v
 |.d _,_,h=>by rw[ak] at h ⊢;exact aI.ky hz h|.obj _,_,h=>by rw[ak] at h ⊢;exact h|.jg _,_,h=>by rw[ak] at h ⊢;exact h|.fn k bz,v,h=>by rw[ak] at h ⊢;revert h;refine br λa c b9 e q hc r=>?_;exact⟨a,c,b9,e,q,hc,aj.ky hz r⟩
 |.lf k,v,h=>by rw[ak] at h ⊢;exact h
theorem aj.ky{K:KB}{H:Hp}{m Z Z2:List Addr}(hz:∀a∈Z2,a∈Z\/H a=Θ):∀{xs:List P} {us:List V},aj K H m Z xs us->aj K H m Z2 xs us
 |[],_,h=>h|x::xs,us,h=>by rw[aj] at h ⊢;revert h;refine ah λv vs e r rs=>?_;exact⟨v,vs,e,ak.ky hz r,aj.ky hz rs⟩
end
theorem WalksU.walks{K:KB}(w:WalksU K J us m H)(r:aj K H m Z ps us):Walks K Z J ps m H:=by intro m2 H2 Z2 le hz i;obtain⟨w1,w2⟩:=w m2 H2 le i;refine⟨λp hp=>?_,λh=>w2 (by rw[r.length];exact adG h.symm)⟩;obtain⟨v,hv,rv⟩:=r.get hp;obtain⟨go,yl⟩:=w1 (List.getElem?_eq_some_iff.mp hv).1;refine⟨go,λx H3 hy=>?_⟩;obtain⟨rfl,hx⟩:=yl x H3 hy;rw[hv] at hx;obtain rfl:=sj hx;exact⟨λ_ _ e=>e,(rv.ky hz).le le⟩
theorem PI.imp(h:PI X tg iter t)(i:∀σ H Q,t' σ H Q->t σ H Q):PI X tg iter t':=λpins s σ H Q I q=>h pins s σ H Q I (i σ H Q q)
theorem Lf{K:KB}(h:H a=Δ (.tup us)):WalksU K (V6 K.K a) us m H:=λm2 H2 le i=>by have h2:g7 K.K H2 a us:=g7.of (le.tup _ _ h);refine⟨λhi=>⟨⟨us,us[i],h2,by simp[hi]⟩,λx H3 ⟨e,y⟩=>⟨e,y us h2⟩⟩,λhi=>⟨us,h2,hi⟩⟩
theorem Lg{K:KB}(h:Rd H a (.lst us))(hm:a∉m):WalksU K (V5 K.K a) us m H:=λm2 H2 le i=>by have h2:nz K.K H2 a us:=.inl (le.rd h hm);refine⟨λhi=>⟨⟨us,us[i],h2,by simp[hi]⟩,λx H3 ⟨e,y⟩=>⟨e,y us h2⟩⟩,λhi=>⟨us,h2,hi⟩⟩
theorem EF{K:KB}{lo hi:Int}:WalksU K (Nx lo (hi - lo).toNat) ((Zq (hi - lo).toNat).map λk=>V.int (lo+(k:Nat))) m H:=λm2 H2 le i=>by
 refine⟨λh=>⟨by show i < (hi - lo).toNat;rw[ZA,aad] at h;exact h,λx H3 ⟨e,y⟩=>⟨e,?_⟩⟩,λh=>by show(hi - lo).toNat<=i;rw[ZA,aad] at h;exact h⟩;have h':i < (hi - lo).toNat:=by rw[ZA,aad] at h;exact h
 rw[ZD,abm h',y];rfl
theorem uy{K:KB}lo:∀l:List Nat,aj K H m Z (l.map λk=>P.d (.int (lo+(k:Nat)))) (l.map λk=>V.int (lo+(k:Nat)))
 |[]=>rfl|k::l=>⟨_,_,rfl,rfl,uy lo l⟩
theorem SV(ha:PE X x (tE (af X kt) Z (aa C a))):PI X tg x (tW (af X kt) Z (cK C (.ex a))):=by
 intro pins s σ H S I h;obtain⟨m,ρ,st,ar,as,h0⟩:=h;rw[Bk] at h0;cases hr:aa C a ρ st with
 |ex x s=>rw[hr] at h0;exact(show False from h0).elim|no=>rw[hr] at h0;exact(show False from h0).elim|ok y st1=>
  rw[hr] at h0;simp only[ae] at h0;unfold qN at h0;split at h0;·rename_i xs;refine Ny ha pins s σ H S I ⟨m,ρ,st,ar,as,?_⟩;rw[hr];intro m1 H1 bY bp v rv;revert rv;refine ah λb us aH hq rs=>?_;subst aH;exact⟨b,rfl,⟨us,g7.of hq⟩,h0 m1 H1 bY bp _ ((Lf hq).walks rs.map)⟩
  ·rename_i xs;refine uh ha pins s σ H S I ⟨m,ρ,st,ar,as,?_⟩;rw[hr];intro m1 H1 bY bp v rv;revert rv;refine bq λb us aH hq hm _ rs=>?_;subst aH;exact⟨b,rfl,⟨us,.inl hq⟩,h0 m1 H1 bY bp _ ((Lg hq hm).walks rs.map)⟩
  ·exact(show False from h0).elim
theorem O0(T:Good X kt g C)(hg:g.gl "range"=Λ)(aN:iW g cy xs=Λ)(h:PA X xs (tA (af X kt) Z (aE C cy))):PI X tg (.Call (.Name "range" p) xs [] pos) (tW (af X kt) Z (cK C (.iQ cy))):=by
 intro pins s σ H S I h1;obtain⟨m,ρ,st,ar,as,h0⟩:=h1;rw[yx] at h0;cases hr:aE C cy ρ st with
 |ex x s=>rw[hr] at h0;exact(show False from h0).elim|no=>rw[hr] at h0;exact(show False from h0).elim|ok ps st1=>
  rw[hr] at h0;simp only[ae] at h0;have hl:=ig aN;have A7:=gQ hr;have sf:=cW aN;unfold tF at h0;split at h0
  ·rename_i j
   match xs,hl,sf,h with
   |[x],_,sf,h=>
    split at h0;·rename_i hc;refine Ff (T.glob hg) (T.bl _ (by decide+kernel)) h (bP (sf x Zx)) pins s σ H S I ⟨m,ρ,st,ar,as,?_⟩;rw[hr];intro m1 H1 bY bp vs jP;obtain⟨v,rfl,rv⟩:=By jP;obtain rfl:=show v=.int j from rv;have q:=h0 m1 H1 bY bp (Nx 0 (j - 0).toNat) ((EF (lo:=0) (hi:=j)).walks (uy 0 _));rw[Int.sub_zero] at q;exact⟨j,rfl,hc.1,hc.2,q⟩
    ·exact(show False from h0).elim
   |[],hl,_,_=>simp at hl;rw[<-hl] at A7;simp at A7|_::_::_,hl,_,_=>rw[<-A7] at hl;simp at hl
  ·rename_i i j
   match xs,hl,sf,h with
   |[x,y],_,sf,h=>
    split at h0;·rename_i hc;have sy:Z9 [y] X.env=[(Ξ,eval y X.env)]:=bP (sf y (by simp));refine Fg (T.glob hg) (T.bl _ (by decide+kernel)) h (by rw[bP (sf x Zx),sy]) sy pins s σ H S I ⟨m,ρ,st,ar,as,?_⟩;rw[hr];intro m1 H1 bY bp vs jP;refine ah (λv u aH rv ru=>?_) (OW jP);subst aH;obtain rfl:=show v=.int i from rv;obtain rfl:=show u=.int j from ru;exact⟨i,j,rfl,hc,h0 m1 H1 bY bp (Nx i (j - i).toNat) ((EF (lo:=i) (hi:=j)).walks (uy i _))⟩
    ·exact(show False from h0).elim
   |[],hl,_,_=>rw[<-A7] at hl;simp at hl|[_],hl,_,_=>rw[<-A7] at hl;simp at hl|_::_::_::_,hl,_,_=>rw[<-A7] at hl;simp at hl
  ·exact(show False from h0).elim
theorem BB:∀{xs} {k i:Nat} {p:P},(eZ k xs)[i]?=Δ p->∃x,xs[i]?=Δ x/\p=.d (.tup [.int (k+i:Nat),x])
 |[],k,i,p,h=>by simp[eZ] at h|x::xs,k,i,p,h=>by cases i with|zero=>simp[eZ] at h;exact⟨x,rfl,by rw[<-h];simp⟩|succ i=>refine dJ (λy e1 e2=>?_) (BB (xs:=xs) (k:=k+1) (i:=i) (by simpa[eZ] using h));exact⟨y,by simpa using e1,by rw[e2];congr 4;lia⟩
theorem BC:∀{xs} {k},(eZ k xs).length=xs.length
 |[],_=>rfl|x::xs,k=>by simp[eZ,BC (xs:=xs) (k:=k+1)]
theorem Lh{K:KB}(ha:H a=Δ (.tup us))(r:aq K H m Z xs us):Walks K Z (Xy K.K a) (eZ 0 xs) m H:=by intro m2 H2 Z2 le hz i;have O1:=le.tup _ _ ha;refine⟨λp hp=>?_,λh=>⟨us,g7.of O1,by rw[BC] at h;rw[r.length];exact adG h.symm⟩⟩;obtain⟨x,hx,rfl⟩:=BB hp;obtain⟨v,hv,rv⟩:=r.map.get (i:=i) (p:=.d x) (by rw[ZD,hx];rfl);refine⟨⟨us,v,g7.of O1,hv⟩,?_⟩;intro y H3 RV;revert RV;refine bZ λT v' hT aH iz hy=>?_;subst aH;subst iz;have e:=hy us (g7.of O1);rw[hv] at e;obtain rfl:=sj e;have sm:lQ H2 (upd H2 T (.tup [.int (i:Nat),v])):=bu hT _;refine⟨sm,T,[.int (i:Nat),v],rfl,aG,_,_,rfl,?_,v,[],rfl,((aI.ky hz rv).le le).le (Le.same sm),rfl⟩;show V.int (i:Nat)=V.int ((0+i:Nat):Int);rw[aao]
theorem Li(T:Good X kt g C)(hg:g.gl "enumerate"=Λ)(ha:PE X x (tE (af X kt) Z (aa C a)))(hs:notStar x=Λ):
  PI X (.Tuple elts kk p3) (.Call (.Name "enumerate" p) [x] [] pos) (tW (af X kt) Z (cK C (.enum a))):=by
 refine PI.imp (HI (T.glob hg) (T.bl _ (by decide+kernel)) (oj ha yH hs) (bP hs)) ?_;rintro σ H S ⟨m,ρ,st,ar,as,h0⟩;rw[DB] at h0;refine⟨m,ρ,st,ar,as,?_⟩;show Ok (af X kt) Z (aE C [a] ρ st) m H _;simp only[aw,aF];cases hr:aa C a ρ st with
 |ex x s=>rw[hr] at h0;exact(show False from h0).elim|no=>rw[hr] at h0;exact(show False from h0).elim|ok y st1=>
  rw[hr] at h0;simp only[ae] at h0 ⊢;intro m1 H1 bY bp vs jP;obtain⟨v,rfl,rv⟩:=By jP;split at h0;·rename_i xs;revert rv;refine ah λb us aH hq rs=>?_;subst aH;exact⟨b,rfl,⟨us,g7.of hq⟩,h0 m1 H1 bY bp _ (Lh hq rs)⟩
  ·exact(show False from h0).elim
theorem O2(T:Good X kt g C){p pos p2 KD:Pos}(hg:g.gl "range"=Λ)(La:g.gl "list"=Λ)(aN:iW g cy xs=Λ)(h:PA X xs (tA (af X kt) Z (aE C cy))):
  PE X (.Call (.Name "list" p2) [.Call (.Name "range" p) xs [] pos] [] KD) (tL (af X kt) Z (be C (.iQ cy))):=by
 have sf:=cW aN;have hl:=ig aN;cases xs with
 |nil=>rintro pins s σ H Q I ⟨m,ρ,st,ar,as,h0⟩;cases cy with|nil=>exact(show False from h0).elim|cons a b=>simp at hl
 |cons x xs=>
  have s1:=bP (env:=X.env) (es:=xs) (sf x Zx);have s2:(abC pos (Z9 xs X.env)).any (·.1)=Ξ:=g8 λz hz=>sf z (Zs _ hz);refine PE.imp (mR (xh T.calm) (T.glob La) (T.bl _ (by decide+kernel)) boot_list (uj (mR A2 (T.glob hg) (T.bl _ (by decide+kernel)) boot_range h (by decide+kernel) (by decide+kernel) s1 s2) C4) (by decide+kernel) (by decide+kernel) rfl rfl) ?_;rintro σ H Q ⟨m,ρ,st,ar,as,h0⟩;refine⟨m,ρ,st,ar,as,?_⟩;rw[yw] at h0;cases hr:aE C cy ρ st with
  |ex x s=>rw[hr] at h0;exact(show False from h0).elim|no=>rw[hr] at h0;exact(show False from h0).elim|ok ps st1=>
   rw[hr] at h0;simp only[ae] at h0;intro m1 H1 bY bp vs jP;have fin:∀lo hi:Int,(-n6<=lo/\lo < n6/\ -n6<=hi/\hi < n6)->LQ (af X kt) Z (R.bind (R.of (Δ (Il lo hi)) st1) λqs st2=>if qs.length<=au then R.ok qs st2 else R.no) m H Q->∀q,H1 q=Θ->
     ∃p QH yj,[V.ref q]=[.ref p]/\upd H1 q (.iQ lo hi) p=Δ (.iQ QH yj)/\(-(2 ^ 62)<=QH/\QH < 2 ^ 62/\ -(2 ^ 62)<=yj/\yj < 2 ^ 62)/\(yj - QH).toNat<=Z3/\∀l,upd H1 q (.iQ lo hi) l=Θ->Q (.ref l) (upd (upd H1 q (.iQ lo hi)) l (.lst (Dk QH (yj - QH).toNat))):=by
    intro lo hi hb hQ q hq;simp only[ay,ae] at hQ;split at hQ
    ·rename_i hc;refine⟨q,lo,hi,rfl,aG,hb,?_,λl hl=>?_⟩;·unfold Il at hc;rw[ZA,aad] at hc;rw[<-dG];exact hc
     ·have fP:Le (af X kt) m1 H1 m1 (upd H1 q (.iQ lo hi)):=Le.same (bu hq _);exact vO (bY.trans fP) (bp.same (bu hq _)) (uy lo _) hl hQ
    ·exact hQ.elim
   cases hp:tF ps with
   |none=>rw[hp] at h0;exact(show False from h0).elim|some qs=>
    rw[hp] at h0;unfold tF at hp;split at hp
    ·rename_i j;split at hp;·rename_i hc;refine cps λgG kG=>?_;obtain rfl:=sj hp;obtain⟨v,rfl,rv⟩:=By jP;obtain rfl:=show v=.int j from rv;refine kG ?_;exact⟨0,j,.inr ⟨rfl,rfl⟩,fin 0 j ⟨by unfold n6;lia,by unfold n6;lia,hc.1,hc.2⟩ h0⟩
     ·exact aQ hp
    ·rename_i i j;split at hp;·rename_i hc;refine cps λgG kG=>?_;obtain rfl:=sj hp;refine ah (λv u aH rv ru=>?_) (OW jP);subst aH;obtain rfl:=show v=.int i from rv;obtain rfl:=show u=.int j from ru;refine kG ?_;exact⟨i,j,.inl rfl,fin i j hc h0⟩
     ·exact aQ hp
    ·exact aQ hp
theorem aj.of_get{K:KB}:∀{ps} {ts},ts.length=ps.length->(∀(j:Nat) p t,ps[j]?=Δ p->ts[j]?=Δ t->ak K H m Z p t)->aj K H m Z ps ts
 |[],ts,hl,_=>by cases ts with|nil=>rfl|cons t ts=>simp at hl
 |p::ps,ts,hl,h=>by cases ts with|nil=>simp at hl|cons t ts=>exact⟨t,ts,rfl,h 0 p t rfl rfl,aj.of_get (by simpa using hl) λj p' t' e e'=>h (j+1) p' t' (by simpa using e) (by simpa using e')⟩
theorem aq.get{K:KB}{j:Nat}(h:aq K H m Z xs us)(e:xs[j]?=Δ x)(e':us[j]?=Δ u):aI K H m Z x u:=by obtain⟨v,ev,rv⟩:=h.map.get (i:=j) (p:=.d x) (by rw[ZD,e];rfl);rw[e'] at ev;obtain rfl:=sj ev;exact rv
theorem O3(T:Good X kt g C){p pos p2 KD:Pos}(hg:g.gl "zip"=Λ)(La:g.gl "list"=Λ)(ha:PE X x1 (tE (af X kt) Z (aa C a)))(h1:notStar x1=Λ)(hb:PE X x2 (tE (af X kt) Z (aa C b)))(h2:notStar x2=Λ):
  PE X (.Call (.Name "list" p2) [.Call (.Name "zip" p) [x1,x2] [] pos] [] KD) (tL (af X kt) Z (be C (.zip a b))):=by
 refine PE.imp (A8 T.calm (T.glob La) (T.bl _ (by decide+kernel)) (T.glob hg) (T.bl _ (by decide+kernel)) (oj ha (oj hb yH h2) h1) (bP h1) (g8 λz hz=>?_)) ?_
 ·have:z=x2:=by simpa using hz
  rw[this];exact h2
 rintro σ H Q ⟨m,ρ,st,ar,as,h0⟩;refine⟨m,ρ,st,ar,as,?_⟩;rw[qP] at h0;simp only[aw,aF];cases hr:aa C a ρ st with
 |ex x s=>rw[hr] at h0;exact(show False from h0).elim|no=>rw[hr] at h0;exact(show False from h0).elim|ok x st1=>
  rw[hr] at h0;simp only[ae] at h0 ⊢;cases X8:aa C b ρ st1 with
  |ex x s=>rw[X8] at h0;exact(show False from h0).elim|no=>rw[X8] at h0;exact(show False from h0).elim|ok y st2=>
   rw[X8] at h0;simp only[ae] at h0 ⊢;intro m1 H1 bY bp vs jP;refine ah (λv u aH rv ru=>?_) (OW jP);subst aH;unfold FU at h0;split at h0
   ·rename_i xs ys;revert rv;refine ah λva us aH hva rx=>?_;subst aH;revert ru;refine ah λvb ws aH hvb ry=>?_;subst aH;refine⟨va,vb,us,ws,rfl,g7.of hva,g7.of hvb,λl H' ts sm hl pz hp=>?_⟩;simp only[ay,ae] at h0;have fP:Le (af X kt) m1 H1 m1 H':=Le.same sm;refine h0 m1 H' l ts (bY.trans fP) (bY.ED hl) (bp.fresh hl).1 pz (bp.Sy hl sm (by rw[bx pz (λ_ z=>nomatch z)];exact λz=>nomatch z)) (aj.of_get ?_ λj p t e e'=>?_);·rw[hp.1,ZA,ZA,acR,rx.length,ry.length]
    ·refine br (λTt u w' aH e1 e2 e3=>?_) (hp.2 j t e');subst aH;rw[ZD,ZD] at e;cases hz:(xs.zip ys)[j]? with
     |none=>rw[hz] at e;exact aQ e|some q=>
      rw[hz] at e;have e9:P.d (D.tup [q.1,q.2])=p:=by simpa using e
      subst e9;obtain⟨q1,q2⟩:=acJ.mp hz;have r1:=(aI.mo hl (rx.get q1 e2)).le fP;have r2:=(aI.mo hl (ry.get q2 e3)).le fP;exact⟨Tt,[u,w'],rfl,e1,u,[w'],rfl,r1,w',[],rfl,r2,rfl⟩
   ·exact(show False from h0).elim
end
section
variable{K:KB}{H H':Hp}{m Z:List Addr}
mutual
theorem aI.congr(ht:∀a us,H a=Δ (.tup us)->H' a=Δ (.tup us))(hl:∀a us,a∉m->a∉Z->Rd H a (.lst us)->Rd H' a (.lst us)):∀{x:D} {v:V},aI K H m Z x v->aI K H' m Z x v
 |.bG,_,h=>h|.bl _,_,h=>h|.int _,_,h=>h|.str _,_,h=>h|.tup xs,v,h=>by refine ah (λa us e q r=>?_) ((show ∃a us,v=.ref a/\H a=Δ (.tup us)/\aq K H m Z xs us from h));exact⟨a,us,e,ht _ _ q,aq.congr ht hl r⟩
 |.pl xs,v,h=>by refine bq (λa us e q hm hz r=>?_) ((show ∃a us,v=.ref a/\Rd H a (.lst us)/\a∉m/\a∉Z/\aq K H m Z xs us from h));exact⟨a,us,e,hl _ _ hm hz q,hm,hz,aq.congr ht hl r⟩
theorem aq.congr(ht:∀a us,H a=Δ (.tup us)->H' a=Δ (.tup us))(hl:∀a us,a∉m->a∉Z->Rd H a (.lst us)->Rd H' a (.lst us)):∀{xs:List D} {us:List V},aq K H m Z xs us->aq K H' m Z xs us
 |[],_,h=>h|x::xs,us,h=>by refine ah (λv vs e r rs=>?_) ((show ∃v vs,us=v::vs/\aI K H m Z x v/\aq K H m Z xs vs from h));exact⟨v,vs,e,aI.congr ht hl r,aq.congr ht hl rs⟩
end
mutual
theorem ak.congr(ht:∀a us,H a=Δ (.tup us)->H' a=Δ (.tup us))(hl:∀a us,a∉m->a∉Z->Rd H a (.lst us)->Rd H' a (.lst us))(hf:∀a o u,H a=Δ (.dM o u)->H' a=Δ (.dM o u))(hx:∀a φ,H a=Δ (.ext φ)->H' a=Δ (.ext φ)):∀{x:P} {v:V},ak K H m Z x v->ak K H' m Z x v
 |.d _,_,h=>by rw[ak] at h ⊢;exact aI.congr ht hl h|.obj _,_,h=>by rw[ak] at h ⊢;exact h|.jg ns,v,h=>by
  rw[ak] at h ⊢;obtain⟨a,e,r⟩:=h;refine⟨a,e,?_⟩;rcases r with ⟨o,r⟩|r
  ·exact .inl ⟨o,hf _ _ _ r⟩
  ·exact .inr r
 |.fn k bz,v,h=>by rw[ak] at h ⊢;revert h;refine br λa c b9 e q hc r=>?_;exact⟨a,c,b9,e,q,hx _ _ hc,aj.congr ht hl hf hx r⟩|.lf k,v,h=>by rw[ak] at h ⊢;revert h;refine cD λa c ct e q r=>?_;exact⟨a,c,ct,e,hx _ _ q,hx _ _ r⟩
theorem aj.congr(ht:∀a us,H a=Δ (.tup us)->H' a=Δ (.tup us))(hl:∀a us,a∉m->a∉Z->Rd H a (.lst us)->Rd H' a (.lst us))(hf:∀a o u,H a=Δ (.dM o u)->H' a=Δ (.dM o u))(hx:∀a φ,H a=Δ (.ext φ)->H' a=Δ (.ext φ)):∀{xs:List P} {us:List V},aj K H m Z xs us->aj K H' m Z xs us
 |[],_,h=>h|x::xs,us,h=>by rw[aj] at h ⊢;revert h;refine ah λv vs e r rs=>?_;exact⟨v,vs,e,ak.congr ht hl hf hx r,aj.congr ht hl hf hx rs⟩
end
theorem pP(ha:H a=Δ (.lst ys)):∀b φ,H b=Δ (.ext φ)->upd H a o b=Δ (.ext φ):=λb φ h=>by
 have hb:b≠a:=λz=>by rw[z,ha] at h;cases h
 rw[av hb];exact h
theorem uz(ha:H a=Δ (.lst ys)):∀b us,H b=Δ (.tup us)->upd H a o b=Δ (.tup us):=λb us h=>by
 have hb:b≠a:=λz=>by rw[z,ha] at h;cases h
 rw[av hb];exact h
theorem uA(ha:H a=Δ (.lst ys)):∀b o' u,H b=Δ (.dM o' u)->upd H a o b=Δ (.dM o' u):=λb o' u h=>by
 have hb:b≠a:=λz=>by rw[z,ha] at h;cases h
 rw[av hb];exact h
theorem DL(hb:b≠a)(h:Rd H b (.lst us)):Rd (upd H a o) b (.lst us):=by
 rcases h with h|⟨o',h⟩;·exact .inl (by rw[av hb];exact h)
 ·exact .inr ⟨o',by rw[av hb];exact h⟩
theorem aC.SX{st:aM}(A:aC K H m (a::Z) st)(ha:H a=Δ (.lst ys)):aC K (upd H a (.lst zs)) m (a::Z) st:=by
 refine⟨A.len,A.nd,λn o h=>?_,λb hb=>?_,A.zm,λt ht=>?_⟩
 ·obtain⟨c,q,r⟩:=A.at_ n o h;have hc:c≠a:=λz=>A.zm a Zx (by rw[<-z];exact ZG q);exact⟨c,q,r.mono (λb u hb hu=>by
   rw[av (λz=>by
    rcases hb with w1|w1;·exact hc (w1▸z)
    ·rw[z,ha] at w1;cases w1)]
   exact hu) λp v z=>z.congr (uz ha) (λb us _ hz h=>DL (λz=>hz (by rw[z];exact Zx)) h) (uA ha) (pP ha)⟩
 ·exact mW (o:=.lst zs) (λ_ z=>nomatch z) (A.zt b hb)
 ·obtain⟨ps,h1,h2⟩:=A.tab t ht;exact⟨ps,by rw[av (λz=>by rw[z,ha] at h1;cases h1)];exact h1,gH.same (pP ha) h2⟩
theorem Le.SY{H1:Hp}{m1:List Addr}{a:Addr}{ys zs:List V}(le:Le K m1 H1 m H)(h1:H1 a=Θ)(ha:H a=Δ (.lst ys)):Le K m1 H1 m (upd H a (.lst zs)) where
 pre:=le.pre
 tup:=λb xs h=>uz ha b xs (le.tup b xs h)
 keep:=λb u h hb hu=>by rw[av (aR h h1)];exact le.keep b u h hb hu
 ext:=λb φ h=>pP ha b φ (le.ext b φ h)
 Es:=λb h=>mW (o:=.lst zs) (λ_ z=>nomatch z) (le.Es b h)
 gv:=λb ps h=>by obtain⟨more,e⟩:=le.gv b ps h;exact⟨more,by rw[av (λz=>by rw[z,ha] at e;cases e)];exact e⟩
 new:=le.new
 sY:=λb h=>by
  by_cases OB:b=a;·rw[OB,aG];exact λz=>nomatch z
  ·rw[av OB];exact le.sY b h
 dM:=λb o u h=>uA ha b o u (le.dM b o u h)
end
section
variable{X:Cx}{g:G}{C:Nat->List P->aM->R P}{Z:List Addr}{e:Expr}{es:List Expr}
theorem Hw.imp(h:Hw X ifs t)(i:∀σ H Q,t' σ H Q->t σ H Q):Hw X ifs t':=λpins s σ H Q I q=>h pins s σ H Q I (i σ H Q q)
noncomputable def QI(K:KB)(d:cb->aM->R Bool):TT:=λσ H Q=>∃Z,tT K Z d σ H Q
noncomputable def Vb(K:KB)(d:cb->aM->R P):TE:=λσ H Q=>∃Z,tE K Z d σ H Q
theorem Gc:Hw X [] (QI (af X kt) (bH C Θ)):=by refine Hw.imp Kr ?_;rintro σ H Q ⟨Z,m,ρ,st,ar,as,h⟩;rw[n9] at h;exact Ok.here h as
theorem Gd(h:∀Z,PT X c (tT (af X kt) Z (cx (aa C ec)))):Hw X [c] (QI (af X kt) (bH C (Δ ec))):=by refine Ks λpins s σ H Q I q=>?_;obtain⟨Z,q⟩:=q;refine h Z pins s σ H Q I ?_;obtain⟨m,ρ,st,ar,as,h⟩:=q;rw[vi] at h;exact⟨m,ρ,st,ar,as,h⟩
theorem Lj(h:∀Z,PE X x (tE (af X kt) Z d)):PE X x (Vb (af X kt) d):=λpins s σ H Q I ⟨Z,q⟩=>h Z pins s σ H Q I q
theorem vR{K:KB}(ar:cI K H m Z r σ)(fN:H acc=Θ)(le:Le K m H m2 H2):cI K H2 m2 (acc::Z) (bO js r) (js.map λj=>(σ[j]?).join):=by
 refine⟨by unfold bO;simp,λi q h=>?_⟩;unfold bO at h;rw[ZD] at h;cases ej:js[i]? with
 |none=>rw[ej] at h;exact aQ h|some j=>
  rw[ej] at h;have h2:(r[j]?).join=Δ q:=by simpa using h
  have h3:r[j]?=Δ (Δ q):=by cases e:r[j]? with|none=>rw[e] at h2;exact aQ h2|some o=>rw[e] at h2;simp at h2;rw[h2]
  obtain⟨w',e1,r1⟩:=ar.at_ j q h3;refine⟨w',?_,(r1.mo fN).le le⟩;rw[ZD,ej];simp[e1]
theorem cI.cons{K:KB}(ar:cI K H m Z r σ)(rp:ak K H m Z p v):cI K H m Z (Δ p::r) (Δ v::σ):=by refine⟨by simp[ar.len],λi q h=>?_⟩;cases i with|zero=>simp at h;subst h;exact⟨v,by simp,rp⟩|succ i=>exact ar.at_ i q (by simpa using h)
theorem Ge{K:KB}(ar:cI K H m Z r σ)(fN:H acc=Θ)(le:Le K m H m2 H2)(rp:ak K H2 m2 (acc::Z) p v):
  cI K H2 m2 (acc::Z) (Δ p::bO js r) (Δ v::js.map λj=>(σ[j]?).join):=(vR ar fN le).cons rp
theorem Gf{gB:P->cb}(O4:∀(p:P) (v:V) (m:List Addr) (H:Hp) (Z:List Addr) (us fr:L2.St) (rb:cb) (Q':L2.St->Hp->Prop),okp p=Λ->ak (af X kt) H m Z p v->cI (af X kt) H m Z rb fr->us.length=ts->
   (∀Lk:L2.St,Lk.length=ts->cI (af X kt) H m Z (gB p++rb) (Lk++fr)->Q' (Lk++fr) H)->gt v (us++fr) H Q')(h:tL (af X kt) Z (λr st=>(cK C w r st).bind λps st1=>if ps.all okp=Λ/\ps.length<=au then dq (λp=>gB p++bO js r) (bH C c) (λr' aO=>aa C ee r' aO) ps st1 else .no) σ H Q):
  A0 (tW (af X kt) Z (cK C w)) gt (QI (af X kt) (bH C c)) (Vb (af X kt) (aa C ee)) ts js σ H Q:=by
 obtain⟨m0,r,bN,ar,X9,h⟩:=h;refine⟨m0,r,bN,ar,X9,?_⟩;cases hw:cK C w r bN with
 |ex x s=>rw[hw] at h;exact(show False from h).elim|no=>rw[hw] at h;exact(show False from h).elim|ok ps st1=>
  rw[hw] at h;simp only[ae] at h;split at h
  ·rename_i hlen;obtain⟨Dd,hlen⟩:=hlen;intro m1 H1 bY bp J wk acc fN
   let G':P->cb:=λp=>gB p++bO js r
   let K':=af X kt
   let fr:L2.St:=js.map λj=>(σ[j]?).join
   let CK:Nat->List P->aM->Prop:=λi qs st=>match dq G' (bH C c) (λr' aO=>aa C ee r' aO) (ps.drop i) st with|.ok rest aO=>LQ (af X kt) Z (.ok (qs++rest) aO) m0 H Q|_=>False
   have Vc:CK 0 [] st1:=by show(match dq G' (bH C c) (λr' aO=>aa C ee r' aO) (ps.drop 0) st1 with|.ok rest aO=>LQ (af X kt) Z (.ok ([]++rest) aO) m0 H Q|_=>False);rw[acA];cases hc:dq G' (bH C c) (λr' aO=>aa C ee r' aO) ps st1 with|ok rest aO=>have h':LQ (af X kt) Z (dq G' (bH C c) (λr' aO=>aa C ee r' aO) ps st1) m0 H Q:=h;rw[hc] at h';exact h'|ex x s=>have h':LQ (af X kt) Z (dq G' (bH C c) (λr' aO=>aa C ee r' aO) ps st1) m0 H Q:=h;rw[hc] at h';exact h'|no=>have h':LQ (af X kt) Z (dq G' (bH C c) (λr' aO=>aa C ee r' aO) ps st1) m0 H Q:=h;rw[hc] at h';exact h'
   refine⟨λi k τ H'=>k=ps.length - i/\i<=ps.length/\(∃us:L2.St,us.length=ts/\τ=us++fr)/\∃m st qs ys,Le (af X kt) m1 H1 m H'/\aC (af X kt) H' m (acc::Z) st/\H' acc=Δ (.lst ys)/\aj (af X kt) H' m (acc::Z) qs ys/\qs.length<=i/\CK i qs st,⟨ps.length,by simp,aaB _,⟨aaS ts Θ,acs,rfl⟩,?_⟩,?_⟩;·exact⟨m1,st1,[],[],Le.same (bu fN _),bp.laid fN _,aG,rfl,ZC _,Vc⟩
   ·intro i k τ H' tm;refine cps λgG kG=>?_;obtain⟨rfl,hi,⟨us0,lus,rfl⟩,m,st,qs,ys,le,as,O5,rq,hql,ck⟩:=tm;obtain⟨w1,w2⟩:=wk m H' (acc::Z) le (λa ha=>(abM.mp ha).elim (λz=>.inr (by rw[z];exact fN)) .inl) i;refine kG ?_;by_cases gE:i < ps.length
    ·have QJ:i < ps.length:=gE;obtain⟨go,yl⟩:=w1 ps[i] (Zu QJ);refine .inr ⟨go,λx H2 hy=>?_⟩;obtain⟨sm,rx⟩:=yl x H2 hy;have DM:Le (af X kt) m H' m H2:=Le.same sm;replace le:=le.trans DM;replace as:=as.same sm;replace O5:=sm _ _ O5;replace rq:=rq.le DM;have e7:ps.drop i=ps[i]::ps.drop (i+1):=aaH QJ;have om:(match dq G' (bH C c) (λr' aO=>aa C ee r' aO) (ps[i]::ps.drop (i+1)) st with|.ok rest aO=>LQ (af X kt) Z (.ok (qs++rest) aO) m0 H Q|_=>False):=by rw[<-e7];exact ck
     rw[jk] at om;refine O4 ps[i] x m H2 (acc::Z) us0 fr (bO js r) _ (abe.mp Dd _ (aay QJ)) rx (vR (js:=js) (ar.le bY) fN le) lus λLk S0 S2=>?_;refine⟨acc::Z,m,G' ps[i],st,S2,as,?_⟩;cases hc:bH C c (G' ps[i]) st with
     |ex x s=>rw[hc] at om;exact om.elim|no=>rw[hc] at om;exact om.elim|ok b st2=>
      rw[hc] at om;simp only[ae] at om;intro m2 H2 fP fA;have BD:H2 acc=Δ (.lst ys):=fP.keep acc _ O5 (as.zm acc Zx) (λ_ z=>nomatch z);cases b with
      |false=>refine⟨ps.length - (i+1),ab4 _ _ gE,rfl,gE,⟨Lk,S0,rfl⟩,m2,st2,qs,ys,le.trans fP,fA,BD,rq.le fP,by lia,?_⟩;exact om|true=>
       refine⟨acc::Z,m2,G' ps[i],st2,S2.le fP,fA,?_⟩;have oo:(match (aa C ee (G' ps[i]) st2).bind λy st3=>(dq G' (bH C c) (λr' aO=>aa C ee r' aO) (ps.drop (i+1)) st3).bind λys nE=>R.ok (y::ys) nE with|.ok rest aO=>LQ (af X kt) Z (.ok (qs++rest) aO) m0 H Q|_=>False):=om;cases he:aa C ee (G' ps[i]) st2 with
       |ex x s=>rw[he] at oo;exact oo.elim|no=>rw[he] at oo;exact oo.elim|ok y st3=>
        rw[he] at oo;simp only[ae] at oo;intro m3 H3 vS w9 v rv;have kz:H3 acc=Δ (.lst ys):=vS.keep acc _ BD (fA.zm acc Zx) (λ_ z=>nomatch z);have hyl:ys.length=qs.length:=rq.length;have Ya:aj (af X kt) (upd H3 acc (.lst (ys++[v]))) m3 (acc::Z) (qs++[y]) (ys++[v]):=by have q1:aj (af X kt) H3 m3 (acc::Z) (qs++[y]) (ys++[v]):=((rq.le fP).le vS).append ⟨v,[],rfl,rv,rfl⟩;exact q1.congr (uz kz) (λb us _ hz h=>DL (λz=>hz (by rw[z];exact Zx)) h) (uA kz) (pP kz)
        refine⟨ys,kz,by rw[<-dG];lia,ps.length - (i+1),ab4 _ _ gE,rfl,gE,⟨Lk,S0,rfl⟩,m3,st3,qs++[y],ys++[v],?_,w9.SX kz,aG,Ya,by rw[ZW];simp;lia,?_⟩;·exact Le.SY ((le.trans fP).trans vS) fN kz
        ·show(match dq G' (bH C c) (λr' aO=>aa C ee r' aO) (ps.drop (i+1)) st3 with|.ok rest aO=>LQ (af X kt) Z (.ok ((qs++[y])++rest) aO) m0 H Q|_=>False);cases hr:dq G' (bH C c) (λr' aO=>aa C ee r' aO) (ps.drop (i+1)) st3 with|ex x s=>rw[hr] at oo;exact oo|no=>rw[hr] at oo;exact oo|ok rest nE=>rw[hr] at oo;show LQ (af X kt) Z (R.ok ((qs++[y])++rest) nE) m0 H Q;rw[aas];exact oo
    ·have e:i=ps.length:=by lia
     subst e;refine .inl ⟨w2 rfl,?_⟩;have om:(match dq G' (bH C c) (λr' aO=>aa C ee r' aO) (ps.drop ps.length) st with|.ok rest aO=>LQ (af X kt) Z (.ok (qs++rest) aO) m0 H Q|_=>False):=ck;rw[ad9,yB] at om;have oo:LQ (af X kt) Z (R.ok (qs++[]) st) m0 H Q:=om;rw[aau] at oo;exact oo m H' acc ys (bY.trans le) (bY.ED fN) (as.zm acc Zx) O5 as rq
  ·exact(show False from h).elim
theorem BE(h:tL (af X kt) Z (be C (.comp w 1 js c ee)) σ H Q):
  A0 (tW (af X kt) Z (cK C w)) (uL 0) (QI (af X kt) (bH C c)) (Vb (af X kt) (aa C ee)) 1 js σ H Q:=by
 refine Gf (okp:=λ_=>Λ) (gB:=λp=>[Δ p]) (λp v m H Z us fr rb Q' _ rp ar lu q=>?_) ?_
 ·match us,lu with|[u],_=>exact q [Δ v] rfl (ar.cons rp)
 ·have e:be C (.comp w 1 js c ee)=λr st=>(cK C w r st).bind λps st1=>if(ps.all λ_=>Λ)=Λ/\ps.length<=au then dq (λp=>[Δ p]++bO js r) (bH C c) (λr' aO=>aa C ee r' aO) ps st1 else .no:=by funext r st;rw[k7];simp
  rw[<-e];exact h
theorem rg{K:KB}{st:aM}(as:aC K H m Z st)(ha:m[n]?=Δ a)(h:yq n st i=Δ o):∃us,H a=Δ (.lst us)/\(o=Θ->us.length<=i)/\∀p,o=Δ p->∃v,us[i]?=Δ v/\ak K H m Z p v:=by
 unfold yq at h;split at h;·rename_i xs hs;obtain rfl:=sj h;refine lU (λa' e us hu rs=>?_) (as.at_ n _ hs);rw[ha] at e;obtain rfl:=sj e;refine⟨us,hu,λz=>?_,λp z=>rs.get z⟩;rw[rs.length];exact List.getElem?_eq_none_iff.mp z
 ·exact aQ h
theorem yI{e:E}(h:tL (af X kt) Z (be C (.cF e js c ee)) σ H Q):
  A0 (Mv X.K (tE (af X kt) Z (aa C e))) (uL 0) (QI (af X kt) (bH C c)) (Vb (af X kt) (aa C ee)) 1 js σ H Q:=by
 obtain⟨m0,r,bN,ar,X9,h⟩:=h;rw[sJ] at h;refine⟨m0,r,bN,ar,X9,?_⟩;cases hw:aa C e r bN with
 |ex x s=>rw[hw] at h;exact(show False from h).elim|no=>rw[hw] at h;exact(show False from h).elim|ok x0 st1=>
  rw[hw] at h;simp only[ae] at h;split at h
  ·rename_i n;intro m1 H1 bY bp v rv;obtain⟨a,ha,rfl⟩:=rv
   let G':P->cb:=λp=>Δ p::bO js r
   let fr:L2.St:=js.map λj=>(σ[j]?).join
   let CK:Nat->Nat->List P->aM->Prop:=λk i qs st=>match cF n G' (bH C c) (λr' aO=>aa C ee r' aO) k i st with|.ok rest aO=>LQ (af X kt) Z (.ok (qs++rest) aO) m0 H Q|_=>False
   have Vc:CK au 0 [] st1:=by show(match cF n G' (bH C c) (λr' aO=>aa C ee r' aO) au 0 st1 with|.ok rest aO=>LQ (af X kt) Z (.ok ([]++rest) aO) m0 H Q|_=>False);have h':LQ (af X kt) Z (cF n G' (bH C c) (λr' aO=>aa C ee r' aO) au 0 st1) m0 H Q:=h;cases hc:cF n G' (bH C c) (λr' aO=>aa C ee r' aO) au 0 st1 with|ok rest aO=>rw[hc] at h';exact h'|ex x s=>rw[hc] at h';exact h'|no=>rw[hc] at h';exact h'
   have O6:∃us,H1 a=Δ (.lst us):=by have ck:=Vc;have om:(match cF n G' (bH C c) (λr' aO=>aa C ee r' aO) (16777215+1) 0 st1 with|.ok rest aO=>LQ (af X kt) Z (.ok ([]++rest) aO) m0 H Q|_=>False):=ck;rw[oa] at om;cases ho:yq n st1 0 with|none=>rw[ho] at om;exact om.elim|some o=>obtain⟨us,hu,_⟩:=rg bp ha ho;exact⟨us,hu⟩
   obtain⟨S3,S4⟩:=O6;refine⟨a,rfl,⟨S3,.inl (.inl S4)⟩,λacc fN=>?_⟩;refine⟨λi k τ H'=>k+i=au/\(∃u,τ=u::fr)/\∃m st qs ys,Le (af X kt) m1 H1 m H'/\aC (af X kt) H' m (acc::Z) st/\H' acc=Δ (.lst ys)/\aj (af X kt) H' m (acc::Z) qs ys/\qs.length<=i/\CK k i qs st,⟨au,rfl,⟨Θ,rfl⟩,?_⟩,?_⟩;·exact⟨m1,st1,[],[],Le.same (bu fN _),bp.laid fN _,aG,rfl,ZC _,Vc⟩
   ·intro i k τ H' Ku;refine cps λgG kG=>?_;obtain⟨hk,⟨u,rfl⟩,m,st,qs,ys,le,as,O5,rq,hql,ck⟩:=Ku;refine kG ?_;have S5:m[n]?=Δ a:=by obtain⟨t,et⟩:=le.pre;rw[et,Zy (List.getElem?_eq_some_iff.mp ha).1];exact ha
    cases k with
    |zero=>exact(show False from ck).elim|succ k=>
     have om:(match cF n G' (bH C c) (λr' aO=>aa C ee r' aO) (k+1) i st with|.ok rest aO=>LQ (af X kt) Z (.ok (qs++rest) aO) m0 H Q|_=>False):=ck;rw[oa] at om;cases ho:yq n st i with
     |none=>rw[ho] at om;exact om.elim|some o=>
      rw[ho] at om;refine aB (λus hu q0 q1=>?_) (rg as S5 ho);cases o with
      |none=>have oo:LQ (af X kt) Z (R.ok (qs++[]) st) m0 H Q:=om;rw[aau] at oo;exact .inl ⟨⟨us,.inl (.inl hu),q0 rfl⟩,oo m H' acc ys (bY.trans le) (bY.ED fN) (as.zm acc Zx) O5 as rq⟩|some p=>
       obtain⟨vx,MX,rx⟩:=q1 p rfl;refine .inr ⟨⟨us,vx,.inl (.inl hu),MX⟩,λx H2 hy=>?_⟩;obtain⟨rfl,hx⟩:=hy;have yi:=hx us (.inl (.inl hu));rw[MX] at yi;obtain rfl:=sj yi;simp only at om;have S2:=Ge (js:=js) (ar.le bY) fN le rx;refine⟨acc::Z,m,G' p,st,S2,as,?_⟩;cases hc:bH C c (G' p) st with
       |ex x s=>rw[hc] at om;exact om.elim|no=>rw[hc] at om;exact om.elim|ok b st2=>
        rw[hc] at om;simp only[ae] at om;intro m2 H2 fP fA;have BD:H2 acc=Δ (.lst ys):=fP.keep acc _ O5 (as.zm acc Zx) (λ_ z=>nomatch z);cases b with
        |false=>exact⟨k,abb k,by lia,⟨Δ vx,rfl⟩,m2,st2,qs,ys,le.trans fP,fA,BD,rq.le fP,by lia,om⟩|true=>
         refine⟨acc::Z,m2,G' p,st2,S2.le fP,fA,?_⟩;have oo:(match (aa C ee (G' p) st2).bind λy st3=>(cF n G' (bH C c) (λr' aO=>aa C ee r' aO) k (i+1) st3).bind λys nE=>R.ok (y::ys) nE with|.ok rest aO=>LQ (af X kt) Z (.ok (qs++rest) aO) m0 H Q|_=>False):=om;cases he:aa C ee (G' p) st2 with
         |ex x s=>rw[he] at oo;exact oo.elim|no=>rw[he] at oo;exact oo.elim|ok y st3=>
          rw[he] at oo;simp only[ae] at oo;intro m3 H3 vS w9 v rv;have kz:H3 acc=Δ (.lst ys):=vS.keep acc _ BD (fA.zm acc Zx) (λ_ z=>nomatch z);have hyl:ys.length=qs.length:=rq.length;have Ya:aj (af X kt) (upd H3 acc (.lst (ys++[v]))) m3 (acc::Z) (qs++[y]) (ys++[v]):=by have q1:aj (af X kt) H3 m3 (acc::Z) (qs++[y]) (ys++[v]):=((rq.le fP).le vS).append ⟨v,[],rfl,rv,rfl⟩;exact q1.congr (uz kz) (λb us _ hz h=>DL (λz=>hz (by rw[z];exact Zx)) h) (uA kz) (pP kz)
          refine⟨ys,kz,by rw[<-dG];lia,k,abb k,by lia,⟨Δ vx,rfl⟩,m3,st3,qs++[y],ys++[v],?_,w9.SX kz,aG,Ya,by rw[ZW];simp;lia,?_⟩;·exact Le.SY ((le.trans fP).trans vS) fN kz
          ·show(match cF n G' (bH C c) (λr' aO=>aa C ee r' aO) k (i+1) st3 with|.ok rest aO=>LQ (af X kt) Z (.ok ((qs++[y])++rest) aO) m0 H Q|_=>False);cases hr:cF n G' (bH C c) (λr' aO=>aa C ee r' aO) k (i+1) st3 with|ex x s=>rw[hr] at oo;exact oo|no=>rw[hr] at oo;exact oo|ok rest nE=>rw[hr] at oo;show LQ (af X kt) Z (R.ok ((qs++[y])++rest) nE) m0 H Q;rw[aas];exact oo
  ·exact(show False from h).elim
theorem iK{env:PySem.Env}:∀{names:List (Str×ab5)} {x},names.lookup x=Δ .globalImplicit->
  (names.map λ(n,k)=>if(k==ZV&&env.scope.kind==.function&&env.kindOf n==Δ .cell) then(n,aa5) else(n,k)).lookup x=Δ .globalImplicit
 |[],_,h=>by simp at h|(n,k)::r,x,h=>by
  have ih:=@iK env r x;show abc x ((if(k==ZV&&env.scope.kind==.function&&env.kindOf n==Δ .cell)=Λ then(n,aa5) else(n,k))::_)=_;cases hx:x==n with
  |true=>simp only[Z6,hx] at h;obtain rfl:=sj h;rw[if_neg (by simp)];simp[Z6,hx]|false=>
   simp only[Z6,hx] at h;by_cases hc:(k==ZV&&env.scope.kind==.function&&env.kindOf n==Δ .cell)=Λ;·rw[if_pos hc];simp only[Z6,hx];exact ih h
   ·rw[if_neg hc];simp only[Z6,hx];exact ih h
theorem Good.zW(T:Good X kt g C){N:List Str}(h:KQ g ts N js sc=Λ):kT X N ts js sc:=by unfold KQ at h;simp only[Zr,decide_eq_true_eq,abe,ab0] at h;obtain⟨⟨⟨h1,h2⟩,h3⟩,h4⟩:=h;refine⟨h1,h2,λx hx=>(h3 x hx).1.1,λx hx hl=>(h3 x hx).1.2.resolve_left λz=>z hl,λx hx hf=>T.JP _ ((h3 x hx).2.resolve_left λz=>z hf),λi y j e1 e2=>?_⟩;have hi:i∈Zq js.length:=aaF.mpr (List.getElem?_eq_some_iff.mp e2).1;have q:=h4 i hi;rw[e1,e2] at q;rw[T.N];simpa using q
theorem vL.inner(h:vL X kt c x n):vL (nY X pins N sc fp Cc s H) kt c x n:=⟨h.ex⟩
theorem Ew.inner(h:Ew X kt C k a c b9):Ew (nY X pins N sc fp Cc s H) kt C k a c b9:=⟨h.ob,h.ex⟩
theorem Good.inner(T:Good X kt g C){pins:List (Addr×Obj)}{N:List Str}{js:List Nat}{sc:Scope}{fp:List Addr}{Cc:Addr}{s:ZR}{H:Hp}(hnc:∀x∈sc.names,x.2≠.cell):Good (nY X pins N sc fp Cc s H) kt (g.inner N sc) C where
 N:=rfl
 loc:=λx h=>lookup_relabel_local h
 JP:=λx h=>by
  rcases h with h|h;·exact absurd rfl (hnc _ (aaq h))
  ·exact kR h
 gl:=λx h=>iK h
 calm:=T.calm
 hu:=T.hu
 bl:=T.bl
 fn:=λk x n h=>(T.fn k x n h).inner
 cs:=T.cs
 tb:=T.tb
 fld:=T.fld
 QF:=T.QF
 QG:=T.QG
 sL:=λhv k a c b9 h=>(T.sL hv k a c b9 h).inner
 lam:=λk pa bo sc' ps h=>absurd (show Ξ=Λ from h) (by decide)
 eR:=λf x n ls h=>absurd (show Ξ=Λ from h) (by decide)
 j8:=λf x ls h=>absurd (show Ξ=Λ from h) (by decide)
end
section
variable{X:Cx}{kt:KT}{g:G}{C:Nat->List P->aM->R P}{Z:List Addr}
theorem BF(hs:∀z∈xs,notStar z=Λ):(abC pos (Z9 xs env)).all (λx=>!x.1)=Λ:=by have h:=g8 (env:=env) (pos:=pos) hs;rw[adT] at h;rw[abe];intro x hx;have:=h x hx;revert this;cases x.1<;>simp
theorem yJ(hs:∀z∈xs,notStar z=Λ)(hn:xs.length < 30)(nB:(apos.endLine==pos.line)=Λ):
  eval (.Call (.Attribute (.Name x p) mm apos) xs [] pos) env=(do
   let ov<-eval (.Name x p) env
   aee apos.atName
   let (f,first)<-aey [ov] (ad5 ov mm (do return (<-importBound (.Name x p) env).getD Λ))
   aeN pos f first (abC pos (Z9 xs env)) (adw pos (ack [] env))):=by
 rw[arm_eval_Call];have S6:methodCallForm (xs.length+([]:List adU).length) (abC pos (Z9 xs env)) (adw pos (ack [] env))=Λ:=by unfold methodCallForm;rw[BF hs];have:xs.length+0+0 < 30:=hn;simp[hn];exact⟨λa b h=>(by cases h),hn⟩
 have Ll:methodCallPos Λ (.Name x p) env apos pos=pure pos:=by unfold methodCallPos;simp[nB]
 unfold methodCall;rw[S6,Ll];rfl
theorem O7(T:Good X kt g C)(hm:g.CL k c mm cy.length=Λ)(h1:g.N[i]?=Δ x)(h2:g.zO x=Λ)(h3:aX x=Λ)(hn:xs.length < 30)(nB:(apos.endLine==pos.line)=Λ)(hs:∀z∈xs,notStar z=Λ)(hl:xs.length=cy.length)(h:PA X xs (tA (af X kt) Z (aE C cy))):
  PE X (.Call (.Attribute (.Name x p) mm apos) xs [] pos) (tE (af X kt) Z (aa C (.qL k c mm i cy))):=by
 refine cps λgG kG=>?_;obtain⟨A,l,fa,fd,ps,k1,kc,km,F,hr,hb⟩:=T.QF k c mm cy.length hm;refine kG ?_;have red:∀σ H Q,tE (af X kt) Z (aa C (.qL k c mm i cy)) σ H Q->Ed A mm (DG (af X kt) (C k) (cy.length+1)) [] E0 (tE (af X kt) Z (aa C (.var i))) (tA (af X kt) Z (aE C cy)) σ H Q:=by
  rintro σ H Q ⟨m,ρ,st,ar,as,h⟩;rw[Dz] at h;refine⟨m,ρ,st,ar,as,?_⟩;rw[mT];refine(Ok.bind h).mono λq st1 m1 H1 bY bp h1 v rv=>?_;refine cps λgG kG=>?_;refine aB (λu e h2 _=>?_) (Ok.of (Ok.bind h1) bp);obtain⟨⟨n,fs⟩,e1,e2⟩:=dt e;refine g6 (λa A' dx us aH hm' iz hs g1 g2 g3 g4=>?_) (DI bp rv e1);refine kG ?_;subst aH;subst iz;rw[show ZU X.K ZL c=Δ (Δ (.ref A')) from g1] at k1;cases k1;have e3:fs.lookup mm=Θ:=by
   by_cases hh:(fs.lookup mm).isNone=Λ;·exact abo.mp hh
   ·rw[if_neg hh] at e2;exact aQ e2
  refine⟨a,dx,us,rfl,g2,(aS.look (f:=mm) g4).2 e3,m1,ρ,st1,ar.le bY,bp,(Ok.bind h2).yD λqs st2 m2 H2 hq fP fA h3 vs jP=>?_⟩;show DG (af X kt) (C k) (cy.length+1) (.ref a::(vs++[])) H2 Q E0;rw[aau];exact⟨m2,Z,.obj n::qs,st2,by rw[ZS,jP.length,gQ hq],⟨.ref a,vs,rfl,rv.le fP,jP⟩,fA,h3⟩
 cases xs with
 |nil=>
  have e:cy=[]:=by cases cy with|nil=>rfl|cons a b=>simp at hl
  subst e;refine PE.imp (Hl (Bu (Z:=Z) (kt:=kt) T h1 h2 h3) kc km F hr hb .nil AZ (yJ hs hn nB)) λσ H Q h=>?_;have r:=red σ H Q h;unfold Ed at r ⊢;obtain⟨m,ρ,st,ar,as,h1⟩:=r;refine⟨m,ρ,st,ar,as,h1.mono λq st1 m1 H1 bY bp hh v rv=>?_⟩;obtain⟨a,dx,us,e1,e2,e3,m2,ρ2,st2,JR,fA,h4⟩:=hh v rv;rw[aF] at h4;exact⟨a,dx,us,e1,e2,e3,Ok.here h4 fA [] rfl⟩
 |cons y ys=>exact PE.imp (Kb (Bu (Z:=Z) (kt:=kt) T h1 h2 h3) kc km F hr hb .nil AZ h (bP (hs y Zx)) (g8 λz hz=>hs z (Zs _ hz)) (yJ hs hn nB)) red
theorem O8(T:Good X kt g C)(hm:g.CM k c cy.length=Λ)(hg:g.gl c=Λ)(h3:aX c=Λ)(hs:∀z∈y::ys,notStar z=Λ)(h:PA X (y::ys) (tA (af X kt) Z (aE C cy))):
  PE X (.Call (.Name c p) (y::ys) [] pos) (tE (af X kt) Z (aa C (.make k c cy))):=by
 refine cps λgG kG=>?_;obtain⟨A,l,fa,fd,ps,k1,k2,M,F,hr,hb⟩:=T.QG k c cy.length hm;refine kG ?_;refine PE.imp (Kc M F hr (T.glob hg) k1 hb .nil AZ h (pn h3).1 (bP (hs y Zx)) (g8 λz hz=>hs z (Zs _ hz))) ?_;rintro σ H Q ⟨m,ρ,st,ar,as,h⟩;rw[vf] at h;refine⟨m,ρ,st,ar,as,(Ok.bind h).yD λqs st1 m1 H1 hq bY bp h1 vs jP=>?_⟩;intro x dx hx hdx fT;rw[aau];have sm:lQ H1 (upd H1 dx (.own x)):=bu hdx _;have fA:=bp.same sm;have Vd:upd H1 dx (.own x) x=Θ:=by rw[av (aaw fT)];exact hx
 have fP:Le (af X kt) m1 H1 (m1++[x]) (upd (upd H1 dx (.own x)) x (.ins A dx [])):=(Le.same sm).trans ((Le.same (bu Vd _)).grow Vd);have w9:aC (af X kt) (upd (upd H1 dx (.own x)) x (.ins A dx [])) (m1++[x]) Z (st1++[.ins c []]):=(fA.laid Vd (.ins A dx [])).vE (fA.fresh Vd).2 ⟨A,dx,[],k2,aG,by rw[av fT];exact aG,rfl⟩;have hi:(m1++[x])[st1.length]?=Δ x:=by rw[ZX (by rw[bp.len];exact ZC _),bp.len];simp
 refine⟨m1++[x],Z,.obj st1.length::qs,st1++[.ins c []],by rw[ZS,jP.length,gQ hq],⟨.ref x,vs,rfl,⟨x,hi,rfl⟩,jP.le fP⟩,w9,?_⟩;refine(Ok.bind (Ok.le h1 fP)).mono λq nE m4 H4 AB EC h4 v rv=>?_;cases q with
 |d d=>cases d with|bG=>refine⟨rv,Ok.here h4 EC (.ref x) ⟨x,?_,rfl⟩⟩;obtain⟨t,rfl⟩:=AB.pre;rw[Zy (by simp[bp.len])];exact hi|_=>exact(show False from h4).elim
 |_=>exact(show False from h4).elim
theorem aj.dropLast{K:KB}:∀{ps} {us},aj K H m Z ps us->aj K H m Z ps.dropLast us.dropLast
 |[],us,h=>by obtain rfl:=show us=[] from h;exact h|[p],us,h=>by refine ah (λv vs aH r rs=>?_) ((show ∃v vs,us=v::vs/\ak K H m Z p v/\aj K H m Z [] vs from h));subst aH;obtain rfl:=show vs=[] from rs;exact rfl|p::q::ps,us,h=>by refine ah (λv vs aH r rs=>?_) ((show ∃v vs,us=v::vs/\ak K H m Z p v/\aj K H m Z (q::ps) vs from h));subst aH;refine ah (λv2 vs2 aH r2 rs2=>?_) ((show ∃v vP,vs=v::vP/\ak K H m Z q v/\aj K H m Z ps vP from rs));subst aH;have:=aj.dropLast rs;rw[List.dropLast_cons₂,List.dropLast_cons₂];exact⟨v,_,rfl,r,this⟩
theorem aj.at_{K:KB}:∀{ps} {us} {i:Nat},aj K H m Z ps us->ps[i]?=Δ p->∃v,us[i]?=Δ v/\ak K H m Z p v
 |[],us,i,h,e=>by simp at e|q::ps,us,i,h,e=>by refine ah (λv vs aH r rs=>?_) ((show ∃v vs,us=v::vs/\ak K H m Z q v/\aj K H m Z ps vs from h));subst aH;cases i with|zero=>rw[ZJ] at e;obtain rfl:=sj e;exact⟨v,rfl,r⟩|succ i=>rw[ZK] at e ⊢;exact aj.at_ rs e
theorem aS.drop{κ:Type}[DecidableEq κ]{K:KB}{k:κ}:∀{kvs} {us},aS K H m Z kvs us->aS K H m Z (yp kvs k) (o6 us k)
 |[],us,h=>by obtain rfl:=show us=[] from h;exact rfl|(q,p)::kvs,us,h=>by
  refine ah (λv vs aH r rs=>?_) ((show ∃v vs,us=(q,v)::vs/\ak K H m Z p v/\aS K H m Z kvs vs from h));subst aH;have ih:=aS.drop (k:=k) rs;unfold yp o6 at ih ⊢;by_cases hq:q=k;·rw[aal (by simp[hq]),aal (by simp[hq])];exact ih
  ·rw[aae (by simp[hq]),aae (by simp[hq])];exact⟨v,_,rfl,r,ih⟩
theorem O9(hl:(ap.endLine==cp.line)=Λ)(hc:isCall o=Ξ)(ho:PE X o (tE (af X kt) Z (aa C a))):
  PE X (.Call (.Attribute o "pop" ap) [] [] cp) (tE (af X kt) Z (aa C (.FP a))):=by
 refine PE.imp (NT PySem.F.plainAttrs_list PySem.F.slot_list_pop PySem.F.type_list_pop NV ho (vQ hc) hl) ?_;rintro σ H Q ⟨m,r,st,ar,as,h⟩;rw[ve] at h;refine⟨m,r,st,ar,as,(Ok.bind h).mono λx st1 m1 H1 bY bp h1 v rv=>?_⟩;refine aB (λCN e1 h2 e7=>?_) (Ok.of (Ok.bind h1) bp);obtain⟨p,st2⟩:=CN;clear e7;unfold Ik at e1;split at e1
 ·rename_i n;split at e1;·rename_i xs S7;refine dJ (λw' hw e=>?_) (iX e1);cases e;obtain⟨b,hb,eb⟩:=(show ∃b,m1[n]?=Δ b/\v=.ref b from rv);subst eb;refine lU (λb' jJ zs hz rz=>?_) (bp.at_ n _ S7);rw[hb] at jJ;obtain rfl:=sj jJ;obtain⟨u,hu,ru⟩:=rz.at_ hw;obtain⟨vS,w9⟩:=bp.write (ho:=.lst zs.dropLast) (o':=.lst xs.dropLast) S7 hb λH' e _ f=>⟨_,e,(rz.mono f).dropLast⟩;refine⟨.inl ⟨rfl,zs,.inl (.inl hz)⟩,b,zs,u,rfl,rfl,hz,by rw[rz.length];exact hu,?_⟩;exact h2 m1 _ vS w9 u (ru.le vS)
  ·exact aQ e1
 ·exact aQ e1
theorem Pa(hl:(ap.endLine==cp.line)=Λ)(hc:isCall o=Ξ)(ho:PE X o (tE (af X kt) Z (aa C a)))(hx:PE X x (tE (af X kt) Z (aa C b)))(hs:notStar x=Λ):
  PE X (.Call (.Attribute o "pop" ap) [x] [] cp) (tE (af X kt) Z (aa C (.FO a b))):=by
 have s1:Z9 [x] X.env=[(Ξ,eval x X.env)]:=bP hs;refine PE.imp (Hu ho hx ⟨vQ hc,by rw[s1];rfl,hl,by rw[s1];rfl⟩) ?_;rintro σ H Q ⟨m,ρ,st,ar,as,h0⟩;rw[vc] at h0;refine⟨m,ρ,st,ar,as,(Ok.bind h0).mono λy st1 m1 H1 bY bp h1 v rv=>?_⟩;refine aB (λo' e h2 _=>?_) (Ok.of (Ok.bind h1) bp);refine cw (λn c aH sf hm iz ao hd=>?_) (vN bp e rv);subst aH;subst iz;refine⟨c,rfl,IF ao hd,m1,ρ,st1,ar.le bY,bp,(Ok.bind h2).mono λk st2 m2 H2 fP fA h3 u ru=>?_⟩;refine aB (λN5 e2 h4 e7=>?_) (Ok.of (Ok.bind h3) fA);obtain⟨p,st3⟩:=N5;clear e7;unfold Ij at e2;dsimp only at e2;split at e2;·rename_i kvs sE;obtain⟨kk,FE,e3⟩:=dt e2;obtain⟨w',hw,e4⟩:=iX e3;cases e4;obtain⟨b,hb,eb⟩:=(show ∃b,m2[n]?=Δ b/\V.ref c=.ref b from rv.le fP);cases eb;refine lU (λb' jJ us hu rs=>?_) (fA.at_ n _ sE);rw[hb] at jJ;obtain rfl:=sj jJ;obtain⟨v2,Ve,Yb⟩:=(rs.val (k:=kk)).2 _ hw;obtain⟨vS,w9⟩:=fA.write (ho:=.dK (o6 us kk)) (o':=.dK (yp kvs kk)) sE hb λH' e _ f=>⟨_,e,(rs.mono f).drop⟩;refine⟨us,kk,v2,hu,ru.key FE,Ve,?_⟩;exact h4 m2 _ vS w9 v2 (Yb.le vS)
 ·exact aQ e2
theorem Lm(hl:(ap.endLine==cp.line)=Λ)(hc:isCall o=Ξ)(ho:PE X o (tE (af X kt) Z (aa C a)))(hx:PE X x (tE (af X kt) Z (aa C b)))(hs:notStar x=Λ)(hy:PE X y (tE (af X kt) Z (aa C c)))(xX:notStar y=Λ):
  PE X (.Call (.Attribute o "setdefault" ap) [x,y] [] cp) (tE (af X kt) Z (aa C (.u6 a b c))):=by
 have s1:Z9 [x,y] X.env=[(Ξ,eval x X.env),(Ξ,eval y X.env)]:=(bP hs).trans (by rw[bP xX];rfl);refine PE.imp (HV ho hx hy ⟨vQ hc,by rw[s1];rfl,hl,by rw[s1];rfl⟩) ?_;rintro σ H Q ⟨m,ρ,st,ar,as,h0⟩;rw[mj] at h0;refine⟨m,ρ,st,ar,as,(Ok.bind h0).mono λy st1 m1 H1 bY bp h1 v rv=>?_⟩;refine aB (λo' e h2 _=>?_) (Ok.of (Ok.bind h1) bp);refine cw (λn c aH sf hm iz ao hd=>?_) (vN bp e rv);subst aH;subst iz;refine⟨c,rfl,IF ao hd,m1,ρ,st1,ar.le bY,bp,(Ok.bind h2).mono λk st2 m2 H2 fP fA h3 u ru=>?_⟩;refine⟨m2,ρ,st2,(ar.le bY).le fP,fA,(Ok.bind h3).mono λz st3 m3 H3 vS w9 h4 w' nX=>?_⟩;refine aB (λFb e2 h5 e7=>?_) (Ok.of (Ok.bind h4) w9);obtain⟨p,nE⟩:=Fb;clear e7;unfold sH at e2;dsimp only at e2;split at e2
 ·rename_i kvs sE;split at e2
  ·rename_i gE;refine dJ (λkk FE e3=>?_) (iX e2);obtain⟨b,hb,eb⟩:=(show ∃b,m3[n]?=Δ b/\V.ref c=.ref b from(rv.le fP).le vS);cases eb;refine lU (λb' jJ us hu rs=>?_) (w9.at_ n _ sE);rw[hb] at jJ;obtain rfl:=sj jJ;have rr:=rs.val (k:=kk);refine⟨us,kk,hu,(ru.le vS).key FE,by rw[rs.length,<-dG];exact gE,λv2 Ve=>?_,λhn=>?_⟩;·cases hv:fU kvs kk with|none=>rw[hv,Ve] at rr;exact tf rr.1|some w2=>rw[hv] at e3;cases e3;obtain⟨v3,e4,r3⟩:=rr.2 _ hv;rw[Ve] at e4;obtain rfl:=sj e4;exact Ok.here h5 w9 v2 r3
   ·cases hv:fU kvs kk with|some w2=>rw[hv,hn] at rr;exact ft rr.1|none=>rw[hv] at e3;cases e3;obtain⟨AB,EC⟩:=w9.write (ho:=.dK (putK us kk w')) (o':=.dK (nq kvs kk z)) sE hb λH' e _ f=>⟨_,e,(rs.mono f).put (f _ _ nX)⟩;exact h5 m3 _ AB EC w' (nX.le AB)
  ·exact aQ e2
 ·exact aQ e2
end
section
variable(C:Nat->List P->aM->R P)
def SE(e':E):Prop:=∀(kt:KT) (X:Cx) (g:G) (e:Expr) (Z:List Addr),Good X kt g C->jq g e' e=Λ->PE X e (tE (af X kt) Z (aa C e'))/\PT X e (tT (af X kt) Z (cx (aa C e')))
def SEs(es:List E):Prop:=(∀(kt:KT) (X:Cx) (g:G) (xs:List Expr) (Z:List Addr),Good X kt g C->iW g es xs=Λ->PA X xs (tA (af X kt) Z (aE C es)))/\
 (∀(kt:KT) (X:Cx) (g:G) (xs:List Expr) (Z:List Addr) (pos:Pos),Good X kt g C->iW g es xs=Λ->PE X (.BoolOp .And xs pos) (tE (af X kt) Z (ic C es))/\PW X (.BoolOp .And xs pos) (tT (af X kt) Z (cx (ic C es))))/\
 (∀(kt:KT) (X:Cx) (g:G) (xs:List Expr) (Z:List Addr) (pos:Pos),Good X kt g C->iW g es xs=Λ->PE X (.BoolOp .Or xs pos) (tE (af X kt) Z (ie C es))/\PW X (.BoolOp .Or xs pos) (tT (af X kt) Z (cx (ie C es))))
def SM(o:Option E):Prop:=(∀(kt:KT) (X:Cx) (g:G) (x:Option Expr) (Z:List Addr),Good X kt g C->okM g o x=Λ->PO X x (tO (af X kt) Z (yr C o)))/\
 (∀(kt:KT) (X:Cx) (g:G) (ifs:List Expr),Good X kt g C->XW g o ifs=Λ->Hw X ifs (QI (af X kt) (bH C o)))
def SL(l:L):Prop:=∀(kt:KT) (X:Cx) (g:G) (e:Expr) (Z:List Addr),Good X kt g C->MT g l e=Λ->PE X e (tL (af X kt) Z (be C l))
def SW(w:W):Prop:=∀(kt:KT) (X:Cx) (g:G) (e tg:Expr) (Z:List Addr),Good X kt g C->XX g w e=Λ->(DF w=Λ->∃es k p,tg=.Tuple es k p)->PI X tg e (tW (af X kt) Z (cK C w))
variable{C}
theorem yK(h:∀r st,d r st=.no):PE X e (tE (af X kt) Z d)/\PT X e (tT (af X kt) Z (cx d)):=by
 constructor;·rintro pins s σ H Q I ⟨m,r,st,_,_,q⟩;rw[h] at q;exact(show False from q).elim
 ·rintro pins s σ H Q I ⟨m,r,st,_,_,q⟩;unfold cx at q;rw[h] at q;exact(show False from q).elim
theorem pw_no(h:∀r st,d r st=.no):PW X e (tT (af X kt) Z (cx d)):=by rintro wh pins s σ H Q I ⟨m,r,st,_,_,q⟩;unfold cx at q;rw[h] at q;exact(show False from q).elim
theorem both(h:PE X e (tE (af X kt) Z d))(he:∀whole,aeW e X.env whole=(do let v<-whole;aee e.pos;aey [v] (truthy v))):PE X e (tE (af X kt) Z d)/\PT X e (tT (af X kt) Z (cx d)):=⟨h,K3 h he⟩
mutual
theorem aL:∀e':E,SE C e'
 |.var i=>λkt X g e Z T h=>by refine aP h λ_ _ h=>?_;simp only[Zr,decide_eq_true_eq] at h;exact both (Bu T h.1.1 h.1.2 h.2) λ_=>rfl|.cst d=>λkt X g e Z T h=>by
  rcases Bool.or_eq_true_iff.mp h with h|h;·refine pN h λc _ _ h=>?_;cases d with|int i=>obtain rfl:=of_decide_eq_true h;exact both (Bv G1 λ_ _=>rfl) λ_=>rfl|bl i=>obtain rfl:=of_decide_eq_true h;exact both (Bv Mu λ_ _=>rfl) λ_=>rfl|bG=>obtain rfl:=of_decide_eq_true h;exact both (Bv G3 λ_ _=>rfl) λ_=>rfl|str i=>obtain rfl:=of_decide_eq_true h;exact both (Bv G4 λ_ _=>rfl) λ_=>rfl|tup _=>exact ft h|pl _=>exact ft h
  ·refine aP h λx _ h=>?_;cases d with|int i=>have h:=Bool.and_eq_true_iff.mp h;have h':=Bool.and_eq_true_iff.mp h.1;obtain⟨t,ht⟩:=T.cs _ _ (of_decide_eq_true h'.2);exact both (Bv (JY (v:=.int _) (T.glob h'.1) ht ⟨t,rfl⟩ (pn h.2).1) λ_ _=>rfl) λ_=>rfl|_=>exact ft h
 |.op o a b=>λkt X g e Z T h=>by refine Ga h λ_ _ _ _ h=>?_;simp only[Zr,decide_eq_true_eq] at h;obtain⟨⟨rfl,h1⟩,h2⟩:=h;exact both (XZ (aL a kt X g _ Z T h1).1 (aL b kt X g _ Z T h2).1) λ_=>rfl|.FO a b=>λkt X g e Z T h=>by refine bc h λ_ _ _ _ h=>?_;refine cu h λ_ _ _ h=>?_;refine aJ h λ_ _ h=>?_;simp only[Zr,decide_eq_true_eq,ZO,aab] at h;obtain⟨⟨⟨⟨⟨⟨⟨rfl,rfl⟩,h0⟩,rfl⟩,h1⟩,h2⟩,h3⟩,h4⟩:=h;exact both (Pa h0 h1 (aL a kt X g _ Z T h2).1 (aL b kt X g _ Z T h3).1 h4) λ_=>rfl|.u6 a b c=>λkt X g e Z T h=>by refine bc h λ_ _ _ _ h=>?_;refine cu h λ_ _ _ h=>?_;refine aJ h λ_ _ h=>?_;refine aJ h λ_ _ h=>?_;simp only[Zr,decide_eq_true_eq,ZO,aab] at h;obtain⟨⟨⟨⟨⟨⟨⟨⟨⟨rfl,rfl⟩,h0⟩,rfl⟩,h1⟩,h2⟩,h3⟩,h4⟩,h5⟩,h6⟩:=h;exact both (Lm h0 h1 (aL a kt X g _ Z T h2).1 (aL b kt X g _ Z T h3).1 h4 (aL c kt X g _ Z T h5).1 h6) λ_=>rfl|.FP a=>λkt X g e Z T h=>by refine bc h λ_ _ _ _ h=>?_;refine cu h λ_ _ _ h=>?_;simp only[Zr,decide_eq_true_eq,ZO,aab] at h;obtain⟨⟨⟨⟨⟨rfl,rfl⟩,h0⟩,rfl⟩,h1⟩,h2⟩:=h;exact both (O9 h0 h1 (aL a kt X g _ Z T h2).1) λ_=>rfl|.attr c f i=>λkt X g e Z T h=>by refine cu h λ_ _ _ h=>?_;refine aP h λ_ _ h=>?_;simp only[Zr,decide_eq_true_eq] at h;obtain⟨⟨⟨⟨rfl,h1⟩,h2⟩,h3⟩,h4⟩:=h;exact both (OV T h1 h2 h3 h4) λ_=>rfl|.qL k c m i es=>λkt X g e Z T h=>by refine bc h λ_ _ _ _ h=>?_;refine cu h λ_ _ _ h=>?_;refine aP h λ_ _ h=>?_;simp only[Zr,decide_eq_true_eq,ZO] at h;obtain⟨⟨⟨⟨⟨⟨⟨⟨rfl,rfl⟩,h1⟩,h2⟩,h3⟩,h4⟩,h5⟩,h6⟩,h7⟩:=h;exact both (O7 T h1 h2 h3 h4 h7 h6 (cW h5) (ig h5) ((dH es).1 kt X g _ Z T h5)) λ_=>rfl|.make k c es=>λkt X g e Z T h=>by refine bc h λ_ xs jZ _ h=>?_;refine aP h λx p h=>?_;cases xs with|nil=>simp at h|cons y ys=>simp only[Zr,decide_eq_true_eq,ZO] at h;obtain⟨⟨⟨⟨⟨⟨rfl,rfl⟩,h1⟩,h2⟩,h3⟩,h4⟩,_⟩:=h;exact both (O8 T h1 h2 h3 (cW h4) ((dH es).1 kt X g _ Z T h4)) λ_=>rfl
 |.not a=>λkt X g e Z T h=>by refine Bs h λ_ _ _ h=>?_;simp only[Zr,decide_eq_true_eq] at h;obtain⟨rfl,h⟩:=h;exact⟨SJ (aL a kt X g _ Z T h).1,OO (aL a kt X g _ Z T h).2⟩|.cmp o a b=>λkt X g e Z T h=>by refine sO h λ_ _ _ _ h=>?_;refine aJ h λ_ _ h=>?_;refine aJ h λ_ _ h=>?_;simp only[Zr,decide_eq_true_eq,aab,ZO] at h;obtain⟨⟨⟨⟨⟨rfl,rfl⟩,rfl⟩,h1⟩,h2⟩,h3⟩:=h;exact⟨SI T (aL a kt X g _ Z T h1).1 (aL b kt X g _ Z T h2).1 h3,ON T (aL a kt X g _ Z T h1).1 (aL b kt X g _ Z T h2).1 h3⟩|.chain o o' a b c=>λkt X g e Z T h=>by refine sO h λ_ _ _ _ h=>?_;refine aJ h λ_ _ h=>?_;refine aJ h λ_ _ h=>?_;refine aJ h λ_ _ h=>?_;refine aJ h λ_ _ h=>?_;simp only[Zr,decide_eq_true_eq,aab,ZO] at h;obtain⟨⟨⟨⟨⟨⟨⟨⟨rfl,rfl⟩,rfl⟩,rfl⟩,h1⟩,h2⟩,h3⟩,h4⟩,h5⟩:=h;exact⟨K4 T (aL a kt X g _ Z T h1).1 (aL b kt X g _ Z T h2).1 (aL c kt X g _ Z T h3).1 h4 h5,IC T (aL a kt X g _ Z T h1).1 (aL b kt X g _ Z T h2).1 (aL c kt X g _ Z T h3).1 h4 h5⟩|.and es=>λkt X g e Z T h=>by refine vK h λop xs pos h=>?_;simp only[Zr,decide_eq_true_eq] at h;obtain⟨rfl,h⟩:=h;obtain⟨h1,h2⟩:=(dH es).2.1 kt X g xs Z pos T h;have e1:aa C (.and es)=ic C es:=rfl;rw[e1];exact⟨h1,h2.pt⟩|.or es=>λkt X g e Z T h=>by refine vK h λop xs pos h=>?_;simp only[Zr,decide_eq_true_eq] at h;obtain⟨rfl,h⟩:=h;obtain⟨h1,h2⟩:=(dH es).2.2 kt X g xs Z pos T h;have e1:aa C (.or es)=ie C es:=rfl;rw[e1];exact⟨h1,h2.pt⟩|.tup es=>λkt X g e Z T h=>by refine qY h λ_ _ _ h=>?_;exact both (SO ((dH es).1 kt X g _ Z T h)) λ_=>rfl|.lst mu l=>λkt X g e Z T h=>by have h1:=SQ (mu:=mu) (Pb l kt X g e Z T h);refine both h1 λwhole=>?_;cases l with|fO es=>exact Br h λ_ _ _=>rfl|comp w ts js c e=>exact iV h λ_ _ _ _ _=>rfl|iQ es=>exact bc h λ_ _ _ _ _=>rfl|zip a b=>exact bc h λ_ _ _ _ _=>rfl|cF e js c ee=>exact iV h λ_ _ _ _ _=>rfl|keys e=>exact bc h λ_ _ _ _ _=>rfl
 |.call f es=>λkt X g e Z T h=>by refine bc h λ_ _ _ _ h=>?_;refine aP h λ_ _ h=>?_;simp only[Zr,decide_eq_true_eq,ZO] at h;obtain⟨⟨⟨⟨rfl,h1⟩,h2⟩,h3⟩,h4⟩:=h;exact both (s_call T h1 h2 h3 (cW h4) (ig h4) ((dH es).1 kt X g _ Z T h4)) λ_=>rfl|.Ib a t=>λkt X g e Z T h=>by refine bc h λ_ _ _ _ h=>?_;refine aP h λ_ _ h=>?_;refine aJ h λ_ _ h=>?_;refine aJ h λ_ _ h=>?_;refine aP h λ_ _ h=>?_;simp only[Zr,decide_eq_true_eq,ZO] at h;obtain⟨⟨⟨⟨⟨⟨⟨⟨rfl,rfl⟩,rfl⟩,h1⟩,rfl⟩,h2⟩,h3⟩,h4⟩,h5⟩:=h;exact both (SR T h1 h3 h2 (aL a kt X g _ Z T h4).1 h5) λ_=>rfl|.bf f es=>λkt X g e Z T h=>by refine bc h λf0 xs jZ pos h=>?_;refine aP h λ_ _ h=>?_;simp only[Zr,decide_eq_true_eq,aab,ZO] at h;obtain⟨⟨⟨⟨rfl,rfl⟩,h1⟩,h2⟩,h3⟩:=h;cases xs with|nil=>exact tf h3|cons x xs=>exact both (X7 T h1 (cW h2) ((dH es).1 kt X g _ Z T h2)) λ_=>rfl
 |.ix a b=>λkt X g e Z T h=>by refine nJ h λ_ _ _ h=>?_;simp only[Zr,aab] at h;exact both (X5 T.hu (aL a kt X g _ Z T h.1.1).1 (aL b kt X g _ Z T h.1.2).1 h.2) λ_=>rfl|.FQ k d=>λkt X g e Z T h=>by refine Bq h λ_ _ _ h=>?_;refine aJ h λ_ _ h=>?_;refine vH h λ_ h=>?_;refine aJ h λ_ _ h=>?_;simp only[Zr,ZO] at h;obtain⟨⟨⟨rfl,rfl⟩,h1⟩,h2⟩:=h;exact both (OZ T h1 h2) λ_=>rfl|.qK t=>λkt X g e Z T h=>by refine Bq h λ_ _ _ h=>?_;simp only[Zr,ZO] at h;obtain⟨rfl,rfl⟩:=h;exact both OX λ_=>rfl|.nI i es=>λkt X g e Z T h=>by refine bc h λ_ xs jZ _ h=>?_;refine aP h λx p h=>?_;cases xs with|nil=>simp at h|cons y ys=>simp only[Zr,decide_eq_true_eq,ZO] at h;obtain⟨⟨⟨⟨⟨⟨rfl,h1⟩,h2⟩,h3⟩,h4⟩,_⟩,CH⟩:=h;exact both (K8 T CH h1 h2 h3 (cW h4) ((dH es).1 kt X g _ Z T h4)) λ_=>rfl
 |.eR f es ls=>λkt X g e Z T h=>by refine bc h λ_ xs jZ _ h=>?_;refine aP h λx p h=>?_;cases xs with|nil=>simp at h|cons y ys=>simp only[Zr,decide_eq_true_eq,ZO] at h;obtain⟨⟨⟨⟨⟨rfl,h1⟩,h2⟩,h3⟩,h4⟩,_⟩:=h;exact both (T.eR f x _ ls h1 Z y ys es p _ rfl h2 h3 (cW h4) ((dH es).1 kt X g _ Z T h4)) λ_=>rfl
 |.j8 i es ls=>λkt X g e Z T h=>by refine bc h λ_ xs jZ _ h=>?_;refine aP h λx p h=>?_;cases xs with|nil=>simp at h|cons y ys=>simp only[Zr,decide_eq_true_eq,ZO] at h;obtain⟨⟨⟨⟨⟨⟨rfl,h1⟩,h2⟩,h3⟩,h5⟩,h4⟩,_⟩:=h;exact both (T.j8 i x ls h5 Z y ys es p _ h1 h2 h3 (cW h4) ((dH es).1 kt X g _ Z T h4)) λ_=>rfl
 |.lam k=>λkt X g e Z T h=>by refine DD h λ_ _ _ _ h=>?_;exact both (T.lam k _ _ _ _ h Z) λ_=>rfl
theorem dH:∀es:List E,SEs C es
 |[]=>⟨λkt X g xs Z T h=>by rw[mv h];exact yH,λkt X g xs Z pos T h=>by exact⟨(yK λr st=>rfl).1,pw_no λr st=>rfl⟩,λkt X g xs Z pos T h=>⟨(yK λr st=>rfl).1,pw_no λr st=>rfl⟩⟩|a::cy=>by
  have ih:=dH cy;have ia:=aL a;refine⟨λkt X g xs Z T h=>?_,λkt X g xs Z pos T h=>?_,λkt X g xs Z pos T h=>?_⟩;·refine bZ (λx ys aH h1 h2 h3=>?_) (gR h);subst aH;exact oj (ia kt X g x Z T h1).1 (ih.1 kt X g ys Z T h3) h2
  ·refine bZ (λx ys aH h1 h2 h3=>?_) (gR h);subst aH;cases cy with|nil=>rw[mv h3];exact⟨OP (ia kt X g x Z T h1).1,K6 (ia kt X g x Z T h1).2⟩|cons b bs=>refine bZ (λy zs aH _ _ _=>?_) (gR h3);subst aH;obtain⟨i1,i2⟩:=ih.2.1 kt X g (y::zs) Z pos T h3;exact⟨OQ (ia kt X g x Z T h1).1 i1,K7 (ia kt X g x Z T h1).2 i2⟩
  ·refine bZ (λx ys aH h1 h2 h3=>?_) (gR h);subst aH;cases cy with|nil=>rw[mv h3];exact⟨SK (ia kt X g x Z T h1).1,OR (ia kt X g x Z T h1).2⟩|cons b bs=>refine bZ (λy zs aH _ _ _=>?_) (gR h3);subst aH;obtain⟨i1,i2⟩:=ih.2.2 kt X g (y::zs) Z pos T h3;exact⟨SN (ia kt X g x Z T h1).1 i1,OS (ia kt X g x Z T h1).2 i2⟩
theorem zX:∀o:Option E,SM C o
 |none=>⟨λkt X g x Z T h=>by
   have:x=Θ:=abo.mp h;rw[this];exact Lb,λkt X g ifs T h=>by
   have:ifs=[]:=ZO.mp h;rw[this];exact Gc⟩
 |some a=>by
  have ia:=aL a;refine⟨λkt X g x Z T h=>?_,λkt X g ifs T h=>?_⟩;·refine vH h λ_ h=>?_;exact Lc (ia kt X g _ Z T h).1
  ·refine aJ h λ_ _ h=>?_;simp only[Zr,ZO] at h;obtain⟨rfl,h⟩:=h;exact Gd λZ=>(ia kt X g _ Z T h).2
theorem Pb:∀l:L,SL C l
 |.fO es=>λkt X g e Z T h=>by refine Br h λ_ _ h=>?_;exact OT ((dH es).1 kt X g _ Z T h)|.comp w ts js c ee=>λkt X g e Z T h=>by
  refine iV h λelt gens sc pos' h=>?_;refine aJ h λge r h=>?_;refine uu h λtg iter ifs a h=>?_;refine aP h λx pos h=>?_;simp only[Zr,decide_eq_true_eq,aab,ZO] at h;obtain⟨⟨⟨⟨⟨⟨⟨⟨⟨⟨rfl,rfl⟩,rfl⟩,h1⟩,Yc⟩,h2⟩,h3⟩,h4⟩,h5⟩,h6⟩,h7⟩:=h;have B:=T.zW h2;have T':∀pins fp Cc s H,Good (nY X pins (iJ g x js) sc fp Cc s H) kt (g.inner (iJ g x js) sc) C:=λpins fp Cc s H=>T.inner (js:=js) B.gO;refine PE.imp (Ej T.calm B (zY w kt X g iter (.Name x pos) Z T h1 (λz=>by rw[Yc] at z;exact ft z)) (λpins fp Cc s H=>fR (i:=0) h4 rfl (.inl ((T' pins fp Cc s H).loc x h3)) (.inr ((T' pins fp Cc s H).loc x h3)))
   (λpins fp Cc s H=>(zX c).2 kt _ _ _ (T' pins fp Cc s H) h5) (λpins fp Cc s H=>Lj λZ=>(aL ee kt _ _ _ Z (T' pins fp Cc s H) h6).1) (λy=>?_)) λσ H Q q=>BE q
  cases iter<;>first
   |rfl
   |exact absurd (show Λ=Ξ from h7) aat.symm
 |.keys a=>λkt X g e Z T h=>by refine bc h λ_ _ _ _ h=>?_;refine aP h λ_ _ h=>?_;refine aJ h λ_ _ h=>?_;simp only[Zr,decide_eq_true_eq,ZO] at h;obtain⟨⟨⟨⟨⟨rfl,rfl⟩,rfl⟩,h1⟩,h2⟩,h3⟩:=h;exact OU T h1 (aL a kt X g _ Z T h2).1 h3|.iQ es=>λkt X g e Z T h=>by refine bc h λ_ _ _ _ h=>?_;refine aP h λ_ _ h=>?_;refine aJ h λ_ _ h=>?_;refine bc h λ_ _ _ _ h=>?_;refine aP h λ_ _ h=>?_;simp only[Zr,decide_eq_true_eq,ZO] at h;obtain⟨⟨⟨⟨⟨⟨⟨rfl,rfl⟩,rfl⟩,rfl⟩,h1⟩,rfl⟩,h2⟩,h3⟩:=h;exact O2 T h2 h1 h3 ((dH es).1 kt X g _ Z T h3)|.zip a b=>λkt X g e Z T h=>by refine bc h λ_ _ _ _ h=>?_;refine aP h λ_ _ h=>?_;refine aJ h λ_ _ h=>?_;refine bc h λ_ _ _ _ h=>?_;refine aP h λ_ _ h=>?_;refine aJ h λ_ _ h=>?_;refine aJ h λ_ _ h=>?_;simp only[Zr,decide_eq_true_eq,ZO] at h;obtain⟨⟨⟨⟨⟨⟨⟨⟨⟨⟨⟨rfl,rfl⟩,rfl⟩,rfl⟩,rfl⟩,h1⟩,rfl⟩,h2⟩,h3⟩,h4⟩,h5⟩,h6⟩:=h;exact O3 T h2 h1 (aL a kt X g _ Z T h3).1 h4 (aL b kt X g _ Z T h5).1 h6|.cF a js c ee=>λkt X g e Z T h=>by
  refine iV h λelt gens sc pos' h=>?_;refine aJ h λge r h=>?_;refine uu h λtg iter ifs a h=>?_;refine aP h λx pos h=>?_;simp only[Zr,decide_eq_true_eq,aab,ZO] at h;obtain⟨⟨⟨⟨⟨⟨⟨⟨rfl,rfl⟩,h1⟩,h2⟩,h3⟩,h4⟩,h5⟩,h6⟩,h7⟩:=h;have B:=T.zW h2;have T':∀pins fp Cc s H,Good (nY X pins (iJ g x js) sc fp Cc s H) kt (g.inner (iJ g x js) sc) C:=λpins fp Cc s H=>T.inner (js:=js) B.gO;refine PE.imp (Ej T.calm B (uh (aL a kt X g iter Z T h1).1) (λpins fp Cc s H=>fR (i:=0) h4 rfl (.inl ((T' pins fp Cc s H).loc x h3)) (.inr ((T' pins fp Cc s H).loc x h3)))
   (λpins fp Cc s H=>(zX c).2 kt _ _ _ (T' pins fp Cc s H) h5) (λpins fp Cc s H=>Lj λZ=>(aL ee kt _ _ _ Z (T' pins fp Cc s H) h6).1) (λy=>?_)) λσ H Q q=>yI q
  cases iter<;>first
   |rfl
   |exact absurd (show Λ=Ξ from h7) aat.symm
theorem zY:∀w:W,SW C w
 |.ex a=>λkt X g e tg Z T h _=>by have h:=Bool.and_eq_true_iff.mp h;exact SV (aL a kt X g e Z T h.1).1|.iQ es=>λkt X g e tg Z T h _=>by refine bc h λ_ _ _ _ h=>?_;refine aP h λ_ _ h=>?_;simp only[Zr,decide_eq_true_eq,ZO] at h;obtain⟨⟨⟨rfl,rfl⟩,h1⟩,h2⟩:=h;exact O0 T h1 h2 ((dH es).1 kt X g _ Z T h2)|.enum a=>λkt X g e tg Z T h ht=>by obtain⟨es,k,p,rfl⟩:=ht rfl;refine bc h λ_ _ _ _ h=>?_;refine aP h λ_ _ h=>?_;refine aJ h λ_ _ h=>?_;simp only[Zr,decide_eq_true_eq,ZO] at h;obtain⟨⟨⟨⟨⟨rfl,rfl⟩,rfl⟩,h1⟩,h2⟩,h3⟩:=h;exact Li T h1 (aL a kt X g _ Z T h2).1 h3
end
end
def jr(g:G)(x:Str):Bool:=decide (g.names.lookup x=Δ .local)||decide (g.names.lookup x=Δ .cell)
def S8(g:G)(t:Tg)(e:Expr):Bool:=match t with|.nm i=>bE e λx _=>decide (g.N[i]?=Δ x)&&jr g x|.tup _=>Ξ|.two i j=>uw e λes _ _=>bj es λa r=>bE a λx _=>bj r λb r'=>bE b λy _=>r'.isEmpty&&decide (g.N[i]?=Δ x)&&jr g x&&decide (g.N[j]?=Δ y)&&jr g y
def IG:Tg->Bool
 |.two _ _=>Λ|_=>Ξ
def EG(e:Expr):Bool:=e.ctorIdx==9||e.ctorIdx==10
mutual
def okS(g:G):S->Stmt->Bool
 |.ret e=>λs=>mZ s λv _=>zR v λx=>jq g e x|.FR=>λs=>mZ s λv _=>v.isNone|.set i e=>λs=>ku s λts v _=>bj ts λt r=>bE t λx _=>r.isEmpty&&decide (g.N[i]?=Δ x)&&jr g x&&jq g e v&&!EG v|.ifs c a b=>λs=>Iu s λx ys zs _=>jq g c x&&vT g a ys&&vT g b zs|.hZ t w b=>λs=>qW s λtg iter body orelse _=>orelse.isEmpty&&S8 g t tg&&XX g w iter&&vT g b body&&!cV iter&&(!DF w||IG t)|.jE t e b=>λs=>qW s λtg iter body orelse _=>orelse.isEmpty&&S8 g t tg&&jq g e iter&&vT g b body&&!cV iter&&!IG t|.Dx i j a b=>λs=>qW s λtg iter body orelse _=>cg iter λf0 xs jZ cp=>cq f0 λo n ap=>orelse.isEmpty&&xs.isEmpty&&jZ.isEmpty&&S8 g (.two i j) tg&&decide (n="items")&&!isCall o&&(ap.endLine==cp.line)&&jq g a o&&vT g b body|.j9 i j a b=>λs=>qW s λtg iter body orelse _=>cg iter λf0 xs jZ cp=>bE f0 λn _=>bj xs λo r=>orelse.isEmpty&&r.isEmpty&&jZ.isEmpty&&S8 g (.two i j) tg&&decide (n="enumerate")&&g.gl "enumerate"&&notStar o&&jq g a o&&vT g b body|.mh c b=>λs=>vJ s λx body orelse _=>orelse.isEmpty&&jq g c x&&vT g b body|.nh i k=>λs=>jo s λname params body Yd rt tps scope tsc bind pos=>Yd.isEmpty&&rt.isNone&&tps.isEmpty&&tsc.isNone&&decide (bind=name)&&g.SD i k name params body scope pos|.expr e=>λs=>uv s λx _=>jq g e x&&!oh x|.app a e=>λs=>uv s λc _=>cg c λf0 xs jZ cp=>cq f0 λo n ap=>bj xs λx r=>r.isEmpty&&jZ.isEmpty&&(ap.endLine==cp.line)&&decide (n="append")&&!isCall o&&jq g a o&&jq g e x&&notStar x|.put a i e=>λs=>ku s λts v _=>bj ts λt r=>jO t λo k _=>r.isEmpty&&jq g a o&&jq g i k&&jq g e v&&!oh v|.nj c f i e=>λs=>ku s λts v _=>bj ts λt r=>cq t λo n _=>bE o λx _=>r.isEmpty&&decide (n=f)&&g.AA c f&&decide (g.N[i]?=Δ x)&&g.zO x&&aX x&&jq g e v
def vT(g:G):List S->List Stmt->Bool
 |[]=>λl=>l.isEmpty|s::ss=>λl=>bj l λx xs=>okS g s x&&vT g ss xs
end
inductive tS (K:KB) (Z:List Addr) (d:cb->aM->R Fl) (D:Ends) (σ:L2.St) (H:Hp):Prop
 |mk (m:List Addr) (r:cb) (st:aM) (a:cI K H m Z r σ) (b:aC K H m Z st) (c:Ok K Z (d r st) m H (sM K Z D)):tS K Z d D σ H
structure gI(X:Cx)(kt:KT)(g:G)(C:Nat->List P->aM->R P):Prop extends Good X kt g C where
 cell:∀x,g.names.lookup x=Δ .cell->X.env.scope.names.lookup x=Δ .cell
 nd:g.N.Nodup
 Vf:∀x,g.names.lookup x=Δ .cell->X.fn x=Λ
 nh:∀i k name params body scope pos,g.SD i k name params body scope pos=Λ->∀Z,PS X (.FunctionDef name params body [] Θ [] scope Θ name pos) (tS (af X kt) Z (aV C (.nh i k)))
 own:PassesOwn (model X.prog X.w) X.A X.env X.xe
section
variable{X:Cx}{g:G}{C:Nat->List P->aM->R P}{Z:List Addr}
theorem PS.imp{st:Stmt}(h:PS X st t)(i:∀D σ H,t' D σ H->t D σ H):PS X st t':=λpins s σ H D I q=>h pins s σ H D I (i D σ H q)
theorem nS.imp{st:List Stmt}(h:nS X st t)(i:∀D σ H,t' D σ H->t D σ H):nS X st t':=λpins s σ H D I q=>h pins s σ H D I (i D σ H q)
theorem gI.zZ(T:gI X kt g C)(h:jr g x=Λ):Loc X.env.scope x:=by
 unfold jr at h;simp only[ab0,decide_eq_true_eq] at h;rcases h with h|h;·exact .inl (T.loc x h)
 ·exact .inr (T.cell x h)
theorem gI.Lo(T:gI X kt g C)(h:jr g x=Λ):X.fn x=Λ\/X.env.scope.names.lookup x=Δ .local:=by
 unfold jr at h;simp only[ab0,decide_eq_true_eq] at h;rcases h with h|h;·exact .inr (T.loc x h)
 ·exact .inl (T.Vf x h)
theorem cI.set{K:KB}(A:cI K H m Z r σ)(rv:ak K H m Z p v):cI K H m Z (r.set i (Δ p)) (σ.set i (Δ v)):=by
 refine⟨by rw[aaX,aaX];exact A.len,λj q h=>?_⟩;by_cases hj:i=j
 ·subst hj;have hi:i < r.length:=by have:=(List.getElem?_eq_some_iff.mp h).1;rwa [aaX] at this
  rw[ZY hi] at h;cases h;exact⟨v,by rw[ZY (by rw[<-A.len];exact hi)],rv⟩
 ·rw[Zw hj] at h;obtain⟨w',e,r'⟩:=A.at_ j q h;exact⟨w',by rw[Zw hj];exact e,r'⟩
theorem S9(h:PE X x (tE (af X kt) Z (aa C e))):PS X (.Return (Δ x) pos) (tS (af X kt) Z (aV C (.ret e))):=by refine PS.imp (Nt h) ?_;rintro D σ H ⟨m,r,st,ar,as,h⟩;rw[qQ] at h;exact⟨m,r,st,ar,as,(Ok.bind h).mono λp st1 m1 H1 bY bp h1=>Ok.here h1 bp⟩
theorem Pc:PS X (.Return Θ pos) (tS (af X kt) Z (aV C .FR)):=by refine PS.imp J2 ?_;rintro D σ H ⟨m,r,st,ar,as,h⟩;rw[vk] at h;exact Ok.here h as .bG rfl
theorem z8(h:oh x=Ξ):acB x t line env=pure Ξ:=by
 cases x<;>first
  |rfl
  |exact absurd (show Λ=Ξ from h) aat.symm
theorem Ta(T:gI X kt g C)(hi:g.N[i]?=Δ x)(hl:jr g x=Λ)(hc:oh v=Ξ)(h:PE X v (tE (af X kt) Z (aa C e))):PS X (.Assign [.Name x p] v pos) (tS (af X kt) Z (aV C (.set i e))):=by refine PS.imp (G7 (i:=i) (by rw[T.N];exact T.nd) (by rw[T.N];exact hi) (T.zZ hl) h (z8 hc) (T.Lo hl)) ?_;rintro D σ H ⟨m,r,st,ar,as,h⟩;rw[qR] at h;refine⟨m,r,st,ar,as,(Ok.bind h).mono λq st1 m1 H1 bY bp h1 v rv=>?_⟩;exact Ok.here h1 bp (σ.set i (Δ v)) ((ar.le bY).set rv)
theorem IH(h:jq g e (.ListComp elt gens sc pos)=Λ):(∃mu w ts js c ee,e=.lst mu (.comp w ts js c ee))\/∃mu a js c ee,e=.lst mu (.cF a js c ee):=by
 cases e with
 |lst mu l=>cases l with|comp w ts js c ee=>exact .inl ⟨mu,w,ts,js,c,ee,rfl⟩|cF a js c ee=>exact .inr ⟨mu,a,js,c,ee,rfl⟩|_=>exact nomatch (show Ξ=Λ from h)
 |_=>exact nomatch (show Ξ=Λ from h)
theorem EH(hk:env.scope.kind=.function):
  acB (.ListComp elt gens sc pos) (Δ (.Name x p)) line env=pure (decide (env.scope.names.lookup x=Δ .local)&&(p.line==pos.line)&&!(sc.names.any λq=>q.1==x&&(q.2==.local||q.2==.cell))):=by
 unfold acB;dsimp only;have h1:env.blockKind=.function:=by unfold PySem.Env.blockKind;rw[hk];rfl
 have h2:(env.kindOf x==Δ .local)=decide (env.scope.names.lookup x=Δ .local):=by
  unfold PySem.Env.kindOf;by_cases h:env.scope.names.lookup x=Δ .local;·rw[h];rfl
  ·rw[decide_eq_false h];exact beq_eq_false_iff_ne.mpr h
 rw[h1,h2];rfl
theorem z9{D:Ends}(h:tS (af X kt) Z (aV C (.set i e)) D σ H):tE (af X kt) Z (aa C e) σ H λv H1=>D.nx (σ.set i (Δ v)) H1:=by obtain⟨m,r,st,ar,as,h⟩:=h;rw[qR] at h;refine⟨m,r,st,ar,as,(Ok.bind h).mono λq st1 m1 H1 bY bp h1 v rv=>?_⟩;exact Ok.here h1 bp (σ.set i (Δ v)) ((ar.le bY).set rv)
theorem II(T:gI X kt g C)(hi:g.N[i]?=Δ x)(hl:jr g x=Λ)(hc:EG v=Ξ)(h:jq g e v=Λ):PS X (.Assign [.Name x p] v pos) (tS (af X kt) Z (aV C (.set i e))):=by
 have he:=(aL e kt X g v Z T.toGood h).1;by_cases GO:oh v=Ξ;·exact Ta T hi hl GO he
 ·cases v with
  |ListComp elt gens sc Pd=>
   intro pins s σ H D I q;have sw:=EH (x:=x) (p:=p) (elt:=elt) (gens:=gens) (sc:=sc) (pos:=Pd) (line:=pos.line) I.ok.kind;cases hb:(decide (X.env.scope.names.lookup x=Δ .local)&&(p.line==Pd.line)&&!(sc.names.any λq=>q.1==x&&(q.2==.local||q.2==.cell))) with
   |false=>rw[hb] at sw;exact PS.imp (G7 (i:=i) (by rw[T.N];exact T.nd) (by rw[T.N];exact hi) (T.zZ hl) he sw (T.Lo hl)) (λD σ H q=>z9 q) pins s σ H D I q|true=>
    have sw':X.Ok->acB (.ListComp elt gens sc Pd) (Δ (.Name x p)) pos.line X.env=pure Λ:=λok=>by rw[EH ok.kind,hb]
    rcases IH h with ⟨mu,w,ts,js,c,ee,rfl⟩|⟨mu,a,js,c,ee,rfl⟩
    ·have q1:=zV (z9 q);refine aJ (show bj gens _=Λ from h) λge r h=>?_;refine uu h λtg iter ifs a h=>?_;refine aP h λy py h=>?_;simp only[Zr,decide_eq_true_eq,aab,ZO] at h;obtain⟨⟨⟨⟨⟨⟨⟨⟨⟨⟨rfl,rfl⟩,rfl⟩,h1⟩,Yc⟩,h2⟩,h3⟩,h4⟩,h5⟩,h6⟩,h7⟩:=h;have B:=T.toGood.zW h2;have T':∀pins fp Cc s H,Good (nY X pins (iJ g y js) sc fp Cc s H) kt (g.inner (iJ g y js) sc) C:=λpins fp Cc s H=>T.toGood.inner (js:=js) B.gO;refine uW T.calm B (zY w kt X g iter (.Name y py) Z T.toGood h1 (λz=>by rw[Yc] at z;exact ft z)) (λpins fp Cc s H=>fR (i:=0) h4 rfl (.inl ((T' pins fp Cc s H).loc y h3)) (.inr ((T' pins fp Cc s H).loc y h3)))
      (λpins fp Cc s H=>(zX c).2 kt _ _ _ (T' pins fp Cc s H) h5) (λpins fp Cc s H=>Lj λZ=>(aL ee kt _ _ _ Z (T' pins fp Cc s H) h6).1) (λy=>?_) sw' (fR (i:=i) (by rw[T.N];exact T.nd) (by rw[T.N];exact hi) (T.zZ hl) (T.Lo hl)) pins s σ H D I (BE q1)
     cases iter<;>first
      |rfl
      |exact absurd (show Λ=Ξ from h7) aat.symm
    ·have q1:=zV (z9 q);refine aJ (show bj gens _=Λ from h) λge r h=>?_;refine uu h λtg iter ifs a9 h=>?_;refine aP h λy py h=>?_;simp only[Zr,decide_eq_true_eq,aab,ZO] at h;obtain⟨⟨⟨⟨⟨⟨⟨⟨rfl,rfl⟩,h1⟩,h2⟩,h3⟩,h4⟩,h5⟩,h6⟩,h7⟩:=h;have B:=T.toGood.zW h2;have T':∀pins fp Cc s H,Good (nY X pins (iJ g y js) sc fp Cc s H) kt (g.inner (iJ g y js) sc) C:=λpins fp Cc s H=>T.toGood.inner (js:=js) B.gO;refine uW T.calm B (uh (aL a kt X g iter Z T.toGood h1).1) (λpins fp Cc s H=>fR (i:=0) h4 rfl (.inl ((T' pins fp Cc s H).loc y h3)) (.inr ((T' pins fp Cc s H).loc y h3)))
      (λpins fp Cc s H=>(zX c).2 kt _ _ _ (T' pins fp Cc s H) h5) (λpins fp Cc s H=>Lj λZ=>(aL ee kt _ _ _ Z (T' pins fp Cc s H) h6).1) (λy=>?_) sw' (fR (i:=i) (by rw[T.N];exact T.nd) (by rw[T.N];exact hi) (T.zZ hl) (T.Lo hl)) pins s σ H D I (yI q1)
     cases iter<;>first
      |rfl
      |exact absurd (show Λ=Ξ from h7) aat.symm
  |SetComp _ _ _ _=>exact tf hc|DictComp _ _ _ _ _=>exact tf hc|_=>exact absurd rfl GO
theorem Pe(hc:oh x=Ξ)(h:PE X x (tE (af X kt) Z (aa C e))):PS X (.Expr x pos) (tS (af X kt) Z (aV C (.expr e))):=by refine PS.imp (Ec h (z8 hc)) ?_;rintro D σ H ⟨m,r,st,ar,as,h⟩;rw[vq] at h;refine⟨m,r,st,ar,as,(Ok.bind h).mono λq st1 m1 H1 bY bp h1 v rv=>?_⟩;exact Ok.here h1 bp σ (ar.le bY)
theorem aj.setAt{K:KB}(r:ak K H m Z p v):∀{xs} {us} (j),aj K H m Z xs us->aj K H m Z (xs.set j p) (us.set j v)
 |[],us,j,h=>by obtain rfl:=show us=[] from h;exact rfl|x::xs,us,j,h=>by refine ah (λu Lk aH r1 rs=>?_) ((show ∃v vs,us=v::vs/\ak K H m Z x v/\aj K H m Z xs vs from h));subst aH;cases j with|zero=>exact⟨v,Lk,rfl,r,rs⟩|succ j=>exact⟨u,Lk.set j v,rfl,r1,aj.setAt r j rs⟩
theorem Tb(hl:(ap.endLine==cp.line)=Λ)(hc:isCall o=Ξ)(ho:PE X o (tE (af X kt) Z (aa C a)))(hx:PE X x (tE (af X kt) Z (aa C e)))(hs:notStar x=Λ):
  PS X (.Expr (.Call (.Attribute o "append" ap) [x] [] cp) pos) (tS (af X kt) Z (aV C (.app a e))):=by
 have s1:Z9 [x] X.env=[(Ξ,eval x X.env)]:=bP hs;refine PS.imp (Ec (RD PySem.F.plainAttrs_list PySem.F.slot_list_append PySem.F.type_list_append qE ho (oj hx yH hs) (vQ hc) (by rw[s1];rfl) hl s1 rfl) rfl) ?_;rintro D σ H ⟨m,r,st,ar,as,h⟩;rw[yy] at h;refine⟨m,r,st,ar,as,(Ok.bind h).mono λy st1 m1 H1 bY bp h1 v rv=>?_⟩;refine aB (λits e1 h2 e7=>?_) (Ok.of (Ok.bind h1) bp);clear e7;refine ah (λl us aH hq rs=>?_) (fH bp e1 rv);subst aH;refine⟨.inl ⟨rfl,us,.inl hq⟩,m1,r,st1,ar.le bY,bp,?_⟩;show Ok (af X kt) Z (aE C [e] r st1) m1 H1 _;simp only[aw,aF];cases hr:aa C e r st1 with
 |ex x s=>rw[hr] at h2;exact(show False from h2).elim|no=>rw[hr] at h2;exact(show False from h2).elim|ok w st2=>
  rw[hr] at h2;simp only[ae] at h2 ⊢;intro m2 H2 fP fA vs jP;obtain⟨u,rfl,ru⟩:=By jP;refine aB (λst3 e2 h3 e7=>?_) (Ok.of (Ok.bind (Ok.le h2 fP)) fA);clear e7;unfold zL at e2;split at e2
  ·rename_i n;split at e2
   ·rename_i xs S7;split at e2;·rename_i gE;obtain rfl:=sj e2;obtain⟨b,hb,eb⟩:=rv.le fP;cases eb;refine lU (λb' jJ zs hz rz=>?_) (fA.at_ n _ S7);rw[hb] at jJ;obtain rfl:=sj jJ;obtain⟨vS,w9⟩:=fA.write (ho:=.lst (zs++[u])) (o':=.lst (xs++[w])) S7 hb λH' e _ f=>⟨_,e,(rz.mono f).append ⟨u,[],rfl,f _ _ ru,rfl⟩⟩;refine⟨l,zs,u,rfl,rfl,hz,by rw[rz.length,<-dG];exact gE,?_⟩;exact h3 m2 _ vS w9 σ (((ar.le bY).le fP).le vS)
    ·exact aQ e2
   ·exact aQ e2
  ·exact aQ e2
def Tc:Rc:=λo i v H Q=>∃a H4,o=.ref a/\AR H a i v H4/\Q H4
theorem Lp(hu:X.A.units+100 < cLine):Fd X Tc:=by intro pins s σ H o i v ov iv u Q I ro ri rv h;revert h;refine ah λa H4 aH g q=>?_;subst aH;obtain rfl:=ro;exact Fu (by lia) I g ri rv λs4 I4=>⟨H4,I4,q⟩
theorem Lq(h:Fd X t)(h':Fd X t'):Fd X (λo i v H Q=>t o i v H Q\/t' o i v H Q):=by
 intro pins s σ H o i v ov iv u Q I ro ri rv q;rcases q with q|q;·exact h pins s σ H o i v ov iv u Q I ro ri rv q
 ·exact h' pins s σ H o i v ov iv u Q I ro ri rv q
theorem Pf(hp:Fd X t)(ho:PE X o td)(hi:PE X i ty)(hv:PE X value tv)(hs:acB value (Δ (.Subscript o i pos')) pos.line X.env=pure Ξ):
  PS X (.Assign [.Subscript o i pos'] value pos) (λD σ H=>tv σ H λv H1=>td σ H1 λx H2=>ty σ H2 λy H3=>t x y v H3 λH4=>D.nx σ H4):=by
 intro pins s σ H D I h;refine wpAny_Assign_Subscript (b8 (hv pins s σ H _ I h) λr s1 ⟨v,H1,I1,rv,q1⟩=>b8 (ho pins s1 σ H1 _ I1 q1) λu s2 ⟨x,H2,I2,rx,q2⟩=>b8 (hi pins s2 σ H2 _ I2 q2) λiv s3 gy=>?_) hs;obtain⟨y,H3,I3,ry,q3⟩:=gy;exact b8 (hp pins s3 σ H3 x y v u iv r _ I3 rx ry rv q3) λ_ s4 ⟨H4,I4,q4⟩=>⟨σ,H4,I4,q4⟩
theorem Td(T:Good X kt g C)(hc:oh v=Ξ)(ho:PE X o (tE (af X kt) Z (aa C a)))(hk:PE X k (tE (af X kt) Z (aa C i)))(hv:PE X v (tE (af X kt) Z (aa C e))):
  PS X (.Assign [.Subscript o k pos'] v pos) (tS (af X kt) Z (aV C (.put a i e))):=by
 refine PS.imp (Pf (Lq set_list (Lp T.hu)) ho hk hv (z8 hc)) ?_;rintro D σ H ⟨m,r,st,ar,as,h⟩;rw[yz] at h;refine⟨m,r,st,ar,as,(Ok.bind h).mono λw st1 m1 H1 bY bp h1 vw nX=>?_⟩;refine⟨m1,r,st1,ar.le bY,bp,(Ok.bind h1).mono λx st2 m2 H2 fP fA h2 vx rx=>?_⟩;refine⟨m2,r,st2,(ar.le bY).le fP,fA,(Ok.bind h2).mono λy st3 m3 H3 vS w9 h3 vy ry=>?_⟩;refine aB (λnE e2 h4 e7=>?_) (Ok.of (Ok.bind h3) w9);clear e7;have Ye:=(nX.le fP).le vS;have Yf:=((ar.le bY).le fP).le vS;unfold pI at e2;split at e2
 ·rename_i n;obtain⟨ob,OY,e5⟩:=dt e2;clear e2;obtain⟨ob',e3,rfl⟩:=iX e5;clear e5;obtain⟨b,hb,eb⟩:=rx.le vS;subst eb;obtain⟨b',jJ,ao⟩:=w9.at_ n _ OY;rw[hb] at jJ;obtain rfl:=sj jJ;cases ob with
  |ins c fs=>exact aQ e3|xo=>exact aQ e3|lst xs=>
   obtain⟨zs,hz,rz⟩:=ao;unfold Bi at e3;dsimp only at e3;split at e3;·rename_i j;obtain⟨q,hq,rfl⟩:=iX e3;obtain rfl:=show vy=.int j from ry;obtain⟨AB,EC⟩:=w9.write (ho:=.lst (zs.set q vw)) (o':=.lst (xs.set q w)) OY hb λH' e _ f=>⟨_,e,(rz.mono f).setAt (f _ _ Ye) q⟩;refine .inl ⟨b,zs,j,q,rfl,rfl,hz,by rw[rz.length];exact hq,?_⟩;exact h4 m3 _ AB EC σ (Yf.le AB)
   ·exact aQ e3
  |dK kvs=>
   obtain⟨us,hu,rs⟩:=ao;have e4:(if kvs.length < au then(keyOf y).map λk=>O.dK (nq kvs k w) else Θ)=Δ ob':=e3;split at e4;·rename_i gE;obtain⟨kk,FE,rfl⟩:=iX e4;rw[ry.key FE];obtain⟨AB,EC⟩:=w9.write (ho:=.dK (putK us kk vw)) (o':=.dK (nq kvs kk w)) OY hb λH' e _ f=>⟨_,e,(rs.mono f).put (f _ _ Ye)⟩;refine .inr ⟨b,_,rfl,AR.k hu (by rw[rs.length,<-dG];exact gE),?_⟩;exact h4 m3 _ AB EC σ (Yf.le AB)
   ·exact aQ e4
  |dT kvs=>
   obtain⟨us,hu,rs⟩:=ao;have e4:(if kvs.length < au then(kZ y).map λk=>O.dT (nq kvs k w) else Θ)=Δ ob':=e3;split at e4;·rename_i gE;obtain⟨kk,FE,rfl⟩:=iX e4;obtain⟨bk,rfl,hbk⟩:=ry.kZ FE;obtain⟨AB,EC⟩:=w9.write (ho:=.dT (putK us kk vw)) (o':=.dT (nq kvs kk w)) OY hb λH' e _ f=>⟨_,e,(rs.mono f).put (f _ _ Ye)⟩;refine .inr ⟨b,_,rfl,AR.t hu hbk (by rw[rs.length,<-dG];exact gE),?_⟩;exact h4 m3 _ AB EC σ (Yf.le AB)
   ·exact aQ e4
 ·exact aQ e2
theorem aS.xq{K:KB}{H:Hp}{m:List Addr}{f:Str}{p:P}{v:V}(rp:ak K H m Z p v):∀{fs:List (Str×P)} {us:List (Str×V)},aS K H m Z fs us->aS K H m Z (xq f p fs) (kO f v us)
 |[],us,h=>by obtain rfl:=show us=[] from h;exact⟨v,[],rfl,rp,rfl⟩|(k,q)::fs,us,h=>by
  refine ah (λw ws aH r rs=>?_) ((show ∃v vs,us=(k,v)::vs/\ak K H m Z q v/\aS K H m Z fs vs from h));subst aH;show aS K H m Z (if k=f then(k,p)::fs else(k,q)::Y.xq f p fs) (if k=f then(k,v)::ws else(k,w)::kO f v ws);by_cases hk:k=f;·rw[if_pos hk,if_pos hk];exact⟨v,ws,rfl,rp,rs⟩
  ·rw[if_neg hk,if_neg hk];exact⟨w,_,rfl,r,aS.xq rp rs⟩
theorem Lr:acB v (Δ (.Attribute o f p)) line env=pure Ξ:=by cases v<;>rfl
theorem Pg(T:Good X kt g C)(hf:g.AA c f=Λ)(h1:g.N[i]?=Δ x)(h2:g.zO x=Λ)(h3:aX x=Λ)(hv:PE X v (tE (af X kt) Z (aa C e))):
  PS X (.Assign [.Attribute (.Name x p) f pos'] v pos) (tS (af X kt) Z (aV C (.nj c f i e))):=by
 refine PS.imp (NK (Bu (Z:=Z) (kt:=kt) T h1 h2 h3) hv Lr) ?_;rintro D σ H ⟨m,r,st,ar,as,h⟩;rw[vz] at h;refine⟨m,r,st,ar,as,(Ok.bind h).mono λw st1 m1 H1 bY bp h1 vw nX=>?_⟩;refine⟨m1,r,st1,ar.le bY,bp,?_⟩;rw[mT];refine(Ok.bind h1).mono λx st2 m2 H2 fP fA h2 vx rx=>?_;refine aB (λst3 e2 h4 _=>?_) (Ok.of (Ok.bind h2) fA);refine dJ (λYg e3 e4=>?_) (dt e2);obtain⟨n,fs⟩:=Yg;split at e4
 ·rename_i gE;obtain rfl:=sj e4;refine g6 (λa A dx us aH hm iz hs g1 g2 g3 g4=>?_) (DI fA rx e3);subst aH;subst iz;refine aB (λA' k1 k2 k3=>?_) (T.fld c f hf);rw[show ZU X.K ZL c=Δ (Δ (.ref A)) from g1] at k1;cases k1;have fT:dx≠a:=by rintro rfl;rw[g2] at g3;cases g3
  obtain⟨AB,EC⟩:=fA.write (ho:=.ins A dx (kO f vw us)) (o':=.ins c (xq f w fs)) hs hm λH' e k f=>⟨A,dx,_,g1,e,k _ _ fT g3,(g4.mono f).xq (f _ _ (nX.le fP))⟩;refine⟨a,A,dx,us,rfl,g2,k2,k3,by rw[g4.length];exact gE,?_⟩;exact h4 m2 _ AB EC σ (((ar.le bY).le fP).le AB)
 ·exact aQ e4
theorem Ph:nS X [] (tS (af X kt) Z (ai C [])):=by refine nS.imp J1 ?_;rintro D σ H ⟨m,r,st,ar,as,h⟩;rw[vA] at h;exact Ok.here h as σ ar
theorem Ls(h1:PS X x (tS (af X kt) Z (aV C s)))(h2:nS X xs (tS (af X kt) Z (ai C ss))):nS X (x::xs) (tS (af X kt) Z (ai C (s::ss))):=by refine nS.imp (G6 h1 h2) ?_;rintro D σ H ⟨m,r,st,ar,as,h⟩;rw[jN] at h;refine⟨m,r,st,ar,as,(Ok.bind h).mono λf st1 m1 H1 bY bp h1=>?_⟩;cases f with|nx r1=>exact λdn Yh=>⟨m1,r1,st1,Yh,bp,h1⟩|bk r1=>exact Ok.here h1 bp|ct r1=>exact Ok.here h1 bp|rt v=>exact Ok.here h1 bp
theorem Yi(hc:PT X c (tT (af X kt) Z (cx (aa C ec))))(ha:nS X a (tS (af X kt) Z (ai C ea)))(hb:nS X b (tS (af X kt) Z (ai C eb))):PS X (.If c a b pos) (tS (af X kt) Z (aV C (.ifs ec ea eb))):=by refine PS.imp (Ra hc ha hb) ?_;rintro D σ H ⟨m,r,st,ar,as,h⟩;rw[qS] at h;refine⟨m,r,st,ar,as,(Ok.bind h).mono λk st1 m1 H1 bY bp h1=>?_⟩;cases k with|true=>exact⟨m1,r,st1,ar.le bY,bp,h1⟩|false=>exact⟨m1,r,st1,ar.le bY,bp,h1⟩
theorem BG{K:KB}{D:Ends}{st:aM}{k:cb->aM->R Fl}(as:aC K H m Z st)(h:Ok K Z (match f with|.nx r2=>k r2 st|.ct r2=>k r2 st|.bk r2=>R.ok (.nx r2) st|.rt v=>R.ok (.rt v) st) m H (sM K Z D))(hN:∀r σ,cI K H m Z r σ->Ok K Z (k r st) m H (sM K Z D)->N σ H):sM K Z {D with nx:=N,ct:=N,bk:=D.nx} f st m H:=by cases f with|nx r2=>exact λσ ar=>hN r2 σ ar h|ct r2=>exact λσ ar=>hN r2 σ ar h|bk r2=>exact Ok.here h as|rt v=>exact Ok.here h as
theorem Lu(T:gI X kt g C)(hc:PT X c (tT (af X kt) Z (cx (aa C ec))))(hb:nS X body (tS (af X kt) Z (ai C eb))):PS X (.While c body [] pos) (tS (af X kt) Z (aV C (.mh ec eb))):=by refine PS.imp (G8 T.own hc hb) ?_;rintro D σ H ⟨m,r,st,ar,as,h⟩;rw[pJ] at h;refine⟨λn σ H=>∃m r st,cI (af X kt) H m Z r σ/\aC (af X kt) H m Z st/\Ok (af X kt) Z (iA (cx (aa C ec)) (ai C eb) n r st) m H (sM (af X kt) Z D),⟨eU,m,r,st,ar,as,h⟩,?_⟩;intro n σ H Yj;revert Yj;refine cD λm r st ar as h=>?_;cases n with|zero=>exact(show False from h).elim|succ n=>rw[mn] at h;refine⟨m,r,st,ar,as,(Ok.bind h).mono λk st1 m1 H1 bY bp h1=>?_⟩;cases k with|false=>exact Ok.here h1 bp σ (ar.le bY)|true=>refine⟨λdn H'=>∃m r st,cI (af X kt) H' m Z r dn/\aC (af X kt) H' m Z st/\Ok (af X kt) Z (iA (cx (aa C ec)) (ai C eb) n r st) m H' (sM (af X kt) Z D),λdn H' q=>⟨n,abb n,q⟩,?_⟩;refine⟨m1,r,st1,ar.le bY,bp,(Ok.bind (show Ok (af X kt) Z ((ai C eb r st1).bind _) m1 H1 _ from h1)).mono λf st2 m2 H2 fP fA h2=>?_⟩;exact BG (k:=λr2 st2=>iA (cx (aa C ec)) (ai C eb) n r2 st2) fA h2 λr2 Qz JR q=>⟨m2,r2,st2,JR,fA,q⟩
theorem IJ(T:gI X kt g C)(hs:cV iter=Ξ)(hw:PI X tg iter (tW (af X kt) Z (cK C w)))(hg:PG X tg gt)(O4:∀(p:P) (v:V) (m:List Addr) (H:Hp) (r r1:cb) (σ:L2.St) (Q:L2.St->Hp->Prop),ak (af X kt) H m Z p v->cI (af X kt) H m Z r σ->jb t p r=Δ r1->(∀dn,cI (af X kt) H m Z r1 dn->Q dn H)->gt v σ H Q)(hb:nS X body (tS (af X kt) Z (ai C eb))):
  PS X (.For tg iter body [] pos) (tS (af X kt) Z (aV C (.hZ t w eb))):=by
 refine PS.imp (zk T.own T.calm hw hg hb (λy=>?_)) ?_
 ·cases iter<;>first
   |rfl
   |exact absurd (show Λ=Ξ from hs) aat.symm
 rintro D σ H ⟨m,r,st,ar,as,h⟩;rw[vm] at h;refine⟨m,r,st,ar,as,(Ok.bind h).mono λps st1 m1 H1 bY bp h1 J wk=>?_⟩;refine⟨λi k σ H=>k=ps.length - i/\i<=ps.length/\∃m r st,Le (af X kt) m1 H1 m H/\cI (af X kt) H m Z r σ/\aC (af X kt) H m Z st/\Ok (af X kt) Z (forL (jb t) (ai C eb) (ps.drop i) r st) m H (sM (af X kt) Z D),⟨ps.length,by simp,aaB _,m1,r,st1,Le.refl,ar.le bY,bp,by rw[acA];exact h1⟩,?_⟩;intro j k σ H Nu;refine cps λgG kG=>?_;obtain⟨rfl,hj,m,r,st,le,ar,as,h⟩:=Nu;obtain⟨w1,w2⟩:=wk m H Z le (λa ha=>.inl ha) j;refine kG ?_;by_cases gE:j < ps.length;·have QJ:j < ps.length:=gE;obtain⟨go,yl⟩:=w1 ps[j] (Zu QJ);have e7:ps.drop j=ps[j]::ps.drop (j+1):=aaH QJ;rw[e7,qT] at h;refine .inr ⟨go,λdn H'=>∃m r st,Le (af X kt) m1 H1 m H'/\cI (af X kt) H' m Z r dn/\aC (af X kt) H' m Z st/\Ok (af X kt) Z (forL (jb t) (ai C eb) (ps.drop (j+1)) r st) m H' (sM (af X kt) Z D),λdn H' q=>⟨ps.length - (j+1),ab4 _ _ gE,rfl,gE,q⟩,λy H' hy=>?_⟩;obtain⟨sm,ry'⟩:=yl y H' hy;have DM:Le (af X kt) m H m H':=Le.same sm;replace le:=le.trans DM;replace as:=as.same sm;replace ar:=ar.le DM;cases hr:jb t ps[j] r with|none=>rw[hr] at h;exact(show False from h).elim|some r1=>rw[hr,ay,ae] at h;refine O4 _ _ m H' r r1 σ _ ry' ar hr λdn Yh=>⟨m,r1,st,Yh,as,(Ok.bind (Ok.le h DM)).mono λf st2 m2 H2 fP fA h3=>?_⟩;exact BG (k:=λr2 st2=>forL (jb t) (ai C eb) (ps.drop (j+1)) r2 st2) fA h3 λr2 Qz JR q=>⟨m2,r2,st2,le.trans fP,JR,fA,q⟩
 ·have e:j=ps.length:=by lia
  subst e;rw[ad9,Im] at h;exact .inl ⟨w2 rfl,Ok.here h as σ ar⟩
theorem Te(T:gI X kt g C)(hi:g.N[i]?=Δ x)(hl:jr g x=Λ)(hs:cV iter=Ξ)(hw:PI X (.Name x p) iter (tW (af X kt) Z (cK C w)))(hb:nS X body (tS (af X kt) Z (ai C eb))):
  PS X (.For (.Name x p) iter body [] pos) (tS (af X kt) Z (aV C (.hZ (.nm i) w eb))):=
 IJ T hs hw (fR (i:=i) (by rw[T.N];exact T.nd) (by rw[T.N];exact hi) (T.zZ hl) (T.Lo hl)) (λp v m H r r1 σ Q rp ar e q=>by obtain rfl:=sj e;exact q _ (ar.set rp)) hb
theorem Pj(T:gI X kt g C){p p' p2 pos:Pos}(hi:g.N[i]?=Δ x)(hl:jr g x=Λ)(FF:g.N[j]?=Δ y)(A7:jr g y=Λ)(hs:cV iter=Ξ)(hw:PI X (.Tuple [.Name x p,.Name y p'] k p2) iter (tW (af X kt) Z (cK C w)))(hb:nS X body (tS (af X kt) Z (ai C eb))):
  PS X (.For (.Tuple [.Name x p,.Name y p'] k p2) iter body [] pos) (tS (af X kt) Z (aV C (.hZ (.two i j) w eb))):=by
 have nm:∀{z:Str} {a:Nat} {q:Pos},g.N[a]?=Δ z->jr g z=Λ->PG X (.Name z q) (uL a):=λ{z a q} h1 h2=>fR (i:=a) (by rw[T.N];exact T.nd) (by rw[T.N];exact h1) (T.zZ h2) (T.Lo h2);refine IJ T hs hw (CP (n:=2) T.calm (kh (nm hi hl) (kh (nm FF A7) zi))) (λq v m H r r1 σ Q rp ar e hq=>?_) hb;unfold jb at e;dsimp only at e;split at e;·rename_i a b;refine cps λgG kG=>?_;obtain rfl:=sj e;obtain⟨c,us,rfl,hc,v1,vs1,e1,rv1,v2,vs2,e2,Yb,e3⟩:=rp;refine kG ?_;subst e3 e2 e1;exact⟨c,_,rfl,g7.of hc,rfl,v1,[v2],rfl,v2,[],rfl,rfl,hq _ ((ar.set (p:=.d a) (show ak (af X kt) H m Z (.d a) v1 from rv1)).set (p:=.d b) (show ak (af X kt) H m Z (.d b) v2 from Yb))⟩
 ·exact aQ e
theorem Pk(T:gI X kt g C)(hi:g.N[i]?=Δ x)(hl:jr g x=Λ)(hs:cV iter=Ξ)(hw:PE X iter (tE (af X kt) Z (aa C e)))(hb:nS X body (tS (af X kt) Z (ai C eb))):
  PS X (.For (.Name x p) iter body [] pos) (tS (af X kt) Z (aV C (.jE (.nm i) e eb))):=by
 refine PS.imp (zk T.own T.calm (uh hw) (fR (i:=i) (by rw[T.N];exact T.nd) (by rw[T.N];exact hi) (T.zZ hl) (T.Lo hl)) hb (λy=>?_)) ?_
 ·cases iter<;>first
   |rfl
   |exact absurd (show Λ=Ξ from hs) aat.symm
 rintro D σ H ⟨m,r,st,ar,as,h⟩;rw[vn] at h;refine⟨m,r,st,ar,as,(Ok.bind h).mono λx0 st1 m1 H1 bY bp h1 v rv=>?_⟩;split at h1
 ·rename_i n;obtain⟨a,ha,rfl⟩:=rv;have O6:∃us,H1 a=Δ (.lst us):=by have h2:Ok (af X kt) Z (jE n (jb (.nm i)) (ai C eb) (999999+1) 0 r st1) m1 H1 (sM (af X kt) Z D):=h1;rw[qU] at h2;cases ho:yq n st1 0 with|none=>rw[ho] at h2;exact(show False from h2).elim|some o=>obtain⟨us,hu,_⟩:=rg bp ha ho;exact⟨us,hu⟩
  obtain⟨S3,S4⟩:=O6;refine⟨a,rfl,⟨S3,.inl (.inl S4)⟩,?_⟩;refine⟨λj k σ H=>∃m r st,Le (af X kt) m1 H1 m H/\cI (af X kt) H m Z r σ/\aC (af X kt) H m Z st/\Ok (af X kt) Z (jE n (jb (.nm i)) (ai C eb) k j r st) m H (sM (af X kt) Z D),⟨eU,m1,r,st1,Le.refl,ar.le bY,bp,h1⟩,?_⟩;intro j k σ H Yk;revert Yk;refine br λm r st le ar as h=>?_;have S5:m[n]?=Δ a:=by obtain⟨t,et⟩:=le.pre;rw[et,Zy (List.getElem?_eq_some_iff.mp ha).1];exact ha
  cases k with|zero=>exact(show False from h).elim|succ k=>rw[qU] at h;cases ho:yq n st j with|none=>rw[ho] at h;exact(show False from h).elim|some o=>rw[ho] at h;refine aB (λus hu q0 q1=>?_) (rg as S5 ho);cases o with|none=>exact .inl ⟨⟨us,.inl (.inl hu),q0 rfl⟩,Ok.here (show Ok (af X kt) Z (R.ok (Fl.nx r) st) m H (sM (af X kt) Z D) from h) as σ ar⟩|some q=>obtain⟨vx,MX,rx⟩:=q1 q rfl;refine .inr ⟨⟨us,vx,.inl (.inl hu),MX⟩,λdn H'=>∃m r st,Le (af X kt) m1 H1 m H'/\cI (af X kt) H' m Z r dn/\aC (af X kt) H' m Z st/\Ok (af X kt) Z (jE n (jb (.nm i)) (ai C eb) k (j+1) r st) m H' (sM (af X kt) Z D),λdn H' z=>⟨k,abb k,z⟩,λy H' hy=>?_⟩;obtain⟨rfl,hx⟩:=hy;have yi:=hx us (.inl (.inl hu));rw[MX] at yi;obtain rfl:=sj yi;have h2:Ok (af X kt) Z ((ai C eb (r.set i (Δ q)) st).bind _) m H' (sM (af X kt) Z D):=h;refine⟨m,r.set i (Δ q),st,ar.set rx,as,(Ok.bind h2).mono λf st2 m2 H2 fP fA h3=>?_⟩;exact BG (k:=λr2 st2=>jE n (jb (.nm i)) (ai C eb) k (j+1) r2 st2) fA h3 λr2 Qz JR q=>⟨m2,r2,st2,le.trans fP,JR,fA,q⟩
 ·exact(show False from h1).elim
section
variable{K:KB}{H H':Hp}{m:List Addr}
mutual
theorem aI.chg(f:∀a u,H a=Δ u->(∀o us,u≠.dM o (.dK us))->H' a=Δ u):∀{x:D} {v:V},aI K H m Z x v->aI K H' m Z x v
 |.bG,_,h=>h|.bl _,_,h=>h|.int _,_,h=>h|.str _,_,h=>h|.tup xs,v,h=>by refine ah (λa us e q r=>?_) ((show ∃a us,v=.ref a/\H a=Δ (.tup us)/\aq K H m Z xs us from h));exact⟨a,us,e,f _ _ q (λ_ _ z=>nomatch z),aq.chg f r⟩
 |.pl xs,v,h=>by
  refine bq (λa us e q hm hz r=>?_) ((show ∃a us,v=.ref a/\Rd H a (.lst us)/\a∉m/\a∉Z/\aq K H m Z xs us from h));refine⟨a,us,e,?_,hm,hz,aq.chg f r⟩;rcases q with q|⟨o,q⟩;·exact .inl (f _ _ q (λ_ _ z=>nomatch z))
  ·exact .inr ⟨o,f _ _ q (λ_ _ z=>nomatch z)⟩
theorem aq.chg(f:∀a u,H a=Δ u->(∀o us,u≠.dM o (.dK us))->H' a=Δ u):∀{xs:List D} {us:List V},aq K H m Z xs us->aq K H' m Z xs us
 |[],_,h=>h|x::xs,us,h=>by refine ah (λv vs e r rs=>?_) ((show ∃v vs,us=v::vs/\aI K H m Z x v/\aq K H m Z xs vs from h));exact⟨v,vs,e,aI.chg f r,aq.chg f rs⟩
end
mutual
theorem ak.chg(f:∀a u,H a=Δ u->(∀o us,u≠.dM o (.dK us))->H' a=Δ u):∀{x:P} {v:V},ak K H m Z x v->ak K H' m Z x v
 |.d _,_,h=>by rw[ak] at h ⊢;exact aI.chg f h|.obj n,v,h=>by rw[ak] at h ⊢;exact h|.jg ns,v,h=>by
  rw[ak] at h ⊢;obtain⟨a,e,r⟩:=h;refine⟨a,e,?_⟩;rcases r with ⟨o,r⟩|r
  ·exact .inl ⟨o,f _ _ r (λ_ _ z=>nomatch z)⟩
  ·exact .inr r
 |.fn k bz,v,h=>by rw[ak] at h ⊢;revert h;refine br λa c b9 e q hc r=>?_;exact⟨a,c,b9,e,q,f _ _ hc (λ_ _ z=>nomatch z),aj.chg f r⟩|.lf k,v,h=>by rw[ak] at h ⊢;revert h;refine cD λa c ct e q r=>?_;exact⟨a,c,ct,e,f _ _ q (λ_ _ z=>nomatch z),f _ _ r (λ_ _ z=>nomatch z)⟩
theorem aj.chg(f:∀a u,H a=Δ u->(∀o us,u≠.dM o (.dK us))->H' a=Δ u):∀{xs:List P} {us:List V},aj K H m Z xs us->aj K H' m Z xs us
 |[],_,h=>h|x::xs,us,h=>by refine ah (λv vs e r rs=>?_) ((show ∃v vs,us=v::vs/\ak K H m Z x v/\aj K H m Z xs vs by rw[aj] at h;exact h));rw[aj];exact⟨v,vs,e,ak.chg f r,aj.chg f rs⟩
end
end
theorem Pl{K:KB}(e1:H1 d=Δ (.dK us))(hm:m1[n]?=Δ d)(rs:aS K H1 m1 Z kvs us)(le:Le K m1 (upd H1 d (.dM o (.dK us))) m2 H2)(as:aC K H2 m2 Z st2):H2 d=Δ (.dM o (.dK us))/\Le K m1 H1 m2 (upd H2 d (.dK us))/\aC K (upd H2 d (.dK us)) m2 Z (st2.set n (.dK kvs))/\∀p v,ak K H2 m2 Z p v->ak K (upd H2 d (.dK us)) m2 Z p v:=by
 have e2:H2 d=Δ (.dM o (.dK us)):=le.dM _ _ _ aG;have dm:d∈m1:=ZG hm;have f:∀a u,H2 a=Δ u->(∀o us,u≠.dM o (.dK us))->upd H2 d (.dK us) a=Δ u:=λa u q z=>by rw[av (λw'=>by rw[w',e2] at q;exact z o us (aaf q).symm)];exact q
 have up:∀{a:Addr} {u:HO},H1 a=Δ u->a≠d->upd H1 d (.dM o (.dK us)) a=Δ u:=λq z=>by rw[av z];exact q
 have lf:Le K m1 H1 m2 (upd H2 d (.dK us)):=by
  refine⟨le.pre,λa xs q=>?_,λa u q ha hu=>?_,λa ha=>?_,λa q=>?_,λa q=>?_,λa ob u q=>?_,λa φ q=>?_,λa ps q=>?_⟩;·exact f _ _ (le.tup _ _ (up q (λz=>by rw[z,e1] at q;cases q))) (λ_ _ z=>nomatch z)
  ·have hd:a≠d:=λz=>ha (by rw[z];exact dm);rw[av hd];exact le.keep _ _ (up q hd) ha hu
  ·rcases le.new a ha with z|z;·exact .inl z
   ·by_cases hd:a=d;·rw[hd];exact .inl dm
    ·rw[av hd] at z;exact .inr z
  ·by_cases hd:a=d;·rw[hd,aG];exact λz=>nomatch z
   ·rw[av hd];exact le.sY _ (by rw[av hd];exact q)
  ·exact mW (λ_ z=>nomatch z) (le.Es _ (mW (λ_ z=>nomatch z) q))
  ·have hd:a≠d:=λz=>by rw[z,e1] at q;cases q
   rw[av hd];exact le.dM _ _ _ (up q hd)
  ·exact f _ _ (le.ext _ _ (up q (λz=>by rw[z,e1] at q;cases q))) (λ_ _ z=>nomatch z)
  ·obtain⟨more,w'⟩:=le.gv _ _ (up q (λz=>by rw[z,e1] at q;cases q));exact⟨more,f _ _ w' (λ_ _ z=>nomatch z)⟩
 have Lv:m2[n]?=Δ d:=by obtain⟨t,et⟩:=le.pre;rw[et,Zy (List.getElem?_eq_some_iff.mp hm).1];exact hm
 refine⟨e2,lf,⟨by rw[aaX];exact as.len,as.nd,λk ob hk=>?_,λb hb=>mW (λ_ z=>nomatch z) (as.zt b hb),as.zm,λt ht=>?_⟩,λp v z=>z.chg f⟩
 ·by_cases OC:n=k
  ·subst OC;have gE:n < st2.length:=by rw[<-as.len];exact(List.getElem?_eq_some_iff.mp Lv).1
   rw[ZY gE] at hk;obtain rfl:=sj hk;exact⟨d,Lv,us,aG,rs.mono λp v z=>z.le lf⟩
  ·rw[Zw OC] at hk;obtain⟨b,q,rr⟩:=as.at_ k ob hk;have hbd:b≠d:=by rintro rfl;obtain⟨l1,e1⟩:=List.getElem?_eq_some_iff.mp Lv;obtain⟨l2,e2⟩:=List.getElem?_eq_some_iff.mp q;exact OC (lY as.nd l1 l2 (e1.trans e2.symm))
   refine⟨b,q,rr.mono (λb' u jJ hu=>?_) λp v z=>z.chg f⟩;rw[av (λz=>by
    rcases jJ with w1|w1;·exact hbd (w1▸z)
    ·rw[z,e2] at w1;cases w1)]
   exact hu
 ·obtain⟨ps,h1,h2⟩:=as.tab t ht;exact⟨ps,f _ _ h1 (λ_ _ z=>nomatch z),gH.same (λa φ z=>f _ _ z (λ_ _ w'=>nomatch w')) h2⟩
theorem sM.FJ{D:Ends}(e1:H1 d=Δ (.dK us))(hm:m1[n]?=Δ d)(rs:aS (af X kt) H1 m1 Z kvs us)(nf:NF X d)(le:Le (af X kt) m1 (upd H1 d (.dM o (.dK us))) m2 H2)(as:aC (af X kt) H2 m2 Z st2)(h:∀m' H',Le (af X kt) m1 H1 m' H'->aC (af X kt) H' m' Z (st2.set n (.dK kvs))->sM (af X kt) Z D fl (st2.set n (.dK kvs)) m' H'):sM (af X kt) Z (yo X D) fl st2 m2 H2:=by refine jc (λe2 lf cy f=>?_) (Pl e1 hm rs le as);have q:=h m2 _ lf cy;have ra:∀{r:cb} {σ:L2.St},cI (af X kt) H2 m2 Z r σ->cI (af X kt) (upd H2 d (.dK us)) m2 Z r σ:=λA=>⟨A.len,λi p w'=>let ⟨v,x1,x2⟩:=A.at_ i p w';⟨v,x1,f _ _ x2⟩⟩;cases fl with|nx r=>exact λσ A=>⟨d,o,_,e2,nf,q σ (ra A)⟩|bk r=>exact λσ A=>⟨d,o,_,e2,nf,q σ (ra A)⟩|ct r=>exact λσ A=>⟨d,o,_,e2,nf,q σ (ra A)⟩|rt p=>exact λv A=>⟨d,o,_,e2,nf,q v (f _ _ A)⟩
theorem aS.at_{κ:Type}{K:KB}{m:List Addr}:∀{kvs:List (κ×P)} {us:List (κ×V)} {i:Nat} {k:κ} {v:V},aS K H m Z kvs us->us[i]?=Δ (k,v)->∃p,kvs[i]?=Δ (k,p)/\ak K H m Z p v
 |[],us,i,k,v,h,e=>by obtain rfl:=show us=[] from h;simp at e|(q,p)::kvs,us,i,k,v,h,e=>by refine ah (λv' vs aH r rs=>?_) ((show ∃v vs,us=(q,v)::vs/\ak K H m Z p v/\aS K H m Z kvs vs from h));subst aH;cases i with|zero=>simp at e;obtain⟨rfl,rfl⟩:=e;exact⟨p,rfl,r⟩|succ i=>simpa using aS.at_ rs (by simpa using e)
theorem Pm(T:gI X kt g C){p p' p2 ap cp pos:Pos}(hi:g.N[i]?=Δ x)(hl:jr g x=Λ)(FF:g.N[j]?=Δ y)(A7:jr g y=Λ)(hc:isCall o=Ξ)(hln:(ap.endLine==cp.line)=Λ)(ho:PE X o (tE (af X kt) Z (aa C a)))(hb:nS X body (tS (af X kt) Z (ai C eb))):
  PS X (.For (.Tuple [.Name x p,.Name y p'] k p2) (.Call (.Attribute o "items" ap) [] [] cp) body [] pos) (tS (af X kt) Z (aV C (.Dx i j a eb))):=by
 have nm:∀{z:Str} {a:Nat} {q:Pos},g.N[a]?=Δ z->jr g z=Λ->PG X (.Name z q) (uL a):=λ{z a q} h1 h2=>fR (i:=a) (by rw[T.N];exact T.nd) (by rw[T.N];exact h1) (T.zZ h2) (T.Lo h2);refine PS.imp (KH (zk T.own T.calm (HZ ho (vQ hc) hln) (CP (n:=2) T.calm (kh (nm hi hl) (kh (nm FF A7) zi))) hb (λ_=>rfl))) ?_;rintro D σ H ⟨m,r,st,ar,as,h⟩;rw[vo] at h;refine⟨m,r,st,ar,as,(Ok.bind h).mono λx0 st1 m1 H1 bY bp h1 v rv=>?_⟩;refine aB (λYl ek h2 e7=>?_) (Ok.of (Ok.bind h1) bp);obtain⟨n,kvs⟩:=Yl;clear e7 h1;refine cw (λd us aH sf hm iz hu rs=>?_) (EE bp ek rv);subst aH;subst iz;dsimp only at h2 sf hm rs;refine⟨d,us,rfl,hu,λob nf=>?_⟩;obtain⟨lel,asl⟩:=bp.write (ho:=.dM ob (.dK us)) (o':=.xo) sf hm (λH' e _ f=>⟨ob,us,e⟩);have rsl:aS (af X kt) (upd H1 d (.dM ob (.dK us))) m1 Z kvs us:=rs.mono λp v z=>z.le lel;cases hr:n8 i j (ai C eb) kvs r (st1.set n .xo) with
 |ex z s=>rw[hr] at h2;exact(show False from h2).elim|no=>rw[hr] at h2;exact(show False from h2).elim|ok f0 bN=>
  rw[hr,ae] at h2;have Ym:∀m2 H2,Le (af X kt) m1 (upd H1 d (.dM ob (.dK us))) m2 H2->aC (af X kt) H2 m2 Z bN->sM (af X kt) Z (yo X D) f0 bN m2 H2:=λm2 H2 fP fA=>sM.FJ hu hm rs nf fP fA h2;have Yn:Ok (af X kt) Z (n8 i j (ai C eb) kvs r (st1.set n .xo)) m1 (upd H1 d (.dM ob (.dK us))) (sM (af X kt) Z (yo X D)):=by rw[hr];exact λm2 H2 fP fA=>Ym m2 H2 fP fA
  refine⟨λq l σ H=>l=kvs.length - q/\q<=kvs.length/\∃m r st,Le (af X kt) m1 (upd H1 d (.dM ob (.dK us))) m H/\cI (af X kt) H m Z r σ/\aC (af X kt) H m Z st/\Ok (af X kt) Z (n8 i j (ai C eb) (kvs.drop q) r st) m H (sM (af X kt) Z (yo X D)),⟨kvs.length,by simp,aaB _,m1,r,_,Le.refl,(ar.le bY).le lel,asl,by rw[acA];exact Yn⟩,?_⟩;intro q l σ H Yo;refine cps λgG kG=>?_;obtain⟨rfl,hq,m,r,st,le,ar,as,h⟩:=Yo;refine kG ?_;have hd:H d=Δ (.dM ob (.dK us)):=le.dM _ _ _ aG;have hlen:us.length=kvs.length:=rs.length.symm▸rfl;by_cases gE:q < kvs.length
  ·have e7:kvs.drop q=kvs[q]::kvs.drop (q+1):=aaH gE;rw[e7,yA] at h;refine .inr ⟨⟨hd,by lia⟩,λdn H'=>∃m r st,Le (af X kt) m1 (upd H1 d (.dM ob (.dK us))) m H'/\cI (af X kt) H' m Z r dn/\aC (af X kt) H' m Z st/\Ok (af X kt) Z (n8 i j (ai C eb) (kvs.drop (q+1)) r st) m H' (sM (af X kt) Z (yo X D)),λdn H' z=>⟨kvs.length - (q+1),ab4 _ _ gE,rfl,gE,z⟩,λw' H' hy=>?_⟩;revert hy;refine br λt kk vv sE ht aH iz=>?_;subst aH;subst iz;obtain⟨pp,hpp,rp⟩:=rsl.at_ sE;have epp:kvs[q]=(kk,pp):=by have:=Zu gE;rw[hpp] at this;exact(aaf this).symm
   rw[epp] at h;have DM:Le (af X kt) m H m (upd H t (.tup [kV kk,vv])):=Le.same (bu ht _);have cy:=as.same (bu ht (.tup [kV kk,vv]));have le':=le.trans DM;refine⟨t,[kV kk,vv],rfl,g7.of aG,rfl,kV kk,[vv],rfl,vv,[],rfl,rfl,?_⟩;have rk:ak (af X kt) (upd H t (.tup [kV kk,vv])) m Z (zM kk) (kV kk):=by cases kk<;>rfl
   refine⟨m,_,st,((ar.le DM).set rk).set (rp.le le'),cy,(Ok.bind (Ok.le h DM)).mono λf st2 m2 H2 fP fA h3=>?_⟩;exact BG (k:=λr2 st2=>n8 i j (ai C eb) (kvs.drop (q+1)) r2 st2) fA h3 λr2 Qz JR z=>⟨m2,r2,st2,le'.trans fP,JR,fA,z⟩
  ·have e:q=kvs.length:=by lia
   subst e;rw[ad9,Io] at h;exact .inl ⟨⟨hd,by lia⟩,Ok.here h as σ ar⟩
theorem Pn(T:gI X kt g C){p p' p2 pe cp pos:Pos}(hi:g.N[i]?=Δ x)(hl:jr g x=Λ)(FF:g.N[j]?=Δ y)(A7:jr g y=Λ)(hg:g.gl "enumerate"=Λ)(hs:notStar o=Λ)(ho:PE X o (tE (af X kt) Z (aa C a)))(hb:nS X body (tS (af X kt) Z (ai C eb))):
  PS X (.For (.Tuple [.Name x p,.Name y p'] k p2) (.Call (.Name "enumerate" pe) [o] [] cp) body [] pos) (tS (af X kt) Z (aV C (.j9 i j a eb))):=by
 have nm:∀{z:Str} {a:Nat} {q:Pos},g.N[a]?=Δ z->jr g z=Λ->PG X (.Name z q) (uL a):=λ{z a q} h1 h2=>fR (i:=a) (by rw[T.N];exact T.nd) (by rw[T.N];exact h1) (T.zZ h2) (T.Lo h2);refine PS.imp (zk T.own T.calm (HW (T.toGood.glob hg) (T.bl _ (by decide+kernel)) (oj ho yH hs) (bP hs)) (CP (n:=2) T.calm (kh (nm hi hl) (kh (nm FF A7) zi))) hb (λ_=>rfl)) ?_;rintro D σ H ⟨m,r,st,ar,as,h⟩;rw[vp] at h;refine⟨m,r,st,ar,as,?_⟩;show Ok (af X kt) Z (aE C [a] r st) m H _;simp only[aw,aF];cases hr:aa C a r st with
 |ex x s=>rw[hr] at h;exact h|no=>rw[hr] at h;exact h|ok y0 st1=>
  rw[hr] at h;simp only[ae] at h ⊢;intro m1 H1 bY bp vs jP;refine ah (λv vP aH rv e=>?_) ((show ∃v vP,vs=v::vP/\ak (af X kt) H1 m1 Z y0 v/\vP=[] from jP));subst aH;subst e;have h1:=Ok.le h bY;split at h1
  ·rename_i n;obtain⟨a,ha,rfl⟩:=rv;have O6:∃us,H1 a=Δ (.lst us):=by have h2:Ok (af X kt) Z (j9 n i j (ai C eb) (999999+1) 0 r st1) m1 H1 (sM (af X kt) Z D):=h1;rw[qV] at h2;cases ho:yq n st1 0 with|none=>rw[ho] at h2;exact(show False from h2).elim|some o=>obtain⟨us,hu,_⟩:=rg bp ha ho;exact⟨us,hu⟩
   obtain⟨S3,S4⟩:=O6;refine⟨a,rfl,⟨S3,.inl (.inl S4)⟩,?_⟩;refine⟨λq k σ H=>∃m r st,Le (af X kt) m1 H1 m H/\cI (af X kt) H m Z r σ/\aC (af X kt) H m Z st/\Ok (af X kt) Z (j9 n i j (ai C eb) k q r st) m H (sM (af X kt) Z D),⟨eU,m1,r,st1,Le.refl,ar.le bY,bp,h1⟩,?_⟩;intro q k σ H Nv;revert Nv;refine br λm r st le ar as h=>?_;have S5:m[n]?=Δ a:=by obtain⟨t,et⟩:=le.pre;rw[et,Zy (List.getElem?_eq_some_iff.mp ha).1];exact ha
   cases k with|zero=>exact(show False from h).elim|succ k=>rw[qV] at h;cases ho:yq n st q with|none=>rw[ho] at h;exact(show False from h).elim|some o=>rw[ho] at h;refine aB (λus hu q0 q1=>?_) (rg as S5 ho);cases o with|none=>exact .inl ⟨⟨us,.inl (.inl hu),q0 rfl⟩,Ok.here (show Ok (af X kt) Z (R.ok (Fl.nx r) st) m H (sM (af X kt) Z D) from h) as σ ar⟩|some pq=>obtain⟨vx,MX,rx⟩:=q1 pq rfl;refine .inr ⟨⟨us,vx,.inl (.inl hu),MX⟩,λdn H'=>∃m r st,Le (af X kt) m1 H1 m H'/\cI (af X kt) H' m Z r dn/\aC (af X kt) H' m Z st/\Ok (af X kt) Z (j9 n i j (ai C eb) k (q+1) r st) m H' (sM (af X kt) Z D),λdn H' z=>⟨k,abb k,z⟩,λw' H' hy=>?_⟩;revert hy;refine bZ λt vv ht aH iz hx=>?_;subst aH;subst iz;have yi:=hx us (.inl (.inl hu));rw[MX] at yi;obtain rfl:=sj yi;have DM:Le (af X kt) m H m (upd H t (.tup [.int q,vx])):=Le.same (bu ht _);have cy:=as.same (bu ht (.tup [.int q,vx]));have h2:Ok (af X kt) Z ((ai C eb ((r.set i (Δ (.d (.int q)))).set j (Δ pq)) st).bind _) m H (sM (af X kt) Z D):=h;refine⟨t,[.int q,vx],rfl,g7.of aG,rfl,.int q,[vx],rfl,vx,[],rfl,rfl,?_⟩;refine⟨m,_,st,((ar.le DM).set (p:=.d (.int q)) (v:=.int q) rfl).set (rx.le DM),cy,(Ok.bind (Ok.le h2 DM)).mono λf st2 m2 H2 fP fA h3=>?_⟩;exact BG (k:=λr2 st2=>j9 n i j (ai C eb) k (q+1) r2 st2) fA h3 λr2 Qz JR z=>⟨m2,r2,st2,(le.trans DM).trans fP,JR,fA,z⟩
  ·exact(show False from h1).elim
theorem IK(h1:S8 g (.two i j) tg=Λ):∃x y p p' k p2,tg=.Tuple [.Name x p,.Name y p'] k p2/\g.N[i]?=Δ x/\jr g x=Λ/\g.N[j]?=Δ y/\jr g y=Λ:=by refine qY h1 λ_ _ _ h1=>?_;refine aJ h1 λ_ _ h1=>?_;refine aP h1 λ_ _ h1=>?_;refine aJ h1 λ_ _ h1=>?_;refine aP h1 λ_ _ h1=>?_;simp only[Zr,decide_eq_true_eq,ZO] at h1;obtain⟨⟨⟨⟨rfl,h6⟩,h7⟩,h8⟩,h9⟩:=h1;exact⟨_,_,_,_,_,_,rfl,h6,h7,h8,h9⟩
variable(C) in
def SSt(s:S):Prop:=∀(kt:KT) (X:Cx) (g:G) (x:Stmt) (Z:List Addr),gI X kt g C->okS g s x=Λ->PS X x (tS (af X kt) Z (aV C s))
variable(C) in
def Yp(s:List S):Prop:=∀(kt:KT) (X:Cx) (g:G) (x:List Stmt) (Z:List Addr),gI X kt g C->vT g s x=Λ->nS X x (tS (af X kt) Z (ai C s))
mutual
theorem Po:∀s:S,SSt C s
 |.ret e=>λkt X g x Z T h=>by refine sP h λ_ _ h=>?_;refine vH h λ_ h=>?_;exact S9 (aL e kt X g _ Z T.toGood h).1|.FR=>λkt X g x Z T h=>by refine sP h λ_ _ h=>?_;rw[abo] at h;subst h;exact Pc|.set i e=>λkt X g x Z T h=>by refine mq h λ_ _ _ h=>?_;refine aJ h λ_ _ h=>?_;refine aP h λ_ _ h=>?_;simp only[Zr,decide_eq_true_eq,aab,ZO] at h;obtain⟨⟨⟨⟨rfl,h1⟩,h2⟩,h3⟩,h4⟩:=h;exact II T h1 h2 h4 h3|.ifs c a b=>λkt X g x Z T h=>by refine KR h λ_ _ _ _ h=>?_;simp only[Zr] at h;exact Yi (aL c kt X g _ Z T.toGood h.1.1).2 (eh a kt X g _ Z T h.1.2) (eh b kt X g _ Z T h.2)|.hZ t w b=>λkt X g x Z T h=>by
  refine pO h λ_ _ _ _ _ h=>?_;simp only[Zr,aab,ZO] at h;obtain⟨⟨⟨⟨⟨rfl,h1⟩,h2⟩,h3⟩,h4⟩,h5⟩:=h;cases t with
  |tup is=>exact ft h1|nm i=>refine aP h1 λ_ _ h1=>?_;·simp only[Zr,decide_eq_true_eq] at h1;exact Te T h1.1 h1.2 h4 (zY w kt X g _ _ Z T.toGood h2 λz=>by rw[z] at h5;simp[IG] at h5) (eh b kt X g _ Z T h3)
  |two i j=>refine qY h1 λ_ _ _ h1=>?_;refine aJ h1 λ_ _ h1=>?_;refine aP h1 λ_ _ h1=>?_;refine aJ h1 λ_ _ h1=>?_;refine aP h1 λ_ _ h1=>?_;simp only[Zr,decide_eq_true_eq,ZO] at h1;obtain⟨⟨⟨⟨rfl,h6⟩,h7⟩,h8⟩,h9⟩:=h1;exact Pj T h6 h7 h8 h9 h4 (zY w kt X g _ _ Z T.toGood h2 λ_=>⟨_,_,_,rfl⟩) (eh b kt X g _ Z T h3)
 |.jE t e b=>λkt X g x Z T h=>by refine pO h λ_ _ _ _ _ h=>?_;simp only[Zr,aab,ZO] at h;obtain⟨⟨⟨⟨⟨rfl,h1⟩,h2⟩,h3⟩,h4⟩,h5⟩:=h;cases t with|tup is=>exact ft h1|two i j=>exact tf h5|nm i=>refine aP h1 λ_ _ h1=>?_;·simp only[Zr,decide_eq_true_eq] at h1;exact Pk T h1.1 h1.2 h4 (aL e kt X g _ Z T.toGood h2).1 (eh b kt X g _ Z T h3)
 |.Dx i j a b=>λkt X g x Z T h=>by refine pO h λ_ _ _ _ _ h=>?_;refine bc h λ_ _ _ _ h=>?_;refine cu h λ_ _ _ h=>?_;simp only[Zr,decide_eq_true_eq,aab,ZO] at h;refine cps λgG kG=>?_;obtain⟨⟨⟨⟨⟨⟨⟨⟨rfl,rfl⟩,rfl⟩,h1⟩,rfl⟩,h2⟩,h3⟩,h4⟩,h5⟩:=h;obtain⟨x,y,p,p',k,p2,rfl,h6,h7,h8,h9⟩:=IK h1;refine kG ?_;exact Pm T h6 h7 h8 h9 h2 h3 (aL a kt X g _ Z T.toGood h4).1 (eh b kt X g _ Z T h5)|.j9 i j a b=>λkt X g x Z T h=>by refine pO h λ_ _ _ _ _ h=>?_;refine bc h λ_ _ _ _ h=>?_;refine aP h λ_ _ h=>?_;refine aJ h λ_ _ h=>?_;simp only[Zr,decide_eq_true_eq,aab,ZO] at h;refine cps λgG kG=>?_;obtain⟨⟨⟨⟨⟨⟨⟨⟨rfl,rfl⟩,rfl⟩,h1⟩,rfl⟩,h2⟩,h3⟩,h4⟩,h5⟩:=h;obtain⟨x,y,p,p',k,p2,rfl,h6,h7,h8,h9⟩:=IK h1;refine kG ?_;exact Pn T h6 h7 h8 h9 h2 h3 (aL a kt X g _ Z T.toGood h4).1 (eh b kt X g _ Z T h5)|.mh c b=>λkt X g x Z T h=>by refine DE h λ_ _ _ _ h=>?_;simp only[Zr,ZO] at h;obtain⟨⟨rfl,h1⟩,h2⟩:=h;exact Lu T (aL c kt X g _ Z T.toGood h1).2 (eh b kt X g _ Z T h2)|.expr e=>λkt X g x Z T h=>by refine yF h λ_ _ h=>?_;simp only[Zr,aab] at h;exact Pe h.2 (aL e kt X g _ Z T.toGood h.1).1|.app a e=>λkt X g x Z T h=>by refine yF h λ_ _ h=>?_;refine bc h λ_ _ _ _ h=>?_;refine cu h λ_ _ _ h=>?_;refine aJ h λ_ _ h=>?_;simp only[Zr,decide_eq_true_eq,aab,ZO] at h;obtain⟨⟨⟨⟨⟨⟨⟨rfl,rfl⟩,h0⟩,rfl⟩,h1⟩,h2⟩,h3⟩,h4⟩:=h;exact Tb h0 h1 (aL a kt X g _ Z T.toGood h2).1 (aL e kt X g _ Z T.toGood h3).1 h4|.put a i e=>λkt X g x Z T h=>by refine mq h λ_ _ _ h=>?_;refine aJ h λ_ _ h=>?_;refine nJ h λ_ _ _ h=>?_;simp only[Zr,aab,ZO] at h;obtain⟨⟨⟨⟨rfl,h1⟩,h2⟩,h3⟩,h4⟩:=h;exact Td T.toGood h4 (aL a kt X g _ Z T.toGood h1).1 (aL i kt X g _ Z T.toGood h2).1 (aL e kt X g _ Z T.toGood h3).1|.nh i k=>λkt X g x Z T h=>by refine qZ h λ_ _ _ _ _ _ _ _ _ _ h=>?_;simp only[Zr,decide_eq_true_eq,ZO,abo] at h;obtain⟨⟨⟨⟨⟨rfl,rfl⟩,rfl⟩,rfl⟩,rfl⟩,h6⟩:=h;exact T.nh i k _ _ _ _ _ h6 Z|.nj c f i e=>λkt X g s Z T h=>by refine mq h λ_ _ _ h=>?_;refine aJ h λ_ _ h=>?_;refine cu h λ_ _ _ h=>?_;refine aP h λ_ _ h=>?_;simp only[Zr,decide_eq_true_eq,ZO] at h;obtain⟨⟨⟨⟨⟨⟨rfl,rfl⟩,h1⟩,h2⟩,h3⟩,h4⟩,h5⟩:=h;exact Pg T.toGood h1 h2 h3 h4 (aL e kt X g _ Z T.toGood h5).1
theorem eh:∀s:List S,Yp C s
 |[]=>λkt X g x Z T h=>by have:x=[]:=ZO.mp h;rw[this];exact Ph|s::ss=>λkt X g x Z T h=>by refine aJ h λ_ _ h=>?_;simp only[Zr] at h;exact Ls (Po s kt X g _ Z T h.1) (eh ss kt X g _ Z T h.2)
end
end
section
variable{K:KB}{H H':Hp}{m m1 m2 Z Z1 Z2:List Addr}
mutual
theorem aI.weak(hw:∀a,a∉m1->a∉Z1->a∉m2/\a∉Z2):∀{x:D} {v:V},aI K H m1 Z1 x v->aI K H m2 Z2 x v
 |.bG,_,h=>h|.bl _,_,h=>h|.int _,_,h=>h|.str _,_,h=>h|.tup xs,v,h=>by refine ah (λa us e q r=>?_) ((show ∃a us,v=.ref a/\H a=Δ (.tup us)/\aq K H m1 Z1 xs us from h));exact⟨a,us,e,q,aq.weak hw r⟩
 |.pl xs,v,h=>by refine bq (λa us e q hm hz r=>?_) ((show ∃a us,v=.ref a/\Rd H a (.lst us)/\a∉m1/\a∉Z1/\aq K H m1 Z1 xs us from h));exact⟨a,us,e,q,(hw a hm hz).1,(hw a hm hz).2,aq.weak hw r⟩
theorem aq.weak(hw:∀a,a∉m1->a∉Z1->a∉m2/\a∉Z2):∀{xs:List D} {us:List V},aq K H m1 Z1 xs us->aq K H m2 Z2 xs us
 |[],_,h=>h|x::xs,us,h=>by refine ah (λv vs e r rs=>?_) ((show ∃v vs,us=v::vs/\aI K H m1 Z1 x v/\aq K H m1 Z1 xs vs from h));exact⟨v,vs,e,aI.weak hw r,aq.weak hw rs⟩
end
mutual
theorem aI.pK:∀{x:D} {v:V},Y.pK x=Λ->aI K H m1 Z1 x v->aI K H m2 Z2 x v
 |.bG,_,_,h=>h|.bl _,_,_,h=>h|.int _,_,_,h=>h|.str _,_,_,h=>h|.tup xs,v,n,h=>by refine ah (λa us e q r=>?_) ((show ∃a us,v=.ref a/\H a=Δ (.tup us)/\aq K H m1 Z1 xs us from h));exact⟨a,us,e,q,aq.pK (by simpa[Y.pK] using n) r⟩
 |.pl xs,v,n,h=>by simp[Y.pK] at n
theorem aq.pK:∀{xs:List D} {us:List V},Er xs=Λ->aq K H m1 Z1 xs us->aq K H m2 Z2 xs us
 |[],_,_,h=>h|x::xs,us,n,h=>by refine ah (λv vs e r rs=>?_) ((show ∃v vs,us=v::vs/\aI K H m1 Z1 x v/\aq K H m1 Z1 xs vs from h));simp only[Er,Zr] at n;exact⟨v,vs,e,aI.pK n.1 r,aq.pK n.2 rs⟩
end
mutual
theorem ak.weak(hw:∀a,a∉m1->a∉Z1->a∉m2/\a∉Z2):∀{x:P} {v:V},cH x=Λ->ak K H m1 Z1 x v->ak K H m2 Z2 x v
 |.d _,_,_,h=>by rw[ak] at h ⊢;exact aI.weak hw h|.obj _,_,n,_=>by simp[cH] at n|.jg _,_,n,_=>by simp[cH] at n|.fn k bz,v,n,h=>by rw[ak] at h ⊢;revert h;refine br λa c b9 e q hc r=>?_;exact⟨a,c,b9,e,q,hc,aj.weak hw (by simpa[cH] using n) r⟩
 |.lf k,_,n,_=>by simp[cH] at n
theorem aj.weak(hw:∀a,a∉m1->a∉Z1->a∉m2/\a∉Z2):∀{xs:List P} {us:List V},cJ xs=Λ->aj K H m1 Z1 xs us->aj K H m2 Z2 xs us
 |[],_,_,h=>h|x::xs,us,n,h=>by rw[aj] at h ⊢;revert h;refine ah λv vs e r rs=>?_;simp only[cJ,Zr] at n;exact⟨v,vs,e,ak.weak hw n.1 r,aj.weak hw n.2 rs⟩
end
theorem Yq{st:aM}(as:aC K H m Z st)(r:ak K H m Z p v)(e:zJ st p=Δ q):ak K H [] [] q v/\(isObj p=Ξ->ak K H [] (Z++m) q v):=by
 have hw:∀a,a∉m->a∉Z->a∉([]:List Addr)/\a∉Z++m:=λa h1 h2=>⟨by simp,λz=>by
  rcases acQ.mp z with z|z;·exact h2 z
  ·exact h1 z⟩
 cases p with
 |jg ns=>obtain rfl:=sj e;rw[ak] at r;exact⟨by rw[ak];exact r,λ_=>by rw[ak];exact r⟩|d x=>obtain rfl:=sj e;rw[ak] at r;exact⟨by rw[ak];exact aI.bare r,λ_=>by rw[ak];exact aI.weak hw r⟩|obj n=>obtain⟨x,e1,rfl⟩:=iX (show(kY st (.obj n)).map P.d=Δ q from e);exact⟨by rw[ak];exact mr as e1 r,λz=>nomatch z⟩|fn k bz=>
  have e':(if cJ bz=Λ then Δ (P.fn k bz) else Θ)=Δ q:=e;split at e'
  ·rename_i hp;obtain rfl:=sj e';have Hv:cH (.fn k bz)=Λ:=by simpa[cH] using hp
   exact⟨ak.weak (m1:=m) (Z1:=Z) (λ_ _ _=>⟨by simp,by simp⟩) Hv r,λ_=>ak.weak hw Hv r⟩
  ·exact aQ e'
 |lf k=>exact aQ e
theorem BH{st:aM}(as:aC K H m Z st):∀{ps qs} {vs},aj K H m Z ps vs->iI st ps=Δ qs->aj K H [] [] qs vs/\(ps.any isObj=Ξ->aj K H [] (Z++m) qs vs)
 |[],qs,vs,r,e=>by obtain rfl:=sj e;exact⟨r,λ_=>r⟩|p::ps,qs,vs,r,e=>by rw[aj] at r;refine cps λgG kG=>?_;obtain⟨v,w',rfl,r1,r2⟩:=r;obtain⟨q,e1,e⟩:=dt (show((zJ st p).bind λx=>(iI st ps).map λxs=>x::xs)=Δ qs from e);obtain⟨q2,e2,rfl⟩:=iX e;obtain⟨i1,i2⟩:=Yq as r1 e1;obtain⟨j1,j2⟩:=BH as r2 e2;refine kG ?_;refine⟨by rw[aj];exact⟨v,w',rfl,i1,j1⟩,λh=>?_⟩;rw[abN,Bool.or_eq_false_iff] at h;rw[aj];exact⟨v,w',rfl,i2 h.1,j2 h.2⟩
theorem yL(r:aj K H m Z qs vs):cI K H m Z (aA N.length qs) (L2.start N vs):=by
 have hl:=r.length;refine⟨by unfold aA L2.start;simp[hl],λi p h=>?_⟩;unfold aA at h;unfold L2.start;by_cases hi:i < qs.length
 ·rw[Zy (by simpa using hi),ZD] at h;cases e:qs[i]? with
  |none=>rw[e] at h;exact aQ h|some q=>
   rw[e] at h;have h':q=p:=by simpa using h
   subst h';obtain⟨v,e1,r1⟩:=r.get e;exact⟨v,by rw[Zy (by rw[ZA,hl];exact hi),ZD,e1];rfl,r1⟩
 ·rw[ZX (by simpa using hi),acj] at h;split at h<;>cases h
theorem aC.Yr{st:aM}(A:aC K H m Z st)(h:a∈m):iw H a≠Θ:=by
 obtain⟨n,hn,e⟩:=List.mem_iff_getElem.mp h;have GZ:n < st.length:=by rw[<-A.len];exact hn
 obtain⟨a',e',r⟩:=A.at_ n st[n] (Zu GZ);rw[Zu hn,e] at e';obtain rfl:=sj e';cases q:H a with|none=>exact absurd q r.sY.1|some u=>rw[bx q λφ z=>r.sY.2.2.2.1 φ (by rw[q,z])];exact λz=>nomatch z
theorem m6(hz:∀a∈Z,iw H a≠Θ)(ht:∀t∈K.tabs,∃ps,H t.1=Δ (.gv ps)/\gH H t.2 ps):aC K H [] Z []:=⟨rfl,by simp,λn o h=>by simp at h,hz,λa _=>by simp,ht⟩
theorem Le.outer(le:Le K [] H m' H'):Le K m H m H':=⟨⟨[],by simp⟩,le.tup,λa u h _=>le.keep a u h (by simp),λa h=>.inl h,le.sY,le.Es,le.dM,le.ext,le.gv⟩
theorem aC.outer{st:aM}(as:aC K H m Z st)(le:Le K [] H m' H')(ht:∀t∈K.tabs,∃ps,H' t.1=Δ (.gv ps)/\gH H' t.2 ps):aC K H' m Z st:=by
 refine⟨as.len,as.nd,λn o h=>?_,λa h=>le.Es a (as.zt a h),as.zm,ht⟩;obtain⟨a,q,r⟩:=as.at_ n o h;exact⟨a,q,r.mono (λb u hb hu=>le.keep b u hu (by simp) (λps z=>by
  rcases hb with w1|w1;·subst w1;rw[z] at hu;exact r.sY.2.2.2.2.1 ps hu
  ·rw[w1] at hu;obtain rfl:=sj hu;cases z)) λp v z=>z.le le.outer⟩
end
structure Info where
 name:Str
 st:Stmt
 N:List Str
 ps:List Str
 F:Fn
section
variable{P:aav}{w:World}{K:ZE}{mg:Str->Option Value}{base:Heap}{is:List Info}{cs:List (Str×Int)}{ts:List (Str×List (Str×Int))}{a:Nat->Addr}{fd:Nat->abt}
end
structure CI where
 lam:Bool
 qual:Str
 N:List Str
 ps:List Str
 fr:List Str
 F:Fn
structure KI where
 name:Str
 tH:List Str
 IL:List (Str×Nat)
structure TX where
 is:List (Info×List (Nat×Pos))
 Ys:List CI
 cs:List (Str×Int)
 ts:List (Str×List (Str×Int))
 nf:Nat
 ks:List KI
def TX.Fs(S:TX):List Fn:=S.is.map (·.1.F)++S.Ys.map (·.F)
noncomputable def TX.ci(S:TX)(k:Nat):Option CI:=if k < S.is.length then Θ else S.Ys[k - S.is.length]?
def TX.fns(S:TX):List (Str×Nat):=(S.is.take S.nf).map λj=>(j.1.name,j.1.F.np)
theorem TX.IM{S:TX}(h:S.fns[k]?=Δ (x,n)):k < S.nf/\∃i,S.is[k]?=Δ i/\(i.1.name,i.1.F.np)=(x,n):=by
 unfold TX.fns at h;rw[ZD,List.getElem?_take] at h;split at h;·rename_i hk;refine⟨hk,?_⟩;cases ej:S.is[k]? with|none=>rw[ej] at h;exact aQ h|some i2=>rw[ej] at h;exact⟨i2,rfl,by simpa using h⟩
 ·exact aQ h
noncomputable def TX.np(S:TX)(k:Nat):Option Nat:=(S.is[k]?).map (·.1.F.np)
noncomputable def TX.AA(S:TX)(c f:Str):Bool:=S.ks.any λq=>decide (q.name=c)&&q.tH.any (λx=>decide (x=f))
def TX.CL(S:TX)(k:Nat)(c m:Str)(n:Nat):Bool:=S.ks.any λq=>decide (q.name=c)&&decide (q.IL.lookup m=Δ k)&&decide (S.np k=Δ (n+1))
def TX.CM(S:TX)(k:Nat)(c:Str)(n:Nat):Bool:=S.ks.any λq=>decide (q.name=c)&&decide (q.IL.lookup ("__init__":Str)=Δ k)&&decide (S.np k=Δ (n+1))
def lv:Nat->Nat
 |0=>0|n+1=>lv n+2
def TX.q(S:TX)(k:Nat):Str:=((S.ci k).map (·.qual)).getD ""
theorem TX.Pp{S:TX}{ci:CI}(h:S.ci k=Δ ci):S.Fs[k]?=Δ ci.F/\S.q k=ci.qual:=by
 unfold TX.ci at h;split at h;·exact aQ h
 ·rename_i hk;refine⟨?_,by unfold TX.q TX.ci;rw[if_neg hk,h];rfl⟩;unfold TX.Fs;rw[ZX (by rw[ZA];lia),ZA,ZD,h];rfl
theorem TX.Yt{S:TX}{k:Nat}(h:S.is[k]?=Δ i):S.Fs[k]?=Δ i.1.F:=by unfold TX.Fs;rw[Zy (by rw[ZA];exact(List.getElem?_eq_some_iff.mp h).1),ZD,h];rfl
def DN(ci:CI)(sc:Scope):Bool:=
 decide (sc.kind=.function)&&!sc.isCoroutine&&!sc.isGenerator&&decide ci.N.Nodup&&decide (ci.N.take (ci.ps.length+ci.fr.length)=ci.ps++ci.fr)&&
 ci.ps.all (λx=>decide (sc.names.lookup x=Δ .local))&&ci.fr.all (λx=>decide (sc.names.lookup x=Δ .free))&&
 sc.names.all (λy=>decide (y.2≠.cell)&&(decide (y.2≠.free)||decide (y.1∈ci.fr)))&&
 decide (ci.F.np=ci.ps.length+ci.fr.length)&&decide (ci.F.nn=ci.N.length)&&!ci.F.sh
theorem pQ(h:DN ci sc=Λ):ma ci.N ci.ps ci.fr sc/\ci.F.np=ci.ps.length+ci.fr.length/\ci.F.nn=ci.N.length/\ci.F.sh=Ξ:=by unfold DN at h;simp only[Zr,decide_eq_true_eq,aab,abe,ab0] at h;obtain⟨⟨⟨⟨⟨⟨⟨⟨⟨⟨h1,h2⟩,h3⟩,h4⟩,h5⟩,h6⟩,h7⟩,h8⟩,h9⟩,h10⟩,h11⟩:=h;exact⟨⟨h1,h2,h3,h4,h5,h6,h7,λy hy=>(h8 y hy).1,λy hy hf=>(h8 y hy).2.resolve_left λz=>z hf⟩,h9,h10,h11⟩
def gC(S:TX)(ci:CI)(sc:Scope):G:={N:=ci.N,names:=sc.names,fns:=S.fns,jn:=S.cs,tabs:=S.ts,AA:=S.AA,CL:=S.CL,CM:=S.CM}
noncomputable def Lw:List S->Option E
 |s::r=>match s with
  |.ret e=>match r with|[]=>Δ e|_::_=>Θ
  |_=>Θ
 |[]=>Θ
theorem Lx(h:Lw b=Δ e):b=[.ret e]:=by
 unfold Lw at h;split at h
 ·split at h
  ·split at h;·obtain rfl:=sj h;rfl
   ·exact aQ h
  ·exact aQ h
 ·exact aQ h
def rm(S:TX)(ci:CI)(pa:ab2)(bo:Expr)(sc:Scope):Bool:=ci.lam&&fE pa ci.ps&&DN ci sc&&(match Lw ci.F.body with|some e=>jq (gC S ci sc) e bo|none=>Ξ)
def rn(S:TX)(ci:CI)(pa:ab2)(bo:List Stmt)(sc:Scope):Bool:=!ci.lam&&fE pa ci.ps&&DN ci sc&&vT (gC S ci sc) ci.F.body bo
def IP(S:TX)(ci:CI)(o:Obj)(sc:Scope)(cl:List (Str×Addr))(c:Addr):Prop:=
 (∃pa bo pm ct,o=PySem.W.kla_obj "<lambda>" ci.qual pa bo sc cl pm c ct/\rm S ci pa bo sc=Λ)\/
 (∃nm pa bo doc pm ct,o=PySem.W.fnMade nm ci.qual pa bo sc cl doc pm c ct/\rn S ci pa bo sc=Λ)
def pR(S:TX)(B:Heap)(k:Nat)(a c:Addr)(b9:List V):Prop:=∃ci o sc cl,S.ci k=Δ ci/\B.get? a=Δ o/\IP S ci o sc cl c/\JO B cl ci.fr b9
abbrev oq(S:TX)(K:ZE)(base:Heap)(tabs:List (Addr×List (Pos×Str))):KB:=⟨K,base,tabs,pR S base,λ_ _ _ _ _=>False,S.q⟩
abbrev Vg(S:TX)(base:Heap)(tabs:List (Addr×List (Pos×Str))):KT:={tabs:=tabs,sL:=pR S base,JQ:=λ_ _ _ _ _=>False,Bm:=S.q}
section
variable{K1 K2:KB}{H:Hp}{m Z:List Addr}
mutual
theorem aI.kb:∀{x:D} {v:V},aI K1 H m Z x v->aI K2 H m Z x v
 |.bG,_,h=>h|.bl _,_,h=>h|.int _,_,h=>h|.str _,_,h=>h|.tup xs,v,h=>by refine ah (λa us e q r=>?_) ((show ∃a us,v=.ref a/\H a=Δ (.tup us)/\aq K1 H m Z xs us from h));exact⟨a,us,e,q,aq.kb r⟩
 |.pl xs,v,h=>by refine bq (λa us e q hm hz r=>?_) ((show ∃a us,v=.ref a/\Rd H a (.lst us)/\a∉m/\a∉Z/\aq K1 H m Z xs us from h));exact⟨a,us,e,q,hm,hz,aq.kb r⟩
theorem aq.kb:∀{xs:List D} {us:List V},aq K1 H m Z xs us->aq K2 H m Z xs us
 |[],_,h=>h|x::xs,us,h=>by refine ah (λv vs e r rs=>?_) ((show ∃v vs,us=v::vs/\aI K1 H m Z x v/\aq K1 H m Z xs vs from h));exact⟨v,vs,e,aI.kb r,aq.kb rs⟩
end
mutual
theorem ak.kb(hk:K1.K=K2.K)(hq:K1.Bm=K2.Bm)(hc:∀k a c b9,K1.sL k a c b9->K2.sL k a c b9):∀{x:P} {v:V},cH x=Λ->ak K1 H m Z x v->ak K2 H m Z x v
 |.d _,_,_,h=>by rw[ak] at h ⊢;exact aI.kb h|.obj _,_,n,_=>by simp[cH] at n|.jg _,_,n,_=>by simp[cH] at n|.fn k bz,v,n,h=>by rw[ak] at h ⊢;revert h;refine br λa c b9 e q hx r=>?_;exact⟨a,c,b9,e,hc _ _ _ _ q,by rw[<-hq];exact hx,aj.kb hk hq hc (by simpa[cH] using n) r⟩
 |.lf k,_,n,_=>by simp[cH] at n
theorem aj.kb(hk:K1.K=K2.K)(hq:K1.Bm=K2.Bm)(hc:∀k a c b9,K1.sL k a c b9->K2.sL k a c b9):∀{xs:List P} {us:List V},cJ xs=Λ->aj K1 H m Z xs us->aj K2 H m Z xs us
 |[],_,_,h=>h|x::xs,us,n,h=>by rw[aj] at h ⊢;revert h;refine ah λv vs e r rs=>?_;simp only[cJ,Zr] at n;exact⟨v,vs,e,ak.kb hk hq hc n.1 r,aj.kb hk hq hc n.2 rs⟩
end
def Ly:P->Bool
 |.jg _=>Λ|p=>cH p
theorem Pq{st:aM}(h:zJ st p=Δ q):Ly q=Λ:=by
 cases p with
 |jg ns=>obtain rfl:=sj h;rfl|d x=>obtain rfl:=sj h;rfl|obj n=>obtain⟨x,e1,rfl⟩:=iX (show(kY st (.obj n)).map P.d=Δ q from h);rfl
 |fn k bz=>
  have e':(if cJ bz=Λ then Δ (P.fn k bz) else Θ)=Δ q:=h;split at e';·rename_i hp;obtain rfl:=sj e';simpa[Ly,cH] using hp
  ·exact aQ e'
 |lf k=>exact aQ h
theorem EI{st:aM}:∀{ps qs},iI st ps=Δ qs->∀q∈qs,Ly q=Λ
 |[],qs,h=>by obtain rfl:=sj h;exact λq z=>by cases z|p::ps,qs,h=>by
  obtain⟨q,e1,e⟩:=dt (show((zJ st p).bind λx=>(iI st ps).map λxs=>x::xs)=Δ qs from h);obtain⟨q2,e2,rfl⟩:=iX e;intro x hx;rcases abM.mp hx with z|z;·rw[z];exact Pq e1
  ·exact EI e2 x z
theorem aj.kbA(hk:K1.K=K2.K)(hq:K1.Bm=K2.Bm)(hc:∀k a c b9,K1.sL k a c b9->K2.sL k a c b9):∀{xs} {us},(∀q∈xs,Ly q=Λ)->aj K1 H m Z xs us->aj K2 H m Z xs us
 |[],_,_,h=>h|x::xs,us,n,h=>by rw[aj] at h ⊢;revert h;refine ah λv vs e r rs=>?_;refine⟨v,vs,e,?_,aj.kbA hk hq hc (λq hq=>n q (Zs _ hq)) rs⟩;have hx:=n x Zx;cases x with|jg ns=>rw[ak] at r ⊢;rw[<-hk];exact r|d y=>exact ak.kb hk hq hc rfl r|obj y=>exact ft hx|fn k c=>exact ak.kb hk hq hc hx r|lf k=>exact ft hx
end
theorem rA(Tf:F.nn=N.length){st:aM}(rq:aj kb H m Z qs vs)(as:aC kb H m Z st)(hk:kb.K=X.K)(hq:kb.Bm=kt.Bm)(hc:∀k a c b9,kb.sL k a c b9->kt.sL k a c b9)(ht:kb.tabs=kt.tabs)(ea:iI st qs=Δ q2)(er:xt C F q2=Δ d)(aN:Ok kb Z (vB qs d st) m H (λp _ m' H'=>∀v,ak kb H' m' Z p v->Q v H')):
  ∃Z0,tS (af X kt) Z0 (ai C F.body) {nx:=λ_ H'=>Q .bG H',rt:=Q} (L2.start N vs) H:=by
 obtain⟨r1,r2⟩:=BH as rq ea;have hb:=EI ea;obtain⟨Z0,U8,rs0,hw⟩:∃Z0:List Addr,(∀b∈Z0,iw H b≠Θ)/\aj kb H [] Z0 q2 vs/\((qs.any isObj=Ξ/\Z0=Z++m)\/qs.any isObj=Λ):=by
  cases ho:qs.any isObj with
  |false=>
   refine⟨Z++m,λb hb=>?_,r2 ho,.inl ⟨rfl,rfl⟩⟩;rcases acQ.mp hb with z|z;·exact as.zt b z
   ·exact as.Yr z
  |true=>exact⟨[],(λb hb=>by cases hb),r1,.inr rfl⟩
 have tab:∀t∈(af X kt).tabs,∃ps,H t.1=Δ (.gv ps)/\gH H t.2 ps:=λt h=>as.tab t (by rw[ht];exact h);refine⟨Z0,[],aA F.nn q2,[],by rw[Tf];exact yL (aj.kbA hk hq hc hb rs0),m6 U8 tab,?_⟩;unfold xt at er;split at er
 ·cases hx:ai C F.body (aA F.nn q2) [] with
  |ex x s=>rw[hx] at er;exact aQ er|no=>rw[hx] at er;exact aQ er|ok f aO=>
   rw[hx] at er;intro m' H' le cy;have le0:Le kb [] H m' H':=⟨le.pre,le.tup,le.keep,le.new,le.sY,le.Es,le.dM,le.ext,le.gv⟩;have fin:∀v,aI kb H' m Z d v->Q v H':=λv rv=>by
    unfold vB at aN;split at aN;·exact(show False from aN).elim
    ·exact aN m H' le0.outer (as.outer le0 (λt h=>cy.tab t (by show t∈kt.tabs;rw[<-ht];exact h))) v rv
   have Yu:qs.any isObj=Λ->Y.pK d=Λ:=λz=>by
    unfold vB at aN;split at aN;·exact(show False from aN).elim
    ·rename_i hc;cases hp:Y.pK d with|true=>rfl|false=>rw[z,hp] at hc;exact absurd rfl hc
   cases f with
   |bk r=>exact aQ er|ct r=>exact aQ er|nx r=>obtain rfl:=sj er;exact λσ _=>fin .bG rfl
   |rt p=>
    have JS:kY aO p=Δ d:=er;intro v rv;apply fin;rcases hw with ⟨_,rfl⟩|ho
    ·have zp:∀b,b∉m'->b∉Z++m->b∉m/\b∉Z:=λb _ h=>⟨λz=>h (Z8 _ z),λz=>h (aaG _ z)⟩;cases p with
     |jg ns=>exact aQ JS|fn k c=>exact aQ JS|lf k=>exact aQ JS|d x=>obtain rfl:=sj JS;exact aI.kb (aI.weak zp rv)|obj j=>
      obtain⟨b,e,rfl⟩:=rv;have h':(match aO[j]? with|some (.lst xs)=>(bC xs).map D.pl|_=>Θ)=Δ d:=JS;split at h'
      ·rename_i xs hs;obtain⟨b',e',o⟩:=cy.at_ j _ hs;rw[e] at e';obtain rfl:=sj e';obtain⟨us,hu,rs⟩:=o;obtain⟨ys,hd,rfl⟩:=iX h';have hbn:H b=Θ:=by
        rcases le.new b (ZG e) with z|z;·cases z
        ·exact z
       exact⟨b,us,rfl,.inl hu,λz=>as.Sx z hbn,λz=>as.zt b z (kW hbn),aq.kb (aq.weak zp (rs.bC hd))⟩
      ·exact aQ h'
    ·have np:=Yu ho;cases p with
     |jg ns=>exact aQ JS|fn k c=>exact aQ JS|lf k=>exact aQ JS|d x=>obtain rfl:=sj JS;exact aI.kb (aI.pK np rv)|obj j=>
      have h':(match aO[j]? with|some (.lst xs)=>(bC xs).map D.pl|_=>Θ)=Δ d:=JS;split at h';·obtain⟨ys,hd,rfl⟩:=iX h';simp[Y.pK] at np
      ·exact aQ h'
 ·exact aQ er
theorem Lz{K:KB}(h:tS K Z (ai C [.ret e]) {nx:=N0,rt:=Q} σ H):tE K Z (aa C e) σ H Q:=by obtain⟨m,r,st,ar,as,h⟩:=h;refine⟨m,r,st,ar,as,?_⟩;rw[jN,qQ] at h;cases hx:aa C e r st with|ex x s=>rw[hx] at h;exact h|no=>rw[hx] at h;exact h|ok p aO=>rw[hx] at h;exact λm' H' le cy=>h m' H' le cy
theorem yM{st:aM}:∀{ps qs},iI st ps=Δ qs->qs.length=ps.length
 |[],qs,h=>by obtain rfl:=sj h;rfl|p::ps,qs,h=>by obtain⟨q,e1,e⟩:=dt (show((zJ st p).bind λx=>(iI st ps).map λxs=>x::xs)=Δ qs from h);obtain⟨q2,e2,rfl⟩:=iX e;rw[ZS,ZS,yM e2]
theorem m7{st:aM}(hF:Fs[k]?=Δ F)(hs:F.sh=Ξ)(h:Ok kb Z (callC Fs (n+1) k ps st) m H Q):
  ∃q2 d,iI st ps=Δ q2/\xt (callC Fs n) F q2=Δ d/\Ok kb Z (vB ps d st) m H Q/\ps.length=F.np:=by
 rw[jm,hF] at h;simp only[hs,aaj,if_false] at h;cases ea:iI st ps with
 |none=>rw[ea] at h;exact(show False from h).elim|some q2=>
  rw[ea] at h;simp only at h;cases er:xt (callC Fs n) F q2 with
  |none=>rw[er] at h;exact(show False from h).elim|some d=>
   rw[er] at h;refine⟨q2,d,rfl,er,h,?_⟩;unfold xt at er;split at er;·rename_i hl;rw[<-yM ea];exact hl
   ·exact aQ er
def bQ(S:TX)(i:Info×List (Nat×Pos)):List (Pos×Str):=i.2.map λp=>(p.2,S.q p.1)
def freeOk(names:List (Str×ab5))(sc:Scope):Bool:=sc.names.all λy=>decide (y.2≠.free)||decide (names.lookup y.1=Δ .cell)
def Gg(S:TX)(i:Info×List (Nat×Pos))(ls:List (Nat×List Nat)):Bool:=ls.all λp=>match S.ci p.1 with|some ci=>decide (p.2.map (λj=>i.1.N[j]?)=ci.fr.map Δ)&&ci.fr.all λx=>decide ((ax i.1.st).names.lookup x=Δ .cell)|none=>Ξ
def IQ(S:TX)(i:Info×List (Nat×Pos))(k:Nat)(pa:ab2)(bo:Expr)(sc:Scope)(pos:Pos):Bool:=match S.ci k with|some ci=>decide ((k,pos)∈i.2)&&rm S ci pa bo sc&&freeOk (ax i.1.st).names sc&&decide (ci.qual=(i.1.name++".<locals>.")++"<lambda>")|none=>Ξ
def IS(S:TX)(i:Info×List (Nat×Pos))(j k:Nat)(nm:Str)(pa:ab2)(bo:List Stmt)(sc:Scope)(pos:Pos):Bool:=match S.ci k with|some ci=>decide ((k,pos)∈i.2)&&rn S ci pa bo sc&&freeOk (ax i.1.st).names sc&&decide (ci.qual=(i.1.name++".<locals>.")++nm)&&decide (i.1.N[j]?=Δ nm)&&(decide ((ax i.1.st).names.lookup nm=Δ .local)||decide ((ax i.1.st).names.lookup nm=Δ .cell))|none=>Ξ
def IT(S:TX)(i:Info×List (Nat×Pos)):G:=match i.2 with|[]=>{N:=i.1.N,names:=(ax i.1.st).names,fns:=S.fns,jn:=S.cs,tabs:=S.ts,AA:=S.AA,CL:=S.CL,CM:=S.CM}|_::_=>{N:=i.1.N,names:=(ax i.1.st).names,fns:=[],jn:=S.cs,tabs:=S.ts,SA:=IQ S i,SD:=IS S i,MT:=λf x n ls=>decide (S.fns[f]?=Δ (x,n))&&Gg S i ls,SF:=λ_ _ _=>Ξ,cv:=Ξ}
def gD(S:TX)(i:Info×List (Nat×Pos)):Bool:=vT (IT S i) i.1.F.body (mS i.1.st)&&decide (i.1.F.np=i.1.ps.length)&&decide (i.1.F.nn=i.1.N.length)&&(i.2.isEmpty||!i.1.F.sh)
structure Aa(K:ZE)(mg:Str->Option Value)(S:TX)(tabs:List (Addr×List (Pos×Str)))(a:Nat->Addr)(fd:Nat->abt)(cP:Nat->Addr×Addr):Prop where
 fn:∀(k:Nat) (i:Info×List (Nat×Pos)),S.is[k]?=Δ i->(∃x,oR K x i.1.name i.1.st (a k) (fd k))/\(k < S.nf->mg i.1.name=Δ (.ref (a k)))/\Binds K (fd k) i.1.ps []/\bb i.1.N i.1.ps (ax i.1.st)/\gD S i=Λ
 bl:∀x∈vM,mg x=Θ
 cs:∀x i,S.cs.lookup x=Δ i->∃t,mg x=Δ (.int i t)
 tb:∀x t,S.ts.lookup x=Δ t->∃a,mg x=Δ (.ref a)/\RY K a t
 cl:∀q∈S.ks,∃A,ZU K ZL q.name=Δ (Δ (.ref A))/\mg q.name=Δ (.ref A)/\CG K A/\(∀f∈q.tH,kP K A f)/\(∀m k,q.IL.lookup m=Δ k->CZ K A m (a k))/\∀k,q.IL.lookup ("__init__":Str)=Δ k->Mk K A (a k)
 mkr:∀(k:Nat) (i:Info×List (Nat×Pos)),S.is[k]?=Δ i->i.2≠[]->(fd k).code=.ref (cP k).1/\((cP k).2,bQ S i)∈tabs/\Apart (bQ S i)/\∀t∈tabs,t.1=(cP k).2->t.2=bQ S i
section
variable{P:aav}{w:World}{K:ZE}{mg:Str->Option Value}{S:TX}{tabs:List (Addr×List (Pos×Str))}{a:Nat->Addr}{fd:Nat->abt}{cP:Nat->Addr×Addr}
structure k9(mg:Str->Option Value)(S:TX)(cP:Nat->Addr×Addr)(base:Heap):Prop where
 code:∀(k:Nat) (i:Info×List (Nat×Pos)),S.is[k]?=Δ i->i.2≠[]->abD base (cP k).1 (cP k).2
 bm:BMain mg base
def mw(P:aav)(w:World)(K:ZE)(mg:Str->Option Value)(S:TX)(tabs:List (Addr×List (Pos×Str)))(a:Nat->Addr)(fd:Nat->abt)(n:Nat)(base:Heap):Prop:=
 ∀(k:Nat) (i:Info×List (Nat×Pos)),S.is[k]?=Δ i->iy P w K mg base w6 (lv n) (a k) (fd k) i.1.ps (DG (oq S K base tabs) (callC S.Fs n k) i.1.F.np)
def Ab(P:aav)(w:World)(K:ZE)(mg:Str->Option Value)(S:TX)(tabs:List (Addr×List (Pos×Str)))(n:Nat)(base:Heap):Prop:=
 ∀(k:Nat) (b c:Addr) (b9:List V),pR S base k b c b9->∃fd ps,iy P w K mg base w6 (lv n) b fd ps (SG (oq S K base tabs) (callC S.Fs n k) c (S.q k) b9)/\Binds K fd ps []
theorem IU(h:pR S base k b c b9):∃oc od fd sl,base.get? b=Δ ⟨oc,od,.func fd,sl⟩:=by revert h;refine fB λci o sc cl _ ho hf _=>?_;rcases hf with ⟨_,_,_,_,rfl,_⟩|⟨_,_,_,_,_,_,rfl,_⟩<;>exact⟨_,_,_,_,ho⟩
theorem BI(T:Aa K mg S tabs a fd cP)(D:mw P w K mg S tabs a fd n base)(hX:X.prog=P/\X.w=w/\X.K=K/\X.mg=mg/\X.base=base)(hr:dy (lv n+1) X.A)(Th:af X kt=oq S K base tabs):∀(k) (x) (m),S.fns[k]?=Δ (x,m)->vL X kt (callC S.Fs n k) x m:=by revert hX;refine kJ λaH iz Ti Tj Tn=>?_;subst aH;subst iz;subst Ti;subst Tj;subst Tn;intro j x nn hj;refine uI (λhk i2 ej e2=>?_) (TX.IM hj);cases e2;refine jc (λqv Lv yn _=>?_) (T.fn j i2 ej);obtain⟨x2,F2⟩:=qv;exact⟨⟨lv n,a j,fd j,i2.1.ps,by rw[Th];exact D j i2 ej,hr.mono (abn _),Lv hk,F2.kp,yn⟩⟩
theorem BJ{X:Cx}(T:Aa K mg S tabs a fd cP)(hK:X.K=K):∀c f,S.AA c f=Λ->∃A,ZU X.K ZL c=Δ (Δ (.ref A))/\CG X.K A/\kP X.K A f:=by subst hK;intro c f h;unfold TX.AA at h;rw[abd] at h;refine cps λgG kG=>?_;obtain⟨q,hq,h⟩:=h;simp only[Zr,decide_eq_true_eq,abd] at h;obtain⟨rfl,f',hf,rfl⟩:=h;obtain⟨A,k1,k2,k3,k4,_⟩:=T.cl q hq;refine kG ?_;exact⟨A,k1,k3,k4 _ hf⟩
theorem MY(h:S.np k=Δ n):∃i,S.is[k]?=Δ i/\i.1.F.np=n:=by unfold TX.np at h;cases ej:S.is[k]? with|none=>rw[ej] at h;exact aQ h|some i=>rw[ej] at h;exact⟨i,rfl,by simpa using h⟩
theorem BK(T:Aa K mg S tabs a fd cP)(D:mw P w K mg S tabs a fd n base)(hX:X.prog=P/\X.w=w/\X.K=K/\X.mg=mg/\X.base=base)(hr:dy (lv n+1) X.A)(Th:af X kt=oq S K base tabs):∀k c m nn,S.CL k c m nn=Λ->∃A l fa fd ps,ZU X.K ZL c=Δ (Δ (.ref A))/\CG X.K A/\CZ X.K A m fa/\iy X.prog X.w X.K X.mg X.base w6 l fa fd ps (DG (af X kt) (callC S.Fs n k) (nn+1))/\dy l X.A/\Binds X.K fd ps []:=by revert hX;refine kJ λaH iz Ti Tj Tn=>?_;subst aH;subst iz;subst Ti;subst Tj;subst Tn;intro k c m nn h;unfold TX.CL at h;rw[abd] at h;refine cps λgG kG=>?_;obtain⟨q,hq,h⟩:=h;simp only[Zr,decide_eq_true_eq] at h;obtain⟨⟨rfl,hm⟩,hn⟩:=h;obtain⟨i,ei,en⟩:=MY hn;obtain⟨A,k1,k2,k3,k4,k5,_⟩:=T.cl q hq;refine jc (λ_ _ yn _=>?_) (T.fn k i ei);refine kG ?_;refine⟨A,lv n,a k,fd k,i.1.ps,k1,k3,k5 _ _ hm,?_,hr.mono (abn _),yn⟩;have:=D k i ei;rw[Th,<-en];exact this
theorem BL(T:Aa K mg S tabs a fd cP)(D:mw P w K mg S tabs a fd n base)(hX:X.prog=P/\X.w=w/\X.K=K/\X.mg=mg/\X.base=base)(hr:dy (lv n+1) X.A)(Th:af X kt=oq S K base tabs):∀k c nn,S.CM k c nn=Λ->∃A l fa fd ps,X.mg c=Δ (.ref A)/\ZU X.K ZL c=Δ (Δ (.ref A))/\Mk X.K A fa/\iy X.prog X.w X.K X.mg X.base w6 l fa fd ps (DG (af X kt) (callC S.Fs n k) (nn+1))/\dy (l+1) X.A/\Binds X.K fd ps []:=by revert hX;refine kJ λaH iz Ti Tj Tn=>?_;subst aH;subst iz;subst Ti;subst Tj;subst Tn;intro k c nn h;unfold TX.CM at h;rw[abd] at h;refine cps λgG kG=>?_;obtain⟨q,hq,h⟩:=h;simp only[Zr,decide_eq_true_eq] at h;obtain⟨⟨rfl,hm⟩,hn⟩:=h;obtain⟨i,ei,en⟩:=MY hn;obtain⟨A,k1,k2,k3,k4,k5,k6⟩:=T.cl q hq;refine jc (λ_ _ yn _=>?_) (T.fn k i ei);refine kG ?_;refine⟨A,lv n,a k,fd k,i.1.ps,k2,k1,k6 _ hm,?_,hr,yn⟩;have:=D k i ei;rw[Th,<-en];exact this
theorem Pr(T:Aa K mg S tabs a fd cP)(D:mw P w K mg S tabs a fd n base)(L:Ab P w K mg S tabs n base):Ab P w K mg S tabs (n+1) base:=by
 intro k b c b9 hc;refine cps λgG kG=>?_;obtain⟨ci,o,sc,cl,JT,ho,hf,zD⟩:=hc;obtain⟨eF,eq⟩:=TX.Pp JT;refine kG ?_;have good:∀(cl:List (Str×Addr)) (A:aaZ) (outer:List Env) (s:ZR) (H:Hp) (E:XK),ma ci.N ci.ps ci.fr sc->dy (lv n+1) (A.deeper (Ba ci.qual sc s.heap.objs.size b (.ref c) cl))->
   gI (MQ w6 P w K mg base ci.N ci.qual sc b (.ref c) cl A outer s H E).GP (Vg S base tabs) (gC S ci sc) (callC S.Fs n):=λcl A outer s H E SC hr=>
  {N:=rfl,loc:=λx h=>h,JP:=λx h=>h,gl:=λx h=>h,calm:=rfl,hu:=by have:=hr.un;show(A.deeper _).units+100 < cLine;lia,bl:=T.bl,
   fn:=BI T D ⟨rfl,rfl,rfl,rfl,rfl⟩ hr rfl,cs:=T.cs,tb:=T.tb,
   sL:=λ_ k' a' c' Pt h'=>⟨IU h',by obtain⟨f,ps,F,B⟩:=L k' a' c' Pt h';exact⟨lv n,f,ps,F,hr.mono (abn _),B⟩⟩,
   lam:=λ_ _ _ _ _ h=>absurd (show Ξ=Λ from h) (by decide),eR:=λ_ _ _ _ h=>absurd (show Ξ=Λ from h) (by decide),j8:=λ_ _ _ h=>absurd (show Ξ=Λ from h) (by decide),fld:=BJ T rfl,QF:=BK T D ⟨rfl,rfl,rfl,rfl,rfl⟩ hr rfl,QG:=BL T D ⟨rfl,rfl,rfl,rfl,rfl⟩ hr rfl,nh:=λ_ _ _ _ _ _ _ h=>absurd (show Ξ=Λ from h) (by decide),
   cell:=λx h=>absurd rfl (SC.gO _ (aaq h)),nd:=SC.nd,Vf:=λx h=>absurd rfl (SC.gO _ (aaq h)),own:=aeo}
 have len:DN ci sc=Λ->∀vs H Q E,SG (oq S K base tabs) (callC S.Fs (n+1) k) c (S.q k) b9 vs H Q E->vs.length=ci.ps.length:=λhb vs H Q E h=>by
  obtain⟨_,m,Z,qs,bz,st,rq,rc,_,h⟩:=h;obtain⟨_,Vh,_,Ei⟩:=pQ hb;obtain⟨_,_,_,_,_,hl⟩:=m7 eF Ei h;rw[ZW,Vh] at hl;have e1:=rq.length;have e2:=rc.length;have e3:=zD.len
  lia
 have core:∀{X:Cx},X.K=K->X.base=base->DN ci sc=Λ->∀{vs:List V} {H:Hp} {Q:VK} {E:XK},SG (oq S K base tabs) (callC S.Fs (n+1) k) c (S.q k) b9 vs H Q E->
   ∃Z0,tS (af X (Vg S base tabs)) Z0 (ai (callC S.Fs n) ci.F.body) {nx:=λ_ H'=>Q .bG H',rt:=Q} (L2.start ci.N (vs++b9)) H:=λ{X} hK hB hb {vs H Q E} h=>by
  refine cps λgG kG=>?_;obtain⟨_,m,Z,qs,bz,st,rq,rc,as,h⟩:=h;obtain⟨_,_,hnn,Ei⟩:=pQ hb;obtain⟨q2,d,ea,er,h2,_⟩:=m7 eF Ei h;refine kG ?_;exact rA (kb:=oq S K base tabs) hnn (rq.append rc) as hK.symm rfl (λ_ _ _ _ z=>z) rfl ea er h2
 rcases hf with ⟨pa,bo,pm,ct,rfl,aN⟩|⟨nm,pa,bo,doc,pm,ct,rfl,aN⟩
 ·unfold rm at aN;simp only[Zr] at aN;obtain⟨⟨⟨_,Yv⟩,hb⟩,QK⟩:=aN;obtain⟨SC,_⟩:=pQ hb;refine⟨_,ci.ps,Oe (k:=lv n+1) ho (λvs H Q E h=>⟨c,rfl,by rw[<-eq];exact h.1⟩) SC zD (len hb) (λA outer s H vs Q E hr h=>?_),Binds.all λus hl=>jK Yv rfl hl⟩;obtain⟨Z0,ht⟩:=core (X:=MQ w6 P w K mg base ci.N ci.qual sc b (.ref c) cl A outer s H E) rfl rfl hb h;cases Yw:Lw ci.F.body with|none=>rw[Yw] at QK;exact ft QK|some e=>rw[Yw] at QK;rw[Lx Yw] at ht;exact⟨_,(aL e _ _ _ bo Z0 (good cl A outer s H E SC hr).toGood QK).1.GP,Lz ht⟩
 ·unfold rn at aN;simp only[Zr] at aN;obtain⟨⟨⟨_,Yv⟩,hb⟩,QK⟩:=aN;obtain⟨SC,_⟩:=pQ hb;refine⟨_,ci.ps,Oc (k:=lv n+1) ho (λvs H Q E h=>⟨c,rfl,by rw[<-eq];exact h.1⟩) SC zD (len hb) (λA outer s H vs Q E hr h=>?_),Binds.all λus hl=>jK Yv rfl hl⟩;obtain⟨Z0,ht⟩:=core (X:=MQ w6 P w K mg base ci.N ci.qual sc b (.ref c) cl A outer s H E) rfl rfl hb h;exact⟨_,(eh ci.F.body _ _ _ bo Z0 (good cl A outer s H E SC hr) QK).GP,ht⟩
end
section
variable{K:KB}{H H':Hp}{m Z:List Addr}{P f c:Addr}{b7:List (Pos×Str)}{q:Str}{φ:Heap->Prop}
theorem yN(md:Made H H' P f c b7 q φ)(hP:∃ps,H P=Δ (.gv ps))(h:H b=Δ u)(hu:∀ps,u≠.gv ps):H' b=Δ u:=by refine md.keep b u h λz=>?_;obtain⟨ps,e⟩:=hP;rw[z,e] at h;obtain rfl:=sj h;exact hu ps rfl
theorem made_le(md:Made H H' P f c b7 q φ)(hP:∃ps,H P=Δ (.gv ps)):Le K m H m H':=by
 have kp:=λ{b:Addr} {u:HO} (h:H b=Δ u) (hu:∀ps,u≠.gv ps)=>yN md hP h hu;have gr:∀b ps,H b=Δ (.gv ps)->∃more,H' b=Δ (.gv (ps++more)):=λb ps h=>by
  by_cases hb:b=P;·subst hb;exact md.grow ps h
  ·exact⟨#[],by rw[md.keep b _ h hb];simp⟩
 refine⟨⟨[],by simp⟩,λb xs h=>kp h (λ_ z=>nomatch z),λb u h _ hu=>kp h hu,λb h=>.inl h,λb h=>?_,λb h=>?_,λb o u h=>kp h (λ_ z=>nomatch z),λb ψ h=>kp h (λ_ z=>nomatch z),gr⟩
 ·cases e:H b with
  |none=>exact absurd e h|some u=>
   by_cases hu:∃ps,u=.gv ps;·obtain⟨ps,rfl⟩:=hu;obtain⟨more,e2⟩:=gr b ps e;rw[e2];exact λz=>nomatch z
   ·rw[kp e λps z=>hu ⟨ps,z⟩];exact λz=>nomatch z
 ·cases e:iw H b with
  |none=>exact absurd e h|some u=>
   obtain⟨e1,e2⟩:=me e;by_cases hu:∃ps,u=.gv ps;·obtain⟨ps,rfl⟩:=hu;obtain⟨more,e3⟩:=gr b ps e1;rw[bx e3 (λ_ z=>nomatch z)];exact λz=>nomatch z
   ·have e3:=kp e1 λps z=>hu ⟨ps,z⟩;by_cases hx:∃ψ,u=.ext ψ;·obtain⟨ψ,rfl⟩:=hx;have:∃q,ψ=dO b q:=Z5 λz=>e2 ψ rfl λq' e'=>z ⟨q',e'⟩;obtain⟨q',rfl⟩:=this;rw[hW e3];exact λz=>nomatch z
    ·rw[bx e3 λψ z=>hx ⟨ψ,z⟩];exact λz=>nomatch z
theorem EJ{st:aM}(as:aC K H m Z st)(md:Made H H' P f c b7 q φ)(hP:∃ps,H P=Δ (.gv ps))(un:∀t∈K.tabs,t.1=P->t.2=b7):aC K H' m Z st:=by
 have le:Le K m H m H':=made_le md hP;refine⟨as.len,as.nd,λn o h=>?_,λb h=>le.Es b (as.zt b h),as.zm,λt ht=>?_⟩
 ·obtain⟨a,e,r⟩:=as.at_ n o h;exact⟨a,e,r.mono (λb u hb hu=>yN md hP hu λps z=>by
   rcases hb with w1|w1;·subst w1;rw[z] at hu;exact r.sY.2.2.2.2.1 ps hu
   ·rw[w1] at hu;obtain rfl:=sj hu;cases z) λp v z=>z.le le⟩
 ·by_cases e:t.1=P;·obtain⟨ps,h1,h2⟩:=md.tab;exact⟨ps,by rw[e];exact h1,by rw[un t ht e];exact h2⟩
  ·obtain⟨ps,h1,h2⟩:=as.tab t ht;exact⟨ps,md.keep _ _ h1 e,gH.same le.ext h2⟩
end
abbrev uB(S:TX)(base:Heap)(tabs:List (Addr×List (Pos×Str)))(cells:List (Str×Addr)):KT where
 tabs:=tabs
 sL:=pR S base
 JQ:=λk a c _ h=>∃ci o sc,S.ci k=Δ ci/\h.get? a=Δ o/\IP S ci o sc (jL cells sc.names []) c/\∀x,(x,ZV)∈sc.names->∃c,cells.lookup x=Δ c
 Bm:=S.q
theorem vU{S:TX}:∀(f c) (ct) (g1 g2),(uB S base tabs cells).JQ k f c ct g1->(∀o,g1.get? f=Δ o->g2.get? f=Δ o)->(uB S base tabs cells).JQ k f c ct g2:=
 λf c ct g1 g2 ⟨ci,o,sc,h1,h2,h3⟩ hk=>⟨ci,o,sc,h1,hk o h2,h3⟩
section
variable{X:Cx}{S:TX}{base:Heap}{tabs:List (Addr×List (Pos×Str))}{C:Nat->List P->aM->R P}{i:Info×List (Nat×Pos)}{c P:Addr}{Z:List Addr}
theorem yO(hc:∀x,(ax i.1.st).names.lookup x=Δ .cell->∃c,X.env.cells.lookup x=Δ c)(h:freeOk (ax i.1.st).names sc=Λ):∀x,(x,ZV)∈sc.names->∃c,X.env.cells.lookup x=Δ c:=λx hx=>by
 unfold freeOk at h;rw[abe] at h;have:=h _ hx;simp only[ab0,decide_eq_true_eq] at this;rcases this with z|z;·exact absurd rfl z
 ·exact hc x z
theorem To(hB:X.base=base)(M:Maker X c P (bQ S i))(hP:(P,bQ S i)∈tabs)(un:∀t∈tabs,t.1=P->t.2=bQ S i)(hq:X.env.qual=i.1.name++".<locals>.")(hc:∀x,(ax i.1.st).names.lookup x=Δ .cell->∃c,X.env.cells.lookup x=Δ c)(h:IQ S i k pa bo sc pos=Λ):PE X (.Lambda pa bo sc pos) (tE (af X (uB S base tabs X.env.cells)) Z (aa C (.lam k))):=by
 unfold IQ at h;split at h
 ·rename_i ci JT;simp only[Zr,decide_eq_true_eq] at h;obtain⟨⟨⟨h1,h2⟩,h3⟩,h4⟩:=h;have eq:S.q k=X.env.qual++"<lambda>":=by rw[(TX.Pp JT).2,h4,hq]
  have hs:(pos,X.env.qual++"<lambda>")∈bQ S i:=by rw[<-eq];exact abk.mpr ⟨(k,pos),h1,rfl⟩
  have um:=h2;unfold rm at um;simp only[Zr] at um;have fr:=yO (X:=X) hc h3;refine PE.imp (Om (φ:=λf c ct=>(uB S base tabs X.env.cells).JQ k f c ct) M hs (mf um.1.1.2 X.env).1 (nH fr) (λf c ct hh e=>⟨ci,_,sc,JT,e,.inl ⟨pa,bo,_,ct,by rw[h4,<-hq],h2⟩,fr⟩) (λf c ct g1 g2=>vU f c ct g1 g2)) ?_;rintro σ H Q ⟨m,r,st,ar,as,h⟩;rw[qO] at h;obtain⟨ps,e1,e2⟩:=as.tab _ hP;refine⟨ps,e1,e2,λf c ct H' md=>?_⟩;refine h m H' (made_le md ⟨ps,e1⟩) (EJ as md ⟨ps,e1⟩ un) (.ref f) ?_;rw[ak];exact⟨f,c,ct,rfl,md.fn,by show H' c=Δ (.ext (dO c (S.q k)));rw[eq];exact md.code⟩
 ·exact ft h
theorem Pu(hB:X.base=base)(M:Maker X c P (bQ S i))(hP:(P,bQ S i)∈tabs)(un:∀t∈tabs,t.1=P->t.2=bQ S i)(hq:X.env.qual=i.1.name++".<locals>.")(hc:∀x,(ax i.1.st).names.lookup x=Δ .cell->∃c,X.env.cells.lookup x=Δ c)(hN:X.N=i.1.N)(nd:i.1.N.Nodup)(Pw:X.env.scope=ax i.1.st)(GN:∀x,X.fn x=Λ)(h:IS S i j k nm pa bo sc pos=Λ):PS X (.FunctionDef nm pa bo [] Θ [] sc Θ nm pos) (tS (af X (uB S base tabs X.env.cells)) Z (aV C (.nh j k))):=by
 unfold IS at h;split at h
 ·rename_i ci JT;simp only[Zr,decide_eq_true_eq,ab0] at h;obtain⟨⟨⟨⟨⟨h1,h2⟩,h3⟩,h4⟩,h5⟩,h6⟩:=h;have HK:Loc X.env.scope nm:=by rw[Pw];exact h6
  have qe:adm X.env nm nm=X.env.qual++nm:=by unfold adm;rw[if_neg];show ¬((X.env.scope.names.lookup nm==Δ ab5.globalExplicit)=Λ);rw[Pw];rcases h6 with z|z<;>rw[z]<;>decide
  have eq:S.q k=adm X.env nm nm:=by rw[(TX.Pp JT).2,h4,qe,hq]
  have hs:(pos,adm X.env nm nm)∈bQ S i:=by rw[<-eq];exact abk.mpr ⟨(k,pos),h1,rfl⟩
  have um:=h2;unfold rn at um;simp only[Zr] at um;have fr:=yO (X:=X) hc h3;have dp:=mf um.1.1.2 X.env;refine PS.imp (Oq (φ:=λf c ct=>(uB S base tabs X.env.cells).JQ k f c ct) M hs dp.2.1 dp.2.2 (FI um.1.1.2 X.env) (nH fr) (by rw[hN];exact nd) (by rw[hN];exact h5) HK (.inl (GN nm))
   (λf c ct doc hh e=>⟨ci,_,sc,JT,e,.inr ⟨nm,pa,bo,doc,_,ct,by rw[h4,<-hq,<-qe],h2⟩,fr⟩) (λf c ct g1 g2=>vU f c ct g1 g2)) ?_
  rintro D σ H ⟨m,r,st,ar,as,h⟩;rw[vt] at h;obtain⟨ps,e1,e2⟩:=as.tab _ hP;refine⟨ps,e1,e2,λf c ct H' md=>?_⟩;have le:Le (af X (uB S base tabs X.env.cells)) m H m H':=made_le md ⟨ps,e1⟩;refine h m H' le (EJ as md ⟨ps,e1⟩ un) _ ((ar.le le).set ?_);rw[ak];exact⟨f,c,ct,rfl,md.fn,by show H' c=Δ (.ext (dO c (S.q k)));rw[eq];exact md.code⟩
 ·exact ft h
end
theorem JO.keeps(C:JO B cl F b9)(k:∀b o,B.get? b=Δ o->B'.get? b=Δ o):JO B' cl F b9:=
 ⟨C.inj,C.only,λi x v h1 h2=>by refine ah (λc u a b d=>?_) (C.at_ i x v h1 h2);exact⟨c,u,a,b.keeps k,d⟩,C.len⟩
theorem pR.keeps{S:TX}(h:pR S B k a c b9)(kp:∀b o,B.get? b=Δ o->B'.get? b=Δ o):pR S B' k a c b9:=by revert h;refine fB λci o sc cl h1 h2 h3 h4=>?_;exact⟨ci,o,sc,cl,h1,kp _ _ h2,h3,JO.keeps h4 kp⟩
theorem Gh{S:TX}(h:IP S ci o sc cl c):DN ci sc=Λ/\∃fd,o.data=.func fd:=by
 rcases h with ⟨pa,bo,pm,ct,rfl,aN⟩|⟨nm,pa,bo,doc,pm,ct,rfl,aN⟩
 ·unfold rm at aN;simp only[Zr] at aN;exact⟨aN.1.2,_,rfl⟩
 ·unfold rn at aN;simp only[Zr] at aN;exact⟨aN.1.2,_,rfl⟩
theorem EK{α:Type}{x:α}:∀{l:List (Nat×α)},l.lookup k=Δ x->(k,x)∈l
 |[],h=>by exact aQ h|(j,y)::l,h=>by rw[Z6] at h;cases hb:k==j with|true=>rw[hb] at h;obtain rfl:=sj h;rw[eq_of_beq hb];exact Zx|false=>rw[hb] at h;exact Zs _ (EK h)
theorem Px(h:Rd H a (.lst us)):Rd (iw H) a (.lst us):=by
 rcases h with h|⟨o,h⟩;·exact .inl (bx h (λ_ z=>nomatch z))
 ·exact .inr ⟨o,bx h (λ_ z=>nomatch z)⟩
section
variable{X:Cx}{S:TX}{base:Heap}{tabs:List (Addr×List (Pos×Str))}{C:Nat->List P->aM->R P}{i:Info×List (Nat×Pos)}{Z:List Addr}{pins:List (Addr×Obj)}{σ:L2.St}{H:Hp}{s:ZR}{ls:List (Nat×List Nat)}{r:cb}
theorem ak.Tp(hk:K1.K=K2.K)(hq:K1.Bm=K2.Bm)(hc:∀k a c b9,K1.sL k a c b9->K2.sL k a c b9)(hp:cH x=Λ)(h:ak K1 H [] Z x v):ak K2 (L2.iw H) [] Z x v:=by
 have h1:ak K2 H [] Z x v:=ak.kb hk hq hc hp h;have go:∀n:Nat,(∀(x:P) (v:V),sizeOf x<=n->cH x=Λ->ak K2 H [] Z x v->ak K2 (L2.iw H) [] Z x v)/\(∀(xs:List P) (vs:List V),sizeOf xs<=n->cJ xs=Λ->aj K2 H [] Z xs vs->aj K2 (L2.iw H) [] Z xs vs):=λn=>by
  induction n with
  |zero=>
   refine⟨λx v hs=>?_,λxs vs hs=>?_⟩;·cases x<;>simp at hs
   ·cases xs<;>simp at hs
  |succ n ih=>
   refine⟨λx v hs hp h=>?_,λxs vs hs hp h=>?_⟩;·cases x with|d y=>rw[ak] at h ⊢;exact aI.congr (λa us e=>bx e (λ_ z=>nomatch z)) (λa us _ _ e=>Px e) h|obj y=>simp[cH] at hp|jg y=>simp[cH] at hp|lf y=>simp[cH] at hp|fn k bz=>rw[ak] at h ⊢;revert h;refine br λa c b9 e q hx rr=>?_;exact⟨a,c,b9,e,q,hW hx,ih.2 bz b9 (by simp at hs;lia) (by simpa[cH] using hp) rr⟩
   ·cases xs with|nil=>exact h|cons x xs=>rw[aj] at h ⊢;revert h;refine ah λv vP e rr rs=>?_;simp only[cJ,Zr] at hp;simp at hs;exact⟨v,vP,e,ih.1 x v (by lia) hp.1 rr,ih.2 xs vP (by lia) hp.2 rs⟩
 exact(go (sizeOf x)).1 x v (ZC _) hp h1
theorem IV(I:Inv X pins σ H s)(hB:X.base=base)(GN:∀x,X.fn x=Λ)(hN:X.N=i.1.N)(Pw:X.env.scope=ax i.1.st)(Yx:Gg S i ls=Λ)(ar:cI (af X (uB S base tabs X.env.cells)) H [] Z r σ):
  ∀(n) (p q) (v),conv ls r n p=Δ q->ak (af X (uB S base tabs X.env.cells)) H [] Z p v->ak (oq S X.K (tz s.heap H (kI X.stack)) tabs) (L2.iw H) [] Z q v:=by
 have kp:∀b o,base.get? b=Δ o->(tz s.heap H (kI X.stack)).get? b=Δ o:=λb o e=>I.HN (by rw[hB];exact e);have Tq:∀k a c b9,(af X (uB S base tabs X.env.cells)).sL k a c b9->(oq S X.K (tz s.heap H (kI X.stack)) tabs).sL k a c b9:=λk a c b9 h=>pR.keeps h kp;intro n;induction n with
 |zero=>intro p q v h;exact aQ h|succ n ih=>
  intro p q v h hr;cases p with
  |d x=>obtain rfl:=sj h;exact ak.Tp (K1:=af X (uB S base tabs X.env.cells)) (K2:=oq S X.K (tz s.heap H (kI X.stack)) tabs) rfl rfl Tq rfl hr|jg ns=>
   obtain rfl:=sj h;rw[ak] at hr ⊢;obtain⟨a,e,hf⟩:=hr;refine⟨a,e,?_⟩;rcases hf with ⟨o,hf⟩|hf
   ·exact .inl ⟨o,bx hf (λ_ z=>nomatch z)⟩
   ·exact .inr hf
  |obj k=>exact aQ h|fn k bz=>
   have h':(if cJ bz=Λ then Δ (P.fn k bz) else Θ)=Δ q:=h;split at h';·rename_i hp;obtain rfl:=sj h';exact ak.Tp (K1:=af X (uB S base tabs X.env.cells)) (K2:=oq S X.K (tz s.heap H (kI X.stack)) tabs) rfl rfl Tq (by simpa[cH] using hp) hr
   ·exact aQ h'
  |lf k=>
   have h':((ls.lookup k).bind λjs=>(js.mapM λj=>((r[j]?).join).bind (conv ls r n)).map λbz=>P.fn k bz)=Δ q:=h;refine cps λgG kG=>?_;refine dJ (λjs e1 h2=>?_) (dt h');obtain⟨bz,e2,rfl⟩:=iX h2;rw[ak] at hr;revert hr;refine cD λa c ct aH ha X3=>?_;subst aH;obtain⟨hφ,_,_⟩:=I.aN a _ ha;revert hφ;refine br λci o sc JT ho Fx AJ=>?_;obtain⟨hcb,fd0,hfd⟩:=Gh Fx;obtain⟨SC,_⟩:=pQ hcb;have hfx:Dt a ((af X (uB S base tabs X.env.cells)).JQ k a c ct):=λq' e=>by have Tr:=(I.aN a _ ha).1;rw[e] at Tr;revert Tr;refine fB λc2 o2 vs2 t2 e2 JM hd2 _=>?_;cases e2;rw[ho] at JM;obtain rfl:=sj JM;rw[hfd] at hd2;cases hd2
   have anf:∀{b:Addr},H b≠Θ->b∉kI X.stack:=λ{b} hb z=>hb (I.oW b z);have aN:=abe.mp (show(ls.all _)=Λ from Yx) (k,js) (EK e1);simp only[JT,Zr,decide_eq_true_eq,abe] at aN;obtain⟨hjs,Py⟩:=aN;refine kG ?_;have key:∀(js:List Nat) (fr:List Str) (bz:List P),js.map (λj=>i.1.N[j]?)=fr.map Δ->(∀x∈fr,(ax i.1.st).names.lookup x=Δ .cell)->(js.mapM λj=>((r[j]?).join).bind (conv ls r n))=Δ bz->
     ∃b9,aj (oq S X.K (tz s.heap H (kI X.stack)) tabs) (L2.iw H) [] Z bz b9/\b9.length=fr.length/\∀(l:Nat) (x:Str) (v:V),fr[l]?=Δ x->b9[l]?=Δ v->∃c u,X.env.cells.lookup x=Δ c/\(tz s.heap H (kI X.stack)).IsCell c (Δ u)/\RelV v u:=by
    intro js;induction js with
    |nil=>intro fr bz hj _ hm;cases fr with|cons x fr=>simp at hj|nil=>simp at hm;subst hm;exact⟨[],by rw[aj],rfl,λl x v h=>by simp at h⟩
    |cons j js ihj=>
     intro fr bz hj zD hm;cases fr with
     |nil=>simp at hj|cons x fr=>
      rw[ZH,ZH] at hj;injection hj with hj1 hj2;rw[aev] at hm;refine cps λgG kG=>?_;refine dJ (λq1 hq1 Lv=>?_) (dt (show(((r[j]?).join).bind (conv ls r n)).bind _=Δ bz from hm));refine dJ (λqs hqs hm3=>?_) (dt (show(js.mapM λj=>((r[j]?).join).bind (conv ls r n)).bind _=Δ bz from Lv));obtain rfl:=sj (show Δ (q1::qs)=Δ bz from hm3);obtain⟨pj,Ts,hcj⟩:=dt hq1;have e':r[j]?=Δ (Δ pj):=by cases z:r[j]? with|none=>rw[z] at Ts;exact aQ Ts|some o=>rw[z] at Ts;simp at Ts;rw[Ts]
      obtain⟨vj,ej,rj⟩:=ar.at_ j pj e';refine aB (λb9 r1 r2 r3=>?_) (ihj fr qs hj2 (λy hy=>zD y (Zs _ hy)) hqs);have oY:=zD x Zx;have Hn:X.env.kindOf x=Δ .cell:=by show X.env.scope.names.lookup x=_;rw[Pw];exact oY
      refine dJ (λmm hn hl=>?_) (I.loc);obtain⟨u,ru,lk⟩:=hl j x vj (by rw[hN];exact hj1) ej (.inr (.inl (by rw[Pw];exact oY)));refine kG ?_;refine⟨vj::b9,by rw[aj];exact⟨vj,b9,rfl,ih pj q1 vj hcj rj,r1⟩,by simp[r2],λl y v hy hv=>?_⟩;cases l with
      |succ l=>exact r3 l y v (by simpa using hy) (by simpa using hv)|zero=>
       simp at hy hv;subst hy;subst hv;rcases lk with ⟨hk,_⟩|⟨_,c',CF,Pz⟩
       ·rw[Hn] at hk;cases hk
       ·refine⟨c',u,CF,?_,ru⟩;obtain⟨oc,Nn,hdc⟩:=Pz;refine⟨oc,zG Nn (kW (I.lH x c' CF)) λz=>?_,hdc⟩;rcases abM.mp (I.qy c' z) with w1|w1;·exact I.Mt x c' CF w1
        ·refine uI (λ_ o3 ho3 _=>?_) (I.ok.nR.mem w1);exact abg _ (ZZ (ZN ho3) (I.ok.Nm x c' (GN x) CF))
   refine aB (λb9 k1 k2 k3=>?_) (key js ci.fr bz hjs Py e2);rw[ak];refine⟨a,c,b9,rfl,⟨ci,o,sc,_,JT,zG ho (zE ha hfx) (anf (by rw[ha];exact λz=>nomatch z)),Fx,?_⟩,hW X3,k1⟩;have look:∀x,(x,ZV)∈sc.names->(jL X.env.cells sc.names []).lookup x=X.env.cells.lookup x:=λx hx=>(kX (x:=x) (acc:=[]) AJ).1 hx;have PB:∀x,(x,ZV)∉sc.names->(jL X.env.cells sc.names []).lookup x=Θ:=λx hx=>(kX (x:=x) (acc:=[]) AJ).2 hx;have Yy:∀x c,(jL X.env.cells sc.names []).lookup x=Δ c->(x,ZV)∈sc.names:=λx c h=>Z5 λz=>by rw[PB x z] at h;exact aQ h
   refine⟨λx y c' h1 h2=>?_,λx c' h=>SC.Sk _ (Yy x c' h) rfl,λl x v h1 h2=>?_,k2⟩;·rw[look x (Yy x c' h1)] at h1;rw[look y (Yy y c' h2)] at h2;exact I.ok.inj x y c' h1 h2
   ·refine ah (λc' u g1 g2 g3=>?_) (k3 l x v h1 h2);exact⟨c',u,by rw[look x (aaq (SC.fre x (ZG h1)))];exact g1,g2,g3⟩
end
theorem Gi(h:H b=H' b):iw H b=iw H' b:=by unfold iw;rw[h]
section
variable{K1 K2:KB}{H1 H2:Hp}{m Z:List Addr}
theorem m8(hn:∀b φ,H1 b=Δ (.ext φ)->Dt b φ->H2 b=Θ)(h:H2 b=Δ u):Bb H1 H2 b=Δ u:=by rw[u0 λφ z hf=>by rw[hn b φ z hf] at h;exact aQ h];exact h
theorem IW(hn:∀b φ,H1 b=Δ (.ext φ)->Dt b φ->H2 b=Θ)(h:iw H2 b≠Θ):iw (Bb H1 H2) b≠Θ:=by have e:Bb H1 H2 b=H2 b:=u0 λφ z hf=>h (kW (hn b φ z hf));rw[Gi e];exact h
theorem Tu(hn:∀b φ,H1 b=Δ (.ext φ)->Dt b φ->H2 b=Θ)(le:Le K1 [] (iw H1) [] H2):Le K2 [] H1 [] (Bb H1 H2):=by
 have mono:=λ{b:Addr} {u:HO} (h:H2 b=Δ u)=>m8 hn h;have ext:∀b φ,H1 b=Δ (.ext φ)->Bb H1 H2 b=Δ (.ext φ):=λb φ e=>by
  by_cases hf:Dt b φ;·exact Em e hf
  ·have:∃q,φ=dO b q:=Z5 λz=>hf λq' e'=>z ⟨q',e'⟩;obtain⟨q,rfl⟩:=this;exact mono (le.ext _ _ (hW e))
 have keep:∀b u,H1 b=Δ u->(∀ps,u≠.gv ps)->Bb H1 H2 b=Δ u:=λb u e hu=>by
  by_cases hx:∃φ,u=.ext φ;·obtain⟨φ,rfl⟩:=hx;exact ext b φ e
  ·exact mono (le.keep _ _ (bx e λφ z=>hx ⟨φ,z⟩) (by simp) hu)
 have gv:∀b ps,H1 b=Δ (.gv ps)->∃more,Bb H1 H2 b=Δ (.gv (ps++more)):=λb ps e=>by obtain⟨more,e2⟩:=le.gv b ps (bx e (λ_ z=>nomatch z));exact⟨more,mono e2⟩
 refine⟨⟨[],rfl⟩,λb xs e=>keep b _ e (λ_ z=>nomatch z),λb u e _ hu=>keep b u e hu,(λb h=>nomatch h),λb h=>?_,λb h=>?_,λb o u e=>keep b _ e (λ_ z=>nomatch z),ext,gv⟩
 ·cases e:H1 b with
  |none=>exact absurd e h|some u=>
   by_cases hu:∃ps,u=.gv ps;·obtain⟨ps,rfl⟩:=hu;obtain⟨more,e2⟩:=gv b ps e;rw[e2];exact λz=>nomatch z
   ·rw[keep b u e λps z=>hu ⟨ps,z⟩];exact λz=>nomatch z
 ·refine IW hn (le.Es b ?_);cases e:iw H1 b with
  |none=>exact absurd e h|some o=>
   obtain⟨_,e2⟩:=me e;by_cases hx:∃φ,o=.ext φ;·obtain⟨φ,rfl⟩:=hx;have:∃q,φ=dO b q:=Z5 λz=>e2 φ rfl λq' e'=>z ⟨q',e'⟩;obtain⟨q,rfl⟩:=this;rw[hW e];exact λz=>nomatch z
   ·rw[bx e λφ z=>hx ⟨φ,z⟩];exact λz=>nomatch z
theorem Tv(ht:K1.tabs=K2.tabs)(hn:∀b φ,H1 b=Δ (.ext φ)->Dt b φ->H2 b=Θ)(as:aC K1 H2 [] Z []):aC K2 (Bb H1 H2) [] Z []:=
 m6 (λb h=>IW hn (as.zt b h)) λt h=>by obtain⟨ps,e1,e2⟩:=as.tab t (by rw[ht];exact h);exact⟨ps,m8 hn e1,gH.same (λb φ e=>m8 hn e) e2⟩
theorem PC(hn:∀b φ,H1 b=Δ (.ext φ)->Dt b φ->H2 b=Θ)(h:aI K1 H2 [] Z x v):aI K2 (Bb H1 H2) [] Z x v:=
 aI.congr (λb us e=>m8 hn e) (λb us _ _ e=>by
  rcases e with e|⟨o,e⟩;·exact .inl (m8 hn e)
  ·exact .inr ⟨o,m8 hn e⟩) (aI.kb h)
end
theorem IX{st:aM}(h:Ok kb Z (jM c o st) m H Q):∃qs x,o=Δ qs/\st=[]/\c qs []=.ok (.d x) []/\Ok kb Z (R.ok (P.d x) []) m H Q:=by
 unfold jM at h;split at h
 ·rename_i qs;cases hx:c qs [] with
  |ex x s=>rw[hx] at h;exact(show False from h).elim|no=>rw[hx] at h;exact(show False from h).elim|ok p st2=>
   rw[hx,ae] at h;split at h;·rename_i x;exact⟨qs,x,rfl,rfl,hx,h⟩
   ·exact(show False from h).elim
 ·exact(show False from h).elim
section
variable{X:Cx}{S:TX}{base:Heap}{tabs:List (Addr×List (Pos×Str))}{i:Info×List (Nat×Pos)}{Z:List Addr}{pins:List (Addr×Obj)}{σ:L2.St}{H:Hp}{s:ZR}{ls:List (Nat×List Nat)}{r:cb}
theorem yP(cr:∀(p q:P) (v:V),conv ls r 3 p=Δ q->ak (af X (uB S base tabs X.env.cells)) H [] Z p v->ak (oq S X.K (tz s.heap H (kI X.stack)) tabs) (L2.iw H) [] Z q v):
  ∀{ps qs} {vs},ps.mapM (conv ls r 3)=Δ qs->aj (af X (uB S base tabs X.env.cells)) H [] Z ps vs->aj (oq S X.K (tz s.heap H (kI X.stack)) tabs) (L2.iw H) [] Z qs vs
 |[],qs,vs,h,rr=>by simp at h;subst h;rw[aj] at rr ⊢;exact rr|p::ps,qs,vs,h,rr=>by rw[aev] at h;refine dJ (λq1 e1 h2=>?_) (dt (show(conv ls r 3 p).bind _=Δ qs from h));obtain⟨q2,e2,h3⟩:=dt (show(ps.mapM (conv ls r 3)).bind _=Δ qs from h2);obtain rfl:=sj (show Δ (q1::q2)=Δ qs from h3);rw[aj] at rr ⊢;revert rr;refine ah λv vP e r1 r2=>?_;exact⟨v,vP,e,cr p q1 v e1 r1,yP cr e2 r2⟩
variable{K:ZE}{mg:Str->Option Value}{a:Nat->Addr}{fd:Nat->abt}{cP:Nat->Addr×Addr}
theorem LA(T:Aa X.K X.mg S tabs a fd cP)(hB:X.base=base)(GN:∀x,X.fn x=Λ)(hN:X.N=i.1.N)(Pw:X.env.scope=ax i.1.st)(hr:dy (lv n) X.A)(D:∀Bc,k9 X.mg S cP Bc->mw X.prog X.w X.K X.mg S tabs a fd n Bc)(bo:k9 X.mg S cP X.base)(hf:S.fns[f]?=Δ (x,nn))(Yx:Gg S i ls=Λ)(hl:cy.length=nn)(hg:Gl X x)(hp:aX x=Λ)(hs:∀y∈e::es,notStar y=Λ)(ha:PA X (e::es) (tA (af X (uB S base tabs X.env.cells)) Z (aE (callC S.Fs n) cy))):
  PE X (.Call (.Name x p) (e::es) [] pos) (tE (af X (uB S base tabs X.env.cells)) Z (aa (callC S.Fs n) (.eR f cy ls))):=by
 refine uI (λhk i2 ej e2=>?_) (TX.IM hf);cases e2;refine jc (λqv hm hb _=>?_) (T.fn f i2 ej);obtain⟨x2,F2⟩:=qv;have hm:=hm hk;intro pins s σ H Q I h;obtain⟨m,r,st,ar,as,h⟩:=h;rw[fG] at h;refine aaR (oZ I hg hm ?_ (pn hp).1);refine acV (h₀:=X.base) I.ok.mod.Nl F2.kp (b8 (ha pos pins s σ H (λvs H1=>∃m1 st1 ps,cI (af X (uB S base tabs X.env.cells)) H1 m1 Z r σ/\aC (af X (uB S base tabs X.env.cells)) H1 m1 Z st1/\aj (af X (uB S base tabs X.env.cells)) H1 m1 Z ps vs/\ps.length=cy.length/\
   Ok (af X (uB S base tabs X.env.cells)) Z (jM (callC S.Fs n f) (ps.mapM (conv ls r 3)) st1) m1 H1 (λp _ m' H'=>∀v,ak (af X (uB S base tabs X.env.cells)) H' m' Z p v->Q v H')) I
  ⟨m,r,st,ar,as,(Ok.bind h).yD λps st1 m1 H1 hq bY bp h1 vs jP=>⟨m1,st1,ps,ar.le bY,bp,jP,gQ hq,h1⟩⟩) λus s1 ⟨vs,H1,I1,rr,m1,st1,ps,ar1,bp,jP,Ax,h1⟩=>⟨I1.oV,?_⟩) (bP (hs e Zx)) (g8 λz hz=>hs z (Zs _ hz))
 refine bZ (λqs d eq aH hx h2=>?_) (IX h1);subst aH;have em:m1=[]:=List.eq_nil_of_length_eq_zero (by rw[bp.len];rfl);subst em;have cr:=λp q v=>IV I1 hB GN hN Pw Yx ar1 3 p q v;have rq:=yP cr eq jP;have kp:∀b o,X.base.get? b=Δ o->(tz s1.heap H1 (kI X.stack)).get? b=Δ o:=λb o e=>I1.HN e;have PD:k9 X.mg S cP (tz s1.heap H1 (kI X.stack)):=⟨λk j hj hm=>(bo.code k j hj hm).keeps kp,by refine bZ (λbm ob b1 b2 b3 r=>?_) (bo.bm);exact⟨bm,ob,b1,b2,kp _ _ b3,r⟩⟩;have Fk:=D _ PD f i2 ej;have vl:vs.length=i2.1.F.np:=by rw[jP.length,Ax,hl]
 have usl:us.length=i2.1.ps.length:=by have ok:=(T.fn f i2 ej).2.2.2.2;unfold gD at ok;simp only[Zr,decide_eq_true_eq] at ok;rw[<-rr.length,vl,ok.1.1.2]
 have fA:aC (oq S X.K (tz s1.heap H1 (kI X.stack)) tabs) (L2.iw H1) [] Z []:=m6 (λb hb=>by
   have:=bp.zt b hb;cases e:L2.iw H1 b with
   |none=>exact absurd e this|some o=>
    obtain⟨_,e2⟩:=me e;by_cases hx:∃φ,o=.ext φ;·obtain⟨φ,rfl⟩:=hx;have:∃q,φ=dO b q:=Z5 λz=>e2 φ rfl λq' e'=>z ⟨q',e'⟩;obtain⟨q,rfl⟩:=this;rw[hW e];exact λz=>nomatch z
    ·rw[bx e λφ z=>hx ⟨φ,z⟩];exact λz=>nomatch z) λt ht=>by
  obtain⟨ps,e1,e2⟩:=bp.tab t ht;exact⟨ps,bx e1 (λ_ z=>nomatch z),e2.1,λp hp cv CH=>by obtain⟨c,g1,g2⟩:=e2.2 p hp cv CH;exact⟨c,g1,hW g2⟩⟩
 have HQ:aei s1 (fd f) ⟨us,[]⟩ (i2.1.ps.zip us):=by have:=hb s1 us I1.oV (by rw[aau];exact usl);rw[aau] at this;exact this
 refine aa9 (KG (Q:=λv H2=>∃m',Le (oq S X.K (tz s1.heap H1 (kI X.stack)) tabs) [] (L2.iw H1) m' H2/\aC (oq S X.K (tz s1.heap H1 (kI X.stack)) tabs) H2 m' Z []/\aI (oq S X.K (tz s1.heap H1 (kI X.stack)) tabs) H2 m' Z d v) I1 Fk hr HQ rr
  ⟨[],Z,qs,[],vl,rq,fA,by rw[hx];exact λm' H' le cy v rv=>⟨m',le,cy,by rw[ak] at rv;exact rv⟩⟩) (λu s2 ⟨v,H3,I3,rv,H2,eH,hn,m',le,cy,rd⟩=>⟨v,H3,I3,rv,?_⟩) λ_ _ z=>z
 subst eH;have em2:m'=[]:=List.eq_nil_of_length_eq_zero (by rw[cy.len];rfl);subst em2;exact h2 [] _ (Tu hn le) (Tv (K1:=oq S X.K (tz s1.heap H1 (kI X.stack)) tabs) rfl hn cy) v (by rw[ak];exact PC hn rd)
end
def yQ{α:Type}(P:Nat->α->Prop):Nat->List α->Prop
 |_,[]=>True|j,x::xs=>P j x/\yQ P (j+1) xs
theorem PF{α:Type}{P:Nat->α->Prop}:yQ P j []:=trivial
theorem aZ{α:Type}{P:Nat->α->Prop}{x:α}{xs:List α}(h:P j x)(t:yQ P (j+1) xs):yQ P j (x::xs):=⟨h,t⟩
theorem MZ{α:Type}{P:Nat->α->Prop}:∀{l} {j},yQ P j l->∀k i,l[k]?=Δ i->P (j+k) i
 |[],j,_,k,i,e=>by simp at e|x::xs,j,h,0,i,e=>by simp at e;subst e;exact h.1
 |x::xs,j,h,k+1,i,e=>by have:=MZ h.2 k i (by simpa using e);rwa [Nat.add_assoc,aeP 1 k] at this
theorem DO{α:Type}{P:Nat->α->Prop}{l:List α}(h:yQ P 0 l)k(i:α)(e:l[k]?=Δ i):P k i:=by have:=MZ h k i e;rwa [aao] at this
theorem Tw{α:Type}{P:α->Prop}:∀y∈([]:List α),P y:=λ_ h=>nomatch h
theorem memC{α:Type}{P:α->Prop}{x:α}{xs:List α}(h:P x)(t:∀y∈xs,P y):∀y∈x::xs,P y:=List.forall_mem_cons.mpr ⟨h,t⟩
theorem lkN{β:Type}{P:Str->β->Prop}:∀m k,([]:List (Str×β)).lookup m=Δ k->P m k:=λ_ _ h=>nomatch h
theorem Tx{β:Type}{P:Str->β->Prop}{b:β}{xs:List (Str×β)}(h:P x b)(t:∀m k,xs.lookup m=Δ k->P m k):∀m k,((x,b)::xs).lookup m=Δ k->P m k:=λm k e=>by
 rw[Z6] at e;split at e;·rename_i hq;obtain rfl:=sj e;rw[eq_of_beq hq];exact h
 ·exact t m k e
theorem pU{β:Type}{l:List (Addr×β)}(nd:ns.Nodup)(hn:l.map (·.1)=ns){b:β}(h:(a,b)∈l):∀t∈l,t.1=a->t.2=b:=by
 subst hn;induction l with
 |nil=>cases h|cons x l ih=>
  rw[ZH,aaW] at nd;intro t ht e;rcases abM.mp h with z|z
  ·rcases abM.mp ht with z2|z2;·rw[z2,<-z]
   ·exact absurd (abk.mpr ⟨t,z2,by rw[e,<-z]⟩) nd.1
  ·rcases abM.mp ht with z2|z2;·exact absurd (abk.mpr ⟨_,z,by rw[<-z2,e]⟩) nd.1
   ·exact ih z nd.2 t z2 e
theorem DP{α:Type}{P:List α->Prop}(h:∀a,P [a]):∀us,us.length=1->P us
 |[a],_=>h a
theorem rB{α:Type}{P:List α->Prop}(h:∀a b,P [a,b]):∀us,us.length=2->P us
 |[a,b],_=>h a b
theorem IY{α:Type}{P:List α->Prop}(h:∀a b c,P [a,b,c]):∀us,us.length=3->P us
 |[a,b,c],_=>h a b c
section
variable{P:aav}{w:World}{K:ZE}{mg:Str->Option Value}{S:TX}{tabs:List (Addr×List (Pos×Str))}{a:Nat->Addr}{fd:Nat->abt}{cP:Nat->Addr×Addr}
theorem LB{st:Stmt}{fd:abt}(F:oR K x qual st f fd)(S:bb N ps (ax st))(len:∀vs H Q E,sp vs H Q E->vs.length=ps.length)(uQ:∀(A:aaZ) (outer:List Env) (s:ZR) (H:Hp) (vs:List V) (Q:VK) (E:XK),dy k (A.deeper (aef qual (ax st) s.heap.objs.size f fd.code))->sp vs H Q E->
   ∃t,nS (zo w6 P w K mg base N qual (ax st) f fd.code A outer s H E).GP (mS st) t/\t {nx:=λ_ H'=>Q .bG H',rt:=Q} (L2.start N vs) H):iy P w K mg base w6 (k+1) f fd ps sp:=by
 refine cps λgG kG=>?_;obtain⟨oc,od,kV,doc,pm,an,lS,ct,Kd,rfl,lk,oQ⟩:=F.ex;refine kG ?_;refine Rw lk oQ S len λA outer s H vs Q E hr zp=>?_;refine dJ (λt h q=>?_) (uQ A outer s H vs Q E hr zp);exact⟨t,h.GP,q⟩
theorem PH(T:Aa K mg S tabs a fd cP)(D:∀base,k9 mg S cP base->mw P w K mg S tabs a fd n base)(L:∀base,k9 mg S cP base->Ab P w K mg S tabs n base)(bo:k9 mg S cP base):mw P w K mg S tabs a fd (n+1) base:=by
 intro k i hi;refine kJ (λqv hm hb sc ok=>?_) (T.fn k i hi);obtain⟨x1,F⟩:=qv;unfold gD at ok;simp only[Zr,decide_eq_true_eq,ab0,aab] at ok;obtain⟨⟨⟨Tz,ok2⟩,Tf⟩,ok4⟩:=ok;have ek:=TX.Yt hi;refine LB (k:=lv n+1) F sc (λvs H Q E h=>?_) (λA outer s H vs Q E hr h=>?_);·revert h;refine ug λm Z qs st hl _=>?_;rw[hl,ok2]
 revert h;refine fB λm Z qs st hl rq as aN=>?_;have hu:(A.deeper (aef i.1.name (ax i.1.st) s.heap.objs.size (a k) (fd k).code)).units+100 < cLine:=by have:=hr.un;lia
 by_cases TB:i.2=[]
 ·have eg:IT S i={N:=i.1.N,names:=(ax i.1.st).names,fns:=S.fns,jn:=S.cs,tabs:=S.ts,AA:=S.AA,CL:=S.CL,CM:=S.CM}:=by unfold IT;rw[TB]
  rw[eg] at Tz;have G:gI (zo w6 P w K mg base i.1.N i.1.name (ax i.1.st) (a k) (fd k).code A outer s H E).GP (Vg S base tabs) {N:=i.1.N,names:=(ax i.1.st).names,fns:=S.fns,jn:=S.cs,tabs:=S.ts,AA:=S.AA,CL:=S.CL,CM:=S.CM} (callC S.Fs n):=
   {N:=rfl,loc:=λx h=>h,JP:=λx h=>h,gl:=λx h=>h,calm:=rfl,hu:=hu,bl:=T.bl,
    fn:=BI T (D base bo) ⟨rfl,rfl,rfl,rfl,rfl⟩ hr rfl,cs:=T.cs,tb:=T.tb,
    sL:=λ_ k' a' c' Pt h'=>⟨IU h',by obtain⟨f,ps,F,B⟩:=L base bo k' a' c' Pt h';exact⟨lv n,f,ps,F,hr.mono (abn _),B⟩⟩,
    lam:=λ_ _ _ _ _ h=>absurd (show Ξ=Λ from h) (by decide),eR:=λ_ _ _ _ h=>absurd (show Ξ=Λ from h) (by decide),j8:=λ_ _ _ h=>absurd (show Ξ=Λ from h) (by decide),fld:=BJ T rfl,QF:=BK T (D base bo) ⟨rfl,rfl,rfl,rfl,rfl⟩ hr rfl,QG:=BL T (D base bo) ⟨rfl,rfl,rfl,rfl,rfl⟩ hr rfl,nh:=λ_ _ _ _ _ _ _ h=>absurd (show Ξ=Λ from h) (by decide),
    cell:=λx h=>h,nd:=sc.nd,Vf:=λx _=>rfl,own:=aeo}
  by_cases Ei:i.1.F.sh=Λ
  ·rw[jm,ek] at aN;simp only[Ei,if_true] at aN;by_cases Vh:qs.length=i.1.F.np;·rw[if_pos Vh] at aN;refine⟨_,eh i.1.F.body _ _ _ _ Z G Tz,m,aA i.1.F.nn qs,st,by rw[Tf];exact yL rq,as,?_⟩;show Ok (oq S K base tabs) Z (ai (callC S.Fs n) i.1.F.body (aA i.1.F.nn qs) st) m H _;cases hx:ai (callC S.Fs n) i.1.F.body (aA i.1.F.nn qs) st with|ex x s=>rw[hx] at aN;exact(show False from aN).elim|no=>rw[hx] at aN;exact(show False from aN).elim|ok f aO=>rw[hx] at aN;cases f with|bk r=>exact(show False from aN).elim|ct r=>exact(show False from aN).elim|nx r=>exact λm' H' le cy σ _=>(show Ok (oq S K base tabs) Z (R.ok (Y.P.d .bG) aO) m H _ from aN) m' H' le cy .bG rfl|rt p=>exact λm' H' le cy v rv=>(show Ok (oq S K base tabs) Z (R.ok p aO) m H _ from aN) m' H' le cy v rv
   ·rw[if_neg Vh] at aN;exact(show False from aN).elim
  ·have xX:i.1.F.sh=Ξ:=by cases q:i.1.F.sh with|false=>rfl|true=>exact absurd q Ei
   refine bZ (λq2 d ea er h2 _=>?_) (m7 ek xX aN);obtain⟨Z0,ht⟩:=rA (X:=(zo w6 P w K mg base i.1.N i.1.name (ax i.1.st) (a k) (fd k).code A outer s H E).GP) (kt:=Vg S base tabs) (kb:=oq S K base tabs) Tf rq as rfl rfl (λ_ _ _ _ z=>z) rfl ea er h2;exact⟨_,eh i.1.F.body _ _ _ _ Z0 G Tz,ht⟩
 ·refine jc (λmk1 mk2 mk3 mk4=>?_) (T.mkr k i hi TB);have xX:i.1.F.sh=Ξ:=ok4.resolve_left λz=>TB (ZO.mp z);refine bZ (λq2 d ea er h2 _=>?_) (m7 ek xX aN)
  let X:=(zo w6 P w K mg base i.1.N i.1.name (ax i.1.st) (a k) (fd k).code A outer s H E).GP
  have M:Maker X (cP k).1 (cP k).2 (bQ S i):=⟨mk1,bo.code k i hi TB,bo.bm,mk3⟩;have hc:∀x,(ax i.1.st).names.lookup x=Δ .cell->∃c,X.env.cells.lookup x=Δ c:=λx h=>uP h;have eg:IT S i={N:=i.1.N,names:=(ax i.1.st).names,fns:=[],jn:=S.cs,tabs:=S.ts,SA:=IQ S i,SD:=IS S i,MT:=λf x n ls=>decide (S.fns[f]?=Δ (x,n))&&Gg S i ls,SF:=λ_ _ _=>Ξ,cv:=Ξ}:=by
   unfold IT;split;·exact absurd ‹i.2=[]› TB
   ·rfl
  rw[eg] at Tz;have G:gI X (uB S base tabs X.env.cells) {N:=i.1.N,names:=(ax i.1.st).names,fns:=[],jn:=S.cs,tabs:=S.ts,SA:=IQ S i,SD:=IS S i,MT:=λf x n ls=>decide (S.fns[f]?=Δ (x,n))&&Gg S i ls,SF:=λ_ _ _=>Ξ,cv:=Ξ} (callC S.Fs n):=
   {N:=rfl,loc:=λx h=>h,JP:=λx h=>h,gl:=λx h=>h,calm:=rfl,hu:=hu,bl:=T.bl,
    fn:=λj x nn h=>by simp at h,cs:=T.cs,tb:=T.tb,
    sL:=λh=>absurd (show Ξ=Λ from h) (by decide),
    lam:=λk' pa PD sc' pos h Z=>To rfl M mk2 mk4 rfl hc h,
    eR:=λf x nn ls h Z e es cy p pos h1 h2 h3 h4 h5=>by have h':(decide (S.fns[f]?=Δ (x,nn))&&Gg S i ls)=Λ:=h;simp only[Zr,decide_eq_true_eq] at h';have Yz:(ax i.1.st).names.lookup x=Δ ab5.globalImplicit:=of_decide_eq_true (show decide ((ax i.1.st).names.lookup x=Δ ab5.globalImplicit)=Λ from h2);exact LA (X:=X) (cP:=cP) (i:=i) T rfl (λ_=>rfl) rfl rfl (hr.mono (abn _)) D bo h'.1 h'.2 h1 Yz h3 h4 h5
    j8:=λ_ _ _ h=>absurd (show Ξ=Λ from h) (by decide),fld:=λ_ _ h=>absurd (show Ξ=Λ from h) (by decide),QF:=λ_ _ _ _ h=>absurd (show Ξ=Λ from h) (by decide),QG:=λ_ _ _ h=>absurd (show Ξ=Λ from h) (by decide)
    nh:=λj k' nm pa PD sc' pos h Z=>Pu rfl M mk2 mk4 rfl hc rfl sc.nd rfl (λ_=>rfl) h
    cell:=λx h=>h,nd:=sc.nd,Vf:=λx _=>rfl,own:=aeo}
  obtain⟨Z0,ht⟩:=rA (X:=X) (kt:=uB S base tabs X.env.cells) (kb:=oq S K base tabs) Tf rq as rfl rfl (λ_ _ _ _ z=>z) rfl ea er h2;exact⟨_,eh i.1.F.body _ _ _ _ Z0 G Tz,ht⟩
theorem EL(T:Aa K mg S tabs a fd cP):∀n,(∀base,k9 mg S cP base->mw P w K mg S tabs a fd n base)/\(∀base,k9 mg S cP base->Ab P w K mg S tabs n base)
 |0=>by
  refine⟨λbase bo k i hi=>?_,λbase bo k b c b9 hc=>?_⟩
  ·have no:∀vs H Q E,¬DG (oq S K base tabs) (callC S.Fs 0 k) i.1.F.np vs H Q E:=λvs H Q E gy=>by obtain⟨m,Z,qs,st,_,_,_,h⟩:=gy;rw[vC] at h;exact h
   exact⟨λvs H Q E h=>absurd h (no vs H Q E),λA outer s H args us vs Q E _ _ _ _ h=>absurd h (no vs H Q E)⟩
  ·have no:∀vs H Q E,¬SG (oq S K base tabs) (callC S.Fs 0 k) c (S.q k) b9 vs H Q E:=λvs H Q E tm=>by obtain⟨_,m,Z,qs,bz,st,_,_,_,h⟩:=tm;rw[vC] at h;exact h
   obtain⟨YA,YB,h1,h2⟩:∃(YA:abt) (YB:List Str),Binds K YA YB []/\True:=by
    revert hc;refine fB λci o sc cl _ _ hf _=>?_;rcases hf with ⟨pa,PD,pm,ct,rfl,aN⟩|⟨nm,pa,PD,doc,pm,ct,rfl,aN⟩
    ·unfold rm at aN;simp only[Zr] at aN;exact⟨aer "<lambda>" ci.qual pa PD sc cl pm (.ref c) ct,ci.ps,Binds.all λus hl=>jK aN.1.1.2 rfl hl,trivial⟩
    ·unfold rn at aN;simp only[Zr] at aN;exact⟨ae2 nm ci.qual pa PD sc cl .none .none doc pm Θ (.ref c) ct,ci.ps,Binds.all λus hl=>jK aN.1.1.2 rfl hl,trivial⟩
   exact⟨YA,YB,⟨λvs H Q E h=>absurd h (no vs H Q E),λA outer s H args us vs Q E _ _ _ _ h=>absurd h (no vs H Q E)⟩,h1⟩
 |n+1=>by obtain⟨i1,i2⟩:=EL T n;exact⟨λbase bo=>PH T i1 i2 bo,λbase bo=>Pr T (i1 base bo) (i2 base bo)⟩
theorem LC(ht:∀t∈tabs,t.1∈TC.map (·.2))(hc:c [.jg ns] []=.ok (.d (.bl Λ)) [])(ho:En TC H)(hs:nz K H b (ns.map V.int)){E:XK}:
  DG (oq S K base tabs) c 1 [.ref b] H (λv _=>v=.bl Λ) E:=by
 refine⟨[],[],[.jg ns],[],rfl,⟨_,_,rfl,⟨b,rfl,?_⟩,rfl⟩,m6 (λ_ h=>by cases h) (λt h=>?_),?_⟩
 ·rcases hs with (h|h)|h
  ·rcases ho.1 b with z|⟨o,xs,z⟩|⟨z,_⟩;·rw[h] at z;exact GU z
   ·rw[h] at z;cases z
   ·rw[h] at z;cases z
  ·exact .inl h
  ·exact .inr h
 ·obtain⟨q,hq,e⟩:=abk.mp (ht t h);exact⟨#[],by rw[<-e];exact ho.2 q hq,trivial,λp hp cv CH=>by exact aQ (show(Θ:Option Value)=Δ cv from CH)⟩
 ·rw[hc];exact λm' H' le as v rv=>rv
end
end Y
namespace Y
open PySem
variable{Fs:List Fn}
@[simp] theorem TF st x:bJ st (.d x)=Θ:=rfl
@[simp] theorem PJ st x:bJ st (.jg x)=Θ:=rfl
theorem BM:bJ st (.obj n)=(st[n]?).bind λo=>if kq o then Δ o else Θ:=rfl
@[simp] theorem Vi xs:kq (.lst xs)=Ξ:=rfl
@[simp] theorem YC kvs:kq (.dK kvs)=Λ:=rfl
theorem lg(h:st[n]?=Δ (.lst xs)):bJ st (.obj n)=Θ:=by rw[BM,h];rfl
theorem m9(h:st[n]?=Δ (.dK kvs)):bJ st (.obj n)=Δ (.dK kvs):=by rw[BM,h];rfl
theorem M0:fz st (.obj n)=de st (.obj n):=rfl
theorem iY(h:st[n]?=Δ (.lst xs)):de st (.obj n)=Δ xs:=by show(match st[n]? with|some (.lst xs)=>Δ xs|_=>Θ)=_;rw[h]
@[simp] theorem fI{α:Type}(f:α->D):∀xs:List α,bC (xs.map λx=>P.d (f x))=Δ (xs.map f)
 |[]=>rfl|x::xs=>by simp[bC,Ic,fI f xs]
@[simp] theorem lh:∀xs,bC (xs.map P.d)=Δ xs
 |[]=>rfl|x::xs=>by simp[bC,Ic,lh xs]
@[simp] theorem Gj{α:Type}(f:α->Bool):∀xs:List α,boolsOf (xs.map λx=>P.d (.bl (f x)))=Δ (xs.map f)
 |[]=>rfl|x::xs=>by simp[boolsOf,Gj f xs]
theorem pV{G:P->cb}{f:D->D}:∀{xs:List D},(∀x∈xs,c (G (.d x)) st=.ok (p x) st)->(∀x∈xs,e (G (.d x)) st=.ok (.d (f x)) st)->
  dq G c e (xs.map .d) st=.ok ((xs.filter p).map λx=>.d (f x)) st
 |[],_,_=>rfl|x::xs,h,k=>by have ih:=pV (G:=G) (c:=c) (e:=e) (st:=st) (f:=f) (p:=p) (xs:=xs) (λy hy=>h y (Zs _ hy)) λy hy=>k y (Zs _ hy);simp only[ZH];rw[jk,h x Zx,ae];cases hp:p x with|true=>rw[if_pos rfl,k x Zx,ae,ih,ae,aae hp,ZH]|false=>rw[if_neg (by simp),ih,aal (by simp[hp])]
theorem ot{α:Type}{G:P->cb}{g:α->P}{f:α->D}:∀{xs:List α},(∀x∈xs,c (G (g x)) st=.ok Λ st)->(∀x∈xs,e (G (g x)) st=.ok (.d (f x)) st)->dq G c e (xs.map g) st=.ok (xs.map λx=>.d (f x)) st
 |[],_,_=>rfl|x::xs,h,k=>by have ih:=ot (G:=G) (c:=c) (e:=e) (st:=st) (g:=g) (f:=f) (xs:=xs) (λy hy=>h y (Zs _ hy)) λy hy=>k y (Zs _ hy);simp only[ZH];rw[jk,h x Zx,ae,if_pos rfl,k x Zx,ae,ih,ae]
theorem dP{α:Type}{xs:List α}{g:α->P}{f:α->D}(hw:cK C w r st=.ok (xs.map g) st1)(hl:xs.length<=au)(he:∀x∈xs,aa C e (Δ (g x)::bO js r) st1=.ok (.d (f x)) st1):be C (.comp w 1 js Θ e) r st=.ok (xs.map λx=>.d (f x)) st1:=by rw[k7,hw,ae,if_pos ⟨rfl,by simpa using hl⟩];exact ot (λx _=>rfl) he
theorem pW{xs:List D}{f:D->D}(hw:cK C w r st=.ok (xs.map .d) st1)(hl:xs.length<=au)(hc:∀x∈xs,aa C c (Δ (.d x)::bO js r) st1=.ok (.d (.bl (p x))) st1)(he:∀x∈xs,aa C e (Δ (.d x)::bO js r) st1=.ok (.d (f x)) st1):be C (.comp w 1 js (Δ c) e) r st=.ok ((xs.filter p).map λx=>.d (f x)) st1:=by rw[k7,hw,ae,if_pos ⟨rfl,by simpa using hl⟩];exact pV (λx hx=>by rw[vi,hc x hx];rfl) he
def DQ:P->Bool
 |.obj _=>Ξ|.lf _=>Ξ|.fn _ bz=>cJ bz|_=>Λ
theorem vV:∀{ps},ps.all DQ=Λ->iI st ps=Δ ps/\ps.any isObj=Ξ
 |[],_=>⟨rfl,rfl⟩|p::ps,h=>by rw[abO,Zr] at h;obtain⟨i1,i2⟩:=vV (st:=st) h.2;cases p with|obj n=>exact ft h.1|lf n=>exact ft h.1|d x=>exact⟨by simp[iI,zJ,kY,i1],by simp[isObj,i2]⟩|jg ns=>exact⟨by simp[iI,zJ,i1],by simp[isObj,i2]⟩|fn k bz=>exact⟨by simp[iI,zJ,i1,show cJ bz=Λ from h.1],by simp[isObj,i2]⟩
theorem call_of(hF:Fs[k]?=Δ F)(hp:ps.all DQ=Λ)(hr:xt (callC Fs n) F ps=Δ d)(Ei:F.sh=Ξ:=by rfl):callC Fs (n+1) k ps st=.ok (.d d) st:=by obtain⟨a1,a2⟩:=vV (st:=st) hp;rw[jm,hF];simp only[Ei,a1,hr,vB,a2,ade,aaj,if_false]
theorem Ac(hF:Fs[k]?=Δ F)(Ei:F.sh=Λ)(hl:ps.length=F.np)(hr:ai (callC Fs n) F.body (aA F.nn ps) st=.ok (.rt p) aO):callC Fs (n+1) k ps st=.ok p aO:=by rw[jm,hF];simp only[Ei,hl,hr,if_true,KO]
theorem cA(hl:ps.length=F.np)(he:ai C F.body (aA F.nn ps) []=.ok (.rt p) st)(hf:kY st p=Δ d):xt C F ps=Δ d:=by unfold xt;rw[if_pos hl,he];exact hf
theorem EM{r:cb}:∀{xs:List D} {u},(∀x∈xs,b (r.set i (Δ (.d x))) st=if f x=Λ then .ok (.nx (r.set i (Δ (.d x)))) st else .ok (.rt v) st)->
  ∃u2,forL (jb (.nm i)) b (xs.map .d) (r.set i u) st=if xs.all f=Λ then .ok (.nx (r.set i u2)) st else .ok (.rt v) st
 |[],u,_=>⟨u,rfl⟩|x::xs,u,h=>by obtain⟨u2,ih⟩:=EM (i:=i) (r:=r) (st:=st) (f:=f) (v:=v) (b:=b) (xs:=xs) (u:=Δ (.d x)) λy hy=>h y (Zs _ hy);refine⟨u2,?_⟩;rw[ZH,qT,jb,ay,ae,aeQ,h x Zx];cases hf:f x with|true=>rw[if_pos rfl,ae,abO,hf,aeI];exact ih|false=>rw[if_neg (by simp),ae,abO,hf,ade,if_neg (by simp)]
class Kf (α β:Type) where
 f:α->aM->R β
def bL{α β:Type}(a:R α)[k:Kf α β]:R β:=a.bind k.f
@[simp] theorem TH{α β:Type}(a:α)st(f:α->aM->R β):bL (.ok a st) (k:=⟨f⟩)=f a st:=rfl
section
variable{C:Nat->List P->aM->R P}{r:cb}{st:aM}
@[simp] theorem ba i:aa C (.var i) r st=R.of (r[i]?).join st:=rfl
@[simp] theorem Vj o a b:aa C (.op o a b) r st=bL (aa C a r st) (k:=⟨λx st1=>bL (aa C b r st1) (k:=⟨λy st2=>R.of (KJ o x y st2) st2⟩)⟩):=rfl
@[simp] theorem TJ a:aa C (.not a) r st=bL (aa C a r st) (k:=⟨λx st1=>bL (R.of (zK st1 x) st1) (k:=⟨λb st2=>.ok (.d (.bl (!b))) st2⟩)⟩):=rfl
@[simp] theorem TK o a b:aa C (.cmp o a b) r st=bL (aa C a r st) (k:=⟨λx st1=>bL (aa C b r st1) (k:=⟨λy st2=>bL (R.of (kr o x y st2) st2) (k:=⟨λb st3=>.ok (.d (.bl b)) st3⟩)⟩)⟩):=rfl
@[simp] theorem PK o o' a b c:aa C (.chain o o' a b c) r st=bL (aa C a r st) (k:=⟨λx st1=>bL (aa C b r st1) (k:=⟨λy st2=>bL (R.of (kr o x y st2) st2) (k:=⟨λk st3=>if k then bL (aa C c r st3) (k:=⟨λz nE=>bL (R.of (kr o' y z nE) nE) (k:=⟨λb CT=>.ok (.d (.bl b)) CT⟩)⟩) else .ok (.d (.bl Ξ)) st3⟩)⟩)⟩):=rfl
@[simp] theorem TL es:aa C (.tup es) r st=bL (aE C es r st) (k:=⟨λps st1=>if ps.length<=au then bL (R.of (bC ps) st1) (k:=⟨λxs st2=>.ok (.d (.tup xs)) st2⟩) else .no⟩):=rfl
theorem cY l:aa C (.lst Ξ l) r st=(be C l r st).bind λps st1=>(R.of (bC ps) st1).bind λxs st2=>.ok (.d (.pl xs)) st2:=rfl
@[simp] theorem QL l:aa C (.lst Ξ l) r st=bL (be C l r st) (k:=⟨λps st1=>bL (R.of (bC ps) st1) (k:=⟨λxs st2=>.ok (.d (.pl xs)) st2⟩)⟩):=cY l
theorem jQ l:aa C (.lst Λ l) r st=(be C l r st).bind λps st1=>.ok (.obj st1.length) (st1++[.lst ps]):=rfl
@[simp] theorem QM l:aa C (.lst Λ l) r st=bL (be C l r st) (k:=⟨λps st1=>.ok (.obj st1.length) (st1++[.lst ps])⟩):=jQ l
@[simp] theorem QN f es:aa C (.call f es) r st=bL (aE C es r st) (k:=⟨λps st1=>C f ps st1⟩):=rfl
@[simp] theorem TM a T:aa C (.Ib a T) r st=bL (aa C a r st) (k:=⟨λx st1=>bL (R.of (KL x st1) st1) (k:=⟨λt st2=>.ok (.d (.bl (fS t T))) st2⟩)⟩):=rfl
@[simp] theorem Vk f es:aa C (.bf f es) r st=bL (aE C es r st) (k:=⟨λps st1=>R.of (ur f ps st1) st1⟩):=rfl
@[simp] theorem Vl a b:aa C (.ix a b) r st=bL (aa C a r st) (k:=⟨λx st1=>bL (aa C b r st1) (k:=⟨λy st2=>R.of (CJ x y st2) st2⟩)⟩):=rfl
@[simp] theorem QO es:be C (.iQ es) r st=bL (aE C es r st) (k:=⟨λps st1=>bL (R.of (tF ps) st1) (k:=⟨λqs st2=>if qs.length<=au then .ok qs st2 else .no⟩)⟩):=rfl
@[simp] theorem QP a b:be C (.zip a b) r st=bL (aa C a r st) (k:=⟨λx st1=>bL (aa C b r st1) (k:=⟨λy st2=>bL (R.of (FU x y) st2) (k:=⟨λzs st3=>.ok (zs.map .d) st3⟩)⟩)⟩):=rfl
@[simp] theorem M3 e js c ee:be C (.cF e js c ee) r st=bL (aa C e r st) (k:=⟨λx st1=>match x with|.obj n=>cF n (λp=>Δ p::bO js r) (bH C c) (λr' aO=>aa C ee r' aO) au 0 st1|_=>.no⟩):=rfl
@[simp] theorem PL e:yr C (Δ e) r st=bL (aa C e r st) (k:=⟨λx st1=>.ok (Δ x) st1⟩):=rfl
@[simp] theorem PM e es:aE C (e::es) r st=bL (aa C e r st) (k:=⟨λx st1=>bL (aE C es r st1) (k:=⟨λxs st2=>.ok (x::xs) st2⟩)⟩):=rfl
@[simp] theorem QQ e e' es:ic C (e::e'::es) r st=bL (aa C e r st) (k:=⟨λx st1=>match x with|.d (.bl b)=>if b then ic C (e'::es) r st1 else .ok (.d (.bl Ξ)) st1|_=>.no⟩):=rfl
@[simp] theorem QR e e' es:ie C (e::e'::es) r st=bL (aa C e r st) (k:=⟨λx st1=>match x with|.d (.bl b)=>if b then .ok (.d (.bl Λ)) st1 else ie C (e'::es) r st1|_=>.no⟩):=rfl
@[simp] theorem PN es:be C (.fO es) r st=bL (aE C es r st) (k:=⟨λps st1=>if ps.length<=au then .ok ps st1 else .no⟩):=rfl
@[simp] theorem TN e:cK C (.ex e) r st=bL (aa C e r st) (k:=⟨λx st1=>R.of (qN x) st1⟩):=rfl
@[simp] theorem QS es:cK C (.iQ es) r st=bL (aE C es r st) (k:=⟨λps st1=>R.of (tF ps) st1⟩):=rfl
@[simp] theorem PQ e:cK C (.enum e) r st=bL (aa C e r st) (k:=⟨λx st1=>match x with|.d (.tup xs)=>.ok (eZ 0 xs) st1|_=>.no⟩):=rfl
@[simp] theorem IZ o i j:KJ o (.d (.int i)) (.d (.int j)) st=(mQ o i j).map λk=>.d (.int k):=by cases o<;>rfl
@[simp] theorem op_tt xs ys:KJ .add (.d (.tup xs)) (.d (.tup ys)) st=if xs.length+ys.length<=au then Δ (.d (.tup (xs++ys))) else Θ:=rfl
@[simp] theorem op_ss x y:KJ .add (.d (.str x)) (.d (.str y)) st=if x.length+y.length<=au then Δ (.d (.str (x++y))) else Θ:=rfl
@[simp] theorem M4 xs ys:KJ .add (.d (.pl xs)) (.d (.pl ys)) st=if xs.length+ys.length<=au then Δ (.d (.pl (xs++ys))) else Θ:=by
 have e:bC (xs.map P.d++ys.map P.d)=Δ (xs++ys):=by rw[<-aan,lh]
 show(bC (xs.map P.d++ys.map P.d)).bind _=_;rw[e,<-ZW];rfl
@[simp] theorem LD i j:mQ .add i j=Δ (i+j):=rfl
@[simp] theorem EN i j:mQ .sub i j=Δ (i - j):=rfl
theorem fW(h:(-n4 < i/\i < n4)\/(-n4 < j/\j < n4)):mQ .mul i j=Δ (i*j):=by unfold mQ;simp only[if_pos h]
theorem iZ(h:0 < j):mQ .mod i j=Δ (i % j):=by unfold mQ;simp only[if_pos h]
@[simp] theorem PR b:zK st (.d (.bl b))=Δ b:=rfl
@[simp] theorem YD:KL (.d .bG) st=Δ "NoneType":=rfl
@[simp] theorem ty_bl b:KL (.d (.bl b)) st=Δ "bool":=rfl
@[simp] theorem ty_int b:KL (.d (.int b)) st=Δ "int":=rfl
@[simp] theorem ty_str b:KL (.d (.str b)) st=Δ "str":=rfl
@[simp] theorem YE b:KL (.d (.tup b)) st=Δ "tuple":=rfl
@[simp] theorem ty_pl b:KL (.d (.pl b)) st=Δ "list":=rfl
@[simp] theorem PU i j:kr .lt (.d (.int i)) (.d (.int j)) st=Δ (decide (i < j)):=rfl
@[simp] theorem YF i j:kr .le (.d (.int i)) (.d (.int j)) st=Δ (decide (i<=j)):=rfl
@[simp] theorem cmp_gt i j:kr .gt (.d (.int i)) (.d (.int j)) st=Δ (decide (j < i)):=rfl
@[simp] theorem YG i j:kr .ge (.d (.int i)) (.d (.int j)) st=Δ (decide (j<=i)):=rfl
@[simp] theorem PV x y:kr .eq (.d x) (.d y) st=tD x y:=rfl
@[simp] theorem Ja x y:kr .ne (.d x) (.d y) st=(tD x y).map not:=rfl
@[simp] theorem Vm x y:tD (.str x) (.str y)=Δ (x==y):=rfl
@[simp] theorem Ad x y:tD (.int x) (.int y)=Δ (x==y):=rfl
@[simp] theorem YH x y:tD (.bl x) (.bl y)=Δ (x==y):=rfl
@[simp] theorem YI y:tD .bG (.int y)=Δ Ξ:=rfl
@[simp] theorem YJ xs:tD (.tup xs) (.tup [])=Δ xs.isEmpty:=by have h:min (nk (.tup xs)) (nk (.tup []))<=100:=aap (acF _ _) (by decide);unfold tD;rw[if_pos h];cases xs<;>rfl
@[simp] theorem YK xs:tD (.pl xs) (.pl [])=Δ xs.isEmpty:=by have h:min (nk (.pl xs)) (nk (.pl []))<=100:=aap (acF _ _) (by decide);unfold tD;rw[if_pos h];cases xs<;>rfl
@[simp] theorem LF xs:ur .len [.d (.tup xs)] st=Δ (.d (.int xs.length)):=congrArg (λn:Nat=>Δ (P.d (.int n))) (ZA ..)
@[simp] theorem Vn ns:ur .len [.jg ns] st=Δ (.d (.int ns.length)):=congrArg (λn:Nat=>Δ (P.d (.int n))) (ZA ..)
@[simp] theorem Vo xs:ur .tuple [.d (.pl xs)] st=Δ (.d (.tup xs)):=congrArg (λo:Option (List D)=>o.map λys=>P.d (.tup ys)) (lh xs)
theorem Ae:qD (xs.map f) i=(qD xs i).map f:=by unfold qD;rw[ZA];cases C6 xs.length i with|none=>rfl|some k=>exact ZD ..
@[simp] theorem YL xs i:CJ (.d (.tup xs)) (.d (.int i)) st=(qD xs i).map .d:=by exact Ae
@[simp] theorem TQ xs i:CJ (.d (.pl xs)) (.d (.int i)) st=(qD xs i).map .d:=by exact Ae
@[simp] theorem ix_s ns i:CJ (.jg ns) (.d (.int i)) st=(qD ns i).map λk=>.d (.int k):=by exact Ae
@[simp] theorem dit_t xs:qN (.d (.tup xs))=Δ (xs.map .d):=rfl
@[simp] theorem dit_l xs:qN (.d (.pl xs))=Δ (xs.map .d):=rfl
@[simp] theorem sit_t xs:fz st (.d (.tup xs))=Δ (xs.map .d):=rfl
@[simp] theorem sit_l xs:fz st (.d (.pl xs))=Δ (xs.map .d):=rfl
@[simp] theorem QT:Ii Θ=Δ Θ:=rfl
@[simp] theorem TR i:Ii (Δ (.d (.int i)))=Δ (Δ i):=rfl
@[simp] theorem Vp x ps:bC (.d x::ps)=(bC ps).map λxs=>x::xs:=rfl
@[simp] theorem YM:bC []=Δ []:=rfl
theorem eD{α:Type}{xs:List α}{k:Nat}{a:α}(h:xs[k]?=Δ a):qD xs (k:Int)=Δ a:=by have hk:=(List.getElem?_eq_some_iff.mp h).1;unfold qD C6;rw[if_pos (by lia),if_pos (by lia)];simpa using h
@[simp] theorem atI0{α:Type}(a:α)xs:qD (a::xs) 0=Δ a:=eD (k:=0) rfl
@[simp] theorem atI1{α:Type}(a b:α)xs:qD (a::b::xs) 1=Δ b:=eD (k:=1) rfl
theorem ag(h:aV C s r st=.ok (.nx r1) st1)(k:ai C rest r1 st1=res):ai C (s::rest) r st=res:=by rw[jN,h,ae];exact k
theorem aK(h:aV C s r st=.ok (.rt v) st1):ai C (s::rest) r st=.ok (.rt v) st1:=by rw[jN,h,ae]
theorem az:ai C [] r st=.ok (.nx r) st:=by rw[vA]
theorem cB(h:aa C e r st=.ok v st1):aV C (.ret e) r st=.ok (.rt v) st1:=by rw[qQ,h,ae]
theorem bD(h:aa C e r st=.ok v st1):aV C (.set i e) r st=.ok (.nx (r.set i (Δ v))) st1:=by rw[qR,h,ae]
theorem lK(hc:aa C c r st=.ok (.d (.bl Λ)) st1)(h:ai C a r st1=res):aV C (.ifs c a b) r st=res:=by rw[qS,cx,hc];simpa using h
theorem iN(hc:aa C c r st=.ok (.d (.bl Ξ)) st1)(h:ai C b r st1=res):aV C (.ifs c a b) r st=res:=by rw[qS,cx,hc];simpa using h
theorem e8(hw:cK C w r st=.ok ps st1)(h:forL (jb t) (ai C b) ps r st1=res):aV C (.hZ t w b) r st=res:=by rw[vm,hw,ae];exact h
theorem Af(h:n - i < k+1)(hi:i < n):n - (i+1) < k:=ZZ (ab4 _ _ hi) (Nat.le_of_lt_succ h)
theorem vW(hc:∀r st f aO,st[n]?=Δ (.lst xs)->c r st=.ok f aO->aO[n]?=Δ (.lst xs))(he:∀r st f aO,st[n]?=Δ (.lst xs)->e r st=.ok f aO->aO[n]?=Δ (.lst xs)):
  ∀(k i) (st),st[n]?=Δ (.lst xs)->xs.length - i < k->cF n g c e k i st=dq g c e (xs.drop i) st
 |0,i,st,_,hk=>absurd hk (abX _)|k+1,i,st,hs,hk=>by
  have ha:yq n st i=Δ xs[i]?:=by unfold yq;rw[hs]
  rw[oa,ha];by_cases hi:i < xs.length;·rw[Zu hi,aaH hi,jk];dsimp only;cases hx:c (g xs[i]) st with|ex x s=>rfl|no=>rfl|ok b st1=>rw[ae,ae];have h1:=hc _ st b st1 hs hx;cases b with|false=>exact vW hc he k (i+1) st1 h1 (Af hk hi)|true=>simp only[if_true];cases hy:e (g xs[i]) st1 with|ex x s=>rfl|no=>rfl|ok y st2=>rw[ae,ae,vW hc he k (i+1) st2 (he _ st1 y st2 h1 hy) (Af hk hi)]
  ·rw[aac (by lia),ada (by lia),yB]
theorem Jb(he:aa C e r st=.ok (.obj n) st1)(h:jE n (jb t) (ai C b) eU 0 r st1=res):aV C (.jE t e b) r st=res:=by rw[vn,he,ae];exact h
theorem pY(ha:aa C a r st=.ok x st1)(hl:de st1 x=Δ its)(he:aa C e r st1=.ok v st2)(hp:zL x v st2=Δ st3):aV C (.app a e) r st=.ok (.nx r) st3:=by rw[yy,ha,ae,hl,ay,ae,he,ae,hp,ay,ae]
theorem pZ(he:aa C e r st=.ok v st1)(ha:aa C a r st1=.ok x st2)(hi:aa C i r st2=.ok k st3)(hp:pI x k v st3=Δ nE):aV C (.put a i e) r st=.ok (.nx r) nE:=by rw[yz,he,ae,ha,ae,hi,ae,hp,ay,ae]
end
end Y
namespace Y
open PySem
section
variable{C:Nat->List P->aM->R P}{r:cb}{st:aM}
theorem vX i es:aa C (.nI i es) r st=(R.of (r[i]?).join st).bind λp bN=>(aE C es r bN).bind λps st1=>match p with|.fn k bz=>C k (ps++bz) st1|_=>.no:=rfl
theorem EO c f i:aa C (.attr c f i) r st=(R.of (r[i]?).join st).bind λx st1=>R.of ((qM c st1 x).bind λq=>q.2.lookup f) st1:=rfl
theorem LG k c m i es:aa C (.qL k c m i es) r st=(R.of (r[i]?).join st).bind λx bN=>(R.of ((qM c bN x).bind λq=>if(q.2.lookup m).isNone then Δ () else Θ) bN).bind λ_ bN=>(aE C es r bN).bind λps st1=>C k (x::ps) st1:=rfl
theorem BN w js c e:be C (.comp w 1 js c e) r st=(cK C w r st).bind λps st1=>if ps.length<=au then dq (λp=>Δ p::bO js r) (bH C c) (λr' aO=>aa C e r' aO) ps st1 else .no:=by rw[k7];simp
theorem ou(h:aa C e r st=.ok v st1):aV C (.expr e) r st=.ok (.nx r) st1:=by rw[vq,h,ae]
theorem DR i k:aV C (.nh i k) r st=.ok (.nx (r.set i (Δ (.lf k)))) st:=by rw[vt]
theorem vY(he:aa C e r st=.ok v st1)(hi:(r[i]?).join=Δ x)(hq:qM c st1 x=Δ (n,fs))(hl:fs.length < 1000):aV C (.nj c f i e) r st=.ok (.nx r) (st1.set n (.ins c (xq f v fs))):=by have yj:lR r i=Δ x:=hi;rw[vz,he,ae,yj,ay,ae,hq];simp[hl]
theorem PX(he:aa C e r st=.ok (.obj n) st1)(hs:st1[n]?=Δ (.dK kvs))(h:n8 i j (ai C b) kvs r (st1.set n .xo)=.ok f st2):aV C (.Dx i j e b) r st=.ok f (st2.set n (.dK kvs)):=by
 rw[vo,he,ae];have:u7 st1 (.obj n)=Δ (n,kvs):=by simp[u7,hs]
 rw[this,ay,ae];dsimp only;rw[h,ae]
theorem PY(he:aa C e r st=.ok (.obj n) st1)(h:j9 n i j (ai C b) eU 0 r st1=res):aV C (.j9 i j e b) r st=res:=by rw[vp,he,ae];exact h
theorem ER(h:iA (cx (aa C c)) (ai C b) eU r st=res):aV C (.mh c b) r st=res:=by rw[pJ];exact h
theorem ij{I:Nat->cb->aM->Prop}:∀{ps} {k} {r} {st},(∀i p r st,I (k+i) r st->ps[i]?=Δ p->∃r1 r2 st1,g p r=Δ r1/\b r1 st=.ok (.nx r2) st1/\I (k+i+1) r2 st1)->I k r st->
  ∃r' aO,forL g b ps r st=.ok (.nx r') aO/\I (k+ps.length) r' aO
 |[],k,r,st,_,h=>⟨r,st,rfl,h⟩|p::ps,k,r,st,hs,h=>by refine cD (λr1 r2 st1 h1 h2 h3=>?_) (hs 0 p r st h rfl);refine bg (λr' aO e q=>?_) (ij (g:=g) (b:=b) (I:=I) (ps:=ps) (k:=k+1) (r:=r2) (st:=st1) (λi p r st hi hp=>by have:=hs (i+1) p r st (by rw[show k+(i+1)=k+1+i from aaI k i 1];exact hi) (by simpa using hp);rw[show k+(i+1)+1=k+1+i+1 from congrArg (·+1) (aaI k i 1)] at this;exact this) h3);refine⟨r',aO,?_,by rw[ZS,show k+(ps.length+1)=k+1+ps.length from aaI k ps.length 1];exact q⟩;rw[qT,h1,ay,ae,h2,ae];exact e
theorem BO{I:Nat->cb->aM->Prop}:∀{ps} {k} {r} {st},(∀i kv r st,I (k+i) r st->ps[i]?=Δ kv->∃r2 st1,b ((r.set x (Δ (zM kv.1))).set y (Δ kv.2)) st=.ok (.nx r2) st1/\I (k+i+1) r2 st1)->I k r st->
  ∃r' aO,n8 x y b ps r st=.ok (.nx r') aO/\I (k+ps.length) r' aO
 |[],k,r,st,_,h=>⟨r,st,rfl,h⟩|p::ps,k,r,st,hs,h=>by refine bg (λr2 st1 h2 h3=>?_) (hs 0 p r st h rfl);refine bg (λr' aO e q=>?_) (BO (x:=x) (y:=y) (b:=b) (I:=I) (ps:=ps) (k:=k+1) (r:=r2) (st:=st1) (λi p r st hi hp=>by have:=hs (i+1) p r st (by rw[show k+(i+1)=k+1+i from aaI k i 1];exact hi) (by simpa using hp);rw[show k+(i+1)+1=k+1+i+1 from congrArg (·+1) (aaI k i 1)] at this;exact this) h3);refine⟨r',aO,?_,by rw[ZS,show k+(ps.length+1)=k+1+ps.length from aaI k ps.length 1];exact q⟩;rw[yA,h2,ae];exact e
theorem vZ{I:Nat->cb->aM->Prop}(hI:∀i r st,I i r st->st[n]?=Δ (.lst xs))(hs:∀i p r st,I i r st->xs[i]?=Δ p->∃r1 r2 st1,g p r=Δ r1/\b r1 st=.ok (.nx r2) st1/\I (i+1) r2 st1):
  ∀(k) {i} {r} {st},I i r st->i<=xs.length->xs.length - i < k->∃r' aO,jE n g b k i r st=.ok (.nx r') aO/\I xs.length r' aO
 |0,i,r,st,_,_,hk=>absurd hk (abX _)|k+1,i,r,st,h,hi,hk=>by
  have ha:yq n st i=Δ xs[i]?:=by unfold yq;rw[hI i r st h]
  rw[qU,ha];by_cases gE:i < xs.length;·refine cD (λr1 r2 st1 h1 h2 h3=>?_) (hs i xs[i] r st h (Zu gE));refine bg (λr' aO e q=>?_) (vZ hI hs k h3 gE (Af hk gE));refine⟨r',aO,?_,q⟩;rw[Zu gE];dsimp only;rw[h1,ay,ae,h2,ae];exact e
  ·have e:i=xs.length:=by lia
   subst e;refine⟨r,st,?_,h⟩;rw[aac (by lia)]
theorem BP{I:Nat->cb->aM->Prop}(hI:∀i r st,I i r st->st[n]?=Δ (.lst xs))(hs:∀i p r st,I i r st->xs[i]?=Δ p->∃r2 st1,b ((r.set x (Δ (.d (.int i)))).set y (Δ p)) st=.ok (.nx r2) st1/\I (i+1) r2 st1):
  ∀(k) {i} {r} {st},I i r st->i<=xs.length->xs.length - i < k->∃r' aO,j9 n x y b k i r st=.ok (.nx r') aO/\I xs.length r' aO
 |0,i,r,st,_,_,hk=>absurd hk (abX _)|k+1,i,r,st,h,hi,hk=>by
  have ha:yq n st i=Δ xs[i]?:=by unfold yq;rw[hI i r st h]
  rw[qV,ha];by_cases gE:i < xs.length;·refine bg (λr2 st1 h2 h3=>?_) (hs i xs[i] r st h (Zu gE));refine bg (λr' aO e q=>?_) (BP hI hs k h3 gE (Af hk gE));refine⟨r',aO,?_,q⟩;rw[Zu gE];dsimp only;rw[h2,ae];exact e
  ·have e:i=xs.length:=by lia
   subst e;refine⟨r,st,?_,h⟩;rw[aac (by lia)]
theorem rD{I:Nat->cb->aM->Prop}{E:cb->aM->Prop}(hs:∀k r st,I k r st->(c r st=.ok Ξ st/\E r st)\/(∃j,k=j+1/\c r st=.ok Λ st/\∃r2 st1,b r st=.ok (.nx r2) st1/\I j r2 st1)):
  ∀(n) {k} {r} {st},I k r st->k < n->∃r' aO,iA c b n r st=.ok (.nx r') aO/\E r' aO
 |0,k,r,st,_,hk=>absurd hk (abX _)|n+1,k,r,st,h,hk=>by
  rcases hs k r st h with ⟨h1,h2⟩|⟨j,rfl,h1,r2,st1,h2,h3⟩
  ·exact⟨r,st,by rw[mn,h1,ae];rfl,h2⟩
  ·refine bg (λr' aO e q=>?_) (rD hs n h3 (by lia));refine⟨r',aO,?_,q⟩;rw[mn,h1,ae];simp only[if_true];rw[h2,ae];exact e
theorem rE{I:Nat->List P->aM->Prop}:∀{ps} {k} {ys} {st},(∀i p ys st,I (k+i) ys st->ps[i]?=Δ p->∃y st1,c (g p) st=.ok Λ st/\e (g p) st=.ok y st1/\I (k+i+1) (ys++[y]) st1)->I k ys st->
  ∃zs aO,dq g c e ps st=.ok zs aO/\I (k+ps.length) (ys++zs) aO
 |[],k,ys,st,_,h=>⟨[],st,rfl,by simpa using h⟩|p::ps,k,ys,st,hs,h=>by refine ah (λy st1 h1 h2 h3=>?_) (hs 0 p ys st h rfl);refine bg (λzs aO e' q=>?_) (rE (g:=g) (c:=c) (e:=e) (I:=I) (ps:=ps) (k:=k+1) (ys:=ys++[y]) (st:=st1) (λi p ys st hi hp=>by have:=hs (i+1) p ys st (by rw[show k+(i+1)=k+1+i from aaI k i 1];exact hi) (by simpa using hp);rw[show k+(i+1)+1=k+1+i+1 from congrArg (·+1) (aaI k i 1)] at this;exact this) h3);refine⟨y::zs,aO,?_,by rw[ZS,show k+(ps.length+1)=k+1+ps.length from aaI k ps.length 1];simpa using q⟩;rw[jk,h1,ae];simp only[if_true];rw[h2,ae,e',ae]
end
theorem mx(hF:Fs[k]?=Δ F)(Ei:F.sh=Λ)(hl:ps.length=F.np)(hr:ai (callC Fs n) F.body (aA F.nn ps) st=.ok (.nx r) aO):callC Fs (n+1) k ps st=.ok (.d .bG) aO:=by rw[jm,hF];simp only[Ei,if_true,hl,hr,KO]
theorem LH{A L B:aM}(h:t < L.length):(A++L++B).set (A.length+t) x=A++L.set t x++B:=by rw[aas,adi _ _ (by lia),aas];congr 1;rw[Nat.add_sub_cancel_left,List.set_append_left _ _ h]
theorem LI{A L B:aM}(h:t < L.length):(A++L++B)[A.length+t]?=L[t]?:=by rw[aas,ZX (by lia),Nat.add_sub_cancel_left,Zy h]
theorem rF:∀(xs) (k i:Nat),(eZ k xs)[i]?=(xs[i]?).map λx=>.d (.tup [.int ((k+i:Nat):Int),x])
 |[],k,i=>by simp[eZ]|x::xs,k,0=>by simp[eZ]|x::xs,k,i+1=>by rw[eZ,ZK,rF xs (k+1) i,ZK,show k+1+i=k+(i+1) from aaI k 1 i]
theorem rG:∀(xs) (k),(eZ k xs).length=xs.length
 |[],k=>rfl|x::xs,k=>by rw[eZ,ZS,ZS,rG xs (k+1)]
theorem jt{i:Nat}(h:st[n]?=Δ (.lst xs))(hp:xs[i]?=Δ p):CJ (.obj n) (.d (.int (i:Int))) st=Δ p:=by unfold CJ;rw[lg h];show(fz st (.obj n)).bind (λxs=>qD xs (i:Int))=_;rw[M0,iY h];exact eD hp
theorem jR(h:st[n]?=Δ (.lst xs))(hl:xs.length < au):zL (.obj n) v st=Δ (st.set n (.lst (xs++[v]))):=by unfold zL;simp[h,hl]
theorem i0(h:st[n]?=Δ (.lst xs)):ur .len [.obj n] st=Δ (.d (.int xs.length)):=by show(match bJ st (.obj n) with|some o=>Δ (P.d (.int (Ig o)))|none=>(fz st (.obj n)).map λxs:List P=>P.d (.int xs.length))=_;rw[lg h,M0,iY h];rfl
theorem Jc(h:st[n]?=Δ (.dK kvs)):ur .len [.obj n] st=Δ (.d (.int kvs.length)):=by show(match bJ st (.obj n) with|some o=>Δ (P.d (.int (Ig o)))|none=>(fz st (.obj n)).map λxs:List P=>P.d (.int xs.length))=_;rw[m9 h];rfl
theorem Ag{n i:Nat}{xs:List P}{v:P}(h:st[n]?=Δ (.lst xs))(hi:i < xs.length):pI (.obj n) (.d (.int (i:Int))) v st=Δ (st.set n (.lst (xs.set i v))):=by
 have:C6 xs.length (i:Int)=Δ i:=by unfold C6;simp;lia
 unfold pI;simp[h,Bi,this]
theorem LJ:ur .tuple [.obj n] st=(de st (.obj n)).bind λxs=>(bC xs).map λys=>.d (.tup ys):=rfl
theorem LK:ur .any [.d (.pl xs)] st=(boolsOf (xs.map .d)).map λbs=>.d (.bl (bs.any id)):=rfl
theorem TU:de (.lst xs::st) (.obj 0)=Δ xs:=rfl
theorem YN(h:n+1<=f+j)(h1:j < l)(h2:l<=n):∃f',f=f'+1:=⟨f - 1,by lia⟩
theorem YO(h:k=n - j)(h1:l<=n)(h2:j < l):k=n - (j+1)+1:=by lia
theorem LL{α:Type}{l:List α}i(h:l.length < 1000000):(l.take i).length < au:=Nat.lt_of_le_of_lt (List.length_take_le' ..) (ac9 h (by decide))
noncomputable def cell(ns:List Int)(k:Nat):Int:=ns.getD k 0
def BQ(ns:List Int)(k:Nat):Int:=(cell ns k+7919*k+1)*48271 % 2147483647
def mixed(ns:List Int)(k:Nat):Int:=(BQ ns k*BQ ns k+7*BQ ns k+k) % 2147483629
theorem cz i{j:Int}(h:0 < j):0<=i % j/\i % j < j:=⟨Int.emod_nonneg _ (by lia),Int.emod_lt_of_pos _ h⟩
noncomputable def BR(x:Int)(k:Nat):Int:=(x+104729*k+17)*69621 % 2147483647
def drawn(x:Int)(k:Nat):Int:=(BR x k*BR x k+3*BR x k+k) % 2147483629
abbrev dw:=List (Nat×List Nat)
noncomputable def nD(n:Nat):D:=.int (n:Int)
def wD(u:List Nat):D:=.tup (u.map nD)
def gS(s:Nat×List Nat):D:=.tup [nD s.1,wD s.2]
def mD(m:dw):D:=.tup (m.map gS)
structure eY(w:Nat)(m:dw):Prop where
 ne:0 < m.length
 good:∀s∈m,s.1<=1
 len:∀s∈m,s.2.length=w
 lt:∀s∈m,∀t∈s.2,t < m.length
noncomputable def row(m:dw)(s:Nat):Nat×List Nat:=m.getD s (0,[])
def bB(m:dw)(s a:Nat):Nat:=(row m s).2.getD a 0
def gd(m:dw)(s:Nat):Nat:=(row m s).1
def walk(m:dw)(s:Nat)(u:List Nat):Nat:=u.foldl (bB m) s
def cf(m:dw)(u:List Nat):Bool:=gd m (walk m 0 u)==1
theorem aW(h:s < m.length):row m s∈m:=by unfold row;rw[Zz,Zu h];exact aay h
theorem Ah(h:s < m.length):m[s]?=Δ (row m s):=by unfold row;rw[Zz,Zu h];rfl
theorem eY.bB{w:Nat}{m:dw}(k:eY w m){s a:Nat}(hs:s < m.length)(ha:a < w):bB m s a < m.length:=by have hr:=aW hs;have hl:=k.len _ hr;unfold Y.bB;rw[Zz,Zu (by lia)];exact k.lt _ hr _ (aay _)
theorem eY.walk{w:Nat}{m:dw}(k:eY w m):∀{u:List Nat} {s:Nat},s < m.length->(∀a∈u,a < w)->walk m s u < m.length
 |[],s,hs,_=>hs|a::u,s,hs,hu=>eY.walk (u:=u) k (k.bB hs (hu a Zx)) λb hb=>hu b (Zs _ hb)
theorem DS{s:Nat}(h:s < m.length):qD (m.map gS) (s:Int)=Δ (gS (row m s)):=eD (by rw[ZD,Ah h];rfl)
theorem TV(k:eY w m)(h:s < m.length)(ha:a < w):qD ((row m s).2.map nD) (a:Int)=Δ (nD (bB m s a)):=by have hl:=k.len _ (aW h);refine eD ?_;rw[ZD,Zu (by lia)];unfold bB;rw[Zz,Zu (by lia)];rfl
theorem LM(k:eY w m)(h:s < m.length)(ha:a < w)(e1:aa C em r st=.ok (.d (mD m)) st)(e2:aa C es r st=.ok (.d (.int (s:Int))) st)(e3:aa C ea r st=.ok (.d (.int (a:Int))) st):
  aa C (.ix (.ix (.ix em es) (.cst (.int 1))) ea) r st=.ok (.d (.int (bB m s a:Nat))) st:=by
 simp[e1,e2,e3,mD,DS h,gS,wD,TV k h ha,nD]
theorem uC{r:cb}{st:aM}{m:dw}{em es:E}{s:Nat}(h:s < m.length)(e1:aa C em r st=.ok (.d (mD m)) st)(e2:aa C es r st=.ok (.d (.int (s:Int))) st):
  aa C (.ix (.ix em es) (.cst (.int 0))) r st=.ok (.d (.int (gd m s:Nat))) st:=by
 simp[e1,e2,mD,DS h,gS,nD,gd]
theorem yR{r:cb}(k:eY w m)(hM:r[iM]?=Δ (Δ (.d (mD m))))(h1:iM≠iS)(h2:iM≠iL)(h3:iS≠iL)(hS:iS < r.length)(hL:iL < r.length):
  ∀(u) (s) (x),s < m.length->(∀a∈u,a < w)->
  ∃y,forL (jb (.nm iL)) (ai C [.set iS (.ix (.ix (.ix (.var iM) (.var iS)) (.cst (.int 1))) (.var iL))]) ((u.map nD).map P.d) ((r.set iS (Δ (.d (.int (s:Int))))).set iL x) st
   =.ok (.nx ((r.set iS (Δ (.d (.int (walk m s u:Nat))))).set iL y)) st
 |[],s,x,_,_=>⟨x,rfl⟩|a::u,s,x,hs,hu=>by
  have ha:=hu a Zx;obtain⟨y,ih⟩:=yR (C:=C) (st:=st) k hM h1 h2 h3 hS hL u (bB m s a) (Δ (.d (.int (a:Int)))) (k.bB hs ha) λb hb=>hu b (Zs _ hb);refine⟨y,?_⟩;rw[ZH,ZH,forL,jb,ay,ae,aeQ];have e:ai C [.set iS (.ix (.ix (.ix (.var iM) (.var iS)) (.cst (.int 1))) (.var iL))] ((r.set iS (Δ (.d (.int (s:Int))))).set iL (Δ (.d (nD a)))) st
    =.ok (.nx ((r.set iS (Δ (.d (.int (bB m s a:Nat))))).set iL (Δ (.d (.int (a:Int)))))) st:=by
   refine ag (bD (st1:=st) (LM k hs ha ?_ ?_ ?_)) ?_;·rw[ba,Zw (λz=>h2 z.symm),Zw (λz=>h1 z.symm),hM];rfl
   ·rw[ba,Zw (λz=>h3 z.symm),ZY hS];rfl
   ·rw[ba,ZY (by simpa using hL)];rfl
   ·rw[az,List.set_comm _ _ (λz=>h3 z.symm),aeQ];rfl
  rw[e,ae];exact ih
def Jd(x:Int)(w c:Nat):dw:=(Zq c).map λk=>((drawn x (7*k+5) % 3 % 2).toNat,(Zq w).map λl=>(drawn x (7*k+l) % (c:Int)).toNat)
theorem Je x w(hc:0 < c):eY w (Jd x w c):=by
 refine⟨by simp[Jd];exact hc,λs hs=>?_,λs hs=>?_,λs hs t ht=>?_⟩<;>
  (simp only[Jd,abk,aaF] at hs;obtain⟨k,hk,rfl⟩:=hs)
 ·have:=cz (drawn x (7*k+5) % 3) (show(0:Int) < 2 by decide);dsimp only;lia
 ·simp
 ·simp only[abk,aaF] at ht;obtain⟨l,hl,rfl⟩:=ht;have:=cz (drawn x (7*k+l)) (show(0:Int) < (c:Int) by lia);simp only[Jd,ZA,aad];lia
theorem ES x w c:(Jd x w c).length=c:=by simp[Jd]
theorem TY{j:Nat}(h:j < 1000000):tF [.d (.int (j:Int))]=Δ ((Zq j).map λk=>.d (.int (k:Int))):=by
 have c1: -n6<=(j:Int)/\(j:Int) < n6:=by unfold n6;lia
 unfold tF;simp only[if_pos c1,Il];congr 1;simp
theorem cM{j:Nat}(h:aa C e r st=.ok (.d (.int (j:Int))) st)(hj:j < 1000000):cK C (.iQ [e]) r st=.ok ((Zq j).map λk:Nat=>.d (.int (k:Int))) st:=by rw[yx,aw,h,ae,aF,ae,ae,TY hj,ay]
theorem YQ(n:Nat):((n:Int)==1)=(n==1):=by rw[ab1];simp;lia
end Y
namespace Y
abbrev Wd(w:Nat)(u:List Nat):Prop:=∀a∈u,a < w
theorem Wd.nil:Wd w []:=λa h=>by cases h
theorem Wd.cons(ha:a < w)(h:Wd w u):Wd w (a::u):=λb hb=>by
 rcases abM.mp hb with z|z;·rw[z];exact ha
 ·exact h b z
theorem Wd.tail(h:Wd w (a::u)):Wd w u:=λb hb=>h b (Zs _ hb)
theorem Wd.head(h:Wd w (a::u)):a < w:=h a Zx
theorem Wd.app(h:Wd w u)(h':Wd w v):Wd w (u++v):=λb hb=>by
 rcases acQ.mp hb with z|z;·exact h b z
 ·exact h' b z
def jS(w:Nat)(m:dw)(s:Nat)(m':dw)(s':Nat):Prop:=∀u,Wd w u->gd m (walk m s u)=gd m' (walk m' s' u)
theorem jS.refl:jS w m s m s:=λ_ _=>rfl
theorem jS.symm(h:jS w m s m' s'):jS w m' s' m s:=λu hu=>(h u hu).symm
theorem jS.trans(h:jS w m s m' s')(h':jS w m' s' m2 s2):jS w m s m2 s2:=λu hu=>(h u hu).trans (h' u hu)
theorem jS.step(h:jS w m s m' s')(ha:a < w):jS w m (bB m s a) m' (bB m' s' a):=λu hu=>h (a::u) (hu.cons ha)
theorem jS.good(h:jS w m s m' s'):gd m s=gd m' s':=h [] Wd.nil
def Red(w:Nat)(m:dw):Prop:=∀s t,s < m.length->t < m.length->jS w m s m t->s=t
noncomputable def nL:List Nat->Nat->Option Nat
 |[],c=>Δ c|s::ss,c=>if s < c then nL ss c else if s=c then nL ss (c+1) else Θ
def lL:dw->Nat->Nat->Option Nat
 |[],_,c=>Δ c|q::qs,k,c=>if k < c then(nL q.2 c).bind λc'=>lL qs (k+1) c' else Θ
structure my(w:Nat)(m:dw):Prop where
 ok:eY w m
 red:Red w m
 ord:lL m 0 1=Δ m.length
theorem LN(h:m.drop k=q::qs):k < m.length/\row m k=q/\m.drop (k+1)=qs:=by
 have hk:k < m.length:=by
  by_cases z:k < m.length;·exact z
  ·rw[ada (by lia)] at h;cases h
 rw[aaH hk] at h;injection h with h1 h2;refine⟨hk,?_,h2⟩;unfold row;rw[Zz,Zu hk];exact h1
end Y
namespace Y
open Classical
theorem filter_le(h:∀x,p x=Λ->q x=Λ):∀l:List Nat,(l.filter p).length<=(l.filter q).length
 |[]=>ZC _|x::l=>by have ih:=filter_le h l;cases hp:p x with|true=>rw[aae hp,aae (h x hp)];simp;exact ih|false=>rw[aal (by simp[hp])];cases hq:q x with|true=>rw[aae hq];simp;lia|false=>rw[aal (by simp[hq])];exact ih
theorem filter_lt(h:∀x,p x=Λ->q x=Λ)(h1:p y=Ξ)(h2:q y=Λ):∀l:List Nat,y∈l->(l.filter p).length < (l.filter q).length
 |[],z=>by cases z|x::l,z=>by
  have il:=filter_le h l;rcases abM.mp z with e|e;·subst e;rw[aal (by simp[h1]),aae h2];simp;lia
  ·have ih:=filter_lt h h1 h2 l e;cases hp:p x with|true=>rw[aae hp,aae (h x hp)];simp;exact ih|false=>rw[aal (by simp[hp])];cases hq:q x with|true=>rw[aae hq];simp;lia|false=>rw[aal (by simp[hq])];exact ih
def i8(w:Nat)(m:dw)(k s t:Nat):Prop:=∀u,Wd w u->u.length<=k->gd m (walk m s u)=gd m (walk m t u)
variable{w:Nat}{m:dw}
theorem i8.refl:i8 w m k s s:=λ_ _ _=>rfl
theorem i8.symm(h:i8 w m k s t):i8 w m k t s:=λu hu hl=>(h u hu hl).symm
theorem i8.trans(h:i8 w m k s t)(h':i8 w m k t r):i8 w m k s r:=λu hu hl=>(h u hu hl).trans (h' u hu hl)
theorem i8.mono(h:i8 w m k s t)(hj:j<=k):i8 w m j s t:=λu hu hl=>h u hu (aap hl hj)
theorem i8.step(h:i8 w m (k+1) s t)(ha:a < w):i8 w m k (bB m s a) (bB m t a):=λu hu hl=>h (a::u) (hu.cons ha) (by simp;lia)
theorem i8.ET(h0:gd m s=gd m t)(h:∀a,a < w->i8 w m k (bB m s a) (bB m t a)):i8 w m (k+1) s t:=λu hu hl=>by cases u with|nil=>exact h0|cons a u=>exact h a hu.head u hu.tail (by simpa using hl)
theorem i8.Jf(ok:eY w m)(hk:∀s t,s < m.length->t < m.length->i8 w m k s t->i8 w m (k+1) s t):∀(j) {s t},s < m.length->t < m.length->i8 w m k s t->i8 w m (k+j) s t
 |0,s,t,_,_,h=>h|j+1,s,t,hs,ht,h=>by have h1:=hk s t hs ht h;exact i8.ET (h [] Wd.nil (aaB _)) λa ha=>i8.Jf ok hk j (ok.bB hs ha) (ok.bB ht ha) (h1.step ha)
theorem i8.PZ(ok:eY w m)(hk:∀s t,s < m.length->t < m.length->i8 w m k s t->i8 w m (k+1) s t)(hs:s < m.length)(ht:t < m.length)(h:i8 w m k s t):jS w m s m t:=λu hu=>i8.Jf ok hk u.length hs ht h u hu (by lia)
noncomputable def rep(w:Nat)(m:dw)(k s:Nat):Bool:=decide (∀t,t < s->¬i8 w m k t s)
noncomputable def v5(w:Nat)(m:dw)(k:Nat):Nat:=((Zq m.length).filter (rep w m k)).length
theorem BS(p:Nat->Prop):∀n,p n->∃r,r<=n/\p r/\∀t,t < r->¬p t:=λn=>by
 induction n using Nat.strongRecOn with
 |_ n ih=>
  intro h;by_cases z:∃t,t < n/\p t;·obtain⟨t,ht,hp⟩:=z;refine aB (λr h1 h2 h3=>?_) (ih t ht hp);exact⟨r,by lia,h2,h3⟩
  ·exact⟨n,ZC _,h,λt ht hp=>z ⟨t,ht,hp⟩⟩
theorem LO(hs:s < m.length)(ht:t < m.length)(h:i8 w m k s t)(hn:¬i8 w m (k+1) s t):v5 w m k < v5 w m (k+1):=by
 refine aB (λr r1 r2 r3=>?_) (BS (λx=>i8 w m k x s) s i8.refl);have go:∀y,y < m.length->i8 w m k y s->¬i8 w m (k+1) y r->v5 w m k < v5 w m (k+1):=λy hy e n=>by
  refine aB (λz z1 z2 z3=>?_) (BS (λx=>i8 w m (k+1) x y) y i8.refl);have e2:i8 w m k r z:=r2.trans (e.symm.trans (z2.mono (abn _)).symm);have hz:r≠z:=λc=>by subst c;exact n z2.symm
  have gE:r < z:=by
   rcases Nat.lt_or_ge r z with c|c;·exact c
   ·exact absurd ((z2.mono (abn k)).trans e) (r3 z (by lia))
  refine filter_lt (y:=z) (λx hx=>?_) ?_ ?_ _ (by simp;lia);·simp only[rep,decide_eq_true_eq] at hx ⊢;exact λt' h1 h2=>hx t' h1 (h2.mono (abn _))
  ·simp only[rep,decide_eq_false_iff_not];exact λc=>c r gE e2
  ·simp only[rep,decide_eq_true_eq];exact λt' h1 h2=>z3 t' h1 (h2.trans z2)
 by_cases c:i8 w m (k+1) s r;·exact go t ht h.symm λd=>hn (c.trans d.symm)
 ·exact go s hs i8.refl c
theorem LP k:v5 w m k<=m.length:=by unfold v5;exact aap (abU _ _) (by simp)
theorem Jg(ok:eY w m)k:0 < v5 w m k:=by unfold v5;refine abl (a:=0) ?_;rw[aaE];exact⟨by simpa using ok.ne,by simp[rep]⟩
theorem Gk(ok:eY w m):∃k,k < m.length/\∀s t,s < m.length->t < m.length->i8 w m k s t->i8 w m (k+1) s t:=by
 apply Z5;intro hn;have Dd:∀k,k < m.length->v5 w m k < v5 w m (k+1):=λk hk=>by apply Z5;intro hc;refine hn ⟨k,hk,λs t hs ht h=>?_⟩;apply Z5;intro he;exact hc (LO hs ht h he)
 have grow:∀k,k<=m.length->k < v5 w m k:=λk=>by
  induction k with
  |zero=>intro _;exact Jg ok 0|succ k ih=>
   intro hk;have h1:=ih (by lia);have h2:=Dd k (by lia)
   lia
 have h1:=grow m.length (ZC _);have h2:=LP (w:=w) (m:=m) m.length
 lia
theorem Ai(ok:eY w m)(hs:s < m.length)(ht:t < m.length)(h:i8 w m m.length s t):jS w m s m t:=by obtain⟨k,hk,sf⟩:=Gk ok;exact i8.PZ ok sf hs ht (h.mono (acG hk))
end Y
namespace Y
open PySem
noncomputable def nr(x:D)(h:Int):Bool:=match x with|.int i=>decide (0<=i)&&decide (i<=h)|_=>Ξ
def Aj(x:D)(w:Int)(h:Int):Bool:=match x with|.tup ss=>decide ((ss.length:Int)=w)&&ss.all λs=>nr s h|_=>Ξ
def ju(w h:Int):D->Bool
 |.tup [g,ss]=>nr g 1&&Aj ss w h|_=>Ξ
def sQ(x:D)(w:Int):Bool:=match x with|.tup xs=>!xs.isEmpty&&xs.all λs=>ju w ((xs.length:Int) - 1) s|_=>Ξ
theorem Jh(k:eY w m):sQ (mD m) (w:Int)=Λ:=by
 unfold sQ mD;dsimp only;rw[Zr];refine⟨?_,?_⟩;·have:=k.ne;cases m with|nil=>simp at this|cons a b=>rfl
 ·rw[abe];intro x hx;rw[abk] at hx;obtain⟨s,hs,rfl⟩:=hx;have h1:=k.good s hs;have h2:=k.len s hs;unfold ju gS;simp only[Zr];refine⟨?_,?_⟩;·simp[nr,nD];lia
  ·unfold Aj wD;simp only[Zr,decide_eq_true_eq,ZA,abe,abk,forall_exists_index,and_imp];refine⟨by lia,?_⟩;rintro y t ht rfl;have:=k.lt s hs t ht;simp[nr,nD]
   lia
section
section
variable{α:Type}[DecidableEq α]
theorem fX{ss xs:List α}(hn:ss.Nodup)(hs:∀s∈ss,s∈xs):ss.length<=xs.length:=by
 induction ss generalizing xs with
 |nil=>simp|cons s ss ih=>
  rw[aaW] at hn;have h1:s∈xs:=hs s Zx;have:=ih (xs:=xs.erase s) hn.2 λt ht=>by have:t≠s:=λz=>hn.1 (z▸ht);exact(acy this).mpr (hs t (Zs _ ht))
  rw[acd h1] at this;have:=abl h1;simp
  lia
theorem P0{ss xs:List α}(hn:ss.Nodup)(hs:∀s∈ss,s∈xs)(hl:xs.length<=ss.length):∀x∈xs,x∈ss:=by
 intro x LR;apply Z5;intro hc;have:=fX (ss:=ss) (xs:=xs.erase x) hn λt ht=>by have:t≠x:=λz=>hc (z▸ht);exact(acy this).mpr (hs t ht)
 rw[acd LR] at this;have:=abl LR
 lia
end
abbrev rH:=List (Nat×Nat)
def xw(ps:rH)(q:Nat×Nat):rH:=if q∈ps then ps else ps++[q]
theorem kA:x∈xw ps q↔x∈ps\/x=q:=by
 unfold xw;split;·rename_i h;exact⟨.inl,λz=>by rcases z with z|z;exact z;rw[z];exact h⟩
 ·simp
theorem LS(h:ps.Nodup):(xw ps q).Nodup:=by
 unfold xw;split;·exact h
 ·rename_i hq;rw[aar];exact⟨h,by simp,λa ha b hb=>by simp at hb;subst hb;exact λz=>hq (z▸ha)⟩
noncomputable def BU(n:Nat):rH:=(Zq n).flatMap λi=>((Zq n).filter λj=>decide (j≠i)).map λj=>(i,j)
theorem p4:q∈BU n↔q.1 < n/\q.2 < n/\q.1≠q.2:=by
 unfold BU;simp only[acH,aaF,abk,aaE,decide_eq_true_eq];constructor;·intro gy;revert gy;refine lU λi hi j qv aH=>?_;subst aH;obtain⟨hj,fT⟩:=qv;exact⟨hi,hj,λz=>fT z.symm⟩
 ·rintro⟨h1,h2,h3⟩;exact⟨q.1,h1,q.2,⟨h2,λz=>h3 z.symm⟩,rfl⟩
theorem v7{α β:Type}{f:α->List β}:∀{l:List α},l.Nodup->(∀x∈l,(f x).Nodup)->(∀x∈l,∀y∈l,∀z,z∈f x->z∈f y->x=y)->(l.flatMap f).Nodup
 |[],_,_,_=>by simp|a::l,hn,h1,h2=>by rw[aaW] at hn;rw[acv,aar];refine⟨h1 a Zx,v7 hn.2 (λx hx=>h1 x (Zs _ hx)) (λx hx y hy=>h2 x (Zs _ hx) y (Zs _ hy)),λx hx y hy e=>?_⟩;subst e;rw[acH] at hy;obtain⟨b,hb,hy⟩:=hy;have:=h2 a Zx b (Zs _ hb) x hx hy;exact hn.1 (this▸hb)
theorem LU n:(BU n).Nodup:=by
 unfold BU;refine v7 aby (λi _=>?_) (λx _ y _ z hz RX=>?_);·rw[List.nodup_iff_pairwise_ne,List.pairwise_map];refine List.Pairwise.imp (λ{a b} h=>?_) ((aby).filter _);intro e;injection e with _ e2;exact h e2
 ·simp only[abk] at hz RX;obtain⟨_,_,rfl⟩:=hz;obtain⟨_,_,e⟩:=RX;injection e with e1 _;exact e1.symm
theorem nM:∀{l:List Nat} {i},l.Nodup->i∈l->(l.filter λj=>decide (j≠i)).length+1=l.length
 |[],i,_,h=>by cases h|x::l,i,hn,h=>by
  rw[aaW] at hn;by_cases e:x=i
  ·subst e;rw[aal (by simp)];have:(l.filter λj=>decide (j≠x))=l:=by rw[List.filter_eq_self];intro a ha;rw[decide_eq_true_eq];exact λz=>hn.1 (z▸ha)
   rw[this];rfl
  ·rw[aae (by simp[e])];have:=nM hn.2 (by rcases abM.mp h with z|z;exact absurd z.symm e;exact z);simp;simpa using this
theorem BV n:(BU n).length+n=n*n:=by
 have key:∀l:List Nat,(∀i∈l,i < n)->(l.flatMap λi=>((Zq n).filter λj=>decide (j≠i)).map λj=>(i,j)).length+l.length=l.length*n:=by
  intro l;induction l with
  |nil=>intro _;simp|cons i l ih=>
   intro h;have h1:=ih λj hj=>h j (Zs _ hj);have h2:=nM (l:=Zq n) (i:=i) aby (by simpa using h i Zx);rw[aad] at h2;rw[acv,ZW,ZA,ZS,acE]
   lia
 have:=key (Zq n) (λi hi=>by simpa using hi);simpa[BU] using this
variable{w:Nat}{m:dw}
def p1(m:dw)(i:Nat)(ps:rH)(j:Nat):rH:=if gd m i≠gd m j then xw ps (i,j) else ps
def hit(m:dw)(ps:rH)(i j:Nat):Bool:=((row m i).2.zip (row m j).2).any λq=>decide (q∈ps)
def p2(m:dw)(i:Nat)(ps:rH)(j:Nat):rH:=if hit m ps i j=Λ then xw ps (i,j) else ps
noncomputable def lM(f:Nat->rH->Nat->rH)(n:Nat)(ps:rH):rH:=(Zq n).foldl (λps i=>(Zq n).foldl (f i) ps) ps
def cZ(m:dw):rH:=(Zq m.length).foldl (λps _=>lM (p2 m) m.length ps) (lM (p1 m) m.length [])
structure bW(w:Nat)(m:dw)(ps:rH):Prop where
 nd:ps.Nodup
 lt:∀q∈ps,q.1 < m.length/\q.2 < m.length
 sd:∀q∈ps,¬jS w m q.1 m q.2
theorem bW.add(h:bW w m ps)(hi:i < m.length)(hj:j < m.length)(hn:¬jS w m i m j):bW w m (xw ps (i,j)):=by
 refine⟨LS h.nd,λq hq=>?_,λq hq=>?_⟩
 ·rcases kA.mp hq with z|z;·exact h.lt q z
  ·rw[z];exact⟨hi,hj⟩
 ·rcases kA.mp hq with z|z;·exact h.sd q z
  ·rw[z];exact hn
theorem zip_get{a b:List Nat}(h:(x,y)∈a.zip b):∃i,i < a.length/\i < b.length/\a.getD i 0=x/\b.getD i 0=y:=by
 obtain⟨i,hi,e⟩:=List.mem_iff_getElem.mp h;rw[acR] at hi;refine⟨i,by lia,by lia,?_,?_⟩;·rw[ad8] at e;injection e with e1 e2;rw[Zz,Zu (by lia)];exact e1
 ·rw[ad8] at e;injection e with e1 e2;rw[Zz,Zu (by lia)];exact e2
theorem EU(ok:eY w m)(hi:i < m.length)(hj:j < m.length):hit m ps i j=Λ↔∃a,a < w/\(bB m i a,bB m j a)∈ps:=by
 have l1:=ok.len _ (aW hi);have l2:=ok.len _ (aW hj);unfold hit;rw[abd];constructor;·rintro⟨CN,hq,hp⟩;obtain⟨x,y⟩:=CN;rw[decide_eq_true_eq] at hp;obtain⟨a,h1,h2,e1,e2⟩:=zip_get hq;refine⟨a,by lia,?_⟩;unfold bB;rw[e1,e2];exact hp
 ·rintro⟨a,ha,hp⟩;refine⟨(bB m i a,bB m j a),?_,by simpa using hp⟩;refine List.mem_iff_getElem.mpr ⟨a,by rw[acR];lia,?_⟩;rw[ad8];unfold bB;rw[Zz,Zz,Zu (by lia),Zu (by lia)];rfl
theorem Ji(h:bW w m ps)(hi:i < m.length)(hj:j < m.length):bW w m (p1 m i ps j):=by
 unfold p1;split;·rename_i hg;exact h.add hi hj λsm=>hg sm.good
 ·exact h
theorem EV(ok:eY w m)(h:bW w m ps)(hi:i < m.length)(hj:j < m.length):bW w m (p2 m i ps j):=by
 unfold p2;split;·rename_i hg;obtain⟨a,ha,hp⟩:=(EU ok hi hj).mp hg;exact h.add hi hj λsm=>h.sd _ hp (sm.step ha)
 ·exact h
theorem dE{σ α:Type}{f:σ->α->σ}{J:σ->Prop}:∀{l:List α} {s},J s->(∀s,∀x∈l,J s->J (f s x))->J (l.foldl f s)
 |[],s,h,_=>h|x::l,s,h,hf=>dE (l:=l) (hf s x Zx h) λs y hy=>hf s y (Zs _ hy)
theorem v8{J:rH->Prop}(hf:∀ps i j,i < n->j < n->J ps->J (f i ps j))(h:J ps):J (lM f n ps):=
 dE h λs i hi hs=>dE hs λs j hj hs=>hf s i j (by simpa using hi) (by simpa using hj) hs
theorem v9{σ α:Type}{f:σ->α->σ}{G:σ->Prop}{J:σ->Prop}{x:α}(hG:∀s y,J s->G s->G (f s y))(hJ:∀s y,J s->J (f s y))(hx:∀s,J s->G (f s x)):∀{l:List α} {s},x∈l->J s->G (l.foldl f s)
 |y::l,s,h,js=>by
  rcases abM.mp h with e|e;·subst e;exact(dE (J:=λs=>J s/\G s) (l:=l) ⟨hJ s x js,hx s js⟩ λs y _ ⟨a,b⟩=>⟨hJ s y a,hG s y a b⟩).2
  ·exact v9 hG hJ hx (l:=l) e (hJ s y js)
theorem yS{J:rH->Prop}(hi:i < n)(hj:j < n)(mono:∀ps i j,∀q∈ps,q∈f i ps j)(hJ:∀ps i j,J ps->J (f i ps j))(hx:∀ps,J ps->(i,j)∈f i ps j)(h:J ps):(i,j)∈lM f n ps:=by have inner:∀(s:rH) (k:Nat),J s->J ((Zq n).foldl (f k) s):=λs k hs=>dE hs λs j _ hs=>hJ s k j hs;have keep:∀(s:rH) (k:Nat),(i,j)∈s->(i,j)∈(Zq n).foldl (f k) s:=λs k hs=>dE (J:=λs=>(i,j)∈s) hs λs j' _ hs=>mono s k j' _ hs;exact v9 (G:=λs=>(i,j)∈s) (J:=J) (x:=i) (λs k _ hs=>keep s k hs) (λs k hs=>inner s k hs) (λs hs=>v9 (G:=λs=>(i,j)∈s) (J:=J) (x:=j) (λs k _ hs=>mono s i k _ hs) (λs k hs=>hJ s i k hs) (λs hs=>hx s hs) (by simpa using hj) hs) (by simpa using hi) h
theorem LV ps i j:∀q∈ps,q∈p1 m i ps j:=λq hq=>by
 unfold p1;split;·exact kA.mpr (.inl hq)
 ·exact hq
theorem Ak ps i j:∀q∈ps,q∈p2 m i ps j:=λq hq=>by
 unfold p2;split;·exact kA.mpr (.inl hq)
 ·exact hq
def yT(w:Nat)(m:dw)(k:Nat)(ps:rH):Prop:=∀i j,i < m.length->j < m.length->¬i8 w m k i j->(i,j)∈ps
theorem TZ:yT w m 0 (lM (p1 m) m.length []):=λi j hi hj hn=>by
 refine yS (J:=λ_=>True) hi hj LV (λ_ _ _ _=>trivial) (λps _=>?_) trivial;unfold p1;have:gd m i≠gd m j:=λe=>hn λu hu hl=>by cases u with|nil=>exact e|cons a u=>simp at hl
 rw[if_pos this];exact kA.mpr (.inr rfl)
theorem T3(ok:eY w m)(h:yT w m k ps):yT w m (k+1) (lM (p2 m) m.length ps):=λi j hi hj hn=>by
 refine yS (J:=λs=>yT w m k s) hi hj Ak (λps i j hs i' j' h1 h2 h3=>Ak ps i j _ (hs i' j' h1 h2 h3)) (λs hs=>?_) h;by_cases hg:gd m i=gd m j
 ·have:∃a,a < w/\¬i8 w m k (bB m i a) (bB m j a):=by apply Z5;intro hc;exact hn (i8.ET hg λa ha=>Z5 λz=>hc ⟨a,ha,z⟩)
  obtain⟨a,ha,hk⟩:=this;unfold p2;rw[if_pos ((EU ok hi hj).mpr ⟨a,ha,hs _ _ (ok.bB hi ha) (ok.bB hj ha) hk⟩)];exact kA.mpr (.inr rfl)
 ·exact Ak s i j _ (hs i j hi hj λe=>hg (e [] Wd.nil (aaB _)))
theorem p5(ok:eY w m):bW w m (cZ m):=by have h0:bW w m (lM (p1 m) m.length []):=v8 (J:=bW w m) (λps i j hi hj h=>Ji h hi hj) ⟨by simp,(λ_ h=>nomatch h),(λ_ h=>nomatch h)⟩;exact dE (J:=bW w m) h0 λs _ _ h=>v8 (J:=bW w m) (λps i j hi hj h=>EV ok h hi hj) h
theorem BW(ok:eY w m):yT w m m.length (cZ m):=by
 have key:∀n,yT w m n ((Zq n).foldl (λps _=>lM (p2 m) m.length ps) (lM (p1 m) m.length [])):=λn=>by induction n with|zero=>exact TZ|succ n ih=>rw[aaN,ab8];exact T3 ok ih
 exact key m.length
theorem DT(ok:eY w m)(hi:i < m.length)(hj:j < m.length):(i,j)∈cZ m↔¬jS w m i m j:=
 ⟨λh=>(p5 ok).sd _ h,λh=>BW ok i j hi hj λe=>h (Ai ok hi hj e)⟩
theorem DU(ok:eY w m):(cZ m).length+m.length=m.length*m.length↔Red w m:=by
 have sd:=p5 ok;have sub:∀q∈cZ m,q∈BU m.length:=λq hq=>p4.mpr ⟨(sd.lt q hq).1,(sd.lt q hq).2,λe=>sd.sd q hq (e▸jS.refl)⟩;have l1:=fX sd.nd sub;have l2:=BV m.length;constructor;·intro h s t hs ht sm;apply Z5;intro fT;have:=P0 sd.nd sub (by lia) (s,t) (p4.mpr ⟨hs,ht,fT⟩);exact sd.sd _ this sm
 ·intro hr;have:=fX (LU m.length) (xs:=cZ m) λq hq=>by obtain⟨h1,h2,h3⟩:=p4.mp hq;exact(DT ok h1 h2).mpr λsm=>h3 (hr _ _ h1 h2 sm)
  lia
theorem bW.len(h:bW w m ps):ps.length<=m.length*m.length:=by
 have:=fX h.nd (xs:=BU m.length) λq hq=>p4.mpr ⟨(h.lt q hq).1,(h.lt q hq).2,λe=>h.sd q hq (e▸jS.refl)⟩;have:=BV m.length
 lia
end
noncomputable def jF(o:List Nat)(ss:List Nat):List Nat:=ss.foldl (λo s=>if s∈o then o else o++[s]) o
def xx(m:dw):List Nat->List Nat->Option (List Nat)
 |[],o=>Δ o|k::ks,o=>if o.length<=k then Θ else xx m ks (jF o (row m (o.getD k 0)).2)
def Vq(o:List Nat):Prop:=∃i s:Nat,o[i]?=Δ s/\s≠i
theorem wa:∀{ss o} {i s:Nat},o[i]?=Δ s->(jF o ss)[i]?=Δ s
 |[],o,i,s,h=>h|x::ss,o,i,s,h=>by
  unfold jF;rw[abH];refine wa (ss:=ss) ?_;split;·exact h
  ·rw[Zy (List.getElem?_eq_some_iff.mp h).1];exact h
theorem BX:∀{ks o o'},Vq o->xx m ks o=Δ o'->Vq o'
 |[],o,o',hb,h=>by obtain rfl:=sj h;exact hb|k::ks,o,o',⟨i,s,h1,h2⟩,h=>by
  simp only[xx] at h;split at h;·exact aQ h
  ·exact BX ⟨i,s,wa h1,h2⟩ h
theorem LW n:¬Vq (Zq n):=λgy=>by revert gy;refine bg λi s h1 h2=>?_;have hi:=(List.getElem?_eq_some_iff.mp h1).1;rw[abm (by simpa using hi)] at h1;injection h1 with h1;exact h2 h1.symm
theorem ow:∀{ss} {c},match nL ss c with|some d=>jF (Zq c) ss=Zq d|none=>Vq (jF (Zq c) ss)
 |[],c=>rfl|s::ss,c=>by
  have e:jF (Zq c) (s::ss)=if s < c then jF (Zq c) ss else jF (Zq c++[s]) ss:=by
   unfold jF;rw[abH];by_cases h:s < c;·rw[if_pos h,if_pos (by simpa using h)]
   ·rw[if_neg h,if_neg (by simpa using h)]
  rw[e];simp only[nL];by_cases h:s < c;·rw[if_pos h,if_pos h];exact ow
  ·rw[if_neg h,if_neg h];by_cases h2:s=c;·subst h2;rw[if_pos rfl,<-aaN];exact ow
   ·rw[if_neg h2];refine⟨c,s,wa ?_,h2⟩;rw[ZX (by simp)];simp
theorem BY:∀{qs} {j c},m.drop j=qs->(xx m (List.range' j qs.length) (Zq c)=Δ (Zq m.length)↔lL qs j c=Δ m.length)
 |[],j,c,h=>by
  simp only[abG,List.range'_zero,xx,lL,adQ];constructor;·intro e;have:=congrArg adR e;simpa using this
  ·intro e;rw[e]
 |q::qs,j,c,h=>by
  obtain⟨h1,h2,h3⟩:=LN h;rw[ZS,List.range'_succ];simp only[xx,lL,aad];by_cases hj:j < c
  ·rw[if_neg (by lia),if_pos hj];have e:(Zq c).getD j 0=j:=by rw[Zz,abm hj];rfl
   rw[e,h2];have key:=ow (ss:=q.2) (c:=c);cases hs:nL q.2 c with
   |some d=>rw[hs] at key;dsimp only at key;rw[key];exact BY h3|none=>
    rw[hs] at key;dsimp only at key;constructor;·intro z;exact absurd (BX key z) (LW _)
    ·intro z;exact aQ z
  ·rw[if_pos (by lia),if_neg hj];exact⟨(λz=>nomatch z),(λz=>nomatch z)⟩
theorem Al:xx m (Zq m.length) [0]=Δ (Zq m.length)↔lL m 0 1=Δ m.length:=by have:=BY (m:=m) (qs:=m) (j:=0) (c:=1) rfl;rw[<-List.range_eq_range'] at this;exact this
theorem EW:∀{a b:List Nat},iU (a.map nD) (b.map nD)=decide (a=b)
 |[],[]=>rfl|[],_::_=>rfl|_::_,[]=>rfl|x::a,y::b=>by
  simp only[ZH,Eo,nD,Ie];rw[show iU (ady nD a) (ady nD b)=decide (a=b) from EW];rw[ab1];simp
  lia
theorem Jj:∀a:List Nat,lI (a.map nD)=0
 |[]=>rfl|x::a=>by rw[ZH,zI,Jj a];rfl
theorem Jk(a:List Nat):bC (a.map λn=>P.d (nD n))=Δ (a.map nD):=by simp
theorem LX{o:List Nat}(h:st[k]?=Δ (.lst (o.map λn=>P.d (nD n)))):kr .pF (.d (nD s)) (.obj k) st=Δ (!decide (s∈o)):=by
 have e1:bJ st (.obj k)=Θ:=lg h;have e2:fz st (.obj k)=Δ (o.map λn=>P.d (nD n)):=iY h;have e3:(o.map nD).all sG=Λ:=by rw[abe];intro x hx;rw[abk] at hx;obtain⟨n,_,rfl⟩:=hx;rfl
 have e4:((o.map nD).any λy=>xp y (nD s))=decide (s∈o):=by
  rw[ab1,abd,decide_eq_true_eq];constructor
  ·rintro⟨x,hx,he⟩;rw[abk] at hx;obtain⟨n,hn,rfl⟩:=hx;simp[nD,Ie] at he;have:n=s:=by lia
   exact this▸hn
  ·intro hs;exact⟨nD s,abk.mpr ⟨s,hs,rfl⟩,beq_self_eq_true _⟩
 show(Ih (.d (nD s)) (.obj k) st).map not=_;unfold Ih;rw[e1];simp only[Ic,aax,e2,Jk,e3,e4];rw[if_pos (by rfl)];rfl
theorem kB{α σ:Type}{enc:α->P}{f:σ->α->σ}{S:σ->aM}{I:cb->Prop}{J:σ->Prop}:∀{xs:List α},
  (∀x∈xs,∀s r,J s->I r->∃r1 r2,g (enc x) r=Δ r1/\b r1 (S s)=.ok (.nx r2) (S (f s x))/\I r2/\J (f s x))->∀{s} {r},J s->I r->∃r',forL g b (xs.map enc) r (S s)=.ok (.nx r') (S (xs.foldl f s))/\I r'/\J (xs.foldl f s)
 |[],_,s,r,hj,hi=>⟨r,rfl,hi,hj⟩|x::xs,h,s,r,hj,hi=>by refine bZ (λr1 r2 e1 e2 i2 j2=>?_) (h x Zx s r hj hi);refine aB (λr' e i' j'=>?_) (kB (xs:=xs) (λy hy=>h y (Zs _ hy)) j2 i2);refine⟨r',?_,i',j'⟩;rw[ZH,forL,e1,ay,ae,e2,ae];exact e
noncomputable def wb(q:Nat×Nat):List (Sum Int Str):=[.inl (q.1:Int),.inl (q.2:Int)]
def bS(ps:rH):O:=.dT (ps.map λq=>(wb q,.d (.bl Λ)))
theorem wc(h:wb q=wb p):q=p:=by unfold wb at h;simp only[List.cons.injEq,aeC.injEq,and_true] at h;exact Prod.ext (by lia) (by lia)
theorem yU i j:kZ (.d (.tup [nD i,nD j]))=Δ (wb (i,j)):=rfl
theorem BZ(ps:rH)q:((ps.map λq=>(wb q,(P.d (.bl Λ)))).any λkv=>decide (kv.1=wb q))=decide (q∈ps):=by
 rw[ab1,abd,decide_eq_true_eq];constructor;·rintro⟨x,hx,he⟩;rw[abk] at hx;obtain⟨p,hp,rfl⟩:=hx;rw[decide_eq_true_eq] at he;exact wc he▸hp
 ·intro h;exact⟨_,abk.mpr ⟨q,h,rfl⟩,by simp⟩
theorem B0(h:st[k]?=Δ (bS ps))(hl:ps.length < au)i j:pI (.obj k) (.d (.tup [nD i,nD j])) (.d (.bl Λ)) st=Δ (st.set k (bS (xw ps (i,j)))):=by
 have e:Bi (bS ps) (.d (.tup [nD i,nD j])) (.d (.bl Λ))=Δ (bS (xw ps (i,j))):=by
  unfold Bi bS Ep;simp only[ZA,if_pos hl,yU,aag];congr 2;unfold nq;rw[BZ];unfold xw;by_cases hq:(i,j)∈ps
  ·rw[if_pos (by simpa using hq),if_pos hq,ab7];refine List.map_congr_left λq _=>?_;simp only[Function.comp_apply];split;·rfl
   ·rfl
  ·rw[if_neg (by simpa using hq),if_neg hq,aan];rfl
 unfold pI;simp only[h,aax,e,aag]
theorem LY(h:st[k]?=Δ (bS ps))i j:kr .isin (.d (.tup [nD i,nD j])) (.obj k) st=Δ (decide ((i,j)∈ps)):=by
 show Ih _ _ _=_;unfold Ih;have e1:bJ st (.obj k)=Δ (bS ps):=by simp[bJ,FT,h,bS,kq]
 rw[e1];simp only[bS,pH,yU,aag];congr 1;unfold fU;rw[acu,<-BZ,ab1,List.find?_isSome,abd]
theorem Jl a b:FU (.d (wD a)) (.d (wD b))=Δ ((a.zip b).map λq=>D.tup [nD q.1,nD q.2]):=by unfold FU wD;simp only[List.zip_map,ab7];rfl
theorem P4(h:st[k]?=Δ (bS ps)):ur .len [.obj k] st=Δ (.d (.int ps.length)):=by
 have e1:bJ st (.obj k)=Δ (bS ps):=by simp[bJ,FT,h,bS,kq]
 unfold ur;simp only[e1,bS,Ig,ZA]
theorem Jm bN(o:O):(bN++[o])[bN.length]?=Δ o:=by simp
theorem Jn bN(o o':O):(bN++[o]).set bN.length o'=bN++[o']:=by simp
end Y
namespace Y
structure oS where
 grp:List Nat
 mem:List (List Nat)
 wait:List Nat
 jD:List Bool
noncomputable def putAll(fresh:Nat)(ss:List Nat)(g:List Nat):List Nat:=ss.foldl (λg s=>g.set s fresh) g
def aD(h:oS)(g:Nat)(ss:List Nat):oS:=
 if ss.length=(h.mem.getD g []).length then h else
  let rest:=(h.mem.getD g []).filter λs=>decide (s∉ss)
  let mem:=h.mem.set g rest++[ss]
  let grp:=putAll h.mem.length ss h.grp
  if h.jD.getD g Ξ=Λ\/ss.length<=rest.length then⟨grp,mem,h.wait++[h.mem.length],(h.jD++[Ξ]).set h.mem.length Λ⟩
  else⟨grp,mem,h.wait++[g],(h.jD++[Ξ]).set g Λ⟩
noncomputable def dQ:List (Nat×List Nat)->Nat->Nat->List (Nat×List Nat)
 |[],g,s=>[(g,[s])]|(k,ss)::d,g,s=>if k=g then(k,ss++[s])::d else(k,ss)::dQ d g s
def cN(grp:List Nat)(l:List Nat):List (Nat×List Nat):=l.foldl (λd s=>dQ d (grp.getD s 0) s) []
def eE(m:dw)(a t:Nat):List Nat:=(Zq m.length).filter λs=>decide (bB m s a=t)
def fi(m:dw)(h:oS)(T:List Nat)(a:Nat):oS:=(cN h.grp (T.flatMap (eE m a))).foldl (λh e=>aD h e.1 e.2) h
theorem ox:∀{ss g},(putAll fresh ss g).length=g.length
 |[],g=>rfl|s::ss,g=>by unfold putAll;rw[abH];exact(ox (ss:=ss)).trans (aaX ..)
theorem wd:∀{ss g} {x},x < g.length->(putAll fresh ss g).getD x 0=if x∈ss then fresh else g.getD x 0
 |[],g,x,h=>by simp[putAll]|s::ss,g,x,h=>by
  have ih:=wd (fresh:=fresh) (ss:=ss) (g:=g.set s fresh) (x:=x) (by simpa using h);unfold putAll at ih ⊢;rw[abH,ih];by_cases hx:x∈ss;·rw[if_pos hx,if_pos (Zs _ hx)]
  ·rw[if_neg hx];by_cases e:x=s;·subst e;rw[if_pos Zx,Zz,ZY h];rfl
   ·rw[if_neg (λz=>by rcases abM.mp z with z|z;exact e z;exact hx z),Zz,Zw (λz=>e z.symm),<-Zz]
theorem yV:∀{d} {k} {ss},(d.map (·.1)).Nodup->((k,ss)∈dQ d g s↔(k≠g/\(k,ss)∈d)\/(k=g/\((∃r,(g,r)∈d/\ss=r++[s])\/((∀r,(g,r)∉d)/\ss=[s]))))
 |[],k,ss,_=>by simp only[dQ,aaJ,Prod.mk.injEq,abx,and_false,false_or,not_false_eq_true,implies_true,true_and,false_and,exists_false]|(j,rs)::d,k,ss,nd=>by
  simp only[ZH,aaW] at nd;have hj:∀r,(j,r)∉d:=λr hr=>nd.1 (abk.mpr ⟨_,hr,rfl⟩);simp only[dQ];split
  ·rename_i e;subst e;constructor
   ·intro h;rcases abM.mp h with h|h;·injection h with h1 h2;exact .inr ⟨h1,.inl ⟨rs,Zx,h2⟩⟩
    ·exact .inl ⟨λz=>hj ss (by rw[z] at h;exact h),Zs _ h⟩
   ·rintro(⟨h1,h2⟩|⟨h1,h2⟩)
    ·rcases abM.mp h2 with h|h;·injection h with h3 h4;exact absurd h3 h1
     ·exact Zs _ h
    ·subst h1;rcases h2 with ⟨r,hr,e⟩|⟨hn,e⟩
     ·rcases abM.mp hr with h|h;·injection h with h3 h4;rw[e,h4];exact Zx
      ·exact absurd h (hj r)
     ·exact absurd Zx (hn rs)
  ·rename_i e;have ih:=yV (g:=g) (s:=s) (d:=d) (k:=k) (ss:=ss) nd.2;constructor
   ·intro h;rcases abM.mp h with h|h;·injection h with h1 h2;subst h1;subst h2;exact .inl ⟨e,Zx⟩
    ·rcases ih.mp h with ⟨h1,h2⟩|⟨h1,h2⟩
     ·exact .inl ⟨h1,Zs _ h2⟩
     ·refine .inr ⟨h1,?_⟩;rcases h2 with ⟨r,hr,e2⟩|⟨hn,e2⟩
      ·exact .inl ⟨r,Zs _ hr,e2⟩
      ·refine .inr ⟨λr hr=>?_,e2⟩;rcases abM.mp hr with z|z;·injection z with z1 z2;exact e z1.symm
       ·exact hn r z
   ·rintro(⟨h1,h2⟩|⟨h1,h2⟩)
    ·rcases abM.mp h2 with h|h;·rw[h];exact Zx
     ·exact Zs _ (ih.mpr (.inl ⟨h1,h⟩))
    ·refine Zs _ (ih.mpr (.inr ⟨h1,?_⟩));rcases h2 with ⟨r,hr,e2⟩|⟨hn,e2⟩
     ·rcases abM.mp hr with z|z;·injection z with z1 z2;exact absurd z1.symm e
      ·exact .inl ⟨r,z,e2⟩
     ·exact .inr ⟨λr hr=>hn r (Zs _ hr),e2⟩
theorem lj:∀{d},(dQ d g s).map (·.1)=if g∈d.map (·.1) then d.map (·.1) else d.map (·.1)++[g]
 |[]=>by simp[dQ]|(j,rs)::d=>by
  have ih:=lj (g:=g) (s:=s) (d:=d);simp only[dQ];split;·rename_i e;subst e;simp
  ·rename_i e;rw[ZH,ih];have e':¬g=j:=λz=>e z.symm;by_cases h:g∈d.map (·.1);·rw[if_pos h,if_pos (by rw[ZH];exact Zs _ h)];rfl
   ·rw[if_neg h,if_neg (by rw[ZH];intro z;rcases abM.mp z with z|z;exact e' z;exact h z)];rfl
theorem Jo(h:(d.map (·.1)).Nodup):((dQ d g s).map (·.1)).Nodup:=by
 rw[lj];split;·exact h
 ·rename_i hg;rw[aar];exact⟨h,by simp,λa ha b hb=>by simp at hb;subst hb;exact λz=>hg (z▸ha)⟩
theorem we{grp:List Nat}:∀{l done:List Nat} {d},(d.map (·.1)).Nodup->(∀k ss,(k,ss)∈d->ss=done.filter (λs=>decide (grp.getD s 0=k))/\ss≠[])->(∀s∈done,∃ss,(grp.getD s 0,ss)∈d)->
  ((l.foldl (λd s=>dQ d (grp.getD s 0) s) d).map (·.1)).Nodup/\(∀k ss,(k,ss)∈l.foldl (λd s=>dQ d (grp.getD s 0) s) d->ss=(done++l).filter (λs=>decide (grp.getD s 0=k))/\ss≠[])/\(∀s∈done++l,∃ss,(grp.getD s 0,ss)∈l.foldl (λd s=>dQ d (grp.getD s 0) s) d)
 |[],done,d,nd,h1,h2=>by simpa using⟨nd,h1,h2⟩|x::l,done,d,nd,h1,h2=>by
  have key:=we (grp:=grp) (l:=l) (done:=done++[x]) (d:=dQ d (grp.getD x 0) x) (Jo nd) (λk ss h=>by
   rcases(yV nd).mp h with ⟨a,b⟩|⟨a,b⟩
   ·obtain⟨c1,c2⟩:=h1 k ss b;refine⟨?_,c2⟩;rw[aco,<-c1,aal (by simp;exact λz=>a z.symm)];simp
   ·subst a;rcases b with ⟨r,hr,e⟩|⟨hn,e⟩
    ·obtain⟨c1,c2⟩:=h1 _ r hr;refine⟨?_,by rw[e];simp⟩;rw[aco,<-c1,aae (by simp),e];simp
    ·refine⟨?_,by rw[e];simp⟩;have:done.filter (λs=>decide (grp.getD s 0=grp.getD x 0))=[]:=by rw[abJ];intro s hs hd;obtain⟨ss,wj⟩:=h2 s hs;rw[decide_eq_true_eq] at hd;rw[hd] at wj;exact hn ss wj
     rw[aco,this,aae (by simp),e];simp) (λs hs=>by
   have e:(grp.getD x 0)∈(dQ d (grp.getD x 0) x).map (·.1):=by
    rw[lj];split;·assumption
    ·simp
   have ex:∀k,k∈d.map (·.1)\/k=grp.getD x 0->∃ss,(k,ss)∈dQ d (grp.getD x 0) x:=λk hk=>by
    have:k∈(dQ d (grp.getD x 0) x).map (·.1):=by
     rcases hk with hk|hk
     ·rw[lj];split;·exact hk
      ·exact aaG _ hk
     ·rw[hk];exact e
    obtain⟨p,hp,e2⟩:=abk.mp this;exact⟨p.2,by rw[<-e2];exact hp⟩
   rcases acQ.mp hs with z|z;·obtain⟨ss,wj⟩:=h2 s z;exact ex _ (.inl (abk.mpr ⟨_,wj,rfl⟩))
   ·rw[aaJ] at z;subst z;exact ex _ (.inr rfl))
  rw[aas] at key;exact key
theorem fb grp l:((cN grp l).map (·.1)).Nodup/\(∀k ss,(k,ss)∈cN grp l->ss=l.filter (λs=>decide (grp.getD s 0=k))/\ss≠[])/\∀s∈l,∃ss,(grp.getD s 0,ss)∈cN grp l:=by have:=we (grp:=grp) (l:=l) (done:=[]) (d:=[]) (by simp) (λ_ _ h=>by cases h) (λ_ h=>by cases h);simpa[cN] using this
section
abbrev oS.c0(h:oS)(s:Nat):Nat:=h.grp.getD s 0
structure lp(w:Nat)(m:dw)(T:List Nat)(R:Nat->Prop)(h:oS):Prop where
 tI:h.grp.length=m.length
 oy:h.jD.length=h.mem.length
 blt:∀s,s < m.length->h.c0 s < h.mem.length
 mem:∀g,g < h.mem.length->(h.mem.getD g []).Nodup/\∀s,s∈h.mem.getD g []↔s < m.length/\h.c0 s=g
 M5:h.wait.Nodup
 wt:∀g,g∈h.wait↔g < h.mem.length/\h.jD.getD g Ξ=Λ
 snd:∀s t,s < m.length->t < m.length->h.c0 s≠h.c0 t->¬jS w m s m t
 good:∀s t,s < m.length->t < m.length->h.c0 s=h.c0 t->gd m s=gd m t
 sep:∀s t a,s < m.length->t < m.length->a < w->h.c0 s=h.c0 t->h.c0 (bB m s a)≠h.c0 (bB m t a)->h.c0 (bB m s a)∈h.wait\/h.c0 (bB m t a)∈h.wait\/(R a/\¬(bB m s a∈T↔bB m t a∈T))
noncomputable def mz(m:dw)(h h':oS):Prop:=∀s t,s < m.length->t < m.length->h'.c0 s=h'.c0 t->h.c0 s=h.c0 t
theorem mz.refl:mz m h h:=λ_ _ _ _ e=>e
theorem mz.trans(a:mz m h h1)(b:mz m h1 h2):mz m h h2:=λs t hs ht e=>a s t hs ht (b s t hs ht e)
theorem jv{α:Type}{l r:List α}{d:α}(h:i < l.length):(l++r).getD i d=l.getD i d:=by rw[Zz,Zz,Zy h]
theorem jT{α:Type}{l:List α}{x d:α}:(l++[x]).getD l.length d=x:=by rw[Zz];simp
theorem fJ{α:Type}{l:List α}{x d:α}(h:i < l.length):(l.set i x).getD i d=x:=by rw[Zz,ZY h];rfl
theorem dR{α:Type}{l:List α}{x d:α}(h:i≠j):(l.set i x).getD j d=l.getD j d:=by rw[Zz,Zw h,<-Zz]
variable{w:Nat}{m:dw}{T:List Nat}{R:Nat->Prop}{h:oS}
theorem sub_len{ss xs:List Nat}(hn:ss.Nodup)(hs:∀s∈ss,s∈xs):ss.length<=xs.length:=by
 induction ss generalizing xs with
 |nil=>simp|cons s ss ih=>
  rw[aaW] at hn;have h1:s∈xs:=hs s Zx;have:=ih (xs:=xs.erase s) hn.2 λt ht=>by have:t≠s:=λz=>hn.1 (z▸ht);exact(acy this).mpr (hs t (Zs _ ht))
  rw[acd h1] at this;have:=abl h1;simp
  lia
theorem LZ{ss xs:List Nat}(hn:ss.Nodup)(hx:xs.Nodup)(hs:∀s∈ss,s∈xs)(hl:ss.length=xs.length):∀x∈xs,x∈ss:=by
 intro x LR;apply Z5;intro hc;have:=sub_len (ss:=ss) (xs:=xs.erase x) hn λt ht=>by have:t≠x:=λz=>hc (z▸ht);exact(acy this).mpr (hs t ht)
 rw[acd LR] at this;have:=abl LR
 lia
theorem Am(hi:lp w m T R h)(hc:ss.length≠(h.mem.getD g []).length)(hx:x < m.length):(aD h g ss).c0 x=if x∈ss then h.mem.length else h.c0 x:=by
 have e:(aD h g ss).grp=putAll h.mem.length ss h.grp:=by unfold aD;rw[if_neg hc];dsimp only;split<;>rfl
 show(aD h g ss).grp.getD x 0=_;rw[e];exact wd (by rw[hi.tI];exact hx)
theorem p6(hc:ss.length≠(h.mem.getD g []).length):(aD h g ss).mem=h.mem.set g ((h.mem.getD g []).filter λs=>decide (s∉ss))++[ss]:=by unfold aD;rw[if_neg hc];dsimp only;split<;>rfl
noncomputable def mB(h:oS)(g:Nat)(ss:List Nat):Nat:=if h.jD.getD g Ξ=Λ\/ss.length<=((h.mem.getD g []).filter λs=>decide (s∉ss)).length then h.mem.length else g
theorem xy(hc:ss.length≠(h.mem.getD g []).length):(aD h g ss).wait=h.wait++[mB h g ss]/\(aD h g ss).jD=(h.jD++[Ξ]).set (mB h g ss) Λ:=by unfold aD mB;rw[if_neg hc];dsimp only;split<;>exact⟨rfl,rfl⟩
theorem p7(hi:lp w m T R h)(hg:g < h.mem.length)(ha:a < w)(wj:∀s,s∈ss↔s∈h.mem.getD g []/\bB m s a∈T)(Gm:ss.Nodup)(fT:ss≠[])(hT:∀x y,x < m.length->y < m.length->x∈T->y∉T->¬jS w m x m y)(ok:eY w m):
  lp w m T R (aD h g ss)/\mz m h (aD h g ss)/\(∀s t,s < m.length->t < m.length->h.c0 s=g->h.c0 t=g->(aD h g ss).c0 s=(aD h g ss).c0 t->(bB m s a∈T↔bB m t a∈T))/\
   (∀s,s < m.length->h.c0 s≠g->(aD h g ss).c0 s=h.c0 s)/\(∀k,k < h.mem.length->k≠g->(aD h g ss).mem.getD k []=h.mem.getD k [])/\h.mem.length<=(aD h g ss).mem.length/\
   (aD h g ss).wait.length+h.mem.length=h.wait.length+(aD h g ss).mem.length:=by
 obtain⟨gn,gm⟩:=hi.mem g hg;have sub:∀s∈ss,s∈h.mem.getD g []:=λs hs=>((wj s).mp hs).1;by_cases hc:ss.length=(h.mem.getD g []).length
 ·have e:aD h g ss=h:=by unfold aD;rw[if_pos hc]
  rw[e];refine⟨hi,mz.refl,λs t hs ht es et _=>?_,λ_ _ _=>rfl,λ_ _ _=>rfl,ZC _,rfl⟩;have all:=LZ Gm gn sub hc;exact⟨λ_=>((wj t).mp (all t ((gm t).mpr ⟨ht,et⟩))).2,λ_=>((wj s).mp (all s ((gm s).mpr ⟨hs,es⟩))).2⟩
 ·have B:=λ{x:Nat} (hx:x < m.length)=>Am hi hc hx (g:=g);have M:=p6 (h:=h) hc;obtain⟨Wt,Ws⟩:=xy (h:=h) hc;have ml:(aD h g ss).mem.length=h.mem.length+1:=by rw[M];simp
  have L0:∀x,x∈ss->x < m.length/\h.c0 x=g:=λx hx=>(gm x).mp (sub x hx);have nx:mB h g ss=h.mem.length\/(mB h g ss=g/\h.jD.getD g Ξ=Ξ):=by
   unfold mB;split;·exact .inl rfl
   ·rename_i q;refine .inr ⟨rfl,?_⟩;cases z:h.jD.getD g Ξ with|false=>rfl|true=>exact absurd (.inl z) q
  have same:∀s t,s < m.length->t < m.length->(aD h g ss).c0 s=(aD h g ss).c0 t->h.c0 s=h.c0 t/\(s∈ss↔t∈ss):=λs t hs ht e=>by
   rw[B hs,B ht] at e;have b1:=hi.blt s hs;have b2:=hi.blt t ht;by_cases z1:s∈ss<;>by_cases z2:t∈ss;·exact⟨(L0 s z1).2.trans (L0 t z2).2.symm,by simp[z1,z2]⟩
   ·rw[if_pos z1,if_neg z2] at e;lia
   ·rw[if_neg z1,if_pos z2] at e;lia
   ·rw[if_neg z1,if_neg z2] at e;exact⟨e,by simp[z1,z2]⟩
  refine⟨⟨?_,?_,?_,?_,?_,?_,?_,?_,?_⟩,λs t hs ht e=>(same s t hs ht e).1,?_,?_,?_,by lia,?_⟩
  ·have:(aD h g ss).grp=putAll h.mem.length ss h.grp:=by unfold aD;rw[if_neg hc];dsimp only;split<;>rfl
   rw[this,ox,hi.tI]
  ·rw[ml,Ws];simp[hi.oy]
  ·intro s hs;rw[B hs,ml];have:=hi.blt s hs;split<;>lia
  ·intro k hk;rw[ml] at hk;rw[M];by_cases e1:k=h.mem.length
   ·subst e1;have e2:(h.mem.set g ((h.mem.getD g []).filter λs=>decide (s∉ss))++[ss]).getD h.mem.length []=ss:=by have:=jT (l:=h.mem.set g ((h.mem.getD g []).filter λs=>decide (s∉ss))) (x:=ss) (d:=[]);rw[aaX] at this;exact this
    rw[e2];refine⟨Gm,λs=>⟨λhs=>⟨(L0 s hs).1,by rw[B (L0 s hs).1,if_pos hs]⟩,λgy=>?_⟩⟩;obtain⟨hs,e⟩:=gy;rw[B hs] at e;by_cases z:s∈ss;·exact z
    ·rw[if_neg z] at e;have:=hi.blt s hs;lia
   ·have yk:k < h.mem.length:=by lia
    rw[jv (by simpa using yk)];by_cases e2:k=g
    ·subst e2;rw[fJ yk];refine⟨gn.filter _,λs=>?_⟩;rw[aaE,gm,decide_eq_true_eq];constructor;·rintro⟨qv,hn⟩;obtain⟨hs,e⟩:=qv;exact⟨hs,by rw[B hs,if_neg hn];exact e⟩
     ·rintro⟨hs,e⟩;rw[B hs] at e;by_cases z:s∈ss;·rw[if_pos z] at e;lia
      ·rw[if_neg z] at e;exact⟨⟨hs,e⟩,z⟩
    ·rw[dR (λz=>e2 z.symm)];obtain⟨q1,q2⟩:=hi.mem k yk;refine⟨q1,λs=>?_⟩;rw[q2];constructor
     ·rintro⟨hs,e⟩;refine⟨hs,?_⟩;rw[B hs];split;·rename_i z;exact absurd (e.symm.trans (L0 s z).2) e2
      ·exact e
     ·rintro⟨hs,e⟩;refine⟨hs,?_⟩;rw[B hs] at e;split at e
      ·lia
      ·exact e
  ·rw[Wt,aar];refine⟨hi.M5,by simp,λx hx y hy=>?_⟩;rw[aaJ] at hy;subst hy;intro z;subst z;obtain⟨p,q⟩:=(hi.wt _).mp hx;rcases nx with e|⟨e,f⟩
   ·lia
   ·rw[e,f] at q;exact ft q
  ·intro k;rw[Wt,Ws,ml,acQ,aaJ];by_cases e:k=mB h g ss
   ·subst e;have l1:mB h g ss < (h.jD++[Ξ]).length:=by rw[ZW,hi.oy];rcases nx with e|⟨e,_⟩<;>simp<;>lia
    rw[fJ l1];refine⟨λ_=>⟨?_,rfl⟩,λ_=>.inr rfl⟩;rcases nx with e|⟨e,_⟩<;>lia
   ·rw[dR (λz=>e z.symm)];constructor
    ·rintro(hk|hk);·obtain⟨p,q⟩:=(hi.wt k).mp hk;exact⟨by lia,by rw[jv (by rw[hi.oy];exact p)];exact q⟩
     ·exact absurd hk e
    ·rintro⟨p,q⟩;by_cases z:k=h.mem.length
     ·subst z;have:(h.jD++[Ξ]).getD h.mem.length Ξ=Ξ:=by rw[<-hi.oy];exact jT
      rw[this] at q;exact ft q
     ·rw[jv (by rw[hi.oy];lia)] at q;exact .inl ((hi.wt k).mpr ⟨by lia,q⟩)
  ·intro s t hs ht hb;by_cases e:h.c0 s=h.c0 t
   ·rw[B hs,B ht] at hb;have go:∀x y,x < m.length->y < m.length->x∈ss->y∉ss->h.c0 x=h.c0 y->¬jS w m x m y:=λx y hx hy z1 z2 e sm=>by have e1:y∈h.mem.getD g []:=(gm y).mpr ⟨hy,e▸(L0 x z1).2⟩;have e2:bB m y a∉T:=λz=>z2 ((wj y).mpr ⟨e1,z⟩);exact hT _ _ (ok.bB hx ha) (ok.bB hy ha) ((wj x).mp z1).2 e2 (sm.step ha)
    by_cases z1:s∈ss<;>by_cases z2:t∈ss;·simp[z1,z2] at hb
    ·exact go s t hs ht z1 z2 e
    ·exact λsm=>go t s ht hs z2 z1 e.symm sm.symm
    ·rw[if_neg z1,if_neg z2] at hb;exact absurd e hb
   ·exact hi.snd s t hs ht e
  ·intro s t hs ht e;exact hi.good s t hs ht (same s t hs ht e).1
  ·intro s t b hs ht hb e L6;have p1:=ok.bB hs hb;have p2:=ok.bB ht hb;have e0:=(same s t hs ht e).1;rw[Wt];by_cases c:h.c0 (bB m s b)=h.c0 (bB m t b)
   ·
    rw[B p1,B p2] at L6 ⊢;have go:∀x y,x∈ss->y∉ss->h.c0 x=h.c0 y->h.c0 y=g:=λx y z1 z2 e=>e▸(L0 x z1).2;by_cases z1:bB m s b∈ss<;>by_cases z2:bB m t b∈ss;·simp[z1,z2] at L6
    ·rw[if_pos z1,if_neg z2,go _ _ z1 z2 c];rcases nx with q|⟨q,_⟩;·exact .inl (by rw[q];simp)
     ·exact .inr (.inl (by rw[q];simp))
    ·rw[if_neg z1,if_pos z2,go _ _ z2 z1 c.symm];rcases nx with q|⟨q,_⟩;·exact .inr (.inl (by rw[q];simp))
     ·exact .inl (by rw[q];simp)
    ·rw[if_neg z1,if_neg z2] at L6;exact absurd c L6
   ·
    have keep:∀x,x < m.length->h.c0 x∈h.wait->(aD h g ss).c0 x∈h.wait++[mB h g ss]:=λx hx hw=>by
     rw[B hx];split
     ·rename_i z;have e1:=(L0 x z).2;rw[e1] at hw;have:mB h g ss=h.mem.length:=by unfold mB;rw[if_pos (.inl ((hi.wt g).mp hw).2)]
      rw[this];simp
     ·exact aaG _ hw
    rcases hi.sep s t b hs ht hb e0 c with q|q|q;·exact .inl (keep _ p1 q)
    ·exact .inr (.inl (keep _ p2 q))
    ·exact .inr (.inr q)
  ·intro s t hs ht es et e;have e2:=(same s t hs ht e).2;have i1:s∈ss↔bB m s a∈T:=by rw[wj];exact⟨λz=>z.2,λz=>⟨(gm s).mpr ⟨hs,es⟩,z⟩⟩
   have i2:t∈ss↔bB m t a∈T:=by rw[wj];exact⟨λz=>z.2,λz=>⟨(gm t).mpr ⟨ht,et⟩,z⟩⟩
   rw[<-i1,<-i2];exact e2
  ·intro s hs hn;rw[B hs,if_neg λz=>hn (L0 s z).2]
  ·intro k hk hn;rw[M,jv (by simpa using hk),dR λz=>hn z.symm]
  ·rw[Wt,ml];simp;lia
end
section
variable{w:Nat}{m:dw}{T:List Nat}{R:Nat->Prop}{h h0:oS}
noncomputable def xA(h:oS):Prop:=∀g,2<=g->g < h.mem.length->h.mem.getD g []≠[]
theorem sR(hi:lp w m T R h)(hn:xA h)(hg:g < h.mem.length)(wj:∀s∈ss,s∈h.mem.getD g [])(Gm:ss.Nodup)(fT:ss≠[]):xA (aD h g ss):=by
 obtain⟨gn,gm⟩:=hi.mem g hg;by_cases hc:ss.length=(h.mem.getD g []).length
 ·have e:aD h g ss=h:=by unfold aD;rw[if_pos hc]
  rw[e];exact hn
 ·have M:=p6 (h:=h) hc;have ml:(aD h g ss).mem.length=h.mem.length+1:=by rw[M];simp
  intro k xk hk;rw[ml] at hk;rw[M];by_cases e1:k=h.mem.length
  ·subst e1;have e2:(h.mem.set g ((h.mem.getD g []).filter λs=>decide (s∉ss))++[ss]).getD h.mem.length []=ss:=by have:=jT (l:=h.mem.set g ((h.mem.getD g []).filter λs=>decide (s∉ss))) (x:=ss) (d:=[]);rw[aaX] at this;exact this
   rw[e2];exact fT
  ·have yk:k < h.mem.length:=by lia
   rw[jv (by simpa using yk)];by_cases e2:k=g
   ·subst e2;rw[fJ yk];intro z;rw[abJ] at z;have:∀x∈h.mem.getD k [],x∈ss:=λx hx=>by have:=z x hx;simpa using this
    have l1:=sub_len gn this;have l2:=sub_len Gm wj
    lia
   ·rw[dR (λz=>e2 z.symm)];exact hn k xk yk
theorem xA.bound(hi:lp w m T R h)(hn:xA h):h.mem.length<=m.length+2:=by
 have key:=sub_len (ss:=(Zq (h.mem.length - 2)).map λg=>(h.mem.getD (g+2) []).headD 0) (xs:=Zq m.length) ?_ ?_;·simp at key;lia
 ·rw[List.nodup_iff_pairwise_ne,List.pairwise_map];refine List.Pairwise.imp_of_mem ?_ (aby);intro a b ha hb OD e;simp only[aaF] at ha hb;have hd:∀g,g < h.mem.length - 2->(h.mem.getD (g+2) []).headD 0∈h.mem.getD (g+2) []:=λg hg=>by have:=hn (g+2) (by lia) (by lia);cases q:h.mem.getD (g+2) [] with|nil=>exact absurd q this|cons x r=>simp
  have m1:=((hi.mem (a+2) (by lia)).2 _).mp (hd a ha);have m2:=((hi.mem (b+2) (by lia)).2 _).mp (hd b hb);rw[e] at m1;have:=m1.2.symm.trans m2.2
  lia
 ·intro s hs;rw[abk] at hs;obtain⟨g,hg,e⟩:=hs;rw[aaF] at hg;have:=hn (g+2) (by lia) (by lia);cases q:h.mem.getD (g+2) [] with|nil=>exact absurd q this|cons x r=>rw[q] at e;have m1:=((hi.mem (g+2) (by lia)).2 x).mp (by rw[q];simp);simp at e;rw[<-e,aaF];exact m1.1
theorem B1(ok:eY w m)(ha:a < w)(hT:∀x y,x < m.length->y < m.length->x∈T->y∉T->¬jS w m x m y):∀{es:List (Nat×List Nat)} {h} {Dn:Nat->Prop},lp w m T R h->xA h->mz m h0 h->(es.map (·.1)).Nodup->
  (∀k ss,(k,ss)∈es->k < h.mem.length/\(∀s,s < m.length->(h.c0 s=k↔h0.c0 s=k))/\(∀s,s∈ss↔s∈h.mem.getD k []/\bB m s a∈T)/\ss.Nodup/\ss≠[])->
  (∀s t,s < m.length->t < m.length->h.c0 s=h.c0 t->Dn (h0.c0 s)->(bB m s a∈T↔bB m t a∈T))->
  lp w m T R (es.foldl (λh e=>aD h e.1 e.2) h)/\xA (es.foldl (λh e=>aD h e.1 e.2) h)/\mz m h0 (es.foldl (λh e=>aD h e.1 e.2) h)/\
  (∀s t,s < m.length->t < m.length->(es.foldl (λh e=>aD h e.1 e.2) h).c0 s=(es.foldl (λh e=>aD h e.1 e.2) h).c0 t->(Dn (h0.c0 s)\/h0.c0 s∈es.map (·.1))->(bB m s a∈T↔bB m t a∈T))/\
  (es.foldl (λh e=>aD h e.1 e.2) h).wait.length+h.mem.length=h.wait.length+(es.foldl (λh e=>aD h e.1 e.2) h).mem.length/\h.mem.length<=(es.foldl (λh e=>aD h e.1 e.2) h).mem.length
 |[],h,Dn,hi,hn,hf,_,_,hd=>⟨hi,hn,hf,λs t hs ht e d=>hd s t hs ht e (by rcases d with d|d;exact d;simp at d),rfl,ZC _⟩|(k,ss)::es,h,Dn,hi,hn,hf,nd,hes,hd=>by
  refine cps λgG kG=>?_;refine kJ (λk1 k2 k3 k4 k5=>?_) (hes k ss Zx);obtain⟨i1,i2,i3,i4,i5,i6,i7⟩:=p7 hi k1 ha k3 k4 k5 hT ok;have n1:=sR hi hn k1 (λs hs=>((k3 s).mp hs).1) k4 k5;rw[ZH,aaW] at nd;refine kK (λf1 f2 f3 f4 f5 f6=>?_) (B1 ok ha hT (h:=aD h k ss) (Dn:=λj=>Dn j\/j=k) i1 n1 (hf.trans i2) nd.2 (λj rs hj=>by
   obtain⟨j1,j2,j3,j4,j5⟩:=hes j rs (Zs _ hj);have hjk:j≠k:=λz=>nd.1 (abk.mpr ⟨_,hj,z⟩);refine⟨by lia,λs hs=>?_,λs=>by rw[j3,i5 j j1 hjk],j4,j5⟩;rw[<-j2 s hs];have q1:=(i1.mem j (by lia)).2 s;have q2:=(hi.mem j j1).2 s;rw[i5 j j1 hjk,q2] at q1;exact⟨λz=>(q1.mpr ⟨hs,z⟩).2,λz=>(q1.mp ⟨hs,z⟩).2⟩) (λs t hs ht e d=>by
   rcases d with d|d;·exact hd s t hs ht (i2 s t hs ht e) d
   ·have e1:h.c0 s=k:=(k2 s hs).mpr d;have e2:h.c0 t=k:=(i2 s t hs ht e)▸e1;exact i3 s t hs ht e1 e2 e))
  refine kG ?_;refine⟨f1,f2,f3,λs t hs ht e d=>f4 s t hs ht e ?_,?_,by rw[abH];dsimp only;lia⟩
  ·rcases d with d|d;·exact .inl (.inl d)
   ·rw[ZH] at d;rcases abM.mp d with d|d;·exact .inl (.inr d)
    ·exact .inr d
  ·rw[abH];dsimp only
   lia
theorem mC:s∈eE m a t↔s < m.length/\bB m s a=t:=by unfold eE;rw[aaE,aaF,decide_eq_true_eq]
theorem p8:s∈T.flatMap (eE m a)↔s < m.length/\bB m s a∈T:=by
 rw[acH];constructor;·rintro⟨t,ht,hs⟩;obtain⟨p,q⟩:=mC.mp hs;exact⟨p,q▸ht⟩
 ·rintro⟨p,q⟩;exact⟨_,q,mC.mpr ⟨p,rfl⟩⟩
theorem uD:∀{T:List Nat},T.Nodup->(T.flatMap (eE m a)).Nodup
 |[],_=>by simp|t::T,hn=>by rw[aaW] at hn;rw[acv,aar];refine⟨(aby).filter _,uD hn.2,λx hx y hy=>?_⟩;rintro rfl;have e1:=(mC.mp hx).2;have e2:=(p8.mp hy).2;rw[e1] at e2;exact hn.1 e2
theorem sT(ok:eY w m)(ha:a < w)(hT:∀x y,x < m.length->y < m.length->x∈T->y∉T->¬jS w m x m y)(L7:T.Nodup)(hi:lp w m T R h)(hn:xA h):
  lp w m T (λb=>R b/\b≠a) (fi m h T a)/\xA (fi m h T a)/\(fi m h T a).wait.length+h.mem.length=h.wait.length+(fi m h T a).mem.length/\h.mem.length<=(fi m h T a).mem.length:=by
 refine AE (λs1 s2 s3=>?_) (fb h.grp (T.flatMap (eE m a)));have L:=λs=>p8 (m:=m) (T:=T) (a:=a) (s:=s);have Ln:=uD (m:=m) (a:=a) L7;have key:=B1 (h0:=h) (Dn:=λ_=>False) ok ha hT hi hn mz.refl s1 (λk ss hk=>by
  obtain⟨e,fT⟩:=s2 k ss hk;have xk:k < h.mem.length:=by
   cases q:ss with
   |nil=>exact absurd q fT|cons x r=>
    have hx:x∈ss:=by rw[q];simp
    rw[e,aaE,decide_eq_true_eq] at hx;rw[<-hx.2];exact hi.blt x ((L x).mp hx.1).1
  refine⟨xk,λ_ _=>Iff.rfl,λs=>?_,by rw[e];exact Ln.filter _,fT⟩;rw[e,aaE,decide_eq_true_eq,L,(hi.mem k xk).2];constructor;·rintro⟨⟨p,q⟩,r⟩;exact⟨⟨p,r⟩,q⟩
  ·rintro⟨⟨p,r⟩,q⟩;exact⟨⟨p,q⟩,r⟩) (λ_ _ _ _ _ d=>d.elim)
 revert key;refine kK λf1 f2 f3 f4 f5 f6=>?_;refine⟨⟨f1.tI,f1.oy,f1.blt,f1.mem,f1.M5,f1.wt,f1.snd,f1.good,λs t b hs ht hb e fT=>?_⟩,f2,f5,f6⟩;rcases f1.sep s t b hs ht hb e fT with q|q|⟨q1,q2⟩;·exact .inl q
 ·exact .inr (.inl q)
 ·refine .inr (.inr ⟨⟨q1,λz=>q2 ?_⟩,q2⟩);subst z;by_cases c:h.c0 s∈(cN h.grp (T.flatMap (eE m b))).map (·.1);·exact f4 s t hs ht e (.inr c)
  ·have e0:h.c0 s=h.c0 t:=f3 s t hs ht e;have no:∀x,x < m.length->h.c0 x=h.c0 s->bB m x b∉T:=λx hx ex hc=>by obtain⟨ss,wj⟩:=s3 x ((L x).mpr ⟨hx,hc⟩);exact c (abk.mpr ⟨_,wj,ex⟩)
   exact⟨λz=>absurd z (no s hs rfl),λz=>absurd z (no t ht e0.symm)⟩
noncomputable def mE(h:oS)(g:Nat):oS:=⟨h.grp,h.mem,h.wait.dropLast,h.jD.set g Ξ⟩
def fj(m:dw)(T:List Nat)(as:List Nat)(h:oS):oS:=as.foldl (λh a=>fi m h T a) h
def p9(m:dw)(w:Nat)(h:oS):oS:=fj m (h.mem.getD (h.wait.getLast?.getD 0) []) (Zq w) (mE h (h.wait.getLast?.getD 0))
def settle(m:dw)(w:Nat):Nat->oS->oS
 |0,h=>h|n+1,h=>if h.wait=[] then h else settle m w n (p9 m w h)
def wm(w:Nat)(m:dw)(h:oS):Prop:=lp w m [] (λ_=>False) h/\xA h
theorem B2(ok:eY w m)(hT:∀x y,x < m.length->y < m.length->x∈T->y∉T->¬jS w m x m y)(L7:T.Nodup):∀{as} {R} {h},(∀a∈as,a < w)->lp w m T R h->xA h->
  lp w m T (λb=>R b/\b∉as) (fj m T as h)/\xA (fj m T as h)/\(fj m T as h).wait.length+h.mem.length=h.wait.length+(fj m T as h).mem.length/\h.mem.length<=(fj m T as h).mem.length
 |[],R,h,_,hi,hn=>⟨⟨hi.tI,hi.oy,hi.blt,hi.mem,hi.M5,hi.wt,hi.snd,hi.good,λs t b hs ht hb e fT=>by
   rcases hi.sep s t b hs ht hb e fT with q|q|⟨q1,q2⟩;·exact .inl q
   ·exact .inr (.inl q)
   ·exact .inr (.inr ⟨⟨q1,by simp⟩,q2⟩)⟩,hn,rfl,ZC _⟩
 |a::as,R,h,hw,hi,hn=>by
  refine jc (λi1 i2 i3 i4=>?_) (sT ok (hw a Zx) hT L7 hi hn);refine jc (λj1 j2 j3 j4=>?_) (B2 ok hT L7 (as:=as) (λb hb=>hw b (Zs _ hb)) i1 i2);refine⟨⟨j1.tI,j1.oy,j1.blt,j1.mem,j1.M5,j1.wt,j1.snd,j1.good,λs t b hs ht hb e fT=>?_⟩,j2,?_,?_⟩
  ·rcases j1.sep s t b hs ht hb e fT with q|q|⟨⟨⟨q1,q3⟩,q4⟩,q2⟩;·exact .inl q
   ·exact .inr (.inl q)
   ·exact .inr (.inr ⟨⟨q1,λz=>by rcases abM.mp z with z|z;exact q3 z;exact q4 z⟩,q2⟩)
  ·show(fj m T as (fi m h T a)).wait.length+_=_+(fj m T as (fi m h T a)).mem.length
   lia
  ·show _<=(fj m T as (fi m h T a)).mem.length
   lia
theorem B3(ok:eY w m)(hc:wm w m h)(hw:h.wait≠[]):wm w m (p9 m w h)/\(p9 m w h).wait.length+h.mem.length+1=h.wait.length+(p9 m w h).mem.length/\h.mem.length<=(p9 m w h).mem.length:=by
 obtain⟨hi,hn⟩:=hc;obtain⟨g,hg⟩:∃g,h.wait.getLast?=Δ g:=by cases q:h.wait.getLast? with|none=>rw[List.getLast?_eq_none_iff] at q;exact absurd q hw|some g=>exact⟨g,rfl⟩
 have eg:h.wait.getLast?.getD 0=g:=by rw[hg];rfl
 have ew:h.wait=h.wait.dropLast++[g]:=by rw[List.getLast?_eq_some_iff] at hg;obtain⟨ys,e⟩:=hg;rw[e];simp
 have gm:g∈h.wait:=by rw[ew];simp
 obtain⟨g1,g2⟩:=(hi.wt g).mp gm;obtain⟨T1,T2⟩:=hi.mem g g1;have nd:(h.wait.dropLast++[g]).Nodup:=by rw[<-ew];exact hi.M5
 rw[aar] at nd;have P5:g∉h.wait.dropLast:=λz=>nd.2.2 g z g (by simp) rfl;have P6:∀k,k∈h.wait->k≠g->k∈h.wait.dropLast:=λk hk YR=>by
  rw[ew,acQ,aaJ] at hk;rcases hk with z|z;·exact z
  ·exact absurd z YR
 have hT:∀x y,x < m.length->y < m.length->x∈h.mem.getD g []->y∉h.mem.getD g []->¬jS w m x m y:=λx y hx hy z1 z2=>by refine hi.snd x y hx hy λe=>z2 ((T2 y).mpr ⟨hy,?_⟩);rw[<-e];exact((T2 x).mp z1).2
 have ip:lp w m (h.mem.getD g []) (λa=>a < w) (mE h g):=by
  refine⟨hi.tI,by unfold mE;simp[hi.oy],hi.blt,hi.mem,nd.1,λk=>?_,hi.snd,hi.good,λs t b hs ht hb e fT=>?_⟩
  ·unfold mE;dsimp only;by_cases e:k=g;·subst e;refine⟨λz=>absurd z P5,λgy=>?_⟩;obtain⟨_,z⟩:=gy;rw[fJ (by rw[hi.oy];exact g1)] at z;exact ft z
   ·rw[dR λz=>e z.symm];constructor;·intro z;exact(hi.wt k).mp (by rw[ew];exact aaG _ z)
    ·intro z;exact P6 k ((hi.wt k).mpr z) e
  ·have e':h.c0 s=h.c0 t:=e;have zw:h.c0 (bB m s b)≠h.c0 (bB m t b):=fT;have p1:=ok.bB hs hb;have p2:=ok.bB ht hb;have i1:bB m s b∈h.mem.getD g []↔h.c0 (bB m s b)=g:=by rw[T2];exact⟨λz=>z.2,λz=>⟨p1,z⟩⟩
   have i2:bB m t b∈h.mem.getD g []↔h.c0 (bB m t b)=g:=by rw[T2];exact⟨λz=>z.2,λz=>⟨p2,z⟩⟩
   show h.c0 (bB m s b)∈h.wait.dropLast\/h.c0 (bB m t b)∈h.wait.dropLast\/_;by_cases c1:h.c0 (bB m s b)=g;·refine .inr (.inr ⟨hb,λz=>?_⟩);rw[i1,i2] at z;exact zw (c1.trans (z.mp c1).symm)
   ·by_cases c2:h.c0 (bB m t b)=g;·refine .inr (.inr ⟨hb,λz=>?_⟩);rw[i1,i2] at z;exact c1 (z.mpr c2)
    ·rcases hi.sep s t b hs ht hb e' zw with q|q|⟨q,_⟩;·exact .inl (P6 _ q c1)
     ·exact .inr (.inl (P6 _ q c2))
     ·exact q.elim
 have wl:(mE h g).wait.length+1=h.wait.length:=by
  unfold mE;have:=congrArg adR ew;simp at this;dsimp only;rw[List.length_dropLast];have:=abl gm
  lia
 refine jc (λj1 j2 j3 j4=>?_) (B2 ok hT T1 (as:=Zq w) (λa ha=>by simpa using ha) ip (show xA (mE h g) from hn));unfold p9;rw[eg];refine⟨⟨⟨j1.tI,j1.oy,j1.blt,j1.mem,j1.M5,j1.wt,j1.snd,j1.good,λs t b hs ht hb e fT=>?_⟩,j2⟩,?_,j4⟩
 ·rcases j1.sep s t b hs ht hb e fT with q|q|⟨⟨q1,q3⟩,q2⟩;·exact .inl q
  ·exact .inr (.inl q)
  ·exact absurd (by simpa using hb) q3
 ·have:(mE h g).mem.length=h.mem.length:=rfl
  lia
theorem Jp{a b c d m j:Nat}(h:a+(m+2 - b)<=j+1)(h1:c+b+1=a+d)(h2:d<=m+2):c+(m+2 - d)<=j:=by lia
theorem wo(ok:eY w m):∀{n} {h},wm w m h->h.wait.length+(m.length+2 - h.mem.length)<=n->wm w m (settle m w n h)/\(settle m w n h).wait=[]
 |0,h,hc,hl=>by
  have:h.wait=[]:=by cases q:h.wait with|nil=>rfl|cons x r=>rw[q] at hl;simp at hl
  exact⟨hc,this⟩
 |n+1,h,hc,hl=>by
  unfold Y.settle;by_cases hw:h.wait=[];·rw[if_pos hw];exact⟨hc,hw⟩
  ·rw[if_neg hw];refine AE (λc1 c2 c3=>?_) (B3 ok hc hw);have b1:=xA.bound c1.1 c1.2;exact wo ok c1 (Jp hl c2 b1)
theorem B4(ok:eY w m)(hc:wm w m h)(hw:h.wait=[])(hs:s < m.length)(ht:t < m.length):h.c0 s=h.c0 t↔jS w m s m t:=by
 constructor
 ·intro e u;induction u generalizing s t with
  |nil=>intro _;exact hc.1.good s t hs ht e|cons a u ih=>
   intro hu;have ha:=hu.head;refine ih (ok.bB hs ha) (ok.bB ht ha) ?_ hu.tail;apply Z5;intro fT;rcases hc.1.sep s t a hs ht ha e fT with q|q|⟨q,_⟩;·rw[hw] at q;cases q
   ·rw[hw] at q;cases q
   ·exact q
 ·intro YS;apply Z5;intro fT;exact hc.1.snd s t hs ht fT YS
def kf(m:dw):oS:=⟨m.map (·.1),[(Zq m.length).filter λs=>decide (gd m s=0),(Zq m.length).filter λs=>decide (gd m s=1)],[0,1],[Λ,Λ]⟩
theorem dF(hs:s < m.length):(kf m).c0 s=gd m s:=by show(m.map (·.1)).getD s 0=_;unfold gd row;rw[Zz,ZD,Zu hs,Zz,Zu hs];rfl
theorem wq(ok:eY w m):wm w m (kf m):=by
 have g01:∀s,s < m.length->gd m s=0\/gd m s=1:=λs hs=>by
  have:=ok.good _ (aW hs);unfold gd
  lia
 refine⟨⟨by simp[kf],rfl,λs hs=>?_,λg hg=>?_,by simp[kf],λg=>?_,λs t hs ht hb=>?_,λs t hs ht hb=>?_,λs t a hs ht ha e fT=>?_⟩,λg h1 h2=>?_⟩;·rw[dF hs];show _ < 2;rcases g01 s hs with q|q<;>lia
 ·have La:g=0\/g=1:=by
   have:g < 2:=hg
   lia
  rcases La with e|e<;>subst e
  ·refine⟨(aby).filter _,λs=>?_⟩;show s∈(Zq m.length).filter _↔_;rw[aaE,aaF,decide_eq_true_eq];constructor;·rintro⟨p,q⟩;exact⟨p,by rw[dF p];exact q⟩
   ·rintro⟨p,q⟩;rw[dF p] at q;exact⟨p,q⟩
  ·refine⟨(aby).filter _,λs=>?_⟩;show s∈(Zq m.length).filter _↔_;rw[aaE,aaF,decide_eq_true_eq];constructor;·rintro⟨p,q⟩;exact⟨p,by rw[dF p];exact q⟩
   ·rintro⟨p,q⟩;rw[dF p] at q;exact⟨p,q⟩
 ·show g∈[0,1]↔g < 2/\[Λ,Λ].getD g Ξ=Λ;constructor;·intro z;simp at z;rcases z with z|z<;>subst z<;>exact⟨by lia,rfl⟩
  ·rintro⟨p,_⟩;simp;lia
 ·rw[dF hs,dF ht] at hb;exact λsm=>hb sm.good
 ·rw[dF hs,dF ht] at hb;exact hb
 ·refine .inl ?_;rw[dF (ok.bB hs ha)];show _∈[0,1];rcases g01 _ (ok.bB hs ha) with q|q<;>rw[q]<;>simp
 ·have:g < 2:=h2
  lia
end
section
variable{w:Nat}{m:dw}{h:oS}
theorem L8(ok:eY w m)(hc:wm w m h)(hw:h.wait≠[]):∃g,h.wait=h.wait.dropLast++[g]/\h.wait.getLast?.getD 0=g/\g < h.mem.length/\(h.mem.getD g []).Nodup/\(∀t∈h.mem.getD g [],t < m.length)/\
  (∀x y,x < m.length->y < m.length->x∈h.mem.getD g []->y∉h.mem.getD g []->¬jS w m x m y)/\lp w m (h.mem.getD g []) (λa=>a < w) (mE h g)/\xA (mE h g):=by
 obtain⟨hi,hn⟩:=hc;obtain⟨g,hg⟩:∃g,h.wait.getLast?=Δ g:=by cases q:h.wait.getLast? with|none=>rw[List.getLast?_eq_none_iff] at q;exact absurd q hw|some g=>exact⟨g,rfl⟩
 have eg:h.wait.getLast?.getD 0=g:=by rw[hg];rfl
 have ew:h.wait=h.wait.dropLast++[g]:=by rw[List.getLast?_eq_some_iff] at hg;obtain⟨ys,e⟩:=hg;rw[e];simp
 have gm:g∈h.wait:=by rw[ew];simp
 obtain⟨g1,g2⟩:=(hi.wt g).mp gm;obtain⟨T1,T2⟩:=hi.mem g g1;have nd:(h.wait.dropLast++[g]).Nodup:=by rw[<-ew];exact hi.M5
 rw[aar] at nd;have P5:g∉h.wait.dropLast:=λz=>nd.2.2 g z g (by simp) rfl;have P6:∀k,k∈h.wait->k≠g->k∈h.wait.dropLast:=λk hk YR=>by
  rw[ew,acQ,aaJ] at hk;rcases hk with z|z;·exact z
  ·exact absurd z YR
 have hT:∀x y,x < m.length->y < m.length->x∈h.mem.getD g []->y∉h.mem.getD g []->¬jS w m x m y:=λx y hx hy z1 z2=>by refine hi.snd x y hx hy λe=>z2 ((T2 y).mpr ⟨hy,?_⟩);rw[<-e];exact((T2 x).mp z1).2
 have ip:lp w m (h.mem.getD g []) (λa=>a < w) (mE h g):=by
  refine⟨hi.tI,by unfold mE;simp[hi.oy],hi.blt,hi.mem,nd.1,λk=>?_,hi.snd,hi.good,λs t b hs ht hb e fT=>?_⟩
  ·unfold mE;dsimp only;by_cases e:k=g;·subst e;refine⟨λz=>absurd z P5,λgy=>?_⟩;obtain⟨_,z⟩:=gy;rw[fJ (by rw[hi.oy];exact g1)] at z;exact ft z
   ·rw[dR λz=>e z.symm];constructor;·intro z;exact(hi.wt k).mp (by rw[ew];exact aaG _ z)
    ·intro z;exact P6 k ((hi.wt k).mpr z) e
  ·have e':h.c0 s=h.c0 t:=e;have zw:h.c0 (bB m s b)≠h.c0 (bB m t b):=fT;have p1:=ok.bB hs hb;have p2:=ok.bB ht hb;have i1:bB m s b∈h.mem.getD g []↔h.c0 (bB m s b)=g:=by rw[T2];exact⟨λz=>z.2,λz=>⟨p1,z⟩⟩
   have i2:bB m t b∈h.mem.getD g []↔h.c0 (bB m t b)=g:=by rw[T2];exact⟨λz=>z.2,λz=>⟨p2,z⟩⟩
   show h.c0 (bB m s b)∈h.wait.dropLast\/h.c0 (bB m t b)∈h.wait.dropLast\/_;by_cases c1:h.c0 (bB m s b)=g;·refine .inr (.inr ⟨hb,λz=>?_⟩);rw[i1,i2] at z;exact zw (c1.trans (z.mp c1).symm)
   ·by_cases c2:h.c0 (bB m t b)=g;·refine .inr (.inr ⟨hb,λz=>?_⟩);rw[i1,i2] at z;exact c1 (z.mpr c2)
    ·rcases hi.sep s t b hs ht hb e' zw with q|q|⟨q,_⟩;·exact .inl (P6 _ q c1)
     ·exact .inr (.inl (P6 _ q c2))
     ·exact q.elim
 exact⟨g,ew,eg,g1,T1,λt ht=>((T2 t).mp ht).1,hT,ip,hn⟩
end
section
variable{α:Type}[DecidableEq α]
noncomputable def bX(ps ss:List α):List α:=ss.foldl (λps s=>if s∈ps then ps else ps++[s]) ps
def AD(step:α->List α):Nat->List α->Nat->List α
 |0,ps,_=>ps|n+1,ps,k=>match ps[k]? with|none=>ps|some p=>AD step n (bX ps (step p)) (k+1)
def B5(step:α->List α)(good:α->Nat)(F:List α)(p:α):Nat×List Nat:=(good p,(step p).map λq=>F.idxOf q)
def gJ(step:α->List α)(good:α->Nat)(F:List α):dw:=F.map (B5 step good F)
noncomputable def DV(step:α->List α)(p:α)(u:List Nat):α:=u.foldl (λp a=>((step p)[a]?).getD p) p
theorem kC ps(s:α)ss:bX ps (s::ss)=bX (if s∈ps then ps else ps++[s]) ss:=rfl
theorem ik:∀(ss ps:List α),∃t,bX ps ss=ps++t
 |[],ps=>⟨[],by simp[bX]⟩|s::ss,ps=>by
  rw[kC];split;·exact ik ss ps
  ·obtain⟨t,e⟩:=ik ss (ps++[s]);exact⟨s::t,by rw[e];simp⟩
theorem dS:∀{ss ps} {x:α},x∈bX ps ss↔x∈ps\/x∈ss
 |[],ps,x=>by simp[bX]|s::ss,ps,x=>by
  rw[kC];split
  ·rename_i h;rw[dS,abM];constructor
   ·rintro(z|z);·exact .inl z
    ·exact .inr (.inr z)
   ·rintro(z|z|z);·exact .inl z
    ·exact .inl (z▸h)
    ·exact .inr z
  ·rw[dS,acQ,aaJ,abM,or_assoc]
theorem uE:∀{ss ps:List α},ps.Nodup->(bX ps ss).Nodup
 |[],ps,h=>h|s::ss,ps,h=>by
  rw[kC];split;·exact uE h
  ·rename_i hs;exact uE (by rw[aar];exact⟨h,by simp,λa ha b hb=>by simp at hb;subst hb;exact λz=>hs (z▸ha)⟩)
theorem uF(step:α->List α):∀(n) (ps) (k),∃t,AD step n ps k=ps++t
 |0,ps,k=>⟨[],by simp[AD]⟩|n+1,ps,k=>by
  rw[AD];split;·exact⟨[],by simp⟩
  ·rename_i p hp;obtain⟨t,e⟩:=uF step n (bX ps (step p)) (k+1);obtain⟨t',e'⟩:=ik (step p) ps;exact⟨t'++t,by rw[e,e'];simp⟩
theorem An{ps t:List α}(h:q∈ps):(ps++t).idxOf q=ps.idxOf q:=by rw[List.idxOf_append,if_pos h]
theorem Ao{l:List α}(h:l.Nodup):∀{i j} (hi) (hj:j < l.length),l[i]=l[j]->i=j:=by
 induction l with
 |nil=>intro i j hi;simp at hi|cons x l ih=>
  rw[aaW] at h;intro i j hi hj e;cases i with
  |zero=>cases j with|zero=>rfl|succ j=>simp at e;exact absurd (e▸aay _) h.1
  |succ i=>cases j with|zero=>simp at e;exact absurd (e▸aay _) h.1|succ j=>simp at e;rw[ih h.2 _ _ e]
theorem EX{q:α}(h:q∉ps):(ps++[q]++t).idxOf q=ps.length:=by rw[An (by simp),List.idxOf_append,if_neg h];simp
structure wu(step:α->List α)(S ps:List α)(k:Nat):Prop where
 nd:ps.Nodup
 sub:∀p∈ps,p∈S
 le:k<=ps.length
 cl:∀(i:Nat) (p:α),i < k->ps[i]?=Δ p->∀q∈step p,q∈ps
variable{step:α->List α}{S:List α}
theorem wu.len(h:wu step S ps k):ps.length<=S.length:=fX h.nd h.sub
theorem wu.next(hS:∀p∈S,∀q∈step p,q∈S)(h:wu step S ps k)(hp:ps[k]?=Δ p):wu step S (bX ps (step p)) (k+1):=by
 have hk:=(List.getElem?_eq_some_iff.mp hp).1;obtain⟨t,et⟩:=ik (step p) ps;refine⟨uE h.nd,λq hq=>?_,by rw[et,ZW];lia,λi p' hi Hv q hq=>?_⟩
 ·rcases dS.mp hq with z|z;·exact h.sub q z
  ·exact hS p (h.sub p (ZG hp)) q z
 ·have yj:i < ps.length:=by lia
  have e:ps[i]?=Δ p':=by rw[et,Zy yj] at Hv;exact Hv
  by_cases yk:i < k;·exact dS.mpr (.inl (h.cl i p' yk e q hq))
  ·have:i=k:=by lia
   subst this;rw[hp] at e;obtain rfl:=sj e;exact dS.mpr (.inr hq)
theorem EY(hS:∀p∈S,∀q∈step p,q∈S):∀{n} {ps} {k},wu step S ps k->S.length+1<=n+k->wu step S (AD step n ps k) (AD step n ps k).length
 |0,ps,k,h,hn=>by
  have h1:=h.len;have h2:=h.le
  lia
 |n+1,ps,k,h,hn=>by
  rw[AD];split
  ·rename_i hp;have h2:=List.getElem?_eq_none_iff.mp hp;have h1:=h.le;have:k=ps.length:=by lia
   subst this;exact h
  ·rename_i p hp;exact EY hS (h.next hS hp) (by lia)
theorem oz F:∀(ss ps t:List α),F=bX ps ss++t->nL (ss.map λq=>F.idxOf q) ps.length=Δ (bX ps ss).length
 |[],ps,t,_=>by simp[nL,bX]|s::ss,ps,t,e=>by
  rw[kC] at e ⊢;rw[ZH,nL];by_cases h:s∈ps
  ·rw[if_pos h] at e ⊢;obtain⟨t',e'⟩:=ik ss ps;have:F.idxOf s < ps.length:=by rw[e,e',aas,An h];exact abf h
   rw[if_pos this];exact oz F ss ps t e
  ·rw[if_neg h] at e ⊢;obtain⟨t',e'⟩:=ik ss (ps++[s]);have:F.idxOf s=ps.length:=by rw[e,e',aas,EX h]
   rw[this,if_neg (by lia),if_pos rfl];have:=oz F ss (ps++[s]) t e;simpa using this
theorem B6(hS:∀p∈S,∀q∈step p,q∈S):∀{n} {ps} {k},wu step S ps k->S.length+1<=n+k->AD step n ps k=F->lL ((F.drop k).map (B5 step good F)) k ps.length=Δ F.length
 |0,ps,k,h,hn,e=>by
  have h1:=h.len;have h2:=h.le
  lia
 |n+1,ps,k,h,hn,e=>by
  rw[AD] at e;split at e;·rename_i hp;have h2:=List.getElem?_eq_none_iff.mp hp;have h1:=h.le;subst e;rw[ada h2];simp[lL]
  ·rename_i p hp;have hk:=(List.getElem?_eq_some_iff.mp hp).1;obtain⟨t,et⟩:=uF step n (bX ps (step p)) (k+1);obtain⟨t',et'⟩:=ik (step p) ps;have eF:F=bX ps (step p)++t:=by rw[<-e,et]
   have ek:F[k]?=Δ p:=by rw[eF,et',aas,Zy hk];exact hp
   have hkF:=(List.getElem?_eq_some_iff.mp ek);have ed:F.drop k=p::F.drop (k+1):=by rw[aaH hkF.1,hkF.2]
   rw[ed,ZH,lL,if_pos hk];have:nL (B5 step good F p).2 ps.length=Δ (bX ps (step p)).length:=oz F (step p) ps t eF;rw[this];exact B6 hS (h.next hS hp) (by lia) e
def places(step:α->List α)(N:Nat)(start:α):List α:=AD step N [start] 0
structure Places(w:Nat)(step:α->List α)(good:α->Nat)(S:List α)(start:α)(F:List α):Prop where
 nd:F.Nodup
 sub:∀p∈F,p∈S
 cl:∀p∈F,∀q∈step p,q∈F
 zero:F[0]?=Δ start
 ok:eY w (gJ step good F)
 ord:lL (gJ step good F) 0 1=Δ (gJ step good F).length
theorem yW(hs:start∈S)(hS:∀p∈S,∀q∈step p,q∈S)(hl:∀p∈S,(step p).length=w)(hg:∀p∈S,good p<=1)(hN:S.length+1<=N):Places w step good S start (places step N start):=by
 have b0:wu step S [start] 0:=⟨by simp,λp hp=>by simp at hp;rw[hp];exact hs,by simp,λi p hi=>by lia⟩;have b:=EY hS b0 (n:=N) (by lia);have sc:=B6 (good:=good) hS b0 (n:=N) (by lia) (F:=places step N start) rfl;obtain⟨t,et⟩:=uF step N [start] 0;have zD:∀p∈places step N start,∀q∈step p,q∈places step N start:=λp hp q hq=>by obtain⟨i,hi⟩:=adz hp;exact b.cl i p (List.getElem?_eq_some_iff.mp hi).1 hi q hq
 refine⟨b.nd,b.sub,zD,by show(AD step N [start] 0)[0]?=_;rw[et];rfl,⟨?_,λs xg=>?_,λs xg=>?_,λs xg t ht=>?_⟩,?_⟩;·show 0 < (ady _ (AD step N [start] 0)).length;rw[et];simp
 ·obtain⟨p,hp,rfl⟩:=abk.mp xg;exact hg p (b.sub p hp)
 ·obtain⟨p,hp,rfl⟩:=abk.mp xg;show(ady _ _).length=w;rw[ZA];exact hl p (b.sub p hp)
 ·obtain⟨p,hp,rfl⟩:=abk.mp xg;obtain⟨q,hq,rfl⟩:=abk.mp (show t∈(step p).map λq=>(places step N start).idxOf q from ht);show _ < (ady _ _).length;rw[ZA];exact abf (zD p hp q hq)
 ·rw[acA] at sc;show lL ((places step N start).map _) 0 1=Δ ((places step N start).map _).length;rw[ZA];exact sc
theorem EZ(h:F[i]?=Δ p):row (gJ step good F) i=B5 step good F p:=by unfold row gJ;rw[Zz,ZD,h];rfl
theorem Ap(h:Places w step good S start F)(hl:∀p∈S,(step p).length=w):∀{u} {i} {p},F[i]?=Δ p->Wd w u->gd (gJ step good F) (walk (gJ step good F) i u)=good (DV step p u)
 |[],i,p,hp,_=>by show(row _ i).1=good p;rw[EZ hp];rfl|a::u,i,p,hp,hu=>by
  have ha:=hu.head;have hpF:=ZG hp;have hlp:=hl p (h.sub p hpF);have hq:(step p)[a]?=Δ ((step p)[a]'(by lia)):=Zu (by lia);have hqF:=h.cl p hpF _ (aay (by lia:a < (step p).length));have es:bB (gJ step good F) i a=F.idxOf ((step p)[a]'(by lia)):=by unfold bB;rw[EZ hp];show((step p).map _).getD a 0=_;rw[Zz,ZD,hq];rfl
  show gd _ (walk _ (bB _ i a) u)=good (DV step (((step p)[a]?).getD p) u);rw[es,hq];exact Ap h hl (by rw[Zu (abf hqF),List.getElem_idxOf];rfl) hu.tail
end
section
variable{w:Nat}{m:dw}
def T4(grp:List Nat)(s:Nat):Nat:=grp.idxOf (grp.getD s 0)
noncomputable def jG(w:Nat)(m:dw):oS:=settle m w (m.length+2) (kf m)
theorem yX(ok:eY w m):wm w m (jG w m)/\(jG w m).wait=[]:=wo ok (wq ok) (by simp[kf];have:=ok.ne;lia)
noncomputable def fst(w:Nat)(m:dw)(s:Nat):Nat:=T4 (jG w m).grp s
theorem iq(ok:eY w m)(hs:s < m.length):fst w m s < m.length/\jS w m (fst w m s) m s/\∀t,t < m.length->jS w m s m t->fst w m t=fst w m s:=by
 obtain⟨c,hw⟩:=yX ok;have gl:=c.1.tI;have e:(jG w m).grp.getD s 0=(jG w m).grp[s]'(by lia):=by rw[Zz,Zu (by lia)];rfl
 have mem:(jG w m).grp.getD s 0∈(jG w m).grp:=by rw[e];exact aay _
 have lt:fst w m s < m.length:=by
  have:=abf mem;show List.idxOf _ _ < _
  lia
 have at_:(jG w m).c0 (fst w m s)=(jG w m).c0 s:=by show(jG w m).grp.getD (fst w m s) 0=(jG w m).grp.getD s 0;have h1:=abf mem;rw[Zz,Zu (show fst w m s < _ from h1)];show(jG w m).grp[(jG w m).grp.idxOf ((jG w m).grp.getD s 0)]=_;exact List.getElem_idxOf h1
 refine⟨lt,(B4 ok c hw lt hs).mp at_,λt ht q=>?_⟩;have:=(B4 ok c hw hs ht).mpr q;show(jG w m).grp.idxOf ((jG w m).c0 t)=(jG w m).grp.idxOf ((jG w m).c0 s);rw[this]
noncomputable def fc(w:Nat)(m:dw)(s:Nat):List Nat:=(row m s).2.map (fst w m)
noncomputable def fk(w:Nat)(m:dw):List Nat:=places (fc w m) 1000000 (fst w m 0)
theorem yY w m:∃M,M=gJ (fc w m) (gd m) (fk w m):=⟨_,rfl⟩
noncomputable def cX(w:Nat)(m:dw):dw:=aeb (yY w m)
theorem gU w m:cX w m=gJ (fc w m) (gd m) (fk w m):=adj (yY w m)
theorem B7(ok:eY w m):∀p∈Zq m.length,∀q∈fc w m p,q∈Zq m.length:=λp hp q hq=>by rw[aaF] at hp ⊢;obtain⟨t,ht,rfl⟩:=abk.mp hq;exact(iq ok (ok.lt _ (aW hp) t ht)).1
theorem rJ(ok:eY w m):∀p∈Zq m.length,(fc w m p).length=w:=λp hp=>by rw[aaF] at hp;unfold fc;rw[ZA];exact ok.len _ (aW hp)
theorem oA(ok:eY w m)(hm:m.length < 1000000):Places w (fc w m) (gd m) (Zq m.length) (fst w m 0) (fk w m):=
 yW (aaF.mpr (iq ok ok.ne).1) (B7 ok) (rJ ok) (λp hp=>ok.good _ (aW (aaF.mp hp))) (by rw[aad];lia)
theorem T5(ok:eY w m):∀{u} {s p},s < m.length->p < m.length->jS w m p m s->Wd w u->gd m (DV (fc w m) p u)=gd m (walk m s u)
 |[],s,p,hs,hp,q,_=>q.good|a::u,s,p,hs,hp,q,hu=>by
  have ha:=hu.head;have hl:=ok.len _ (aW hp);have e:(fc w m p)[a]?=Δ (fst w m (bB m p a)):=by unfold fc bB;rw[ZD,Zz,Zu (by lia)];rfl
  show gd m (DV _ (((fc w m p)[a]?).getD p) u)=gd m (walk m (bB m s a) u);rw[e];obtain⟨f1,f2,_⟩:=iq ok (ok.bB hp ha);exact T5 ok (ok.bB hs ha) f1 (f2.trans (q.step ha)) hu.tail
theorem oB(ok:eY w m)(hm:m.length < 1000000)(h:(fk w m)[i]?=Δ p):jS w (cX w m) i m p:=λu hu=>by have P:=oA ok hm;have hp:p < m.length:=aaF.mp (P.sub p (ZG h));rw[gU,show gd (gJ (fc w m) (gd m) (fk w m)) (walk (gJ (fc w m) (gd m) (fk w m)) i u)=gd m (DV (fc w m) p u) from Ap P (rJ ok) h hu];exact T5 ok hp hp jS.refl hu
theorem lq(ok:eY w m)(hm:m.length < 1000000):(cX w m).length<=m.length:=by have P:=oA ok hm;rw[gU];show(ady _ _).length<=_;rw[ZA];have:=fX P.nd P.sub;rw[aad] at this;exact this
theorem cO(ok:eY w m)(hm:m.length < 1000000):my w (cX w m)/\jS w (cX w m) 0 m 0:=by
 have P:=oA ok hm;have rep:∀p∈fk w m,fst w m p=p:=by
  have all:∀(n:Nat) (ps:List Nat) (k:Nat),(∀p∈ps,p < m.length/\fst w m p=p)->∀p∈AD (fc w m) n ps k,p < m.length/\fst w m p=p:=by
   intro n;induction n with
   |zero=>intro ps k h;exact h|succ n ih=>
    intro ps k h;rw[AD];split;·exact h
    ·rename_i p hp;refine ih _ _ λq hq=>?_;rcases dS.mp hq with z|z;·exact h q z
     ·obtain⟨t,ht,rfl⟩:=abk.mp z;have Hv:=(h p (ZG hp)).1;have yE:=ok.lt _ (aW Hv) t ht;obtain⟨f1,f2,f3⟩:=iq ok yE;exact⟨f1,f3 _ f1 f2.symm⟩
  intro p hp;obtain⟨f1,f2,f3⟩:=iq ok ok.ne;exact(all 1000000 [fst w m 0] 0 (λq hq=>by simp at hq;rw[hq];exact⟨f1,f3 _ f1 f2.symm⟩) p hp).2
 have YT:(cX w m).length=(fk w m).length:=by rw[gU];exact ZA ..
 refine⟨⟨by rw[gU];exact P.ok,λs t hs ht q=>?_,by rw[gU];exact P.ord⟩,?_⟩
 ·have xg:s < (fk w m).length:=by lia
  have yE:t < (fk w m).length:=by lia
  have es:=Zu xg;have et:=Zu yE;have q1:jS w m (fk w m)[s] m (fk w m)[t]:=((oB ok hm es).symm.trans q).trans (oB ok hm et);have ps:=aaF.mp (P.sub _ (aay xg));have pt:=aaF.mp (P.sub _ (aay yE));have:=(iq ok ps).2.2 _ pt q1;rw[rep _ (aay xg),rep _ (aay yE)] at this;exact Ao P.nd xg yE this.symm
 ·obtain⟨f1,f2,f3⟩:=iq ok ok.ne;exact(oB ok hm P.zero).trans f2
end
end Y
namespace Y
open PySem
noncomputable def encM(ss:List Nat):O:=.dK (ss.map λ(s:Nat)=>(.inl (s:Int),P.d (.bl Λ)))
def encL(ss:List Nat):O:=.lst (ss.map λs=>P.d (nD s))
def kD(bs:List Bool):O:=.lst (bs.map λb=>P.d (.bl b))
noncomputable def tH(b:Nat):List (Str×P):=[("sources",.obj b),("group_of",.obj (b+1)),("members",.obj (b+4)),("waiting",.obj (b+5)),("waits",.obj (b+6))]
def jw(b:Nat):O:=.ins "Groups" (tH b)
def Mad(b a:Nat):Prop:=a=b+2\/a=b+3\/b+7<=a
def GQ(b:Nat)(mb:List Nat)(l:Nat):Prop:=b+7<=l/\l∉mb
structure HS(m:dw)(w b:Nat)(mb:List Nat)(st:aM)(h:oS):Prop where
 len:b+7<=st.length
 b0:0 < b
 self:st[0]?=Δ (jw b)
 src:∃outer:List Nat,st[b]?=Δ (.lst (outer.map P.obj))/\outer.length=w/\∀a,a < w->∃(o:Nat) (rows:List Nat),outer[a]?=Δ o/\0 < o/\o < b/\st[o]?=Δ (.lst (rows.map P.obj))/\∀t,t < m.length->∃l,rows[t]?=Δ l/\0 < l/\l < b/\st[l]?=Δ (encL (eE m a t))
 grp:st[b+1]?=Δ (encL h.grp)
 M6:st[b+4]?=Δ (.lst (mb.map P.obj))
 tJ:mb.length=h.mem.length
 mem:∀g,g < h.mem.length->∃a,mb[g]?=Δ a/\Mad b a/\a < st.length/\st[a]?=Δ (encM (h.mem.getD g []))
 T6:mb.Nodup
 QU:st[b+5]?=Δ (encL h.wait)
 jD:st[b+6]?=Δ (kD h.jD)
section
variable{m:dw}{w b:Nat}{mb:List Nat}{st aO:aM}{h:oS}
theorem HS.mad(hs:HS m w b mb st h)(ha:a∈mb):Mad b a/\a < st.length:=by obtain⟨g,hg⟩:=adz ha;have hl:=(List.getElem?_eq_some_iff.mp hg).1;refine gM (λa' e q q2 _=>?_) (hs.mem g (by rw[<-hs.tJ];exact hl));rw[hg] at e;obtain rfl:=sj e;exact⟨q,q2⟩
theorem HS.keep(hs:HS m w b mb st h)(hl:st.length<=aO.length)(k:∀i,i < st.length->¬GQ b mb i->aO[i]?=st[i]?):HS m w b mb aO h:=by
 have kk:∀i,i < b+7->aO[i]?=st[i]?:=λi hi=>k i (by have:=hs.len;lia) (λz=>by have:=z.1;lia);refine⟨by have:=hs.len;lia,hs.b0,by rw[kk 0 (by lia)];exact hs.self,?_,by rw[kk _ (by lia)];exact hs.grp,by rw[kk _ (by lia)];exact hs.M6,hs.tJ,λg hg=>?_,hs.T6,by rw[kk _ (by lia)];exact hs.QU,by rw[kk _ (by lia)];exact hs.jD⟩;·refine aB (λouter e1 e2 e3=>?_) (hs.src);refine⟨outer,by rw[kk _ (by lia)];exact e1,e2,λa ha=>?_⟩;refine bq (λo rows f1 f2 f3 f4 f5=>?_) (e3 a ha);refine⟨o,rows,f1,f2,f3,by rw[kk _ (by lia)];exact f4,λt ht=>?_⟩;refine gM (λl g1 g2 g3 g4=>?_) (f5 t ht);exact⟨l,g1,g2,g3,by rw[kk _ (by lia)];exact g4⟩
 ·refine gM (λa e1 e2 e3 e4=>?_) (hs.mem g hg);exact⟨a,e1,e2,by lia,by rw[k a e3 (λz=>z.2 (ZG e1))];exact e4⟩
theorem HS.put(hs:HS m w b mb st h)(hl:GQ b mb l)o:HS m w b mb (st.set l o) h:=hs.keep (by simp) λi hi ho=>Zw (λ(z:l=i)=>ho (z▸hl))
theorem B8(hs:st[0]?=Δ (jw b)):qM "Groups" st (.obj 0)=Δ (0,tH b):=by unfold qM;simp[hs,jw]
theorem dv(hi:(r[i]?).join=Δ (.obj 0))(hs:st[0]?=Δ (jw b))(hf:(tH b).lookup f=Δ x):aa C (.attr "Groups" f i) r st=.ok x st:=by rw[EO,hi,ay,ae,B8 hs,aax,hf,ay]
theorem qa(hi:(r[i]?).join=Δ (.obj 0))(hs:st[0]?=Δ (jw b))(hf:(tH b).lookup f=Θ)(he:aE C es r st=.ok ps st1)(hc:C k (.obj 0::ps) st1=res):aa C (.qL k "Groups" f i es) r st=res:=by rw[LG,hi,ay,ae,B8 hs,aax,hf];simp[he,hc]
theorem HS.T7(hs:HS m w b mb st h)g:HS m w b mb ((st.set (b+5) (encL (h.wait++[g]))).set (b+6) (kD (h.jD.set g Λ))) ⟨h.grp,h.mem,h.wait++[g],h.jD.set g Λ⟩:=by
 have hl:=hs.len;have g0:∀i,i≠b+5->i≠b+6->((st.set (b+5) (encL (h.wait++[g]))).set (b+6) (kD (h.jD.set g Λ)))[i]?=st[i]?:=λi h1 h2=>by rw[Zw (aaw h2),Zw (aaw h1)]
 refine⟨by simpa using hl,hs.b0,by rw[g0 0 (by lia) (by lia)];exact hs.self,?_,by rw[g0 _ (by lia) (by lia)];exact hs.grp,by rw[g0 _ (by lia) (by lia)];exact hs.M6,hs.tJ,λk hk=>?_,hs.T6,?_,?_⟩;·refine aB (λouter e1 e2 e3=>?_) (hs.src);refine⟨outer,by rw[g0 _ (by lia) (by lia)];exact e1,e2,λa ha=>?_⟩;refine bq (λo rows f1 f2 f3 f4 f5=>?_) (e3 a ha);refine⟨o,rows,f1,f2,f3,by rw[g0 _ (by lia) (by lia)];exact f4,λt ht=>?_⟩;refine gM (λl q1 q2 q3 q4=>?_) (f5 t ht);exact⟨l,q1,q2,q3,by rw[g0 _ (by lia) (by lia)];exact q4⟩
 ·refine gM (λa e1 e2 e3 e4=>?_) (hs.mem k hk);refine⟨a,e1,e2,by simpa using e3,?_⟩;rw[g0 _ (by rcases e2 with z|z|z<;>lia) (by rcases e2 with z|z|z<;>lia)];exact e4
 ·rw[Zw (by lia),ZY (by lia)]
 ·rw[ZY (by simp;lia)]
end
theorem Jq{ss:List Nat}(h:s∈ss):fU (ss.map λ(s:Nat)=>((.inl (s:Int):Sum Int Str),P.d (.bl Λ))) (.inl (s:Int))=Δ (.d (.bl Λ)):=by
 unfold fU;induction ss with
 |nil=>cases h|cons x ss ih=>
  rw[ZH,aaO];by_cases e:x=s;·subst e;simp
  ·have:decide ((.inl (x:Int):Sum Int Str)=.inl (s:Int))=Ξ:=by rw[decide_eq_false_iff_not];intro z;injection z with z;exact e (by lia)
   simp only[this];exact ih ((abM.mp h).resolve_left λz=>e z.symm)
theorem Gn(ss:List Nat)(s:Nat):yp (ss.map λ(s:Nat)=>((.inl (s:Int):Sum Int Str),P.d (.bl Λ))) (.inl (s:Int))=(ss.filter λx=>decide (x≠s)).map λ(s:Nat)=>((.inl (s:Int):Sum Int Str),P.d (.bl Λ)):=by
 unfold yp;induction ss with
 |nil=>rfl|cons x ss ih=>
  rw[ZH];by_cases e:x=s;·subst e;rw[aal (by simp),aal (by simp)];exact ih
  ·rw[aae (by simp;lia),aae (by simp;exact e),ZH,ih]
theorem uG{κ:Type}[DecidableEq κ]{kvs:List (κ×P)}{k:κ}(h:∀kv∈kvs,kv.1≠k):nq kvs k v=kvs++[(k,v)]:=by
 unfold nq;have:(kvs.any λkv=>decide (kv.1=k))=Ξ:=by rw[adT];intro kv sE;simpa using h kv sE
 rw[this];simp
theorem Jr(h:st[a]?=Δ (encM ss)):bJ st (.obj a)=Δ (encM ss):=by unfold bJ FT;simp[h,encM,kq]
theorem Js(h:st[a]?=Δ (encM ss))(hs:s∈ss):Ij (.obj a) (.d (nD s)) st=Δ (.d (.bl Λ),st.set a (encM (ss.filter λx=>decide (x≠s)))):=by have hk:keyOf (.d (nD s))=Δ (.inl (s:Int)):=rfl;unfold Ij;simp only[h,encM,hk,aax,Jq hs,Gn,aag]
theorem wy(h:st[a]?=Δ (encM ss))(hs:s∉ss)(hl:ss.length < au):pI (.obj a) (.d (nD s)) (.d (.bl Λ)) st=Δ (st.set a (encM (ss++[s]))):=by
 have hk:keyOf (.d (nD s))=Δ (.inl (s:Int)):=rfl;have hp:nq (ss.map λ(s:Nat)=>((.inl (s:Int):Sum Int Str),P.d (.bl Λ))) (.inl (s:Int)) (P.d (.bl Λ))=(ss++[s]).map λ(s:Nat)=>((.inl (s:Int):Sum Int Str),P.d (.bl Λ)):=by
  rw[uG,aan];·rfl
  ·intro kv sE;obtain⟨x,hx,rfl⟩:=abk.mp sE;intro z;injection z with z;exact hs ((show x=s by lia)▸hx)
 unfold pI;simp only[h,aax,encM,Bi,Ep,ZA,hl,if_true,hk,aag,hp]
theorem B9{l:List Nat}{ss:List Nat}(h:ss[i]?=Δ s):((l.filter λx=>decide (x∉ss.take i)).filter λx=>decide (x≠s))=l.filter λx=>decide (x∉ss.take (i+1)):=by
 rw[List.filter_filter];congr 1;funext x;have e:ss.take (i+1)=ss.take i++[s]:=by rw[aa4,h];rfl
 rw[e];by_cases h1:x=s<;>by_cases h2:x∈ss.take i<;>simp[acQ,h1,h2]
theorem Ca{fresh:Nat}{ss g:List Nat}(h:ss[i]?=Δ s):(putAll fresh (ss.take i) g).set s fresh=putAll fresh (ss.take (i+1)) g:=by
 have e:ss.take (i+1)=ss.take i++[s]:=by rw[aa4,h];rfl
 rw[e];unfold putAll;rw[ab8];rfl
theorem Cb{ss:List Nat}(hn:ss.Nodup)(h:ss[i]?=Δ s):s∉ss.take i:=by
 obtain⟨hi,e⟩:=List.getElem?_eq_some_iff.mp h;intro hm;obtain⟨j,hj,e2⟩:=List.getElem_of_mem hm;rw[List.getElem_take] at e2;have U3:j < i:=by simp at hj;lia
 have:=Ao hn (i:=j) (j:=i) (by lia) hi (e2.trans e.symm)
 lia
abbrev M7:=Nat×List Nat×Nat
noncomputable def xa(dl:List M7):List (Sum Int Str×P):=dl.map λt=>(.inl (t.1:Int),P.obj t.2.2)
structure GS(grp:List Nat)(D0:Nat)(st s:aM)(done:List Nat)(dl:List M7):Prop where
 proj:dl.map (λt=>(t.1,t.2.1))=cN grp done
 rK:s[D0]?=Δ (.dK (xa dl))
 at_:∀t∈dl,D0 < t.2.2/\t.2.2 < s.length/\s[t.2.2]?=Δ (encL t.2.1)
 nd:(dl.map λt=>t.2.2).Nodup
 pre:∀i,i < D0->s[i]?=st[i]?
 len:D0 < s.length
theorem yZ:∀{dl:List M7},g∈dl.map (·.1)->∃l1 ss a l2,dl=l1++(g,ss,a)::l2/\∀t∈l1,t.1≠g
 |[],h=>by cases h|(k,ss,a)::dl,h=>by
  by_cases e:k=g;·subst e;exact⟨[],ss,a,dl,rfl,λ_ z=>nomatch z⟩
  ·rw[ZH] at h;refine ug (λl1 ss' a' l2 e2 h2=>?_) (yZ ((abM.mp h).resolve_left λz=>e z.symm));refine⟨(k,ss,a)::l1,ss',a',l2,by rw[e2];rfl,λt ht=>?_⟩;rcases abM.mp ht with z|z;·rw[z];exact e
   ·exact h2 t z
theorem sU:∀{l1 l2},(∀t∈l1,t.1≠g)->dQ (l1++(g,ss)::l2) g x=l1++(g,ss++[x])::l2
 |[],l2,_=>by simp[dQ]|(k,r)::l1,l2,h=>by have hk:k≠g:=h (k,r) Zx;rw[abz,dQ,if_neg hk,sU λt ht=>h t (Zs _ ht)];rfl
theorem wz:∀{l},(∀t∈l,t.1≠g)->dQ l g x=l++[(g,[x])]
 |[],_=>by simp[dQ]|(k,r)::l,h=>by have hk:k≠g:=h (k,r) Zx;rw[dQ,if_neg hk,wz λt ht=>h t (Zs _ ht)];rfl
theorem Gp{ss:List Nat}{l1 l2:List M7}(h:∀t∈l1,t.1≠g):fU (xa (l1++(g,ss,a)::l2)) (.inl (g:Int))=Δ (.obj a):=by
 unfold fU xa;rw[aan,List.find?_append];have:(l1.map λt:M7=>((.inl (t.1:Int):Sum Int Str),P.obj t.2.2)).find? (λkv=>decide (kv.1=.inl (g:Int)))=Θ:=by
  rw[adL];intro kv sE;obtain⟨t,ht,rfl⟩:=abk.mp sE;have:=h t ht;simp
  lia
 rw[this];simp
theorem Jt{g:Nat}(h:g∉dl.map (·.1)):fU (xa dl) (.inl (g:Int))=Θ:=by
 unfold fU xa;have:(dl.map λt:M7=>((.inl (t.1:Int):Sum Int Str),P.obj t.2.2)).find? (λkv=>decide (kv.1=.inl (g:Int)))=Θ:=by
  rw[adL];intro kv sE;obtain⟨t,ht,rfl⟩:=abk.mp sE;have:t.1≠g:=λz=>h (abk.mpr ⟨t,ht,z⟩);simp
  lia
 rw[this];rfl
theorem GS.next(G:GS grp D0 st s done dl)(hl:dl.length < au)(hd:done.length < au):
  ∃v its s1 s2 P7,sH (.obj D0) (.d (nD (grp.getD x 0))) (.obj s.length) (s++[O.lst []])=Δ (v,s1)/\de s1 v=Δ its/\zL v (.d (nD x)) s1=Δ s2/\GS grp D0 st s2 (done++[x]) P7:=by
 have sf:cN grp (done++[x])=dQ (cN grp done) (grp.getD x 0) x:=by unfold cN;rw[ab8];rfl
 have hk:keyOf (.d (nD (grp.getD x 0)))=Δ (.inl ((grp.getD x 0:Nat):Int)):=rfl;have hlen:=G.len;have hD:(s++[O.lst []])[D0]?=Δ (.dK (xa dl)):=by rw[Zy hlen];exact G.rK
 have hkl:(xa dl).length < au:=by unfold xa;simpa using hl
 generalize hg:grp.getD x 0=g at*;by_cases wA:g∈dl.map (·.1)
 ·refine ug (λl1 ss a l2 aH h1=>?_) (yZ wA);subst aH;obtain⟨a1,a2,a3⟩:=G.at_ (g,ss,a) (by simp);dsimp only at a1 a2 a3;have ssl:ss.length<=done.length:=by
   have:(g,ss)∈cN grp done:=by rw[<-G.proj];exact abk.mpr ⟨(g,ss,a),by simp,rfl⟩
   have:=((fb grp done).2.1 g ss this).1;rw[this];exact abU _ _
  have ha:(s++[O.lst []])[a]?=Δ (encL ss):=by rw[Zy a2];exact a3
  refine⟨.obj a,ss.map λs=>P.d (nD s),s++[O.lst []],(s++[O.lst []]).set a (encL (ss++[x])),l1++(g,ss++[x],a)::l2,?_,iY ha,?_,?_⟩;·unfold sH;simp only[hD,hkl,if_true,hk,aag,Gp h1]
  ·rw[jR ha (by simp;lia)];simp[encL]
  ·have Gm:=G.nd;rw[aan,ZH,aar] at Gm;refine⟨?_,?_,λt ht=>?_,by rw[aan,ZH,aar];exact Gm,λi hi=>?_,by simp;lia⟩;·rw[sf,<-G.proj,aan,ZH,aan,ZH,sU];intro t ht;obtain⟨t',yE,rfl⟩:=abk.mp ht;exact h1 t' yE
   ·rw[Zw (by lia),hD];unfold xa;simp
   ·by_cases ta:t.2.2=a
    ·have:t=(g,ss++[x],a):=by
      rcases acQ.mp ht with z|z;·exact absurd ta (Gm.2.2 _ (abk.mpr ⟨t,z,rfl⟩) _ Zx)
      ·rcases abM.mp z with z|z;·exact z
       ·rw[aaW] at Gm;exact absurd (abk.mpr ⟨t,z,ta⟩) Gm.2.1.1
     subst this;refine⟨a1,by simp;lia,?_⟩;rw[ZY (by simp;lia)]
    ·have yE:t∈l1++(g,ss,a)::l2:=by
      rcases acQ.mp ht with z|z;·exact aaG _ z
      ·rcases abM.mp z with z|z;·rw[z] at ta;exact absurd rfl ta
       ·exact Z8 _ (Zs _ z)
     obtain⟨b1,b2,b3⟩:=G.at_ t yE;exact⟨b1,by simp;lia,by rw[Zw (aaw ta),Zy b2];exact b3⟩
   ·rw[Zw (by lia),Zy (by lia)];exact G.pre i hi
 ·have hm:∀t∈cN grp done,t.1≠g:=λt ht z=>wA (by rw[<-G.proj] at ht;obtain⟨t',yE,rfl⟩:=abk.mp ht;exact abk.mpr ⟨t',yE,z⟩);have YU:nq (xa dl) (.inl (g:Int)) (.obj s.length)=xa (dl++[(g,[x],s.length)]):=by
   rw[uG];·unfold xa;simp
   ·intro kv sE;obtain⟨t,ht,rfl⟩:=abk.mp sE;intro z;injection z with z;exact wA (abk.mpr ⟨t,ht,by lia⟩)
  have M8:((s++[O.lst []]).set D0 (.dK (xa (dl++[(g,[x],s.length)]))))[s.length]?=Δ (.lst []):=by rw[Zw (by lia)];simp
  refine⟨.obj s.length,[],(s++[O.lst []]).set D0 (.dK (xa (dl++[(g,[x],s.length)]))),((s++[O.lst []]).set D0 (.dK (xa (dl++[(g,[x],s.length)])))).set s.length (encL [x]),dl++[(g,[x],s.length)],?_,iY M8,?_,?_⟩;·unfold sH;simp only[hD,hkl,if_true,hk,aag,Jt wA,YU]
  ·rw[jR M8 (by simp[au])];simp[encL]
  ·refine⟨?_,?_,λt ht=>?_,?_,λi hi=>?_,by simp;lia⟩;·rw[sf,<-G.proj,wz (by rw[G.proj];exact hm),aan];rfl
   ·rw[Zw (by lia),ZY (by simp;lia)]
   ·rcases acQ.mp ht with z|z;·obtain⟨b1,b2,b3⟩:=G.at_ t z;exact⟨b1,by simp;lia,by rw[Zw (by lia),Zw (by lia),Zy b2];exact b3⟩
    ·rw[aaJ] at z;subst z;exact⟨hlen,by simp,by rw[ZY (by simp)]⟩
   ·rw[aan,aar];refine⟨G.nd,by simp,λp hp q hq=>?_⟩;simp at hq;subst hq;obtain⟨t,ht,rfl⟩:=abk.mp hp;have:=(G.at_ t ht).2.1
    lia
   ·rw[Zw (by lia),Zw (by lia),Zy (by lia)];exact G.pre i hi
structure P8(α:Type)[DecidableEq α] where
 enc:α->D
 rK:List α->O
 T8:∀ps,kq (rK ps)=Λ
 lit:∀a,KN (.d (enc a)) (.d (.int 0))=Δ (rK [a])
 get:∀ps a,ps.Nodup->pH (rK ps) (.d (enc a))=Δ (if a∈ps then Δ (.d (nD (ps.idxOf a))) else Θ)
 put:∀ps a,a∉ps->ps.length < au->Ep (rK ps) (.d (enc a)) (.d (nD ps.length))=Δ (rK (ps++[a]))
theorem wB{α κ:Type}[DecidableEq α][DecidableEq κ]{f:α->κ}(hf:∀a b,f a=f b->a=b):∀(ps:List α) (k) (a),fU (ps.zipIdx k |>.map λq=>(f q.1,P.d (nD q.2))) (f a)=if a∈ps then Δ (.d (nD (k+ps.idxOf a))) else Θ
 |[],k,a=>by simp[fU]|x::ps,k,a=>by
  have ih:=wB hf ps (k+1) a;unfold fU at ih ⊢;rw[ad7,ZH,aaO];by_cases e:x=a;·subst e;simp
  ·have h1:decide (f x=f a)=Ξ:=decide_eq_false λz=>e (hf _ _ z);simp only[h1];rw[ih];have h2:(x==a)=Ξ:=by simpa using e
   have h3:a≠x:=λz=>e z.symm;by_cases wA:a∈ps;·rw[if_pos wA,if_pos (Zs _ wA),List.idxOf_cons,h2];simp only[cond_false];congr 3;lia
   ·rw[if_neg wA,if_neg (λz=>(abM.mp z).elim h3 wA)]
theorem E1{α κ:Type}[DecidableEq α][DecidableEq κ]{f:α->κ}(hf:∀a b,f a=f b->a=b){ps:List α}{a:α}(h:a∉ps):nq (ps.zipIdx.map λq=>(f q.1,P.d (nD q.2))) (f a) (.d (nD ps.length))=(ps++[a]).zipIdx.map λq=>(f q.1,P.d (nD q.2)):=by
 rw[uG];·rw[List.zipIdx_append,aan];simp
 ·intro kv sE;obtain⟨q,hq,rfl⟩:=abk.mp sE;intro z;have:=hf _ _ z;have xZ:q.1∈ps:=by obtain⟨x,i⟩:=q;have:=List.mem_zipIdx' hq;rw[this.2];exact aay _
  exact h (this▸xZ)
def DW(n:Nat):Sum Int Str:=.inl (n:Int)
theorem Cd a b(h:DW a=DW b):a=b:=by unfold DW at h;injection h with h;lia
def YV:P8 Nat where
 enc:=nD
 rK:=λps=>.dK (ps.zipIdx.map λq=>(DW q.1,P.d (nD q.2)))
 T8:=λ_=>rfl
 lit:=λa=>rfl
 get:=λps a _=>by show(keyOf (.d (nD a))).map _=_;have:keyOf (.d (nD a))=Δ (DW a):=rfl;rw[this,aag];congr 1;have:=wB Cd ps 0 a;simpa using this
 put:=λps a h hl=>by show(if(ps.zipIdx.map λq=>(DW q.1,P.d (nD q.2))).length < au then(keyOf (.d (nD a))).map _ else Θ)=_;have:keyOf (.d (nD a))=Δ (DW a):=rfl;rw[if_pos (by simpa using hl),this,aag,E1 Cd h]
end Y
namespace Y
section
variable{α:Type}[DecidableEq α]{step:α->List α}{good:α->Nat}
end
noncomputable def T9(l:List Nat)(a x:Nat):List Nat:=l.take a++[x]++l.drop a
def mvP(x:Int):Nat->List Nat
 |0=>[0]|k+1=>T9 (mvP x k) (1+(drawn x (k+1) % ((k+1:Nat):Int)).toNat) (k+1)
noncomputable def fY(w:Nat):Nat->List (List Nat)
 |0=>[[]]|k+1=>(fY w k).flatMap λu=>(Zq w).map λa=>u++[a]
def cj(w N:Nat):List (List Nat):=(Zq (N+1)).flatMap (fY w)
theorem nc:∀{k} {u},u∈fY w k↔Wd w u/\u.length=k
 |0,u=>by
  simp only[fY,aaJ];constructor;·rintro rfl;exact⟨Wd.nil,rfl⟩
  ·rintro⟨_,h⟩;exact List.length_eq_zero_iff.mp h
 |k+1,u=>by
  simp only[fY,acH,abk,aaF];constructor;·intro gy;revert gy;refine lU λv hv a ha aH=>?_;subst aH;obtain⟨h1,h2⟩:=nc.mp hv;exact⟨h1.app (Wd.nil.cons ha),by simp[h2]⟩
  ·rintro⟨h1,h2⟩;have fT:u≠[]:=λz=>by rw[z] at h2;simp at h2
   refine⟨u.dropLast,nc.mpr ⟨λb hb=>h1 b (List.dropLast_subset u hb),by simp[h2]⟩,u.getLast fT,h1 _ (List.getLast_mem fT),List.dropLast_concat_getLast fT⟩
theorem DX(h:u∈cj w N):Wd w u:=by obtain⟨k,_,hk⟩:=acH.mp h;exact(nc.mp hk).1
theorem y9 w:∀k,(fY w k).length=w ^ k
 |0=>rfl|k+1=>by
  rw[fY];have:∀l:List (List Nat),(l.flatMap λu=>(Zq w).map λa=>u++[a]).length=l.length*w:=λl=>by induction l with|nil=>simp|cons u l ih=>rw[acv,ZW,ih];simp[acE,aeP]
  rw[this,y9 w k,Nat.pow_succ]
end Y
namespace Y
open PySem
mutual
theorem Ce:∀x:D,xp x x=Λ
 |.bG=>rfl|.bl b=>beq_self_eq_true b|.int i=>beq_self_eq_true i|.str s=>beq_self_eq_true s|.tup xs=>rL xs|.pl xs=>rL xs
theorem rL:∀xs:List D,iU xs xs=Λ
 |[]=>rfl|x::xs=>by rw[Eo,Ce x,rL xs];rfl
end
theorem P9 u:nk (wD u)<=1:=by
 have:∀u:List Nat,lI (u.map nD)=0:=λu=>by induction u with|nil=>rfl|cons x u ih=>rw[ZH,zI,ih];rfl
 unfold wD;rw[Oy,this];exact ZC _
theorem Qa m:nk (mD m)<=3:=by
 have:∀m:dw,lI (m.map gS)<=2:=λm=>by
  induction m with
  |nil=>exact aaB _|cons s m ih=>
   rw[ZH,zI];have h:=P9 s.2;have h2:nk (gS s)<=2:=by unfold gS;exact Nat.succ_le_succ (Nat.max_le.mpr ⟨aaB _,Nat.max_le.mpr ⟨h,aaB _⟩⟩)
   exact Nat.max_le.mpr ⟨h2,ih⟩
 exact Nat.succ_le_succ (this m)
theorem Qb m:tD (mD m) (mD m)=Δ Λ:=by unfold tD;rw[if_pos (by have:=Qa m;lia),Ce]
end Y
namespace Y
section
def fK(m n:dw)(p:Nat×Nat):List (Nat×Nat):=(row m p.1).2.zip (row n p.2).2
def wC(f:Nat->Nat->Nat)(m n:dw)(p:Nat×Nat):Nat:=f (gd m p.1) (gd n p.2)
noncomputable def wF(m n:dw):List (Nat×Nat):=(Zq m.length).flatMap λa=>(Zq n.length).map λb=>(a,b)
variable{w:Nat}{m n:dw}
theorem ir:p∈wF m n↔p.1 < m.length/\p.2 < n.length:=by obtain⟨a,b⟩:=p;unfold wF;simp[acH]
theorem wG:(wF m n).length=m.length*n.length:=by
 unfold wF;rw[List.length_flatMap];simp only[ZA,aad];have:∀(l:List Nat) (c:Nat),(l.map λ_=>c).sum=l.length*c:=λl c=>by induction l with|nil=>simp|cons x l ih=>rw[ZH,List.sum_cons,ih,ZS,acE];lia
 rw[this,aad]
variable(ok:eY w m)(iB:eY w n)
include ok iB
theorem rM:∀p∈wF m n,(fK m n p).length=w:=λp hp=>by
 obtain⟨h1,h2⟩:=ir.mp hp;unfold fK;rw[acR,ok.len _ (aW h1),iB.len _ (aW h2)]
 lia
theorem zc:∀p∈wF m n,∀q∈fK m n p,q∈wF m n:=λp hp q hq=>by obtain⟨h1,h2⟩:=ir.mp hp;have xZ:(q.1,q.2)∈(row m p.1).2.zip (row n p.2).2:=hq;exact ir.mpr ⟨ok.lt _ (aW h1) _ (abF xZ).1,iB.lt _ (aW h2) _ (abF xZ).2⟩
theorem Ua:∀{u:List Nat} {a b:Nat},a < m.length->b < n.length->Wd w u->DV (fK m n) (a,b) u=(walk m a u,walk n b u)
 |[],a,b,_,_,_=>rfl|x::u,a,b,ha,hb,hu=>by
  have hx:=hu.head;have l1:=ok.len _ (aW ha);have l2:=iB.len _ (aW hb);have e:(fK m n (a,b))[x]?=Δ (bB m a x,bB n b x):=by unfold fK bB;rw[acJ];simp only[Zz];rw[Zu (by lia),Zu (by lia)];exact⟨rfl,rfl⟩
  show DV (fK m n) (((fK m n (a,b))[x]?).getD (a,b)) u=(walk m (bB m a x) u,walk n (bB n b x) u);rw[e];exact Ua (ok.bB ha hx) (iB.bB hb hx) hu.tail
omit ok iB in
theorem Cf f m n:∃M,M=gJ (fK m n) (wC f m n) (places (fK m n) 1000000 (0,0)):=⟨_,rfl⟩
omit ok iB in
noncomputable def fL(f:Nat->Nat->Nat)(m n:dw):dw:=aeb (Cf f m n)
omit ok iB in
theorem zd f m n:fL f m n=gJ (fK m n) (wC f m n) (places (fK m n) 1000000 (0,0)):=adj (Cf f m n)
theorem qb{f:Nat->Nat->Nat}(hf:∀x y,x<=1->y<=1->f x y<=1)(hl:m.length*n.length < 1000000):eY w (fL f m n)/\(fL f m n).length<=m.length*n.length/\∀u,Wd w u->gd (fL f m n) (walk (fL f m n) 0 u)=f (gd m (walk m 0 u)) (gd n (walk n 0 u)):=by
 have P:Places w (fK m n) (wC f m n) (wF m n) (0,0) (places (fK m n) 1000000 (0,0)):=
  yW (ir.mpr ⟨ok.ne,iB.ne⟩) (zc ok iB) (rM ok iB) (λp hp=>by obtain⟨h1,h2⟩:=ir.mp hp;exact hf _ _ (ok.good _ (aW h1)) (iB.good _ (aW h2))) (by rw[wG];lia)
 rw[zd];refine⟨P.ok,?_,λu hu=>?_⟩;·show(ady _ _).length<=_;rw[ZA,<-wG];exact fX P.nd P.sub
 ·rw[Ap P (rM ok iB) P.zero hu,Ua ok iB ok.ne iB.ne hu];rfl
end
def mF(m:dw):dw:=m.map λs=>(1 - s.1,s.2)
theorem E2(ok:eY w m):eY w (mF m)/\(mF m).length=m.length/\∀u,Wd w u->gd (mF m) (walk (mF m) 0 u)=1 - gd m (walk m 0 u):=by
 have el:(mF m).length=m.length:=ZA ..;have er:∀s,s < m.length->row (mF m) s=(1 - (row m s).1,(row m s).2):=λs hs=>by have:=Ah hs;unfold row mF;rw[Zz,ZD,this];rfl
 refine⟨⟨by rw[el];exact ok.ne,λs hs=>?_,λs hs=>?_,λs hs t ht=>?_⟩,el,λu hu=>?_⟩;·obtain⟨x,hx,rfl⟩:=abk.mp hs;exact Nat.sub_le _ _
 ·obtain⟨x,hx,rfl⟩:=abk.mp hs;exact ok.len x hx
 ·obtain⟨x,hx,rfl⟩:=abk.mp hs;rw[el];exact ok.lt x hx t ht
 ·have go:∀(u:List Nat) (s:Nat),s < m.length->Wd w u->walk (mF m) s u=walk m s u/\walk m s u < m.length:=by
   intro u;induction u with
   |nil=>intro s hs _;exact⟨rfl,hs⟩|cons a u ih=>
    intro s hs hu;have e:bB (mF m) s a=bB m s a:=by unfold bB;rw[er s hs]
    show walk (mF m) (bB (mF m) s a) u=walk m (bB m s a) u/\walk m (bB m s a) u < m.length;rw[e];exact ih _ (ok.bB hs hu.head) hu.tail
  obtain⟨e,h⟩:=go u 0 ok.ne hu;rw[e];unfold gd;rw[er _ h]
end Y
namespace Y
open PySem
def pD(p:Nat×Nat):D:=.tup [nD p.1,nD p.2]
def YW:P8 (Nat×Nat) where
 enc:=pD
 rK:=λps=>.dT (ps.zipIdx.map λq=>(wb q.1,P.d (nD q.2)))
 T8:=λ_=>rfl
 lit:=λa=>rfl
 get:=λps a _=>by show(kZ (.d (pD a))).map _=_;have:kZ (.d (pD a))=Δ (wb a):=rfl;rw[this,aag];congr 1;have:=wB (λ_ _=>wc) ps 0 a;rw[aao] at this;exact this
 put:=λps a h hl=>by show(if(ps.zipIdx.map λq=>(wb q.1,P.d (nD q.2))).length < au then(kZ (.d (pD a))).map _ else Θ)=_;have:kZ (.d (pD a))=Δ (wb a):=rfl;rw[if_pos (by simpa using hl),this,aag,E1 (λ_ _=>wc) h]
end Y
namespace Ub
open PySem Y
noncomputable def mG:List S:=[.app (.ix (.var 2) (.ix (.ix (.var 4) (.cst (.int 1))) (.var 1))) (.var 3)]
def i9:Fn:={np:=2,nn:=5,sh:=Λ,body:=[.set 2 (.lst Λ (.comp (.ex (.var 0)) 1 [] Θ (.lst Λ (.fO [])))),
  .hZ (.two 3 4) (.enum (.var 0)) mG,
  .ret (.var 2)]}
def kE:List S:=[.expr (.u6 (.var 2) (.var 4) (.var 3))]
def fZ:Fn:={np:=1,nn:=5,body:=[.set 1 (.make 20 "Groups" [.var 0]),
  .expr (.qL 24 "Groups" "settle" 1 []),
  .set 2 (.qK Ξ),
  .j9 3 4 (.attr "Groups" "group_of" 1) kE,
  .ret (.lst Ξ (.cF (.attr "Groups" "group_of" 1) [2] Θ (.ix (.var 1) (.var 0))))]}
noncomputable def eI:List S:=[.ifs (.cmp .pF (.var 8) (.var 3)) [.put (.var 3) (.var 8) (.bf .len [.var 4]),
  .app (.var 4) (.var 8)] []]
def kH:List S:=[.set 6 (.ix (.var 4) (.bf .len [.var 5])),
  .set 7 (.nI 1 [.var 6]),
  .hZ (.nm 8) (.ex (.var 7)) eI,
  .app (.var 5) (.tup [.nI 2 [.var 6],.bf .tuple [.lst Ξ (.comp (.ex (.var 7)) 1 [3] Θ (.ix (.var 1) (.var 0)))]])]
def dg:Fn:={np:=3,nn:=9,body:=[.set 3 (.FQ (.var 0) (.int 0)),
  .set 4 (.lst Λ (.fO [.var 0])),
  .set 5 (.lst Λ (.fO [])),
  .mh (.cmp .lt (.bf .len [.var 5]) (.bf .len [.var 4])) kH,
  .ret (.bf .tuple [.var 5])]}
def qc:Fn:={np:=1,nn:=3,body:=[.set 1 (.eR 1 [.var 0] [(25,[1,0]),(26,[0])]),
  .nh 2 25,
  .ret (.eR 2 [.ix (.var 1) (.cst (.int 0)),.var 2,.lam 26] [(25,[1,0]),(26,[0])])]}
def wH:Fn:={np:=3,nn:=5,body:=[.nh 3 27,
  .nh 4 28,
  .ret (.eR 3 [.eR 2 [.tup [.cst (.int 0),.cst (.int 0)],.var 3,.var 4] [(27,[0,1]),(28,[2,0,1])]] [(27,[0,1]),(28,[2,0,1])])]}
def DY:Fn:={np:=2,nn:=2,body:=[.ret (.eR 4 [.var 0,.var 1,.lam 29] [(29,[])])]}
def wI:Fn:={np:=2,nn:=2,body:=[.ret (.eR 4 [.var 0,.var 1,.lam 30] [(30,[])])]}
def Aq:Fn:={np:=2,nn:=2,body:=[.ret (.eR 4 [.var 0,.var 1,.lam 31] [(31,[])])]}
def lr:Fn:={np:=1,nn:=1,body:=[.ret (.call 3 [.bf .tuple [.lst Ξ (.comp (.ex (.var 0)) 1 [] Θ (.tup [.op .sub (.cst (.int 1)) (.ix (.var 0) (.cst (.int 0))),.ix (.var 0) (.cst (.int 1))]))]])]}
def dh:Fn:={np:=2,nn:=2,body:=[.ifs (.cmp .lt (.var 1) (.bf .len [.var 0])) [.ret (.ix (.var 0) (.var 1))] [],
  .ret (.cst (.int 0))]}
def gb:Fn:={np:=2,nn:=3,body:=[.set 2 (.op .mod (.op .mul (.op .add (.op .add (.call 9 [.var 0,.var 1]) (.op .mul (.cst (.int 7919)) (.var 1))) (.cst (.int 1))) (.cst (.int 48271))) (.cst (.int 2147483647))),
  .ret (.op .mod (.op .add (.op .add (.op .mul (.var 2) (.var 2)) (.op .mul (.cst (.int 7)) (.var 2))) (.var 1)) (.cst (.int 2147483629)))]}
def gc:Fn:={np:=2,nn:=3,body:=[.set 2 (.op .mod (.op .mul (.op .add (.op .add (.var 0) (.op .mul (.cst (.int 104729)) (.var 1))) (.cst (.int 17))) (.cst (.int 69621))) (.cst (.int 2147483647))),
  .ret (.op .mod (.op .add (.op .add (.op .mul (.var 2) (.var 2)) (.op .mul (.cst (.int 3)) (.var 2))) (.var 1)) (.cst (.int 2147483629)))]}
noncomputable def jx:List S:=[.set 4 (.op .add (.var 4) (.lst Ξ (.comp (.iQ [.var 0]) 1 [5] Θ (.op .add (.var 1) (.tup [.var 0])))))]
def mH:List S:=[.set 4 (.lst Ξ (.fO [])),
  .hZ (.nm 5) (.ex (.var 2)) jx,
  .set 2 (.var 4),
  .set 1 (.op .add (.var 1) (.var 2))]
def eJ:Fn:={np:=1,nn:=6,body:=[.set 1 (.lst Ξ (.fO [.tup []])),
  .set 2 (.lst Ξ (.fO [.tup []])),
  .hZ (.nm 3) (.iQ [.ix (.lst Ξ (.fO [.cst (.int 0),.cst (.int 8),.cst (.int 5),.cst (.int 4)])) (.var 0)]) mH,
  .ret (.var 1)]}
noncomputable def gW:List S:=[.set 6 (.bf .tuple [.lst Ξ (.comp (.iQ [.var 1]) 1 [3,0,5] Θ (.op .mod (.call 11 [.var 2,.op .add (.op .mul (.cst (.int 7)) (.var 3)) (.var 0)]) (.var 1)))]),
  .app (.var 4) (.tup [.op .mod (.op .mod (.call 11 [.var 0,.op .add (.op .mul (.cst (.int 7)) (.var 5)) (.cst (.int 5))]) (.cst (.int 3))) (.cst (.int 2)),.var 6])]
def di:Fn:={np:=3,nn:=7,body:=[.set 3 (.op .add (.cst (.int 1)) (.op .mod (.var 0) (.var 2))),
  .set 4 (.lst Λ (.fO [])),
  .hZ (.nm 5) (.iQ [.var 3]) gW,
  .ret (.bf .tuple [.var 4])]}
noncomputable def Ar:List S:=[.set 2 (.ix (.ix (.ix (.var 0) (.var 2)) (.cst (.int 1))) (.var 3))]
def ly:Fn:={np:=2,nn:=4,body:=[.set 2 (.cst (.int 0)),
  .hZ (.nm 3) (.ex (.var 1)) Ar,
  .ret (.cmp .eq (.ix (.ix (.var 0) (.var 2)) (.cst (.int 0))) (.cst (.int 1)))]}
def fe:Fn:={np:=2,nn:=2,body:=[.ret (.and [.Ib (.var 0) "int",.not (.Ib (.var 0) "bool"),.chain .le .le (.cst (.int 0)) (.var 0) (.var 1)])]}
noncomputable def dc:List S:=[.ifs (.or [.not (.Ib (.var 2) "tuple"),.cmp .ne (.bf .len [.var 2]) (.cst (.int 2)),.not (.call 15 [.ix (.var 2) (.cst (.int 0)),.cst (.int 1)])]) [.ret (.cst (.bl Ξ))] [],
  .ifs (.or [.not (.Ib (.ix (.var 2) (.cst (.int 1))) "tuple"),.cmp .ne (.bf .len [.ix (.var 2) (.cst (.int 1))]) (.var 1)]) [.ret (.cst (.bl Ξ))] [],
  .ifs (.cmp .ne (.lst Ξ (.comp (.ex (.ix (.var 2) (.cst (.int 1)))) 1 [0] (Δ (.not (.call 15 [.var 0,.op .sub (.bf .len [.var 1]) (.cst (.int 1))]))) (.var 0))) (.lst Ξ (.fO []))) [.ret (.cst (.bl Ξ))] []]
def bw:Fn:={np:=2,nn:=3,body:=[.ifs (.or [.not (.Ib (.var 0) "tuple"),.cmp .eq (.var 0) (.tup [])]) [.ret (.cst (.bl Ξ))] [],
  .hZ (.nm 2) (.ex (.var 0)) dc,
  .ret (.cst (.bl Λ))]}
noncomputable def iC:List S:=[.ifs (.cmp .ne (.ix (.ix (.var 0) (.var 3)) (.cst (.int 0))) (.ix (.ix (.var 0) (.var 4)) (.cst (.int 0)))) [.put (.var 2) (.tup [.var 3,.var 4]) (.cst (.bl Λ))] []]
def iD:List S:=[.hZ (.nm 4) (.iQ [.var 1]) iC]
noncomputable def iE:List S:=[.set 6 (.lst Ξ (.zip (.ix (.ix (.var 0) (.var 3)) (.cst (.int 1))) (.ix (.ix (.var 0) (.var 4)) (.cst (.int 1))))),
  .ifs (.bf .any [.lst Ξ (.comp (.ex (.var 6)) 1 [2] Θ (.cmp .isin (.var 0) (.var 1)))]) [.put (.var 2) (.tup [.var 3,.var 4]) (.cst (.bl Λ))] []]
def iF:List S:=[.hZ (.nm 4) (.iQ [.var 1]) iE]
def iG:List S:=[.hZ (.nm 3) (.iQ [.var 1]) iF]
def ff:Fn:={np:=1,nn:=7,sh:=Λ,body:=[.set 1 (.bf .len [.var 0]),
  .set 2 (.qK Λ),
  .hZ (.nm 3) (.iQ [.var 1]) iD,
  .hZ (.nm 5) (.iQ [.var 1]) iG,
  .ret (.var 2)]}
noncomputable def dI:List S:=[.ifs (.cmp .pF (.var 4) (.var 2)) [.app (.var 2) (.var 4)] []]
def bM:List S:=[.ifs (.cmp .ge (.var 3) (.bf .len [.var 2])) [.ret (.cst (.bl Ξ))] [],
  .hZ (.nm 4) (.ex (.ix (.ix (.var 0) (.ix (.var 2) (.var 3))) (.cst (.int 1)))) dI]
def fm:Fn:={np:=2,nn:=6,body:=[.ifs (.not (.call 16 [.var 0,.var 1])) [.ret (.cst (.bl Ξ))] [],
  .set 2 (.lst Λ (.fO [.cst (.int 0)])),
  .hZ (.nm 3) (.iQ [.bf .len [.var 0]]) bM,
  .ifs (.cmp .ne (.var 2) (.lst Ξ (.iQ [.bf .len [.var 0]]))) [.ret (.cst (.bl Ξ))] [],
  .set 5 (.call 17 [.var 0]),
  .ret (.cmp .eq (.bf .len [.var 5]) (.op .sub (.op .mul (.bf .len [.var 0]) (.bf .len [.var 0])) (.bf .len [.var 0])))]}
noncomputable def E3:List S:=[.set 6 (.call 14 [.var 2,.var 5]),
  .set 7 (.call 14 [.var 3,.var 5]),
  .set 8 (.lst Ξ (.fO [.and [.var 6,.var 7],.or [.var 6,.var 7],.cmp .ne (.var 6) (.var 7),.not (.var 6)])),
  .ifs (.cmp .ne (.lst Ξ (.comp (.ex (.var 4)) 1 [5] Θ (.call 14 [.var 0,.var 1]))) (.var 8)) [.ret (.cst (.bl Ξ))] []]
def sV:Fn:={np:=1,nn:=9,body:=[.set 1 (.op .add (.cst (.int 1)) (.op .mod (.call 10 [.var 0,.cst (.int 0)]) (.cst (.int 3)))),
  .set 2 (.call 13 [.call 10 [.var 0,.cst (.int 1)],.var 1,.cst (.int 5)]),
  .set 3 (.call 13 [.call 10 [.var 0,.cst (.int 2)],.var 1,.cst (.int 5)]),
  .set 4 (.lst Ξ (.fO [.call 5 [.var 2,.var 3],.call 6 [.var 2,.var 3],.call 7 [.var 2,.var 3],.call 8 [.var 2]])),
  .ifs (.cmp .ne (.lst Ξ (.comp (.ex (.var 4)) 1 [1] (Δ (.not (.call 18 [.var 0,.var 1]))) (.var 0))) (.lst Ξ (.fO []))) [.ret (.cst (.bl Ξ))] [],
  .hZ (.nm 5) (.ex (.call 12 [.var 1])) E3,
  .ret (.cmp .eq (.var 2) (.call 13 [.call 10 [.var 0,.cst (.int 1)],.var 1,.cst (.int 5)]))]}
noncomputable def iO:List S:=[.put (.ix (.attr "Groups" "members" 0) (.ix (.var 3) (.cst (.int 0)))) (.var 2) (.cst (.bl Λ))]
def gf:Fn:={np:=2,nn:=4,sh:=Λ,body:=[.nj "Groups" "sources" 0 (.lst Λ (.comp (.iQ [.bf .len [.ix (.ix (.var 1) (.cst (.int 0))) (.cst (.int 1))]]) 1 [1] Θ (.call 0 [.var 1,.var 0]))),
  .nj "Groups" "group_of" 0 (.lst Λ (.comp (.ex (.var 1)) 1 [] Θ (.ix (.var 0) (.cst (.int 0))))),
  .nj "Groups" "members" 0 (.lst Λ (.fO [.qK Ξ,.qK Ξ])),
  .hZ (.two 2 3) (.enum (.var 1)) iO,
  .nj "Groups" "waiting" 0 (.lst Λ (.fO [.cst (.int 0),.cst (.int 1)])),
  .nj "Groups" "waits" 0 (.lst Λ (.fO [.cst (.bl Λ),.cst (.bl Λ)]))]}
def cQ:Fn:={np:=2,nn:=2,sh:=Λ,body:=[.app (.attr "Groups" "waiting" 0) (.var 1),
  .put (.attr "Groups" "waits" 0) (.var 1) (.cst (.bl Λ))]}
noncomputable def iu:List S:=[.expr (.FO (.var 3) (.var 5)),
  .put (.ix (.attr "Groups" "members" 0) (.var 4)) (.var 5) (.cst (.bl Λ)),
  .put (.attr "Groups" "group_of" 0) (.var 5) (.var 4)]
def bF:Fn:={np:=3,nn:=6,sh:=Λ,body:=[.set 3 (.ix (.attr "Groups" "members" 0) (.var 1)),
  .ifs (.cmp .eq (.bf .len [.var 2]) (.bf .len [.var 3])) [.FR] [],
  .set 4 (.bf .len [.attr "Groups" "members" 0]),
  .app (.attr "Groups" "members" 0) (.qK Ξ),
  .app (.attr "Groups" "waits" 0) (.cst (.bl Ξ)),
  .jE (.nm 5) (.var 2) iu,
  .ifs (.or [.ix (.attr "Groups" "waits" 0) (.var 1),.cmp .le (.bf .len [.var 2]) (.bf .len [.var 3])]) [.expr (.qL 21 "Groups" "let_wait" 0 [.var 4])] [.expr (.qL 21 "Groups" "let_wait" 0 [.var 1])]]}
noncomputable def dj:List S:=[.app (.u6 (.var 3) (.ix (.attr "Groups" "group_of" 0) (.var 5)) (.lst Λ (.fO []))) (.var 5)]
def dk:List S:=[.jE (.nm 5) (.ix (.ix (.attr "Groups" "sources" 0) (.var 2)) (.var 4)) dj]
noncomputable def fM:List S:=[.expr (.qL 22 "Groups" "set_apart" 0 [.var 6,.var 7])]
def cE:Fn:={np:=3,nn:=8,sh:=Λ,body:=[.set 3 (.qK Ξ),
  .hZ (.nm 4) (.ex (.var 1)) dk,
  .Dx 6 7 (.var 3) fM]}
noncomputable def jU:List S:=[.expr (.qL 23 "Groups" "set_apart_by" 0 [.var 2,.var 3])]
def gg:List S:=[.set 1 (.FP (.attr "Groups" "waiting" 0)),
  .put (.attr "Groups" "waits" 0) (.var 1) (.cst (.bl Ξ)),
  .set 2 (.lst Ξ (.keys (.ix (.attr "Groups" "members" 0) (.var 1)))),
  .hZ (.nm 3) (.iQ [.bf .len [.attr "Groups" "sources" 0]]) jU]
def iH:Fn:={np:=1,nn:=4,sh:=Λ,body:=[.mh (.cmp .gt (.bf .len [.attr "Groups" "waiting" 0]) (.cst (.int 0))) gg]}
def gY:Fn:={np:=3,nn:=3,body:=[.ret (.lst Ξ (.comp (.ex (.ix (.ix (.var 2) (.var 0)) (.cst (.int 1)))) 1 [1] Θ (.ix (.var 1) (.var 0))))]}
def dz:Fn:={np:=2,nn:=2,body:=[.ret (.ix (.ix (.var 1) (.var 0)) (.cst (.int 0)))]}
def gh:Fn:={np:=3,nn:=3,body:=[.ret (.lst Ξ (.zip (.ix (.ix (.var 1) (.ix (.var 0) (.cst (.int 0)))) (.cst (.int 1))) (.ix (.ix (.var 2) (.ix (.var 0) (.cst (.int 1)))) (.cst (.int 1)))))]}
def gZ:Fn:={np:=4,nn:=4,body:=[.ret (.nI 1 [.ix (.ix (.var 2) (.ix (.var 0) (.cst (.int 0)))) (.cst (.int 0)),.ix (.ix (.var 3) (.ix (.var 0) (.cst (.int 1)))) (.cst (.int 0))])]}
def gi:Fn:={np:=2,nn:=2,body:=[.ret (.op .band (.var 0) (.var 1))]}
def eK:Fn:={np:=2,nn:=2,body:=[.ret (.op .bor (.var 0) (.var 1))]}
def fu:Fn:={np:=2,nn:=2,body:=[.ret (.op .bxor (.var 0) (.var 1))]}
def Fs:List Fn:=[i9,fZ,dg,qc,wH,DY,wI,Aq,lr,dh,gb,gc,eJ,di,ly,fe,bw,ff,fm,sV,gf,cQ,bF,cE,iH,gY,dz,gh,gZ,gi,eK,fu]
theorem xB:Fs[0]?=Δ i9:=rfl
theorem tK:Fs[1]?=Δ fZ:=rfl
theorem tM:Fs[2]?=Δ dg:=rfl
theorem Ju:Fs[3]?=Δ qc:=rfl
theorem Gq:Fs[4]?=Δ wH:=rfl
theorem L9:Fs[5]?=Δ DY:=rfl
theorem Gr:Fs[6]?=Δ wI:=rfl
theorem Jv:Fs[7]?=Δ Aq:=rfl
theorem xC:Fs[8]?=Δ lr:=rfl
theorem tN:Fs[9]?=Δ dh:=rfl
theorem xD:Fs[10]?=Δ gb:=rfl
theorem xE:Fs[11]?=Δ gc:=rfl
theorem xF:Fs[12]?=Δ eJ:=rfl
theorem tP:Fs[13]?=Δ di:=rfl
theorem Cg:Fs[14]?=Δ ly:=rfl
theorem wJ:Fs[15]?=Δ fe:=rfl
theorem oE:Fs[16]?=Δ bw:=rfl
theorem wK:Fs[17]?=Δ ff:=rfl
theorem rN:Fs[18]?=Δ fm:=rfl
theorem Qc:Fs[19]?=Δ sV:=rfl
theorem oF:Fs[20]?=Δ gf:=rfl
theorem oG:Fs[21]?=Δ cQ:=rfl
theorem iP:Fs[22]?=Δ bF:=rfl
theorem lC:Fs[23]?=Δ cE:=rfl
theorem rO:Fs[24]?=Δ iH:=rfl
theorem qd:Fs[25]?=Δ gY:=rfl
theorem rP:Fs[26]?=Δ dz:=rfl
theorem oH:Fs[27]?=Δ gh:=rfl
theorem qf:Fs[28]?=Δ gZ:=rfl
theorem tQ:Fs[29]?=Δ gi:=rfl
theorem qg:Fs[30]?=Δ eK:=rfl
theorem rQ:Fs[31]?=Δ fu:=rfl
section
variable{w:Nat}{m:dw}(ok:eY w m)(hm:m.length<=100000)
def kg(m:dw)(a k:Nat):aM:=(Zq m.length).map λt=>O.lst (((Zq k).filter λs=>decide (bB m s a=t)).map λx=>P.d (nD x))
def nu(b n:Nat):O:=.lst ((Zq n).map λt=>P.obj (b+t))
theorem dA a k:(kg m a k).length=m.length:=by simp[kg]
theorem mI(ht:t < m.length):(kg m a k)[t]?=Δ (O.lst (((Zq k).filter λs=>decide (bB m s a=t)).map λx=>P.d (nD x))):=by simp[kg,ht]
theorem Gs:(kg m a k).set (bB m k a) (O.lst ((((Zq k).filter λs=>decide (bB m s a=bB m k a)).map λx=>P.d (nD x))++[P.d (nD k)]))=kg m a (k+1):=by
 apply adS;intro t;by_cases ht:t < m.length
 ·rw[mI ht,aaN,aco,aan];by_cases e:bB m k a=t;·subst e;rw[ZY (by rw[dA];exact ht)];simp
  ·rw[Zw e,mI ht];simp[e]
 ·rw[aac (by rw[aaX,dA];lia),aac (by rw[dA];lia)]
include ok hm
theorem As(n:Nat)(a:Nat)(ha:a < w)(st:aM):callC Fs (n+1) 0 [.d (mD m),.d (nD a)] st=.ok (.obj (st.length+m.length)) (st++kg m a m.length++[nu st.length m.length]):=by
 refine Ac xB rfl rfl ?_;have e1:be (callC Fs n) (.comp (.ex (.var 0)) 1 [] Θ (.lst Λ (.fO []))) (aA 5 [.d (mD m),.d (nD a)]) st=.ok ((Zq m.length).map λt=>P.obj (st.length+t)) (st++kg m a 0):=by
  rw[BN];have ew:cK (callC Fs n) (.ex (.var 0)) (aA 5 [.d (mD m),.d (nD a)]) st=.ok ((m.map gS).map .d) st:=by simp[aA,mD]
  rw[ew,ae,if_pos (by simp[au];lia)];refine bg (λzs aO e q=>?_) (rE (g:=λp=>Δ p::bO [] (aA 5 [.d (mD m),.d (nD a)])) (c:=bH (callC Fs n) Θ) (e:=λr' aO=>aa (callC Fs n) (.lst Λ (.fO [])) r' aO) (I:=λk ys s=>ys=(Zq k).map (λt=>P.obj (st.length+t))/\s=st++aaS k (O.lst [])) (ps:=(m.map gS).map .d) (k:=0) (ys:=[]) (st:=st)
   (λi p ys s ⟨h1,h2⟩ hp=>⟨.obj s.length,s++[.lst []],by simp,by simp[au],by
    rw[aao] at h1 h2 ⊢;subst h1 h2;refine⟨?_,?_⟩;·rw[aaN,aan];simp
    ·rw[aas,List.replicate_succ']⟩) ⟨by simp,by simp⟩)
  obtain⟨q1,q2⟩:=q;rw[e];simp only[abY,aao,ZA] at q1 q2;rw[q1,q2];congr 2;apply adS;intro t;by_cases ht:t < m.length;·rw[mI ht];simp[ht]
  ·rw[aac (by simp;lia),aac (by rw[dA];lia)]
 refine ag (bD (v:=.obj (st.length+m.length)) (st1:=st++kg m a 0++[nu st.length m.length]) ?_) ?_;·show aa (callC Fs n) (.lst Λ (.comp (.ex (.var 0)) 1 [] Θ (.lst Λ (.fO [])))) (aA 5 [.d (mD m),.d (nD a)]) st=_;rw[jQ,e1,ae];simp[dA,nu]
 refine ah (λr' s' e qv q2=>?_) (ij (g:=jb (.two 3 4)) (b:=ai (callC Fs n) mG) (ps:=eZ 0 (m.map gS)) (k:=0) (r:=[Δ (.d (mD m)),Δ (.d (nD a)),Δ (.obj (st.length+m.length)),Θ,Θ]) (st:=st++kg m a 0++[nu st.length m.length])
  (I:=λk r s=>(∃y3 y4,r=[Δ (.d (mD m)),Δ (.d (nD a)),Δ (.obj (st.length+m.length)),y3,y4])/\s=st++kg m a k++[nu st.length m.length])
  (λi p r s gy hp=>by
   obtain⟨⟨y3,y4,h1⟩,h2⟩:=gy;rw[aao] at h2 ⊢;subst h1 h2;rw[rF,ZD] at hp;have hi:i < m.length:=by
    by_cases z:i < m.length;·exact z
    ·rw[aac (by lia)] at hp;simp at hp
   rw[Ah hi] at hp;simp only[aag,adQ,aao] at hp;subst hp;have ht:=ok.bB hi ha;have hl:=ok.len _ (aW hi);have g1:(st++kg m a i++[nu st.length m.length])[st.length+m.length]?=Δ (nu st.length m.length):=by rw[show st.length+m.length=(st++kg m a i).length by simp[dA]];simp
   have g2:(st++kg m a i++[nu st.length m.length])[st.length+bB m i a]?=Δ (O.lst (((Zq i).filter λs=>decide (bB m s a=bB m i a)).map λx=>P.d (nD x))):=by rw[LI (by rw[dA];exact ht),mI ht]
   refine⟨_,[Δ (.d (mD m)),Δ (.d (nD a)),Δ (.obj (st.length+m.length)),Δ (.d (nD i)),Δ (.d (gS (row m i)))],st++kg m a (i+1)++[nu st.length m.length],rfl,?_,⟨⟨_,_,rfl⟩,rfl⟩⟩;refine ag (pY (x:=.obj (st.length+bB m i a)) (v:=.d (nD i)) (its:=((Zq i).filter λs=>decide (bB m s a=bB m i a)).map λx=>P.d (nD x)) (st1:=st++kg m a i++[nu st.length m.length]) (st2:=st++kg m a i++[nu st.length m.length]) ?_ (iY g2) (by simp[nD]) ?_) az;·generalize st++kg m a i++[nu st.length m.length]=S at g1 g2;have e1:qD ((row m i).2.map nD) (a:Int)=Δ (nD (bB m i a)):=TV ok hi ha;simp[gS,wD,e1,nD,jt g1 (show((Zq m.length).map λt=>P.obj (st.length+t))[bB m i a]?=Δ (.obj (st.length+bB m i a)) by simp[ht])]
   ·rw[jR g2 (by
     have:((Zq i).filter λs=>decide (bB m s a=bB m i a)).length<=i:=by have:=abU (λs=>decide (bB m s a=bB m i a)) (Zq i);simpa using this
     unfold au;simp only[ZA]
     lia),LH (by rw[dA];exact ht),Gs]) ⟨⟨Θ,Θ,rfl⟩,rfl⟩)
 obtain⟨y3,y4,q1⟩:=qv;rw[rG,ZA,aao] at q2;subst q1 q2;refine ag (e8 (ps:=eZ 0 (m.map gS)) (st1:=st++kg m a 0++[nu st.length m.length]) (by simp[aA,i9,mD]) e) ?_;exact aK (cB (by simp))
end
section
variable{m:dw}{w b:Nat}{mb:List Nat}{st aO:aM}{h:oS}
theorem nN n(hs:HS m w b mb st h)(hg:g < h.jD.length)(hw:h.wait.length < au):
  callC Fs (n+1) 21 [.obj 0,.d (nD g)] st=.ok (.d .bG) ((st.set (b+5) (encL (h.wait++[g]))).set (b+6) (kD (h.jD.set g Λ))):=by
 refine mx oG rfl rfl (r:=[Δ (.obj 0),Δ (.d (nD g))]) ?_;have hl:=hs.len;have e1:(st.set (b+5) (encL (h.wait++[g])))[b+6]?=Δ (kD h.jD):=by rw[Zw (by lia)];exact hs.jD
 have s1:(st.set (b+5) (encL (h.wait++[g])))[0]?=Δ (jw b):=by rw[Zw (by lia)];exact hs.self
 refine ag (pY (x:=.obj (b+5)) (v:=.d (nD g)) (its:=h.wait.map λs=>P.d (nD s)) (st1:=st) (st2:=st) (dv rfl hs.self rfl) (iY hs.QU) (by simp[aA,cQ]) (st3:=st.set (b+5) (encL (h.wait++[g]))) ?_) ?_;·rw[jR hs.QU (by simpa using hw)];simp[encL]
 ·refine ag (pZ (x:=.obj (b+6)) (k:=.d (nD g)) (v:=.d (.bl Λ)) (st1:=st.set (b+5) (encL (h.wait++[g]))) (st2:=st.set (b+5) (encL (h.wait++[g]))) (st3:=st.set (b+5) (encL (h.wait++[g]))) (by simp) (dv rfl s1 rfl) (by simp[aA,cQ]) ?_) (st1:=(st.set (b+5) (encL (h.wait++[g]))).set (b+6) (kD (h.jD.set g Λ))) az;·rw[show nD g=.int (g:Int) from rfl,Ag e1 (by simpa using hg)];simp[kD,aeR]
end
section
variable{m:dw}{w b:Nat}{mb:List Nat}{st aO:aM}{h:oS}
theorem wL n(hs:HS m w b mb st h)(hl:st[l]?=Δ (encL ss))(ho:GQ b mb l)(hg:g < h.mem.length)(Oa:∀s∈ss,s∈h.mem.getD g [])(Gm:ss.Nodup)(Yz:∀s∈ss,s < h.grp.length)(UU:h.jD.length=h.mem.length)(hw:h.wait.length < au)(hml:h.mem.length < 1000000)(hsl:ss.length < 1000000):
  ∃xb aO,callC Fs (n+2) 22 [.obj 0,.d (nD g),.obj l] st=.ok (.d .bG) aO/\HS m w b xb aO (aD h g ss)/\st.length<=aO.length/\∀i,i < st.length->GQ b mb i->aO[i]?=st[i]?/\GQ b xb i:=by
 refine gM (λa Uc O1 ha3 ha4=>?_) (hs.mem g hg);have hlen:=hs.len;have Vr:a≠l:=λz=>ho.2 (z▸ZG Uc);have Vs:l < st.length:=(List.getElem?_eq_some_iff.mp hl).1;have hll2:=ho.1;have eN:ss.length=(ss.map λs=>P.d (nD s)).length:=by simp
 have e1:aa (callC Fs (n+1)) (.ix (.attr "Groups" "members" 0) (.var 1)) (aA 6 [.obj 0,.d (nD g),.obj l]) st=.ok (.obj a) st:=by rw[bA,dv rfl hs.self rfl,ae];simp only[aA,ba,nD];simp[jt hs.M6 (show(mb.map P.obj)[g]?=Δ (.obj a) by rw[ZD,Uc];rfl)]
 have el:ur .len [.obj l] st=Δ (.d (.int (ss.length:Nat))):=by rw[i0 hl];simp
 have ea:ur .len [.obj a] st=Δ (.d (.int ((h.mem.getD g []).length:Nat))):=by have:=Jc (show st[a]?=Δ (.dK _) from ha4);rw[this];simp
 by_cases hc:ss.length=(h.mem.getD g []).length
 ·refine⟨mb,st,?_,?_,ZC _,λi _ hi=>⟨rfl,hi⟩⟩
  ·refine Ac iP rfl rfl (ag (bD e1) (aK (lK (st1:=st) ?_ (aK vk))));simp[aA,bF,el,ea];rw[Zz] at hc
   lia
  ·unfold aD;rw[if_pos hc];exact hs
 ·
  let fr:=h.mem.length
  let nw:=st.length
  let J:Nat->aM->Prop:=λi s=>s.length=st.length+1/\(∀k,k < st.length->k≠a->k≠b+1->k≠b+4->k≠b+6->s[k]?=st[k]?)/\s[a]?=Δ (encM ((h.mem.getD g []).filter λx=>decide (x∉ss.take i)))/\s[st.length]?=Δ (encM (ss.take i))/\
   s[b+1]?=Δ (encL (putAll h.mem.length (ss.take i) h.grp))/\s[b+4]?=Δ (.lst ((mb++[st.length]).map P.obj))/\s[b+6]?=Δ (kD (h.jD++[Ξ]))
  have ab:a≠b+1/\a≠b+4/\a≠b+5/\a≠b+6/\a≠b/\0 < a:=by rcases O1 with z|z|z<;>lia
  have J0:J 0 (((st++[O.dK []]).set (b+4) (.lst ((mb++[st.length]).map P.obj))).set (b+6) (kD (h.jD++[Ξ]))):=by
   refine⟨by simp,λk hk k1 k2 k3 k4=>?_,?_,?_,?_,?_,?_⟩;·rw[Zw (aaw k4),Zw (aaw k3),Zy hk]
   ·rw[Zw (by lia),Zw (by lia),Zy ha3,ha4,List.take_zero];congr 2;exact(List.filter_eq_self.mpr λx _=>by simp).symm
   ·rw[Zw (by lia),Zw (by lia)];simp[encM]
   ·rw[Zw (by lia),Zw (by lia),Zy (by lia),hs.grp];simp[putAll]
   ·rw[Zw (by lia),ZY (by simp;lia)]
   ·rw[ZY (by simp;lia)]
  refine cps λgG kG=>?_;refine ah (λr' s' e qv q2=>?_) (vZ (n:=l) (g:=jb (.nm 5)) (b:=ai (callC Fs (n+1)) iu) (xs:=ss.map λs=>P.d (nD s)) (I:=λi r s=>(∃y5,r=[Δ (.obj 0),Δ (.d (nD g)),Δ (.obj l),Δ (.obj a),Δ (.d (nD h.mem.length)),y5])/\J i s)
   (λi r s hi=>by rw[hi.2.2.1 l Vs (aaw Vr) (by lia) (by lia) (by lia),hl];rfl)
   (λi p r s gy hp=>by
    obtain⟨⟨y5,h1⟩,j1,j2,j3,j4,j5,j6,j7⟩:=gy;subst h1;rw[ZD] at hp;cases M9:ss[i]? with
    |none=>rw[M9] at hp;exact aQ hp|some x=>
     rw[M9] at hp;obtain rfl:=sj hp;have hx:=ZG M9;have s0:s[0]?=Δ (jw b):=by rw[j2 0 (by lia) (by lia) (by lia) (by lia) (by lia)];exact hs.self
     have xr:x∈(h.mem.getD g []).filter λy=>decide (y∉ss.take i):=by rw[aaE];exact⟨Oa x hx,by simpa using Cb Gm M9⟩
     have tl:(ss.take i).length < au:=LL i hsl;have p1:=Js j3 xr;have k4:(s.set a (encM (((h.mem.getD g []).filter λy=>decide (y∉ss.take i)).filter λy=>decide (y≠x))))[st.length]?=Δ (encM (ss.take i)):=by rw[Zw (by lia)];exact j4
     have k6:(s.set a (encM (((h.mem.getD g []).filter λy=>decide (y∉ss.take i)).filter λy=>decide (y≠x))))[b+4]?=Δ (.lst ((mb++[st.length]).map P.obj)):=by rw[Zw (by lia)];exact j6
     have k0:(s.set a (encM (((h.mem.getD g []).filter λy=>decide (y∉ss.take i)).filter λy=>decide (y≠x))))[0]?=Δ (jw b):=by rw[Zw (by lia)];exact s0
     have k5:(s.set a (encM (((h.mem.getD g []).filter λy=>decide (y∉ss.take i)).filter λy=>decide (y≠x))))[b+1]?=Δ (encL (putAll h.mem.length (ss.take i) h.grp)):=by rw[Zw (by lia)];exact j5
     have p2:=wy k4 (Cb Gm M9) tl;generalize Vt:s.set a (encM (((h.mem.getD g []).filter λy=>decide (y∉ss.take i)).filter λy=>decide (y≠x)))=S1 at*;have S1l:S1.length=st.length+1:=by rw[<-Vt];simpa using j1
     have l5:(S1.set st.length (encM (ss.take i++[x])))[b+1]?=Δ (encL (putAll h.mem.length (ss.take i) h.grp)):=by rw[Zw (by lia)];exact k5
     have l0:(S1.set st.length (encM (ss.take i++[x])))[0]?=Δ (jw b):=by rw[Zw (by lia)];exact k0
     have p3:=Ag (v:=P.d (nD h.mem.length)) l5 (i:=x) (by simp only[ZA,ox];exact Yz x hx);refine⟨_,[Δ (.obj 0),Δ (.d (nD g)),Δ (.obj l),Δ (.obj a),Δ (.d (nD h.mem.length)),Δ (.d (nD x))],(S1.set st.length (encM (ss.take i++[x]))).set (b+1) (encL (putAll h.mem.length (ss.take (i+1)) h.grp)),rfl,?_,⟨_,rfl⟩,?_,λk hk k1 k2 k3 k4=>?_,?_,?_,?_,?_,?_⟩
     ·refine ag (ou (v:=.d (.bl Λ)) (st1:=S1) ?_) ?_;·rw[vc];simp[Jr j3,p1]
      refine ag (pZ (x:=.obj st.length) (k:=.d (nD x)) (v:=.d (.bl Λ)) (st1:=S1) (st2:=S1) (st3:=S1) (by simp) ?_ (by simp) p2) ?_;·rw[bA,dv rfl k0 rfl,ae];have:=jt k6 (i:=h.mem.length) (p:=.obj st.length) (by rw[ZD,ZX (by rw[hs.tJ];exact ZC _),hs.tJ];simp);simp[nD,this]
      refine ag (pZ (x:=.obj (b+1)) (k:=.d (nD x)) (v:=.d (nD h.mem.length)) (st1:=S1.set st.length (encM (ss.take i++[x]))) (st2:=S1.set st.length (encM (ss.take i++[x]))) (st3:=S1.set st.length (encM (ss.take i++[x]))) (by simp) (dv rfl l0 rfl) (by simp) (show pI _ (.d (.int (x:Int))) _ _=_ from p3)) ?_;rw[az];simp only[encL,<-aeR,Ca M9];rfl
     ·simpa using S1l
     ·rw[Zw (by lia),Zw (by lia),<-Vt,Zw (by lia)];exact j2 k hk k1 k2 k3 k4
     ·rw[Zw (by lia),Zw (by lia),<-Vt,ZY (by lia),B9 M9]
     ·rw[Zw (by lia),ZY (by lia)];have e:ss.take (i+1)=ss.take i++[x]:=by rw[aa4,M9];rfl
      rw[e]
     ·rw[ZY (by simp;lia)]
     ·rw[Zw (by lia),Zw (by lia)];exact k6
     ·rw[Zw (by lia),Zw (by lia),<-Vt,Zw (by lia)];exact j7)
   eU (i:=0) ⟨⟨Θ,rfl⟩,J0⟩ (aaB _) (by simp[eU];lia))
  obtain⟨y5,q1⟩:=qv;subst q1;rw[ZA] at q2;obtain⟨j1,j2,j3,j4,j5,j6,j7⟩:=q2;refine kG ?_;rw[aaY (ZC _)] at j3 j4 j5;have s0:s'[0]?=Δ (jw b):=by rw[j2 0 (by lia) (by lia) (by lia) (by lia) (by lia)];exact hs.self
  have hS:HS m w b (mb++[st.length]) s' ⟨putAll h.mem.length ss h.grp,h.mem.set g ((h.mem.getD g []).filter λs=>decide (s∉ss))++[ss],h.wait,h.jD++[Ξ]⟩:=by
   refine⟨by lia,hs.b0,s0,?_,j5,j6,by simp[hs.tJ],λk hk=>?_,?_,?_,j7⟩
   ·refine aB (λouter o1 o2 o3=>?_) (hs.src);have hb0:=hs.b0;refine⟨outer,by rw[j2 b (by lia) (by lia) (by lia) (by lia) (by lia)];exact o1,o2,λa' U9=>?_⟩;have ab':b+2<=a:=by rcases O1 with z|z|z<;>lia
    refine bq (λo rows f1 f2 f3 f4 f5=>?_) (o3 a' U9);refine⟨o,rows,f1,f2,f3,by rw[j2 o (by lia) (by lia) (by lia) (by lia) (by lia)];exact f4,λt ht=>?_⟩;refine gM (λl' g1 g2 g3 g4=>?_) (f5 t ht);exact⟨l',g1,g2,g3,by rw[j2 l' (by lia) (by lia) (by lia) (by lia) (by lia)];exact g4⟩
   ·by_cases xk:k < h.mem.length
    ·by_cases yk:k=g;·subst yk;refine⟨a,by rw[Zy (by rw[hs.tJ];exact xk)];exact Uc,O1,by lia,?_⟩;rw[j3];show _=Δ (encM ((h.mem.set k _++[ss]).getD k []));rw[jv (by simpa using xk),fJ xk]
     ·refine gM (λa' c1 c2 c3 c4=>?_) (hs.mem k xk);have:a'≠a:=λz=>yk (by rw[z] at c1;obtain⟨x1,y1⟩:=List.getElem?_eq_some_iff.mp c1;obtain⟨x2,y2⟩:=List.getElem?_eq_some_iff.mp Uc;exact Ao hs.T6 x1 x2 (y1.trans y2.symm));refine⟨a',by rw[Zy (by rw[hs.tJ];exact xk)];exact c1,c2,by lia,?_⟩;rw[j2 a' c3 this (by rcases c2 with z|z|z<;>lia) (by rcases c2 with z|z|z<;>lia) (by rcases c2 with z|z|z<;>lia),c4];show _=Δ (encM ((h.mem.set g _++[ss]).getD k []));rw[jv (by simpa using xk),dR (aaw yk)]
    ·have e2:k=h.mem.length:=by simp at hk;lia
     subst e2;refine⟨st.length,by rw[<-hs.tJ];simp,.inr (.inr hlen),by lia,?_⟩;rw[j4];show _=Δ (encM ((h.mem.set g _++[ss]).getD h.mem.length []));congr 2;have:=jT (l:=h.mem.set g ((h.mem.getD g []).filter λs=>decide (s∉ss))) (x:=ss) (d:=[]);rw[aaX] at this;exact this.symm
   ·rw[aar];refine⟨hs.T6,by simp,λx hx y hy=>?_⟩;simp at hy;subst hy;have:=(hs.mad hx).2
    lia
   ·rw[j2 (b+5) (by lia) (by lia) (by lia) (by lia) (by lia)];exact hs.QU
  have sl:s'[l]?=Δ (encL ss):=by rw[j2 l Vs (aaw Vr) (by lia) (by lia) (by lia)];exact hl
  have ll:ur .len [.obj l] s'=Δ (.d (.int (ss.length:Nat))):=by rw[i0 sl];simp
  have la:ur .len [.obj a] s'=Δ (.d (.int (((h.mem.getD g []).filter λx=>decide (x∉ss)).length:Nat))):=by have:=Jc (show s'[a]?=Δ (.dK _) from j3);rw[this];simp
  have gw:g < h.jD.length:=by lia
  have wg:(h.jD++[Ξ])[g]?=Δ (h.jD.getD g Ξ):=by rw[Zy gw,Zz,Zu gw];rfl
  have wx:=jt j7 (i:=g) (p:=.d (.bl (h.jD.getD g Ξ))) (by rw[ZD,wg];rfl);have fr2:∀(s2:aM) (x y:O),s2=(s'.set (b+5) x).set (b+6) y->st.length<=s2.length/\∀i,i < st.length->GQ b mb i->s2[i]?=st[i]?/\GQ b (mb++[st.length]) i:=λs2 x y e2=>by
   subst e2;refine⟨by simp;lia,λi hi Vu=>?_⟩;have:=Vu.1;have hia:i≠a:=λz=>Vu.2 (z▸ZG Uc);refine⟨by rw[Zw (by lia),Zw (by lia)];exact j2 i hi hia (by lia) (by lia) (by lia),Vu.1,λz=>?_⟩;rcases acQ.mp z with z|z;·exact Vu.2 z
   ·simp at z;lia
  have fin:∃r2 s2,ai (callC Fs (n+1)) (bF.body.drop 6) [Δ (.obj 0),Δ (.d (nD g)),Δ (.obj l),Δ (.obj a),Δ (.d (nD h.mem.length)),y5] s'=.ok (.nx r2) s2/\HS m w b (mb++[st.length]) s2 (aD h g ss)/\st.length<=s2.length/\∀i,i < st.length->GQ b mb i->s2[i]?=st[i]?/\GQ b (mb++[st.length]) i:=by
   by_cases GO:h.jD.getD g Ξ=Λ\/ss.length<=((h.mem.getD g []).filter λx=>decide (x∉ss)).length
   ·have lw:=nN n hS (g:=h.mem.length) (by simp;lia) hw;have hq:=hS.T7 h.mem.length;obtain⟨f1,f2⟩:=fr2 _ _ _ rfl;refine⟨_,_,ag (lK (st1:=s') ?_ (ag (ou (v:=.d .bG) (qa rfl s0 rfl (ps:=[.d (nD h.mem.length)]) (st1:=s') (by simp) lw)) az)) az,?_,f1,f2⟩;·rw[u9,mU,bA,dv rfl s0 rfl];simp only[ae,ba,ZK,ZJ,Z4,ay,nD,wx];cases YX:h.jD.getD g Ξ with|true=>simp|false=>rw[YX] at GO;have Ud:=GO.resolve_left (by decide);simp[ll,la];rw[Zz] at Ud;simpa using Ud
    ·unfold aD;rw[if_neg hc];dsimp only;rw[if_pos GO];exact hq
   ·have lw:=nN n hS (g:=g) (by simp;lia) hw;have hq:=hS.T7 g;obtain⟨f1,f2⟩:=fr2 _ _ _ rfl;refine⟨_,_,ag (iN (st1:=s') ?_ (ag (ou (v:=.d .bG) (qa rfl s0 rfl (ps:=[.d (nD g)]) (st1:=s') (by simp) lw)) az)) az,?_,f1,f2⟩
    ·rw[u9,mU,bA,dv rfl s0 rfl];simp only[ae,ba,ZK,ZJ,Z4,ay,nD,wx];have h1:h.jD.getD g Ξ=Ξ:=by cases YX:h.jD.getD g Ξ with|true=>exact absurd (.inl YX) GO|false=>rfl
     rw[h1];have h2:¬ss.length<=((h.mem.getD g []).filter λx=>decide (x∉ss)).length:=λz=>GO (.inr z);simp[ll,la];rw[Zz] at h2;simpa using h2
    ·unfold aD;rw[if_neg hc];dsimp only;rw[if_neg GO];exact hq
  revert fin;refine bZ λr2 s2 f0 f1 f2 f3=>?_;refine⟨mb++[st.length],s2,mx iP rfl rfl (r:=r2) ?_,f1,f2,f3⟩;refine ag (bD e1) (ag (iN (st1:=st) ?_ az) (ag (bD (v:=.d (nD h.mem.length)) (st1:=st) ?_) ?_))
  ·have:((ss.length:Int)==((h.mem.getD g []).length:Int))=Ξ:=by rw[beq_eq_false_iff_ne];lia
   simp[aA,bF,el,ea];rw[Zz] at hc
   lia
  ·rw[cL,aw,dv rfl hs.self rfl];simp[i0 hs.M6,nD,hs.tJ]
  refine ag (pY (x:=.obj (b+4)) (v:=.obj st.length) (its:=mb.map P.obj) (st1:=st) (st2:=st++[O.dK []]) (dv rfl hs.self rfl) (iY hs.M6) (by simp) (st3:=(st++[O.dK []]).set (b+4) (.lst ((mb++[st.length]).map P.obj))) ?_) ?_;·rw[jR (xs:=mb.map P.obj) (by rw[Zy (by lia)];exact hs.M6) (by simp[au,hs.tJ];lia)];simp
  have t0:((st++[O.dK []]).set (b+4) (.lst ((mb++[st.length]).map P.obj)))[0]?=Δ (jw b):=by rw[Zw (by lia),Zy (by lia)];exact hs.self
  have t6:((st++[O.dK []]).set (b+4) (.lst ((mb++[st.length]).map P.obj)))[b+6]?=Δ (kD h.jD):=by rw[Zw (by lia),Zy (by lia)];exact hs.jD
  refine ag (pY (x:=.obj (b+6)) (v:=.d (.bl Ξ)) (its:=h.jD.map λb=>P.d (.bl b)) (st1:=(st++[O.dK []]).set (b+4) (.lst ((mb++[st.length]).map P.obj))) (st2:=(st++[O.dK []]).set (b+4) (.lst ((mb++[st.length]).map P.obj))) (dv rfl t0 rfl) (iY t6) (by simp) (st3:=((st++[O.dK []]).set (b+4) (.lst ((mb++[st.length]).map P.obj))).set (b+6) (kD (h.jD++[Ξ]))) ?_) ?_;·rw[jR t6 (by simp[au];lia)];simp[kD]
  refine ag (Jb (n:=l) (st1:=((st++[O.dK []]).set (b+4) (.lst ((mb++[st.length]).map P.obj))).set (b+6) (kD (h.jD++[Ξ]))) (by simp[aA,bF]) e) f0
end
section
variable{m:dw}{w b:Nat}{mb:List Nat}{st aO:aM}{h:oS}{T:List Nat}{R:Nat->Prop}{a:Nat}
theorem Ci n(ok:eY w m)(hm:m.length<=100000)(hs:HS m w b mb st h)(hi:lp w m T R h)(ha:a < w)(L7:T.Nodup)(YY:∀t∈T,t < m.length)(hml:h.mem.length < 1000000):
  ∃y4 y5 s dl,forL (jb (.nm 4)) (ai (callC Fs n) dk) ((T.map nD).map .d) [Δ (.obj 0),Δ (.d (.pl (T.map nD))),Δ (.d (nD a)),Δ (.obj st.length),Θ,Θ,Θ,Θ] (st++[O.dK []])
   =.ok (.nx [Δ (.obj 0),Δ (.d (.pl (T.map nD))),Δ (.d (nD a)),Δ (.obj st.length),y4,y5,Θ,Θ]) s/\GS h.grp st.length st s (T.flatMap (eE m a)) dl:=by
 have hlen:=hs.len;have Na:∀(l:List Nat),l.Nodup->(∀x∈l,x < m.length)->l.length<=m.length:=λl h1 h2=>by
  have:=fX h1 (xs:=Zq m.length) λs hs=>by simpa using h2 s hs
  simpa using this
 have FN:=uD (m:=m) (a:=a) L7;have FL:∀x∈T.flatMap (eE m a),x < m.length:=λx hx=>(p8.mp hx).1;have flen:=Na _ FN FL;have one:∀(s:aM) (done:List Nat) (dl:List M7) (x:Nat) (y4 y5:Option P),GS h.grp st.length st s done dl->done.length < 1000000->(∀t∈dl,t.1 < h.mem.length)->x < m.length->
   ∃s2 P7,ai (callC Fs n) dj [Δ (.obj 0),Δ (.d (.pl (T.map nD))),Δ (.d (nD a)),Δ (.obj st.length),y4,Δ (.d (nD x)),Θ,Θ] s=.ok (.nx [Δ (.obj 0),Δ (.d (.pl (T.map nD))),Δ (.d (nD a)),Δ (.obj st.length),y4,Δ (.d (nD x)),Θ,Θ]) s2/\GS h.grp st.length st s2 (done++[x]) P7:=by
  intro s done dl x y4 y5 G hd hk hx;have s0:s[0]?=Δ (jw b):=by rw[G.pre 0 (by lia)];exact hs.self
  have s1:s[b+1]?=Δ (encL h.grp):=by rw[G.pre (b+1) (by lia)];exact hs.grp
  have knd:(dl.map (·.1)).Nodup:=by have:=(fb h.grp done).1;rw[<-G.proj,ab7] at this;exact this
  have R0:dl.length < au:=by
   have:=fX knd (xs:=Zq h.mem.length) λg hg=>by obtain⟨t,ht,rfl⟩:=abk.mp hg;simpa using hk t ht
   simp at this;unfold au
   lia
  refine cps λgG kG=>?_;obtain⟨v,its,s1',s2,P7,e1,e2,e3,G'⟩:=G.next (x:=x) R0 (by unfold au;lia);refine kG ?_;refine⟨s2,P7,?_,G'⟩;have hD:bJ s (.obj st.length)=Δ (.dK (xa dl)):=by exact m9 G.rK
  have gx:(h.grp.map λs=>P.d (nD s))[x]?=Δ (.d (nD (h.grp.getD x 0))):=by
   have:x < h.grp.length:=by rw[hi.tI];exact hx
   rw[ZD,Zu this,Zz,Zu this];rfl
  refine ag (pY (x:=v) (v:=.d (nD x)) (its:=its) (st1:=s1') (st2:=s1') (st3:=s2) ?_ e2 (by simp) e3) az;rw[mj];simp only[ba,ZJ,ZK,Z4,ay,ae,hD];rw[bA,dv rfl s0 rfl,ae];simp only[ba,ZJ,ZK,Z4,ay,ae];rw[show nD x=.int (x:Int) from rfl,jt s1 gx,ay,ae,jQ,jj,aF,ae];simp only[abG,aaB,if_true,ae];rw[e1,ay,ae]
 refine cps λgG kG=>?_;refine aB (λouter o1 o2 o3=>?_) (hs.src);refine bq (λo rows f1 f2 f3 f4 f5=>?_) (o3 a ha);have YZ:∀{s:aM} {done:List Nat} {dl:List M7},GS h.grp st.length st s done dl->(∀x∈done,x < m.length)->∀t∈dl,t.1 < h.mem.length:=λ{s done dl} G hd t ht=>by
  have:(t.1,t.2.1)∈cN h.grp done:=by rw[<-G.proj];exact abk.mpr ⟨t,ht,rfl⟩
  obtain⟨q1,q2⟩:=(fb h.grp done).2.1 _ _ this;cases z:t.2.1 with
  |nil=>exact absurd z q2|cons x r=>
   have hx:x∈t.2.1:=by rw[z];simp
   rw[q1,aaE,decide_eq_true_eq] at hx;rw[<-hx.2];exact hi.blt x (hd x hx.1)
 obtain⟨r',s',e,qv,dl,q2⟩:=ij (g:=jb (.nm 4)) (b:=ai (callC Fs n) dk) (ps:=(T.map nD).map .d) (k:=0) (r:=[Δ (.obj 0),Δ (.d (.pl (T.map nD))),Δ (.d (nD a)),Δ (.obj st.length),Θ,Θ,Θ,Θ]) (st:=st++[O.dK []])
  (I:=λk r s=>(∃y4 y5,r=[Δ (.obj 0),Δ (.d (.pl (T.map nD))),Δ (.d (nD a)),Δ (.obj st.length),y4,y5,Θ,Θ])/\∃dl,GS h.grp st.length st s ((T.take k).flatMap (eE m a)) dl)
  (λi p r s gy hp=>by
   obtain⟨⟨y4,y5,h1⟩,dl,G⟩:=gy;rw[aao] at G ⊢;subst h1;rw[ab7,ZD] at hp;cases JU:T[i]? with
   |none=>rw[JU] at hp;exact aQ hp|some t=>
    rw[JU] at hp;obtain rfl:=sj hp;have htT:=ZG JU;obtain⟨l,g1,g2,g3,g4⟩:=f5 t (YY t htT);have Ma:(T.take (i+1)).flatMap (eE m a)=(T.take i).flatMap (eE m a)++eE m a t:=by rw[aa4,JU,aa1];simp
    have Y0:∀j,∃rest,T.flatMap (eE m a)=(T.take i).flatMap (eE m a)++(eE m a t).take j++rest:=λj=>by
     refine⟨(eE m a t).drop j++(T.drop (i+1)).flatMap (eE m a),?_⟩;have h1:T.flatMap (eE m a)=(T.take (i+1)).flatMap (eE m a)++(T.drop (i+1)).flatMap (eE m a):=by rw[<-aa1,adh]
     rw[h1,Ma];simp only[aas];rw[<-aas ((eE m a t).take j),adh]
    obtain⟨r2,s2,e2,⟨Qd,z1⟩,dl2,G2⟩:=vZ (n:=l) (g:=jb (.nm 5)) (b:=ai (callC Fs n) dj) (xs:=(eE m a t).map λs=>P.d (nD s)) (I:=λj r s=>(∃y5,r=[Δ (.obj 0),Δ (.d (.pl (T.map nD))),Δ (.d (nD a)),Δ (.obj st.length),Δ (.d (nD t)),y5,Θ,Θ])/\∃dl,GS h.grp st.length st s ((T.take i).flatMap (eE m a)++(eE m a t).take j) dl)
     (λj r s tm=>by obtain⟨_,dl,G⟩:=tm;rw[G.pre l (by lia)];exact g4)
     (λj p r s Ku hp=>by
      obtain⟨⟨y5,h1⟩,dl,G⟩:=Ku;subst h1;rw[ZD] at hp;cases hx:(eE m a t)[j]? with
      |none=>rw[hx] at hp;exact aQ hp|some x=>
       rw[hx] at hp;obtain rfl:=sj hp;obtain⟨rest,hr⟩:=Y0 j;have Y1:∀y∈(T.take i).flatMap (eE m a)++(eE m a t).take j,y < m.length:=λy hy=>FL y (by rw[hr];exact aaG _ hy);have Y2:((T.take i).flatMap (eE m a)++(eE m a t).take j).length < 1000000:=by
        have:=congrArg adR hr;simp only[ZW] at this ⊢
        lia
       have hxm:x < m.length:=(mC.mp (ZG hx)).1;obtain⟨s2,P7,e2,G2⟩:=one s _ dl x (Δ (.d (nD t))) Θ G Y2 (YZ G Y1) hxm;refine⟨_,_,s2,rfl,e2,⟨_,rfl⟩,P7,?_⟩;rw[aa4,hx];simpa using G2)
     eU (i:=0) (r:=[Δ (.obj 0),Δ (.d (.pl (T.map nD))),Δ (.d (nD a)),Δ (.obj st.length),Δ (.d (nD t)),y5,Θ,Θ]) (st:=s) ⟨⟨y5,rfl⟩,dl,by simpa using G⟩ (aaB _) (by have:(eE m a t).length<=m.length:=Na _ ((aby).filter _) λx hx=>(mC.mp hx).1;simp[eU];lia)
    subst z1;rw[ZA,aaY (ZC _),<-Ma] at G2;refine⟨_,[Δ (.obj 0),Δ (.d (.pl (T.map nD))),Δ (.d (nD a)),Δ (.obj st.length),Δ (.d (nD t)),Qd,Θ,Θ],s2,rfl,?_,⟨_,_,rfl⟩,dl2,G2⟩;have s0:s[0]?=Δ (jw b):=by rw[G.pre 0 (by lia)];exact hs.self
    refine ag (Jb (n:=l) (st1:=s) ?_ e2) az;rw[bA,bA,dv rfl s0 rfl,ae];have h1:=jt (st:=s) (n:=b) (by rw[G.pre b (by lia)];exact o1) (i:=a) (p:=.obj o) (by rw[ZD,f1];rfl);have h2:=jt (st:=s) (n:=o) (by rw[G.pre o (by lia)];exact f4) (i:=t) (p:=.obj l) (by rw[ZD,g1];rfl);simp only[ba,acx,ZJ,ZK,Z4,ay,ae,nD,Function.comp,h1,h2]) ⟨⟨Θ,Θ,rfl⟩,[],by
   refine⟨rfl,by simp[xa],(λt h=>nomatch h),by simp,λi hi=>Zy hi,by simp⟩⟩
 obtain⟨y4,y5,q1⟩:=qv;refine kG ?_;subst q1;rw[ZA,ZA,aao,aaY (ZC _)] at q2;exact⟨y4,y5,s',dl,e,q2⟩
theorem qh n(ok:eY w m)(hm:m.length<=100000)(hs:HS m w b mb st h)(hi:lp w m T R h)(hn:xA h)(ha:a < w)(hT:∀x y,x < m.length->y < m.length->x∈T->y∉T->¬jS w m x m y)(L7:T.Nodup)(YY:∀t∈T,t < m.length):
  ∃xb aO,callC Fs (n+3) 23 [.obj 0,.d (.pl (T.map nD)),.d (nD a)] st=.ok (.d .bG) aO/\HS m w b xb aO (fi m h T a):=by
 have hlen:=hs.len;have bd:=xA.bound hi hn;refine cps λgG kG=>?_;refine ug (λy4 y5 s dl eg G=>?_) (Ci (n+2) ok hm hs hi ha L7 YY (by lia));have FN:=uD (m:=m) (a:=a) L7;have L:=λs=>p8 (m:=m) (T:=T) (a:=a) (s:=s);refine AE (λs1 s2 s3=>?_) (fb h.grp (T.flatMap (eE m a)));have knd:(dl.map (·.1)).Nodup:=by rw[<-G.proj,ab7] at s1;exact s1
 have xX:HS m w b mb s h:=hs.keep (by have:=G.len;lia) λi hi _=>G.pre i hi;have KA:∀i,st.length<=i->GQ b mb i:=λi hi=>⟨by lia,λz=>by have:=(hs.mad z).2;lia⟩;have Kt:HS m w b mb (s.set st.length .xo) h:=xX.put (KA _ (ZC _)) _;have Nb:∀t∈dl,t.1 < h.mem.length/\(∀x,x∈t.2.1↔x∈h.mem.getD t.1 []/\bB m x a∈T)/\t.2.1.Nodup/\t.2.1≠[]:=λt ht=>by
  have hp:(t.1,t.2.1)∈cN h.grp (T.flatMap (eE m a)):=by rw[<-G.proj];exact abk.mpr ⟨t,ht,rfl⟩
  obtain⟨e,fT⟩:=s2 _ _ hp;have xk:t.1 < h.mem.length:=by
   cases q:t.2.1 with
   |nil=>exact absurd q fT|cons x r=>
    have hx:x∈t.2.1:=by rw[q];simp
    rw[e,aaE,decide_eq_true_eq] at hx;rw[<-hx.2];exact hi.blt x ((L x).mp hx.1).1
  refine⟨xk,λx=>?_,by rw[e];exact FN.filter _,fT⟩;rw[e,aaE,decide_eq_true_eq,L,(hi.mem t.1 xk).2];constructor;·rintro⟨⟨p,q⟩,r⟩;exact⟨⟨p,r⟩,q⟩
  ·rintro⟨⟨p,r⟩,q⟩;exact⟨⟨p,q⟩,r⟩
 obtain⟨r',sF,eF,CN,Ue,hF,z2,z3,z4,z5,z6⟩:=BO (x:=6) (y:=7) (b:=ai (callC Fs (n+2)) fM) (ps:=xa dl) (k:=0) (r:=[Δ (.obj 0),Δ (.d (.pl (T.map nD))),Δ (.d (nD a)),Δ (.obj st.length),y4,y5,Θ,Θ]) (st:=s.set st.length .xo)
  (I:=λk r s'=>(∃y6 y7,r=[Δ (.obj 0),Δ (.d (.pl (T.map nD))),Δ (.d (nD a)),Δ (.obj st.length),y4,y5,y6,y7])/\∃xb h',h'=((dl.take k).map (λt=>(t.1,t.2.1))).foldl (λh e=>aD h e.1 e.2) h/\HS m w b xb s' h'/\lp w m T R h'/\xA h'/\
   (st.length < s'.length/\GQ b xb st.length/\∀t∈dl.drop k,GQ b xb t.2.2/\s'[t.2.2]?=Δ (encL t.2.1)/\t.1 < h'.mem.length/\(∀x,x∈t.2.1↔x∈h'.mem.getD t.1 []/\bB m x a∈T)))
  (λi kv r s' N2 hp=>by
   obtain⟨⟨y6,y7,h1⟩,xb,h',c1,c2,c3,c4,c5,c6,c7⟩:=N2;rw[aao] at c1 c7 ⊢;subst h1;unfold xa at hp;rw[ZD] at hp;cases JU:dl[i]? with
   |none=>rw[JU] at hp;exact aQ hp|some t=>
    rw[JU] at hp;obtain rfl:=sj hp;have htd:=ZG JU;obtain⟨Vv,Y3⟩:=List.getElem?_eq_some_iff.mp JU;have edr:dl.drop i=t::dl.drop (i+1):=by rw[aaH Vv,Y3]
    obtain⟨d1,d2,d3,d4⟩:=c7 t (by rw[edr];exact Zx);obtain⟨_,_,d5,d6⟩:=Nb t htd;have bd':=xA.bound c3 c4;have wl:h'.wait.length<=h'.mem.length:=by
     have:=fX c3.M5 (xs:=Zq h'.mem.length) λg hg=>by simpa using((c3.wt g).mp hg).1
     simpa using this
    have tl:t.2.1.length<=m.length:=by
     have:=fX d5 (xs:=Zq m.length) λx hx=>by simpa using(((c3.mem t.1 d3).2 x).mp ((d4 x).mp hx).1).1
     simpa using this
    obtain⟨Ug,st2,g1,g2,g3,g4⟩:=wL n c2 (g:=t.1) (l:=t.2.2) (ss:=t.2.1) d2 d1 d3 (λx hx=>((d4 x).mp hx).1) d5 (λx hx=>by rw[c3.tI];exact(((c3.mem t.1 d3).2 x).mp ((d4 x).mp hx).1).1) c3.oy (by unfold au;lia) (by lia) (by lia);obtain⟨i1,i2,i3,i4,i5,i6,i7⟩:=p7 c3 d3 ha d4 d5 d6 hT ok;have n1:=sR c3 c4 d3 (λx hx=>((d4 x).mp hx).1) d5 d6;have s0:=c2.self;refine⟨_,st2,ag (ou (v:=.d .bG) (qa rfl c2.self rfl (ps:=[.d (nD t.1),.obj t.2.2]) (st1:=s') (by simp[acx,zM,nD]) g1)) az,⟨_,_,rfl⟩,Ug,_,?_,g2,i1,n1,by lia,(g4 st.length c5 c6).2,λu hu=>?_⟩;·rw[aa4,JU,aan,ab8,<-c1];rfl
    ·obtain⟨u1,u2,u3,u4⟩:=c7 u (by rw[edr];exact Zs _ hu);have hul:u.2.2 < s'.length:=(List.getElem?_eq_some_iff.mp u2).1;obtain⟨v1,v2⟩:=g4 u.2.2 hul u1;have hut:u.1≠t.1:=λz=>by
      obtain⟨j,hj⟩:=adz hu;rw[List.getElem?_drop] at hj;obtain⟨U2,hje⟩:=List.getElem?_eq_some_iff.mp hj;have:=Ao knd (i:=i) (j:=i+1+j) (by simpa using Vv) (by simpa using U2) (by simp only[List.getElem_map,Y3,hje];exact z.symm)
      lia
     exact⟨v2,by rw[v1];exact u2,by lia,λx=>by rw[u4,i5 u.1 u3 hut]⟩)
  ⟨⟨Θ,Θ,rfl⟩,mb,h,by simp,Kt,hi,hn,by have:=G.len;simpa using this,KA _ (ZC _),λt ht=>by rw[acA] at ht;obtain⟨q1,q2,q3⟩:=G.at_ t ht;obtain⟨p1,p2,_⟩:=Nb t ht;exact⟨KA _ (by lia),by rw[Zw (by lia)];exact q3,p1,p2⟩⟩
 obtain⟨y6,y7,z1⟩:=CN;subst z1;revert z6;refine AE λz6 z7 _=>?_;refine kG ?_;refine⟨Ue,sF.set st.length (.dK (xa dl)),mx lC rfl rfl (r:=[Δ (.obj 0),Δ (.d (.pl (T.map nD))),Δ (.d (nD a)),Δ (.obj st.length),y4,y5,y6,y7]) ?_,?_⟩;·refine ag (bD (v:=.obj st.length) (st1:=st++[O.dK []]) (by simp)) ?_;refine ag (e8 (ps:=(T.map nD).map .d) (st1:=st++[O.dK []]) (by simp[aA,cE]) eg) ?_;exact ag (PX (n:=st.length) (kvs:=xa dl) (st1:=s) (by simp) G.rK eF) az
 ·have e:hF=fi m h T a:=by rw[z2];unfold fi;rw[<-G.proj,aao];unfold xa;rw[ZA,aaY (ZC _)]
  rw[<-e];exact z3.put z7 _
end
section
variable{m:dw}{w b:Nat}{mb:List Nat}{st aO:aM}{h:oS}
theorem Qe(hs:HS m w b mb st h)g:HS m w b mb ((st.set (b+5) (encL h.wait.dropLast)).set (b+6) (kD (h.jD.set g Ξ))) (mE h g):=by
 have hl:=hs.len;have g0:∀i,i≠b+5->i≠b+6->((st.set (b+5) (encL h.wait.dropLast)).set (b+6) (kD (h.jD.set g Ξ)))[i]?=st[i]?:=λi h1 h2=>by rw[Zw (aaw h2),Zw (aaw h1)]
 refine⟨by simpa using hl,hs.b0,by rw[g0 0 (by lia) (by lia)];exact hs.self,?_,by rw[g0 _ (by lia) (by lia)];exact hs.grp,by rw[g0 _ (by lia) (by lia)];exact hs.M6,hs.tJ,λk hk=>?_,hs.T6,?_,?_⟩;·refine aB (λouter e1 e2 e3=>?_) (hs.src);refine⟨outer,by rw[g0 _ (by lia) (by lia)];exact e1,e2,λa ha=>?_⟩;refine bq (λo rows f1 f2 f3 f4 f5=>?_) (e3 a ha);refine⟨o,rows,f1,f2,f3,by rw[g0 _ (by lia) (by lia)];exact f4,λt ht=>?_⟩;refine gM (λl q1 q2 q3 q4=>?_) (f5 t ht);exact⟨l,q1,q2,q3,by rw[g0 _ (by lia) (by lia)];exact q4⟩
 ·refine gM (λa e1 e2 e3 e4=>?_) (hs.mem k hk);refine⟨a,e1,e2,by simpa using e3,?_⟩;rw[g0 _ (by rcases e2 with z|z|z<;>lia) (by rcases e2 with z|z|z<;>lia)];exact e4
 ·rw[Zw (by lia),ZY (by lia)];rfl
 ·rw[ZY (by simp;lia)];rfl
theorem Gu n(ok:eY w m)(hm:m.length<=100000)(hw:w<=1000)(hs:HS m w b mb st h)(hc:wm w m h)(fT:h.wait≠[])y1 y2 y3:
  ∃y1' y2' Vw xb aO,ai (callC Fs (n+3)) gg [Δ (.obj 0),y1,y2,y3] st=.ok (.nx [Δ (.obj 0),y1',y2',Vw]) aO/\HS m w b xb aO (p9 m w h):=by
 refine cps λgG kG=>?_;obtain⟨g,ew,eg,gl,gnd,glt,hT,ip,hn⟩:=L8 ok hc fT;have hlen:=hs.len;refine gM (λa a1 a2 a3 a4=>?_) (hs.mem g gl);refine kG ?_;have wl:=hc.1.oy
 let s1:=st.set (b+5) (encL h.wait.dropLast)
 let s2:=s1.set (b+6) (kD (h.jD.set g Ξ))
 have xX:HS m w b mb s2 (mE h g):=Qe hs g;have p1:Ik (.obj (b+5)) st=Δ (.d (nD g),s1):=by
  have hw5:st[b+5]?=Δ (.lst (h.wait.map λs=>P.d (nD s))):=hs.QU;have hx:(h.wait.map λs=>P.d (nD s))[(h.wait.map λs=>P.d (nD s)).length - 1]?=Δ (.d (nD g)):=by rw[ew];simp
  unfold Ik;simp only[hw5,hx,aag];congr 2;show st.set _ (O.lst _)=st.set _ (encL _);unfold encL;rw[List.map_dropLast]
 have RU:s1[0]?=Δ (jw b):=by show(st.set _ _)[0]?=_;rw[Zw (by lia)];exact hs.self
 have s16:s1[b+6]?=Δ (kD h.jD):=by show(st.set _ _)[b+6]?=_;rw[Zw (by lia)];exact hs.jD
 have p2:pI (.obj (b+6)) (.d (nD g)) (.d (.bl Ξ)) s1=Δ s2:=by rw[show nD g=.int (g:Int) from rfl,Ag s16 (by simp;lia)];simp[s2,kD,aeR]
 refine gM (λa' c1 c2 c3 c4=>?_) (xX.mem g gl);have p3:aa (callC Fs (n+3)) (.lst Ξ (.keys (.ix (.attr "Groups" "members" 0) (.var 1)))) [Δ (.obj 0),Δ (.d (nD g)),y2,y3] s2=.ok (.d (.pl ((h.mem.getD g []).map nD))) s2:=by
  rw[cY,vh,bA,dv rfl xX.self rfl,ae];have h1:=jt xX.M6 (i:=g) (p:=.obj a') (by rw[ZD,c1];rfl);have h2:u7 s2 (.obj a')=Δ (a',(h.mem.getD g []).map λ(s:Nat)=>((.inl (s:Int):Sum Int Str),P.d (.bl Λ))):=by have:s2[a']?=Δ (.dK ((h.mem.getD g []).map λ(s:Nat)=>((.inl (s:Int):Sum Int Str),P.d (.bl Λ)))):=c4;unfold u7;simp only[this]
  simp only[ba,ZJ,ZK,Z4,ay,ae,nD,h1,h2];have h3:(((h.mem.getD g []).map λ(s:Nat)=>((.inl (s:Int):Sum Int Str),P.d (.bl Λ))).map λkv=>zM kv.1)=(h.mem.getD g []).map λs=>P.d (nD s):=by rw[ab7];rfl
  rw[h3,fI];rfl
 let T:=h.mem.getD g []
 refine cps λgG kG=>?_;refine aB (λouter o1 o2 o3=>?_) (xX.src);obtain⟨r',sF,eF,qv,Ue,hF,RF,z2,z3,z4,z5⟩:=ij (g:=jb (.nm 3)) (b:=ai (callC Fs (n+3)) jU) (ps:=(Zq w).map λk:Nat=>P.d (.int (k:Int))) (k:=0) (r:=[Δ (.obj 0),Δ (.d (nD g)),Δ (.d (.pl (T.map nD))),y3]) (st:=s2)
  (I:=λk r s=>(∃y3,r=[Δ (.obj 0),Δ (.d (nD g)),Δ (.d (.pl (T.map nD))),y3])/\∃xb h' R',h'=fj m T (Zq k) (mE h g)/\HS m w b xb s h'/\lp w m T R' h'/\xA h')
  (λi p r s gy hp=>by
   obtain⟨⟨y3,h1⟩,xb,h',R',c1,c2,c3,c4⟩:=gy;rw[aao] at c1 ⊢;subst h1;have hi:i < w:=by
    rw[ZD] at hp;by_cases z:i < w;·exact z
    ·rw[aac (by simpa using z)] at hp;exact aQ hp
   have Hv:p=.d (.int (i:Int)):=by rw[ZD,abm hi] at hp;obtain rfl:=sj hp;rfl
   subst Hv;obtain⟨Ug,st2,e1,e2⟩:=qh n ok hm c2 c3 c4 hi hT gnd glt;obtain⟨j1,j2,_,_⟩:=sT ok hi hT gnd c3 c4;refine⟨_,[Δ (.obj 0),Δ (.d (nD g)),Δ (.d (.pl (T.map nD))),Δ (.d (.int (i:Int)))],st2,rfl,ag (ou (v:=.d .bG) (qa rfl c2.self rfl (ps:=[.d (.pl (T.map nD)),.d (nD i)]) (st1:=s) (by simp[nD]) e1)) az,⟨_,rfl⟩,Ug,_,_,?_,e2,j1,j2⟩;rw[aaN];unfold fj at c1 ⊢;rw[ab8,<-c1];rfl)
  ⟨⟨y3,rfl⟩,mb,mE h g,_,by simp[fj],xX,ip,hn⟩
 obtain⟨Vw,z1⟩:=qv;refine kG ?_;subst z1;rw[ZA,aad,aao] at z2;refine⟨Δ (.d (nD g)),Δ (.d (.pl (T.map nD))),Vw,Ue,sF,?_,by
  have:hF=p9 m w h:=by rw[z2];unfold p9;rw[eg]
  rw[<-this];exact z3⟩
 refine ag (bD (v:=.d (nD g)) (st1:=s1) ?_) ?_;·rw[ve,dv rfl hs.self rfl,ae,p1,ay,ae]
 refine ag (pZ (x:=.obj (b+6)) (k:=.d (nD g)) (v:=.d (.bl Ξ)) (st1:=s1) (st2:=s1) (st3:=s1) (by simp) (dv rfl RU rfl) (by simp) p2) ?_;refine ag (bD (v:=.d (.pl (T.map nD))) (st1:=s2) p3) ?_;refine ag (e8 (ps:=(Zq w).map λk:Nat=>P.d (.int (k:Int))) (st1:=s2) (cM ?_ (by lia)) eF) az;rw[cL,aw,dv rfl xX.self rfl,ae,aF,ae,ae,i0 o1,ay];simp[o2]
theorem Cj n(ok:eY w m)(hm:m.length<=100000)(hw:w<=1000)(hs:HS m w b mb st h)(hc:wm w m h)(hK:h.wait.length+(m.length+2 - h.mem.length)<=K)(hK2:K < 1000000):
  ∃xb aO,callC Fs (n+4) 24 [.obj 0] st=.ok (.d .bG) aO/\HS m w b xb aO (settle m w K h):=by
 obtain⟨r',sF,eF,Ue,zF⟩:=rD (c:=cx (aa (callC Fs (n+3)) (.cmp .gt (.bf .len [.attr "Groups" "waiting" 0]) (.cst (.int 0))))) (b:=ai (callC Fs (n+3)) gg)
  (I:=λk r s=>(∃y1 y2 y3,r=[Δ (.obj 0),y1,y2,y3])/\∃xb h',HS m w b xb s h'/\wm w m h'/\h'.wait.length+(m.length+2 - h'.mem.length)<=k/\settle m w k h'=settle m w K h)
  (E:=λr s=>∃xb,HS m w b xb s (settle m w K h))
  (λk r s tm=>by
   obtain⟨⟨y1,y2,y3,h1⟩,xb,h',c1,c2,c3,c4⟩:=tm;subst h1;have ec:cx (aa (callC Fs (n+3)) (.cmp .gt (.bf .len [.attr "Groups" "waiting" 0]) (.cst (.int 0)))) [Δ (.obj 0),y1,y2,y3] s=.ok (decide (0 < h'.wait.length)) s:=by unfold cx;rw[bV,cL,aw,dv rfl c1.self rfl];simp[i0 c1.QU]
   by_cases QV:h'.wait=[]
   ·refine .inl ⟨by rw[ec,QV];rfl,xb,?_⟩;have:settle m w k h'=h':=by cases k with|zero=>rfl|succ k=>unfold Y.settle;rw[if_pos QV]
    rw[<-c4,this];exact c1
   ·have Ll:0 < h'.wait.length:=List.length_pos_iff.mpr QV;obtain⟨j,rfl⟩:∃j,k=j+1:=Nat.exists_eq_succ_of_ne_zero (aaD (ZZ Ll (aap (abP ..) c3)));obtain⟨y1',y2',Vw,Ug,st2,e1,e2⟩:=Gu n ok hm hw c1 c2 QV y1 y2 y3;obtain⟨t1,t2,t3⟩:=B3 ok c2 QV;have b1:=xA.bound t1.1 t1.2;have b2:=xA.bound c2.1 c2.2;refine .inr ⟨j,rfl,by rw[ec,decide_eq_true Ll],_,st2,e1,⟨_,_,_,rfl⟩,Ug,_,e2,t1,Jp c3 t2 b1,?_⟩;rw[<-c4]
    conv=>rhs;unfold Y.settle
    rw[if_neg QV])
  eU (k:=K) (r:=[Δ (.obj 0),Θ,Θ,Θ]) (st:=st) ⟨⟨_,_,_,rfl⟩,mb,h,hs,hc,hK,rfl⟩ (by unfold eU;lia)
 exact⟨Ue,sF,mx rO rfl rfl (r:=r') (ag (ER eF) az),zF⟩
end
theorem mJ{α:Type}{f:Nat->List α}{L:Nat}(hL:∀a,(f a).length=L):∀w,((Zq w).flatMap f).length=w*L
 |0=>by simp|w+1=>by rw[aaN,aa1,ZW,mJ hL w];simp[hL,acE]
theorem Ck{α:Type}{f:Nat->List α}{L:Nat}(hL:∀a,(f a).length=L):∀(w a t),a < w->t < L->((Zq w).flatMap f)[a*L+t]?=(f a)[t]?
 |0,a,t,h,_=>absurd h (abX _)|w+1,a,t,h,ht=>by
  rw[aaN,aa1];by_cases e:a < w;·have:(a+1)*L<=w*L:=adx L e;rw[acE] at this;rw[Zy (by rw[mJ hL];lia)];exact Ck hL w a t e ht
  ·have e':a=w:=by lia
   subst e';rw[ZX (by rw[mJ hL];lia),mJ hL,show a*L+t - a*L=t by lia];simp
section
variable{m:dw}{w:Nat}
def DZ(m:dw)(a:Nat):aM:=kg m a m.length++[nu (1+a*(m.length+1)) m.length]
theorem Cm a:(DZ m a).length=m.length+1:=by simp[DZ,dA]
def Au(m:dw)(w:Nat):aM:=(Zq w).flatMap (DZ m)
theorem jy:(Au m w).length=w*(m.length+1):=mJ Cm w
noncomputable def outs(m:dw)(w:Nat):List Nat:=(Zq w).map λa=>1+a*(m.length+1)+m.length
abbrev stI(m:dw)(w:Nat)(fs:List (Str×P))(L:aM):aM:=O.ins "Groups" fs::(Au m w++L)
theorem g9{L:aM}(hb:b=1+w*(m.length+1)):(stI m w fs L)[b+k]?=L[k]?:=by
 subst hb;rw[show 1+w*(m.length+1)+k=w*(m.length+1)+k+1 by lia,ZK,ZX (by rw[jy];lia),jy];congr 1
 lia
theorem E4{L:aM}(hb:b=1+w*(m.length+1)):(stI m w fs L).set (b+k) o=stI m w fs (L.set k o):=by subst hb;rw[show 1+w*(m.length+1)+k=w*(m.length+1)+k+1 by lia,List.set_cons_succ,adi _ _ (by rw[jy];lia),jy,show w*(m.length+1)+k - w*(m.length+1)=k by lia]
theorem jV{L:aM}(hb:b=1+w*(m.length+1)):(stI m w fs L).length=b+L.length:=by subst hb;rw[ZS,ZW,jy];lia
theorem Gv n(ok:eY w m)(hm:m.length<=100000)(hw:w<=1000):∃aO,callC Fs (n+2) 20 [.obj 0,.d (mD m)] [.ins "Groups" []]=.ok (.d .bG) aO/\HS m w (1+w*(m.length+1)) [1+w*(m.length+1)+2,1+w*(m.length+1)+3] aO (kf m):=by
 obtain⟨b,hb⟩:∃b,b=1+w*(m.length+1):=⟨_,rfl⟩;rw[<-hb];have eS:be (callC Fs (n+1)) (.comp (.iQ [.bf .len [.ix (.ix (.var 1) (.cst (.int 0))) (.cst (.int 1))]]) 1 [1] Θ (.call 0 [.var 1,.var 0])) [Δ (.obj 0),Δ (.d (mD m)),Θ,Θ] [.ins "Groups" []]
   =.ok ((outs m w).map P.obj) (stI m w [] []):=by
  rw[BN];have ew:cK (callC Fs (n+1)) (.iQ [.bf .len [.ix (.ix (.var 1) (.cst (.int 0))) (.cst (.int 1))]]) [Δ (.obj 0),Δ (.d (mD m)),Θ,Θ] [.ins "Groups" []]=.ok ((Zq w).map λk:Nat=>P.d (.int (k:Int))) [.ins "Groups" []]:=by refine cM ?_ (by lia);have h0:qD (m.map gS) 0=Δ (gS (row m 0)):=DS ok.ne;have hl:=ok.len _ (aW ok.ne);simp[mD,h0,gS,wD,hl]
  rw[ew,ae,if_pos (by simp[au];lia)];refine ah (λzs aO e q1 q2=>?_) (rE (g:=λp=>Δ p::bO [1] [Δ (.obj 0),Δ (.d (mD m)),Θ,Θ]) (c:=bH (callC Fs (n+1)) Θ) (e:=λr' aO=>aa (callC Fs (n+1)) (.call 0 [.var 1,.var 0]) r' aO)
   (I:=λk ys s=>ys=((Zq k).map λa=>1+a*(m.length+1)+m.length).map P.obj/\s=O.ins "Groups" []::Au m k) (ps:=(Zq w).map λk:Nat=>P.d (.int (k:Int))) (k:=0) (ys:=[]) (st:=[.ins "Groups" []])
   (λi p ys s gy hp=>by
    obtain⟨h1,h2⟩:=gy;rw[aao] at h1 h2 ⊢;subst h1 h2;have hi:i < w:=by
     rw[ZD] at hp;by_cases z:i < w;·exact z
     ·rw[aac (by simpa using z)] at hp;exact aQ hp
    rw[ZD,abm hi] at hp;obtain rfl:=sj hp;have sl:(O.ins "Groups" []::Au m i).length=1+i*(m.length+1):=by rw[ZS,jy];lia
    have e1:=As ok hm n i hi (O.ins "Groups" []::Au m i);rw[sl] at e1;refine⟨.obj (1+i*(m.length+1)+m.length),O.ins "Groups" []::Au m i++kg m i m.length++[nu (1+i*(m.length+1)) m.length],by simp,?_,?_⟩;·show aa _ (.call _ [.var 1,.var 0]) [Δ (.d (.int (i:Int))),Δ (.d (mD m))] _=_;simp only[jh,aw,aF,ba,ZJ,ZK,Z4,ay,ae];exact e1
    ·refine⟨by rw[aaN,aan,aan];rfl,?_⟩;unfold Au;rw[aaN,aa1];simp[DZ]) ⟨by simp,by simp[Au]⟩)
  rw[e];simp only[abY,aao,ZA,aad] at q1 q2;rw[q1,q2];show R.ok _ _=R.ok _ (O.ins "Groups" []::(Au m w++[]));rw[aau];rfl
 let L1:aM:=[.lst ((outs m w).map P.obj)]
 let L2:aM:=L1++[encL (m.map (·.1))]
 let L3 (x y:List Nat):aM:=L2++[encM x,encM y,.lst [.obj (b+2),.obj (b+3)]]
 have f1:aV (callC Fs (n+1)) (.nj "Groups" "sources" 0 (.lst Λ (.comp (.iQ [.bf .len [.ix (.ix (.var 1) (.cst (.int 0))) (.cst (.int 1))]]) 1 [1] Θ (.call 0 [.var 1,.var 0])))) [Δ (.obj 0),Δ (.d (mD m)),Θ,Θ] [.ins "Groups" []]
   =.ok (.nx [Δ (.obj 0),Δ (.d (mD m)),Θ,Θ]) (stI m w [("sources",.obj b)] L1):=by
  refine(vY (v:=.obj b) (x:=.obj 0) (st1:=stI m w [] L1) (n:=0) (fs:=[]) ?_ rfl rfl (by simp)).trans rfl;rw[jQ,eS,ae,jV hb];simp[L1]
 have eG:be (callC Fs (n+1)) (.comp (.ex (.var 1)) 1 [] Θ (.ix (.var 0) (.cst (.int 0)))) [Δ (.obj 0),Δ (.d (mD m)),Θ,Θ] (stI m w [("sources",.obj b)] L1)=.ok (m.map λs=>P.d (nD s.1)) (stI m w [("sources",.obj b)] L1):=by
  refine dP (g:=λs=>P.d (gS s)) (f:=λs=>nD s.1) (xs:=m) ?_ (by unfold au;lia) λs hs=>?_;·simp[mD]
  ·simp[gS,bO]
 have f2:aV (callC Fs (n+1)) (.nj "Groups" "group_of" 0 (.lst Λ (.comp (.ex (.var 1)) 1 [] Θ (.ix (.var 0) (.cst (.int 0)))))) [Δ (.obj 0),Δ (.d (mD m)),Θ,Θ] (stI m w [("sources",.obj b)] L1)
   =.ok (.nx [Δ (.obj 0),Δ (.d (mD m)),Θ,Θ]) (stI m w [("sources",.obj b),("group_of",.obj (b+1))] L2):=by
  refine(vY (v:=.obj (b+1)) (x:=.obj 0) (st1:=stI m w [("sources",.obj b)] L2) (n:=0) (fs:=[("sources",.obj b)]) ?_ rfl rfl (by simp)).trans rfl;rw[jQ,eG,ae,jV hb];simp[L1,L2,encL,aaz]
 have f3:aV (callC Fs (n+1)) (.nj "Groups" "members" 0 (.lst Λ (.fO [.qK Ξ,.qK Ξ]))) [Δ (.obj 0),Δ (.d (mD m)),Θ,Θ] (stI m w [("sources",.obj b),("group_of",.obj (b+1))] L2)
   =.ok (.nx [Δ (.obj 0),Δ (.d (mD m)),Θ,Θ]) (stI m w [("sources",.obj b),("group_of",.obj (b+1)),("members",.obj (b+4))] (L3 [] [])):=by
  refine(vY (v:=.obj (b+4)) (x:=.obj 0) (st1:=stI m w [("sources",.obj b),("group_of",.obj (b+1))] (L3 [] [])) (n:=0) (fs:=[("sources",.obj b),("group_of",.obj (b+1))]) ?_ rfl rfl (by simp)).trans rfl;have l1:=jV (fs:=[("sources",P.obj b),("group_of",.obj (b+1))]) (L:=L2) hb;have l2:L2.length=2:=rfl;rw[jQ,jj,aw,ji,ae,aw,ji,ae,aF,ae,ae];simp only[aaj,if_false,ZW,l1,l2,ZS,abG,ae,au,Nat.reduceAdd,Nat.reduceLeDiff,if_true];show R.ok (P.obj (b+2+1+1)) _=_;congr 1;·show _=stI m w _ (L3 [] []);simp[L3,encM,stI]
 obtain⟨r',sF,eF,⟨y2,y3,z1⟩,z2⟩:=ij (g:=jb (.two 2 3)) (b:=ai (callC Fs (n+1)) iO) (ps:=eZ 0 (m.map gS)) (k:=0) (r:=[Δ (.obj 0),Δ (.d (mD m)),Θ,Θ]) (st:=stI m w [("sources",.obj b),("group_of",.obj (b+1)),("members",.obj (b+4))] (L3 [] []))
  (I:=λk r s=>(∃y2 y3,r=[Δ (.obj 0),Δ (.d (mD m)),y2,y3])/\s=stI m w [("sources",.obj b),("group_of",.obj (b+1)),("members",.obj (b+4))] (L3 ((Zq k).filter λs=>decide (gd m s=0)) ((Zq k).filter λs=>decide (gd m s=1))))
  (λi p r s tm hp=>by
   obtain⟨⟨y2,y3,h1⟩,h2⟩:=tm;rw[aao] at h2 ⊢;subst h1 h2;rw[rF,ZD] at hp;have hi:i < m.length:=by
    by_cases z:i < m.length;·exact z
    ·rw[aac (by lia)] at hp;simp at hp
   rw[Ah hi] at hp;simp only[aag,adQ,aao] at hp;subst hp;have hg:gd m i=0\/gd m i=1:=by
    have:gd m i<=1:=ok.good _ (aW hi)
    lia
   have nin:∀g,i∉(Zq i).filter λs=>decide (gd m s=g):=λg z=>by rw[aaE,aaF] at z;lia
   have fl:∀g,((Zq i).filter λs=>decide (gd m s=g)).length < au:=λg=>by have:=abU (λs=>decide (gd m s=g)) (Zq i);rw[aad] at this;unfold au;lia
   have nx:∀g,(Zq (i+1)).filter (λs=>decide (gd m s=g))=(Zq i).filter (λs=>decide (gd m s=g))++if gd m i=g then[i] else[]:=λg=>by rw[aaN,aco];congr 1;by_cases e:gd m i=g<;>simp[e]
   generalize Y4:(Zq i).filter (λs=>decide (gd m s=0))=X0 at*;generalize LR:(Zq i).filter (λs=>decide (gd m s=1))=X1 at*;have n0:=nin 0;rw[Y4] at n0;have n1:=nin 1;rw[LR] at n1;have l0:=fl 0;rw[Y4] at l0;have l1:=fl 1;rw[LR] at l1;have x0:=nx 0;rw[Y4] at x0;have x1:=nx 1;rw[LR] at x1;have g2:(stI m w [("sources",.obj b),("group_of",.obj (b+1)),("members",.obj (b+4))] (L3 X0 X1))[b+2]?=Δ (encM X0):=by rw[g9 hb];rfl
   have g3:(stI m w [("sources",.obj b),("group_of",.obj (b+1)),("members",.obj (b+4))] (L3 X0 X1))[b+3]?=Δ (encM X1):=by rw[g9 hb];rfl
   have g4:(stI m w [("sources",.obj b),("group_of",.obj (b+1)),("members",.obj (b+4))] (L3 X0 X1))[b+4]?=Δ (.lst [.obj (b+2),.obj (b+3)]):=by rw[g9 hb];rfl
   have ea:∀(r:cb),(r[0]?).join=Δ (.obj 0)->aa (callC Fs (n+1)) (.attr "Groups" "members" 0) r (stI m w [("sources",.obj b),("group_of",.obj (b+1)),("members",.obj (b+4))] (L3 X0 X1))=.ok (.obj (b+4)) (stI m w [("sources",.obj b),("group_of",.obj (b+1)),("members",.obj (b+4))] (L3 X0 X1)):=λr hr=>by rw[EO,hr,ay,ae];rfl
   have ss0:∀o,(stI m w [("sources",.obj b),("group_of",.obj (b+1)),("members",.obj (b+4))] (L3 X0 X1)).set (b+2) (encM o)=stI m w [("sources",.obj b),("group_of",.obj (b+1)),("members",.obj (b+4))] (L3 o X1):=λo=>by rw[E4 hb];rfl
   have ss1:∀o,(stI m w [("sources",.obj b),("group_of",.obj (b+1)),("members",.obj (b+4))] (L3 X0 X1)).set (b+3) (encM o)=stI m w [("sources",.obj b),("group_of",.obj (b+1)),("members",.obj (b+4))] (L3 X0 o):=λo=>by rw[E4 hb];rfl
   have er:gS (row m i)=.tup [nD (gd m i),wD (row m i).2]:=rfl;generalize hS:stI m w [("sources",.obj b),("group_of",.obj (b+1)),("members",.obj (b+4))] (L3 X0 X1)=S at*;refine⟨_,[Δ (.obj 0),Δ (.d (mD m)),Δ (.d (nD i)),Δ (.d (gS (row m i)))],_,rfl,?_,⟨_,_,rfl⟩,rfl⟩;rcases hg with hg|hg
   ·have p:=wy g2 n0 l0;refine ag (pZ (x:=.obj (b+2)) (k:=.d (nD i)) (v:=.d (.bl Λ)) (st1:=S) (st2:=S) (st3:=S) (by simp) ?_ (by simp[nD]) p) ?_;·rw[bA,ea _ rfl,ae];have hx:=jt g4 (i:=0) (p:=.obj (b+2)) rfl;simp[er,hg,nD];exact congrArg (λo=>R.of o S) hx
    ·rw[az,ss0,x0,x1,if_pos hg,if_neg (by lia),aau];rfl
   ·have p:=wy g3 n1 l1;refine ag (pZ (x:=.obj (b+3)) (k:=.d (nD i)) (v:=.d (.bl Λ)) (st1:=S) (st2:=S) (st3:=S) (by simp) ?_ (by simp[nD]) p) ?_;·rw[bA,ea _ rfl,ae];have hx:=jt g4 (i:=1) (p:=.obj (b+3)) rfl;simp[er,hg,nD];exact congrArg (λo=>R.of o S) hx
    ·rw[az,ss1,x0,x1,if_neg (by lia),if_pos hg,aau];rfl)
  ⟨⟨Θ,Θ,rfl⟩,by simp⟩
 subst z1;rw[rG,ZA,aao] at z2;generalize hX0:(Zq m.length).filter (λs=>decide (gd m s=0))=X0 at*;generalize hX1:(Zq m.length).filter (λs=>decide (gd m s=1))=X1 at*;subst z2
 let L4:aM:=L3 X0 X1++[encL [0,1]]
 let L5:aM:=L4++[kD [Λ,Λ]]
 have f4:aV (callC Fs (n+1)) (.nj "Groups" "waiting" 0 (.lst Λ (.fO [.cst (.int 0),.cst (.int 1)]))) [Δ (.obj 0),Δ (.d (mD m)),y2,y3] (stI m w [("sources",.obj b),("group_of",.obj (b+1)),("members",.obj (b+4))] (L3 X0 X1))
   =.ok (.nx [Δ (.obj 0),Δ (.d (mD m)),y2,y3]) (stI m w [("sources",.obj b),("group_of",.obj (b+1)),("members",.obj (b+4)),("waiting",.obj (b+5))] L4):=by
  refine(vY (v:=.obj (b+5)) (x:=.obj 0) (st1:=stI m w [("sources",.obj b),("group_of",.obj (b+1)),("members",.obj (b+4))] L4) (n:=0) (fs:=[("sources",.obj b),("group_of",.obj (b+1)),("members",.obj (b+4))]) ?_ rfl rfl (by simp)).trans rfl;rw[jQ,jj,aw,fF,ae,aw,fF,ae,aF,ae,ae,ae,if_pos (by decide),ae,jV hb];show R.ok (P.obj (b+5)) _=_;congr 1;simp[L4,stI,encL,nD]
 have f5:aV (callC Fs (n+1)) (.nj "Groups" "waits" 0 (.lst Λ (.fO [.cst (.bl Λ),.cst (.bl Λ)]))) [Δ (.obj 0),Δ (.d (mD m)),y2,y3] (stI m w [("sources",.obj b),("group_of",.obj (b+1)),("members",.obj (b+4)),("waiting",.obj (b+5))] L4)
   =.ok (.nx [Δ (.obj 0),Δ (.d (mD m)),y2,y3]) (stI m w (tH b) L5):=by
  refine(vY (v:=.obj (b+6)) (x:=.obj 0) (st1:=stI m w [("sources",.obj b),("group_of",.obj (b+1)),("members",.obj (b+4)),("waiting",.obj (b+5))] L5) (n:=0) (fs:=[("sources",.obj b),("group_of",.obj (b+1)),("members",.obj (b+4)),("waiting",.obj (b+5))]) ?_ rfl rfl (by simp)).trans rfl;rw[jQ,jj,aw,fF,ae,aw,fF,ae,aF,ae,ae,ae,if_pos (by decide),ae,jV hb];show R.ok (P.obj (b+6)) _=_;congr 1;simp[L5,stI,kD]
 refine⟨stI m w (tH b) L5,mx oF rfl rfl (r:=[Δ (.obj 0),Δ (.d (mD m)),y2,y3]) ?_,?_⟩;·refine ag f1 (ag f2 (ag f3 (ag (e8 (ps:=eZ 0 (m.map gS)) (st1:=stI m w [("sources",.obj b),("group_of",.obj (b+1)),("members",.obj (b+4))] (L3 [] [])) ?_ eF) (ag f4 (ag f5 az)))));simp[mD]
 ·refine⟨by rw[jV hb];simp[L5,L4,L3,L2,L1],by lia,rfl,?_,by rw[g9 hb];rfl,by rw[g9 hb];rfl,rfl,λg hg=>?_,by simp,by rw[g9 hb];rfl,by rw[g9 hb];rfl⟩
  ·refine⟨outs m w,by have:=g9 (fs:=tH b) (L:=L5) (k:=0) hb;rw[Nat.add_zero] at this;rw[this];rfl,by simp[outs],λa ha=>?_⟩;have Vr:(a+1)*(m.length+1)<=w*(m.length+1):=adx _ ha;rw[acE] at Vr;have gA:∀t,t < m.length+1->(stI m w (tH b) L5)[1+a*(m.length+1)+t]?=(DZ m a)[t]?:=λt ht=>by rw[show 1+a*(m.length+1)+t=a*(m.length+1)+t+1 by lia,ZK,Zy (by rw[jy];lia)];exact Ck Cm w a t ha ht
   refine⟨1+a*(m.length+1)+m.length,(Zq m.length).map λt=>1+a*(m.length+1)+t,by simp[outs,ha],by lia,by lia,?_,λt ht=>⟨1+a*(m.length+1)+t,by simp[ht],by lia,by lia,?_⟩⟩;·rw[gA _ (by lia)];unfold DZ;rw[ZX (by rw[dA];exact ZC _),dA];simp[nu,aaz]
   ·rw[gA _ (by lia)];unfold DZ;rw[Zy (by rw[dA];exact ht),mI ht];rfl
  ·have La:g=0\/g=1:=by
    have:g < 2:=hg
    lia
   rcases La with e|e<;>subst e;·refine⟨b+2,rfl,.inl rfl,by rw[jV hb];simp[L5,L4,L3,L2,L1],?_⟩;rw[g9 hb];show Δ (encM X0)=Δ (encM ((Zq m.length).filter _));rw[hX0]
   ·refine⟨b+3,rfl,.inr (.inl rfl),by rw[jV hb];simp[L5,L4,L3,L2,L1],?_⟩;rw[g9 hb];show Δ (encM X1)=Δ (encM ((Zq m.length).filter _));rw[hX1]
end
def tR(grp:List Nat)(gs:List Nat):List (Sum Int Str×P):=gs.map λ(g:Nat)=>(.inl (g:Int),P.d (nD (grp.idxOf g)))
theorem Jw{g:Nat}(h:g∈gs):fU (tR grp gs) (.inl (g:Int))=Δ (.d (nD (grp.idxOf g))):=by
 unfold fU tR;induction gs with
 |nil=>cases h|cons x gs ih=>
  rw[ZH,aaO];by_cases e:x=g;·subst e;simp
  ·have:decide ((.inl (x:Int):Sum Int Str)=.inl (g:Int))=Ξ:=by rw[decide_eq_false_iff_not];intro z;injection z with z;exact e (by lia)
   simp only[this];exact ih ((abM.mp h).resolve_left λz=>e z.symm)
theorem fd_none{g:Nat}(h:g∉gs):fU (tR grp gs) (.inl (g:Int))=Θ:=by
 unfold fU tR;have:(gs.map λ(g:Nat)=>((.inl (g:Int):Sum Int Str),P.d (nD (grp.idxOf g)))).find? (λkv=>decide (kv.1=.inl (g:Int)))=Θ:=by
  rw[adL];intro kv sE;obtain⟨x,hx,rfl⟩:=abk.mp sE;have:x≠g:=λz=>h (z▸hx);simp
  lia
 rw[this];rfl
theorem Cn n(ok:eY w m)(hm:m.length<=100000)(hw:w<=1000)st:callC Fs (n+5) 1 [.d (mD m)] st=.ok (.d (.pl ((Zq m.length).map λs=>nD (fst w m s)))) st:=by
 refine dJ (λst1 e1 h1=>?_) (Gv (n+2) ok hm hw);have bK:(kf m).wait.length+(m.length+2 - (kf m).mem.length)<=m.length+2:=by simp[kf];have:=ok.ne;lia
 refine bg (λmb st2 e2 h2=>?_) (Cj n ok hm hw h1 (wq ok) (K:=m.length+2) bK (by lia));obtain⟨calm,_⟩:=yX ok;have um:HS m w (1+w*(m.length+1)) mb st2 (jG w m):=h2;generalize hb:1+w*(m.length+1)=b at*;have gl:(jG w m).grp.length=m.length:=calm.1.tI;have YT:=um.len
 let grp:=(jG w m).grp
 have Uh:∀k,(bX [] (grp.take k)).length < au:=λk=>by
  have h1:(bX ([]:List Nat) (grp.take k)).Nodup:=uE (by simp);have h2:=fX h1 (xs:=grp.take k) λx hx=>by
   rcases dS.mp hx with z|z;·cases z
   ·exact z
  have h3:(grp.take k).length<=grp.length:=by rw[abQ];lia
  have h4:grp.length=m.length:=gl;unfold au
  lia
 refine ah (λr' sF eF qv z2=>?_) (BP (n:=b+1) (x:=3) (y:=4) (b:=ai (callC Fs (n+4)) kE) (xs:=grp.map λs=>P.d (nD s))
  (I:=λk r s=>(∃y3 y4,r=[Δ (.d (mD m)),Δ (.obj 0),Δ (.obj st2.length),y3,y4])/\s=st2++[O.dK (tR grp (bX [] (grp.take k)))])
  (λi r s gy=>by obtain⟨_,hs⟩:=gy;subst hs;rw[Zy (by lia)];exact um.grp)
  (λi p r s tm hp=>by
   obtain⟨⟨y3,y4,er⟩,hs⟩:=tm;subst er hs;rw[ZD] at hp;cases Vx:grp[i]? with
   |none=>rw[Vx] at hp;exact aQ hp|some g=>
    rw[Vx] at hp;obtain rfl:=sj hp;have Ma:grp.take (i+1)=grp.take i++[g]:=by rw[aa4,Vx];rfl
    have Ui:bX ([]:List Nat) (grp.take (i+1))=if g∈bX [] (grp.take i) then bX [] (grp.take i) else bX [] (grp.take i)++[g]:=by rw[Ma];unfold bX;rw[ab8];rfl
    have hD:(st2++[O.dK (tR grp (bX [] (grp.take i)))])[st2.length]?=Δ (.dK (tR grp (bX [] (grp.take i)))):=by simp
    have Qf:bJ (st2++[O.dK (tR grp (bX [] (grp.take i)))]) (.obj st2.length)=Δ (.dK (tR grp (bX [] (grp.take i)))):=by exact m9 (by simp)
    have hl:(tR grp (bX [] (grp.take i))).length < au:=by unfold tR;rw[ZA];exact Uh i
    have hk:keyOf (.d (nD g))=Δ (.inl (g:Int)):=rfl;have Qg:∃v,sH (.obj st2.length) (.d (nD g)) (.d (.int (i:Int))) (st2++[O.dK (tR grp (bX [] (grp.take i)))])=Δ (v,st2++[O.dK (tR grp (bX [] (grp.take (i+1))))]):=by
     unfold sH;simp only[hD,hl,if_true,hk,aag];by_cases wA:g∈bX [] (grp.take i);·rw[Ui,if_pos wA,Jw wA];exact⟨_,rfl⟩
     ·rw[Ui,if_neg wA,fd_none wA];have hni:g∉grp.take i:=λz=>wA (dS.mpr (.inr z));have hix:grp.idxOf g=i:=by
       obtain⟨Vv,Y3⟩:=List.getElem?_eq_some_iff.mp Vx;have e:grp=grp.take i++[g]++grp.drop (i+1):=by rw[<-Ma,adh]
       conv=>lhs;rw[e]
       rw[EX hni,abQ];lia
      refine⟨.d (.int (i:Int)),?_⟩;dsimp only;rw[uG (λkv sE=>by obtain⟨x,hx,rfl⟩:=abk.mp sE;intro z;injection z with z;exact wA ((show x=g by lia)▸hx))];congr 2;rw[adi _ _ (by lia)];simp[tR,hix,nD]
    obtain⟨v,Qg⟩:=Qg;refine⟨[Δ (.d (mD m)),Δ (.obj 0),Δ (.obj st2.length),Δ (.d (.int (i:Int))),Δ (.d (nD g))],st2++[O.dK (tR grp (bX [] (grp.take (i+1))))],?_,⟨_,_,rfl⟩,rfl⟩;refine ag (ou (v:=v) (st1:=st2++[O.dK (tR grp (bX [] (grp.take (i+1))))]) ?_) az;rw[mj];simp only[acx,ba,ZJ,ZK,Z4,ay,ae,Qf,Qg])
  eU (i:=0) (r:=[Δ (.d (mD m)),Δ (.obj 0),Δ (.obj st2.length),Θ,Θ]) (st:=st2++[O.dK []]) ⟨⟨_,_,rfl⟩,by simp[tR,bX]⟩ (aaB _) (by have:grp.length=m.length:=gl;rw[ZA];unfold eU;lia))
 obtain⟨y3,y4,z1⟩:=qv;subst z1;rw[ZA,aaY (ZC _)] at z2;subst z2
 let G:=bX ([]:List Nat) grp
 have s0:(st2++[O.dK (tR grp G)])[0]?=Δ (jw b):=by rw[Zy (by lia)];exact um.self
 have sg:(st2++[O.dK (tR grp G)])[b+1]?=Δ (.lst (grp.map λs=>P.d (nD s))):=by rw[Zy (by lia)];exact um.grp
 have Uj:∀(r:cb) (s:aM) (f:P) (s':aM),aa (callC Fs (n+4)) (.ix (.var 1) (.var 0)) r s=.ok f s'->s'=s:=λr s f s' h=>by rw[bA,ba] at h;cases h1:(r[1]?).join with|none=>rw[h1] at h;cases h|some x=>rw[h1,ay,ae,ba] at h;cases h2:(r[0]?).join with|none=>rw[h2] at h;cases h|some y=>rw[h2,ay,ae] at h;cases h3:CJ x y s with|none=>rw[h3] at h;cases h|some z=>rw[h3] at h;cases h;rfl
 have eC:be (callC Fs (n+4)) (.cF (.attr "Groups" "group_of" 1) [2] Θ (.ix (.var 1) (.var 0))) [Δ (.d (mD m)),Δ (.obj 0),Δ (.obj st2.length),y3,y4] (st2++[O.dK (tR grp G)])=.ok (grp.map λg=>P.d (nD (grp.idxOf g))) (st2++[O.dK (tR grp G)]):=by
  rw[sJ,dv rfl s0 rfl,ae];dsimp only;rw[vW (xs:=grp.map λs=>P.d (nD s)) (λr s f s' h1 h2=>by rw[n9] at h2;cases h2;exact h1) (λr s f s' h1 h2=>by rw[Uj r s f s' h2];exact h1) au 0 _ sg (by have:grp.length=m.length:=gl;rw[ZA];unfold au;lia),acA];refine ot (g:=λs=>P.d (nD s)) (f:=λg=>nD (grp.idxOf g)) (λx hx=>by simp) λx hx=>?_;have yi:x∈G:=dS.mpr (.inr hx);have hD:CJ (.obj st2.length) (.d (.int (x:Int))) (st2++[O.dK (tR grp G)])=Δ (.d (nD (grp.idxOf x))):=by
   have Qf:bJ (st2++[O.dK (tR grp G)]) (.obj st2.length)=Δ (.dK (tR grp G)):=by exact m9 (by simp)
   unfold CJ;rw[Qf];show((keyOf (.d (.int (x:Int)))).map _).bind id=_;simp only[keyOf,aag,aax,id];exact Jw yi
  show aa _ (.ix (.var 1) (.var 0)) [Δ (.d (nD x)),Δ (.obj st2.length)] _=_;simp only[bA,ba,ZJ,ZK,Z4,ay,ae,nD,hD]
 refine call_of tK rfl (cA (p:=.d (.pl ((Zq m.length).map λs=>nD (fst w m s)))) (st:=st2++[O.dK (tR grp G)]) rfl ?_ rfl);refine ag (bD (v:=.obj 0) (st1:=st1) ?_) ?_;·rw[vf];simp only[aA,fZ,aw,aF,ba,ZH,ab6,abz,ZJ,Z4,ay,ae,abG,abY];rw[e1,ae]
 refine ag (ou (v:=.d .bG) (st1:=st2) (qa rfl h1.self rfl (ps:=[]) (st1:=st1) (by simp) e2)) ?_;refine ag (bD (v:=.obj st2.length) (st1:=st2++[O.dK []]) (by simp)) ?_;refine ag (PY (n:=b+1) (st1:=st2++[O.dK []]) (dv rfl (by rw[Zy (by lia)];exact um.self) rfl) eF) ?_;refine aK (cB ?_);rw[cY,eC,ae,fI,ay,ae];congr 3;apply adS;intro i;by_cases hi:i < m.length
 ·have yj:i < grp.length:=by
   have:grp.length=m.length:=gl
   lia
  rw[ZD,Zu yj,ZD,abm hi];show Δ (nD (grp.idxOf grp[i]))=Δ (nD (fst w m i));unfold fst T4;rw[Zz,Zu (show i < (jG w m).grp.length from yj)];rfl
 ·rw[aac (by have:grp.length=m.length:=gl;simp;lia),aac (by simp;lia)]
section
variable{α:Type}[DecidableEq α](K:P8 α){step:α->List α}{good:α->Nat}{S:List α}{start:α}
abbrev aU(ps:List α)(rows:dw):aM:=[K.rK ps,.lst (ps.map λp=>P.d (K.enc p)),.lst ((rows.map gS).map .d)]
theorem Qh(hn:ps.Nodup):kr .pF (.d (K.enc a)) (.obj 0) (aU K ps rows)=Δ (!decide (a∈ps)):=by
 have h1:bJ (aU K ps rows) (.obj 0)=Δ (K.rK ps):=by show(if kq (K.rK ps) then Δ (K.rK ps) else Θ)=_;rw[K.T8];rfl
 show(Ih (.d (K.enc a)) (.obj 0) (aU K ps rows)).map not=_;unfold Ih;rw[h1];simp only[K.get ps a hn,aag];by_cases h:a∈ps<;>simp[h]
theorem DK(hn:ps.Nodup)(ha:a∈ps):CJ (.obj 0) (.d (K.enc a)) (aU K ps rows)=Δ (.d (nD (ps.idxOf a))):=by
 have h1:bJ (aU K ps rows) (.obj 0)=Δ (K.rK ps):=by show(if kq (K.rK ps) then Δ (K.rK ps) else Θ)=_;rw[K.T8];rfl
 unfold CJ;rw[h1];simp[K.get ps a hn,ha]
theorem Mb(ha:a∉ps)(hl:ps.length < au):pI (.obj 0) (.d (K.enc a)) (.d (nD ps.length)) (aU K ps rows)=Δ ([K.rK (ps++[a]),.lst (ps.map λp=>P.d (K.enc p)),.lst ((rows.map gS).map .d)]):=by
 have h1:Bi (K.rK ps) (.d (K.enc a)) (.d (nD ps.length))=Δ (K.rK (ps++[a])):=by have hp:=K.put ps a ha hl;have hd:=K.T8 ps;unfold Bi;cases e:K.rK ps with|lst xs=>rw[e] at hd;exact ft hd|_=>rw[e] at hp;exact hp
 unfold pI;simp[h1]
theorem ze n(pS:cJ cS=Λ)(pG:cJ cG=Λ)(hs:start∈S)(hS:∀p∈S,∀q∈step p,q∈S)(hSl:S.length<=900000)(hlen:∀p∈S,(step p).length<=1000)(eS:∀p∈S,∀st,callC Fs n kS (.d (K.enc p)::cS) st=.ok (.d (.pl ((step p).map K.enc))) st)(eG:∀p∈S,∀st,callC Fs n kG (.d (K.enc p)::cG) st=.ok (.d (nD (good p))) st)st:
  callC Fs (n+1) 2 [.d (K.enc start),.fn kS cS,.fn kG cG] st=.ok (.d (mD (gJ step good (places step 1000000 start)))) st:=by
 let F:=places step 1000000 start
 let rw_:=B5 step good F
 have b0:wu step S [start] 0:=⟨by simp,λp hp=>by simp at hp;rw[hp];exact hs,by simp,λi p hi=>by lia⟩
 let r0 (y6 y7 y8:Option P):cb:=[Δ (.d (K.enc start)),Δ (.fn kS cS),Δ (.fn kG cG),Δ (.obj 0),Δ (.obj 1),Δ (.obj 2),y6,y7,y8]
 refine ah (λr' sF eF qv z2=>?_) (rD (c:=cx (aa (callC Fs n) (.cmp .lt (.bf .len [.var 5]) (.bf .len [.var 4])))) (b:=ai (callC Fs n) kH)
  (I:=λk r s=>(∃y6 y7 y8,r=r0 y6 y7 y8)/\∃ps j f,wu step S ps j/\AD step f ps j=F/\S.length+1<=f+j/\k=S.length - j/\s=aU K ps ((ps.take j).map rw_))
  (E:=λr s=>(∃y6 y7 y8,r=r0 y6 y7 y8)/\s=aU K F (F.map rw_))
  (λk r s gy=>by
   obtain⟨⟨y6,y7,y8,h1⟩,ps,j,f,bi,Uk,hf,hk,sf⟩:=gy;subst h1 sf;have bl:=bi.len;have jl:=bi.le;have tl:((ps.take j).map rw_).length=j:=by rw[ZA,abQ];lia
   have l2:(aU K ps ((ps.take j).map rw_))[2]?=Δ (.lst ((((ps.take j).map rw_).map gS).map .d)):=rfl;have l1:(aU K ps ((ps.take j).map rw_))[1]?=Δ (.lst (ps.map λp=>P.d (K.enc p))):=rfl;have n2:ur .len [.obj 2] (aU K ps ((ps.take j).map rw_))=Δ (.d (.int (j:Int))):=by rw[i0 l2];simp;lia
   have n1:ur .len [.obj 1] (aU K ps ((ps.take j).map rw_))=Δ (.d (.int (ps.length:Int))):=by rw[i0 l1];simp
   have ec:cx (aa (callC Fs n) (.cmp .lt (.bf .len [.var 5]) (.bf .len [.var 4]))) (r0 y6 y7 y8) (aU K ps ((ps.take j).map rw_))=.ok (decide (j < ps.length)) (aU K ps ((ps.take j).map rw_)):=by
    unfold cx;simp only[bV,cL,aw,aF,ba,r0,ZJ,ZK,Z4,ay,ae,n1,n2,PU,PR];congr 1;by_cases h:j < ps.length;·rw[decide_eq_true h,decide_eq_true (by lia)]
    ·rw[decide_eq_false h,decide_eq_false (by lia)]
   by_cases hj:j < ps.length
   ·
    obtain⟨p,hp⟩:∃p,ps[j]?=Δ p:=⟨ps[j],Zu hj⟩;have Vy:=bi.sub p (ZG hp);obtain⟨f',rfl⟩:∃f',f=f'+1:=YN hf hj bl;have Ul:AD step f' (bX ps (step p)) (j+1)=F:=by rw[AD,hp] at Uk;exact Uk
    have bn:=bi.next hS hp;obtain⟨t1,et1⟩:=uF step f' (bX ps (step p)) (j+1);obtain⟨t2,et2⟩:=ik (step p) ps;have bnl:=bn.len;have loop:∀(ss qs:List α) (y8:Option P),qs.Nodup->(∀q∈qs,q∈S)->(∀q∈ss,q∈S)->∃Mc,forL (jb (.nm 8)) (ai (callC Fs n) eI) ((ss.map K.enc).map .d) (r0 (Δ (.d (K.enc p))) (Δ (.d (.pl ((step p).map K.enc)))) y8) (aU K qs ((ps.take j).map rw_))
      =.ok (.nx (r0 (Δ (.d (K.enc p))) (Δ (.d (.pl ((step p).map K.enc)))) Mc)) (aU K (bX qs ss) ((ps.take j).map rw_)):=by
     intro ss;induction ss with
     |nil=>intro qs y8 _ _ _;exact⟨y8,rfl⟩|cons s ss ih=>
      intro qs y8 hq Y5 wj;have ql:=fX hq Y5;rw[ZH,ZH,forL,jb,ay,ae,kC];have en:=Qh K (rows:=(ps.take j).map rw_) (a:=s) hq;by_cases wA:s∈qs
      ·rw[if_pos wA];obtain⟨Mc,e⟩:=ih qs (Δ (.d (K.enc s))) hq Y5 λq xZ=>wj q (Zs _ xZ);refine⟨Mc,?_⟩;have eb:ai (callC Fs n) eI ((r0 (Δ (.d (K.enc p))) (Δ (.d (.pl ((step p).map K.enc)))) y8).set 8 (Δ (.d (K.enc s)))) (aU K qs ((ps.take j).map rw_))=.ok (.nx (r0 (Δ (.d (K.enc p))) (Δ (.d (.pl ((step p).map K.enc)))) (Δ (.d (K.enc s))))) (aU K qs ((ps.take j).map rw_)):=by refine ag (iN (st1:=aU K qs ((ps.take j).map rw_)) ?_ az) az;simp only[bV,ba,r0,acx,ZJ,ZK,Z4,ay,ae,en];simp[wA]
       rw[eb,ae];exact e
      ·rw[if_neg wA];have sS:=wj s Zx;have xZ:(qs++[s]).Nodup:=by rw[aar];exact⟨hq,by simp,λa ha b hb=>by simp at hb;subst hb;exact λz=>wA (z▸ha)⟩
       obtain⟨Mc,e⟩:=ih (qs++[s]) (Δ (.d (K.enc s))) xZ (λq hq2=>by
        rcases acQ.mp hq2 with z|z;·exact Y5 q z
        ·simp at z;rw[z];exact sS) λq xZ=>wj q (Zs _ xZ)
       refine⟨Mc,?_⟩;have hp1:=Mb K (ps:=qs) (rows:=(ps.take j).map rw_) wA (by unfold au;lia);have nl:ur .len [.obj 1] (aU K qs ((ps.take j).map rw_))=Δ (.d (nD qs.length)):=by rw[i0 (show(aU K qs ((ps.take j).map rw_))[1]?=Δ (.lst (qs.map λp=>P.d (K.enc p))) from rfl)];simp[nD]
       have eb:ai (callC Fs n) eI ((r0 (Δ (.d (K.enc p))) (Δ (.d (.pl ((step p).map K.enc)))) y8).set 8 (Δ (.d (K.enc s)))) (aU K qs ((ps.take j).map rw_))=.ok (.nx (r0 (Δ (.d (K.enc p))) (Δ (.d (.pl ((step p).map K.enc)))) (Δ (.d (K.enc s))))) (aU K (qs++[s]) ((ps.take j).map rw_)):=by
        refine ag (lK (st1:=aU K qs ((ps.take j).map rw_)) ?_ (ag (pZ (x:=.obj 0) (k:=.d (K.enc s)) (v:=.d (nD qs.length)) (st1:=aU K qs ((ps.take j).map rw_)) (st2:=aU K qs ((ps.take j).map rw_)) (st3:=aU K qs ((ps.take j).map rw_)) ?_ ?_ ?_ hp1) (ag (pY (x:=.obj 1) (v:=.d (K.enc s)) (its:=qs.map λp=>P.d (K.enc p)) (st1:=[K.rK (qs++[s]),.lst (qs.map λp=>P.d (K.enc p)),.lst ((((ps.take j).map rw_).map gS).map .d)]) (st2:=[K.rK (qs++[s]),.lst (qs.map λp=>P.d (K.enc p)),.lst ((((ps.take j).map rw_).map gS).map .d)]) (st3:=aU K (qs++[s]) ((ps.take j).map rw_)) ?_ rfl ?_ ?_) az))) az;·simp only[bV,ba,r0,acx,ZJ,ZK,Z4,ay,ae,en];simp[wA]
        ·simp only[cL,aw,aF,ba,r0,acx,ZJ,ZK,Z4,ay,ae,nl]
        ·simp[r0]
        ·simp[r0]
        ·simp[r0]
        ·simp[r0]
        ·rw[jR (n:=1) (xs:=qs.map λp=>P.d (K.enc p)) rfl (by rw[ZA];unfold au;lia)];simp[aU]
       rw[eb,ae];exact e
    obtain⟨Mc,el⟩:=loop (step p) ps y8 bi.nd bi.sub (hS p Vy);have Y6:gS (rw_ p)=.tup [nD (good p),.tup ((step p).map λq=>nD ((bX ps (step p)).idxOf q))]:=by show D.tup [nD (good p),wD ((step p).map λq=>F.idxOf q)]=_;unfold wD;rw[ab7];congr 4;apply List.map_congr_left;intro q hq;have xZ:q∈bX ps (step p):=dS.mpr (.inr hq);show nD (F.idxOf q)=_;rw[<-Ul,et1,An xZ]
    have Ma:(bX ps (step p)).take (j+1)=ps.take j++[p]:=by rw[et2,List.take_append_of_le_length (by lia),aa4,hp];rfl
    refine .inr ⟨S.length - (j+1),YO hk bl hj,by rw[ec,decide_eq_true hj],r0 (Δ (.d (K.enc p))) (Δ (.d (.pl ((step p).map K.enc)))) Mc,aU K (bX ps (step p)) (((bX ps (step p)).take (j+1)).map rw_),?_,⟨_,_,_,rfl⟩,bX ps (step p),j+1,f',bn,Ul,by lia,rfl,rfl⟩;have hpx:=jt l1 (i:=j) (p:=.d (K.enc p)) (by rw[ZD,hp];rfl);refine ag (bD (v:=.d (K.enc p)) (st1:=aU K ps ((ps.take j).map rw_)) ?_) ?_;·simp only[bA,cL,aw,aF,ba,r0,ZJ,ZK,Z4,ay,ae,n2,hpx]
    refine ag (bD (v:=.d (.pl ((step p).map K.enc))) (st1:=aU K ps ((ps.take j).map rw_)) ?_) ?_;·rw[vX];simp only[r0,acx,aw,aF,ba,ZJ,ZK,Z4,ay,ae,abz,abY];exact eS p Vy _
    refine ag (e8 (ps:=((step p).map K.enc).map .d) (st1:=aU K ps ((ps.take j).map rw_)) (by simp[r0]) el) ?_;refine ag (pY (x:=.obj 2) (v:=.d (gS (rw_ p))) (its:=(((ps.take j).map rw_).map gS).map .d) (st1:=aU K (bX ps (step p)) ((ps.take j).map rw_)) (st2:=aU K (bX ps (step p)) ((ps.take j).map rw_)) (st3:=aU K (bX ps (step p)) (((bX ps (step p)).take (j+1)).map rw_)) (by simp[r0]) rfl ?_ ?_) az
    ·have e1:aa (callC Fs n) (.nI 2 [.var 6]) (r0 (Δ (.d (K.enc p))) (Δ (.d (.pl ((step p).map K.enc)))) Mc) (aU K (bX ps (step p)) ((ps.take j).map rw_))=.ok (.d (nD (good p))) (aU K (bX ps (step p)) ((ps.take j).map rw_)):=by rw[vX];simp only[r0,aw,aF,ba,ZJ,ZK,Z4,ay,ae,abz,abY];exact eG p Vy _
     have e2:be (callC Fs n) (.comp (.ex (.var 7)) 1 [3] Θ (.ix (.var 1) (.var 0))) (r0 (Δ (.d (K.enc p))) (Δ (.d (.pl ((step p).map K.enc)))) Mc) (aU K (bX ps (step p)) ((ps.take j).map rw_))=.ok ((step p).map λq=>P.d (nD ((bX ps (step p)).idxOf q))) (aU K (bX ps (step p)) ((ps.take j).map rw_)):=by
      have Ax:=hlen p Vy;refine dP (g:=λq=>P.d (K.enc q)) (f:=λq=>nD ((bX ps (step p)).idxOf q)) (xs:=step p) ?_ (by unfold au;lia) λq hq=>?_;·simp[r0]
      ·have:=DK K (rows:=(ps.take j).map rw_) (a:=q) bn.nd (dS.mpr (.inr hq));show aa _ (.ix (.var 1) (.var 0)) [Δ (.d (K.enc q)),Δ (.obj 0)] _=_;simp only[bA,ba,ZJ,ZK,Z4,ay,ae,this]
     rw[Y6,yu,aw,e1,ae,aw,cL,aw,cY,e2,ae,fI];simp[au]
    ·rw[Ma,aan];have hl3:((((ps.take j).map rw_).map gS).map P.d).length < au:=by rw[ZA,ZA,tl];unfold au;lia
     rw[jR (n:=2) (xs:=(((ps.take j).map rw_).map gS).map .d) rfl hl3];simp[aU]
   ·have ej:j=ps.length:=by lia
    refine .inl ⟨by rw[ec,decide_eq_false hj],⟨_,_,_,rfl⟩,?_⟩;have:F=ps:=by cases f with|zero=>exact Uk.symm|succ f=>rw[AD,aac (by lia)] at Uk;exact Uk.symm
    rw[this,ej,aaY (ZC _)])
  eU (k:=S.length - 0) (r:=r0 Θ Θ Θ) (st:=aU K [start] []) ⟨⟨_,_,_,rfl⟩,[start],0,1000000,b0,rfl,by lia,rfl,by simp⟩ (by unfold eU;lia))
 obtain⟨y6,y7,y8,z1⟩:=qv;subst z1 z2;refine call_of tM (by simp[DQ,pS,pG]) (cA (p:=.d (mD (gJ step good F))) (st:=aU K F (F.map rw_)) rfl ?_ rfl);refine ag (bD (v:=.obj 0) (st1:=[K.rK [start]]) ?_) ?_;·rw[vd];simp only[aA,dg,ba,ZH,ab6,abz,ZJ,Z4,ay,ae,K.lit];rfl
 refine ag (bD (v:=.obj 1) (st1:=[K.rK [start],.lst [.d (K.enc start)]]) (by simp[aA,dg,au])) ?_;refine ag (bD (v:=.obj 2) (st1:=[K.rK [start],.lst [.d (K.enc start)],.lst []]) (by simp[aA,dg,au])) ?_;refine ag (ER eF) ?_;refine aK (cB ?_);have l2:fz (aU K F (F.map rw_)) (.obj 2)=Δ (((F.map rw_).map gS).map .d):=rfl;simp only[cL,aw,aF,ba,r0,ZJ,ZK,Z4,ay,ae,ur,l2,aax,lh,aag];rfl
end
section
variable{w:Nat}{m:dw}(ok:eY w m)(hm:m.length<=100000)(hw:w<=1000)
include ok hm hw
theorem xG(n:Nat){p:Nat}(hp:p < m.length)(st:aM):callC Fs (n+1) 25 [.d (nD p),.d (.pl ((Zq m.length).map λs=>nD (fst w m s))),.d (mD m)] st=.ok (.d (.pl ((fc w m p).map nD))) st:=by
 refine call_of qd rfl (cA (p:=.d (.pl ((fc w m p).map nD))) (st:=[]) rfl (aK (cB ?_)) rfl);have hl:=ok.len _ (aW hp);have eL:be (callC Fs n) (.comp (.ex (.ix (.ix (.var 2) (.var 0)) (.cst (.int 1)))) 1 [1] Θ (.ix (.var 1) (.var 0))) (aA 3 [.d (nD p),.d (.pl ((Zq m.length).map λs=>nD (fst w m s))),.d (mD m)]) []=.ok ((row m p).2.map λq=>P.d (nD (fst w m q))) []:=by
  refine dP (g:=λq=>P.d (nD q)) (f:=λq=>nD (fst w m q)) (xs:=(row m p).2) ?_ (by unfold au;lia) λq hq=>?_;·have h0:qD (m.map gS) (p:Int)=Δ (gS (row m p)):=DS hp;simp[aA,mD,nD,h0,gS,wD]
  ·have xZ:=ok.lt _ (aW hp) q hq;have h1:qD ((Zq m.length).map λs=>nD (fst w m s)) (q:Int)=Δ (nD (fst w m q)):=eD (by simp[xZ]);show aa _ (.ix (.var 1) (.var 0)) [Δ (.d (nD q)),Δ (.d (.pl ((Zq m.length).map λs=>nD (fst w m s))))] _=_;simp only[bA,ba,ZJ,ZK,Z4,ay,ae,nD,TQ];simp only[nD] at h1;rw[h1];rfl
 rw[cY];show(be (callC Fs n) _ (aA 3 _) []).bind _=_;rw[eL,ae,fI];simp[fc,aaz]
theorem Av(n:Nat){p:Nat}(hp:p < m.length)(st:aM):callC Fs (n+1) 26 [.d (nD p),.d (mD m)] st=.ok (.d (nD (gd m p))) st:=by refine call_of rP rfl (cA (p:=.d (nD (gd m p))) (st:=[]) rfl (aK (cB ?_)) rfl);exact uC hp (by simp[aA,dz]) (by simp[aA,dz,nD])
theorem wM(n:Nat)(st:aM):callC Fs (n+6) 3 [.d (mD m)] st=.ok (.d (mD (cX w m))) st:=by
 refine call_of Ju rfl (cA (p:=.d (mD (cX w m))) (st:=[]) rfl ?_ rfl);have e1:=Cn n ok hm hw [];refine ag (bD (v:=.d (.pl ((Zq m.length).map λs=>nD (fst w m s)))) (st1:=[]) ?_) ?_;·rw[fG];simp only[aA,qc,aw,aF,ba,ZH,ab6,abz,ZJ,Z4,ay,ae];show jM (callC Fs (n+5) 1) (Δ [.d (mD m)]) []=_;unfold jM;simp only[e1,ae]
 refine ag (DR _ _) ?_;refine aK (cB ?_);have f0:qD ((Zq m.length).map λs=>nD (fst w m s)) (0:Int)=Δ (nD (fst w m 0)):=eD (k:=0) (by simp[ok.ne]);have e2:=ze YV (n+4) (step:=fc w m) (good:=gd m) (S:=Zq m.length) (start:=fst w m 0) (kS:=25) (kG:=26) (cS:=[.d (.pl ((Zq m.length).map λs=>nD (fst w m s))),.d (mD m)]) (cG:=[.d (mD m)]) rfl rfl
  (aaF.mpr (iq ok ok.ne).1) (B7 ok) (by rw[aad];lia) (λp hp=>by rw[rJ ok p hp];exact hw)
  (λp hp st=>xG ok hm hw (n+3) (aaF.mp hp) st) (λp hp st=>Av ok hm hw (n+3) (aaF.mp hp) st) []
 rw[fG];simp only[aw,aF,bA,ba,fF,qO,aA,qc,acx,ZH,ab6,abz,abY,ZS,abG,Nat.reduceAdd,Nat.reduceSub,aaS,ZJ,ZK,Z4,ay,ae,TQ,f0,aag];show jM (callC Fs (n+5) 2) (aeY _ [P.d (nD (fst w m 0)),P.lf 25,P.lf 26]) []=_;rw[show aeY (conv [(25,[1,0]),(26,[0])] [Δ (P.d (mD m)),Δ (P.d (.pl ((Zq m.length).map λs=>nD (fst w m s)))),Δ (P.lf 25)] 3) [P.d (nD (fst w m 0)),P.lf 25,P.lf 26]
  =Δ [.d (nD (fst w m 0)),.fn 25 [.d (.pl ((Zq m.length).map λs=>nD (fst w m s))),.d (mD m)],.fn 26 [.d (mD m)]] from rfl]
 unfold jM;have e2':callC Fs (n+5) 2 [.d (nD (fst w m 0)),.fn 25 [.d (.pl ((Zq m.length).map λs=>nD (fst w m s))),.d (mD m)],.fn 26 [.d (mD m)]] []=.ok (.d (mD (gJ (fc w m) (gd m) (places (fc w m) 1000000 (fst w m 0))))) []:=e2;simp only[e2',ae];rw[gU];rfl
end
theorem Gw n ns(k:Nat)st:callC Fs (n+1) 9 [.jg ns,.d (.int k)] st=.ok (.d (.int (cell ns k))) st:=by
 refine call_of tN rfl (cA (p:=.d (.int (cell ns k))) (st:=[]) rfl ?_ rfl);by_cases h:k < ns.length
 ·have h1:(k:Int) < (ns.length:Int):=by lia
  have h2:qD ns (k:Int)=Δ (cell ns k):=eD (by unfold cell;rw[Zz,Zu h];rfl);exact aK (lK (st1:=[]) (by simp[aA,dh,h]) (aK (cB (by simp[aA,dh,h2]))))
 ·have h1:cell ns k=0:=by unfold cell;rw[Zz,aac (by lia)];rfl
  rw[h1];exact ag (iN (st1:=[]) (by simp[aA,dh];lia) az) (aK (cB (by simp)))
theorem D3 n ns(k:Nat)st:callC Fs (n+2) 10 [.jg ns,.d (.int k)] st=.ok (.d (.int (mixed ns k))) st:=by
 refine call_of xD rfl (cA (p:=.d (.int (mixed ns k))) (st:=[]) rfl ?_ rfl);obtain⟨m1,m2⟩:=cz ((cell ns k+7919*k+1)*48271) (show(0:Int) < 2147483647 by decide);have c1:∀z:Int,mQ .mul 7919 z=Δ (7919*z):=λz=>fW (.inl (by decide));have c2:∀z:Int,mQ .mul z 48271=Δ (z*48271):=λz=>fW (.inr (by decide));have c3:∀z:Int,mQ .mul 7 z=Δ (7*z):=λz=>fW (.inl (by decide));refine ag (bD (v:=.d (.int (BQ ns k))) (st1:=[]) (by simp[aA,gb,Gw,c1,c2,iZ,BQ])) ?_;have b: -n4 < BQ ns k/\BQ ns k < n4:=by unfold n4 BQ;lia
 exact aK (cB (by simp[aA,gb,fW,c3,iZ,b,mixed]))
theorem D4 n x(k:Nat)st:callC Fs (n+1) 11 [.d (.int x),.d (.int k)] st=.ok (.d (.int (drawn x k))) st:=by
 refine call_of xE rfl (cA (p:=.d (.int (drawn x k))) (st:=[]) rfl ?_ rfl);obtain⟨m1,m2⟩:=cz ((x+104729*k+17)*69621) (show(0:Int) < 2147483647 by decide);have c1:∀z:Int,mQ .mul 104729 z=Δ (104729*z):=λz=>fW (.inl (by decide));have c2:∀z:Int,mQ .mul z 69621=Δ (z*69621):=λz=>fW (.inr (by decide));have c3:∀z:Int,mQ .mul 3 z=Δ (3*z):=λz=>fW (.inl (by decide));refine ag (bD (v:=.d (.int (BR x k))) (st1:=[]) (by simp[aA,gc,c1,c2,iZ,BR])) ?_;have b: -n4 < BR x k/\BR x k < n4:=by unfold n4 BR;lia
 exact aK (cB (by simp[aA,gc,fW,c3,iZ,b,drawn]))
theorem sW n x(k:Nat)(hz:z=(k:Int))st:callC Fs (n+1) 11 [.d (.int x),.d (.int z)] st=.ok (.d (.int (drawn x k))) st:=by rw[hz];exact D4 n x k st
theorem mK n ns(k:Nat)(hz:z=(k:Int))st:callC Fs (n+2) 10 [.jg ns,.d (.int z)] st=.ok (.d (.int (mixed ns k))) st:=by rw[hz];exact D3 n ns k st
theorem D5 n x(w c:Nat)(hw:w<=3)(hc:0 < c)(k:Nat)(h1:lR r 1=Δ (.d (.int (w:Int))))(hb:bO [3,0,5] r=[Δ (.d (.int (c:Int))),Δ (.d (.int x)),Δ (.d (.int (k:Int)))]):
  be (callC Fs (n+1)) (.comp (.iQ [.var 1]) 1 [3,0,5] Θ (.op .mod (.call 11 [.var 2,.op .add (.op .mul (.cst (.int 7)) (.var 3)) (.var 0)]) (.var 1))) r st
   =.ok ((Zq w).map λl=>.d (nD (drawn x (7*k+l) % (c:Int)).toNat)) st:=by
 have c1:∀z:Int,mQ .mul 7 z=Δ (7*z):=λz=>fW (.inl (by decide));have c2:∀z:Int,mQ .mod z (c:Int)=Δ (z % (c:Int)):=λz=>iZ (by lia);refine dP (g:=λk:Nat=>P.d (.int (k:Int))) (f:=λl=>nD (drawn x (7*k+l) % (c:Int)).toNat) ?_ (by rw[aad];unfold au;lia) λl hl=>?_;·have h1':(r[1]?).join=Δ (.d (.int (w:Int))):=h1;exact cM (by rw[ba,h1',ay]) (by lia)
 ·rw[hb];have:=cz (drawn x (7*k+l)) (show(0:Int) < (c:Int) by lia);have e:=sW n x (z:=7*(k:Int)+(l:Int)) (7*k+l) (by simp) st;have e2:((drawn x (7*k+l) % (c:Int)).toNat:Int)=drawn x (7*k+l) % (c:Int):=Int.toNat_of_nonneg this.1;simp only[mi,jh,aw,aF,ba,fF,ZJ,ZK,Z4,ay,ae,IZ,c1,LD,aag,e,c2,nD,e2]
theorem zf n x(w c:Nat)(hw:w<=3)(hc:0 < c)a:∀(ks:List Nat) (ys) (u v),ys.length+ks.length<=1000->
  ∃u' v',forL (jb (.nm 5)) (ai (callC Fs (n+1)) gW) (ks.map λk:Nat=>.d (.int (k:Int))) [Δ (.d (.int x)),Δ (.d (.int (w:Int))),a,Δ (.d (.int (c:Int))),Δ (.obj 0),u,v] [.lst (ys.map .d)]
   =.ok (.nx [Δ (.d (.int x)),Δ (.d (.int (w:Int))),a,Δ (.d (.int (c:Int))),Δ (.obj 0),u',v'])
    [.lst ((ys++ks.map λk=>gS ((drawn x (7*k+5) % 3 % 2).toNat,(Zq w).map λl=>(drawn x (7*k+l) % (c:Int)).toNat)).map .d)]
 |[],ys,u,v,_=>⟨u,v,by simp[forL]⟩|k::ks,ys,u,v,hl=>by
  obtain⟨u',v',ih⟩:=zf n x w c hw hc a ks (ys++[gS ((drawn x (7*k+5) % 3 % 2).toNat,(Zq w).map λl=>(drawn x (7*k+l) % (c:Int)).toNat)]) (Δ (.d (.int (k:Int)))) (Δ (.d (wD ((Zq w).map λl=>(drawn x (7*k+l) % (c:Int)).toNat)))) (by simp at hl ⊢;lia);refine⟨u',v',?_⟩;have c1:∀z:Int,mQ .mul 7 z=Δ (7*z):=λz=>fW (.inl (by decide));have c2:∀z:Int,mQ .mod z 3=Δ (z % 3):=λz=>iZ (by lia);have c3:∀z:Int,mQ .mod z 2=Δ (z % 2):=λz=>iZ (by lia);have e5:=λst=>sW n x (z:=7*(k:Int)+5) (7*k+5) (by simp) st;have r5:=cz (drawn x (7*k+5) % 3) (show(0:Int) < 2 by decide);have es:be (callC Fs (n+1)) (.comp (.iQ [.var 1]) 1 [3,0,5] Θ (.op .mod (.call 11 [.var 2,.op .add (.op .mul (.cst (.int 7)) (.var 3)) (.var 0)]) (.var 1))) [Δ (.d (.int x)),Δ (.d (.int (w:Int))),a,Δ (.d (.int (c:Int))),Δ (.obj 0),Δ (.d (.int (k:Int))),v] [.lst (ys.map .d)]
    =.ok ((Zq w).map λl=>.d (nD (drawn x (7*k+l) % (c:Int)).toNat)) [.lst (ys.map .d)]:=D5 n x w c hw hc k rfl rfl
  have Vs:ys.length < au:=by unfold au;simp at hl;lia
  rw[ZH,forL,jb,ay,ae];have e:ai (callC Fs (n+1)) gW [Δ (.d (.int x)),Δ (.d (.int (w:Int))),a,Δ (.d (.int (c:Int))),Δ (.obj 0),Δ (.d (.int (k:Int))),v] [.lst (ys.map .d)]
    =.ok (.nx [Δ (.d (.int x)),Δ (.d (.int (w:Int))),a,Δ (.d (.int (c:Int))),Δ (.obj 0),Δ (.d (.int (k:Int))),Δ (.d (wD ((Zq w).map λl=>(drawn x (7*k+l) % (c:Int)).toNat)))])
     [.lst ((ys++[gS ((drawn x (7*k+5) % 3 % 2).toNat,(Zq w).map λl=>(drawn x (7*k+l) % (c:Int)).toNat)]).map .d)]:=by
   refine ag (bD (v:=.d (wD ((Zq w).map λl=>(drawn x (7*k+l) % (c:Int)).toNat))) (st1:=[.lst (ys.map .d)]) ?_) ?_;·rw[cL,aw,cY,es];simp[wD,aaz]
   ·refine ag (pY (x:=.obj 0) (v:=.d (gS ((drawn x (7*k+5) % 3 % 2).toNat,(Zq w).map λl=>(drawn x (7*k+l) % (c:Int)).toNat))) (its:=ys.map .d) (st1:=[.lst (ys.map .d)]) (st2:=[.lst (ys.map .d)]) ?_ rfl ?_ ?_) az;·simp
    ·simp[c1,c2,c3,e5,gS,nD,Int.toNat_of_nonneg r5.1,au]
    ·simp[zL,Vs]
  rw[show([Δ (.d (.int x)),Δ (.d (.int (w:Int))),a,Δ (.d (.int (c:Int))),Δ (.obj 0),u,v]:cb).set 5 (Δ (.d (.int (k:Int))))=[Δ (.d (.int x)),Δ (.d (.int (w:Int))),a,Δ (.d (.int (c:Int))),Δ (.obj 0),Δ (.d (.int (k:Int))),v] from rfl,e,ae];dsimp only;rw[ih];simp
theorem zg n x(w:Nat)most(c:Nat)(hw:w<=3)(hm:0 < most)(hc:1+x % most=(c:Int))(hc1:c<=900)st:
  callC Fs (n+2) 13 [.d (.int x),.d (.int (w:Int)),.d (.int most)] st=.ok (.d (mD (Jd x w c))) st:=by
 have hx:=cz x hm;have c1:∀z:Int,mQ .mod z most=Δ (z % most):=λz=>iZ hm;obtain⟨u',v',e⟩:=zf n x w c hw (by lia) (Δ (.d (.int most))) (Zq c) [] Θ Θ (by simp;lia);refine call_of tP rfl (cA (p:=.d (mD (Jd x w c))) (st:=[.lst (([]++(Zq c).map λk=>gS ((drawn x (7*k+5) % 3 % 2).toNat,(Zq w).map λl=>(drawn x (7*k+l) % (c:Int)).toNat)).map .d)]) rfl ?_ rfl);refine ag (bD (v:=.d (.int (c:Int))) (st1:=[]) (by simp[aA,di,c1,hc])) ?_;refine ag (bD (v:=.obj 0) (st1:=[.lst []]) (by simp[aA,di,au])) ?_;refine ag (e8 (ps:=(Zq c).map λk:Nat=>.d (.int (k:Int))) (st1:=[.lst []]) (cM (by simp[aA,di]) (by lia)) e) ?_;refine aK (cB ?_);simp[LJ,TU,mD,Jd,aaz]
theorem rR n(k:eY w m)u(hu:∀a∈u,a < w)st:callC Fs (n+1) 14 [.d (mD m),.d (wD u)] st=.ok (.d (.bl (cf m u))) st:=by refine call_of Cg rfl (cA (p:=.d (.bl (cf m u))) (st:=[]) rfl ?_ rfl);obtain⟨y,e⟩:=yR (C:=callC Fs n) (st:=[]) (r:=[Δ (.d (mD m)),Δ (.d (wD u)),Θ,Θ]) (iM:=0) (iS:=2) (iL:=3) k rfl (by decide) (by decide) (by decide) (by simp) (by simp) u 0 Θ k.ne hu;refine ag (bD (v:=.d (.int 0)) (st1:=[]) (by simp)) ?_;refine ag (e8 (ps:=(u.map nD).map .d) (st1:=[]) (by simp[aA,ly,wD]) e) ?_;refine aK (cB ?_);rw[bV,uC (m:=m) (s:=walk m 0 u) (k.walk k.ne hu) (by simp) (by simp)];simp[cf,YQ]
theorem rS n x h st:callC Fs (n+1) 15 [.d x,.d (.int h)] st=.ok (.d (.bl (nr x h))) st:=by refine call_of wJ rfl (cA (p:=.d (.bl (nr x h))) (st:=[]) rfl (aK (cB ?_)) rfl);cases x with|int i=>by_cases hi:0<=i<;>simp[fe,aA,fS,nr,hi]|_=>simp[fe,aA,fS,nr]
theorem D6 n x w(hx:∀xs,x=.tup xs->xs.length<=100000/\∀y∈xs,∀ys,y=.tup ys->∀z∈ys,∀zs,z=.tup zs->zs.length<=100000)st:callC Fs (n+2) 16 [.d x,.d (.int w)] st=.ok (.d (.bl (sQ x w))) st:=by
 refine call_of oE rfl (cA (p:=.d (.bl (sQ x w))) (st:=[]) rfl ?_ rfl);cases x with
 |tup xs=>
  obtain⟨hl,hy⟩:=hx xs rfl;have body:∀y∈xs,ai (callC Fs (n+1)) dc (([Δ (.d (.tup xs)),Δ (.d (.int w)),Θ]:cb).set 2 (Δ (.d y))) []=if ju w ((xs.length:Int) - 1) y=Λ then .ok (.nx (([Δ (.d (.tup xs)),Δ (.d (.int w)),Θ]:cb).set 2 (Δ (.d y)))) [] else .ok (.rt (.d (.bl Ξ))) []:=by
   intro y hyx;have ret:∀{c:E} {rest:List S} {r:cb},aa (callC Fs (n+1)) c r []=.ok (.d (.bl Λ)) []->ai (callC Fs (n+1)) (.ifs c [.ret (.cst (.bl Ξ))] []::rest) r []=.ok (.rt (.d (.bl Ξ))) []:=λh=>aK (lK h (aK (cB (by simp))));have go:∀{c:E} {rest:List S} {r:cb} {res:R Fl},aa (callC Fs (n+1)) c r []=.ok (.d (.bl Ξ)) []->ai (callC Fs (n+1)) rest r []=res->ai (callC Fs (n+1)) (.ifs c [.ret (.cst (.bl Ξ))] []::rest) r []=res:=λh h2=>ag (iN h az) h2;unfold dc;cases y with
   |tup ys=>
    match ys,hy _ hyx with
    |[],_=>simp only[ju,aaj,if_false];exact ret (by simp[fS])|[a],_=>simp only[ju,aaj,if_false];exact ret (by simp[fS])|a::b::c::r,_=>
     simp only[ju,aaj,if_false];refine ret ?_;have:((r.length:Int)+1+1+1==2)=Ξ:=by rw[beq_eq_false_iff_ne];lia
     simp[fS,this]
    |[a,b],hb=>
     simp only[ju];rcases acO (nr a 1) with h1|h1
     case inr=>simp only[h1,ade,aaj,if_false];exact ret (by simp[fS,rS,h1])
     case inl=>
      simp only[h1,aeI];refine go (by simp[fS,rS,h1]) ?_;cases b with
      |tup ss=>
       have wj:=hb _ rfl (.tup ss) (by simp) ss rfl;unfold Aj;dsimp only;by_cases h2:(ss.length:Int)=w
       ·refine go (by simp[fS,h2]) ?_;simp only[h2,decide_true,aeI];have hc:be (callC Fs (n+1)) (.comp (.ex (.ix (.var 2) (.cst (.int 1)))) 1 [0] (Δ (.not (.call 15 [.var 0,.op .sub (.bf .len [.var 1]) (.cst (.int 1))]))) (.var 0)) [Δ (.d (.tup xs)),Δ (.d (.int w)),Δ (.d (.tup [a,.tup ss]))] []
          =.ok ((ss.filter λs=>!nr s ((xs.length:Int) - 1)).map λs=>.d s) []:=
         pW (f:=λs=>s) (p:=λs=>!nr s ((xs.length:Int) - 1)) (by simp) (by unfold au;lia) (λs _=>by simp[bO,rS]) (λs _=>by simp)
        rcases acO (ss.all λs=>nr s ((xs.length:Int) - 1)) with h3|h3
        case inl=>
         have e:(ss.filter λs=>!nr s ((xs.length:Int) - 1))=[]:=by rw[abJ];intro s hs;rw[abe] at h3;simp[h3 s hs]
         rw[e] at hc;simp only[h3,if_true];refine go ?_ az;have CF:be (callC Fs (n+1)) (.comp (.ex (.ix (.var 2) (.cst (.int 1)))) 1 [0] (Δ (.not (.call 15 [.var 0,.op .sub (.bf .len [.var 1]) (.cst (.int 1))]))) (.var 0)) (([Δ (.d (.tup xs)),Δ (.d (.int w)),Θ]:cb).set 2 (Δ (.d (.tup [a,.tup ss])))) []=.ok [] []:=hc;rw[bV,cY,CF];simp[au]
        case inr=>
         have e:(ss.filter λs=>!nr s ((xs.length:Int) - 1))≠[]:=by intro z;rw[abJ] at z;rw[List.all_eq_false] at h3;obtain⟨s,hs,hf⟩:=h3;exact z s hs (by simpa using hf)
         obtain⟨f0,fr,ef⟩:∃f0 fr,(ss.filter λs=>!nr s ((xs.length:Int) - 1))=f0::fr:=by cases q:(ss.filter λs=>!nr s ((xs.length:Int) - 1)) with|nil=>exact absurd q e|cons a b=>exact⟨a,b,rfl⟩
         rw[ef] at hc;simp only[h3,aaj,if_false];refine ret ?_;have CF:be (callC Fs (n+1)) (.comp (.ex (.ix (.var 2) (.cst (.int 1)))) 1 [0] (Δ (.not (.call 15 [.var 0,.op .sub (.bf .len [.var 1]) (.cst (.int 1))]))) (.var 0)) (([Δ (.d (.tup xs)),Δ (.d (.int w)),Θ]:cb).set 2 (Δ (.d (.tup [a,.tup ss])))) []=.ok ((f0::fr).map λs=>.d s) []:=hc;rw[bV,cY,CF];simp[au]
       ·simp only[h2,decide_false,ade,aaj,if_false];exact ret (by simp[fS,h2])
      |_=>simp only[Aj,aaj,if_false];exact ret (by simp[fS])
   |_=>simp only[ju,aaj,if_false];exact ret (by simp[fS])
  by_cases he:xs=[];·subst he;exact aK (lK (st1:=[]) (by simp[aA,bw,fS,au]) (aK (cB (by simp[sQ]))))
  ·have MP:xs.isEmpty=Ξ:=by cases xs with|nil=>exact absurd rfl he|cons a b=>rfl
   refine ag (iN (st1:=[]) (by simp[aA,bw,fS,au,MP]) az) ?_;obtain⟨u2,e2⟩:=EM (i:=2) (r:=[Δ (.d (.tup xs)),Δ (.d (.int w)),Θ]) (st:=[]) (f:=λy=>ju w ((xs.length:Int) - 1) y) (v:=.d (.bl Ξ)) (b:=ai (callC Fs (n+1)) dc) (xs:=xs) (u:=Θ) body;have em:sQ (.tup xs) w=xs.all λy=>ju w ((xs.length:Int) - 1) y:=by unfold sQ;simp[MP]
   rw[em];cases h3:xs.all λy=>ju w ((xs.length:Int) - 1) y with|true=>rw[h3,if_pos rfl] at e2;exact ag (e8 (ps:=xs.map .d) (st1:=[]) (by simp[aA,bw]) e2) (aK (cB (by simp)))|false=>rw[h3,if_neg (by simp)] at e2;exact aK (e8 (ps:=xs.map .d) (st1:=[]) (by simp[aA,bw]) e2)
 |_=>exact aK (lK (st1:=[]) (by simp[aA,bw,fS]) (aK (cB (by simp[sQ]))))
section
variable{w:Nat}{m:dw}(ok:eY w m)(hn:m.length<=4000)(n:Nat)(bN:aM)
include ok hn
theorem Jx{ps:rH}(h:bW w m ps):ps.length < au:=by have:=h.len;have:m.length*m.length<=4000*4000:=aeu hn hn;unfold au;lia
theorem Md{i j:Nat}(hi:i < m.length)(hj:j < m.length){ps:rH}(hs:bW w m ps)(nV x5 x6:Option P):
  ai (callC Fs n) iC [Δ (.d (mD m)),nV,Δ (.obj bN.length),Δ (.d (.int (i:Int))),Δ (.d (.int (j:Int))),x5,x6] (bN++[bS ps])
   =.ok (.nx [Δ (.d (mD m)),nV,Δ (.obj bN.length),Δ (.d (.int (i:Int))),Δ (.d (.int (j:Int))),x5,x6]) (bN++[bS (p1 m i ps j)]):=by
 have e1:=uC (C:=callC Fs n) (r:=[Δ (.d (mD m)),nV,Δ (.obj bN.length),Δ (.d (.int (i:Int))),Δ (.d (.int (j:Int))),x5,x6]) (st:=bN++[bS ps]) (em:=.var 0) (es:=.var 3) hi (by simp) (by simp);have e2:=uC (C:=callC Fs n) (r:=[Δ (.d (mD m)),nV,Δ (.obj bN.length),Δ (.d (.int (i:Int))),Δ (.d (.int (j:Int))),x5,x6]) (st:=bN++[bS ps]) (em:=.var 0) (es:=.var 4) hj (by simp) (by simp);unfold p1;by_cases h:gd m i=gd m j;·rw[if_neg (by simpa using h)];refine ag (iN (st1:=bN++[bS ps]) ?_ az) az;rw[bV,e1,ae,e2,ae,Ja,Ad,h];simp
 ·rw[if_pos h];refine ag (lK (st1:=bN++[bS ps]) ?_ (ag (pZ (v:=.d (.bl Λ)) (x:=.obj bN.length) (k:=.d (.tup [nD i,nD j])) (st1:=bN++[bS ps]) (st2:=bN++[bS ps]) (st3:=bN++[bS ps]) (by simp) (by simp) (by simp[nD,au]) ?_) az)) az
  ·rw[bV,e1,ae,e2,ae,Ja,Ad];have:((gd m i:Int)==(gd m j:Int))=Ξ:=by rw[beq_eq_false_iff_ne];lia
   simp[this]
  ·rw[B0 (Jm bN _) (Jx ok hn hs),Jn]
theorem Me{i j:Nat}(hi:i < m.length)(hj:j < m.length){ps:rH}(hs:bW w m ps)(hw:w<=1000)(nV x5 x6:Option P):
  ∃y6,ai (callC Fs n) iE [Δ (.d (mD m)),nV,Δ (.obj bN.length),Δ (.d (.int (i:Int))),Δ (.d (.int (j:Int))),x5,x6] (bN++[bS ps])
   =.ok (.nx [Δ (.d (mD m)),nV,Δ (.obj bN.length),Δ (.d (.int (i:Int))),Δ (.d (.int (j:Int))),x5,y6]) (bN++[bS (p2 m i ps j)]):=by
 have r1:∀(s:Nat) (v:Nat) (rr:cb) (hs:s < m.length),(rr[0]?).join=Δ (.d (mD m))->(rr[v]?).join=Δ (.d (.int (s:Int)))->aa (callC Fs n) (.ix (.ix (.var 0) (.var v)) (.cst (.int 1))) rr (bN++[bS ps])=.ok (.d (wD (row m s).2)) (bN++[bS ps]):=λs v rr hs h1 h2=>by simp[h1,h2,mD,DS hs,gS]
 refine⟨Δ (.d (.pl (((row m i).2.zip (row m j).2).map λq=>D.tup [nD q.1,nD q.2]))),?_⟩;refine ag (bD (v:=.d (.pl (((row m i).2.zip (row m j).2).map λq=>D.tup [nD q.1,nD q.2]))) (st1:=bN++[bS ps]) ?_) ?_;·rw[cY,qP,r1 i 3 _ hi rfl rfl,ae,r1 j 4 _ hj rfl rfl,ae,Jl];simp[aaz]
 have lz:((row m i).2.zip (row m j).2).length<=au:=by rw[acR,ok.len _ (aW hi)];unfold au;lia
 have hc:be (callC Fs n) (.comp (.ex (.var 6)) 1 [2] Θ (.cmp .isin (.var 0) (.var 1))) (([Δ (.d (mD m)),nV,Δ (.obj bN.length),Δ (.d (.int (i:Int))),Δ (.d (.int (j:Int))),x5,x6]:cb).set 6 (Δ (.d (.pl (((row m i).2.zip (row m j).2).map λq=>D.tup [nD q.1,nD q.2]))))) (bN++[bS ps])
   =.ok (((row m i).2.zip (row m j).2).map λq=>.d (.bl (decide (q∈ps)))) (bN++[bS ps]):=
  dP (g:=λq:Nat×Nat=>P.d (D.tup [nD q.1,nD q.2])) (f:=λq=>.bl (decide (q∈ps))) (by simp[aaz]) lz λq _=>by have:=LY (Jm bN (bS ps)) q.1 q.2;simp[bO,this]
 have ha:aa (callC Fs n) (.bf .any [.lst Ξ (.comp (.ex (.var 6)) 1 [2] Θ (.cmp .isin (.var 0) (.var 1)))]) (([Δ (.d (mD m)),nV,Δ (.obj bN.length),Δ (.d (.int (i:Int))),Δ (.d (.int (j:Int))),x5,x6]:cb).set 6 (Δ (.d (.pl (((row m i).2.zip (row m j).2).map λq=>D.tup [nD q.1,nD q.2]))))) (bN++[bS ps])
   =.ok (.d (.bl (hit m ps i j))) (bN++[bS ps]):=by
  rw[cL,aw,cY,hc];simp[LK,hit,aaz]
 unfold p2;rcases acO (hit m ps i j) with h|h;·rw[if_pos h];rw[h] at ha;refine ag (lK (st1:=bN++[bS ps]) ha (ag (pZ (v:=.d (.bl Λ)) (x:=.obj bN.length) (k:=.d (.tup [nD i,nD j])) (st1:=bN++[bS ps]) (st2:=bN++[bS ps]) (st3:=bN++[bS ps]) (by simp) (by simp) (by simp[nD,au]) ?_) az)) az;rw[B0 (Jm bN _) (Jx ok hn hs),Jn]
 ·rw[if_neg (by simp[h])];rw[h] at ha;exact ag (iN (st1:=bN++[bS ps]) ha az) az
theorem Mf{i:Nat}(hi:i < m.length){ps:rH}(hs:bW w m ps)(x4 x5 x6:Option P):
  ∃y4,ai (callC Fs n) iD [Δ (.d (mD m)),Δ (.d (.int (m.length:Nat))),Δ (.obj bN.length),Δ (.d (.int (i:Int))),x4,x5,x6] (bN++[bS ps])
   =.ok (.nx [Δ (.d (mD m)),Δ (.d (.int (m.length:Nat))),Δ (.obj bN.length),Δ (.d (.int (i:Int))),y4,x5,x6]) (bN++[bS ((Zq m.length).foldl (p1 m i) ps)]):=by
 refine aB (λr' e qv j'=>?_) (kB (g:=jb (.nm 4)) (b:=ai (callC Fs n) iC) (enc:=λk:Nat=>P.d (.int (k:Int))) (f:=p1 m i) (S:=λps=>bN++[bS ps]) (I:=λr=>∃y4,r=[Δ (.d (mD m)),Δ (.d (.int (m.length:Nat))),Δ (.obj bN.length),Δ (.d (.int (i:Int))),y4,x5,x6]) (J:=bW w m) (xs:=Zq m.length)
  (λj hj s r js gy=>by obtain⟨y4,er⟩:=gy;subst er;exact⟨_,_,rfl,Md ok hn n bN hi (by simpa using hj) js _ x5 x6,⟨_,rfl⟩,Ji js hi (by simpa using hj)⟩) hs ⟨x4,rfl⟩)
 obtain⟨y4,i'⟩:=qv;subst i';exact⟨y4,ag (e8 (cM (by simp) (by lia)) e) az⟩
theorem Mg{i:Nat}(hi:i < m.length){ps:rH}(hs:bW w m ps)(hw:w<=1000)(x4 x5 x6:Option P):
  ∃y4 y6,ai (callC Fs n) iF [Δ (.d (mD m)),Δ (.d (.int (m.length:Nat))),Δ (.obj bN.length),Δ (.d (.int (i:Int))),x4,x5,x6] (bN++[bS ps])
   =.ok (.nx [Δ (.d (mD m)),Δ (.d (.int (m.length:Nat))),Δ (.obj bN.length),Δ (.d (.int (i:Int))),y4,x5,y6]) (bN++[bS ((Zq m.length).foldl (p2 m i) ps)]):=by
 refine aB (λr' e CN j'=>?_) (kB (g:=jb (.nm 4)) (b:=ai (callC Fs n) iE) (enc:=λk:Nat=>P.d (.int (k:Int))) (f:=p2 m i) (S:=λps=>bN++[bS ps]) (I:=λr=>∃y4 y6,r=[Δ (.d (mD m)),Δ (.d (.int (m.length:Nat))),Δ (.obj bN.length),Δ (.d (.int (i:Int))),y4,x5,y6]) (J:=bW w m) (xs:=Zq m.length)
  (λj hj s r js tm=>by obtain⟨y4,y6,er⟩:=tm;subst er;obtain⟨z6,ez⟩:=Me ok hn n bN hi (j:=j) (by simpa using hj) js hw (Δ (.d (.int (m.length:Nat)))) x5 y6;exact⟨_,_,rfl,ez,⟨_,_,rfl⟩,EV ok js hi (by simpa using hj)⟩) hs ⟨x4,x6,rfl⟩)
 obtain⟨y4,y6,i'⟩:=CN;subst i';exact⟨y4,y6,ag (e8 (cM (by simp) (by lia)) e) az⟩
theorem Mh{ps:rH}(hs:bW w m ps)(hw:w<=1000)(x3 x4 x5 x6:Option P):
  ∃y3 y4 y6,ai (callC Fs n) iG [Δ (.d (mD m)),Δ (.d (.int (m.length:Nat))),Δ (.obj bN.length),x3,x4,x5,x6] (bN++[bS ps])
   =.ok (.nx [Δ (.d (mD m)),Δ (.d (.int (m.length:Nat))),Δ (.obj bN.length),y3,y4,x5,y6]) (bN++[bS (lM (p2 m) m.length ps)]):=by
 refine aB (λr' e N5 j'=>?_) (kB (g:=jb (.nm 3)) (b:=ai (callC Fs n) iF) (enc:=λk:Nat=>P.d (.int (k:Int))) (f:=λps i=>(Zq m.length).foldl (p2 m i) ps) (S:=λps=>bN++[bS ps]) (I:=λr=>∃y3 y4 y6,r=[Δ (.d (mD m)),Δ (.d (.int (m.length:Nat))),Δ (.obj bN.length),y3,y4,x5,y6]) (J:=bW w m) (xs:=Zq m.length)
  (λi hi s r js Ku=>by
   obtain⟨y3,y4,y6,er⟩:=Ku;have yj:i < m.length:=by simpa using hi
   subst er;obtain⟨z4,z6,ez⟩:=Mg ok hn n bN yj js hw y4 x5 y6;exact⟨_,_,rfl,ez,⟨_,_,_,rfl⟩,dE js λs j hj hs=>EV ok hs yj (by simpa using hj)⟩) hs ⟨x3,x4,x6,rfl⟩)
 obtain⟨y3,y4,y6,i'⟩:=N5;subst i';exact⟨y3,y4,y6,ag (e8 (cM (by simp) (by lia)) e) az⟩
theorem Co(hw:w<=1000):callC Fs (n+1) 17 [.d (mD m)] bN=.ok (.obj bN.length) (bN++[bS (cZ m)]):=by
 have s0:bW w m []:=⟨by simp,(λ_ h=>nomatch h),(λ_ h=>nomatch h)⟩;refine Ac wK rfl rfl ?_;refine ag (bD (v:=.d (.int (m.length:Nat))) (st1:=bN) (by simp[aA,ff,mD])) ?_;refine ag (bD (v:=.obj bN.length) (st1:=bN++[bS []]) (by simp[bS])) ?_;refine aB (λr1 e1 Fb j1=>?_) (kB (g:=jb (.nm 3)) (b:=ai (callC Fs n) iD) (enc:=λk:Nat=>P.d (.int (k:Int))) (f:=λps i=>(Zq m.length).foldl (p1 m i) ps) (S:=λps=>bN++[bS ps]) (I:=λr=>∃y3 y4,r=[Δ (.d (mD m)),Δ (.d (.int (m.length:Nat))),Δ (.obj bN.length),y3,y4,Θ,Θ]) (J:=bW w m) (xs:=Zq m.length)
  (λi hi s r js N2=>by
   obtain⟨y3,y4,er⟩:=N2;have yj:i < m.length:=by simpa using hi
   subst er;obtain⟨z4,ez⟩:=Mf ok hn n bN yj js y4 Θ Θ;exact⟨_,_,rfl,ez,⟨_,_,rfl⟩,dE js λs j hj hs=>Ji hs yj (by simpa using hj)⟩) (s:=[]) s0 ⟨Θ,Θ,rfl⟩)
 obtain⟨y3,y4,i1⟩:=Fb;subst i1;refine ag (e8 (cM (j:=m.length) (by simp[aA,ff]) (by lia)) e1) ?_;refine cps λgG kG=>?_;refine aB (λr2 e2 Q1 j2=>?_) (kB (g:=jb (.nm 5)) (b:=ai (callC Fs n) iG) (enc:=λk:Nat=>P.d (.int (k:Int))) (f:=λps _=>lM (p2 m) m.length ps) (S:=λps=>bN++[bS ps]) (I:=λr=>∃y3 y4 y5 y6,r=[Δ (.d (mD m)),Δ (.d (.int (m.length:Nat))),Δ (.obj bN.length),y3,y4,y5,y6]) (J:=bW w m) (xs:=Zq m.length)
  (λi hi s r js RT=>by obtain⟨y3,y4,y5,y6,er⟩:=RT;subst er;obtain⟨z3,z4,z6,ez⟩:=Mh ok hn n bN js hw y3 y4 (Δ (.d (.int (i:Int)))) y6;exact⟨_,_,rfl,ez,⟨_,_,_,_,rfl⟩,v8 (J:=bW w m) (λps i j hi hj h=>EV ok h hi hj) js⟩) (s:=lM (p1 m) m.length []) j1 ⟨y3,y4,Θ,Θ,rfl⟩)
 obtain⟨z3,z4,z5,z6,i2⟩:=Q1;refine kG ?_;subst i2;refine ag (e8 (cM (j:=m.length) (by simp) (by lia)) e2) ?_;exact aK (cB (by simp[cZ]))
end
section
variable{w:Nat}{m:dw}(ok:eY w m)(hn:m.length<=4000)(n:Nat)
abbrev gK(o:List Nat):aM:=[.lst (o.map λk=>P.d (nD k))]
theorem rT(hl:∀s∈([]:List Nat),True)mV wV kV x5:∀(ss o) (x4),o.length+ss.length<=100000000->o.length+ss.length < au->
  ∃y4,forL (jb (.nm 4)) (ai (callC Fs n) dI) ((ss.map nD).map .d) [mV,wV,Δ (.obj 0),kV,x4,x5] (gK o)=.ok (.nx [mV,wV,Δ (.obj 0),kV,y4,x5]) (gK (jF o ss))
 |[],o,x4,_,_=>⟨x4,rfl⟩|s::ss,o,x4,hb,yn=>by
  have e1:=LX (o:=o) (s:=s) (st:=gK o) (k:=0) rfl;rw[ZH,ZH,forL,jb,ay,ae];simp only[acx];by_cases h:s∈o
  ·obtain⟨y4,ih⟩:=rT hl mV wV kV x5 ss o (Δ (.d (nD s))) (by simp at hb ⊢;lia) (by simp at yn ⊢;lia);refine⟨y4,?_⟩;have e:ai (callC Fs n) dI [mV,wV,Δ (.obj 0),kV,Δ (.d (nD s)),x5] (gK o)=.ok (.nx [mV,wV,Δ (.obj 0),kV,Δ (.d (nD s)),x5]) (gK o):=
    ag (iN (st1:=gK o) (by simp[e1,h]) az) az
   rw[e,ae];have eo:jF o (s::ss)=jF o ss:=by unfold jF;rw[abH,if_pos h]
   rw[eo];exact ih
  ·obtain⟨y4,ih⟩:=rT hl mV wV kV x5 ss (o++[s]) (Δ (.d (nD s))) (by simp at hb ⊢;lia) (by simp at yn ⊢;lia);refine⟨y4,?_⟩;have e:ai (callC Fs n) dI [mV,wV,Δ (.obj 0),kV,Δ (.d (nD s)),x5] (gK o)=.ok (.nx [mV,wV,Δ (.obj 0),kV,Δ (.d (nD s)),x5]) (gK (o++[s])):=by
    refine ag (lK (st1:=gK o) (by simp[e1,h]) (ag (pY (x:=.obj 0) (v:=.d (nD s)) (its:=o.map λk=>P.d (nD k)) (st1:=gK o) (st2:=gK o) (by simp) rfl (by simp) ?_) az)) az;have:o.length < au:=by simp at yn;lia
    simp[zL,gK,this]
   rw[e,ae];have eo:jF o (s::ss)=jF (o++[s]) ss:=by unfold jF;rw[abH,if_neg h]
   rw[eo];exact ih
include ok hn
theorem Jy{o ss:List Nat}(ho:∀s∈o,s < m.length)(wj:∀s∈ss,s < m.length)(hd:o.Nodup):(∀s∈jF o ss,s < m.length)/\(jF o ss).Nodup:=by
 unfold jF;refine dE (J:=λo=>(∀s∈o,s < m.length)/\o.Nodup) ⟨ho,hd⟩ λo s hs gy=>?_;obtain⟨h1,h2⟩:=gy;split;·exact⟨h1,h2⟩
 ·rename_i h;refine⟨λt ht=>?_,?_⟩
  ·rcases acQ.mp ht with z|z;·exact h1 t z
   ·rw[aaJ] at z;rw[z];exact wj s hs
  ·rw[aar];exact⟨h2,by simp,λa ha b hb=>by simp at hb;subst hb;exact λz=>h (z▸ha)⟩
theorem Mi{o:List Nat}(ho:∀s∈o,s < m.length)(hd:o.Nodup):o.length<=m.length:=by
 have:=fX hd (xs:=Zq m.length) λs hs=>by simpa using ho s hs
 simpa using this
theorem zh(hw:w<=1000)(wV x5:Option P):∀(ks o:List Nat) (x3 x4:Option P),(∀s∈o,s < m.length)->o.Nodup->
  match xx m ks o with|some o'=>(∀s∈o',s < m.length)/\o'.Nodup/\∃y3 y4,forL (jb (.nm 3)) (ai (callC Fs n) bM) (ks.map λk:Nat=>.d (.int (k:Int))) [Δ (.d (mD m)),wV,Δ (.obj 0),x3,x4,x5] (gK o)=.ok (.nx [Δ (.d (mD m)),wV,Δ (.obj 0),y3,y4,x5]) (gK o')|none=>∃aO,forL (jb (.nm 3)) (ai (callC Fs n) bM) (ks.map λk:Nat=>.d (.int (k:Int))) [Δ (.d (mD m)),wV,Δ (.obj 0),x3,x4,x5] (gK o)=.ok (.rt (.d (.bl Ξ))) aO
 |[],o,x3,x4,ho,hd=>⟨ho,hd,x3,x4,rfl⟩|k::ks,o,x3,x4,ho,hd=>by
  have ol:=Mi ok hn ho hd;have el:ur .len [.obj 0] (gK o)=Δ (.d (.int (o.length:Nat))):=by rw[i0 (st:=gK o) (n:=0) rfl,ZA]
  simp only[xx];by_cases h:o.length<=k
  ·rw[if_pos h];refine⟨gK o,?_⟩;have e:ai (callC Fs n) bM [Δ (.d (mD m)),wV,Δ (.obj 0),Δ (.d (.int (k:Int))),x4,x5] (gK o)=.ok (.rt (.d (.bl Ξ))) (gK o):=
    aK (lK (st1:=gK o) (by simp[el];lia) (aK (cB (by simp))))
   rw[ZH,forL,jb,ay,ae];simp only[acx];rw[e,ae]
  ·rw[if_neg h];have hk:o[k]?=Δ (o.getD k 0):=by rw[Zz,Zu (by lia)];rfl
   have hs:o.getD k 0 < m.length:=ho _ (ZG hk);have hr:=aW hs;have hlen:=ok.len _ hr;obtain⟨y4,e1⟩:=rT n (λ_ _=>trivial) (Δ (.d (mD m))) wV (Δ (.d (.int (k:Int)))) x5 (row m (o.getD k 0)).2 o x4 (by lia) (by unfold au;lia);have eix:CJ (.obj 0) (.d (.int (k:Int))) (gK o)=Δ (.d (nD (o.getD k 0))):=by have:bJ (gK o) (.obj 0)=Θ:=lg rfl;unfold CJ;rw[this];dsimp only[XS];show(fz (gK o) (.obj 0)).bind _=_;have e2:fz (gK o) (.obj 0)=Δ (o.map λk=>P.d (nD k)):=rfl;rw[e2,aax];exact eD (by rw[ZD,hk];rfl)
   have e:ai (callC Fs n) bM [Δ (.d (mD m)),wV,Δ (.obj 0),Δ (.d (.int (k:Int))),x4,x5] (gK o)=.ok (.nx [Δ (.d (mD m)),wV,Δ (.obj 0),Δ (.d (.int (k:Int))),y4,x5]) (gK (jF o (row m (o.getD k 0)).2)):=by refine ag (iN (st1:=gK o) (by simp[el];lia) az) ?_;refine ag (e8 (ps:=((row m (o.getD k 0)).2.map nD).map .d) (st1:=gK o) ?_ e1) az;rw[Bk];simp only[bA,ba,fF,ZJ,ZK,Z4,ay,ae,eix,nD];rw[mD,YL,DS hs];simp[gS,wD,nD]
   have a:=Jy ok hn (o:=o) (ss:=(row m (o.getD k 0)).2) ho (λs h=>ok.lt _ hr s h) hd;have ih:=zh hw wV x5 ks (jF o (row m (o.getD k 0)).2) (Δ (.d (.int (k:Int)))) y4 a.1 a.2;have step:forL (jb (.nm 3)) (ai (callC Fs n) bM) ((k::ks).map λk:Nat=>.d (.int (k:Int))) [Δ (.d (mD m)),wV,Δ (.obj 0),x3,x4,x5] (gK o)
     =forL (jb (.nm 3)) (ai (callC Fs n) bM) (ks.map λk:Nat=>.d (.int (k:Int))) [Δ (.d (mD m)),wV,Δ (.obj 0),Δ (.d (.int (k:Int))),y4,x5] (gK (jF o (row m (o.getD k 0)).2)):=by
    rw[ZH,forL,jb,ay,ae];simp only[acx];rw[e,ae]
   rw[step];exact ih
end
theorem Qi n{w:Nat}(hn:m.length<=4000)o y3 y4:aa (callC Fs (n+2)) (.lst Ξ (.iQ [.bf .len [.var 0]])) [Δ (.d (mD m)),Δ (.d (.int (w:Int))),Δ (.obj 0),y3,y4,Θ] (gK o)=.ok (.d (.pl ((Zq m.length).map nD))) (gK o):=by
 have e2:tF [.d (.int (m.length:Nat))]=Δ ((Zq m.length).map λk:Nat=>.d (.int (k:Int))):=TY (by lia);have e1:aE (callC Fs (n+2)) [.bf .len [.var 0]] [Δ (.d (mD m)),Δ (.d (.int (w:Int))),Δ (.obj 0),y3,y4,Θ] (gK o)=.ok [.d (.int (m.length:Nat))] (gK o):=by simp[mD]
 have hl:((Zq m.length).map λk:Nat=>(P.d (.int (k:Int)))).length<=au:=by rw[ZA,aad];unfold au;lia
 rw[cY,yw,e1,ae,e2,ay,ae,if_pos hl,ae];have:bC ((Zq m.length).map λk:Nat=>(P.d (.int (k:Int))))=Δ ((Zq m.length).map nD):=fI nD _;rw[this];rfl
theorem Qj{m:dw}o:kr .ne (.obj 0) (.d (.pl ((Zq m.length).map nD))) (gK o)=Δ (!decide (o=Zq m.length)):=by
 have f1:kY (gK o) (.obj 0)=Δ (.pl (o.map nD)):=by simp[kY,gK]
 show(kY (gK o) (.obj 0)).bind _=_;rw[f1,aax];show(Δ (D.pl ((Zq m.length).map nD))).bind _=_;rw[aax];have:tD (.pl (o.map nD)) (.pl ((Zq m.length).map nD))=Δ (decide (o=Zq m.length)):=by unfold tD;rw[if_pos (aap (acP ..) (by show lI (o.map nD)+1<=100;rw[Jj];decide))];exact congrArg Δ EW
 rw[this];rfl
open Classical in
theorem Cp n(ok:eY w m)(hn:m.length<=4000)(hw:w<=1000)st:callC Fs (n+3) 18 [.d (mD m),.d (.int (w:Int))] st=.ok (.d (.bl (decide (my w m)))) st:=by
 have em:∀st,callC Fs (n+2) 16 [.d (mD m),.d (.int (w:Int))] st=.ok (.d (.bl Λ)) st:=λst=>by
  rw[D6 n (mD m) w (λxs e=>by
   injection e with e;refine⟨by rw[<-e,ZA];lia,λy hy ys e2 z hz zs e3=>?_⟩;rw[<-e,abk] at hy;obtain⟨s,hs,rfl⟩:=hy;injection e2 with e2;rw[<-e2] at hz;simp only[abM,abx,or_false] at hz;rcases hz with z1|z1;·rw[z1] at e3;cases e3
   ·rw[z1] at e3;injection e3 with e3;rw[<-e3,ZA,ok.len s hs];lia) st,Jh ok]
 have body:∃st1,ai (callC Fs (n+2)) fm.body (aA 6 [.d (mD m),.d (.int (w:Int))]) []=.ok (.rt (.d (.bl (decide (my w m))))) st1:=by
  have out:=zh ok hn (n+2) hw (Δ (.d (.int (w:Int)))) Θ (Zq m.length) [0] Θ Θ (by simpa using ok.ne) (by simp);cases ho:xx m (Zq m.length) [0] with
  |none=>
   rw[ho] at out;obtain⟨aO,e⟩:=out;have hf:decide (my w m)=Ξ:=decide_eq_false λL=>by have:=Al.mpr L.ord;rw[ho] at this;exact aQ this
   refine⟨aO,?_⟩;rw[hf];refine ag (iN (st1:=[]) (by simp[aA,em]) az) ?_;refine ag (bD (v:=.obj 0) (st1:=gK [0]) (by simp[au,nD])) ?_;exact aK (e8 (cM (j:=m.length) (by simp[mD,aA]) (by lia)) e)
  |some o=>
   rw[ho] at out;obtain⟨o1,o2,y3,y4,e⟩:=out;have er:=Qi n (w:=w) hn o y3 y4;have ec:=Qj (m:=m) o;by_cases hr:o=Zq m.length
   ·have sc:lL m 0 1=Δ m.length:=Al.mp (by rw[ho,hr]);have ep:callC Fs (n+2) 17 [.d (mD m)] (gK o)=.ok (.obj 1) (gK o++[bS (cZ m)]):=Co ok hn (n+1) (gK o) hw;have hd:decide (my w m)=decide (Red w m):=by rw[decide_eq_decide];exact⟨λL=>L.red,λR=>⟨ok,R,sc⟩⟩
    refine⟨gK o++[bS (cZ m)],?_⟩;rw[hd];refine ag (iN (st1:=[]) (by simp[aA,em]) az) ?_;refine ag (bD (v:=.obj 0) (st1:=gK [0]) (by simp[au,nD])) ?_;refine ag (e8 (cM (j:=m.length) (by simp[mD,aA]) (by lia)) e) ?_;refine ag (iN (st1:=gK o) (by rw[bV,show aa (callC Fs (n+2)) (.var 2) [Δ (.d (mD m)),Δ (.d (.int (w:Int))),Δ (.obj 0),y3,y4,Θ] (gK o)=.ok (.obj 0) (gK o) by simp,ae,er,ae,ec];simp[hr]) az) ?_;refine ag (bD (v:=.obj 1) (st1:=gK o++[bS (cZ m)]) (by simp only[jh,aw,aF,ba,ZJ,Z4,ay,ae,ep])) ?_;refine aK (cB ?_);have el:=P4 (st:=gK o++[bS (cZ m)]) (k:=1) (ps:=cZ m) rfl;have cm:mQ .mul (m.length:Int) (m.length:Int)=Δ ((m.length:Int)*(m.length:Int)):=fW (.inl (by unfold n4;lia));have lm:∀st,ur .len [.d (mD m)] st=Δ (.d (.int (m.length:Nat))):=λst=>by rw[mD,LF,ZA]
    generalize hR:([Δ (.d (mD m)),Δ (.d (.int (w:Int))),Δ (.obj 0),y3,y4,Θ]:cb).set 5 (Δ (.obj 1))=r5;generalize hS:gK o++[bS (cZ m)]=s5 at el;have r0:(r5[0]?).join=Δ (.d (mD m)):=by rw[<-hR];rfl
    have r1:(r5[5]?).join=Δ (.obj 1):=by rw[<-hR];rfl
    have h1:aa (callC Fs (n+2)) (.bf .len [.var 5]) r5 s5=.ok (.d (.int ((cZ m).length:Nat))) s5:=by rw[cL,aw,ba,r1,ay,ae,aF,ae,ae,el,ay]
    have h2:aa (callC Fs (n+2)) (.bf .len [.var 0]) r5 s5=.ok (.d (.int (m.length:Nat))) s5:=by rw[cL,aw,ba,r0,ay,ae,aF,ae,ae,lm,ay]
    have Y7:(((cZ m).length:Int)==(m.length:Int)*(m.length:Int) - (m.length:Int))=decide (Red w m):=by
     rw[ab1,beq_iff_eq,decide_eq_true_eq,<-DU ok];have:((m.length*m.length:Nat):Int)=(m.length:Int)*(m.length:Int):=by simp
     lia
    rw[bV,h1,ae,mi,mi,h2,ae,h2,ae,IZ,cm,aag,ay,ae,h2,ae,IZ,EN,aag,ay,ae,PV,Ad,Y7,ay,ae]
   ·have hf:decide (my w m)=Ξ:=decide_eq_false λL=>by have:=Al.mpr L.ord;rw[ho] at this;injection this with this;exact hr this
    refine⟨gK o,?_⟩;rw[hf];refine ag (iN (st1:=[]) (by simp[aA,em]) az) ?_;refine ag (bD (v:=.obj 0) (st1:=gK [0]) (by simp[au,nD])) ?_;refine ag (e8 (cM (j:=m.length) (by simp[mD,aA]) (by lia)) e) ?_;exact aK (lK (st1:=gK o) (by rw[bV,show aa (callC Fs (n+2)) (.var 2) [Δ (.d (mD m)),Δ (.d (.int (w:Int))),Δ (.obj 0),y3,y4,Θ] (gK o)=.ok (.obj 0) (gK o) by simp,ae,er,ae,ec];simp[hr]) (aK (cB (by simp))))
 obtain⟨st1,e⟩:=body;exact call_of rN rfl (cA rfl e rfl)
def tU(w:Nat):Nat:=[0,8,5,4].getD w 0
theorem Mj w:tU w<=8:=by
 match w with|0=>decide|1=>decide|2=>decide|3=>decide|w+4=>simp[tU]
theorem mL(hw:w<=3)(hk:k<=8):(fY w k).length<=6561:=by
 rw[y9]
 calc w ^ k<=3 ^ k:=Nat.pow_le_pow_left hw k
  _<=3 ^ 8:=Nat.pow_le_pow_right (by decide) hk
  _=6561:=by decide
theorem nO(hw:w<=3):∀{k},k<=8->(cj w k).length<=(k+1)*6561
 |0,_=>by simp[cj,fY]|k+1,hk=>by
  have ih:=nO hw (k:=k) (by lia);have e:cj w (k+1)=cj w k++fY w (k+1):=by unfold cj;rw[aaN (n:=k+1),aa1];simp
  rw[e,ZW];have:=mL hw hk
  lia
theorem Qk{w:Nat}(hw:w<=3):qD [D.int 0,.int 8,.int 5,.int 4] (w:Int)=Δ (.int (tU w:Nat)):=by
 rcases(by lia:w=0\/w=1\/w=2\/w=3) with h|h|h|h<;>subst h;·exact eD (k:=0) rfl
 ·exact eD (k:=1) rfl
 ·exact eD (k:=2) rfl
 ·exact eD (k:=3) rfl
theorem Cq n{w:Nat}(hw:w<=3)st:callC Fs (n+1) 12 [.d (.int (w:Int))] st=.ok (.d (.pl ((cj w (tU w)).map wD))) st:=by
 let r0 (F R:List (List Nat)) (y3 y4 y5:Option P):cb:=[Δ (.d (.int (w:Int))),Δ (.d (.pl (F.map wD))),Δ (.d (.pl (R.map wD))),y3,y4,y5]
 have top8:=Mj w;have fl:∀(l:List (List Nat)),(l.flatMap λu=>(Zq w).map λa=>u++[a]).length=l.length*w:=λl=>by induction l with|nil=>simp|cons u l ih=>rw[acv,ZW,ih];simp[acE,aeP]
 have Y8:∀(F R:List (List Nat)) (y3 y5:Option P),R.length<=6561->(∀u∈R,u.length<=100)->∃Qd,forL (jb (.nm 5)) (ai (callC Fs n) jx) ((R.map wD).map .d) (r0 F R y3 (Δ (.d (.pl []))) y5) []=.ok (.nx (r0 F R y3 (Δ (.d (.pl ((R.flatMap λu=>(Zq w).map λa=>u++[a]).map wD)))) Qd)) []:=by
  intro F R y3 y5 hR hu;refine ah (λr' s' e qv z2=>?_) (ij (g:=jb (.nm 5)) (b:=ai (callC Fs n) jx) (ps:=(R.map wD).map .d) (k:=0) (r:=r0 F R y3 (Δ (.d (.pl []))) y5) (st:=[])
   (I:=λk r s=>(∃y5,r=r0 F R y3 (Δ (.d (.pl (((R.take k).flatMap λu=>(Zq w).map λa=>u++[a]).map wD)))) y5)/\s=[])
   (λi p r s gy hp=>by
    obtain⟨⟨y5,h1⟩,h2⟩:=gy;rw[aao] at h1 ⊢;subst h1 h2;rw[ab7,ZD] at hp;cases Ml:R[i]? with
    |none=>rw[Ml] at hp;exact aQ hp|some u=>
     rw[Ml] at hp;obtain rfl:=sj hp;obtain⟨Vv,_⟩:=List.getElem?_eq_some_iff.mp Ml;have hul:=hu u (ZG Ml);have Ma:R.take (i+1)=R.take i++[u]:=by rw[aa4,Ml];rfl
     refine⟨_,r0 F R y3 (Δ (.d (.pl (((R.take (i+1)).flatMap λu=>(Zq w).map λa=>u++[a]).map wD)))) (Δ (.d (wD u))),[],rfl,?_,⟨_,rfl⟩,rfl⟩;refine ag (bD (v:=.d (.pl (((R.take (i+1)).flatMap λu=>(Zq w).map λa=>u++[a]).map wD))) (st1:=[]) ?_) az;have eL:be (callC Fs n) (.comp (.iQ [.var 0]) 1 [5] Θ (.op .add (.var 1) (.tup [.var 0]))) (r0 F R y3 (Δ (.d (.pl (((R.take i).flatMap λu=>(Zq w).map λa=>u++[a]).map wD)))) (Δ (.d (wD u)))) []=.ok ((Zq w).map λa=>P.d (wD (u++[a]))) []:=by
      refine dP (g:=λk:Nat=>P.d (.int (k:Int))) (f:=λa=>wD (u++[a])) (cM (by simp[r0]) (by lia)) (by rw[aad];unfold au;lia) λa ha=>?_;show aa _ (.op .add (.var 1) (.tup [.var 0])) [Δ (.d (.int (a:Int))),Δ (.d (wD u))] []=_;have h3:u.length<=16777215:=by lia
      simp[wD,nD,au,h3]
     show aa _ (.op .add (.var 4) (.lst Ξ _)) (r0 F R y3 _ (Δ (.d (wD u)))) []=_;have e4:aa (callC Fs n) (.var 4) (r0 F R y3 (Δ (.d (.pl (((R.take i).flatMap λu=>(Zq w).map λa=>u++[a]).map wD)))) (Δ (.d (wD u)))) []=.ok (.d (.pl (((R.take i).flatMap λu=>(Zq w).map λa=>u++[a]).map wD))) []:=by simp[r0]
     rw[mi,e4,ae,cY,eL,ae,fI];have h4:((R.take i).flatMap λu=>(Zq w).map λa=>u++[a]).length+w<=au:=by
      rw[fl,abQ];have:min i R.length*w<=6561*3:=aeu (by lia) hw;unfold au
      lia
     simp only[ba,r0,ZJ,ZK,Z4,ay,ae,M4,ZA,aad];rw[if_pos h4,Ma,aa1];simp[aaz]) ⟨⟨y5,by simp⟩,rfl⟩)
  obtain⟨Qd,z1⟩:=qv;subst z1 z2;rw[ZA,ZA,aao,aaY (ZC _)] at e;exact⟨Qd,e⟩
 refine ah (λr' s' e CN z2=>?_) (ij (g:=jb (.nm 3)) (b:=ai (callC Fs n) mH) (ps:=(Zq (tU w)).map λk:Nat=>P.d (.int (k:Int))) (k:=0) (r:=r0 [[]] [[]] Θ Θ Θ) (st:=[])
  (I:=λk r s=>(∃y3 y4 y5,r=r0 (cj w k) (fY w k) y3 y4 y5)/\s=[])
  (λi p r s tm hp=>by
   obtain⟨⟨y3,y4,y5,h1⟩,h2⟩:=tm;rw[aao] at h1 ⊢;subst h1 h2;have hi:i < tU w:=by
    rw[ZD] at hp;by_cases z:i < tU w;·exact z
    ·rw[aac (by simpa using z)] at hp;exact aQ hp
   rw[ZD,abm hi] at hp;obtain rfl:=sj hp;have e1:cj w (i+1)=cj w i++fY w (i+1):=by unfold cj;rw[aaN (n:=i+1),aa1];simp
   obtain⟨Qd,el⟩:=Y8 (cj w i) (fY w i) (Δ (.d (.int (i:Int)))) y5 (mL hw (by lia)) (λu hu=>by rw[(nc.mp hu).2];lia);refine⟨_,r0 (cj w (i+1)) (fY w (i+1)) (Δ (.d (.int (i:Int)))) (Δ (.d (.pl ((fY w (i+1)).map wD)))) Qd,[],rfl,?_,⟨_,_,_,rfl⟩,rfl⟩;refine ag (bD (v:=.d (.pl [])) (st1:=[]) (by simp)) ?_;refine ag (e8 (ps:=((fY w i).map wD).map .d) (st1:=[]) (by simp[r0]) el) ?_;refine ag (bD (v:=.d (.pl ((fY w (i+1)).map wD))) (st1:=[]) (by simp[r0,fY])) ?_;refine ag (bD (v:=.d (.pl ((cj w (i+1)).map wD))) (st1:=[]) ?_) az;have l1:=mL (k:=i+1) hw (by lia);have l2:=nO (k:=i) hw (by lia);have l3:(cj w i).length+(fY w (i+1)).length<=au:=by have:(i+1)*6561<=8*6561:=adx _ (by lia);unfold au;lia
   simp only[mi,ba,r0,acx,ZJ,ZK,Z4,ay,ae,M4,ZA];rw[if_pos l3,e1,aan];rfl) ⟨⟨Θ,Θ,Θ,rfl⟩,rfl⟩)
 obtain⟨y3,y4,y5,z1⟩:=CN;subst z1 z2;rw[ZA,aad,aao] at e;refine call_of xF rfl (cA (p:=.d (.pl ((cj w (tU w)).map wD))) (st:=[]) rfl ?_ rfl);refine ag (bD (v:=.d (.pl [wD []])) (st1:=[]) (by simp[aA,eJ,au,wD])) ?_;refine ag (bD (v:=.d (.pl [wD []])) (st1:=[]) (by simp[aA,eJ,au,wD])) ?_;refine ag (e8 (ps:=(Zq (tU w)).map λk:Nat=>P.d (.int (k:Int))) (st1:=[]) (cM ?_ (by lia)) e) ?_;·have:=Qk hw;simp[aA,eJ,au,this]
 ·exact aK (cB (by simp[r0]))
section
variable{w:Nat}{m m':dw}(ok:eY w m)(iB:eY w m')(hw:w<=1000)
include ok iB
theorem uH{C:Nat->List P->aM->R P}{r:cb}{st:aM}{M:dw}{iM s:Nat}{k:Int}{p:Nat×Nat}(h:s < M.length)(e0:(r[0]?).join=Δ (.d (pD p)))(eM:(r[iM]?).join=Δ (.d (mD M)))(ek:k=0/\s=p.1\/k=1/\s=p.2):
  aa C (.ix (.var iM) (.ix (.var 0) (.cst (.int k)))) r st=.ok (.d (gS (row M s))) st:=by
 rcases ek with ⟨rfl,rfl⟩|⟨rfl,rfl⟩<;>simp[e0,eM,pD,nD,mD,DS h]
include hw
theorem Cr(n:Nat){p:Nat×Nat}(hp:p∈wF m m')(st:aM):callC Fs (n+1) 27 [.d (pD p),.d (mD m),.d (mD m')] st=.ok (.d (.pl ((fK m m' p).map pD))) st:=by
 obtain⟨h1,h2⟩:=ir.mp hp;refine call_of oH rfl (cA (p:=.d (.pl ((fK m m' p).map pD))) (st:=[]) rfl (aK (cB ?_)) rfl);have e1:aa (callC Fs n) (.ix (.ix (.var 1) (.ix (.var 0) (.cst (.int 0)))) (.cst (.int 1))) (aA 3 [.d (pD p),.d (mD m),.d (mD m')]) []=.ok (.d (wD (row m p.1).2)) []:=by rw[bA,uH ok iB h1 rfl rfl (.inl ⟨rfl,rfl⟩)];simp[gS]
 have e2:aa (callC Fs n) (.ix (.ix (.var 2) (.ix (.var 0) (.cst (.int 1)))) (.cst (.int 1))) (aA 3 [.d (pD p),.d (mD m),.d (mD m')]) []=.ok (.d (wD (row m' p.2).2)) []:=by rw[bA,uH ok iB h2 rfl rfl (.inr ⟨rfl,rfl⟩)];simp[gS]
 show aa (callC Fs n) _ (aA 3 _) []=_;rw[cY,qP,e1,ae,e2,ae,Jl];simp[aaz,fK];intro a b _;rfl
theorem D7(n:Nat){p:Nat×Nat}(hp:p∈wF m m'){kF:Nat}{f:Nat->Nat->Nat}(hf:∀(n x y:Nat),x<=1->y<=1->∀st,callC Fs (n+1) kF [.d (nD x),.d (nD y)] st=.ok (.d (nD (f x y))) st)(st:aM):
  callC Fs (n+2) 28 [.d (pD p),.fn kF [],.d (mD m),.d (mD m')] st=.ok (.d (nD (wC f m m' p))) st:=by
 obtain⟨h1,h2⟩:=ir.mp hp;refine call_of qf rfl (cA (p:=.d (nD (wC f m m' p))) (st:=[]) rfl (aK (cB ?_)) rfl);have e1:aa (callC Fs (n+1)) (.ix (.ix (.var 2) (.ix (.var 0) (.cst (.int 0)))) (.cst (.int 0))) (aA 4 [.d (pD p),.fn kF [],.d (mD m),.d (mD m')]) []=.ok (.d (nD (gd m p.1))) []:=by rw[bA,uH ok iB h1 rfl rfl (.inl ⟨rfl,rfl⟩)];simp[gS,gd]
 have e2:aa (callC Fs (n+1)) (.ix (.ix (.var 3) (.ix (.var 0) (.cst (.int 1)))) (.cst (.int 0))) (aA 4 [.d (pD p),.fn kF [],.d (mD m),.d (mD m')]) []=.ok (.d (nD (gd m' p.2))) []:=by rw[bA,uH ok iB h2 rfl rfl (.inr ⟨rfl,rfl⟩)];simp[gS,gd]
 show aa (callC Fs (n+1)) _ (aA 4 _) []=_;rw[vX,show((aA 4 [.d (pD p),.fn kF [],.d (mD m),.d (mD m')])[1]?).join=Δ (P.fn kF []) from rfl,ay,ae];simp only[aw,aF,e1,e2,ae];show callC Fs (n+1) kF [.d (nD (gd m p.1)),.d (nD (gd m' p.2))] []=_;exact hf n _ _ (ok.good _ (aW h1)) (iB.good _ (aW h2)) []
theorem Cs(n:Nat){kF:Nat}{f:Nat->Nat->Nat}(hl:m.length*m'.length<=100000)(hb:∀x y,x<=1->y<=1->f x y<=1)(hf:∀(n x y:Nat),x<=1->y<=1->∀st,callC Fs (n+1) kF [.d (nD x),.d (nD y)] st=.ok (.d (nD (f x y))) st)(st:aM):
  callC Fs (n+7) 4 [.d (mD m),.d (mD m'),.fn kF []] st=.ok (.d (mD (cX w (fL f m m')))) st:=by
 obtain⟨pk,pl,_⟩:=qb ok iB hb (by lia);refine call_of Gq rfl (cA (p:=.d (mD (cX w (fL f m m')))) (st:=[]) rfl ?_ rfl);refine ag (DR _ _) (ag (DR _ _) (aK (cB ?_)));have e2:callC Fs (n+6) 2 [.d (pD (0,0)),.fn 27 [.d (mD m),.d (mD m')],.fn 28 [.fn kF [],.d (mD m),.d (mD m')]] []=.ok (.d (mD (gJ (fK m m') (wC f m m') (places (fK m m') 1000000 (0,0))))) []:=
  ze YW (n+5) (step:=fK m m') (good:=wC f m m') (S:=wF m m') (start:=(0,0)) (kS:=27) (kG:=28) (cS:=[.d (mD m),.d (mD m')]) (cG:=[.fn kF [],.d (mD m),.d (mD m')]) rfl rfl
   (ir.mpr ⟨ok.ne,iB.ne⟩) (zc ok iB) (by rw[wG];lia) (λp hp=>by rw[rM ok iB p hp];exact hw)
   (λp hp st=>Cr ok iB hw (n+4) hp st) (λp hp st=>D7 ok iB hw (n+3) hp hf st) []
 rw[<-zd] at e2;have e3:=wM pk (by lia) hw n [];have ei:aa (callC Fs (n+6)) (.eR 2 [.tup [.cst (.int 0),.cst (.int 0)],.var 3,.var 4] [(27,[0,1]),(28,[2,0,1])]) [Δ (.d (mD m)),Δ (.d (mD m')),Δ (.fn kF []),Δ (.lf 27),Δ (.lf 28)] []=.ok (.d (mD (fL f m m'))) []:=by
  rw[fG];have e0:aE (callC Fs (n+6)) [.tup [.cst (.int 0),.cst (.int 0)],.var 3,.var 4] [Δ (.d (mD m)),Δ (.d (mD m')),Δ (.fn kF []),Δ (.lf 27),Δ (.lf 28)] []=.ok [.d (pD (0,0)),.lf 27,.lf 28] []:=by simp[au,pD,nD]
  rw[e0,ae];rw[show aeY (conv [(27,[0,1]),(28,[2,0,1])] [Δ (.d (mD m)),Δ (.d (mD m')),Δ (.fn kF []),Δ (.lf 27),Δ (.lf 28)] 3) [P.d (pD (0,0)),P.lf 27,P.lf 28]
   =Δ [.d (pD (0,0)),.fn 27 [.d (mD m),.d (mD m')],.fn 28 [.fn kF [],.d (mD m),.d (mD m')]] from rfl]
  unfold jM;simp only[e2,ae]
 rw[fG];show(aE (callC Fs (n+6)) [.eR 2 _ _] [Δ (.d (mD m)),Δ (.d (mD m')),Δ (.fn kF []),Δ (.lf 27),Δ (.lf 28)] []).bind _=_;rw[aw,ei,ae,aF,ae,ae];show jM (callC Fs (n+6) 3) (Δ [.d (mD (fL f m m'))]) []=_;unfold jM;simp only[e3,ae]
end
def xH(x y:Nat):Nat:=if x=1/\y=1 then 1 else 0
def JV(x y:Nat):Nat:=if x=1\/y=1 then 1 else 0
def xI(x y:Nat):Nat:=if x=y then 0 else 1
theorem bits(h:x<=1):x=0\/x=1:=by lia
theorem Ql n x y(hx:x<=1)(hy:y<=1)st:callC Fs (n+1) 29 [.d (nD x),.d (nD y)] st=.ok (.d (nD (xH x y))) st:=by refine call_of tQ rfl (cA (p:=.d (nD (xH x y))) (st:=[]) rfl (aK (cB ?_)) rfl);rcases bits hx with h|h<;>rcases bits hy with h'|h'<;>subst h h'<;>simp[aA,gi,nD,xH,mQ,bit]
theorem Um n x y(hx:x<=1)(hy:y<=1)st:callC Fs (n+1) 30 [.d (nD x),.d (nD y)] st=.ok (.d (nD (JV x y))) st:=by refine call_of qg rfl (cA (p:=.d (nD (JV x y))) (st:=[]) rfl (aK (cB ?_)) rfl);rcases bits hx with h|h<;>rcases bits hy with h'|h'<;>subst h h'<;>simp[aA,eK,nD,JV,mQ,bit]
theorem Qm n x y(hx:x<=1)(hy:y<=1)st:callC Fs (n+1) 31 [.d (nD x),.d (nD y)] st=.ok (.d (nD (xI x y))) st:=by refine call_of rQ rfl (cA (p:=.d (nD (xI x y))) (st:=[]) rfl (aK (cB ?_)) rfl);rcases bits hx with h|h<;>rcases bits hy with h'|h'<;>subst h h'<;>simp[aA,fu,nD,xI,mQ,bit]
section
variable{w:Nat}{m m':dw}(ok:eY w m)(iB:eY w m')(hw:w<=1000)(hl:m.length*m'.length<=100000)
include ok iB hw hl
theorem wN(n:Nat){k kF:Nat}{f:Nat->Nat->Nat}(hk:∃F,Fs[k]?=Δ F/\F=({np:=2,nn:=2,body:=[.ret (.eR 4 [.var 0,.var 1,.lam kF] [(kF,[])])]}:Fn))(hb:∀x y,x<=1->y<=1->f x y<=1)(hf:∀(n x y:Nat),x<=1->y<=1->∀st,callC Fs (n+1) kF [.d (nD x),.d (nD y)] st=.ok (.d (nD (f x y))) st)(st:aM):
  callC Fs (n+8) k [.d (mD m),.d (mD m')] st=.ok (.d (mD (cX w (fL f m m')))) st:=by
 revert hk;refine dJ λF hk aH=>?_;subst aH;refine call_of hk rfl (cA (p:=.d (mD (cX w (fL f m m')))) (st:=[]) rfl (aK (cB ?_)) rfl);have e:=Cs ok iB hw n hl hb hf [];show aa (callC Fs (n+7)) _ [Δ (.d (mD m)),Δ (.d (mD m'))] []=_;rw[fG];have e0:aE (callC Fs (n+7)) [.var 0,.var 1,.lam kF] [Δ (.d (mD m)),Δ (.d (mD m'))] []=.ok [.d (mD m),.d (mD m'),.lf kF] []:=by simp
 rw[e0,ae];have e1:aeY (conv [(kF,[])] [Δ (.d (mD m)),Δ (.d (mD m'))] 3) [P.d (mD m),P.d (mD m'),P.lf kF]=Δ [.d (mD m),.d (mD m'),.fn kF []]:=by simp[aev,List.mapM_nil,conv,abc]
 rw[e1];unfold jM;simp only[e,ae]
theorem Gx(n:Nat)(st:aM):callC Fs (n+8) 5 [.d (mD m),.d (mD m')] st=.ok (.d (mD (cX w (fL xH m m')))) st:=
 wN ok iB hw hl n ⟨_,L9,rfl⟩ (λx y _ _=>by unfold xH;split<;>lia) Ql st
theorem Ct(n:Nat)(st:aM):callC Fs (n+8) 6 [.d (mD m),.d (mD m')] st=.ok (.d (mD (cX w (fL JV m m')))) st:=
 wN ok iB hw hl n ⟨_,Gr,rfl⟩ (λx y _ _=>by unfold JV;split<;>lia) Um st
theorem D8(n:Nat)(st:aM):callC Fs (n+8) 7 [.d (mD m),.d (mD m')] st=.ok (.d (mD (cX w (fL xI m m')))) st:=
 wN ok iB hw hl n ⟨_,Jv,rfl⟩ (λx y _ _=>by unfold xI;split<;>lia) Qm st
end
theorem Cu(ok:eY w m)(hm:m.length<=100000)(hw:w<=1000)n st:callC Fs (n+7) 8 [.d (mD m)] st=.ok (.d (mD (cX w (mF m)))) st:=by
 obtain⟨k,l,_⟩:=E2 ok;refine call_of xC rfl (cA (p:=.d (mD (cX w (mF m)))) (st:=[]) rfl (aK (cB ?_)) rfl);have e:=wM k (by lia) hw n [];have eL:be (callC Fs (n+6)) (.comp (.ex (.var 0)) 1 [] Θ (.tup [.op .sub (.cst (.int 1)) (.ix (.var 0) (.cst (.int 0))),.ix (.var 0) (.cst (.int 1))])) [Δ (.d (mD m))] []=.ok (m.map λs=>P.d (gS (1 - s.1,s.2))) []:=by
  refine dP (g:=λs=>P.d (gS s)) (f:=λs=>gS (1 - s.1,s.2)) (xs:=m) (by simp[mD]) (by unfold au;lia) λs hs=>?_;have h1:=ok.good s hs;have h2:(1:Int) - (s.1:Int)=((1 - s.1:Nat):Int):=by lia
  simp[bO,gS,nD,au,EN,h2]
 have e2:aa (callC Fs (n+6)) (.bf .tuple [.lst Ξ (.comp (.ex (.var 0)) 1 [] Θ (.tup [.op .sub (.cst (.int 1)) (.ix (.var 0) (.cst (.int 0))),.ix (.var 0) (.cst (.int 1))]))]) [Δ (.d (mD m))] []=.ok (.d (mD (mF m))) []:=by rw[cL,aw,cY,eL,ae,fI];simp[mD,mF,aaz]
 show aa (callC Fs (n+6)) _ [Δ (.d (mD m))] []=_;rw[jh,aw,e2,ae,aF];simp only[ae];exact e
theorem Mm a b c d a' b' c' d':tD (.pl [.bl a,.bl b,.bl c,.bl d]) (.pl [.bl a',.bl b',.bl c',.bl d'])=Δ (a==a'&&(b==b'&&(c==c'&&(d==d'&&Λ)))):=rfl
theorem Jz ns(hl:ns.length<=63):callC Fs 60 19 [.jg ns] []=.ok (.d (.bl Λ)) []:=by
 obtain⟨w,hw⟩:∃w:Nat,1+mixed ns 0 % 3=(w:Int):=⟨(1+mixed ns 0 % 3).toNat,by have:=cz (mixed ns 0) (show(0:Int) < 3 by decide);lia⟩;have w1:1<=w/\w<=3:=by have:=cz (mixed ns 0) (show(0:Int) < 3 by decide);lia
 obtain⟨c,hc⟩:∃c:Nat,1+mixed ns 1 % 5=(c:Int):=⟨(1+mixed ns 1 % 5).toNat,by have:=cz (mixed ns 1) (show(0:Int) < 5 by decide);lia⟩;have c1:1<=c/\c<=5:=by have:=cz (mixed ns 1) (show(0:Int) < 5 by decide);lia
 obtain⟨c',CF⟩:∃c':Nat,1+mixed ns 2 % 5=(c':Int):=⟨(1+mixed ns 2 % 5).toNat,by have:=cz (mixed ns 2) (show(0:Int) < 5 by decide);lia⟩;have c2:1<=c'/\c'<=5:=by have:=cz (mixed ns 2) (show(0:Int) < 5 by decide);lia
 obtain⟨m,em⟩:∃m,m=Jd (mixed ns 1) w c:=⟨_,rfl⟩;obtain⟨m',Y9⟩:∃m',m'=Jd (mixed ns 2) w c':=⟨_,rfl⟩;have ok:eY w m:=em▸Je _ _ (by lia);have iB:eY w m':=Y9▸Je _ _ (by lia);have ml:m.length=c:=em▸ES _ _ _;have ml':m'.length=c':=Y9▸ES _ _ _;have eM:∀st,callC Fs 59 13 [.d (.int (mixed ns 1)),.d (.int (w:Int)),.d (.int 5)] st=.ok (.d (mD m)) st:=λst=>em▸zg 57 (mixed ns 1) w 5 c w1.2 (by decide) hc (by lia) st;have eM':∀st,callC Fs 59 13 [.d (.int (mixed ns 2)),.d (.int (w:Int)),.d (.int 5)] st=.ok (.d (mD m')) st:=λst=>Y9▸zg 57 (mixed ns 2) w 5 c' w1.2 (by decide) CF (by lia) st;have eX0:∀st,callC Fs 59 10 [.jg ns,.d (.int 0)] st=.ok (.d (.int (mixed ns 0))) st:=λst=>mK 57 ns 0 rfl st;have eX1:∀st,callC Fs 59 10 [.jg ns,.d (.int 1)] st=.ok (.d (.int (mixed ns 1))) st:=λst=>mK 57 ns 1 rfl st;have eX2:∀st,callC Fs 59 10 [.jg ns,.d (.int 2)] st=.ok (.d (.int (mixed ns 2))) st:=λst=>mK 57 ns 2 rfl st;have hmm:m.length*m'.length<=25:=by rw[ml,ml'];exact aeu c1.2 c2.2
 obtain⟨ka,la,sa⟩:=qb ok iB (f:=xH) (λx y _ _=>by unfold xH;split<;>lia) (by lia);obtain⟨ko,lo,so⟩:=qb ok iB (f:=JV) (λx y _ _=>by unfold JV;split<;>lia) (by lia);obtain⟨kx,lx,sx⟩:=qb ok iB (f:=xI) (λx y _ _=>by unfold xI;split<;>lia) (by lia);obtain⟨kt,lt,stt⟩:=E2 ok;obtain⟨A,eA⟩:∃A,A=cX w (fL xH m m'):=⟨_,rfl⟩;obtain⟨B,eB⟩:∃B,B=cX w (fL JV m m'):=⟨_,rfl⟩;obtain⟨X,eX⟩:∃X,X=cX w (fL xI m m'):=⟨_,rfl⟩;obtain⟨T,eT⟩:∃T,T=cX w (mF m):=⟨_,rfl⟩;have lA:my w A/\jS w A 0 (fL xH m m') 0/\A.length<=100:=eA▸⟨(cO ka (by lia)).1,(cO ka (by lia)).2,by have:=lq ka (by lia);lia⟩;have lB:my w B/\jS w B 0 (fL JV m m') 0/\B.length<=100:=eB▸⟨(cO ko (by lia)).1,(cO ko (by lia)).2,by have:=lq ko (by lia);lia⟩;have lX:my w X/\jS w X 0 (fL xI m m') 0/\X.length<=100:=eX▸⟨(cO kx (by lia)).1,(cO kx (by lia)).2,by have:=lq kx (by lia);lia⟩;have lT:my w T/\jS w T 0 (mF m) 0/\T.length<=100:=eT▸⟨(cO kt (by lia)).1,(cO kt (by lia)).2,by have:=lq kt (by lia);lia⟩;have pA:∀st,callC Fs 59 5 [.d (mD m),.d (mD m')] st=.ok (.d (mD A)) st:=λst=>eA▸Gx ok iB (by lia) (by lia) 51 st;have pB:∀st,callC Fs 59 6 [.d (mD m),.d (mD m')] st=.ok (.d (mD B)) st:=λst=>eB▸Ct ok iB (by lia) (by lia) 51 st;have pX:∀st,callC Fs 59 7 [.d (mD m),.d (mD m')] st=.ok (.d (mD X)) st:=λst=>eX▸D8 ok iB (by lia) (by lia) 51 st;have pT:∀st,callC Fs 59 8 [.d (mD m)] st=.ok (.d (mD T)) st:=λst=>eT▸Cu ok (by lia) (by lia) 52 st;have O6:∀M∈[A,B,X,T],∀st,callC Fs 59 18 [.d (mD M),.d (.int (w:Int))] st=.ok (.d (.bl Λ)) st:=λM hM st=>by
  have q:my w M/\M.length<=100:=by
   simp only[abM,abx,or_false] at hM;rcases hM with rfl|rfl|rfl|rfl;·exact⟨lA.1,lA.2.2⟩
   ·exact⟨lB.1,lB.2.2⟩
   ·exact⟨lX.1,lX.2.2⟩
   ·exact⟨lT.1,lT.2.2⟩
  rw[Cp 56 q.1.ok (by lia) (by lia) st];simp only[q.1,decide_true]
 have eW:=Cq 58 w1.2 [];have gA:∀u,Wd w u->cf A u=(cf m u&&cf m' u):=λu hu=>by have h1:=lA.2.1 u hu;rw[sa u hu] at h1;unfold cf;rw[h1];rcases bits (ok.good _ (aW (ok.walk ok.ne hu))) with z|z<;>rcases bits (iB.good _ (aW (iB.walk iB.ne hu))) with z'|z'<;>simp[gd,z,z',xH]
 have gB:∀u,Wd w u->cf B u=(cf m u||cf m' u):=λu hu=>by have h1:=lB.2.1 u hu;rw[so u hu] at h1;unfold cf;rw[h1];rcases bits (ok.good _ (aW (ok.walk ok.ne hu))) with z|z<;>rcases bits (iB.good _ (aW (iB.walk iB.ne hu))) with z'|z'<;>simp[gd,z,z',JV]
 have gX:∀u,Wd w u->cf X u=!(cf m u==cf m' u):=λu hu=>by have h1:=lX.2.1 u hu;rw[sx u hu] at h1;unfold cf;rw[h1];rcases bits (ok.good _ (aW (ok.walk ok.ne hu))) with z|z<;>rcases bits (iB.good _ (aW (iB.walk iB.ne hu))) with z'|z'<;>simp[gd,z,z',xI]
 have gT:∀u,Wd w u->cf T u=!cf m u:=λu hu=>by have h1:=lT.2.1 u hu;rw[stt u hu] at h1;unfold cf;rw[h1];rcases bits (ok.good _ (aW (ok.walk ok.ne hu))) with z|z<;>simp[gd,z]
 have okF:∀M∈[A,B,X,T],eY w M:=λM hM=>by
  simp only[abM,abx,or_false] at hM;rcases hM with rfl|rfl|rfl|rfl;·exact lA.1.ok
  ·exact lB.1.ok
  ·exact lX.1.ok
  ·exact lT.1.ok
 let fV:P:=.d (.pl [mD A,mD B,mD X,mD T])
 let r0 (y5 y6 y7 y8:Option P):cb:=[Δ (.jg ns),Δ (.d (.int (w:Int))),Δ (.d (mD m)),Δ (.d (mD m')),Δ fV,y5,y6,y7,y8]
 obtain⟨r5,s5,e5,⟨y5,y6,y7,y8,z5⟩,z6⟩:=ij (g:=jb (.nm 5)) (b:=ai (callC Fs 59) E3) (ps:=((cj w (tU w)).map wD).map .d) (k:=0) (r:=r0 Θ Θ Θ Θ) (st:=[])
  (I:=λk r s=>(∃y5 y6 y7 y8,r=r0 y5 y6 y7 y8)/\s=[])
  (λi p r s gy hp=>by
   obtain⟨⟨y5,y6,y7,y8,h1⟩,h2⟩:=gy;subst h1 h2;rw[ab7,ZD] at hp;cases Ml:(cj w (tU w))[i]? with
   |none=>rw[Ml] at hp;exact aQ hp|some u=>
    rw[Ml] at hp;obtain rfl:=sj hp;have hu:=DX (ZG Ml);have e1:=rR 58 ok u hu [];have e2:=rR 58 iB u hu [];have eL:∀y7 y8,be (callC Fs 59) (.comp (.ex (.var 4)) 1 [5] Θ (.call 14 [.var 0,.var 1])) (r0 (Δ (.d (wD u))) (Δ (.d (.bl (cf m u)))) y7 y8) []=.ok ([A,B,X,T].map λM=>.d (.bl (cf M u))) []:=λy7 y8=>by refine dP (g:=λM=>P.d (mD M)) (f:=λM=>.bl (cf M u)) (xs:=[A,B,X,T]) (by simp[r0,fV]) (by simp[au]) λM hM=>?_;have e:=rR 58 (okF M hM) u hu [];simp[bO,r0,e]
    refine⟨_,r0 (Δ (.d (wD u))) (Δ (.d (.bl (cf m u)))) (Δ (.d (.bl (cf m' u)))) (Δ (.d (.pl [.bl (cf m u&&cf m' u),.bl (cf m u||cf m' u),.bl (!(cf m u==cf m' u)),.bl (!cf m u)]))),[],rfl,?_,⟨_,_,_,_,rfl⟩,rfl⟩;refine ag (bD (v:=.d (.bl (cf m u))) (st1:=[]) (by simp[r0,e1])) ?_;refine ag (bD (v:=.d (.bl (cf m' u))) (st1:=[]) (by simp[r0,e2])) ?_;refine ag (bD (v:=.d (.pl [.bl (cf m u&&cf m' u),.bl (cf m u||cf m' u),.bl (!(cf m u==cf m' u)),.bl (!cf m u)])) (st1:=[]) ?_) ?_;·cases cf m u<;>cases cf m' u<;>simp[r0,au]
    refine ag (iN (st1:=[]) ?_ az) az;show aa (callC Fs 59) _ (r0 (Δ (.d (wD u))) (Δ (.d (.bl (cf m u)))) (Δ (.d (.bl (cf m' u)))) (Δ (.d (.pl [.bl (cf m u&&cf m' u),.bl (cf m u||cf m' u),.bl (!(cf m u==cf m' u)),.bl (!cf m u)])))) []=_;rw[bV,cY,eL,ae];simp[r0,gA u hu,gB u hu,gX u hu,gT u hu,Mm]) ⟨⟨Θ,Θ,Θ,Θ,rfl⟩,rfl⟩
 subst z5 z6;refine call_of Qc rfl (cA (p:=.d (.bl Λ)) (st:=[]) rfl ?_ rfl);have c3:mQ .mod (mixed ns 0) 3=Δ (mixed ns 0 % 3):=iZ (by decide);refine ag (bD (v:=.d (.int (w:Int))) (st1:=[]) (by simp[aA,sV,eX0,c3,hw])) ?_;refine ag (bD (v:=.d (mD m)) (st1:=[]) (by simp[aA,sV,eX1,eM])) ?_;refine ag (bD (v:=.d (mD m')) (st1:=[]) (by simp[aA,sV,eX2,eM'])) ?_;refine ag (bD (v:=fV) (st1:=[]) (by simp[aA,sV,pA,pB,pX,pT,au,fV])) ?_;have eF:be (callC Fs 59) (.comp (.ex (.var 4)) 1 [1] (Δ (.not (.call 18 [.var 0,.var 1]))) (.var 0)) (r0 Θ Θ Θ Θ) []=.ok [] []:=by
  have h:=pW (C:=callC Fs 59) (w:=.ex (.var 4)) (js:=[1]) (c:=.not (.call 18 [.var 0,.var 1])) (e:=.var 0) (r:=r0 Θ Θ Θ Θ) (st:=[]) (st1:=[]) (xs:=[mD A,mD B,mD X,mD T]) (f:=λx=>x) (p:=λ_=>Ξ) (by simp[r0,fV]) (by simp[au]) (λx hx=>by
   have:∃M∈[A,B,X,T],x=mD M:=by have yi:x∈[A,B,X,T].map mD:=hx;obtain⟨M,hM,rfl⟩:=abk.mp yi;exact⟨M,hM,rfl⟩
   obtain⟨M,hM,rfl⟩:=this;simp[bO,r0,O6 M hM]) (λx hx=>by simp[bO])
  simpa using h
 refine ag (iN (st1:=[]) ?_ az) ?_;·show aa (callC Fs 59) _ (r0 Θ Θ Θ Θ) []=_;rw[bV,cY,eF,ae];simp[au]
 refine ag (e8 (ps:=((cj w (tU w)).map wD).map .d) (st1:=[]) (by simp[aA,sV,eW]) e5) ?_;refine aK (cB ?_);simp[r0,eX1,eM,Qb]
end Ub
namespace Ub
open PySem L2 Y
noncomputable def top(i:Nat):Stmt:=PySem.Challenge.pw_wordyard_k20_two_machines.main.body.getD i (.Pass ⟨0,0,0,0⟩)
noncomputable def Cv(j:Nat):Stmt->Stmt
 |.ClassDef _ _ _ body _ _ _ _ _ _ _=>body.getD j (.Pass ⟨0,0,0,0⟩)|_=>.Pass ⟨0,0,0,0⟩
abbrev qi:Stmt:=top 1
def gj:Info:=⟨"sources_by",qi,["machine","letter","sources","number","state"],["machine","letter"],i9⟩
abbrev mM:Stmt:=top 3
def dU:Info:=⟨"firsts_alike",mM,["machine","groups","firsts","state","group"],["machine"],fZ⟩
abbrev mN:Stmt:=top 5
def dW:Info:=⟨"machine_from",mN,["start","steps_of","good_of","numbers","places","states","place","steps","step"],["start","steps_of","good_of"],dg⟩
abbrev E5:Stmt:=top 6
def lD:Info:=⟨"least",E5,["machine","firsts","steps_of"],["machine"],qc⟩
abbrev Cw:Stmt:=top 8
def jz:Info:=⟨"paired",Cw,["one","other","good","steps_of","good_of"],["one","other","good"],wH⟩
abbrev JA:Stmt:=top 9
def oI:Info:=⟨"both",JA,["one","other"],["one","other"],DY⟩
abbrev Cy:Stmt:=top 10
def jA:Info:=⟨"either",Cy,["one","other"],["one","other"],wI⟩
abbrev E6:Stmt:=top 11
def lE:Info:=⟨"apart",E6,["one","other"],["one","other"],Aq⟩
abbrev qj:Stmt:=top 12
def gk:Info:=⟨"turned_out",qj,["machine"],["machine"],lr⟩
abbrev mO:Stmt:=top 14
def dX:Info:=⟨"_law_cell_at",mO,["_law_script","_law_k"],["_law_script","_law_k"],dh⟩
abbrev qk:Stmt:=top 15
def gp:Info:=⟨"_law_mixed",qk,["_law_script","_law_k","_law_drawn_here"],["_law_script","_law_k"],gb⟩
abbrev qm:Stmt:=top 16
def gq:Info:=⟨"_law_drawn",qm,["_law_number_here","_law_k","_law_drawn_here"],["_law_number_here","_law_k"],gc⟩
abbrev qo:Stmt:=top 17
def gu:Info:=⟨"_law_words",qo,["_law_wide","_law_found","_law_rows","_law_k","_law_longer","_law_row"],["_law_wide"],eJ⟩
abbrev mP:Stmt:=top 18
def dY:Info:=⟨"_law_machine",mP,["_law_number_here","_law_wide","_law_most","_law_count","_law_states","_law_k","_law_steps"],["_law_number_here","_law_wide","_law_most"],di⟩
abbrev wO:Stmt:=top 19
def jB:Info:=⟨"_law_has",wO,["_law_machine_here","_law_word","_law_at","_law_letter"],["_law_machine_here","_law_word"],ly⟩
abbrev nP:Stmt:=top 20
def fg:Info:=⟨"_law_number",nP,["_law_thing","_law_high"],["_law_thing","_law_high"],fe⟩
abbrev jW:Stmt:=top 21
def cR:Info:=⟨"_law_is_machine",jW,["_law_thing","_law_wide","_law_state"],["_law_thing","_law_wide"],bw⟩
abbrev nQ:Stmt:=top 22
def fh:Info:=⟨"_law_parted",nQ,["_law_machine_here","_law_count","_law_apart_ones","_law_one","_law_other","_law_k","_law_pairs"],["_law_machine_here"],ff⟩
abbrev lN:Stmt:=top 23
def dB:Info:=⟨"_law_is_least",lN,["_law_machine_here","_law_wide","_law_order","_law_k","_law_step","_law_apart_ones"],["_law_machine_here","_law_wide"],fm⟩
abbrev Nc:Stmt:=top 24
def Cz:Info:=⟨"law",Nc,["_law_script","_law_wide","_law_one","_law_other","_law_found","_law_word","_law_here","_law_there","_law_due"],["_law_script"],sV⟩
abbrev jX:Stmt:=Cv 0 (top 2)
def cT:Info:=⟨"Groups.__init__",jX,["self","machine","number","state"],["self","machine"],gf⟩
abbrev jY:Stmt:=Cv 1 (top 2)
def cU:Info:=⟨"Groups.let_wait",jY,["self","group"],["self","group"],cQ⟩
abbrev jC:Stmt:=Cv 2 (top 2)
def cC:Info:=⟨"Groups.set_apart",jC,["self","group","states","rest","fresh","state"],["self","group","states"],bF⟩
abbrev gL:Stmt:=Cv 3 (top 2)
def bT:Info:=⟨"Groups.set_apart_by",gL,["self","targets","letter","stepping","target","state","group","states"],["self","targets","letter"],cE⟩
abbrev lO:Stmt:=Cv 4 (top 2)
def dD:Info:=⟨"Groups.settle",lO,["self","group","targets","letter"],["self"],iH⟩
def rU:CI:=⟨Ξ,"least.<locals>.steps_of",["state","firsts","machine"],["state"],["firsts","machine"],gY⟩
def tV:CI:=⟨Λ,"least.<locals>.<lambda>",["state","machine"],["state"],["machine"],dz⟩
def qp:CI:=⟨Ξ,"paired.<locals>.steps_of",["pair","one","other"],["pair"],["one","other"],gh⟩
def rV:CI:=⟨Ξ,"paired.<locals>.good_of",["pair","good","one","other"],["pair"],["good","one","other"],gZ⟩
def wQ:CI:=⟨Λ,"both.<locals>.<lambda>",["first","second"],["first","second"],[],gi⟩
def rW:CI:=⟨Λ,"either.<locals>.<lambda>",["first","second"],["first","second"],[],eK⟩
def tX:CI:=⟨Λ,"apart.<locals>.<lambda>",["first","second"],["first","second"],[],fu⟩
def tx:TX:={is:=[(gj,[]),(dU,[]),(dW,[]),(lD,[(25,⟨77,4,78,59⟩),(26,⟨79,45,79,76⟩)]),(jz,[(27,⟨83,4,84,60⟩),(28,⟨86,4,87,55⟩)]),(oI,[(29,⟨90,30,90,66⟩)]),(jA,[(30,⟨92,30,92,66⟩)]),(lE,[(31,⟨94,30,94,66⟩)]),(gk,[]),(dX,[]),(gp,[]),(gq,[]),(gu,[]),(dY,[]),(jB,[]),(fg,[]),(cR,[]),(fh,[]),(dB,[]),(Cz,[]),(cT,[]),(cU,[]),(cC,[]),(bT,[]),(dD,[])],Ys:=[rU,tV,qp,rV,wQ,rW,tX],cs:=[],ts:=[],nf:=20,ks:=[{name:="Groups",tH:=["sources","group_of","members","waiting","waits"],IL:=[("__init__",20),("let_wait",21),("set_apart",22),("set_apart_by",23),("settle",24)]}]}
theorem is_Fs:tx.Fs=Fs:=rfl
theorem xJ:bb gj.N gj.ps (ax gj.st):=⟨rfl,rfl,rfl,by decide+kernel,rfl,by decide+kernel,by decide+kernel⟩
theorem xK:gD tx (gj,[])=Λ:=by decide+kernel
theorem tY:bb dU.N dU.ps (ax dU.st):=⟨rfl,rfl,rfl,by decide+kernel,rfl,by decide+kernel,by decide+kernel⟩
theorem tZ:gD tx (dU,[])=Λ:=by decide+kernel
theorem t8:bb dW.N dW.ps (ax dW.st):=⟨rfl,rfl,rfl,by decide+kernel,rfl,by decide+kernel,by decide+kernel⟩
theorem t9:gD tx (dW,[])=Λ:=by decide+kernel
theorem JB:bb lD.N lD.ps (ax lD.st):=⟨rfl,rfl,rfl,by decide+kernel,rfl,by decide+kernel,by decide+kernel⟩
theorem JC:gD tx (lD,[(25,⟨77,4,78,59⟩),(26,⟨79,45,79,76⟩)])=Λ:=by decide+kernel
theorem Gy:bb jz.N jz.ps (ax jz.st):=⟨rfl,rfl,rfl,by decide+kernel,rfl,by decide+kernel,by decide+kernel⟩
theorem Gz:gD tx (jz,[(27,⟨83,4,84,60⟩),(28,⟨86,4,87,55⟩)])=Λ:=by decide+kernel
theorem Mn:bb oI.N oI.ps (ax oI.st):=⟨rfl,rfl,rfl,by decide+kernel,rfl,by decide+kernel,by decide+kernel⟩
theorem Mo:gD tx (oI,[(29,⟨90,30,90,66⟩)])=Λ:=by decide+kernel
theorem GA:bb jA.N jA.ps (ax jA.st):=⟨rfl,rfl,rfl,by decide+kernel,rfl,by decide+kernel,by decide+kernel⟩
theorem GB:gD tx (jA,[(30,⟨92,30,92,66⟩)])=Λ:=by decide+kernel
theorem JD:bb lE.N lE.ps (ax lE.st):=⟨rfl,rfl,rfl,by decide+kernel,rfl,by decide+kernel,by decide+kernel⟩
theorem JE:gD tx (lE,[(31,⟨94,30,94,66⟩)])=Λ:=by decide+kernel
theorem xM:bb gk.N gk.ps (ax gk.st):=⟨rfl,rfl,rfl,by decide+kernel,rfl,by decide+kernel,by decide+kernel⟩
theorem xN:gD tx (gk,[])=Λ:=by decide+kernel
theorem uc:bb dX.N dX.ps (ax dX.st):=⟨rfl,rfl,rfl,by decide+kernel,rfl,by decide+kernel,by decide+kernel⟩
theorem ud:gD tx (dX,[])=Λ:=by decide+kernel
theorem xO:bb gp.N gp.ps (ax gp.st):=⟨rfl,rfl,rfl,by decide+kernel,rfl,by decide+kernel,by decide+kernel⟩
theorem xP:gD tx (gp,[])=Λ:=by decide+kernel
theorem xQ:bb gq.N gq.ps (ax gq.st):=⟨rfl,rfl,rfl,by decide+kernel,rfl,by decide+kernel,by decide+kernel⟩
theorem xR:gD tx (gq,[])=Λ:=by decide+kernel
theorem xS:bb gu.N gu.ps (ax gu.st):=⟨rfl,rfl,rfl,by decide+kernel,rfl,by decide+kernel,by decide+kernel⟩
theorem xT:gD tx (gu,[])=Λ:=by decide+kernel
theorem ue:bb dY.N dY.ps (ax dY.st):=⟨rfl,rfl,rfl,by decide+kernel,rfl,by decide+kernel,by decide+kernel⟩
theorem uf:gD tx (dY,[])=Λ:=by decide+kernel
theorem CA:bb jB.N jB.ps (ax jB.st):=⟨rfl,rfl,rfl,by decide+kernel,rfl,by decide+kernel,by decide+kernel⟩
theorem CB:gD tx (jB,[])=Λ:=by decide+kernel
theorem wR:bb fg.N fg.ps (ax fg.st):=⟨rfl,rfl,rfl,by decide+kernel,rfl,by decide+kernel,by decide+kernel⟩
theorem wU:gD tx (fg,[])=Λ:=by decide+kernel
theorem oJ:bb cR.N cR.ps (ax cR.st):=⟨rfl,rfl,rfl,by decide+kernel,rfl,by decide+kernel,by decide+kernel⟩
theorem oK:gD tx (cR,[])=Λ:=by decide+kernel
theorem wW:bb fh.N fh.ps (ax fh.st):=⟨rfl,rfl,rfl,by decide+kernel,rfl,by decide+kernel,by decide+kernel⟩
theorem wX:gD tx (fh,[])=Λ:=by decide+kernel
theorem rX:bb dB.N dB.ps (ax dB.st):=⟨rfl,rfl,rfl,by decide+kernel,rfl,by decide+kernel,by decide+kernel⟩
theorem rY:gD tx (dB,[])=Λ:=by decide+kernel
theorem Qn:bb Cz.N Cz.ps (ax Cz.st):=⟨rfl,rfl,rfl,by decide+kernel,rfl,by decide+kernel,by decide+kernel⟩
theorem Qo:gD tx (Cz,[])=Λ:=by decide+kernel
theorem oM:bb cT.N cT.ps (ax cT.st):=⟨rfl,rfl,rfl,by decide+kernel,rfl,by decide+kernel,by decide+kernel⟩
theorem oN:gD tx (cT,[])=Λ:=by decide+kernel
theorem oO:bb cU.N cU.ps (ax cU.st):=⟨rfl,rfl,rfl,by decide+kernel,rfl,by decide+kernel,by decide+kernel⟩
theorem oP:gD tx (cU,[])=Λ:=by decide+kernel
theorem nv:bb cC.N cC.ps (ax cC.st):=⟨rfl,rfl,rfl,by decide+kernel,rfl,by decide+kernel,by decide+kernel⟩
theorem ny:gD tx (cC,[])=Λ:=by decide+kernel
theorem lF:bb bT.N bT.ps (ax bT.st):=⟨rfl,rfl,rfl,by decide+kernel,rfl,by decide+kernel,by decide+kernel⟩
theorem lG:gD tx (bT,[])=Λ:=by decide+kernel
theorem rZ:bb dD.N dD.ps (ax dD.st):=⟨rfl,rfl,rfl,by decide+kernel,rfl,by decide+kernel,by decide+kernel⟩
theorem r6:gD tx (dD,[])=Λ:=by decide+kernel
def GR(K:ZE)(x:Str):Addr:=((aaV K x).map (·.2)).getD 0
theorem wY(h:(aaV K x).map (·.1)=Δ c):aaV K x=Δ (c,GR K x):=by unfold GR;cases e:aaV K x with|none=>rw[e] at h;cases h|some p=>rw[e] at h;cases h;rfl
noncomputable def xs:List Str:=["least","paired","both","either","apart"]
def Za:List (List (Pos×Str)):=[bQ tx (lD,[(25,⟨77,4,78,59⟩),(26,⟨79,45,79,76⟩)]),bQ tx (jz,[(27,⟨83,4,84,60⟩),(28,⟨86,4,87,55⟩)]),bQ tx (oI,[(29,⟨90,30,90,66⟩)]),bQ tx (jA,[(30,⟨92,30,92,66⟩)]),bQ tx (lE,[(31,⟨94,30,94,66⟩)])]
def wZ(pt:List (Addr×Addr)):List (Addr×List (Pos×Str)):=(pt.zip Za).map λp=>(p.1.2,p.2)
theorem JF:L2.Apart (bQ tx (lD,[(25,⟨77,4,78,59⟩),(26,⟨79,45,79,76⟩)])):=by unfold L2.Apart;decide+kernel
theorem GC:L2.Apart (bQ tx (jz,[(27,⟨83,4,84,60⟩),(28,⟨86,4,87,55⟩)])):=by unfold L2.Apart;decide+kernel
theorem Mp:L2.Apart (bQ tx (oI,[(29,⟨90,30,90,66⟩)])):=by unfold L2.Apart;decide+kernel
theorem GD:L2.Apart (bQ tx (jA,[(30,⟨92,30,92,66⟩)])):=by unfold L2.Apart;decide+kernel
theorem JG:L2.Apart (bQ tx (lE,[(31,⟨94,30,94,66⟩)])):=by unfold L2.Apart;decide+kernel
set_option maxHeartbeats 0 in
theorem all_mk{l:aen}{w:World}{K:ZE}{h:Heap}{mg:Str->Option Value}{fa f0 f1 f2 f3 f4 f5 f6 f7 f8 f9 Zb Zc Zd Ze Zf Zg Zh Zi Zj f19 Vz VA VB VC VD bU Qp Qq Qr Qs Qt:Addr}{d0 d1 d2 d3 d4 d5 d6 d7 d8 d9 d10 d11 d12 d13 d14 d15 d16 d17 d18 VE d20 d21 d22 d23 d24:abt}(X:K.In h)(G:h.Ns ZL mg)(hfa:mg "law"=Δ (.ref fa))
  (CC:ZU K ZL "Groups"=Δ (Δ (.ref bU)))
  (GF:acD K bU Str.empty=Λ)
  (GG:ac4 K bU=Λ)
  (GH:adO K bU=Λ)
  (GI:aak K (.ref bU) "__setattr__"=Δ (Δ (.builtin "object.__setattr__")))
  (GJ:aem K bU=Λ)
  (GK:abS K (.ref bU)=Λ)
  (r8:aak K (.ref bU) "sources"=Δ Θ)
  (qr:aak K (.ref bU) "group_of"=Δ Θ)
  (r9:aak K (.ref bU) "members"=Δ Θ)
  (se:aak K (.ref bU) "waiting"=Δ Θ)
  (w4:aak K (.ref bU) "waits"=Δ Θ)
  (a0:ZU K ZL "sources_by"=Δ (Δ (.ref f0)))
  (F0:oR K "sources_by" "sources_by" qi f0 d0)
  (a1:ZU K ZL "firsts_alike"=Δ (Δ (.ref f1)))
  (F1:oR K "firsts_alike" "firsts_alike" mM f1 d1)
  (a2:ZU K ZL "machine_from"=Δ (Δ (.ref f2)))
  (F2:oR K "machine_from" "machine_from" mN f2 d2)
  (a3:ZU K ZL "least"=Δ (Δ (.ref f3)))
  (F3:oR K "least" "least" E5 f3 d3)
  (q3:d3.code=.ref Qp)
  (t3:(aaV K "least").map (·.1)=Δ Qp)
  (a4:ZU K ZL "paired"=Δ (Δ (.ref f4)))
  (F4:oR K "paired" "paired" Cw f4 d4)
  (q4:d4.code=.ref Qq)
  (t4:(aaV K "paired").map (·.1)=Δ Qq)
  (a5:ZU K ZL "both"=Δ (Δ (.ref f5)))
  (F5:oR K "both" "both" JA f5 d5)
  (q5:d5.code=.ref Qr)
  (t5:(aaV K "both").map (·.1)=Δ Qr)
  (a6:ZU K ZL "either"=Δ (Δ (.ref f6)))
  (F6:oR K "either" "either" Cy f6 d6)
  (q6:d6.code=.ref Qs)
  (t6:(aaV K "either").map (·.1)=Δ Qs)
  (a7:ZU K ZL "apart"=Δ (Δ (.ref f7)))
  (F7:oR K "apart" "apart" E6 f7 d7)
  (q7:d7.code=.ref Qt)
  (t7:(aaV K "apart").map (·.1)=Δ Qt)
  (a8:ZU K ZL "turned_out"=Δ (Δ (.ref f8)))
  (F8:oR K "turned_out" "turned_out" qj f8 d8)
  (a9:ZU K ZL "_law_cell_at"=Δ (Δ (.ref f9)))
  (F9:oR K "_law_cell_at" "_law_cell_at" mO f9 d9)
  (a10:ZU K ZL "_law_mixed"=Δ (Δ (.ref Zb)))
  (F10:oR K "_law_mixed" "_law_mixed" qk Zb d10)
  (a11:ZU K ZL "_law_drawn"=Δ (Δ (.ref Zc)))
  (F11:oR K "_law_drawn" "_law_drawn" qm Zc d11)
  (a12:ZU K ZL "_law_words"=Δ (Δ (.ref Zd)))
  (F12:oR K "_law_words" "_law_words" qo Zd d12)
  (a13:ZU K ZL "_law_machine"=Δ (Δ (.ref Ze)))
  (F13:oR K "_law_machine" "_law_machine" mP Ze d13)
  (a14:ZU K ZL "_law_has"=Δ (Δ (.ref Zf)))
  (F14:oR K "_law_has" "_law_has" wO Zf d14)
  (a15:ZU K ZL "_law_number"=Δ (Δ (.ref Zg)))
  (F15:oR K "_law_number" "_law_number" nP Zg d15)
  (a16:ZU K ZL "_law_is_machine"=Δ (Δ (.ref Zh)))
  (F16:oR K "_law_is_machine" "_law_is_machine" jW Zh d16)
  (a17:ZU K ZL "_law_parted"=Δ (Δ (.ref Zi)))
  (F17:oR K "_law_parted" "_law_parted" nQ Zi d17)
  (a18:ZU K ZL "_law_is_least"=Δ (Δ (.ref Zj)))
  (F18:oR K "_law_is_least" "_law_is_least" lN Zj d18)
  (a19:ZU K ZL "law"=Δ (Δ (.ref f19)))
  (Zk:oR K "law" "law" Nc f19 VE)
  (a20:aak K (.ref bU) "__init__"=Δ (Δ (.ref Vz)))
  (Zl:oR K "__init__" "Groups.__init__" jX Vz d20)
  (n20:acn K (.ref Vz)=Λ)
  (a21:aak K (.ref bU) "let_wait"=Δ (Δ (.ref VA)))
  (Zm:oR K "let_wait" "Groups.let_wait" jY VA d21)
  (n21:acn K (.ref VA)=Λ)
  (a22:aak K (.ref bU) "set_apart"=Δ (Δ (.ref VB)))
  (Zn:oR K "set_apart" "Groups.set_apart" jC VB d22)
  (n22:acn K (.ref VB)=Λ)
  (a23:aak K (.ref bU) "set_apart_by"=Δ (Δ (.ref VC)))
  (Zo:oR K "set_apart_by" "Groups.set_apart_by" gL VC d23)
  (n23:acn K (.ref VC)=Λ)
  (a24:aak K (.ref bU) "settle"=Δ (Δ (.ref VD)))
  (Zp:oR K "settle" "Groups.settle" lO VD d24)
  (n24:acn K (.ref VD)=Λ)
  (nt:ac3 K=Λ)
  (nd:decide [GR K "least",GR K "paired",GR K "both",GR K "either",GR K "apart"].Nodup=Λ)
  (Uo:ZU K ZL "len"=Δ Θ)
  (Up:ZU K ZL "min"=Δ Θ)
  (Uq:ZU K ZL "max"=Δ Θ)
  (Ur:ZU K ZL "all"=Δ Θ)
  (Us:ZU K ZL "any"=Δ Θ)
  (Ut:ZU K ZL "sum"=Δ Θ)
  (Uu:ZU K ZL "str"=Δ Θ)
  (Mq:ZU K ZL "tuple"=Δ Θ)
  (Qu:ZU K ZL "list"=Δ Θ)
  (Uv:ZU K ZL "int"=Δ Θ)
  (Qv:ZU K ZL "bool"=Δ Θ)
  (Aw:ZU K ZL "isinstance"=Δ Θ)
  (Mr:ZU K ZL "range"=Δ Θ)
  (Uw:ZU K ZL "zip"=Δ Θ)
  (CD:ZU K ZL "enumerate"=Δ Θ)
  (JH:ZU K ZL "sorted"=Δ Θ)
  :(xs≠[]->ac3 K=Λ)/\∃(tabs:List (Addr×Addr)) (fd:abt),xs.map (aaV K)=tabs.map Δ/\(∀(s:ZR) (v:Value),aei s fd ⟨[v],[]⟩ [("_law_script",v)])/\
   (∀base:Heap,K.In base->base.Ns ZL mg->(∀q∈tabs,abD base q.1 q.2)->BMain mg base->iy l.prog w K mg base w6 (lv 60) fa fd ["_law_script"] (DG (oq tx K base (wZ tabs)) (callC Fs 60 19) 1))/\tabs.length=Za.length:=by
 have e:=hfa.symm.trans (aam X G a19);cases e;replace nd:=of_decide_eq_true nd;replace t3:=wY t3;replace t4:=wY t4;replace t5:=wY t5;replace t6:=wY t6;replace t7:=wY t7;generalize GR K "least"=Ux at*;generalize GR K "paired"=Uy at*;generalize GR K "both"=Uz at*;generalize GR K "either"=UA at*;generalize GR K "apart"=UB at*;have T:Aa K mg tx (wZ [(Qp,Ux),(Qq,Uy),(Qr,Uz),(Qs,UA),(Qt,UB)]) (λk=>[f0,f1,f2,f3,f4,f5,f6,f7,f8,f9,Zb,Zc,Zd,Ze,Zf,Zg,Zh,Zi,Zj,fa,Vz,VA,VB,VC,VD].getD k 0) (λk=>[d0,d1,d2,d3,d4,d5,d6,d7,d8,d9,d10,d11,d12,d13,d14,d15,d16,d17,d18,VE,d20,d21,d22,d23,d24].getD k VE) (λk=>[(0,0),(0,0),(0,0),(Qp,Ux),(Qq,Uy),(Qr,Uz),(Qs,UA),(Qt,UB)].getD k (0,0)):=by
  refine⟨DO ?_,?_,λx i hx=>?_,λx t hx=>?_,λq hq=>?_,DO ?_⟩;·exact(aZ ⟨⟨_,F0⟩,λ_=>aam X G a0,F0.binds λ_ _ _ _ _ _=>rB λ_ _=>rfl,xJ,xK⟩ (aZ ⟨⟨_,F1⟩,λ_=>aam X G a1,F1.binds λ_ _ _ _ _ _=>DP λ_=>rfl,tY,tZ⟩ (aZ ⟨⟨_,F2⟩,λ_=>aam X G a2,F2.binds λ_ _ _ _ _ _=>IY λ_ _ _=>rfl,t8,t9⟩ (aZ ⟨⟨_,F3⟩,λ_=>aam X G a3,F3.binds λ_ _ _ _ _ _=>DP λ_=>rfl,JB,JC⟩ (aZ ⟨⟨_,F4⟩,λ_=>aam X G a4,F4.binds λ_ _ _ _ _ _=>IY λ_ _ _=>rfl,Gy,Gz⟩ (aZ ⟨⟨_,F5⟩,λ_=>aam X G a5,F5.binds λ_ _ _ _ _ _=>rB λ_ _=>rfl,Mn,Mo⟩ (aZ ⟨⟨_,F6⟩,λ_=>aam X G a6,F6.binds λ_ _ _ _ _ _=>rB λ_ _=>rfl,GA,GB⟩ (aZ ⟨⟨_,F7⟩,λ_=>aam X G a7,F7.binds λ_ _ _ _ _ _=>rB λ_ _=>rfl,JD,JE⟩ (aZ ⟨⟨_,F8⟩,λ_=>aam X G a8,F8.binds λ_ _ _ _ _ _=>DP λ_=>rfl,xM,xN⟩ (aZ ⟨⟨_,F9⟩,λ_=>aam X G a9,F9.binds λ_ _ _ _ _ _=>rB λ_ _=>rfl,uc,ud⟩ (aZ ⟨⟨_,F10⟩,λ_=>aam X G a10,F10.binds λ_ _ _ _ _ _=>rB λ_ _=>rfl,xO,xP⟩ (aZ ⟨⟨_,F11⟩,λ_=>aam X G a11,F11.binds λ_ _ _ _ _ _=>rB λ_ _=>rfl,xQ,xR⟩ (aZ ⟨⟨_,F12⟩,λ_=>aam X G a12,F12.binds λ_ _ _ _ _ _=>DP λ_=>rfl,xS,xT⟩ (aZ ⟨⟨_,F13⟩,λ_=>aam X G a13,F13.binds λ_ _ _ _ _ _=>IY λ_ _ _=>rfl,ue,uf⟩ (aZ ⟨⟨_,F14⟩,λ_=>aam X G a14,F14.binds λ_ _ _ _ _ _=>rB λ_ _=>rfl,CA,CB⟩ (aZ ⟨⟨_,F15⟩,λ_=>aam X G a15,F15.binds λ_ _ _ _ _ _=>rB λ_ _=>rfl,wR,wU⟩ (aZ ⟨⟨_,F16⟩,λ_=>aam X G a16,F16.binds λ_ _ _ _ _ _=>rB λ_ _=>rfl,oJ,oK⟩ (aZ ⟨⟨_,F17⟩,λ_=>aam X G a17,F17.binds λ_ _ _ _ _ _=>DP λ_=>rfl,wW,wX⟩ (aZ ⟨⟨_,F18⟩,λ_=>aam X G a18,F18.binds λ_ _ _ _ _ _=>rB λ_ _=>rfl,rX,rY⟩ (aZ ⟨⟨_,Zk⟩,λ_=>aam X G a19,Zk.binds λ_ _ _ _ _ _=>DP λ_=>rfl,Qn,Qo⟩ (aZ ⟨⟨_,Zl⟩,λz=>absurd z (by decide),Zl.binds λ_ _ _ _ _ _=>rB λ_ _=>rfl,oM,oN⟩ (aZ ⟨⟨_,Zm⟩,λz=>absurd z (by decide),Zm.binds λ_ _ _ _ _ _=>rB λ_ _=>rfl,oO,oP⟩ (aZ ⟨⟨_,Zn⟩,λz=>absurd z (by decide),Zn.binds λ_ _ _ _ _ _=>IY λ_ _ _=>rfl,nv,ny⟩ (aZ ⟨⟨_,Zo⟩,λz=>absurd z (by decide),Zo.binds λ_ _ _ _ _ _=>IY λ_ _ _=>rfl,lF,lG⟩ (aZ ⟨⟨_,Zp⟩,λz=>absurd z (by decide),Zp.binds λ_ _ _ _ _ _=>DP λ_=>rfl,rZ,r6⟩ PF)))))))))))))))))))))))))
  ·exact(memC (aai X G Uo) (memC (aai X G Up) (memC (aai X G Uq) (memC (aai X G Ur) (memC (aai X G Us) (memC (aai X G Ut) (memC (aai X G Uu) (memC (aai X G Mq) (memC (aai X G Qu) (memC (aai X G Uv) (memC (aai X G Qv) (memC (aai X G Aw) (memC (aai X G Mr) (memC (aai X G Uw) (memC (aai X G CD) (memC (aai X G JH) Tw))))))))))))))))
  ·exact absurd hx (by simp[tx])
  ·exact absurd hx (by simp[tx])
  ·simp only[tx,abM,abx,or_false] at hq;rcases hq with rfl;·refine⟨bU,CC,aam X G CC,⟨GF,GG,GH,GI⟩,memC r8 (memC qr (memC r9 (memC se (memC w4 Tw)))),Tx ⟨a20,n20,Zl.kp⟩ (Tx ⟨a21,n21,Zm.kp⟩ (Tx ⟨a22,n22,Zn.kp⟩ (Tx ⟨a23,n23,Zo.kp⟩ (Tx ⟨a24,n24,Zp.kp⟩ lkN)))),λk hm=>?_⟩;have Lv:(20:Nat)=k:=aaf ((by rfl:abc ("__init__":Str) _=Δ 20).symm.trans hm);subst Lv;exact⟨GJ,a20,n20,GK⟩
  ·exact(aZ (λhi=>absurd rfl hi) (aZ (λhi=>absurd rfl hi) (aZ (λhi=>absurd rfl hi) (aZ (λ_=>⟨q3,ZG (i:=0) rfl,JF,pU nd rfl (ZG (i:=0) rfl)⟩) (aZ (λ_=>⟨q4,ZG (i:=1) rfl,GC,pU nd rfl (ZG (i:=1) rfl)⟩) (aZ (λ_=>⟨q5,ZG (i:=2) rfl,Mp,pU nd rfl (ZG (i:=2) rfl)⟩) (aZ (λ_=>⟨q6,ZG (i:=3) rfl,GD,pU nd rfl (ZG (i:=3) rfl)⟩) (aZ (λ_=>⟨q7,ZG (i:=4) rfl,JG,pU nd rfl (ZG (i:=4) rfl)⟩) (aZ (λhi=>absurd rfl hi) (aZ (λhi=>absurd rfl hi) (aZ (λhi=>absurd rfl hi) (aZ (λhi=>absurd rfl hi) (aZ (λhi=>absurd rfl hi) (aZ (λhi=>absurd rfl hi) (aZ (λhi=>absurd rfl hi) (aZ (λhi=>absurd rfl hi) (aZ (λhi=>absurd rfl hi) (aZ (λhi=>absurd rfl hi) (aZ (λhi=>absurd rfl hi) (aZ (λhi=>absurd rfl hi) (aZ (λhi=>absurd rfl hi) (aZ (λhi=>absurd rfl hi) (aZ (λhi=>absurd rfl hi) (aZ (λhi=>absurd rfl hi) (aZ (λhi=>absurd rfl hi) PF)))))))))))))))))))))))))
 refine⟨λ_=>nt,[(Qp,Ux),(Qq,Uy),(Qr,Uz),(Qs,UA),(Qt,UB)],VE,by simp only[xs,ZH,ab6,t3,t4,t5,t6,t7],λs v=>?_,λbase kb nb oQ bm=>?_,rfl⟩;·obtain⟨_,_,_,_,_,_,_,_,_,rfl,_⟩:=Zk.ex;exact .of_eq rfl
 have bo:k9 mg tx (λk=>[(0,0),(0,0),(0,0),(Qp,Ux),(Qq,Uy),(Qr,Uz),(Qs,UA),(Qt,UB)].getD k (0,0)) base:=⟨DO (aZ (λhi=>absurd rfl hi) (aZ (λhi=>absurd rfl hi) (aZ (λhi=>absurd rfl hi) (aZ (λ_=>oQ (Qp,Ux) (ZG (i:=0) rfl)) (aZ (λ_=>oQ (Qq,Uy) (ZG (i:=1) rfl)) (aZ (λ_=>oQ (Qr,Uz) (ZG (i:=2) rfl)) (aZ (λ_=>oQ (Qs,UA) (ZG (i:=3) rfl)) (aZ (λ_=>oQ (Qt,UB) (ZG (i:=4) rfl)) (aZ (λhi=>absurd rfl hi) (aZ (λhi=>absurd rfl hi) (aZ (λhi=>absurd rfl hi) (aZ (λhi=>absurd rfl hi) (aZ (λhi=>absurd rfl hi) (aZ (λhi=>absurd rfl hi) (aZ (λhi=>absurd rfl hi) (aZ (λhi=>absurd rfl hi) (aZ (λhi=>absurd rfl hi) (aZ (λhi=>absurd rfl hi) (aZ (λhi=>absurd rfl hi) (aZ (λhi=>absurd rfl hi) (aZ (λhi=>absurd rfl hi) (aZ (λhi=>absurd rfl hi) (aZ (λhi=>absurd rfl hi) (aZ (λhi=>absurd rfl hi) (aZ (λhi=>absurd rfl hi) PF))))))))))))))))))))))))),bm⟩;exact(EL (P:=l.prog) (w:=w) T 60).1 base bo 19 _ rfl
theorem walk{l:aen}{K:Params->ZE}(hn:l.most=Δ 63)(RL:d.params.defaults=[])(hY:∀(w:World) (h:Heap),YP w h->(K w.params).In h)(zH:∀y∈xs,((PyProof.Rows.recsOf q).find? (λe=>e.name==y)).isSome=Λ)(F:∀(w:World) (mg:Str->Option Value) (fa:Addr) (h:Heap),(K w.params).In h->h.Ns ZL mg->mg d.name=Δ (.ref fa)->
   (xs≠[]->ac3 (K w.params)=Λ)/\∃(tabs:List (Addr×Addr)) (fd:abt),xs.map (aaV (K w.params))=tabs.map Δ/\(∀(s:ZR) (u:Value),aei s fd ⟨[u],[]⟩ [("_law_script",u)])/\
    (∀base:Heap,(K w.params).In base->base.Ns ZL mg->(∀q∈tabs,abD base q.1 q.2)->BMain mg base->iy l.prog w (K w.params) mg base w6 (lv 60) fa fd ["_law_script"] (DG (oq tx (K w.params) base (wZ tabs)) (callC Fs 60 19) 1))/\tabs.length=Za.length):
  PySem.W.WalkO q loose XP YP l.row.toRowW d [] (λf vs=>ae8 f vs):=
 L2.HR (n:=63) (k:=lv 60) (x:="_law_script") (CX:=λ_=>w6) (sp:=λw _ pt base=>DG (oq tx (K w.params) base (wZ pt)) (callC Fs 60 19) 1) xs hn (by decide) RL ⟨rfl,by decide,by decide⟩ hY (λy hy=>by obtain⟨dr,h⟩:=Option.isSome_iff_exists.mp (zH y hy);exact⟨dr,h⟩) (λw mg fa h X N m=>by obtain⟨h1,tabs,fd,h2,h3,h4,h5⟩:=F w mg fa h X N m;refine⟨h1,tabs,fd,h2,h3,h4,λbase H a ns hl _ _ ho hS=>LC (λt ht=>?_) (Jz ns hl) ho hS⟩;unfold wZ at ht;obtain⟨p,hp,rfl⟩:=abk.mp ht;exact abk.mpr ⟨p.1,(abF hp).1,rfl⟩) λ_ _ _ _ _ z=>z
end Ub
open PySem PySem.W PyProof.Rows
set_option maxRecDepth 100000 in
set_option maxHeartbeats 0 in
theorem PySem.Challenge.cw_wordyard_k20_two_machines_holds : PySem.Challenge.rw_wordyard_k20_two_machines.Holds := by
 w_on;o_law;k_head;(case hw=>w_witness2)
 k_fill
 refine Ub.walk (l:=PySem.Challenge.rw_wordyard_k20_two_machines) rfl rfl (λw h Y=>by first|exact PySem.W.kIn_of Y|exact PySem.W.km_in_of Y) (by decide+kernel) ?F
 case F=>intro w mg fa h KX G RM;refine' Ub.all_mk KX G RM ?_ ?_ ?_ ?_ ?_ ?_ ?_ ?_ ?_ ?_ ?_ ?_ ?_ ?_ ?_ ?_ ?_ ?_ ?_ ?_ ?_ ?_ ?_ ?_ ?_ ?_ ?_ ?_ ?_ ?_ ?_ ?_ ?_ ?_ ?_ ?_ ?_ ?_ ?_ ?_ ?_ ?_ ?_ ?_ ?_ ?_ ?_ ?_ ?_ ?_ ?_ ?_ ?_ ?_ ?_ ?_ ?_ ?_ ?_ ?_ ?_ ?_ ?_ ?_ ?_ ?_ ?_ ?_ ?_ ?_ ?_ ?_ ?_ ?_ ?_ ?_ ?_ ?_ ?_ ?_ ?_ ?_ ?_ ?_ ?_ ?_ ?_ ?_ ?_ ?_ ?_ ?_ ?_ ?_ ?_;all_goals try first|k_is|(refine' L2.N1 ?l ?c ?k;(case l=>k_is);(case c=>k_is);(case k=>k_is))|rfl|kernel_rfl
