import PyProof.Rows.All
import Wide.All
import OpenK.AllK
import Wide.FinOn
import Lean
import PyProof.EqAt
import PyProof.EqKinds
import PyProof.TupleCall
import PyProof.NeKinds
import PySem.Challenge.RW_wordyard_k25_cut_and_heads
set_option Elab.async false
set_option linter.all false
set_option maxRecDepth 100000
set_option maxHeartbeats 4000000
noncomputable section
open Option renaming some->Δ,none->Θ
open Bool renaming true->Λ,false->Ξ
open List renaming range->Yh,mem_cons_of_mem->Yi,mem_cons_self->Yk,getD_eq_getElem?_getD->Ym,getElem?_eq_getElem->Yn,getElem?_set_ne->Yp,getElem?_append_left->Yq,length_map->Yr,getElem?_map->Ys,getElem?_cons_zero->Yu,getElem?_cons_succ->Yv,map_cons->Yx,isEmpty_iff->Yy,mem_of_getElem?->Yz,length_cons->YA,size_toArray->YC,length_append->YF,getElem?_append_right->YH,getElem?_set_self->YL,length_range->YN,getElem?_eq_none->YR,mem_append_right->YS,lookup_cons->YU,filter_cons_of_pos->YY,map_append->Y1,filter_cons_of_neg->Y4,getElem?_range->Zb,nodup_append->Ze,append_assoc->Zf,mem_filter->Zg,drop_eq_getElem_cons->Zi,mem_append_left->Zj,getElem_mem->Zl,range_succ->Zn,append_nil->Zo,mem_range->Zp,take_of_length_le->Zs,mem_singleton->Zt,length_filter_le->Zv,flatMap_append->Zy,all_eq_true->Zz,take_add_one->ZA,length_set->ZH,find?_cons->ZJ,any_eq_true->ZK,replicate->ZO,nodup_cons->ZT,foldl_cons->Z3,idxOf_lt_length_of_mem->Z8,mem_map->aad,map_map->aae,length_pos_of_mem->aaf,foldl_append->aag,lookup->aai,length_nil->aaj,nodup_range->aas,cons_append->aat,nil_append->aaA,filter_eq_nil_iff->aaC,any_cons->aaF,all_cons->aaG,length_take->aaI,forIn_cons->aaQ,map_nil->aaY,mem_cons->aa2,length_erase_of_mem->aa3,filterMap_cons->aa5,not_mem_nil->aa9,getElem?_replicate->aba,filter_append->abe,of_mem_zip->abg,mem_append->abh,set_append_right->abk,length_replicate->abl,flatMap_cons->abn,set->abp,mem_erase_of_ne->abq,forIn_nil->abr,drop_zero->abt,mem_flatMap->abz,filter_cons->abA,mem_map_of_mem->abC,zip_cons_cons->abN,ext_getElem?->ab1,drop_eq_nil_of_le->ab2,take_append_drop->ab7,map->acm,getElem?_of_mem->acn,length_zip->acr,foldl->acB,find?_eq_none->acC,length->acI,any_eq_false->acJ,zipIdx_cons->acX,getElem_zip->acY,ext_getElem->acZ,drop_length->ac0,map_set->ac9,all_map->ada,set_set->adJ,mapM->ad0
open Bool renaming and_eq_true->Yj,not_eq_true'->YV,false_eq_true->Y7,false_ne_true->Zh,eq_iff_iff->aak,or_eq_true->aaR,eq_false_or_eq_true->abG,false_and->ab4,true_and->adB
open PySem.Heap renaming get?_push_of_some->Yl,get?_push_size->YD,lt_size->YE,get?_update_other->ZD,size_push->ZQ,get?_update_self->aan,SameBut->aaZ,size_update->acg,IsTuple->adK
open PySem renaming wpAny_bind->Yo,mainGlobals->YB,Shared->YG,wpAny_pure->YI,sizeLine->YQ,starEach->YX,mem_of_lookup->Zd,Program->Zm,wpAny_callSpecial?_slot->ZL,compareOp->ZM,wpAny_Call_Name_kw->ZN,Around->ZS,sizeLine_eq->ZV,wpAny_loadPart'->ZZ,wpAny_mono->Z5,wpAny_field->Z6,wpAny_truthy_bool->aaa,sysModules->aab,FuncData->aao,wpAny_setField_rec->aap,wpAny_call_entry->aaq,wpAny_seqItems->aav,rawInt->aaw,backTo->aax,wpAny_pyIter_tuple->aaJ,binaryOp->aaK,IsPair->aaM,wpAny_passesOwn->aaO,Arguments->aaS,wpAny_newObj_type->aaT,NameKind->aaX,attributeBase->aa0,codeAmong->aa7,keywordEach->abb,wpAny_newFunctionEnv->abo,swapsWith->abu,bootBuiltins->abv,wpAny_binaryOp_repeat_ref->abB,wpAny_holding->abD,tupleKind_room_in1->abI,call_meets->abJ,Spec->abM,sliceBounds->abO,wpAny_pyIter_enum->abT,typeIs_int->aca,qualnameIn->acb,codeAny->ach,Builtin->aci,wpAny_updateSeq_pair->acj,backToKw->ack,wpAny_updateSeq->acp,letOwnedTupleGo->acq,codeAny_mono->acv,call_meetsIn->acw,TriplesOk->acy,closureFor->acz,wpAny_letGo->acD,foldedSetIterable->acE,Keyword->acK,wpAny_onRaise->acM,wpAny_attempt->acN,pyNext->acO,annotationsOf->acP,Comprehension->acR,wpAny_isInstance->acS,tupleKind->acT,noFill_tuple_add->acU,getMethod->acV,valueAt->ac4,standAt->ac5,builtinsNs->ac7,assignEach->ac8,BindsTo->adb,wpAny_specialOf->ade,wpAny_execs_nil->adf,subscripted->adk,isSubtype_stop->adl,holding->adq,getItem->ads,callerA->adt,wpAny_standAt->adx,seq_tuple_add->adz,behindInMarks->adA,wpAny_rule->adC,Paired->adD,seqIndex_neg->adE,concat_meets->adF,callWith->adG,Within->adH,updateSeq->adN,isTrue->adO,cellOf->adP,seqIndex_of->adQ,wpAny_call->adU,wpAny_Name->adV,typeLookup->adW,bindArgs->adX,assign->adY,call->adZ
open Nat renaming le_refl->Yt,lt_of_lt_of_le->YO,ne_of_lt->YZ,zero_add->Y2,le_trans->Zc,zero_le->Zr,ne_of_gt->Zx,add_right_comm->ZC,lt_succ_self->Z7,lt_irrefl->Z9,le_succ->aah,le_add_right->aaH,not_lt_zero->aaP,succ_mul->aaU,sub_succ_lt_self->aaV,mul_le_mul_right->aaW,lt_of_sub_eq_succ->abj,min_le_right->abx,le_of_lt->aby,min_le_left->abH,lt_trans->ab0,le_of_eq->acx,mul_le_mul->adp,add_comm->adI
open PySem.W renaming Frag->Yw,nsIn->YJ,mg_none_of->Y6,findIn->Y9,mg_of->Za,kia_one->ZG,emptyDict->ZW,tabIn->aau,CodeHd->aay,instObj->aaz,keepIn->aaL,tabObj->aa8,isFn->abd,plainGet->abw,callWith_K->abL,noTabs->abU,hasDictIn->abV,fnOf->abW,methodCall_KW->ab5,plainGet_of->acs,lookIn->acA,plainOver->acF,methodObj->acG,takerIn->adg,makesIn->adh,OpenLaw->adi,kla_fn->adm,kitOne->adn,codeIn->ado,fnX->adT
open PySem.NameKind renaming free->YK,cell->ZX
open Option renaming join_some->YM,map_some->Y5,bind_some->Zk,isNone_iff_eq_none->aal,isSome_map->abm,getD_none->acW
open Classical renaming byContradiction->YT,choose_spec->ab8,choose->ac2
open PySem.Value renaming ref->YW,none->aar,type->abc,bool->abK,str->ace,int->acf,float->adR
open Option.some renaming inj->Y0,injEq->acH
open PySem.Builtin.SmallTypes renaming nextOf->Y3,ownedTupleIsFree->ZY
open Function renaming comp_def->Y8
open Ne renaming symm->Zq
open PyProof.Rows renaming callWith_type1->Zu,kindOf->acd,AllBare->acL,envOfC->ac6,boot_list->adu,subscriptTail->ady
open PySem.Str renaming ofString->Zw
open False renaming elim->ZE
open PySem.Builtin.Tuple renaming tupleTooMany->ZR,tupleExact->aa4
open True renaming intro->ZU
open ForInStep renaming yield->Z4
open PySem.F renaming slot_tuple_iterator_next->aac,slot_int_rmul->aam,slot_enumerate_next->aaB,plain_extend_loop->aaN,slot_zip_next->abi,args_tuple_mul_2->abE,args_tuple_add_2->abF,plainAttrs_dict->abP,entry_tuple_mul->abQ,entry_tuple_add->abR,args_int_rmul_2->abS,slot_tuple_mul->abX,slot_tuple_add->abY,entry_int_rmul->abZ,fills_int_mul->ab6
open PySem.Calls renaming callWith_builtin->aaD,spliced_cons->abf,spliced_nil->ab3,evalArgs_plain->aco
open PySem.Builtin.List renaming listExtendWith->aaE
open PySem.Obj renaming mapSeq->aa1
open Array renaming length_toList->aa6,getElem?_toList->ab9
open Int renaming toNat_of_nonneg->acu,toNat->ac1
open PySem.Paired renaming length->acQ
open PySem.AutoSeq1 renaming idx_int->ac3
open PySem.PassesOwn renaming never->adj
open Sum renaming inr->adv,inl->adw
open PySem.Code renaming isFrame->adL
open PySem.Around renaming under->adM
open PySem.Shared renaming heap->adS
set_option hygiene false
namespace PySem.W.Fast
def tw568607637322548081:=0
def tw5745476017186287788:=0
def tw4203886046235402792:=0
def tw14219833077741286796:=0
def tw11151370674806157075:=0
def tw6490196068794657934:=0
def tw12367629134187700308:=0
def tw5455117356203608422:=0
def tw14991325196419586696:=0
def tw2400304279306672690:=0
def tw2134875491716139018:=0
def tw5490123491351356878:=0
def tw17737035857050759841:=0
def tw4111157036970500136:=0
def tw3765384149415840040:=0
def tw4556415888562245791:=0
def tw10049335235696689534:=0
def tw14443857150238473532:=0
def tw5152435347571073428:=0
def tw963385403390996632:=0
def tw17136636066200034288:=0
def tw12036173712557609622:=0
def tw3830592261691099837:=0
def tw1644684761219889346:=0
def tw14732007695383664986:=0
def tw8603720021057114480:=0
def tw1075482099144238492:=0
def tw15804914195949258477:=0
def tw1950005968798659367:=0
def tw6034978794342323293:=0
def tw13660135322803998722:=0
def tw13282737809355511193:=0
def tw5481938637277129014:=0
def tw8942534363895646418:=0
def tw7888729081635324733:=0
def tw7843968130629846704:=0
def tw8085918394156904110:=0
def tw8600570721889429316:=0
def tw13603382570092596530:=0
def tw5352551370970843045:=0
def tw4440631008020418094:=0
def tw3877045470287679763:=0
def tw11600135045972056225:=0
def tw16511910431880560886:=0
def tw1231336535981532866:=0
def tw2533575578134856841:=0
def tw4146968709335954589:=0
def tw13332610034809814484:=0
def tw1543133842768966691:=0
def tw2485262205350883309:=0
def tw14660275266093990308:=0
def tw3610487208089655175:=0
def tw8571398796029025521:=0
def tw7152664462143311908:=0
def tw11945512298035166752:=0
def tw10265136139928052998:=0
def tw17681998643678350590:=0
def tw3904349173133612325:=0
def tw5036521582060636494:=0
def tw3814136720331729376:=0
def tw13673672427640867896:=0
def tw5866301186764785101:=0
end PySem.W.Fast
local macro_rules|`(?A)=>`(m.length)
local macro_rules|`(?B)=>`((af X kt))
local macro_rules|`(?C)=>`(s.heap.objs.size)
local macro_rules|`(?D)=>`((by lia))
local macro_rules|`(?E)=>`((by simp))
local macro_rules|`(?G)=>`((model X.prog X.w))
local macro_rules|`(?H)=>`((mE X η N sc fp s3.heap.objs.size s3 (upd H2 s2.heap.objs.size (.lst []))))
local macro_rules|`(?I)=>`((k==YK&&env.scope.kind==.function&&env.kindOf n==Δ .cell))
local macro_rules|`(?J)=>`((room_here hu))
local macro_rules|`(?K)=>`((by decide+kernel))
local macro_rules|`(?L)=>`((callC Fs n))
local macro_rules|`(?M)=>`((callC Fs (n+1)))
local macro_rules|`(?N)=>`((.d (mD m)))
local macro_rules|`(?O)=>`(st.length)
local macro_rules|`(?P)=>`(h.mem.length)
local macro_rules|`(?Q)=>`(xs.length)
local macro_rules|`(?R)=>`((.cst (.int 1)))
local macro_rules|`(?S)=>`(ps.length)
local macro_rules|`(?T)=>`((by decide))
local macro_rules|`(?U)=>`(((ps.take j).map rw_))
local macro_rules|`(?V)=>`((.obj 0))
local macro_rules|`(?W)=>`((.int (k:Int)))
local macro_rules|`(?X)=>`((.var 0))
local macro_rules|`(?Y)=>`((.cst (.int 0)))
local macro_rules|`(?Z)=>`(s1.heap.objs.size)
local macro_rules|`(?Qa)=>`((tw S base tabs X.env.cells))
local macro_rules|`(?Qb)=>`((Addr×Obj))
local macro_rules|`(?Qc)=>`(((drawn x (7*k+5) % 3 % 2).toNat,(Yh w).map λl=>(drawn x (7*k+l) % (c:Int)).toNat))
local macro_rules|`(?Qd)=>`((show ∃v vs,us=v::vs/\aH K H m Z x v/\av K H m Z xs vs from h))
local macro_rules|`(?Qe)=>`((model prog w))
local macro_rules|`(?Qf)=>`((.d (.int (i:Int))))
local macro_rules|`(?Qg)=>`((encM (((h.mem.getD g []).filter λy=>decide (y∉ss.take i)).filter λy=>decide (y≠x))))
local macro_rules|`(?Qh)=>`(its.toArray)
local macro_rules|`(?Qi)=>`((show Ξ=Λ from h))
local macro_rules|`(?Qj)=>`((show ∃a us,v=.ref a/\Rd H a (.lst us)/\a∉m/\a∉Z/\av K H m Z xs us from h))
local macro_rules|`(?Qk)=>`((.var 1))
local macro_rules|`(?Ql)=>`(kvs.length)
local macro_rules|`(?Qm)=>`((.d (.int (w:Int))))
local macro_rules|`(?Qn)=>`((cM (i:=i) (by rw[T.N];exact T.nd) (by rw[T.N];exact hi) (T.wy hl) (T.Js hl)))
local macro_rules|`(?Qo)=>`((.d (.int (m.length:Nat))))
local macro_rules|`(?Qp)=>`((show ∃v vs,us=(x.1,v)::vs/\aj K H m Z x.2 v/\aO K H m Z xs vs from h))
local macro_rules|`(?Qq)=>`(s2.heap.objs.size)
local macro_rules|`(?Qr)=>`(((.inl (s:Int):Sum Int Str),P.d (.bl Λ)))
local macro_rules|`(?Qs)=>`((.d (.pl (T.map nD))))
local macro_rules|`(?Qt)=>`(((h.mem.getD g []).filter λs=>decide (s∉ss)))
local macro_rules|`(?Qu)=>`((Addr×List (Pos×Str)))
local macro_rules|`(?Qv)=>`((Δ (.d (mk ((step p).map K.enc)))))
local macro_rules|`(?Qw)=>`((show ∃a us,v=.ref a/\H a=Δ (.tup us)/\av K H m Z xs us from h))
local macro_rules|`(?Qx)=>`((.d (nD a)))
local macro_rules|`(?Qy)=>`((.obj bG.length))
local macro_rules|`(?Qz)=>`((if(k==YK)=Λ then(n,(env.cells.lookup n).getD 0)::cs else cs))
local macro_rules|`(?QA)=>`((.dK kvs))
local macro_rules|`(?QB)=>`((r0 (Δ (.d (wD u))) (Δ (.d (.int (walk m 0 u:Nat)))) Qq Θ))
local macro_rules|`(?QC)=>`((.var 2))
local macro_rules|`(?QD)=>`((show us=[] from h))
local macro_rules|`(?QE)=>`((.tup xs))
local macro_rules|`(?QF)=>`((show v=.bool b from q))
local macro_rules|`(?QG)=>`((.Call (.Name x p) (e::es) [] pos))
local macro_rules|`(?QH)=>`((∀c o,c≠z->c≠TO->c≠i1->c≠i2->s.heap.get? c=Δ o->h'.get? c=Δ o))
local macro_rules|`(?QI)=>`((.ListComp elt [⟨tg,iter,ifs,0⟩] sc pos))
local macro_rules|`(?QJ)=>`((r8 s.heap H (j0 X.stack)))
local macro_rules|`(?QK)=>`((.pl (((row m i).2.zip (row m j).2).map λq=>D.tup [nD q.1,nD q.2])))
local macro_rules|`(?QL)=>`((kvs.any λkv=>decide (kv.1=k)))
local macro_rules|`(?QM)=>`((show v=.none from q))
local macro_rules|`(?QN)=>`(((xs.length:Int) - 1))
local macro_rules|`(?QO)=>`((.inl rfl))
local macro_rules|`(?QP)=>`((ha η s σ H _ I h))
local macro_rules|`(?QQ)=>`((.ext φ))
local macro_rules|`(?QR)=>`((show ∃v vs,us=v::vs/\aj K H m Z p v/\ai K H m Z ps vs from h))
local macro_rules|`(?QS)=>`(((gP m w).map P.obj))
local macro_rules|`(?QT)=>`((.ref a))
local macro_rules|`(?QU)=>`((ap.endLine==cp.line))
local macro_rules|`(?QV)=>`((.bl Λ))
local macro_rules|`(?QW)=>`((I.aL.fresh (Yt _)))
local macro_rules|`(?QX)=>`((.lst xs))
local macro_rules|`(?QY)=>`((.lst us))
local macro_rules|`(?QZ)=>`((ha pos η s σ H _ I h))
local macro_rules|`(?Za)=>`(its.toArray.size)
local macro_rules|`(?Zb)=>`((bR ps (step p)))
local macro_rules|`(?Zc)=>`(h'.objs.size)
local macro_rules|`(?Zd)=>`(ys.length)
local macro_rules|`(?Ze)=>`((.call 0 [.var 1,.var 0]))
local macro_rules|`(?Zf)=>`((.d (nD t)))
local macro_rules|`(?Zg)=>`((T' η fp Cc s H))
local macro_rules|`(?Zh)=>`((encL (h.wait++[g])))
local macro_rules|`(?Zi)=>`((by simp[z]))
local macro_rules|`(?Zj)=>`((.bl Ξ))
local macro_rules|`(?Zk)=>`((ah C eb))
local macro_rules|`(?Zl)=>`((by simpa using hi))
local macro_rules|`(?Zm)=>`((by simpa using hj))
set_option hygiene true
theorem qqq{p:Prop}[Decidable p]:(decide p=Bool.true)=p:=decide_eq_true_eq
theorem qqz{A:Type u}{l:List A}{i:Nat}{a:A}(h:l[i]?=Option.some a):∃h:i<l.length,l[i]=a:=List.getElem?_eq_some_iff.mp h
theorem ft{g:Prop}(h:Ξ=Λ):g:=Bool.noConfusion h
namespace L2
open PySem PySem.Spec PyProof.Rows
abbrev Key:=Sum Int Str
noncomputable def wU:Key->Value->Bool
 |.inl k,v=>Value.isInt k v|.inr x,v=>Value.isStrOf x v
noncomputable def Vg(w:World):Key->Int
 |.inl k=>hashInt k|.inr x=>hashStr w x
theorem cb:∀{k} {v},wU k v=Λ->(∃i t,k=adw i/\v=acf i t)\/(∃x t,k=adv x/\v=ace x t)
 |.inl i,v,h=>by obtain⟨t,e⟩:=Value.isInt_shape (k:=i) (v:=v) h;exact .inl ⟨i,t,rfl,e⟩|.inr x,v,h=>by obtain⟨t,e⟩:=Value.isStrOf_shape (x:=x) (v:=v) h;exact .inr ⟨x,t,rfl,e⟩
theorem EA i t:wU (.inl i) (.int i t)=Λ:=by simp[wU,Value.isInt]
theorem EB x t:wU (.inr x) (.str x t)=Λ:=by simp[wU,Value.isStrOf]
theorem ML a b:decide ((adw a:Key)=adw b)=(a==b):=by
 by_cases e:a=b;·subst e;simp
 ·have h:¬(adw a:Key)=adw b:=λq=>e (adw.inj q);rw[decide_eq_false h];exact(beq_eq_false_iff_ne.mpr e).symm
theorem MM a b:decide ((adv a:Key)=adv b)=decide (a=b):=by
 by_cases e:a=b;·subst e;simp
 ·have h:¬(adv a:Key)=adv b:=λq=>e (adv.inj q);rw[decide_eq_false h,decide_eq_false e]
theorem MN a b:decide ((adw a:Key)=adv b)=Ξ:=decide_eq_false (λq=>nomatch q)
theorem MO a b:decide ((adv a:Key)=adw b)=Ξ:=decide_eq_false (λq=>nomatch q)
def bh(prog:Zm)(w:World):PySem.KeyKind prog w Key where
 is:=wU
 hash:=Vg w
 inj:=λv a b ha hb=>by
  rcases cb ha with ⟨i,t,rfl,rfl⟩|⟨x,t,rfl,rfl⟩
  ·rcases cb hb with ⟨j,u,rfl,e⟩|⟨y,u,rfl,e⟩
   ·injection e with e1 _;rw[e1]
   ·exact nomatch e
  ·rcases cb hb with ⟨j,u,rfl,e⟩|⟨y,u,rfl,e⟩
   ·exact nomatch e
   ·injection e with e1 _;rw[e1]
 byValue:=λk v h=>by rcases cb h with ⟨i,t,rfl,rfl⟩|⟨x,t,rfl,rfl⟩<;>rfl
 pyHash:=λhv h=>by
  rcases cb hv with ⟨i,t,rfl,rfl⟩|⟨x,t,rfl,rfl⟩
  ·exact wpAny_pyHash_int h
  ·exact wpAny_pyHash_str h
 eqBool:=λhu hv h=>by
  rcases cb hu with ⟨i,t,rfl,rfl⟩|⟨x,t,rfl,rfl⟩
  ·rcases cb hv with ⟨j,u,rfl,rfl⟩|⟨y,u,rfl,rfl⟩
   ·rw[ML] at h;exact wpAny_eqBool_int h
   ·rw[MN] at h;exact SeqAt.EqAt.int_str i t y u _ _ _ _ h
  ·rcases cb hv with ⟨j,u,rfl,rfl⟩|⟨y,u,rfl,rfl⟩
   ·rw[MO] at h;exact SeqAt.EqAt.str_int x t j u _ _ _ _ h
   ·rw[MM] at h;exact wpAny_eqBool_str h
 «strs»:=λk x t v h=>by
  rcases cb h with ⟨i,u,rfl,e⟩|⟨y,u,rfl,e⟩
  ·exact nomatch e
  ·injection e with e1 _;subst e1;cases v<;>rfl
theorem zQ prog w i t:(bh prog w).is (.inl i) (.int i t)=Λ:=EA i t
theorem zR prog w x t:(bh prog w).is (.inr x) (.str x t)=Λ:=EB x t
inductive V where
 |bC|bl (b:Bool)|int (i:Int)|str (x:Str)|PU (b:Array UInt8)|MP (b:UInt64)|ref (a:Addr)|ty (n:String)
 deriving DecidableEq
noncomputable def RelV:V->Value->Prop
 |.bC,u=>u=aar|.bl b,u=>u=abK b|.int i,u=>∃t,u=acf i t|.str x,u=>∃t,u=ace x t|.PU b,u=>∃t,u=Value.bytes b t|.MP b,u=>∃t,u=adR b t|.ref a,u=>u=YW a|.ty n,u=>u=abc n
abbrev aU:List V->List Value->Prop:=adD RelV
theorem aU.length(r:aU xs us):?Q=us.length:=acQ r
theorem aU.get:∀{xs} {us} {i:Nat} {x},aU xs us->xs[i]?=Δ x->∃u,us[i]?=Δ u/\RelV x u
 |_,_,_,_,.nil,e=>by simp at e|_,_,0,_,.cons r _,e=>by simp at e;subst e;exact⟨_,rfl,r⟩|_,_,i+1,x,.cons _ t,e=>by obtain⟨u,h1,h2⟩:=aU.get (i:=i) (x:=x) t (by simpa using e);exact⟨u,by simpa using h1,h2⟩
theorem aU.set(r:RelV x u):∀{xs} {us} (i),aU xs us->aU (xs.set i x) (us.set i u)
 |_,_,_,.nil=>.nil|_,_,0,.cons _ t=>.cons r t|_,_,i+1,.cons q t=>.cons q (aU.set r i t)
theorem aU.append:∀{xs ys} {us ws},aU xs us->aU ys ws->aU (xs++ys) (us++ws)
 |_,_,_,_,.nil,s=>s|_,_,_,_,.cons r t,s=>.cons r (aU.append t s)
theorem aU.take:∀{xs} {us} (n),aU xs us->aU (xs.take n) (us.take n)
 |_,_,0,_=>.nil|_,_,_+1,.nil=>.nil|_,_,n+1,.cons r t=>.cons r (aU.take n t)
theorem aU.drop:∀{xs} {us} (n),aU xs us->aU (xs.drop n) (us.drop n)
 |_,_,0,r=>r|_,_,_+1,.nil=>.nil|_,_,n+1,.cons _ t=>aU.drop n t
def kW:Option V->Option Value->Prop
 |some v,Δ u=>RelV v u|none,Θ=>True|_,_=>False
def KV{κ:Type}:List (κ×V)->List (κ×Value)->Prop:=adD λ(p:κ×V) (q:κ×Value)=>p.1=q.1/\RelV p.2 q.2
def kV:Key->V
 |.inl i=>.int i|.inr x=>.str x
inductive HO where
 |lst (xs:List V)
 |tup (xs:List V)
 |dK (kvs:List (Key×V))|dT (kvs:List (List Key×V))
 |set (S:Int->Bool) (n:Nat)
 |ins (C dx:Addr) (fs:List (Str×V))
 |own (x:Addr)
 |xd (fs:List (Str×V))
 |met (f x:Addr)
 |fR (lo hi:Int)
 |dA (o:Obj) (u:HO)
 |fO (ps:Array Value)
 |ext (φ:Heap->Prop)
abbrev Hp:=Addr->Option HO
noncomputable def upd(H:Hp)(a:Addr)(o:HO):Hp:=λb=>if b=a then Δ o else H b
theorem aD:upd H a o a=Δ o:=by unfold upd;rw[if_pos rfl]
theorem ax(h:b≠a):upd H a o b=H b:=by unfold upd;rw[if_neg h]
theorem Ds:upd (upd H a o) a u=upd H a u:=by funext b;unfold upd;split<;>rfl
theorem LV{H:Hp}(h:H a=Δ o)(h':H b=Δ u)(d:o≠u):a≠b:=by intro e;subst e;rw[h] at h';exact d (Y0 h')
theorem aN{H:Hp}(h:H a=Δ o)(h':H b=Θ):a≠b:=by intro e;subst e;rw[h] at h';cases h'
section
variable(P:Zm)(w:World)
def bL(H:Hp)(h:Heap)(a:Addr):HO->Prop
 |.lst xs=>?Q<=YQ/\∃(its:List Value) (n:Nat),aU xs its/\h.get? a=Δ {cls:=.type "list",data:=.seq ?Qh n}|.tup xs=>?Q<=YQ/\∃its:List Value,aU xs its/\IsTup h a ?Qh|.dK kvs=>?Ql<=YQ/\(a==aab)=Ξ/\∃vs,KV kvs vs/\h.DictOf (bh P w) a vs
 |.dT kvs=>?Ql<=YQ/\(a==aab)=Ξ/\∃xs:List (List Key×Addr×Value),
   adD (λ(p:List Key×V) (q:List Key×Addr×Value)=>p.1=q.1/\H q.2.1=Δ (.tup (p.1.map kV))/\RelV p.2 q.2.2) kvs xs/\
   ∃o es ep,h.get? a=Δ o/\o.ExactDict/\o.data=.dict es ep/\es.toList=xs.map (entryOfKey (acT (bh P w)))/\(xs.map (·.1)).Nodup
 |.set S n=>h.SetOf (intKind P w) a S n
 |.ins C dx fs=>H dx=Δ (.own a)/\fs.length<=1000/\dx≠a/\h.get? a=Δ (aaz C dx)/\
   ∃mA,h.Ns1 dx mA/\(∀f,kW (fs.lookup f) (mA f))/\adH mA (fs.map (·.1))
 |.own _=>∃o,h.get? a=Δ o|.xd fs=>∃mA,h.Ns1 a mA/\∀f,kW (fs.lookup f) (mA f)|.fR lo hi=>∃t u v,h.get? a=Δ {cls:=.type "range",data:=.fields #[.int lo t,.int hi u,.int 1 v]}|.dA o u=>h.get? a=Δ o/\bL H h a u|.fO ps=>h.get? a=Δ {cls:=.none,data:=.fields ps}|.met f x=>h.get? a=Δ (acG (.ref f) (.ref x))|.ext φ=>φ h/\(∃o,h.get? a=Δ o)/\∀h1 h2:Heap,φ h1->(∀o,h1.get? a=Δ o->h2.get? a=Δ o)->φ h2
def kX(H:Hp)(h:Heap):Prop:=∀a o,H a=Δ o->bL P w H h a o
end
section
variable{P:Zm}{w:World}{H H':Hp}{h h':Heap}{a:Addr}{o:HO}
theorem bL.lt(x:bL P w H h a o):a < h.objs.size:=by cases o with|lst xs=>obtain⟨_,_,_,_,e⟩:=x;exact YE e|tup xs=>obtain⟨_,_,_,p⟩:=x;exact p.lt|dK kvs=>obtain⟨_,_,_,_,o,_,_,e,_⟩:=x;exact YE e|dT kvs=>obtain⟨_,_,_,_,o,_,_,e,_⟩:=x;exact YE e|set S n=>obtain⟨o,_,_,_,e,_⟩:=x;exact YE e|ins C dx fs=>obtain⟨_,_,_,e,_⟩:=x;exact YE e|own y=>obtain⟨_,e⟩:=x;exact YE e|xd fs=>obtain⟨_,⟨_,_,_,e,_⟩,_⟩:=x;exact YE e|fR lo hi=>obtain⟨_,_,_,e⟩:=x;exact YE e|dA ob u=>obtain⟨e,_⟩:=x;exact YE e|fO ps=>exact YE (show h.get? a=Δ _ from x)|met f y=>exact YE (show h.get? a=Δ _ from x)|ext φ=>obtain⟨_,⟨_,e⟩,_⟩:=x;exact YE e
theorem adD.MQ:∀{Gf} {Gg},adD F Gf Gg->(∀a b,F a b->G a b)->adD G Gf Gg
 |_,_,.nil,_=>.nil|_,_,.cons r t,f=>.cons (f _ _ r) (adD.MQ t f)
theorem bL.n8(x:bL P w H h a o)(k:∀b u,(b=a\/H b=Δ (.own a))->h.get? b=Δ u->h'.get? b=Δ u)
  (ho:∀b,H b=Δ (.own a)->H' b=Δ (.own a)) (ht:∀b xs,H b=Δ ?QE->H' b=Δ ?QE):bL P w H' h' a o:=by
 induction o with
 |lst xs=>obtain⟨z,its,n,r,e⟩:=x;exact⟨z,its,n,r,k _ _ ?QO e⟩|tup xs=>obtain⟨z,its,r,ob,e,c⟩:=x;exact⟨z,its,r,ob,k _ _ ?QO e,c⟩|dK kvs=>obtain⟨z,y,vs,r,ob,es,ep,e,c⟩:=x;exact⟨z,y,vs,r,ob,es,ep,k _ _ ?QO e,c⟩|dT kvs=>obtain⟨z,y,xs,r,ob,es,ep,e,c⟩:=x;exact⟨z,y,xs,adD.MQ r λp q z=>⟨z.1,ht _ _ z.2.1,z.2.2⟩,ob,es,ep,k _ _ ?QO e,c⟩
 |set S n=>obtain⟨ob,es,ep,t,e,c⟩:=x;exact⟨ob,es,ep,t,k _ _ ?QO e,c⟩|ins C dx fs=>obtain⟨d,z,ne,e,mA,⟨od,es,ep,e2,c⟩,r⟩:=x;exact⟨ho _ d,z,ne,k _ _ ?QO e,mA,⟨od,es,ep,k _ _ (.inr d) e2,c⟩,r⟩
 |own y=>obtain⟨ob,e⟩:=x;exact⟨ob,k _ _ ?QO e⟩|xd fs=>obtain⟨mA,⟨od,es,ep,e,c⟩,r⟩:=x;exact⟨mA,⟨od,es,ep,k _ _ ?QO e,c⟩,r⟩|fR lo hi=>obtain⟨t,u,v,e⟩:=x;exact⟨t,u,v,k _ _ ?QO e⟩|dA ob u ih=>obtain⟨e,q⟩:=x;exact⟨k _ _ ?QO e,ih q⟩|fO ps=>have e:h.get? a=Δ {cls:=.none,data:=.fields ps}:=x;show h'.get? a=Δ {cls:=.none,data:=.fields ps};exact k a _ ?QO e
 |met f y=>have e:h.get? a=Δ (acG (.ref f) (.ref y)):=x;show h'.get? a=Δ (acG (.ref f) (.ref y));exact k a _ ?QO e|ext φ=>obtain⟨p,⟨o,e⟩,st⟩:=x;exact⟨st _ _ p λo q=>k _ _ ?QO q,⟨o,k _ _ ?QO e⟩,st⟩
theorem kX.lt(x:kX P w H h)(e:H a=Δ o):a < h.objs.size:=(x a o e).lt
theorem kX.fresh(x:kX P w H h)(e:h.objs.size<=a):H a=Θ:=by cases q:H a with|none=>rfl|some u=>exact absurd (YO (x.lt q) e) (Z9 _)
theorem kX.kept(x:kX P w H h)(k:∀b u,h.get? b=Δ u->h'.get? b=Δ u):kX P w H h':=λa o e=>(x a o e).n8 (λb u _ q=>k b u q) (λ_ q=>q) λ_ _ q=>q
theorem kX.laid(x:kX P w H h)(k:∀b u,h.get? b=Δ u->h'.get? b=Δ u)(hp:h.objs.size<=a)(new:bL P w (upd H a o) h' a o):kX P w (upd H a o) h':=λb u e=>by
 have hn:=x.fresh hp;by_cases hb:b=a;·subst hb;rw[aD] at e;cases e;exact new
 ·rw[ax hb] at e;exact(x b u e).n8 (λc v _ q=>k c v q) (λc q=>by rw[ax (aN q hn)];exact q) λc xs q=>by rw[ax (aN q hn)];exact q
end
noncomputable def Rd(H:Hp)(a:Addr)(u:HO):Prop:=H a=Δ u\/∃o,H a=Δ (.dA o u)
theorem Rd.ok(r:Rd H a u)(x:kX P w H h):bL P w H h a u:=by
 rcases r with r|⟨o,r⟩;·exact x a u r
 ·obtain⟨_,q⟩:=x a _ r;exact q
noncomputable def Qs:Option HO->Prop
 |some (.lst _)=>True|some (.dK _)=>True|some (.dT _)=>True|some (.set _ _)=>True|some (.ins _ _ _)=>True|some (.ext _)=>True|_=>False
section
variable{P:Zm}{w:World}{H:Hp}{h h':Heap}{x e:Addr}{o':HO}
theorem kX.write(ok:kX P w H h)(mu:Qs (H x))(he:e=x\/H e=Δ (.own x))(k:∀b u,b≠e->h.get? b=Δ u->h'.get? b=Δ u)(PV:∃u,h'.get? e=Δ u)
  (new:bL P w (upd H x o') h' x o'):kX P w (upd H x o') h':=λb u q=>by
 have Qt:∀c y,H c=Δ (.own y)->c≠x:=λc y r z=>by subst z;rw[r] at mu;exact mu
 have Vh:∀c xs,H c=Δ ?QE->c≠x:=λc xs r z=>by subst z;rw[r] at mu;exact mu
 by_cases hb:b=x;·subst hb;rw[aD] at q;cases q;exact new
 ·rw[ax hb] at q;by_cases MR:b=e
  ·have q':H b=Δ (.own x):=by
    rcases he with z|z;·exact absurd (MR.trans z) hb
    ·rw[MR];exact z
   rw[q] at q';cases q';obtain⟨v,hv⟩:=PV;exact⟨v,by rw[MR];exact hv⟩
  ·refine(ok b u q).n8 (λc v hc r=>k c v ?_ r) (λc r=>by rw[ax (Qt c b r)];exact r) λc xs r=>by rw[ax (Vh c xs r)];exact r
   rcases hc with rfl|hc;·exact MR
   ·rintro rfl;rcases he with z|z;·exact Qt c b hc z
    ·rw[hc] at z;cases z;exact hb rfl
end
structure Un(fs ex:List Addr)(H H':Hp)(h h':Heap):Prop where
 keep:∀b o,h.get? b=Δ o->H b=Θ->b∉fs->b∉ex->h'.get? b=Δ o
 slot:∀b o,h.get? b=Δ o->H b=Θ->b∈fs->b∉ex->∃sl,h'.get? b=Δ {o with slots:=sl}
 free:∀b o,h.get? b=Δ o->H b=Θ->b∉ex->H' b=Θ
 there:∀b o,h.get? b=Δ o->b∉ex->∃o',h'.get? b=Δ o'
 tI:∀b xs,H b=Δ ?QE->H' b=Δ ?QE
 pU:∀b o u,H b=Δ (.dA o u)->H' b=Δ (.dA o u)
 rT:∀b ps,H b=Δ (.fO ps)->∃more,H' b=Δ (.fO (ps++more))
section
variable{fs fs' ex ex':List Addr}{H H1 H2:Hp}{h h1 h2 h':Heap}{a x e:Addr}{o:HO}
theorem Un.any(u:Un fs ex H H1 h h1)(q:h.get? b=Δ ob)(n:H b=Θ)(hx:b∉ex):∃sl,h1.get? b=Δ {ob with slots:=sl}:=by
 by_cases hb:b∈fs;·exact u.slot b ob q n hb hx
 ·exact⟨ob.slots,u.keep b ob q n hb hx⟩
theorem Un.kept(k:∀b u,h.get? b=Δ u->h'.get? b=Δ u):Un fs ex H H h h':=
 ⟨λb ob q _ _ _=>k b ob q,λb ob q _ _ _=>⟨ob.slots,k b ob q⟩,λ_ _ _ n _=>n,λb ob q _=>⟨ob,k b ob q⟩,λ_ _ q=>q,λ_ _ _ q=>q,λ_ ps q=>⟨#[],by rw[q];simp⟩⟩
theorem Un.refl:Un fs ex H H h h:=Un.kept λ_ _ q=>q
theorem Un.laid(k:∀b u,h.get? b=Δ u->h'.get? b=Δ u)(hp:h.objs.size<=a)(hn:H a=Θ):Un fs ex H (upd H a o) h h' where
 keep:=λb u q _ _ _=>k b u q
 slot:=λb u q _ _ _=>⟨u.slots,k b u q⟩
 free:=λb u q n _=>by rw[ax (YZ (YO (YE q) hp))];exact n
 there:=λb u q _=>⟨u,k b u q⟩
 tI:=λb xs q=>by rw[ax (aN q hn)];exact q
 pU:=λb u xs q=>by rw[ax (aN q hn)];exact q
 rT:=λb ps q=>⟨#[],by rw[ax (aN q hn),q];simp⟩
theorem Un.write(mu:Qs (H x))(he:e=x\/H e=Δ (.own x))(k:∀b u,b≠e->h.get? b=Δ u->h'.get? b=Δ u)(PV:∃u,h'.get? e=Δ u):Un fs ex H (upd H x o) h h':=by
 have hx:∀b,H b=Θ->b≠x:=λb n z=>by subst z;rw[n] at mu;exact mu
 have hb:∀b,H b=Θ->b≠e:=λb n z=>by
  subst z;rcases he with r|r;·exact hx b n r
  ·rw[n] at r;cases r
 have hm:∀b u,H b=Δ u->¬Qs (Δ u)->b≠x:=λb u q nm z=>by subst z;rw[q] at mu;exact nm mu
 refine⟨λb u q n _ _=>k b u (hb b n) q,λb u q n _ _=>⟨u.slots,k b u (hb b n) q⟩,λb u q n _=>by rw[ax (hx b n)];exact n,λb u q _=>?_,
  λb xs q=>by rw[ax (hm b _ q λz=>z)];exact q,λb u xs q=>by rw[ax (hm b _ q λz=>z)];exact q,λb ps q=>⟨#[],by rw[ax (hm b _ q λz=>z),q];simp⟩⟩
 by_cases MR:b=e;·subst MR;exact PV
 ·exact⟨u,k b u MR q⟩
end
noncomputable def rU(h:Heap)(H:Hp):List Addr:=(Yh h.objs.size).filter λa=>(H a).isSome
def rV(h:Heap)(H:Hp):Heap:=PySem.W.hideAll h (rU h H)
theorem wW h H:(rV h H).objs.size=h.objs.size:=PySem.W.hideAll_size _ _
theorem zS(e:h.get? b=Δ o)(n:H b=Θ):(rV h H).get? b=Δ o:=
 PySem.W.hideAll_get _ e λhm=>by have q:(H b).isSome=Λ:=(Zg.mp hm).2;rw[n] at q;simp at q
theorem Dt(e:(rV h H).get? b=Δ o):h.get? b=Δ o/\H b=Θ:=by have e':h.get? b=Δ o:=PySem.W.of_hideAll (rU h H) e;refine⟨e',?_⟩;cases q:H b with|none=>rfl|some x=>have hm:b∈rU h H:=Zg.mpr ⟨Zp.mpr (YE e'),by simp[q]⟩;have z:(rV h H).get? b=Θ:=PySem.W.hideAll_none (rU h H) hm;rw[z] at e;cases e
structure Mod(K:Yw)(mg:Str->Option Value)(base:Heap):Prop where
 MS:K.In base
 glob:base.Ns YB mg
 blt:∃mb,base.Ns ac7 mb/\∀x:Str,x≠"__name__"->mb x=abv x
 nolimit:base.NoLimit
structure Cx where
 prog:Zm
 w:World
 K:Yw
 mg:Str->Option Value
 base:Heap
 A:ZS
 N:List Str
 ig:YG
 zT:Hp
 env:Env
 outer:List Env
 stack:List Env
 ex:List Addr
 fn:Str->Bool
 calm:Bool
 pn:List ?Qb
 xe:Value->YG->Prop
def j0(l:List Env):List Addr:=l.filterMap (·.frame)
abbrev Cx.fs(X:Cx):List Addr:=j0 X.outer
def Qu(sc:Scope)(x:Str):Prop:=sc.names.lookup x=Δ .local\/sc.names.lookup x=Δ .cell\/sc.names.lookup x=Δ .free
def Loc(sc:Scope)(x:Str):Prop:=sc.names.lookup x=Δ .local\/sc.names.lookup x=Δ .cell
def Look(env:Env)(h:Heap)(m:Str->Option Value)(x:Str)(u:Value):Prop:=
 (env.kindOf x=Δ .local/\m x=Δ u)\/((env.kindOf x=Δ .cell\/env.kindOf x=Δ .free)/\∃c,env.cells.lookup x=Δ c/\h.IsCell c (Δ u))
structure Cx.Ok(X:Cx):Prop where
 mod:Mod X.K X.mg X.base
 kind:X.env.scope.kind=.function
 glob:X.env.globals=YB
 blt:X.env.builtins=ac7
 above:X.ig.heap.objs.size<=X.env.locals
 inj:∀x y c,X.env.cells.lookup x=Δ c->X.env.cells.lookup y=Δ c->x=y
 has:∀x,(X.env.kindOf x=Δ .cell\/X.env.kindOf x=Δ .free)->∃c,X.env.cells.lookup x=Δ c
 MT:∀x c,X.fn x=Λ->X.env.cells.lookup x=Δ c->X.ig.heap.objs.size<=c
 hd:X.calm=Λ->X.A.handled=Θ
 frames:X.A.frames=Δ X.stack
 Qv:X.stack=X.outer\/(X.stack=X.env::X.outer/\X.env.frame=Δ X.env.locals)
 Vi:∀b∈X.ex,b≠X.env.locals/\∀x c,X.env.cells.lookup x=Δ c->c≠b
 bs:∀b o,X.base.get? b=Δ o->X.ig.heap.get? b=Δ o/\X.zT b=Θ
 Ga:X.base.objs.size<=X.ig.heap.objs.size
 EC:∀b o,X.base.get? b=Δ o->b∉X.ex
 Gh:∀b∈X.ex,b∉X.fs
 m7:X.ig.heap.FunFrames X.base X.outer
 Jz:∀b∈X.fs,X.zT b=Θ
structure Inv(X:Cx)(η:List ?Qb)(σ:List (Option V))(H:Hp)(s:YG):Prop where
 ok:X.Ok
 os:s.os=X.ig.os
 bare:acL s.gens
 base:Un X.fs X.ex X.zT H X.ig.heap s.heap
 loc:∃m,s.heap.Ns X.env.locals m/\∀(i:Nat) (x:Str) (v:V),X.N[i]?=Δ x->σ[i]?=Δ (Δ v)->Qu X.env.scope x->∃u,RelV v u/\Look X.env s.heap m x u
 cell:∀x c,X.env.cells.lookup x=Δ c->∃v,s.heap.IsCell c v
 free:H X.env.locals=Θ
 kJ:∀x c,X.env.cells.lookup x=Δ c->H c=Θ
 pin:∀p∈X.pn++η,s.heap.get? p.1=Δ p.2/\H p.1=Θ/\p.1≠X.env.locals/\p.1∉X.fs/\∀v,p.2.data≠.cell v
 aL:kX X.prog X.w H s.heap
 len:σ.length=X.N.length
section
variable{X:Cx}{η:List ?Qb}{σ:List (Option V)}{H H':Hp}{s:YG}{h':Heap}
theorem Cx.Ok.JA(ok:X.Ok)(e:X.base.get? b=Δ o):b∉X.fs:=λhb=>by have:=(ok.m7.mem hb).1;rw[e] at this;cases this
theorem Inv.bs(I:Inv X η σ H s):∀b o,X.base.get? b=Δ o->s.heap.get? b=Δ o/\H b=Θ:=λb o e=>⟨I.base.keep b o (I.ok.bs b o e).1 (I.ok.bs b o e).2 (I.ok.JA e) (I.ok.EC b o e),I.base.free b o (I.ok.bs b o e).1 (I.ok.bs b o e).2 (I.ok.EC b o e)⟩
theorem Inv.bk(I:Inv X η σ H s):∀b o,X.base.get? b=Δ o->s.heap.get? b=Δ o:=λb o e=>(I.bs b o e).1
theorem Inv.mod(I:Inv X η σ H s):Mod X.K X.mg X.base:=I.ok.mod
theorem Inv.n9(I:Inv X η σ H s):X.K.In s.heap:=I.ok.mod.MS.keeps I.bk
theorem Inv.lt(I:Inv X η σ H s):X.env.locals < s.heap.objs.size:=let ⟨_,hn,_⟩:=I.loc;hn.lt
theorem Inv.sz(I:Inv X η σ H s):X.ig.heap.objs.size<=s.heap.objs.size:=Zc I.ok.above (aby I.lt)
theorem Inv.Vj(I:Inv X η σ H s)(h:?C<=a):a∉X.fs:=λhb=>by obtain⟨_,o,ho,_⟩:=I.ok.m7.mem hb;exact absurd (YO (YE ho) (Zc I.sz h)) (Z9 _)
theorem Inv.LW(I:Inv X η σ H s):∀x c,X.env.cells.lookup x=Δ c->c≠X.env.locals:=λx c e z=>by obtain⟨v,o,ho,hd⟩:=I.cell x c e;obtain⟨m,⟨o',es,ep,pV,Du,_⟩,_⟩:=I.loc;rw[z,pV] at ho;cases ho;rw[Du] at hd;cases hd
theorem Inv.m7(I:Inv X η σ H s):s.heap.FunFrames X.base X.outer:=by
 have all:∀(l:List Env),(∀b∈j0 l,b∈X.fs)->X.ig.heap.FunFrames X.base l->s.heap.FunFrames X.base l:=by intro l;induction l with|nil=>intro _ _;trivial|cons env r ih=>intro hs hl;obtain⟨hk,⟨L,o,hf,hn,ho,hd⟩,hr⟩:=hl;have hL:L∈X.fs:=hs L (by unfold j0;rw[aa5,hf];exact Yk);obtain⟨sl,e⟩:=I.base.slot L o ho (I.ok.Jz L hL) hL λz=>I.ok.Gh L z hL;exact⟨hk,⟨L,_,hf,hn,e,hd⟩,ih (λb hb=>hs b (by unfold j0;rw[aa5,hf];exact Yi _ hb)) hr⟩
 exact all X.outer (λ_ hb=>hb) I.ok.m7
theorem Inv.stack(I:Inv X η σ H s):s.heap.FunFrames X.base X.stack:=by
 rcases I.ok.Qv with e|⟨e,hf⟩;·rw[e];exact I.m7
 ·rw[e];obtain⟨m,hn,_⟩:=I.loc;refine .cons (by rw[I.ok.kind];decide) hf hn ?_ I.m7;exact Heap.get?_none_of_le (Zc I.ok.Ga I.ok.above)
theorem Inv.pW(I:Inv X η σ H s):∀b∈j0 X.stack,b∈X.env.locals::X.fs:=λb hb=>by
 rcases I.ok.Qv with e|⟨e,hf⟩;·rw[e] at hb;exact Yi _ hb
 ·rw[e] at hb;unfold j0 at hb;rw[aa5,hf] at hb;exact hb
theorem Inv.oa(I:Inv X η σ H s):∀b∈j0 X.stack,H b=Θ:=λb hb=>by
 rcases aa2.mp (I.pW b hb) with e|hb;·rw[e];exact I.free
 ·obtain⟨_,o,ho,_⟩:=I.ok.m7.mem hb;exact I.base.free b o ho (I.ok.Jz b hb) λz=>I.ok.Gh b z hb
theorem Inv.step{ch:List Addr}(I:Inv X η σ H s)(Ji:∀b∈ch,(b∈X.ex\/X.ig.heap.objs.size<=b)/\b≠X.env.locals/\(∀x c,X.env.cells.lookup x=Δ c->c≠b)/\∀p∈X.pn++η,p.1≠b)(keep:∀b o,b≠X.env.locals->b∉X.fs->b∉ch->s.heap.get? b=Δ o->H b=Θ->h'.get? b=Δ o)(slot:∀b o,b≠X.env.locals->b∈X.fs->b∉ch->s.heap.get? b=Δ o->H b=Θ->∃sl,h'.get? b=Δ {o with slots:=sl})(free:∀b o,b∉ch->s.heap.get? b=Δ o->H b=Θ->H' b=Θ)(there:∀b o,b∉ch->s.heap.get? b=Δ o->∃o',h'.get? b=Δ o')(tI:∀b xs,H b=Δ ?QE->H' b=Δ ?QE)(pU:∀b o u,H b=Δ (.dA o u)->H' b=Δ (.dA o u))(rT:∀b ps,H b=Δ (.fO ps)->∃more,H' b=Δ (.fO (ps++more)))(ns:∀m,s.heap.Ns X.env.locals m->h'.Ns X.env.locals m)(aL:kX X.prog X.w H' h')(hg:acL g'):
  Inv X η σ H' {s with heap:=h',gens:=g',drawn:=d',toks:=t'}:=by
 have neL:∀b o,X.ig.heap.get? b=Δ o->b≠X.env.locals:=λb o e=>YZ (YO (YE e) I.ok.above);have T5:∀b o,X.ig.heap.get? b=Δ o->b∉X.ex->b∉ch:=λb o e hx hb=>by
  rcases(Ji b hb).1 with z|z;·exact hx z
  ·exact absurd (YO (YE e) z) (Z9 _)
 have cellK:∀x c,X.env.cells.lookup x=Δ c->∀v,s.heap.IsCell c v->h'.IsCell c v:=λx c e v ⟨o,ho,hd⟩=>by
  have Qw:c∉ch:=λz=>(Ji c z).2.2.1 x c e rfl;by_cases hc:c∈X.fs;·obtain⟨sl,q⟩:=slot c o (I.LW x c e) hc Qw ho (I.kJ x c e);exact⟨_,q,hd⟩
  ·exact⟨o,keep c o (I.LW x c e) hc Qw ho (I.kJ x c e),hd⟩
 refine⟨I.ok,I.os,hg,⟨λb o e n hb hx=>?_,λb o e n hb hx=>?_,λb o e n hx=>?_,λb o e hx=>?_,λb xs e=>tI b xs (I.base.tI b xs e),λb o xs e=>pU b o xs (I.base.pU b o xs e),λb ps e=>?_⟩,?_,λx c e=>?_,?_,λx c e=>?_,λp hp=>?_,aL,I.len⟩;·exact keep b o (neL b o e) hb (T5 b o e hx) (I.base.keep b o e n hb hx) (I.base.free b o e n hx)
 ·obtain⟨sl,e1⟩:=I.base.slot b o e n hb hx;obtain⟨sl',e2⟩:=slot b _ (neL b o e) hb (T5 b o e hx) e1 (I.base.free b o e n hx);exact⟨sl',e2⟩
 ·obtain⟨o',e1⟩:=I.base.there b o e hx;exact free b o' (T5 b o e hx) e1 (I.base.free b o e n hx)
 ·obtain⟨o',e1⟩:=I.base.there b o e hx;exact there b o' (T5 b o e hx) e1
 ·obtain⟨m1,e1⟩:=I.base.rT b ps e;obtain⟨m2,e2⟩:=rT b _ e1;exact⟨m1++m2,by rw[e2,Array.append_assoc]⟩
 ·obtain⟨m,hn,hl⟩:=I.loc;refine⟨m,ns m hn,λi x v e1 e2 e3=>?_⟩;obtain⟨u,r,l⟩:=hl i x v e1 e2 e3;refine⟨u,r,?_⟩;rcases l with l|⟨k,c,e,z⟩;·exact .inl l
  ·exact .inr ⟨k,c,e,cellK x c e _ z⟩
 ·obtain⟨v,z⟩:=I.cell x c e;exact⟨v,cellK x c e v z⟩
 ·obtain⟨m,⟨o,_,_,ho,_⟩,_⟩:=I.loc;exact free _ o (λz=>(Ji _ z).2.1 rfl) ho I.free
 ·obtain⟨v,o,ho,hd⟩:=I.cell x c e;exact free c o (λz=>(Ji c z).2.2.1 x c e rfl) ho (I.kJ x c e)
 ·obtain⟨e,n,ne,nf,d⟩:=I.pin p hp;have Qw:p.1∉ch:=λz=>(Ji p.1 z).2.2.2 p hp rfl;exact⟨keep p.1 p.2 ne nf Qw e n,free p.1 p.2 Qw e n,ne,nf,d⟩
theorem Inv.un(I:Inv X η σ H s)(u:Un X.fs [] H H' s.heap h')(aL:kX X.prog X.w H' h'):Inv X η σ H' {s with heap:=h',toks:=t'}:=by obtain⟨m,⟨o,es,ep,ho,r⟩,_⟩:=id I.loc;obtain⟨sl,hL⟩:=u.any ho I.free ?E;exact I.step (g':=s.gens) (d':=s.drawn) (ch:=[]) (λ_ z=>nomatch z) (λb o _ hb _ e n=>u.keep b o e n hb ?E) (λb o _ hb _ e n=>u.slot b o e n hb ?E) (λb o _ e n=>u.free b o e n ?E) (λb o _ e=>u.there b o e ?E) u.tI u.pU u.rT (λm' hm=>by obtain⟨o',T6,T7,pV,r'⟩:=hm;rw[ho] at pV;cases pV;exact⟨_,T6,T7,hL,r'⟩) aL I.bare
theorem Inv.call(I:Inv X η σ H s)(u:Un (j0 X.stack) ch H H' s.heap h')(aL:kX X.prog X.w H' h')(hg:acL g')(Ji:∀b∈ch,(b∈X.ex\/X.ig.heap.objs.size<=b)/\b≠X.env.locals/\(∀x c,X.env.cells.lookup x=Δ c->c≠b)/\∀p∈X.pn++η,p.1≠b):
  Inv X η σ H' {s with heap:=h',gens:=g',drawn:=d',toks:=t'}:=by
 obtain⟨m,⟨o,es,ep,ho,r⟩,_⟩:=id I.loc;obtain⟨sl,hL⟩:=u.any ho I.free λz=>(Ji _ z).2.1 rfl;exact I.step (ch:=ch) Ji (λb o hL hb hc e n=>u.keep b o e n (λz=>(aa2.mp (I.pW b z)).elim hL hb) hc) (λb o _ _ hc e n=>u.any e n hc) (λb o hc e n=>u.free b o e n hc) (λb o hc e=>u.there b o e hc) u.tI u.pU u.rT (λm' hm=>by obtain⟨o',T6,T7,pV,r'⟩:=hm;rw[ho] at pV;cases pV;exact⟨_,T6,T7,hL,r'⟩) aL hg
theorem Inv.turned(I:Inv X η σ H s)(k:∀b o,b≠it->s.heap.get? b=Δ o->h'.get? b=Δ o)(hn:H it=Θ)(hL:it≠X.env.locals)(h1:it∈X.ex\/X.ig.heap.objs.size<=it)(h2:∀x c,X.env.cells.lookup x=Δ c->c≠it)(h3:∀p∈X.pn++η,p.1≠it):Inv X η σ H {s with heap:=h',toks:=t'}:=by
 have Gi:∀b u,H b=Δ u->b≠it:=λb u e z=>by rw[z,hn] at e;cases e
 refine I.step (g':=s.gens) (d':=s.drawn) (ch:=[it]) (λb hb=>?_) (λb o _ _ hc e _=>k b o (λz=>hc ?Zi) e) (λb o _ _ hc e _=>⟨o.slots,k b o (λz=>hc ?Zi) e⟩) (λ_ _ _ _ n=>n)
  (λb o hc e=>⟨o,k b o (λz=>hc ?Zi) e⟩) (λ_ _ e=>e) (λ_ _ _ e=>e) (λb ps e=>⟨#[],by rw[e];simp⟩) (λm hm=>?_) (λb u e=>?_) I.bare
 ·have e:b=it:=by simpa using hb
  subst e;exact⟨h1,hL,h2,h3⟩
 ·obtain⟨o,es,ep,ho,r⟩:=hm;exact⟨o,es,ep,k _ o (Zq hL) ho,r⟩
 ·refine(I.aL b u e).n8 (λc v hc q=>k c v ?_ q) (λ_ q=>q) λ_ _ q=>q;rcases hc with z|z;·rw[z];exact Gi b u e
  ·exact Gi c _ z
theorem Inv.tok(I:Inv X η σ H s)t:Inv X η σ H {s with toks:=t}:=I.un (h':=s.heap) (t':=t) Un.refl I.aL
theorem Inv.kept(I:Inv X η σ H s)(k:∀b u,s.heap.get? b=Δ u->h'.get? b=Δ u):Inv X η σ H {s with heap:=h',toks:=t'}:=I.un (Un.kept k) (I.aL.kept k)
theorem Inv.laid(I:Inv X η σ H s)(k:∀b u,s.heap.get? b=Δ u->h'.get? b=Δ u)(hp:?C<=a)(new:bL X.prog X.w (upd H a o) h' a o):
  Inv X η σ (upd H a o) {s with heap:=h',toks:=t'}:=I.un (Un.laid k hp (I.aL.fresh hp)) (I.aL.laid k hp new)
theorem Inv.write(I:Inv X η σ H s)(mu:Qs (H x))(he:e=x\/H e=Δ (.own x))(k:∀b u,b≠e->s.heap.get? b=Δ u->h'.get? b=Δ u)(PV:∃u,h'.get? e=Δ u)(new:bL X.prog X.w (upd H x o) h' x o):Inv X η σ (upd H x o) {s with heap:=h',toks:=t'}:=I.un (Un.write mu he k PV) (I.aL.write mu he k PV new)
theorem Inv.Dv(I:Inv X η σ H s)(h:∀p∈Qx,s.heap.get? p.1=Δ p.2/\H p.1=Θ/\p.1≠X.env.locals/\p.1∉X.fs/\∀v,p.2.data≠.cell v):Inv X Qx σ H s:=
 ⟨I.ok,I.os,I.bare,I.base,I.loc,I.cell,I.free,I.kJ,λp hp=>(abh.mp hp).elim (λz=>I.pin p (Zj _ z)) (h p),I.aL,I.len⟩
theorem kY{N:List Str}(hN:N.Nodup){i j:Nat}(a:N[i]?=Δ x)(b:N[j]?=Δ x):i=j:=by obtain⟨h1,e1⟩:=qqz a;obtain⟨h2,e2⟩:=qqz b;exact(List.getElem_inj hN).mp (e1.trans e2.symm)
theorem ED(I:Inv X η σ H s)(hN:X.N.Nodup)(hi:X.N[i]?=Δ x)(hx:Loc X.env.scope x)(r:RelV v u)(h:∀s',Inv X η (σ.set i (Δ v)) H s'->(∃a,aaZ a s.heap s'.heap/\(a=X.env.locals\/X.env.cells.lookup x=Δ a))->Q () s')(hf:X.fn x=Λ\/X.env.scope.names.lookup x=Δ .local:=by first|exact .inl rfl|exact .inr rfl|assumption):wpAny M A (storeName X.env x u) Q E s:=by
 obtain⟨m,hn,hl⟩:=id I.loc;have Vk:(X.env.scope.kind==.class||(X.env.scope.kind==.module&&X.env.locals !=X.env.globals))=Ξ:=by rw[I.ok.kind];rfl
 have Qy:i < σ.length:=by rw[I.len];exact(qqz hi).1
 have LW:=I.LW;have tracked:∀{a:Addr} {h':Heap},(∃o,s.heap.get? a=Δ o/\H a=Θ)->aaZ a s.heap h'->kX X.prog X.w H h':=λ{a h'} ha hs b ob e=>by
  obtain⟨_,_,zU⟩:=ha;refine(I.aL b ob e).n8 (λc w' hc q=>(hs.2 c ?_).trans q) (λ_ q=>q) λ_ _ q=>q;rintro rfl;rcases hc with rfl|hc;·rw[zU] at e;cases e
  ·rw[zU] at hc;cases hc
 rcases hx with hk|hk
 ·refine wpAny_storeName_local hk hn (λh' Gj hs=>?_) Vk;obtain⟨oL,_,_,hoL,_⟩:=id hn;refine h _ ⟨I.ok,I.os,I.bare,⟨λb o e n hb hx=>?_,λb o e n hb hx=>?_,I.base.free,λb o e hx=>?_,I.base.tI,I.base.pU,I.base.rT⟩,⟨_,Gj,λj y v' e1 e2 e3=>?_⟩,λy c e=>?_,I.free,I.kJ,λp hp=>?_,tracked ⟨oL,hoL,I.free⟩ hs,by simpa using I.len⟩ ⟨_,hs,.inl rfl⟩;·exact(hs.2 b (YZ (YO (YE e) I.ok.above))).trans (I.base.keep b o e n hb hx)
  ·obtain⟨sl,e1⟩:=I.base.slot b o e n hb hx;exact⟨sl,(hs.2 b (YZ (YO (YE e) I.ok.above))).trans e1⟩
  ·obtain⟨o',e1⟩:=I.base.there b o e hx;exact⟨o',(hs.2 b (YZ (YO (YE e) I.ok.above))).trans e1⟩
  ·by_cases hj:j=i;·subst hj;rw[hi] at e1;cases e1;rw[YL Qy] at e2;cases e2;exact⟨u,r,.inl ⟨hk,by simp⟩⟩
   ·rw[Yp (Zq hj)] at e2;obtain⟨u',r',q⟩:=hl j y v' e1 e2 e3;refine⟨u',r',?_⟩;rcases q with ⟨k,e⟩|⟨k,c,e,z⟩
    ·refine .inl ⟨k,?_⟩;have:y≠x:=λe=>hj (kY hN e1 (e▸hi));simp[this,e]
    ·exact .inr ⟨k,c,e,z.sameBut hs (LW y c e)⟩
  ·obtain⟨w',z⟩:=I.cell y c e;exact⟨w',z.sameBut hs (LW y c e)⟩
  ·obtain⟨e,n,ne,nf,d⟩:=I.pin p hp;exact⟨(hs.2 p.1 ne).trans e,n,ne,nf,d⟩
 ·have Gb:X.fn x=Λ:=by
   rcases hf with z|z;·exact z
   ·rw[z] at hk;cases hk
  obtain⟨c,hc⟩:=I.ok.has x (.inl hk);obtain⟨w',z⟩:=I.cell x c hc;refine wpAny_storeName_cell I.ok.kind hk hc z (λh' Dw hs=>?_);obtain⟨oc,MU,Vl⟩:=id z;refine h {s with heap:=h'} ⟨I.ok,I.os,I.bare,⟨λb o e n hb hx=>?_,λb o e n hb hx=>?_,I.base.free,λb o e hx=>?_,I.base.tI,I.base.pU,I.base.rT⟩,⟨m,hn.sameBut hs (Zq (LW x c hc)),λj y v' e1 e2 e3=>?_⟩,λy c' e=>?_,I.free,I.kJ,λp hp=>?_,tracked ⟨oc,MU,I.kJ x c hc⟩ hs,by simpa using I.len⟩ ⟨c,hs,.inr hc⟩;·exact(hs.2 b (YZ (YO (YE e) (I.ok.MT x c Gb hc)))).trans (I.base.keep b o e n hb hx)
  ·obtain⟨sl,e1⟩:=I.base.slot b o e n hb hx;exact⟨sl,(hs.2 b (YZ (YO (YE e) (I.ok.MT x c Gb hc)))).trans e1⟩
  ·obtain⟨o',e1⟩:=I.base.there b o e hx;exact⟨o',(hs.2 b (YZ (YO (YE e) (I.ok.MT x c Gb hc)))).trans e1⟩
  ·by_cases hj:j=i;·subst hj;rw[hi] at e1;cases e1;rw[YL Qy] at e2;cases e2;exact⟨u,r,.inr ⟨.inl hk,c,hc,Dw⟩⟩
   ·rw[Yp (Zq hj)] at e2;obtain⟨u',r',q⟩:=hl j y v' e1 e2 e3;refine⟨u',r',?_⟩;rcases q with q|⟨k,c',e,z'⟩;·exact .inl q
    ·refine .inr ⟨k,c',e,z'.sameBut hs ?_⟩;rintro rfl;exact hj (kY hN e1 (I.ok.inj _ _ _ e hc▸hi))
  ·by_cases Gc:c'=c;·subst Gc;exact⟨_,Dw⟩
   ·obtain⟨w2,z2⟩:=I.cell y c' e;exact⟨w2,z2.sameBut hs Gc⟩
  ·obtain⟨e,n,ne,nf,d⟩:=I.pin p hp;refine⟨(hs.2 p.1 ?_).trans e,n,ne,nf,d⟩;intro q;rw[q,MU] at e;have q':oc=p.2:=Y0 e;exact d w' (by rw[<-q'];exact Vl)
theorem oh(I:Inv X η σ H s)(hN:X.N.Nodup)(hi:X.N[i]?=Δ x)(hx:Loc X.env.scope x)(r:RelV v u)(h:∀s',Inv X η (σ.set i (Δ v)) H s'->Q () s')(hf:X.fn x=Λ\/X.env.scope.names.lookup x=Δ .local:=by first|exact .inl rfl|exact .inr rfl|assumption):wpAny M A (storeName X.env x u) Q E s:=
 ED I hN hi hx r (λs' I' _=>h s' I') hf
theorem Inv.Gk(I:Inv X η σ H s)(ho:s'.os=s.os)(u:Un (j0 X.stack) ch H H' s.heap s'.heap)(aL:kX X.prog X.w H' s'.heap)(hg:acL s'.gens)(Ji:∀b∈ch,(b∈X.ex\/X.ig.heap.objs.size<=b)/\b≠X.env.locals/\(∀x c,X.env.cells.lookup x=Δ c->c≠b)/\∀p∈X.pn++η,p.1≠b):Inv X η σ H' s':=by obtain⟨h',g',d',t',o'⟩:=s';have e:o'=s.os:=ho;subst e;exact I.call (g':=g') (t':=t') (d':=d') u aL hg Ji
end
abbrev XK:=Value->Option Addr->Hp->Prop
abbrev St:=List (Option V)
abbrev VK:=V->Hp->Prop
abbrev TE:=St->Hp->VK->Prop
abbrev TT:=St->Hp->(Bool->Hp->Prop)->Prop
abbrev TA:=St->Hp->(List V->Hp->Prop)->Prop
structure Ends where
 nx:St->Hp->Prop
 rt:VK
 bk:St->Hp->Prop:=λ_ _=>False
 ct:St->Hp->Prop:=λ_ _=>False
abbrev TS:=Ends->St->Hp->Prop
inductive EP (X:Cx) (η:List ?Qb) (σ:St) (Q:VK) (u:Value) (s':YG):Prop
 |mk (v:V) (H':Hp) (a:Inv X η σ H' s') (b:RelV v u) (c:Q v H'):EP X η σ Q u s'
inductive TP (X:Cx) (η:List ?Qb) (σ:St) (Q:Bool->Hp->Prop) (b:Bool) (s':YG):Prop
 |mk (H':Hp) (a:Inv X η σ H' s') (c:Q b H'):TP X η σ Q b s'
inductive AP (X:Cx) (η:List ?Qb) (σ:St) (Q:List V->Hp->Prop) (us:List Value) (s':YG):Prop
 |mk (vs:List V) (H':Hp) (a:Inv X η σ H' s') (b:aU vs us) (c:Q vs H'):AP X η σ Q us s'
def SP(X:Cx)(η:List ?Qb)(D:Ends)(f:Flow)(s':YG):Prop:=
 match f with|.next=>∃c0 H',Inv X η c0 H' s'/\D.nx c0 H'|.brk=>∃c0 H',Inv X η c0 H' s'/\D.bk c0 H'|.cont=>∃c0 H',Inv X η c0 H' s'/\D.ct c0 H'|.ret u=>∃v c0 H',Inv X η c0 H' s'/\RelV v u/\D.rt v H'
noncomputable def PE(X:Cx)(e:Expr)(t:TE):Prop:=
 ∀(η:List ?Qb) (s:YG) (σ:St) (H:Hp) (Q:VK),Inv X η σ H s->t σ H Q->wpAny ?G X.A (eval e X.env) (EP X η σ Q) X.xe s
noncomputable def PT(X:Cx)(e:Expr)(t:TT):Prop:=
 ∀(η:List ?Qb) (s:YG) (σ:St) (H:Hp) (Q:Bool->Hp->Prop),Inv X η σ H s->t σ H Q->wpAny ?G X.A (adO e X.env (eval e X.env)) (TP X η σ Q) X.xe s
noncomputable def PW(X:Cx)(e:Expr)(t:TT):Prop:=
 ∀(whole:Sem Value) (η:List ?Qb) (s:YG) (σ:St) (H:Hp) (Q:Bool->Hp->Prop),Inv X η σ H s->t σ H Q->wpAny ?G X.A (adO e X.env whole) (TP X η σ Q) X.xe s
theorem PW.pt(h:PW X e t):PT X e t:=h _
noncomputable def PA(X:Cx)(es:List Expr)(t:TA):Prop:=
 ∀(pos:Pos) (η:List ?Qb) (s:YG) (σ:St) (H:Hp) (Q:List V->Hp->Prop),Inv X η σ H s->t σ H Q->wpAny ?G X.A (spliced (aax pos (YX es X.env))) (AP X η σ Q) X.xe s
def PS(X:Cx)(st:Stmt)(t:TS):Prop:=
 ∀(η:List ?Qb) (s:YG) (σ:St) (H:Hp) (D:Ends),Inv X η σ H s->t D σ H->wpAny ?G X.A (exec st X.env) (SP X η D) X.xe s
def m8(X:Cx)(st:List Stmt)(t:TS):Prop:=
 ∀(η:List ?Qb) (s:YG) (σ:St) (H:Hp) (D:Ends),Inv X η σ H s->t D σ H->wpAny ?G X.A (execs st X.env) (SP X η D) X.xe s
theorem bW(h:wpAny M A t Q E s)(hQ:∀a s,Q a s->Q' a s):wpAny M A t Q' E s:=Z5 h hQ λ_ _ x=>x
section
variable{X:Cx}
theorem bin(ha:PE X a ta)(hb:PE X b tb){R:V->V->Hp->Prop}(I:Inv X η σ H s)(h:ta σ H λx H1=>tb σ H1 λy H2=>R x y H2){α:Type}{Q:α->YG->Prop}{f:Value->Value->Sem α}(hf:∀v u s2 x y H2,Inv X η σ H2 s2->RelV x v->RelV y u->R x y H2->wpAny ?G X.A (f v u) Q X.xe s2):
  wpAny ?G X.A (eval a X.env) (λv bD=>wpAny ?G X.A (eval b X.env) (λu vZ=>wpAny ?G X.A (f v u) Q X.xe vZ) X.xe bD) X.xe s:=by
 refine bW ?QP λv s1 ⟨x,H1,I1,r1,q1⟩=>?_;refine bW (hb η s1 σ H1 _ I1 q1) λu s2 ⟨y,H2,I2,r2,q2⟩=>?_;exact hf v u s2 x y H2 I2 r1 r2 q2
def Vm(i:Nat):TE:=λσ H Q=>∃v,σ[i]?=Δ (Δ v)/\Q v H
def tC(v:V):TE:=λ_ H Q=>Q v H
theorem BY(hN:X.N[i]?=Δ x)(hv:Qu X.env.scope x)(hd:(x==("__debug__":Str))=Ξ:=by decide)(pX:(x==("__classdict__":Str))=Ξ:=by decide):PE X (.Name x pos) (Vm i):=by
 intro η s σ H Q I h;obtain⟨v,e,h⟩:=h;obtain⟨m,hn,hl⟩:=I.loc;obtain⟨u,r,l⟩:=hl i x v hN e hv;have fin:EP X η σ Q u s:=⟨v,H,I,r,h⟩;rcases l with ⟨hk,hm⟩|⟨hk,c,hc,oi⟩
 ·exact adV (wpAny_loadName_local I.ok.kind hk hn hm fin) hd
 ·rcases hk with hk|hk;·exact adV (wpAny_loadName_cell I.ok.kind hk hc oi fin) hd
  ·exact adV (wpAny_loadName_free I.ok.kind hk hc oi fin pX) hd
theorem Gm{i j pos}:PE X (.Constant (.int i) j pos) (tC (.int i)):=λ_ _ _ H _ I h=>wpAny_Constant_int ⟨.int i,H,I.tok _,⟨_,rfl⟩,h⟩
theorem LX{b j pos}:PE X (.Constant (.bool b) j pos) (tC (.bl b)):=λ_ _ _ H _ I h=>Constant_bool ⟨.bl b,H,I,rfl,h⟩
theorem Gn{j pos}:PE X (.Constant .none j pos) (tC .bC):=λ_ _ _ H _ I h=>Constant_none ⟨.bC,H,I,rfl,h⟩
theorem Gp{x j pos}:PE X (.Constant (.str x) j pos) (tC (.str x)):=λ_ _ _ H _ I h=>Calls.Constant_str ⟨.str x,H,I.tok _,⟨_,rfl⟩,h⟩
def Gl(X:Cx)(x:Str):Prop:=X.env.kindOf x=Δ .globalImplicit
theorem oj(I:Inv X η σ H s)(hg:Gl X x)(hm:X.mg x=Δ u)(h:Q u s)(hd:(x==("__debug__":Str))=Ξ:=by decide):wpAny ?G X.A (eval (.Name x pos) X.env) Q E s:=
 Calls.Name_function_global I.ok.kind hg (Calls.loadGlobal_global (by rw[I.ok.glob];exact I.mod.glob.keeps I.bk) hm h) hd
theorem j8(I:Inv X η σ H s)(hg:Gl X x)(hm:X.mg x=Θ)(hv:abv x=Δ u)(h:Q u s)(hn:x≠"__name__":=by decide)(hd:(x==("__debug__":Str))=Ξ:=by decide):wpAny ?G X.A (eval (.Name x pos) X.env) Q E s:=by obtain⟨mb,h1,h2⟩:=I.mod.blt;exact Calls.Name_function_global I.ok.kind hg (Calls.loadGlobal_builtin (by rw[I.ok.glob];exact I.mod.glob.keeps I.bk) hm (by rw[I.ok.blt];exact h1.keeps I.bk) ((h2 x hn).trans hv) h) hd
theorem JB(hg:Gl X x)(hm:X.mg x=Δ u)(r:RelV v u)(hd:(x==("__debug__":Str))=Ξ:=by decide):PE X (.Name x pos) (tC v):=
 λ_ _ _ H _ I h=>oj I hg hm ⟨v,H,I,r,h⟩ hd
theorem JC(hg:Gl X x)(hm:X.mg x=Θ)(hv:abv x=Δ u)(r:RelV v u)(hn:x≠"__name__":=by decide)(hd:(x==("__debug__":Str))=Ξ:=by decide):PE X (.Name x pos) (tC v):=
 λ_ _ _ H _ I h=>j8 I hg hm hv ⟨v,H,I,r,h⟩ hn hd
variable{a b:Expr}{ta tb:TE}{pos:Pos}
variable{tA T8:TT}{rest:List Expr}
noncomputable def Vn(t u:TT):TT:=λσ H Q=>t σ H λc H1=>if c=Λ then u σ H1 Q else Q Ξ H1
noncomputable def tOr(t u:TT):TT:=λσ H Q=>t σ H λc H1=>if c=Λ then Q Λ H1 else u σ H1 Q
def Vo(t:TT):TT:=λσ H Q=>t σ H λc H1=>Q (!c) H1
theorem pw_and1(ha:PT X a tA):PW X (.BoolOp .And [a] pos) tA:=by intro wh η s σ H Q I h;refine isTrue_and (bW (ha η s σ H Q I h) λc s1 e=>?_);cases c with|true=>exact isTrue_and_nil e|false=>exact e
theorem pw_or1(ha:PT X a tA):PW X (.BoolOp .Or [a] pos) tA:=by intro wh η s σ H Q I h;refine isTrue_or (bW (ha η s σ H Q I h) λc s1 e=>?_);cases c with|false=>exact isTrue_or_nil e|true=>exact e
theorem pw_and(ha:PT X a tA)(hb:PW X (.BoolOp .And (b::rest) pos) T8):PW X (.BoolOp .And (a::b::rest) pos) (Vn tA T8):=by intro wh η s σ H Q I h;refine isTrue_and (bW ?QP λc s1 ⟨H1,I1,q1⟩=>?_);cases c with|true=>exact hb wh η s1 σ H1 Q I1 q1|false=>exact⟨H1,I1,q1⟩
theorem pw_or(ha:PT X a tA)(hb:PW X (.BoolOp .Or (b::rest) pos) T8):PW X (.BoolOp .Or (a::b::rest) pos) (tOr tA T8):=by intro wh η s σ H Q I h;refine isTrue_or (bW ?QP λc s1 ⟨H1,I1,q1⟩=>?_);cases c with|true=>exact⟨H1,I1,q1⟩|false=>exact hb wh η s1 σ H1 Q I1 q1
theorem MV(ha:PT X a tA):PT X (.UnaryOp .Not a pos) (Vo tA):=by intro η s σ H Q I h;exact isTrue_not (bW (ha η s σ H (λc H1=>Q (!c) H1) I h) λc s1 ⟨H1,I1,q⟩=>⟨H1,I1,q⟩)
noncomputable def Qz(ta tb:TE):TE:=λσ H Q=>ta σ H λx H1=>∃c,x=.bl c/\if c=Λ then tb σ H1 Q else Q ?Zj H1
def Vp(ta tb:TE):TE:=λσ H Q=>ta σ H λx H1=>∃c,x=.bl c/\if c=Λ then Q ?QV H1 else tb σ H1 Q
theorem Gq{op}(h:PE X a t):PE X (.BoolOp op [a] pos) t:=λη s σ H Q I hw=>BoolOp_one (h η s σ H Q I hw)
theorem MW(ha:PE X a ta)(hb:PE X (.BoolOp .And (b::rest) pos) tb):PE X (.BoolOp .And (a::b::rest) pos) (Qz ta tb):=by intro η s σ H Q I h;refine BoolOp_and (bW ?QP λv s1 ⟨x,H1,I1,r1,q1⟩=>?_);obtain⟨c,rfl,q1⟩:=q1;cases r1;refine aaa ?_;cases c with|true=>exact hb η s1 σ H1 Q I1 q1|false=>exact⟨.bl Ξ,H1,I1,rfl,q1⟩
theorem QA(ha:PE X a ta)(hb:PE X (.BoolOp .Or (b::rest) pos) tb):PE X (.BoolOp .Or (a::b::rest) pos) (Vp ta tb):=by intro η s σ H Q I h;refine BoolOp_or (bW ?QP λv s1 ⟨x,H1,I1,r1,q1⟩=>?_);obtain⟨c,rfl,q1⟩:=q1;cases r1;refine aaa ?_;cases c with|false=>exact hb η s1 σ H1 Q I1 q1|true=>exact⟨.bl Λ,H1,I1,rfl,q1⟩
end
def mB(K:Yw)(H:Hp)(a:Addr)(xs:List V):Prop:=
 Rd H a ?QX\/
  ∃(o:Obj) (its:Array Value) (n:Nat),K.lookup a=Δ o/\o.cls=.type "list"/\o.dict=Θ/\o.data=.seq its n/\its.size<=YQ/\aU xs its.toList
def fS(K:Yw)(H:Hp)(a:Addr)(xs:List V):Prop:=
 Rd H a ?QE\/
  ∃(o:Obj) (its:Array Value) (n:Nat),K.lookup a=Δ o/\o.cls=.type "tuple"/\o.data=.seq its n/\its.size<=YQ/\aU xs its.toList
noncomputable def Vq:Value->Option V
 |.none=>Δ .bC|.bool b=>Δ (.bl b)|.int i _=>Δ (.int i)|.str x _=>Δ (.str x)|.bytes b _=>Δ (.PU b)|.float b _=>Δ (.MP b)|.ref a=>Δ ?QT|.type n=>Δ (.ty n)|_=>Θ
theorem RelV.abs(r:RelV x u):Vq u=Δ x:=by cases x with|bC=>cases r;rfl|bl _=>cases r;rfl|int _=>obtain⟨t,rfl⟩:=r;rfl|str _=>obtain⟨t,rfl⟩:=r;rfl|PU _=>obtain⟨t,rfl⟩:=r;rfl|MP _=>obtain⟨t,rfl⟩:=r;rfl|ref _=>cases r;rfl|ty _=>cases r;rfl
theorem RelV.inj(r:RelV x u)(q:RelV y u):x=y:=Y0 (r.abs.symm.trans q.abs)
theorem aU.inj:∀{xs ys} {us},aU xs us->aU ys us->xs=ys
 |_,_,_,.nil,.nil=>rfl|_,_,_,.cons r t,.cons r' t'=>by rw[r.inj r',aU.inj t t']
section
variable{X:Cx}{η:List ?Qb}{σ:St}{H:Hp}{s:YG}{a:Addr}{xs ys:List V}
theorem fS.of{K:Yw}(h:H a=Δ ?QE):fS K H a xs:=.inl (.inl h)
theorem Inv.list(I:Inv X η σ H s)(h:mB X.K H a xs):∃its,aU xs its/\PlainL s.heap a ?Qh/\?Q<=YQ:=by
 rcases h with h|⟨o,its,n,hk,hc,hd,hs,hz,r⟩;·obtain⟨z,its,n,r,e⟩:=h.ok I.aL;exact⟨its,r,⟨_,n,e,rfl,rfl,rfl⟩,z⟩
 ·refine⟨its.toList,r,⟨o,n,I.n9 a o hk,hc,hd,by simpa using hs⟩,?_⟩;have e:=r.length;simp only[aa6] at e
  lia
theorem Inv.tuple(I:Inv X η σ H s)(h:fS X.K H a xs):∃its,aU xs its/\IsTup s.heap a ?Qh/\?Q<=YQ:=by
 rcases h with h|⟨o,its,n,hk,hc,hs,hz,r⟩;·obtain⟨z,its,r,p⟩:=h.ok I.aL;exact⟨its,r,p,z⟩
 ·refine⟨its.toList,r,⟨o,I.n9 a o hk,hc,n,by simpa using hs⟩,?_⟩;have e:=r.length;simp only[aa6] at e
  lia
theorem Inv.zV(I:Inv X η σ H s)(h:mB X.K H a xs)(h':mB X.K H a ys):xs=ys:=by
 obtain⟨its,r,⟨o,n,e,_,_,d⟩,_⟩:=I.list h;obtain⟨its',r',⟨o',n',e',_,_,d'⟩,_⟩:=I.list h';rw[e] at e';cases e';rw[d] at d';injection d' with d1 _;have:its=its':=by simpa using congrArg Array.toList d1
 subst this;exact r.inj r'
theorem Inv.wX(I:Inv X η σ H s)(h:fS X.K H a xs)(h':fS X.K H a ys):xs=ys:=by
 obtain⟨its,r,⟨o,e,_,n,d⟩,_⟩:=I.tuple h;obtain⟨its',r',⟨o',e',_,n',d'⟩,_⟩:=I.tuple h';rw[e] at e';cases e';rw[d] at d';injection d' with d1 _;have:its=its':=by simpa using congrArg Array.toList d1
 subst this;exact r.inj r'
end
abbrev Cx.tJ(X:Cx)(E:Value->YG->Prop):Cx:={X with xe:=E}
abbrev Cx.Gd(X:Cx):Cx:=X.tJ λ_ _=>False
theorem Cx.Ok.tJ{X:Cx}(ok:X.Ok)E:(X.tJ E).Ok:=
 ⟨ok.mod,ok.kind,ok.glob,ok.blt,ok.above,ok.inj,ok.has,ok.MT,ok.hd,ok.frames,ok.Qv,ok.Vi,ok.bs,ok.Ga,ok.EC,ok.Gh,ok.m7,ok.Jz⟩
theorem Cx.Ok.j9{X:Cx}(ok:(X.tJ E).Ok):X.Ok:=
 ⟨ok.mod,ok.kind,ok.glob,ok.blt,ok.above,ok.inj,ok.has,ok.MT,ok.hd,ok.frames,ok.Qv,ok.Vi,ok.bs,ok.Ga,ok.EC,ok.Gh,ok.m7,ok.Jz⟩
section
variable{X:Cx}{η:List ?Qb}{σ:St}{H:Hp}{s:YG}{E:Value->YG->Prop}
theorem Inv.tJ(I:Inv X η σ H s)E:Inv (X.tJ E) η σ H s:=⟨I.ok.tJ E,I.os,I.bare,I.base,I.loc,I.cell,I.free,I.kJ,I.pin,I.aL,I.len⟩
theorem Inv.j9(I:Inv (X.tJ E) η σ H s):Inv X η σ H s:=⟨I.ok.j9,I.os,I.bare,I.base,I.loc,I.cell,I.free,I.kJ,I.pin,I.aL,I.len⟩
theorem SP.j9(h:SP (X.tJ E) η D f s'):SP X η D f s':=by cases f with|next=>obtain⟨c0,H',I,q⟩:=h;exact⟨c0,H',I.j9,q⟩|brk=>obtain⟨c0,H',I,q⟩:=h;exact⟨c0,H',I.j9,q⟩|cont=>obtain⟨c0,H',I,q⟩:=h;exact⟨c0,H',I.j9,q⟩|ret u=>obtain⟨v,c0,H',I,r,q⟩:=h;exact⟨v,c0,H',I.j9,r,q⟩
theorem PE.Gd(h:PE X.Gd e t):PE X e t:=λη s σ H Q I hw=>Z5 (h η s σ H Q (I.tJ _) hw) (λ_ _ ⟨v,H',I',r,q⟩=>⟨v,H',I'.j9,r,q⟩) λ_ _ z=>ZE z
theorem m8.Gd{st:List Stmt}(h:m8 X.Gd st t):m8 X st t:=λη s σ H D I hw=>Z5 (h η s σ H D (I.tJ _) hw) (λ_ _ q=>q.j9) λ_ _ z=>ZE z
end
section
variable{X:Cx}{st:Stmt}{rest:List Stmt}{t u:TS}{e:Expr}{te:TE}{pos:Pos}
def QB:TS:=λD σ H=>D.nx σ H
def Vr(t u:TS):TS:=λD σ H=>t {D with nx:=u D} σ H
theorem JD:m8 X [] QB:=λ_ _ σ H _ I h=>adf ⟨σ,H,I,h⟩
theorem Gr(h1:PS X st t)(h2:m8 X rest u):m8 X (st::rest) (Vr t u):=by intro η s σ H D I h;refine wpAny_execs_cons (bW (h1 η s σ H {D with nx:=u D} I h) λf s1 q=>?_);cases f with|next=>obtain⟨c0,H',I',q⟩:=q;exact h2 η s1 c0 H' D I' q|ret v=>exact q|brk=>exact q|cont=>exact q
theorem Inv.quiet(I:Inv X η σ H s):interactive X.env=Ξ:=by simp[interactive,I.ok.kind]
noncomputable def QC(te:TE):TS:=λD σ H=>te σ H λ_ H1=>D.nx σ H1
theorem Dx(he:PE X e te)(hs:abu e Θ pos.line X.env=pure Ξ:=by rfl):PS X (.Expr e pos) (QC te):=by intro η s σ H D I h;exact wpAny_Expr_any (bW (he η s σ H _ I h) λv s1 ⟨x,H1,I1,r1,q1⟩=>⟨σ,H1,I1,q1⟩) I.quiet hs
def Vs(te:TE):TS:=λD σ H=>te σ H D.rt
theorem MX(he:PE X e te):PS X (.Return (Δ e) pos) (Vs te):=by intro η s σ H D I h;exact wpAny_Return_some (bW (he η s σ H _ I h) λv s1 ⟨x,H1,I1,r1,q1⟩=>⟨x,σ,H1,I1,r1,q1⟩)
def QD:TS:=λD _ H=>D.rt .bC H
theorem JE:PS X (.Return Θ pos) QD:=λ_ _ σ H _ I h=>wpAny_Return_none ⟨.bC,σ,H,I,rfl,h⟩
noncomputable def Vt(c:TT)(t u:TS):TS:=λD σ H=>c σ H λb H1=>if b=Λ then t D σ H1 else u D σ H1
theorem QE(hc:PT X c tc)(ha:m8 X a t)(hb:m8 X b u):PS X (.If c a b pos) (Vt tc t u):=by intro η s σ H D I h;refine wpAny_If (bW (hc η s σ H _ I h) λd s1 ⟨H1,I1,q1⟩=>?_);cases d with|true=>exact ha η s1 σ H1 D I1 q1|false=>exact hb η s1 σ H1 D I1 q1
end
abbrev TG:=V->St->Hp->(St->Hp->Prop)->Prop
abbrev QF:=List V->St->Hp->(St->Hp->Prop)->Prop
def PG(X:Cx)(target:Expr)(t:TG):Prop:=
 ∀(η:List ?Qb) (s:YG) (σ:St) (H:Hp) (v:V) (u:Value) (Q:St->Hp->Prop),Inv X η σ H s->RelV v u->t v σ H Q->
  wpAny ?G X.A (adY target X.env u) (λ_ s'=>∃c0 H',Inv X η c0 H' s'/\Q c0 H') X.xe s
noncomputable def T9(X:Cx)(ts:List Expr)(t:QF):Prop:=
 ∀(η:List ?Qb) (s:YG) (σ:St) (H:Hp) (vs:List V) (us:List Value) (Q:St->Hp->Prop),Inv X η σ H s->aU vs us->t vs σ H Q->
  wpAny ?G X.A (assignInOrder ((ac8 ts X.env).map (·.2)) us) (λ_ s'=>∃c0 H',Inv X η c0 H' s'/\Q c0 H') X.xe s
abbrev QG:=V->V->V->Hp->(Hp->Prop)->Prop
def EE(X:Cx)(t:QG):Prop:=
 ∀(η:List ?Qb) (s:YG) (σ:St) (H:Hp) (o i v:V) (ov iv u:Value) (Q:Hp->Prop),Inv X η σ H s->RelV o ov->RelV i iv->RelV v u->t o i v H Q->
  wpAny ?G X.A (setItem ov iv u) (λ_ s'=>∃H',Inv X η σ H' s'/\Q H') X.xe s
section
variable{X:Cx}{pos:Pos}
def om(i:Nat):TG:=λv σ H Q=>Q (σ.set i (Δ v)) H
theorem cM(hN:X.N.Nodup)(hi:X.N[i]?=Δ x)(hx:Loc X.env.scope x)(hf:X.fn x=Λ\/X.env.scope.names.lookup x=Δ .local:=by first|exact .inl rfl|exact .inr rfl|assumption):PG X (.Name x pos) (om i):=by intro η s σ H v u Q I r h;exact wpAny_assign_Name (oh I hN hi hx r (λs' I'=>⟨_,H,I',h⟩) hf)
def QH:QF:=λvs σ H Q=>vs=[]/\Q σ H
noncomputable def Gs(t:TG)(u:QF):QF:=λvs σ H Q=>∃v r,vs=v::r/\t v σ H λc0 H'=>u r c0 H' Q
theorem oo:T9 X [] QH:=by intro η s σ H vs us Q I r h;obtain⟨e,h⟩:=h;subst e;cases r;exact assignInOrder_nil ⟨σ,H,I,h⟩
theorem dW(h1:PG X e t)(h2:T9 X es u)(hs:(ac8 (e::es) X.env).map (·.2)=adY e X.env::(ac8 es X.env).map (·.2):=by rfl):T9 X (e::es) (Gs t u):=by intro η s σ H vs us Q I r h;obtain⟨v,vr,e1,h⟩:=h;subst e1;cases r with|cons r rr=>rw[hs];refine assignInOrder_cons (bW (h1 η s σ H _ _ _ I r h) λ_ s1 ⟨PX,H1,I1,q1⟩=>?_);exact h2 η s1 PX H1 _ _ Q I1 rr q1
def QI(K:Yw)(n:Nat)(t:QF):TG:=λv σ H Q=>∃a xs,v=.ref a/\fS K H a xs/\?Q=n/\t xs σ H Q
theorem tK(hc:X.calm=Λ)(h:T9 X es t)(hn:(ac8 es X.env).length=n:=by rfl)(qV:(ac8 es X.env).findIdx? (·.1)=Θ:=by rfl):PG X (.Tuple es k pos) (QI X.K n t):=by intro η s σ H v u Q I r hw;obtain⟨a,xs,e1,hq,hl,hw⟩:=hw;subst e1;cases r;obtain⟨its,rv,ht,hz⟩:=I.tuple hq;refine assign_Tuple_tuple (I.ok.hd hc) ht (by simp[hn,<-hl,rv.length]) qV λh' hx=>?_;have I1:Inv X η σ H {s with heap:=h'}:=I.kept (t':=s.toks) λb o e=>hx b o (YZ (YE e)) e;exact h η _ σ H xs _ Q I1 (by simpa using rv) hw
noncomputable def Vu(te:TE)(g:TG):TS:=λD σ H=>te σ H λx H1=>g x σ H1 D.nx
theorem Gu(hN:X.N.Nodup)(hi:X.N[i]?=Δ x)(hx:Loc X.env.scope x)(he:PE X e te)(hs:abu e (Δ (.Name x pos')) pos.line X.env=pure Ξ:=by rfl)(hf:X.fn x=Λ\/X.env.scope.names.lookup x=Δ .local:=by first|exact .inl rfl|exact .inr rfl|assumption):
  PS X (.Assign [.Name x pos'] e pos) (Vu te (om i)):=by
 intro η s σ H D I h;refine wpAny_Assign_Name (bW (he η s σ H _ I h) λv s1 ⟨y,H1,I1,r1,q1⟩=>?_) hs;exact oh I1 hN hi hx r1 (λs2 I2=>⟨_,H1,I2,q1⟩) hf
end
section
variable{X:Cx}{pos:Pos}
noncomputable def MY(c:TT)(tb:TS):TS:=λD σ H=>∃W:Nat->St->Hp->Prop,(∃m,W m σ H)/\∀m σ H,W m σ H->
 c σ H λb H1=>if b=Λ then ∃N:St->Hp->Prop,(∀c0 H',N c0 H'->∃m',m' < m/\W m' c0 H')/\tb {D with nx:=N,ct:=N,bk:=D.nx} σ H1 else D.nx σ H1
theorem Gv(hp:PassesOwn ?G X.A X.env X.xe)(hc:PT X c tc)(hb:m8 X body tb):PS X (.While c body [] pos) (MY tc tb):=by
 intro η s σ H D I h;obtain⟨W,⟨m0,w0⟩,turn⟩:=h;refine wpAny_While (codeAny_whileLoop (λn s'=>∃c0 H',Inv X η c0 H' s'/\W n c0 H') ?_ m0 ⟨σ,H,I,w0⟩);rintro n s1 ⟨PX,H1,I1,w1⟩;refine aaO hp (bW (hc η s1 PX H1 _ I1 (turn n PX H1 w1)) λb s2 ⟨H2,I2,q2⟩=>?_);cases b with
 |true=>obtain⟨N,hN,q2⟩:=q2;rw[if_pos rfl];refine aaO hp (bW (hb η s2 PX H2 _ I2 q2) λf s3 q3=>?_);cases f with|next=>obtain⟨Gw,H3,I3,n3⟩:=q3;obtain⟨m',hm,w3⟩:=hN Gw H3 n3;exact⟨m',hm,Gw,H3,I3,w3⟩|cont=>obtain⟨Gw,H3,I3,n3⟩:=q3;obtain⟨m',hm,w3⟩:=hN Gw H3 n3;exact⟨m',hm,Gw,H3,I3,w3⟩|brk=>exact q3|ret v=>exact q3
 |false=>rw[if_neg Zh];exact adf ⟨PX,H2,I2,q2⟩
end
structure It where
 go:Nat->Hp->Prop
 QJ:Nat->Hp->V->Hp->Prop
 stop:Nat->Hp->Prop
noncomputable def m9(X:Cx)(η:List ?Qb)(H:Hp)(b:Addr):Prop:=
 H b=Θ/\b≠X.env.locals/\b∉X.fs/\(b∈X.ex\/X.ig.heap.objs.size<=b)/\(∀x c,X.env.cells.lookup x=Δ c->c≠b)/\∀p∈X.pn++η,p.1≠b
theorem Inv.ym(I:Inv X η σ H s)(hb:?C<=b)(hn:H' b=Θ):m9 X η H' b:=by
 refine⟨hn,Zx (YO I.lt hb),I.Vj hb,.inr (Zc I.sz hb),λx c e z=>?_,λp hp z=>?_⟩;·obtain⟨v,q⟩:=I.cell x c e;exact absurd (YO q.lt (by rw[z];exact hb)) (Z9 _)
 ·exact absurd (YO (YE (I.pin p hp).1) (by rw[z];exact hb)) (Z9 _)
structure Turn(P:Zm)(w:World)(K:Yw)(tg:Expr)(J:It)(fp:List Addr)(it:Addr)(tn:Nat->Heap->Prop):Prop where
 mem:it∈fp
 obj:∀i h,tn i h->∀b∈fp,∃o,h.get? b=Δ o/\∀v,o.data≠.cell v
 keep:∀i h h',tn i h->(∀b∈fp,∀o,h.get? b=Δ o->h'.get? b=Δ o)->tn i h'
 item:∀(X:Cx),X.prog=P->X.w=w->X.K=K->X.calm=Λ->∀(i:Nat) (η:List ?Qb) (s:YG) (σ:St) (H:Hp) (E:Value->YG->Prop),Inv X η σ H s->(∀b∈fp,m9 X η H b)->tn i s.heap->J.go i H->
  wpAny (model P w) X.A (acO (.ref it)) (λr s1=>∃u,r=Δ u/\
   wpAny (model P w) X.A (acq tg (.ref it) u) (λ_ s2=>∃x H',Inv X η σ H' s2/\RelV x u/\J.QJ i H x H'/\tn (i+1) s2.heap/\∀b∈fp,H' b=Θ) E s1) E s
 done:∀(X:Cx),X.prog=P->X.w=w->X.K=K->X.calm=Λ->∀(i:Nat) (η:List ?Qb) (s:YG) (σ:St) (H:Hp) (E:Value->YG->Prop),Inv X η σ H s->(∀b∈fp,m9 X η H b)->tn i s.heap->J.stop i H->
  wpAny (model P w) X.A (acO (.ref it)) (λr s1=>r=Θ/\Inv X η σ H s1) E s
 self:∀(A:ZS) (i:Nat) (s:YG) (Q:Value->YG->Prop) (E:Value->YG->Prop),tn i s.heap->Q (.ref it) s->wpAny (model P w) A (pyIter (.ref it)) Q E s
abbrev TI:=St->Hp->(It->Hp->Prop)->Prop
def PIE(X:Cx)(η:List ?Qb)(σ:St)(tg:Expr)(R:It->Hp->Prop)(Ua:Value)(s2:YG):Prop:=
 ∃(it:Addr) (fp:List Addr) (tn:Nat->Heap->Prop) (J:It) (H':Hp),Ua=.ref it/\Inv X η σ H' s2/\Turn X.prog X.w X.K tg J fp it tn/\tn 0 s2.heap/\(∀b∈fp,m9 X η H' b)/\R J H'
def PI(X:Cx)(tg iter:Expr)(wi:TI):Prop:=
 ∀(η:List ?Qb) (s:YG) (σ:St) (H:Hp) (R:It->Hp->Prop),Inv X η σ H s->wi σ H R->
  wpAny ?G X.A (eval iter X.env) (λv s1=>wpAny ?G X.A (pyIter v) (PIE X η σ tg R) X.xe s1) X.xe s
theorem Gx(ho:s.heap.get? it=Δ o)(hc:o.cls=.type n)(hd:o.data=.fields vs)(hn:["enumerate","zip","dict_itemiterator","dict_reverseitemiterator","odict_iterator","itertools.zip_longest","itertools.pairwise"].contains n=Ξ)(hQ:Q () s):wpAny M A (acq tg (.ref it) u) Q E s:=by
 unfold acq;cases tg<;>first
  |exact YI hQ
  |(cases u<;>first
    |exact YI hQ
    |(refine Yo (wpAny_load ho ?_)
      rw[hc,hd];show wpAny M A (if(["enumerate","zip","dict_itemiterator","dict_reverseitemiterator","odict_iterator","itertools.zip_longest","itertools.pairwise"].contains n&&vs[0]?==Δ (aaw _))=Λ then _ else _) Q E s;rw[if_neg (by intro h;rw[hn,ab4] at h;cases h)];exact YI hQ))
def Vv(K:Yw)(a:Addr):It:=
 ⟨λi H=>∃xs x,mB K H a xs/\xs[i]?=Δ x,λi H x H'=>H'=H/\∀xs,mB K H a xs->xs[i]?=Δ x,λi H=>∃xs,mB K H a xs/\?Q<=i⟩
def Vw(K:Yw)(a:Addr):It:=
 ⟨λi H=>∃xs x,fS K H a xs/\xs[i]?=Δ x,λi H x H'=>H'=H/\∀xs,fS K H a xs->xs[i]?=Δ x,λi H=>∃xs,fS K H a xs/\?Q<=i⟩
noncomputable def MZ(lo:Int)(n:Nat):It:=⟨λi _=>i < n,λi H x H'=>H'=H/\x=.int (lo+i),λi _=>n<=i⟩
theorem EF{P:Zm}{w:World}{K:Yw}{tg:Expr}(a it:Addr):Turn P w K tg (Vv K a) [it] it (λi h=>h.IsListIter it a i) where
 mem:=by simp
 obj:=λi h st b hb=>by
  have e:b=it:=by simpa using hb
  subst e;obtain⟨o,e,c,d⟩:=st;exact⟨o,e,λv z=>by rw[d] at z;cases z⟩
 keep:=λi h h' st k=>st.at λo e=>k it ?E o e
 item:=by intro X hP hw hK hc i η s σ H E I hf st hg;subst hP hw hK;obtain⟨xs,x,hq,hx⟩:=hg;obtain⟨its,rv,p,hz⟩:=I.list hq;obtain⟨u,hu,ru⟩:=rv.get hx;obtain⟨f0,f1,f2,f3,f4,f5⟩:=hf it ?E;refine wpAny_pyNext_list_item st p.isList (x:=u) (by simpa using hu) λh' aJ sb=>?_;have I1:Inv X η σ H {s with heap:=h'}:=I.turned (t':=s.toks) (λb o hb e=>(sb.2 b hb).trans e) f0 f1 f3 f4 f5;obtain⟨o,e,c,d⟩:=id aJ;exact⟨u,rfl,Gx (s:={s with heap:=h'}) e c d ?T ⟨x,H,I1,ru,⟨rfl,λys hy=>by rw[I.zV hy hq];exact hx⟩,aJ,λb hb=>(hf b hb).1⟩⟩
 done:=by intro X hP hw hK hc i η s σ H E I hf st hg;subst hP hw hK;obtain⟨xs,hq,hx⟩:=hg;obtain⟨its,rv,p,hz⟩:=I.list hq;obtain⟨f0,f1,f2,f3,f4,f5⟩:=hf it ?E;have hl:=rv.length;exact wpAny_pyNext_list_end (I.ok.hd hc) st p.isList (by simp;lia) λh' eb=>⟨rfl,I.turned (t':=s.toks) (λb o hb e=>eb b o hb e) f0 f1 f3 f4 f5⟩
 self:=λ_ _ _ _ _ st h=>wpAny_pyIter_listiter st h
theorem BZ{P:Zm}{w:World}{K:Yw}{tg:Expr}(a it:Addr):Turn P w K tg (Vw K a) [it] it (λi h=>h.IsTupleIter it a i) where
 mem:=by simp
 obj:=λi h st b hb=>by
  have e:b=it:=by simpa using hb
  subst e;obtain⟨o,e,c,d⟩:=st;exact⟨o,e,λv z=>by rw[d] at z;cases z⟩
 keep:=λi h h' st k=>st.at λo e=>k it ?E o e
 item:=by intro X hP hw hK hc i η s σ H E I hf st hg;subst hP hw hK;obtain⟨xs,x,hq,hx⟩:=hg;obtain⟨its,rv,p,hz⟩:=I.tuple hq;obtain⟨u,hu,ru⟩:=rv.get hx;obtain⟨f0,f1,f2,f3,f4,f5⟩:=hf it ?E;refine wpAny_pyNext_tuple_item st (show s.heap.IsTuple a ?Qh from p) (x:=u) (by simpa using hu) λh' aJ sb=>?_;have I1:Inv X η σ H {s with heap:=h'}:=I.turned (t':=s.toks) (λb o hb e=>(sb.2 b hb).trans e) f0 f1 f3 f4 f5;obtain⟨o,e,c,d⟩:=id aJ;exact⟨u,rfl,Gx (s:={s with heap:=h'}) e c d ?T ⟨x,H,I1,ru,⟨rfl,λys hy=>by rw[I.wX hy hq];exact hx⟩,aJ,λb hb=>(hf b hb).1⟩⟩
 done:=by intro X hP hw hK hc i η s σ H E I hf st hg;subst hP hw hK;obtain⟨xs,hq,hx⟩:=hg;obtain⟨its,rv,p,hz⟩:=I.tuple hq;obtain⟨f0,f1,f2,f3,f4,f5⟩:=hf it ?E;have hl:=rv.length;exact wpAny_pyNext_tuple_end (I.ok.hd hc) st (show s.heap.IsTuple a ?Qh from p) (by simp;lia) λh' eb=>⟨rfl,I.turned (t':=s.toks) (λb o hb e=>eb b o hb e) f0 f1 f3 f4 f5⟩
 self:=λ_ _ _ _ _ st h=>wpAny_pyIter_tupleiter st h
theorem B0{P:Zm}{w:World}{K:Yw}{tg:Expr}(it:Addr)(lo:Int)(n:Nat):Turn P w K tg (MZ lo n) [it] it (λi h=>IsRangeIter h it (lo+(i:Nat)*1) ((n:Int) - (i:Nat)) 1) where
 mem:=by simp
 obj:=λi h st b hb=>by
  have e:b=it:=by simpa using hb
  subst e;exact⟨_,st,λv z=>by have z':Data.fields _=Data.cell v:=z;cases z'⟩
 keep:=λi h h' st k=>k it ?E _ st
 item:=by intro X hP hw hK hc i η s σ H E I hf st hg;subst hP hw hK;obtain⟨f0,f1,f2,f3,f4,f5⟩:=hf it ?E;have W:=Walks.range (prog:=X.prog) (w:=X.w) (I.ok.hd hc) it lo 1 n;refine W.item i s _ _ hg st λv h' tk hv aJ kk=>?_;obtain⟨t,rfl⟩:=hv;have I1:Inv X η σ H {s with heap:=h',toks:=tk}:=I.turned (λb o hb e=>kk b o (by simpa using hb) e) f0 f1 f3 f4 f5;refine⟨_,rfl,Gx (s:={s with heap:=h',toks:=tk}) (n:="range_iterator") aJ rfl rfl ?T ⟨.int (lo+i),H,I1,⟨t,?_⟩,⟨rfl,rfl⟩,aJ,λb hb=>(hf b hb).1⟩⟩;rw[Int.mul_one]
 done:=by intro X hP hw hK hc i η s σ H E I hf st hg;subst hP hw hK;obtain⟨f0,f1,f2,f3,f4,f5⟩:=hf it ?E;exact wpAny_pyNext_range_end (I.ok.hd hc) st (by have:n<=i:=hg;lia) λh' eb=>⟨rfl,I.turned (t':=s.toks) (λb o hb e=>eb b o hb e) f0 f1 f3 f4 f5⟩
 self:=λ_ _ _ _ _ st h=>wpAny_pyIter_rangeiter st h
section
variable{X:Cx}{tg:Expr}
def LY(K:Yw)(tl:TE):TI:=λσ H R=>tl σ H λx H1=>∃a,x=.ref a/\(∃xs,mB K H1 a xs)/\R (Vv K a) H1
def Vx(K:Yw)(tl:TE):TI:=λσ H R=>tl σ H λx H1=>∃a,x=.ref a/\(∃xs,fS K H1 a xs)/\R (Vw K a) H1
theorem sM(hl:PE X l tl):PI X tg l (LY X.K tl):=by
 intro η s σ H R I h;refine bW (hl η s σ H _ I h) λv s1 ⟨x,H1,I1,r1,q1⟩=>?_;obtain⟨a,e,⟨xs,hq⟩,q⟩:=q1;subst e;cases r1;obtain⟨its,rv,p,hz⟩:=I1.list hq;refine wpAny_pyIter_list p.isList ?_;refine⟨?Z,[?Z],_,_,H1,rfl,I1.kept (t':=s1.toks) λb o e=>Yl _ e,EF a _,⟨_,YD _ rfl,rfl,rfl⟩,λb hb=>?_,q⟩;have e:b=s1.heap.objs.size:=by simpa using hb
 subst e;exact I1.ym (Yt _) (I1.aL.fresh (Yt _))
theorem M0(hl:PE X l tl):PI X tg l (Vx X.K tl):=by
 intro η s σ H R I h;refine bW (hl η s σ H _ I h) λv s1 ⟨x,H1,I1,r1,q1⟩=>?_;obtain⟨a,e,⟨xs,hq⟩,q⟩:=q1;subst e;cases r1;obtain⟨its,rv,p,hz⟩:=I1.tuple hq;refine aaJ (show s1.heap.IsTuple a ?Qh from p) ?_;refine⟨?Z,[?Z],_,_,H1,rfl,I1.kept (t':=s1.toks) λb o e=>Yl _ e,BZ a _,⟨_,YD _ rfl,rfl,rfl⟩,λb hb=>?_,q⟩;have e:b=s1.heap.objs.size:=by simpa using hb
 subst e;exact I1.ym (Yt _) (I1.aL.fresh (Yt _))
theorem zW{lo hi:Int}(I:Inv X η σ H s)(h1: -(2 ^ 62)<=lo)(h2:lo < 2 ^ 62)(h3: -(2 ^ 62)<=hi)(h4:hi < 2 ^ 62)(q:R (MZ lo (hi - lo).toNat) H):wpAny ?G X.A (pyIter (.ref ?C)) (PIE X η σ tg R) E {s with heap:=s.heap.push {cls:=.type "range",data:=.fields #[.int lo t,.int hi u,.int 1 v]},toks:=tk}:=by
 refine wpAny_pyIter_range (IsRange.new ..) (small_one h1 h2 h3 h4) ?_;have I1:Inv X η σ H {s with heap:=s.heap.push {cls:=.type "range",data:=.fields #[.int lo t,.int hi u,.int 1 v]},toks:=tk}:=I.kept λb o e=>Yl _ e;refine⟨(s.heap.push {cls:=.type "range",data:=.fields #[.int lo t,.int hi u,.int 1 v]}).objs.size,[(s.heap.push {cls:=.type "range",data:=.fields #[.int lo t,.int hi u,.int 1 v]}).objs.size],_,_,H,rfl,
  I1.kept (t':=tk) λb o e=>Yl _ e,B0 _ lo (hi - lo).toNat,?_,λb hb=>?_,q⟩
 ·have e1:lo+((0:Nat):Int)*1=lo:=by simp
  have e2:(((hi - lo).toNat:Nat):Int) - ((0:Nat):Int)=aci.Range.rangeSize lo hi 1:=by rw[rangeSize_one];split<;>lia
  show IsRangeIter _ _ (lo+((0:Nat):Int)*1) ((((hi - lo).toNat:Nat):Int) - ((0:Nat):Int)) 1;rw[e1,e2];exact YD _ rfl
 ·have e:b=(s.heap.push {cls:=.type "range",data:=.fields #[.int lo t,.int hi u,.int 1 v]}).objs.size:=by simpa using hb
  subst e;exact I1.ym (Yt _) (I1.aL.fresh (Yt _))
def QK(ta:TA):TI:=λσ H R=>ta σ H λvs H1=>∃j:Int,vs=[.int j]/\ -(2 ^ 62)<=j/\j < 2 ^ 62/\R (MZ 0 j.toNat) H1
def QL(ta:TA):TI:=λσ H R=>ta σ H λvs H1=>∃i j:Int,vs=[.int i,.int j]/\(-(2 ^ 62)<=i/\i < 2 ^ 62/\ -(2 ^ 62)<=j/\j < 2 ^ 62)/\R (MZ i (j - i).toNat) H1
theorem EG(hg:Gl X "range")(hm:X.mg "range"=Θ)(ha:PA X [a] ta)(hs:YX [a] X.env=[(Ξ,eval a X.env)]:=by rfl):PI X tg (.Call (.Name "range" p) [a] [] pos) (QK ta):=by intro η s σ H R I h;refine Call_ (j8 I hg hm boot_range (Zu (bW ?QZ λus s1 ⟨vs,H1,I1,r1,q1⟩=>?_) hs rfl));obtain⟨j,e,q1,q2,q⟩:=q1;subst e;cases r1 with|cons r rr=>cases rr;obtain⟨t,rfl⟩:=r;exact call_range_1 (zW I1 ?D ?D q1 q2 (by simpa using q))
theorem EH(hg:Gl X "range")(hm:X.mg "range"=Θ)(ha:PA X [a,b] ta)(hs:YX [a,b] X.env=[(Ξ,eval a X.env),(Ξ,eval b X.env)]:=by rfl)(tM:YX [b] X.env=[(Ξ,eval b X.env)]:=by rfl):
  PI X tg (.Call (.Name "range" p) [a,b] [] pos) (QL ta):=by
 intro η s σ H R I h;refine Call_ (j8 I hg hm boot_range (Zu (bW ?QZ λus s1 ⟨vs,H1,I1,r1,q1⟩=>?_) (by rw[hs,tM]) (by rw[tM];rfl)));obtain⟨i,j,e,⟨q1,q2,q3,q4⟩,q⟩:=q1;subst e;cases r1 with|cons r rr=>cases rr with|cons r' rr=>cases rr;obtain⟨t,rfl⟩:=r;obtain⟨t',rfl⟩:=r';exact call_range_2 (zW I1 q1 q2 q3 q4 q)
noncomputable def Vy(wi:TI)(g:TG)(tb:TS):TS:=λD σ H=>wi σ H λJ H1=>∃W:Nat->Nat->St->Hp->Prop,(∃m,W 0 m σ H1)/\∀i m σ H,W i m σ H->
 (J.stop i H/\D.nx σ H)\/(J.go i H/\∃N:St->Hp->Prop,(∀c0 H',N c0 H'->∃m',m' < m/\W (i+1) m' c0 H')/\∀x H',J.QJ i H x H'->g x σ H' λPY H2=>tb {D with nx:=N,ct:=N,bk:=D.nx} PY H2)
noncomputable def pY(fp:List Addr)(h:Heap):List ?Qb:=fp.filterMap λb=>(h.get? b).map λo=>(b,o)
theorem eQ(hb:b∈fp)(e:h.get? b=Δ o):(b,o)∈pY fp h:=List.mem_filterMap.mpr ⟨b,hb,by rw[e];rfl⟩
theorem EI(hp:p∈pY fp h):p.1∈fp/\h.get? p.1=Δ p.2:=by obtain⟨b,hb,e⟩:=List.mem_filterMap.mp hp;cases q:h.get? b with|none=>rw[q] at e;cases e|some o=>rw[q] at e;have e':(b,o)=p:=Y0 e;subst e';exact⟨hb,q⟩
theorem Inv.pinned(I:Inv X η σ H s)(hf:∀b∈fp,m9 X η H b)(ho:∀b∈fp,∃o,s.heap.get? b=Δ o/\∀v,o.data≠.cell v):Inv X (η++pY fp s.heap) σ H s:=
 I.Dv λp hp=>(abh.mp hp).elim (λz=>I.pin p (YS _ z)) λz=>by obtain⟨hb,e⟩:=EI z;obtain⟨f0,f1,f2,_⟩:=hf p.1 hb;obtain⟨o,e',d⟩:=ho p.1 hb;rw[e] at e';cases e';exact⟨e,f0,f1,f2,d⟩
theorem Inv.jE(I:Inv X (η++pl) σ H s):Inv X η σ H s:=I.Dv λp hp=>I.pin p (YS _ (Zj _ hp))
theorem yn(hp:PassesOwn ?G X.A X.env X.xe)(hc:X.calm=Λ)(hi:PI X tg iter wi)(hg:PG X tg g)(hb:m8 X body tb)(hs:∀x,acE iter X.env x=pure x:=by intro _;rfl):PS X (.For tg iter body [] pos) (Vy wi g tb):=by
 intro η s σ H D I h;refine wpAny_For (bW (hi η s σ H _ I h) λv s1 h1=>bW h1 λUa s2 h2=>?_) hs;obtain⟨it,fp,tn,J,H2,e,I2,T,st2,f2,W,⟨m0,w0⟩,turn⟩:=h2;subst e;have tN:∀{H':Hp},(∀b∈fp,H' b=Θ)->∀b∈fp,m9 X η H' b:=λhn b hb=>⟨hn b hb,(f2 b hb).2⟩;refine codeAny_forLoop_any (λn s'=>∃i c0 H',Inv X η c0 H' s'/\tn i s'.heap/\(∀b∈fp,H' b=Θ)/\W i n c0 H') ?_ m0 ⟨0,σ,H2,I2,st2,λb hb=>(f2 b hb).1,w0⟩;rintro n s3 ⟨i,Gw,H3,I3,st3,fr3,w3⟩;rcases turn i n Gw H3 w3 with ⟨stop,qn⟩|⟨go,N,hN,step⟩
 ·refine aaO hp (bW (T.done X rfl rfl rfl hc i η s3 Gw H3 X.xe I3 (tN fr3) st3 stop) λr s4 ⟨hr,I4⟩=>?_);subst hr;exact adf ⟨Gw,H3,I4,qn⟩
 ·refine aaO hp (bW (T.item X rfl rfl rfl hc i η s3 Gw H3 X.xe I3 (tN fr3) st3 go) λr s4 ⟨u,hr,h4⟩=>?_);subst hr;refine aaO hp (bW h4 λ_ s5 ⟨x,H5,I5,r5,y5,B1,M3⟩=>?_);have I5':=I5.pinned (tN M3) (T.obj _ _ B1);refine aaO hp (bW (hg _ s5 Gw H5 x u _ I5' r5 (step x H5 y5)) λ_ s6 ⟨σ6,H6,I6,q6⟩=>?_);refine aaO hp (bW (hb _ s6 σ6 H6 _ I6 q6) λf s7 q7=>?_);have again:∀{Gy:St} {H7:Hp},Inv X (η++pY fp s5.heap) Gy H7 s7->N Gy H7->∃m,m < n/\∃i c0 H',Inv X η c0 H' s7/\tn i s7.heap/\(∀b∈fp,H' b=Θ)/\W i m c0 H':=λ{Gy H7} I7 n7=>by obtain⟨m',hm,w7⟩:=hN Gy H7 n7;refine⟨m',hm,i+1,Gy,H7,I7.jE,T.keep _ _ _ B1 λb hb o e=>(I7.pin (b,o) (YS _ (YS _ (eQ hb e)))).1,λb hb=>?_,w7⟩;obtain⟨o,e,d⟩:=T.obj _ _ B1 b hb;exact(I7.pin (b,o) (YS _ (YS _ (eQ hb e)))).2.1
  cases f with|next=>obtain⟨Gy,H7,I7,n7⟩:=q7;exact again I7 n7|cont=>obtain⟨Gy,H7,I7,n7⟩:=q7;exact again I7 n7|brk=>obtain⟨Gy,H7,I7,q7⟩:=q7;exact⟨Gy,H7,I7.jE,q7⟩|ret v=>obtain⟨x7,Gy,H7,I7,r7,q7⟩:=q7;exact⟨x7,Gy,H7,I7.jE,r7,q7⟩
end
abbrev R2:=V->V->Hp->VK->Prop
def kK(X:Cx)(f:Value->Value->Sem Value)(r:R2):Prop:=
 ∀(η:List ?Qb) (s:YG) (σ:St) (H:Hp) (x y:V) (v u:Value) (Q:VK),Inv X η σ H s->RelV x v->RelV y u->r x y H Q->
  wpAny ?G X.A (f v u) (EP X η σ Q) X.xe s
def g8(X:Cx)(f:Value)(r:List V->Hp->VK->Prop):Prop:=
 ∀(η:List ?Qb) (s:YG) (σ:St) (H:Hp) (xs:List V) (us:List Value) (Q:VK),Inv X η σ H s->aU xs us->r xs H Q->
  wpAny ?G X.A (call f us) (EP X η σ Q) X.xe s
def Vz(X:Cx)(r:V->Hp->(Bool->Hp->Prop)->Prop):Prop:=
 ∀(η:List ?Qb) (s:YG) (σ:St) (H:Hp) (x:V) (v:Value) (Q:Bool->Hp->Prop),Inv X η σ H s->RelV x v->r x H Q->
  wpAny ?G X.A (truthy v) (TP X η σ Q) X.xe s
noncomputable def QM(r:R2)(ta tb:TE):TE:=λσ H Q=>ta σ H λx H1=>tb σ H1 λy H2=>r x y H2 Q
noncomputable def rI(C:Int->Int->Prop)(g:Int->Int->V):R2:=λx y H Q=>∃i j,x=.int i/\y=.int j/\C i j/\Q (g i j) H
noncomputable def Dy(g:Int->Int->V):R2:=λx y H Q=>∃i j,x=.int i/\y=.int j/\Q (g i j) H
section
variable{X:Cx}{a b c:Expr}{ta tb tc:TE}{pos:Pos}
theorem M4(ha:PE X a ta)(hb:PE X b tb){R:V->V->Hp->Prop}(I:Inv X η σ H s)(h:ta σ H λx H1=>tb σ H1 λy H2=>R x y H2){f:Value->Value->Sem Value}(hf:∀v u s2 x y H2,Inv X η σ H2 s2->RelV x v->RelV y u->R x y H2->wpAny ?G X.A (f v u) Q X.xe s2):
  wpAny ?G X.A (eval a X.env) (λv bD=>wpAny ?G X.A (eval b X.env) (λu vZ=>wpAny ?G X.A (f v u) Q X.xe vZ) X.xe bD) X.xe s:=by
 refine bW ?QP λv s1 ⟨x,H1,I1,r1,q1⟩=>?_;refine bW (hb η s1 σ H1 _ I1 q1) λu s2 ⟨y,H2,I2,r2,q2⟩=>?_;exact hf v u s2 x y H2 I2 r1 r2 q2
theorem QN(ho:kK X (aaK op) r)(ha:PE X a ta)(hb:PE X b tb):PE X (.BinOp a op b pos) (QM r ta tb):=by intro η s σ H Q I h;exact wpAny_BinOp (M4 ha hb I h λv u s2 x y H2 I2 rx ry q=>ho η s2 σ H2 x y v u Q I2 rx ry q)
theorem nY{g:Int->Int->Int}(rule:∀(i j:Int) (t u:Tok) (s:YG) (Q:Value->YG->Prop) (E:Value->YG->Prop),C i j->Q (.int (g i j) s.toks) {s with toks:=s.toks+1}->wpAny ?G X.A (f (.int i t) (.int j u)) Q E s):
  kK X f (rI C λi j=>.int (g i j)):=by
 intro η s σ H x y v u Q I rx ry h;obtain⟨i,j,rfl,rfl,hc,q⟩:=h;obtain⟨t,rfl⟩:=rx;obtain⟨t',rfl⟩:=ry;exact rule i j t t' s _ _ hc ⟨.int (g i j),H,I.tok _,⟨_,rfl⟩,q⟩
theorem QO{g:Int->Int->Int}(rule:∀(i j:Int) (t u:Tok) (s:YG) (Q:Value->YG->Prop) (E:Value->YG->Prop),Q (.int (g i j) s.toks) {s with toks:=s.toks+1}->wpAny ?G X.A (f (.int i t) (.int j u)) Q E s):
  kK X f (Dy λi j=>.int (g i j)):=by
 intro η s σ H x y v u Q I rx ry h;obtain⟨i,j,rfl,rfl,q⟩:=h;obtain⟨t,rfl⟩:=rx;obtain⟨t',rfl⟩:=ry;exact rule i j t t' s _ _ ⟨.int (g i j),H,I.tok _,⟨_,rfl⟩,q⟩
theorem JF{g:Int->Int->Bool}(rule:∀(i j:Int) (t u:Tok) (s:YG) (Q:Value->YG->Prop) (E:Value->YG->Prop),Q (.bool (g i j)) s->wpAny ?G X.A (f (.int i t) (.int j u)) Q E s):
  kK X f (Dy λi j=>.bl (g i j)):=by
 intro η s σ H x y v u Q I rx ry h;obtain⟨i,j,rfl,rfl,q⟩:=h;obtain⟨t,rfl⟩:=rx;obtain⟨t',rfl⟩:=ry;exact rule i j t t' s _ _ ⟨.bl (g i j),H,I,rfl,q⟩
def VA(i j:Int):Prop:=0 < j/\j < 1073741824
noncomputable def JG(i j:Int):Prop:=(-(2 ^ 64) < i/\i < 2 ^ 64)\/(-(2 ^ 64) < j/\j < 2 ^ 64)
theorem JG.ok(h:JG i j):IntMulOk i j:=by
 rcases h with ⟨h1,h2⟩|⟨h1,h2⟩
 ·exact .of_left (intBits_le_64 h1 h2)
 ·exact .of_right (intBits_le_64 h1 h2)
theorem M5:kK X (aaK .Add) (Dy λi j=>.int (i+j)):=QO λ_ _ _ _ _ _ _ q=>add_int q
theorem M6:kK X (aaK .Sub) (Dy λi j=>.int (i - j)):=QO λ_ _ _ _ _ _ _ q=>sub_int q
theorem M7:kK X (aaK .Mult) (rI JG λi j=>.int (i*j)):=nY λ_ _ _ _ _ _ _ hc q=>mul_int q hc.ok
theorem Ub:kK X (aaK .FloorDiv) (rI VA λi j=>.int (i / j)):=nY λi j _ _ _ _ _ hc q=>by have h1:(0:Int) < j:=hc.1;have h2:j < 1073741824:=hc.2;exact floordiv_int ?D (by rw[Int.fdiv_eq_ediv_of_nonneg i ?D];exact q) (.inl (PyProof.noPylong_small ?D))
theorem M8:kK X (aaK .Mod) (rI (λ_ j=>0 < j) λi j=>.int (i % j)):=nY λi j _ _ _ _ _ hc q=>by have h1:(0:Int) < j:=hc;exact mod_int' ?D (by rw[Int.fmod_eq_emod_of_nonneg i ?D];exact q)
end
section
variable{X:Cx}{a b c:Expr}{ta tb tc:TE}{pos:Pos}
theorem QP:kK X (ZM .Lt) (Dy λi j=>.bl (decide (i < j))):=JF λ_ _ _ _ _ _ _ q=>lt_int q
theorem QQ:kK X (ZM .LtE) (Dy λi j=>.bl (decide (i<=j))):=JF λ_ _ _ _ _ _ _ q=>le_int q
theorem QR:kK X (ZM .Gt) (Dy λi j=>.bl (decide (j < i))):=JF λ_ _ _ _ _ _ _ q=>gt_int q
theorem QS:kK X (ZM .GtE) (Dy λi j=>.bl (decide (j<=i))):=JF λ_ _ _ _ _ _ _ q=>ge_int q
theorem kK.or(h:kK X f r)(h':kK X f r'):kK X f (λx y H Q=>r x y H Q\/r' x y H Q):=by
 intro η s σ H x y v u Q I rx ry q;rcases q with q|q;·exact h η s σ H x y v u Q I rx ry q
 ·exact h' η s σ H x y v u Q I rx ry q
theorem JH(ho:kK X (ZM op) r)(ha:PE X a ta)(hb:PE X b tb)(hm:adA op b=Ξ):PE X (.Compare a [op] [b] pos) (QM r ta tb):=by intro η s σ H Q I h;exact wpAny_Compare1 (M4 ha hb I h λv u s2 x y H2 I2 rx ry q=>ho η s2 σ H2 x y v u Q I2 rx ry q) hm
noncomputable def LZ(t:TE):TT:=λσ H Q=>t σ H λx H'=>∃k,x=.bl k/\Q k H'
theorem JI(ho:kK X (ZM op) r)(ha:PE X a ta)(hb:PE X b tb)(hm:adA op b=Ξ):PT X (.Compare a [op] [b] pos) (LZ (QM r ta tb)):=by intro η s σ H Q I h;refine wpAny_isTrue_Compare1 (bW ?QP λv s1 ⟨x,H1,I1,r1,q1⟩=>bW (hb η s1 σ H1 _ I1 q1) λu s2 ⟨y,H2,I2,r2,q2⟩=>bW (ho η s2 σ H2 x y v u _ I2 r1 r2 q2) λc s3 ⟨z,H3,I3,r3,k,e,q3⟩=>?_) hm;subst e;cases r3;exact aaa ⟨H3,I3,q3⟩
noncomputable def B2(r r':R2)(ta tb tc:TE):TE:=λσ H Q=>ta σ H λx H1=>tb σ H1 λy H2=>r x y H2 λz H3=>∃k,z=.bl k/\
 (if k=Λ then tc σ H3 λw' H4=>r' y w' H4 Q else Q ?Zj H3)
theorem Gz(ho:kK X (ZM op) r)(pV:kK X (ZM QT) r')(ha:PE X a ta)(hb:PE X b tb)(hc:PE X c tc)(hm:lastMarks [op,QT] [b,c]=Ξ:=by with_unfolding_all rfl):PE X (.Compare a [op,QT] [b,c] pos) (B2 r r' ta tb tc):=by intro η s σ H Q I h;refine Compare_chain (bW ?QP λv s1 ⟨x,H1,I1,r1,q1⟩=>chain_link (bW (hb η s1 σ H1 _ I1 q1) λu s2 ⟨y,H2,I2,r2,q2⟩=>bW (ho η s2 σ H2 x y v u _ I2 r1 r2 q2) λd s3 ⟨z,H3,I3,r3,k,e,q3⟩=>?_)) hm;subst e;cases r3;refine aaa ?_;cases k with|false=>exact ite_ff ⟨.bl Ξ,H3,I3,rfl,q3⟩|true=>exact ite_tt (chain_last (bW (hc η s3 σ H3 _ I3 q3) λw' s4 ⟨z',H4,I4,r4,q4⟩=>pV η s4 σ H4 y z' u w' Q I4 r2 r4 q4))
theorem GA(ho:kK X (ZM op) r)(pV:kK X (ZM QT) r')(ha:PE X a ta)(hb:PE X b tb)(hc:PE X c tc)(hm:lastMarks [op,QT] [b,c]=Ξ:=by with_unfolding_all rfl):PT X (.Compare a [op,QT] [b,c] pos) (LZ (B2 r r' ta tb tc)):=by intro η s σ H Q I h;refine isTrue_chain (bW ?QP λv s1 ⟨x,H1,I1,r1,q1⟩=>test_link (bW (hb η s1 σ H1 _ I1 q1) λu s2 ⟨y,H2,I2,r2,q2⟩=>bW (ho η s2 σ H2 x y v u _ I2 r1 r2 q2) λd s3 ⟨z,H3,I3,r3,k,e,q3⟩=>?_)) hm;subst e;cases r3;refine aaa ?_;cases k with|false=>obtain⟨k',e',q'⟩:=q3;cases e';exact ite_ff ⟨H3,I3,q'⟩|true=>refine ite_tt (test_last (bW (hc η s3 σ H3 _ I3 q3) λw' s4 ⟨z',H4,I4,r4,q4⟩=>bW (pV η s4 σ H4 y z' u w' _ I4 r2 r4 q4) λd' s5 ⟨z2,H5,I5,r5,k2,e2,q5⟩=>?_));subst e2;cases r5;exact aaa ⟨H5,I5,q5⟩
def EJ(K:Yw)(x:V)(H:Hp)(k:Bool):Prop:=
 match x with|.bC=>k=Ξ|.bl b=>k=b|.int i=>k=(i !=0)|.str y=>y.length<=YQ/\k=((y.length:Int)!=0)|.PU y=>y.size<=YQ/\k=((y.size:Int)!=0)|.ref p=>(∃xs,mB K H p xs/\k=!xs.isEmpty)\/(∃xs,fS K H p xs/\k=!xs.isEmpty)\/∃kvs,H p=Δ ?QA/\k=!kvs.isEmpty|_=>False
theorem B3(r:KV kvs vs):(!vs.isEmpty)=!kvs.isEmpty:=by cases r<;>rfl
theorem tP(r:aU xs its):(!its.toArray.isEmpty)=!xs.isEmpty:=by cases r<;>simp
theorem pZ:(YQ:Nat) < 2 ^ 63:=by rw[ZV];decide
theorem GB:Vz X (λx H Q=>∃k,EJ X.K x H k/\Q k H):=by
 intro η s σ H x v Q I rx h;obtain⟨k,e,q⟩:=h;have hl:=pZ;have hs:YQ=16777216:=ZV;cases x with
 |bC=>cases rx;have e':k=Ξ:=e;subst e';exact truthy_none ⟨H,I,q⟩|bl b=>cases rx;have e':k=b:=e;subst e';exact aaa ⟨H,I,q⟩|int i=>obtain⟨t,rfl⟩:=rx;have e':k=(i !=0):=e;subst e';exact PySem.P.truthy_int ⟨H,I,q⟩|str y=>obtain⟨t,rfl⟩:=rx;obtain⟨hy,e'⟩:y.length<=YQ/\k=((y.length:Int)!=0):=e;subst e';exact PySem.P.truthy_str ?D ⟨H,I.tok _,q⟩|PU y=>obtain⟨t,rfl⟩:=rx;obtain⟨hy,e'⟩:y.size<=YQ/\k=((y.size:Int)!=0):=e;subst e';exact PySem.W.truthy_bytes ?D ⟨H,I.tok _,q⟩|ref p=>
  cases rx;have e':(∃xs,mB X.K H p xs/\k=!xs.isEmpty)\/(∃xs,fS X.K H p xs/\k=!xs.isEmpty)\/∃kvs,H p=Δ ?QA/\k=!kvs.isEmpty:=e;rcases e' with ⟨xs,hx,e'⟩|⟨xs,hx,e'⟩|⟨kvs,hx,e'⟩
  ·subst e';obtain⟨its,r,pl,hz⟩:=I.list hx;have hlen:=r.length;exact wpAny_truthy_list pl.isList (by simp only[YC];lia) ⟨H,I.tok _,by rw[tP r];exact q⟩
  ·subst e';obtain⟨its,r,pl,hz⟩:=I.tuple hx;have hlen:=r.length;exact truthy_tuple pl (by simp only[YC];lia) ⟨H,I.tok _,by rw[tP r];exact q⟩
  ·subst e';obtain⟨hz,hS,vs,r,m⟩:?Ql<=YQ/\(p==aab)=Ξ/\∃vs,KV kvs vs/\s.heap.DictOf (bh X.prog X.w) p vs:=I.aL p _ hx;have hlen:?Ql=vs.length:=acQ r;exact wpAny_truthy_dict hS m ?D ⟨H,I.tok _,by rw[B3 r];exact q⟩
 |_=>exact(show False from e).elim
theorem GC(ha:PE X a ta)(he:∀whole,adO a X.env whole=(do let v<-whole;ac5 a.pos;adq [v] (truthy v))):
  PT X a (λσ H Q=>ta σ H λx H'=>∃k,EJ X.K x H' k/\Q k H'):=by
 intro η s σ H Q I h;exact isTrue_plain (bW ?QP λv s1 ⟨x,H1,I1,r1,q1⟩=>GB η s1 σ H1 x v Q I1 r1 q1) (he _)
theorem B4:kK X (aaK .Add) (λx y H Q=>∃i j,x=.str i/\y=.str j/\i.length+j.length<=YQ/\Q (.str (i++j)) H):=by intro η s σ H x y v u Q I rx ry h;obtain⟨i,j,rfl,rfl,hz,q⟩:=h;obtain⟨t,rfl⟩:=rx;obtain⟨t',rfl⟩:=ry;exact add_str (λt' tk=>⟨.str (i++j),H,I.tok _,⟨_,rfl⟩,q⟩) hz
theorem vals1(r:aU [x] us):∃u,us=[u]/\RelV x u:=by cases r with|cons r1 r2=>cases r2;exact⟨_,rfl,r1⟩
theorem vals2(r:aU [x,y] us):∃u w',us=[u,w']/\RelV x u/\RelV y w':=by cases r with|cons r1 r2=>cases r2 with|cons r3 r4=>cases r4;exact⟨_,_,rfl,r1,r3⟩
end
structure B5(h:Heap)(x dx C:Addr)(mA:Str->Option Value):Prop where
 obj:h.get? x=Δ (aaz C dx)
 ns:h.Ns1 dx mA
 ne:dx≠x
theorem EK{h:Heap}(n:h.Ns1 dx mA):∃od,h.get? dx=Δ od/\∀name,acA name od=Δ (mA name):=by
 obtain⟨o,es,ep,ho,hd,hk,_,hm⟩:=n;refine⟨o,ho,λname=>?_⟩;have e:=hm name;unfold nsFind findBy at e;rw[<-Array.find?_toList] at e;unfold acA;rw[hd];dsimp only;split;·rename_i y q;rw[q] at e;exact congrArg Δ e
 ·rename_i q;rw[q] at e;have a:es.toList.any (·.refKey)=Ξ:=by rw[acJ];intro y hy;obtain⟨z,t,VB⟩:=hk y (Array.mem_toList_iff.mp hy);simp[DictEntry.refKey,VB]
  have a':¬es.toList.any (·.refKey)=Λ:=by rw[a];exact Zh
  rw[if_neg a'];exact congrArg Δ e
theorem B5.look(I:B5 h x dx C mA):∃od,PySem.W.InstAt h x (aaz C dx) C (Δ od)/\∀name,acA name od=Δ (mA name):=
 let ⟨od,ho,hl⟩:=EK I.ns
 ⟨od,⟨I.obj,rfl,rfl,ho⟩,hl⟩
section
variable{prog:Zm}{w:World}{A:ZS}{E:Value->YG->Prop}{s:YG}{K:Yw}{x dx C f:Addr}{mA:Str->Option Value}{name:Str}{v:Value}
theorem get_map(X:K.In s.heap)(I:B5 s.heap x dx C mA)(hg:abw K C name=Λ)(hh:abV K C=Λ)(ha:Y9 K (.ref C) name=Δ Θ)(hv:mA name=Δ v)(Uc:PySem.W.handedIn v=Λ)(h:Q v {s with toks:=s.toks+1}):
  wpAny ?Qe A (getAttr (.ref x) name expr) Q E s:=by
 obtain⟨od,J,hl⟩:=I.look;exact PySem.W.get_value X J (acs hg).1 (PySem.W.findObj_own hh ha rfl (by rw[hl,hv])) Uc h
theorem GD(X:K.In s.heap)(I:B5 s.heap x dx C mA)(hg:abw K C name=Λ)(hf:Y9 K (.ref C) name=Δ (Δ (.ref f)))(ht:abd K (.ref f)=Λ)(hv:mA name=Θ)(h:Q (.ref f,[.ref x]) s):
  wpAny ?Qe A (acV (.ref x) name pl) Q E s:=by
 obtain⟨od,J,hl⟩:=I.look;exact PySem.W.method_fn X J (acs hg).1 (acs hg).2 hf (beq_iff_eq.mp ht) (by show(acA name od).map (·.isSome)=Δ Ξ;rw[hl,hv];rfl) h
theorem JJ(X:K.In s.heap)(I:B5 s.heap x dx C mA)(hs:Y9 K (.ref C) "__setattr__"=Δ (Δ (.builtin "object.__setattr__")))(hp:acF K C=Λ)(ht:adg K C name=Δ Θ)(hh:abV K C=Λ)(hw:adH mA ns)(hsz:ns.length<=YQ)(h:∀h',B5 h' x dx C (λy=>if y=name then Δ v else mA y)->aaZ dx s.heap h'->Q () {s with heap:=h',toks:=s.toks+2}):
  wpAny ?Qe A (setAttr (.ref x) name v) Q E s:=by
 obtain⟨od,J,hl⟩:=I.look;refine PySem.W.set_plain X J hs (PySem.W.osa_open (s:={s with toks:=s.toks+1}) (r:=Θ) X J hp ht λb=>?_);obtain⟨cd,hc,Du⟩:=PySem.W.any_some hh;have hx:s.heap.get? x=Δ ⟨.ref C,Δ dx,.plain,#[]⟩:=I.obj;refine Yo (YI (Yo (Yo (wpAny_loadPart hx (Yo (PySem.W.Looks.here (s:={s with toks:=s.toks+1}) (PySem.W.looks_clsIn X hc) ?_))))));rw[Du];refine YI (a:=Δ dx) (Yo (YI (Yo ?_)));refine wpAny_nsSet1 (s:={s with toks:=s.toks+1}) I.ns λh' Ud tM=>?_;obtain⟨oD,esD,epD,hoD,hdD,hcD⟩:=Ud.count (adH.cons name v hw);refine Yo (wpAny_lookBehind hoD (by rw[hdD];exact pastItsLine_dict (Zc hcD (by rw[YA];lia))) ?_);exact YI (h _ ⟨(tM.2 _ (Zq I.ne)).trans I.obj,Ud,I.ne⟩ tM)
theorem GF(X:K.In s.heap)(hm:adh K C=Λ)(hi:Y9 K (.ref C) "__init__"=Δ (Δ (.ref f)))(hf:PySem.W.typeIn K (.ref f)=Δ (.type "function"))(h:ach ?Qe (A.under (.builtin "type.__call__" ⟨.ref C::vs,kw⟩)) (.call (.ref f) ⟨.ref (?C+1)::vs,kw⟩) (PySem.W.InitBack (?C+1) R)
   {s with heap:=(s.heap.push ZW).push (aaz C ?C)}):
  ach ?Qe A (.call (.ref C) ⟨vs,kw⟩) R s:=by
 obtain⟨hh,g,d,t,os⟩:=s;exact PySem.W.make_core (PySem.W.makes_of X hm) (PySem.W.looks_findIn X hi) (λself=>PySem.W.bind_fn X self hf) ?QO h
end
noncomputable def ke(f:Str)(v:V):List (Str×V)->List (Str×V)
 |[]=>[(f,v)]|(g,x)::r=>if g=f then(g,v)::r else(g,x)::ke f v r
theorem qW f g v:∀fs:List (Str×V),(ke f v fs).lookup g=if g=f then Δ v else fs.lookup g
 |[]=>by
  show aai g [(f,v)]=_;by_cases h:g=f;·have hb:(g==f)=Λ:=beq_iff_eq.mpr h;simp only[aai,hb,if_pos h]
  ·have hb:(g==f)=Ξ:=beq_eq_false_iff_ne.mpr h;simp only[aai,hb,if_neg h]
 |(k,x)::r=>by
  have ih:=qW f g v r;rw[show ke f v ((k,x)::r)=(if k=f then(k,v)::r else(k,x)::ke f v r) from rfl];by_cases hk:k=f
  ·rw[if_pos hk];by_cases h:g=k;·have hb:(g==k)=Λ:=beq_iff_eq.mpr h;simp only[aai,hb,if_pos (h.trans hk)]
   ·have hb:(g==k)=Ξ:=beq_eq_false_iff_ne.mpr h;simp only[aai,hb,if_neg (λe:g=f=>h (e.trans hk.symm))]
  ·rw[if_neg hk];by_cases h:g=k;·have hb:(g==k)=Λ:=beq_iff_eq.mpr h;simp only[aai,hb,if_neg (λe:g=f=>hk (h.symm.trans e))]
   ·have hb:(g==k)=Ξ:=beq_eq_false_iff_ne.mpr h;simp only[aai,hb];exact ih
theorem p4 f v:∀fs:List (Str×V),f∈(ke f v fs).map (·.1)/\∀g,g∈fs.map (·.1)->g∈(ke f v fs).map (·.1)
 |[]=>⟨by simp[ke],λg h=>by simp at h⟩|(k,x)::r=>by
  obtain⟨i1,i2⟩:=p4 f v r;rw[show ke f v ((k,x)::r)=(if k=f then(k,v)::r else(k,x)::ke f v r) from rfl];by_cases hk:k=f;·rw[if_pos hk];subst hk;exact⟨by simp,λg h=>by simpa using h⟩
  ·rw[if_neg hk];refine⟨?_,λg h=>?_⟩;·rw[Yx];exact Yi _ i1
   ·rw[Yx] at h ⊢;rcases aa2.mp h with e|e;·exact aa2.mpr (.inl e)
    ·exact Yi _ (i2 g e)
theorem qY f v:∀fs:List (Str×V),(ke f v fs).length<=fs.length+1
 |[]=>by simp[ke]|(k,x)::r=>by
  have ih:=qY f v r;rw[show ke f v ((k,x)::r)=(if k=f then(k,v)::r else(k,x)::ke f v r) from rfl];by_cases hk:k=f;·rw[if_pos hk,YA,YA];lia
  ·rw[if_neg hk,YA,YA];lia
theorem kW.some_of(r:kW (Δ v) o):∃u,o=Δ u/\RelV v u:=by cases o with|none=>exact(show False from r).elim|some u=>exact⟨u,rfl,r⟩
theorem kW.none_of(r:kW Θ o):o=Θ:=by cases o with|none=>rfl|some u=>exact(show False from r).elim
theorem EL(r:RelV v u):PySem.W.handedIn u=Λ:=by cases v with|bC=>cases (show u=aar from r);rfl|bl b=>cases (show u=abK b from r);rfl|int i=>obtain⟨t,e⟩:=(show ∃t,u=acf i t from r);cases e;rfl|str x=>obtain⟨t,e⟩:=(show ∃t,u=ace x t from r);cases e;rfl|PU b=>obtain⟨t,e⟩:=(show ∃t,u=Value.bytes b t from r);cases e;rfl|MP b=>obtain⟨t,e⟩:=(show ∃t,u=adR b t from r);cases e;rfl|ref a=>cases (show u=YW a from r);rfl|ty n=>cases (show u=abc n from r);rfl
section
variable{P:Zm}{w:World}{H H':Hp}{h h':Heap}{a C dx:Addr}{fs fs':List (Str×V)}
theorem sN(aL:kX P w H h)(e:H a=Δ (.ins C dx fs)):∃mA,B5 h a dx C mA/\(∀f,kW (fs.lookup f) (mA f))/\adH mA (fs.map (·.1))/\fs.length<=1000/\H dx=Δ (.own a):=by obtain⟨d,z,ne,ob,mA,n,r,q⟩:=(show bL P w H h a (.ins C dx fs) from aL a _ e);exact⟨mA,⟨ob,n,ne⟩,r,q,z,d⟩
end
structure BU(K:Yw)(C:Addr):Prop where
 pg:abw K C Str.empty=Λ
 hd:abV K C=Λ
 po:acF K C=Λ
 sa:Y9 K (.ref C) "__setattr__"=Δ (Δ (.builtin "object.__setattr__"))
theorem BU.get{K:Yw}(c:BU K C)f:abw K C f=Λ:=c.pg
noncomputable def kf(K:Yw)(C:Addr)(f:Str):Prop:=Y9 K (.ref C) f=Δ Θ
theorem kf.QU{K:Yw}(n:kf K C f):adg K C f=Δ Θ:=by unfold adg;rw[show Y9 K (.ref C) f=Δ Θ from n];rfl
structure B6(K:Yw)(C:Addr)(m:Str)(f:Addr):Prop where
 at_:Y9 K (.ref C) m=Δ (Δ (.ref f))
 fn:abd K (.ref f)=Λ
 kp:aaL K (.ref f)=Λ
section
variable{X:Cx}{η:List ?Qb}{σ:St}{H:Hp}{s:YG}{a C dx:Addr}{fs:List (Str×V)}{f:Str}{v:V}{A:ZS}{E:Value->YG->Prop}
theorem B7(I:Inv X η σ H s)(e:H a=Δ (.ins C dx fs))(c:BU X.K C)(n:kf X.K C f)(l:fs.lookup f=Δ v)(h:∀u s',Inv X η σ H s'->RelV v u->Q u s'):wpAny ?G A (getAttr ?QT f b) Q E s:=by obtain⟨mA,O,r,_,_,_⟩:=sN I.aL e;obtain⟨u,hu,ru⟩:=kW.some_of (v:=v) (o:=mA f) (by rw[<-l];exact r f);exact get_map I.n9 O (c.get f) c.hd n hu (EL ru) (h u _ (I.tok _) ru)
theorem nc(I:Inv X η σ H s)(e:H a=Δ (.ins C dx fs))(c:BU X.K C)(k:B6 X.K C m g)(l:fs.lookup m=Θ)(h:Q (.ref g,[.ref a]) s):wpAny ?G A (acV ?QT m pl) Q E s:=by obtain⟨mA,O,r,_,_,_⟩:=sN I.aL e;have hn:mA m=Θ:=kW.none_of (by rw[<-l];exact r m);exact GD I.n9 O (c.get m) k.at_ k.fn hn h
theorem B8(I:Inv X η σ H s)(e:H a=Δ (.ins C dx fs))(c:BU X.K C)(n:kf X.K C f)(hl:fs.length < 1000)(ry:RelV y u)(h:∀s',Inv X η σ (upd H a (.ins C dx (ke f y fs))) s'->Q () s'):wpAny ?G A (setAttr ?QT f u) Q E s:=by
 obtain⟨mA,O,r,wi,_,ho⟩:=sN I.aL e;have hz:(fs.map (·.1)).length<=YQ:=by rw[Yr,ZV];lia
 refine JJ I.n9 O c.sa c.po n.QU c.hd wi hz λh' O' sb=>h _ ?_;have hd:∃o,h'.get? dx=Δ o:=let ⟨o,_,_,e',_⟩:=O'.ns;⟨o,e'⟩
 refine I.write (x:=a) (e:=dx) (by rw[e];exact ZU) (.inr ho) (λb q hb z=>(sb.2 b hb).trans z) hd ?_;refine⟨by rw[ax O.ne];exact ho,?_,O.ne,O'.obj,_,O'.ns,λg=>?_,λg hg=>?_⟩;·have:=qY f y fs;lia
 ·show kW ((ke f y fs).lookup g) (if g=f then Δ u else mA g);rw[qW];by_cases q:g=f;·rw[if_pos q,if_pos q];exact ry
  ·rw[if_neg q,if_neg q];exact r g
 ·by_cases q:g=f;·rw[q];exact(p4 f y fs).1
  ·refine(p4 f y fs).2 g (wi g λz=>hg ?_);show(if g=f then Δ u else mA g)=Θ;rw[if_neg q];exact z
theorem Inv.made(I:Inv X η σ H s):Inv X η σ (upd (upd H ?C (.own (?C+1))) (?C+1) (.ins C ?C []))
  {s with heap:=(s.heap.push ZW).push (aaz C ?C)}:=by
 have e1:(s.heap.push ZW).get? ?C=Δ ZW:=YD s.heap rfl;have e2:((s.heap.push ZW).push (aaz C ?C)).get? (?C+1)=Δ (aaz C ?C):=by have:=YD (s.heap.push ZW) (o:=aaz C ?C) rfl;rwa [ZQ] at this
 have e3:(s.heap.push ZW).Ns ?C (λ_=>Θ):=⟨ZW,#[],_,e1,rfl,(λe he=>absurd he ?E),λ_=>rfl⟩;have I1:=I.laid (a:=?C) (o:=.own (?C+1)) (h':=s.heap.push ZW) (t':=s.toks) (λb u q=>Yl _ q) (Yt _) ⟨_,e1⟩;refine I1.laid (a:=?C+1) (o:=.ins C ?C []) (t':=s.toks) (λb u q=>Yl _ q) (acx (ZQ _ _)) ?_;have ne:?C≠?C+1:=YZ (Z7 _);refine⟨by rw[ax ne,aD],Zr _,ne,e2,λ_=>Θ,(Heap.Ns1.of_empty e3).at λo q=>Yl _ q,λ_=>ZU,λy hy=>absurd rfl hy⟩
theorem JK(hb:aa0 e f env (eval e env)=eval e env)(h:wpAny ?Qe A (eval e env) (λo bD=>wpAny ?Qe A (getAttr o f Λ) Q E bD) E s):wpAny ?Qe A (eval (.Attribute e f pos) env) Q E s:=
 Attribute_any_ h (by rw[arm_eval_Attribute,hb])
end
def VC(K:Yw)(ta:TE)(f:Str):TE:=λσ H Q=>ta σ H λx H1=>∃a C dx fs v,x=.ref a/\H1 a=Δ (.ins C dx fs)/\BU K C/\kf K C f/\fs.lookup f=Δ v/\Q v H1
def VD(K:Yw)(ta tv:TE)(f:Str):TS:=λD σ H=>tv σ H λy H1=>ta σ H1 λx H2=>∃a C dx fs,x=.ref a/\H2 a=Δ (.ins C dx fs)/\BU K C/\kf K C f/\fs.length < 1000/\
 D.nx σ (upd H2 a (.ins C dx (ke f y fs)))
section
variable{X:Cx}{o e value:Expr}{f:Str}{pos pos' VE:Pos}{ta tv:TE}
theorem M9(he:PE X e ta)(hb:aa0 e f X.env (eval e X.env)=eval e X.env):PE X (.Attribute e f pos) (VC X.K ta f):=by intro η s σ H Q I h;refine JK hb (bW (he η s σ H _ I h) λu s1 ⟨x,H1,I1,rx,a,C,dx,fs,v,ex,ea,c,n,l,q⟩=>?_);subst ex;obtain rfl:u=YW a:=rx;exact B7 I1 ea c n l λu' s2 I2 ru=>⟨v,H1,I2,ru,q⟩
theorem Na(ha:PE X o ta)(hv:PE X value tv)(hs:abu value (Δ (.Attribute o f pos')) pos.line X.env=pure Ξ):PS X (.Assign [.Attribute o f pos'] value pos) (VD X.K ta tv f):=by intro η s σ H D I h;refine plainObj_wpAny_Assign_Attribute (bW (hv η s σ H _ I h) λu s1 ⟨y,H1,I1,ry,q⟩=>bW (ha η s1 σ H1 _ I1 q) λov s2 ⟨x,H2,I2,rx,a,C,dx,fs,ex,ea,c,n,l,q2⟩=>?_) hs;subst ex;obtain rfl:ov=YW a:=rx;exact B8 I2 ea c n l ry λs3 I3=>⟨σ,_,I3,q2⟩
theorem L0(he:PE X e te)(I:Inv X η σ H s)(h:te σ H λx H1=>∃a C dx fs g,x=.ref a/\H1 a=Δ (.ins C dx fs)/\BU X.K C/\B6 X.K C m g/\fs.lookup m=Θ/\
   ∀s1,Inv X η σ H1 s1->wpAny ?G X.A (adG pos (.ref g) [.ref a] (aax pos (YX args X.env)) (ack pos (abb [] X.env))) Q X.xe s1)(ht:eval (.Call (.Attribute e m apos) args [] pos) X.env=(do
   let ov<-eval e X.env
   ac5 apos.atName
   let (f,first)<-adq [ov] (acV ov m pl)
   adG pos f first (aax pos (YX args X.env)) (ack pos (abb [] X.env)))):
  wpAny ?G X.A (eval (.Call (.Attribute e m apos) args [] pos) X.env) Q X.xe s:=by
 refine ab5 (pl:=pl) (bW (he η s σ H _ I h) λu s1 ⟨x,H1,I1,rx,a,C,dx,fs,g,ex,ea,c,k,l,q⟩=>?_) ht;subst ex;obtain rfl:u=YW a:=rx;exact nc I1 ea c k l (q s1 I1)
end
section
variable{X:Cx}{η:List ?Qb}{σ:St}{H:Hp}{s:YG}{A:ZS}{E:Value->YG->Prop}{Q:Value->YG->Prop}{c:Value}{b:Bool}
inductive ng (K:Yw) (H:Hp):V->Value->Prop where
 |bC:ng K H .bC (.type "NoneType")
 |bl (x:Bool):ng K H (.bl x) (.type "bool")
 |int (i:Int):ng K H (.int i) (.type "int")
 |str (x:Str):ng K H (.str x) (.type "str")
 |MP (x:UInt64):ng K H (.MP x) (.type "float")
 |lst {a:Addr} {xs:List V} (e:H a=Δ ?QX):ng K H ?QT (.type "list")
 |dA {a:Addr} {o:Obj} {xs:List V} (e:H a=Δ (.dA o ?QX)):ng K H ?QT (.type "list")
 |tup {a:Addr} {xs:List V} (e:H a=Δ ?QE):ng K H ?QT (.type "tuple")
 |dK {a:Addr} {kvs:List (Key×V)} (e:H a=Δ ?QA):ng K H ?QT (.type "dict")
 |dT {a:Addr} {kvs:List (List Key×V)} (e:H a=Δ (.dT kvs)):ng K H ?QT (.type "dict")
 |ins {a C dx:Addr} {fs:List (Str×V)} (e:H a=Δ (.ins C dx fs)) (cl:BU K C) (ha:Y9 K (.ref C) "__class__"=Δ (Δ (.builtin "object.__class__")))
   (hn:PySem.W.specialIn K (.builtin "object.__class__") "__get__"=Δ (Δ (.builtin "getset_descriptor.__get__"))) (htk:PySem.W.takesIn K (.builtin "object.__class__")=Δ Λ)
   (hm:PySem.W.mroIn K C (.type "object")=Δ Λ):ng K H ?QT (.ref C)
theorem p5(I:Inv X η σ H s)(rx:RelV x u)(ty:ng X.K H x t)(e:adn X.K t c=Δ b)(h:∀tk,Q (.bool b) {s with toks:=tk}):
  wpAny ?G A (call (.builtin "isinstance") [u,c]) Q E s:=by
 cases ty with
 |bC=>cases (show u=aar from rx);exact ZG PySem.W.kitx_none I.n9 ZU e (λz=>nomatch z) h|bl y=>cases (show u=abK y from rx);exact ZG PySem.W.kitx_bool I.n9 ZU e (λz=>nomatch z) h|int i=>obtain⟨t,q⟩:=(show ∃t,u=acf i t from rx);cases q;exact ZG PySem.W.kitx_int I.n9 ZU e (λz=>nomatch z) h|str y=>obtain⟨t,q⟩:=(show ∃t,u=ace y t from rx);cases q;exact ZG PySem.W.kitx_str I.n9 ZU e (λz=>nomatch z) h|MP y=>obtain⟨t,q⟩:=(show ∃t,u=adR y t from rx);cases q;exact ZG PySem.W.kitx_float I.n9 ZU e (λz=>nomatch z) h|@lst a xs ea=>cases (show u=YW a from rx);obtain⟨_,_,n,_,h1⟩:=(show bL X.prog X.w H s.heap a ?QX from I.aL a _ ea);exact ZG PySem.W.kitx_list I.n9 ⟨_,h1,rfl⟩ e (λz=>nomatch z) h
 |@dA a ob xs ea=>cases (show u=YW a from rx);obtain⟨_,_,_,n,_,h1⟩:=(show bL X.prog X.w H s.heap a (.dA ob ?QX) from I.aL a _ ea);exact ZG PySem.W.kitx_list I.n9 ⟨_,h1,rfl⟩ e (λz=>nomatch z) h|@tup a xs ea=>cases (show u=YW a from rx);obtain⟨_,_,_,p⟩:=(show bL X.prog X.w H s.heap a ?QE from I.aL a _ ea);obtain⟨o,h1,h2,_⟩:=p;exact ZG PySem.W.kitx_tuple I.n9 ⟨o,h1,h2⟩ e (λz=>nomatch z) h|@dK a kvs ea=>cases (show u=YW a from rx);obtain⟨_,_,vs,_,p⟩:=(show bL X.prog X.w H s.heap a ?QA from I.aL a _ ea);obtain⟨o,es,ep,h1,h2,_⟩:=p;exact ZG PySem.W.kitx_dict I.n9 ⟨o,h1,h2.1⟩ e (λz=>nomatch z) h|@dT a kvs ea=>cases (show u=YW a from rx);obtain⟨_,_,xs,_,o,es,ep,h1,h2,_⟩:=(show bL X.prog X.w H s.heap a (.dT kvs) from I.aL a _ ea);exact ZG PySem.W.kitx_dict I.n9 ⟨o,h1,h2.1⟩ e (λz=>nomatch z) h|@ins a C dx fs ea cl ha hn htk hm=>cases (show u=YW a from rx);obtain⟨mA,O,_⟩:=sN I.aL ea;obtain⟨od,J,_⟩:=O.look;exact ZG (PySem.W.kitx_own (cl.get _) cl.hd ha hn htk hm) I.n9 J e (λz=>nomatch z) h
end
structure dj(k:Nat)(A:ZS):Prop where
 hd:A.handled=Θ
 dp:A.depth+3*k+5 < recursionLimit
 un:A.units+16*k+200 < cLine
theorem dj.mono(r:dj k A)(h:j<=k):dj j A:=⟨r.hd,by have:=r.dp;lia,by have:=r.un;lia⟩
theorem dj.deeper(r:dj (k+1) A)env:dj k (A.deeper env):=
 ⟨r.hd,by have:=r.dp;show A.depth+1+3*k+5 < _;lia,by have:=r.un;show A.units+3+16*k+200 < _;lia⟩
theorem B9{A:ZS}:(A.under (.builtin "type.__call__" ⟨.ref C::us,kw⟩)).depth=A.depth+1:=by first|rfl|simp[adM,Code.weight,Code.isCreation,Code.isGuard,Code.isCaller,Code.frames,adL,guardIds]
theorem Ca{A:ZS}:(A.under (.builtin "type.__call__" ⟨.ref C::us,kw⟩)).units=A.units+1:=by first|rfl|simp[adM,Code.cUnits,Code.frames,adL]
theorem dj.make(r:dj (k+1) A)C us kw:dj k (A.under (.builtin "type.__call__" ⟨.ref C::us,kw⟩)):=
 ⟨r.hd,by have:=r.dp;rw[B9];lia,by have:=r.un;rw[Ca];lia⟩
theorem dj.depth(r:dj k A):A.depth < recursionLimit:=by have:=r.dp;lia
def Nb:TA:=λ_ H Q=>Q [] H
def QV(ta:TE)(tr:TA):TA:=λσ H Q=>ta σ H λx H1=>tr σ H1 λxs H2=>Q (x::xs) H2
section
variable{X:Cx}{e:Expr}{es:List Expr}{te:TE}{t:TA}{pos:Pos}
theorem Cb:PA X [] Nb:=λ_ _ _ _ H Q I h=>ab3 ⟨[],H,I,.nil,h⟩
theorem sO(ha:PE X e te)(hr:PA X es t)(hs:YX (e::es) X.env=(Ξ,eval e X.env)::YX es X.env:=by rfl):PA X (e::es) (QV te t):=by intro pos η s σ H Q I h;rw[hs];show wpAny _ _ (spliced ((Ξ,eval e X.env)::aax pos (YX es X.env))) _ _ s;refine abf (bW ?QP λu s1 ⟨x,H1,I1,r1,q1⟩=>?_);exact bW (hr pos η s1 σ H1 _ I1 q1) λus s2 ⟨xs,H2,I2,r2,q2⟩=>⟨x::xs,H2,I2,.cons r1 r2,q2⟩
def VF(t:TA):TE:=λσ H Q=>t σ H λxs H1=>?Q<=YQ/\∀p,H1 p=Θ->Q (.ref p) (upd H1 p ?QE)
def VG(t:TA):TE:=λσ H Q=>t σ H λxs H1=>?Q<=YQ/\∀p,H1 p=Θ->Q (.ref p) (upd H1 p ?QX)
theorem Nc{x1}(h:PA X es t):PE X (.Tuple es x1 pos) (VF t):=by intro η s σ H Q I hq;refine wpAny_Tuple_spliced (bW (h pos η s σ H _ I hq) λus s1 ⟨xs,H1,I1,r,z,q⟩=>⟨by rw[<-r.length];exact z,?_⟩);have hf:H1 ?Z=Θ:=I1.aL.fresh (Yt _);refine⟨.ref ?Z,upd H1 ?Z ?QE,I1.laid (t':=s1.toks) (λb u e=>Yl _ e) (Yt _) ?_,rfl,q _ hf⟩;exact⟨z,us,r,⟨_,YD _ rfl,rfl,_,rfl⟩⟩
theorem Nd(h:PA X es t):PE X (.List es pos) (VG t):=by intro η s σ H Q I hq;refine wpAny_List_spliced (bW (h pos η s σ H _ I hq) λus s1 ⟨xs,H1,I1,r,z,q⟩=>⟨by rw[<-r.length];exact z,?_⟩);have hf:H1 ?Z=Θ:=I1.aL.fresh (Yt _);refine⟨.ref ?Z,upd H1 ?Z ?QX,I1.laid (t':=s1.toks) (λb u e=>Yl _ e) (Yt _) ?_,rfl,q _ hf⟩;exact⟨z,us,0,r,YD _ rfl⟩
end
abbrev Sp:=List V->Hp->VK->XK->Prop
abbrev Jj:=List Env->Hp->YG->XK->Value->YG->Prop
structure yo(P:Zm)(w:World)(K:Yw)(mg:Str->Option Value)(base:Heap)(A:ZS)(outer:List Env)(s:YG)(H:Hp):Prop where
 frames:A.frames=Δ outer
 mod:Mod K mg base
 bs:∀b o,base.get? b=Δ o->s.heap.get? b=Δ o/\H b=Θ
 Ga:base.objs.size<=?C
 m7:s.heap.FunFrames base outer
 Jz:∀b∈j0 outer,H b=Θ
 aL:kX P w H s.heap
 bare:acL s.gens
def CE(outer:List Env)(P:Zm)(w:World)(H:Hp)(s:YG)(Q:VK)(u:Value)(s':YG):Prop:=
 ∃v H',s'.os=s.os/\acL s'.gens/\Un (j0 outer) [] H H' s.heap s'.heap/\kX P w H' s'.heap/\RelV v u/\Q v H'
def CR(CX:Jj)(outer:List Env)(P:Zm)(w:World)(H:Hp)(s:YG)(Q:VK)(E:XK)(r:Result)(s':YG):Prop:=
 match r with|.ok (.ret u)=>CE outer P w H s Q u s'|.ok _=>False|.error e=>CX outer H s E e s'
structure gR(P:Zm)(w:World)(K:Yw)(mg:Str->Option Value)(base:Heap)(CX:Jj)(k:Nat)(f:Addr)(fd:aao)(ps:List Str)(sp:Sp):Prop where
 len:∀vs H Q E,sp vs H Q E->vs.length=?S
 run:∀(A:ZS) (outer:List Env) (s:YG) (H:Hp) (args:Args) (us:List Value) (vs:List V) (Q:VK) (E:XK),dj k A->yo P w K mg base A outer s H->adb s fd args (ps.zip us)->aU vs us->sp vs H Q E->
  ach (model P w) A (.call (.ref f) args) (CR CX outer P w H s Q E) s
theorem yo.make{K:Yw}(e:yo P w K mg base A outer s H)C us kw:
  yo P w K mg base (A.under (.builtin "type.__call__" ⟨.ref C::us,kw⟩)) outer s H:=⟨by first|exact e.frames|(simpa[adM,Code.envs,adL,pushEnvs] using e.frames),e.mod,e.bs,e.Ga,e.m7,e.Jz,e.aL,e.bare⟩
section
variable{X:Cx}{η:List ?Qb}{σ:St}{H:Hp}{s s':YG}
theorem Inv.QW(I:Inv X η σ H s):yo X.prog X.w X.K X.mg X.base X.A X.stack s H:=
 ⟨I.ok.frames,I.ok.mod,I.bs,Zc I.ok.Ga I.sz,I.stack,I.oa,I.aL,I.bare⟩
theorem Inv.after(I:Inv X η σ H s)(h:CE X.stack X.prog X.w H s Q u s'):EP X η σ Q u s':=by obtain⟨v,H',os,bare,un,aL,r,q⟩:=h;obtain⟨hh,g,d,t,os'⟩:=s';obtain rfl:os'=s.os:=os;exact⟨v,H',I.call (h':=hh) (g':=g) (d':=d) (t':=t) (ch:=[]) un aL bare (λb z=>absurd z ?E),r,q⟩
end
noncomputable def GG(sp:Sp)(dvs:List V)(E:XK)(t:TA):TE:=λσ H Q=>t σ H λvs H1=>sp (vs++dvs) H1 Q E
noncomputable def Dz(C:Addr)(m:Str)(sp:Sp)(dvs:List V)(E:XK)(ta:TE)(t:TA):TE:=λσ H Q=>ta σ H λx H1=>∃a dx fs,x=.ref a/\H1 a=Δ (.ins C dx fs)/\fs.lookup m=Θ/\
 t σ H1 λvs H2=>sp (x::(vs++dvs)) H2 Q E
def QX(C:Addr)(sp:Sp)(dvs:List V)(E:XK)(t:TA):TE:=λσ H Q=>t σ H λvs H1=>∀x dx,H1 x=Θ->H1 dx=Θ->dx≠x->
 sp (.ref x::(vs++dvs)) (upd (upd H1 dx (.own x)) x (.ins C dx [])) (λv H2=>v=.bC/\Q (.ref x) H2) E
noncomputable def Binds(K:Yw)(fd:aao)(ps:List Str)(ds:List Value):Prop:=
 ∀(s:YG) (us:List Value),K.In s.heap->(us++ds).length=?S->adb s fd ⟨us,[]⟩ (ps.zip (us++ds))
theorem Binds.all{K:Yw}(h:∀us:List Value,us.length=?S->adX fd ⟨us,[]⟩=pure (ps.zip us)):Binds K fd ps []:=λs us _ hl=>by rw[Zo] at hl ⊢;exact .of_eq (h us hl)
noncomputable def kZ(CX:Jj)(X:Cx)(E:XK):Prop:=∀(η:List ?Qb) (σ:St) (H:Hp) (s:YG) (e:Value) (s':YG),Inv X η σ H s->CX X.stack H s E e s'->X.xe e s'
section
variable{X:Cx}{CX:Jj}{k:Nat}{f C:Addr}{fd:aao}{ps:List Str}{sp:Sp}{dvs:List V}{ds:List Value}{E:XK}{x m:Str}{p pos apos:Pos}{e o:Expr}{es:List Expr}{ta:TE}{t:TA}
theorem tQ(F:gR X.prog X.w X.K X.mg X.base CX k f fd ps sp)(hr:dj k X.A)(hb:Binds X.K fd ps ds)(hd:aU dvs ds)(hx:kZ CX X E)(I:Inv X η σ H s)(r:aU vs us)(h:sp (vs++dvs) H Q E):wpAny ?G X.A (call (.ref f) us) (EP X η σ Q) X.xe s:=by
 have r2:aU (vs++dvs) (us++ds):=r.append hd;have hl:(us++ds).length=ps.length:=by rw[<-r2.length];exact F.len _ _ _ _ h
 refine adU (acv (F.run X.A X.stack s H ⟨us,[]⟩ (us++ds) (vs++dvs) Q E hr I.QW (hb s us I.n9 hl) r2 h) λr s' hq=>?_);cases r with|error e=>exact hx η σ H s e s' I hq|ok fl=>cases fl with|ret u=>exact I.after hq|next=>exact ZE hq|brk=>exact ZE hq|cont=>exact ZE hq
theorem JL(F:gR X.prog X.w X.K X.mg X.base CX k f fd ps sp)(hr:dj k X.A)(hg:Gl X x)(hm:X.mg x=Δ (.ref f))(hk:aaL X.K (.ref f)=Λ)(hb:Binds X.K fd ps ds)(hd:aU dvs ds)(hx:kZ CX X E)
  (ha:PA X (e::es) t) (JM:(x==("__debug__":Str))=Ξ:=by decide) (he:YX (e::es) X.env=(Ξ,eval e X.env)::YX es X.env:=by rfl) (zK:(aax pos (YX es X.env)).any (·.1)=Ξ:=by rfl):
  PE X ?QG (GG sp dvs E t):=by
 intro η s σ H Q I h;refine ZN (oj I hg hm ?_ JM);refine abL (h₀:=X.base) I.ok.mod.MS hk (bW ?QZ λus s1 ⟨vs,H1,I1,r,q⟩=>⟨I1.n9,?_⟩) he zK;exact tQ F hr hb hd hx I1 r q
theorem GH(F:gR X.prog X.w X.K X.mg X.base CX k f fd ps sp)(hr:dj k X.A)(hg:Gl X x)(hm:X.mg x=Δ (.ref f))(hk:aaL X.K (.ref f)=Λ)(hb:Binds X.K fd ps ds)(hd:aU dvs ds)(hx:kZ CX X E)
  (JM:(x==("__debug__":Str))=Ξ:=by decide):PE X (.Call (.Name x p) [] [] pos) (GG sp dvs E Nb):=by
 intro η s σ H Q I h;refine ZN (oj I hg hm ?_ JM);exact PySem.W.callWith_K0 I.n9 hk (tQ (us:=[]) F hr hb hd hx I .nil h)
theorem JN(he:PE X o ta)(c:BU X.K C)(hm:B6 X.K C m f)(F:gR X.prog X.w X.K X.mg X.base CX k f fd ps sp)(hr:dj k X.A)(hb:Binds X.K fd ps ds)(hd:aU dvs ds)(hx:kZ CX X E)(ha:PA X (e::es) t)(qV:YX (e::es) X.env=(Ξ,eval e X.env)::YX es X.env:=by rfl)(zK:(aax pos (YX es X.env)).any (·.1)=Ξ:=by rfl)(ht:eval (.Call (.Attribute o m apos) (e::es) [] pos) X.env=(do
   let ov<-eval o X.env
   ac5 apos.atName
   let (f,first)<-adq [ov] (acV ov m pl)
   adG pos f first (aax pos (YX (e::es) X.env)) (ack pos (abb [] X.env))):=by rfl):
  PE X (.Call (.Attribute o m apos) (e::es) [] pos) (Dz C m sp dvs E ta t):=by
 intro η s σ H Q I h;refine ab5 (pl:=pl) (bW (he η s σ H _ I h) λu s1 ⟨x,H1,I1,rx,a,dx,fs,ex,ea,l,q⟩=>?_) ht;subst ex;obtain rfl:u=YW a:=rx;refine nc I1 ea c hm l ?_;refine abL (first:=[.ref a]) (h₀:=X.base) I.ok.mod.MS hm.kp (bW (ha pos η s1 σ H1 _ I1 q) λus s2 ⟨vs,H2,I2,r,q2⟩=>⟨I2.n9,?_⟩) qV zK;exact tQ (us:=.ref a::us) (vs:=.ref a::vs) F hr hb hd hx I2 (.cons rfl r) q2
theorem GI(he:PE X o ta)(c:BU X.K C)(hm:B6 X.K C m f)(F:gR X.prog X.w X.K X.mg X.base CX k f fd ps sp)(hr:dj k X.A)(hb:Binds X.K fd ps ds)(hd:aU dvs ds)(hx:kZ CX X E)(ht:eval (.Call (.Attribute o m apos) [] [] pos) X.env=(do
   let ov<-eval o X.env
   ac5 apos.atName
   let (f,first)<-adq [ov] (acV ov m pl)
   adG pos f first (aax pos (YX [] X.env)) (ack pos (abb [] X.env))):=by rfl):
  PE X (.Call (.Attribute o m apos) [] [] pos) (Dz C m sp dvs E ta Nb):=by
 intro η s σ H Q I h;refine ab5 (pl:=pl) (bW (he η s σ H _ I h) λu s1 ⟨x,H1,I1,rx,a,dx,fs,ex,ea,l,q⟩=>?_) ht;subst ex;obtain rfl:u=YW a:=rx;refine nc I1 ea c hm l ?_;exact PySem.W.callWith_K0 (first:=[.ref a]) I1.n9 hm.kp (tQ (us:=[.ref a]) (vs:=[.ref a]) F hr hb hd hx I1 (.cons rfl .nil) q)
structure Mk(K:Yw)(C f:Addr):Prop where
 makes:adh K C=Λ
 init:Y9 K (.ref C) "__init__"=Δ (Δ (.ref f))
 fn:abd K (.ref f)=Λ
 kp:aaL K (.ref C)=Λ
theorem GJ(M:Mk X.K C f)(F:gR X.prog X.w X.K X.mg X.base CX k f fd ps sp)(hr:dj (k+1) X.A)(hb:Binds X.K fd ps ds)(hd:aU dvs ds)(hx:kZ CX X E)(I:Inv X η σ H s)(r:aU vs us)(h:∀x dx,H x=Θ->H dx=Θ->dx≠x->sp (.ref x::(vs++dvs)) (upd (upd H dx (.own x)) x (.ins C dx [])) (λv H2=>v=.bC/\Q (.ref x) H2) E):
  wpAny ?G X.A (call (.ref C) us) (EP X η σ Q) X.xe s:=by
 have hq:=h (?C+1) ?C (I.aL.fresh (aah _)) ?QW (YZ (Z7 _));have I2:=Inv.made (C:=C) I;have r2:aU (V.ref (?C+1)::(vs++dvs)) (YW (?C+1)::(us++ds)):=.cons rfl (r.append hd);have hl:(YW (?C+1)::us++ds).length=ps.length:=by have e:=r2.length;rw[F.len _ _ _ _ hq] at e;exact e.symm
 refine adU (GF (f:=f) I.n9 M.makes M.init (beq_iff_eq.mp M.fn) (acv (F.run _ X.stack _ _ ⟨YW (?C+1)::us,[]⟩ (YW (?C+1)::(us++ds)) _ _ E (hr.make C us [])
  (I2.QW.make C us []) (hb _ (YW (?C+1)::us) I2.n9 hl) r2 hq) λr s' zX=>?_))
 cases r with|error e=>exact hx η σ _ _ e s' I2 zX|ok fl=>cases fl with|ret u=>obtain⟨v,H',I3,rv,ev,q3⟩:=I2.after zX;subst ev;exact⟨rv,⟨V.ref (?C+1),H',I3,rfl,q3⟩⟩|next=>exact ZE zX|brk=>exact ZE zX|cont=>exact ZE zX
theorem JO(M:Mk X.K C f)(F:gR X.prog X.w X.K X.mg X.base CX k f fd ps sp)(hr:dj (k+1) X.A)(hg:Gl X x)(hm:X.mg x=Δ (.ref C))(hb:Binds X.K fd ps ds)(hd:aU dvs ds)(hx:kZ CX X E)
  (ha:PA X (e::es) t) (JM:(x==("__debug__":Str))=Ξ:=by decide) (he:YX (e::es) X.env=(Ξ,eval e X.env)::YX es X.env:=by rfl) (zK:(aax pos (YX es X.env)).any (·.1)=Ξ:=by rfl):
  PE X ?QG (QX C sp dvs E t):=by
 intro η s σ H Q I h;refine ZN (oj I hg hm ?_ JM);refine abL (h₀:=X.base) I.ok.mod.MS M.kp (bW ?QZ λus s1 ⟨vs,H1,I1,r,q⟩=>⟨I1.n9,?_⟩) he zK;exact GJ M F hr hb hd hx I1 r q
end
section
variable{X:Cx}{CX:Jj}{k:Nat}{f C:Addr}{fd:aao}{ps ks:List Str}{sp:Sp}{E:XK}{x m:Str}{p pos apos kpos:Pos}{e o:Expr}{es:List Expr}{je:List acK}{te ta:TE}{t tk:TA}{nm:Option Str}
variable{g:List Value->List Value->List Value}{gV:List V->List V->List V}
end
structure oq(N P:List Str)(sc:Scope):Prop where
 kind:sc.kind=.function
 co:sc.isCoroutine=Ξ
 gen:sc.isGenerator=Ξ
 nd:N.Nodup
 pre:N.take P.length=P
 par:∀x∈P,sc.names.lookup x=Δ .local\/sc.names.lookup x=Δ .cell
 Nf:∀y∈sc.names,y.2≠.free
theorem wY{acd:Str->Option aaX}:∀{binds} {m},(∀v,(x,v)∉binds)->bindL acd binds m x=m x
 |[],_,_=>rfl|(n,v)::r,m,h=>by
  unfold bindL;rw[wY λw hw=>h w (Yi _ hw)];split
  ·have:x≠n:=by rintro rfl;exact h v Yk
   simp[this]
  ·rfl
theorem wZ{acd:Str->Option aaX}:∀{binds} {m},(∀v,(x,v)∉binds)->bindC acd binds m x=m x
 |[],_,_=>rfl|(n,v)::r,m,h=>by
  unfold bindC;rw[wZ λw hw=>h w (Yi _ hw)];split;·rfl
  ·have:x≠n:=by rintro rfl;exact h v Yk
   simp[this]
theorem w4{acd:Str->Option aaX}:∀{P:List Str} {vs} {i:Nat} {m},P.Nodup->P[i]?=Δ x->vs[i]?=Δ v->acd x=Δ .local->
  bindL acd (P.zip vs) m x=Δ v
 |[],_,_,_,_,h,_,_=>by simp at h|_::_,[],_,_,_,_,h,_=>by simp at h|p::P,w::vs,0,m,nd,h1,h2,hk=>by simp at h1 h2;subst h1;subst h2;show bindL acd ((p,w)::P.zip vs) m p=_;unfold bindL;rw[wY λv hv=>(ZT.mp nd).1 (abg hv).1,if_pos hk];simp
 |p::P,w::vs,i+1,m,nd,h1,h2,hk=>by show bindL acd ((p,w)::P.zip vs) m x=_;unfold bindL;exact w4 (i:=i) (ZT.mp nd).2 (by simpa using h1) (by simpa using h2) hk
theorem w6{acd:Str->Option aaX}:∀{P:List Str} {vs} {i:Nat} {m},P.Nodup->P[i]?=Δ x->vs[i]?=Δ v->acd x≠Δ .local->
  bindC acd (P.zip vs) m x=Δ v
 |[],_,_,_,_,h,_,_=>by simp at h|_::_,[],_,_,_,_,h,_=>by simp at h|p::P,w::vs,0,m,nd,h1,h2,hk=>by simp at h1 h2;subst h1;subst h2;show bindC acd ((p,w)::P.zip vs) m p=_;unfold bindC;rw[wZ λv hv=>(ZT.mp nd).1 (abg hv).1,if_neg hk];simp
 |p::P,w::vs,i+1,m,nd,h1,h2,hk=>by show bindC acd ((p,w)::P.zip vs) m x=_;unfold bindC;exact w6 (i:=i) (ZT.mp nd).2 (by simpa using h1) (by simpa using h2) hk
noncomputable def start(N:List Str)(vs:List V):St:=vs.map Δ++ZO (N.length - vs.length) Θ
noncomputable def yp(CX:Jj)(P:Zm)(w:World)(K:Yw)(mg:Str->Option Value)(base:Heap)(N:List Str)(qual:Str)(scope:Scope)(f:Addr)(cd:Value)(A:ZS)(outer:List Env)(s:YG)(H:Hp)(E:XK):Cx where
 prog:=P
 w:=w
 K:=K
 mg:=mg
 base:=base
 A:=A.deeper (ac6 qual scope ?C f cd)
 N:=N
 ig:=s
 zT:=H
 env:=ac6 qual scope ?C f cd
 outer:=outer
 stack:=ac6 qual scope ?C f cd::outer
 ex:=[]
 calm:=Λ
 fn:=λ_=>Λ
 pn:=[]
 xe:=λe s'=>wpAny (model P w) (A.deeper (ac6 qual scope ?C f cd)) (leaving (ac6 qual scope ?C f cd) e) (λ_ Ng=>CX outer H s E e Ng) (λe' Ng=>CX outer H s E e' Ng) s'
theorem tR{sc:Scope}(h:sc.names.lookup x=Δ .cell):∃c,(cellsFrom n sc.names []).lookup x=Δ c:=by have q:=PySem.W.cellsFrom_some sc.names n [] (.inl h);exact Option.isSome_iff_exists.mp q
theorem EM{K:Yw}(S:oq N ps scope)(hd:A.handled=Θ)(e0:yo P w K mg base A outer s H)(hl:vs.length=?S)(r:aU vs us)(x:InCallC s ?C (bindL (ac6 qual scope ?C f cd).kindOf (ps.zip us) λ_=>Θ) (cellsFrom (?C+1) scope.names []) (bindC (ac6 qual scope ?C f cd).kindOf (ps.zip us) λ_=>Θ) s1):
  Inv (yp CX P w K mg base N qual scope f cd A outer s H E) [] (start N vs) H s1:=by
 have zK:?S<=N.length:=by have:=congrArg acI S.pre;rw[aaI] at this;lia
 obtain⟨h1,tk,rfl,hk⟩:=x.done;have Jk:∀b:Addr,b∉(yp CX P w K mg base N qual scope f cd A outer s H E).ex:=λb z=>absurd (show b∈([]:List Addr) from z) ?E;refine⟨⟨e0.mod,S.kind,rfl,rfl,Yt _,λy z c h1 h2=>?_,λy hy=>?_,λy c _ h=>?_,λ_=>hd,ZS.frames_deeper e0.frames,.inr ⟨rfl,rfl⟩,λb z=>absurd z (Jk b),e0.bs,e0.Ga,λb _ _=>Jk b,λb z=>absurd z (Jk b),e0.m7,e0.Jz⟩,
  rfl,e0.bare,Un.kept hk,⟨_,x.toInCall.ns,λi y v h1 h2 h3=>?_⟩,λy c h=>⟨_,x.cell y c h⟩,e0.aL.fresh (Yt _),λy c h=>?_,λp hp=>absurd (show p∈([]:List ?Qb) from hp) ?E,e0.aL.kept hk,?_⟩
 ·exact name_of_addr x.apart (Zd h1) (Zd h2)
 ·have hy:scope.names.lookup y=Δ .cell\/scope.names.lookup y=Δ .free:=hy;rcases hy with hy|hy;·exact tR hy
  ·exact absurd rfl (S.Nf _ (Zd hy))
 ·exact aby (x.above y c (Zd h))
 ·have hi:i < vs.length:=by
   unfold start at h2;by_cases hi:i < vs.length;·exact hi
   ·rw[YH ?Zl] at h2;rw[aba] at h2;split at h2<;>cases h2
  have ha:vs[i]?=Δ v:=by unfold start at h2;rw[Yq ?Zl,Ys] at h2;cases e:vs[i]? with|none=>rw[e] at h2;cases h2|some a=>rw[e] at h2;cases h2;rfl
  obtain⟨u,hu,rv⟩:=r.get ha;have hp:ps[i]?=Δ y:=by rw[<-S.pre,List.getElem?_take_of_lt ?D];exact h1
  have Ue:ps.Nodup:=by rw[<-S.pre];exact S.nd.sublist (List.take_sublist _ _)
  refine⟨u,rv,?_⟩;rcases S.par y (Yz hp) with k|k;·exact .inl ⟨k,w4 Ue hp hu k⟩
  ·obtain⟨c,e⟩:=tR (n:=?C+1) k;refine .inr ⟨.inl k,c,e,?_⟩;have q:=x.cell y c e;rw[w6 Ue hp hu (by show scope.names.lookup y≠_;rw[k];decide)] at q;exact q
 ·exact e0.aL.fresh (aby (x.above y c (Zd h)))
 ·unfold start;show _=N.length;rw[YF,Yr,abl]
  lia
theorem QY{K:Yw}{dV kV doc pm kU ct oc:Value}(lk:K.lookup f=Δ ⟨oc,od,.func (abW name qual params body scope dV kV doc pm an kU ct),JP⟩)(pX:ado K kU qual=Λ)(S:oq N ps scope)(len:∀vs H Q E,sp vs H Q E->vs.length=?S)(tU:∀(A:ZS) (outer:List Env) (s:YG) (H:Hp) (vs:List V) (Q:VK) (E:XK),dj k (A.deeper (ac6 qual scope ?C f kU))->sp vs H Q E->
   ∃t,m8 (yp CX P w K mg base N qual scope f kU A outer s H E) body t/\t {nx:=λ_ H'=>Q .bC H',rt:=Q} (start N vs) H):
  gR P w K mg base CX (k+1) f (abW name qual params body scope dV kV doc pm an kU ct) ps sp:=by
 refine⟨len,λA outer s H args us vs Q E hr e0 hb r yq=>?_⟩;have hl:=len _ _ _ _ yq;have KX:K.In s.heap:=e0.mod.MS.keeps λb o e=>(e0.bs b o e).1;have lim:s.heap.NoLimit:=e0.mod.nolimit.keeps λb o e=>(e0.bs b o e).1;have GK:∀y∈ps.zip us,scope.names.lookup y.1=Δ .local\/(scope.names.lookup y.1=Δ .cell/\((cellsFrom (?C+1) scope.names []).lookup y.1).isSome=Λ):=λ⟨n,v⟩ hy=>by
  rcases S.par n (abg hy).1 with q|q;·exact .inl q
  ·exact .inr ⟨q,PySem.W.cellsFrom_some _ _ _ (.inl q)⟩
 refine codeAny_call_function hr.depth (KX _ _ lk) rfl S.co S.gen rfl (PySem.W.codeRec_of KX pX) (hb _ _ _ _ ?_);refine wpAny_newFunctionEnv_cells S.kind GK λenv he s1 x=>?_;subst he;refine⟨lim.keeps x.toInCall.keep,codeAny_func ?_⟩;obtain⟨t,ht,hq⟩:=tU A outer s H vs Q E (hr.deeper _) yq;have I:Inv (yp CX P w K mg base N qual scope f kU A outer s H E) [] (start N vs) H s1:=EM S hr.hd e0 hl r x;refine Z5 (ht [] s1 (start N vs) H _ I hq) (λfl s' hs=>?_) λe s' hs=>hs;have fin:∀{c0:St} {H':Hp} {v:V} {u:Value},Inv (yp CX P w K mg base N qual scope f kU A outer s H E) [] c0 H' s'->RelV v u->Q v H'->CE outer P w H s Q u s':=
  λ{c0 H' v u} J rv q=>⟨v,H',J.os,J.bare,J.base,J.aL,rv,q⟩
 cases fl with|ret u=>obtain⟨v,c0,H',J,rv,q⟩:=hs;exact fin J rv q|next=>obtain⟨c0,H',J,q⟩:=hs;exact fin (v:=V.bC) (u:=aar) J rfl q|brk=>obtain⟨_,_,_,q⟩:=hs;exact ZE q|cont=>obtain⟨_,_,_,q⟩:=hs;exact ZE q
section
variable{X:Cx}{x:Str}{p pos:Pos}{e:Expr}{es:List Expr}{t:TA}{id T:String}{r:List V->Hp->VK->Prop}
noncomputable def VH(r:List V->Hp->VK->Prop)(t:TA):TE:=λσ H Q=>t σ H λvs H1=>r vs H1 Q
theorem tV(hc:g8 X (.builtin id) r)(hg:Gl X x)(hm:X.mg x=Θ)(hv:abv x=Δ (.builtin id))(ha:PA X (e::es) t)(hn:x≠"__name__":=by decide)(JM:(x==("__debug__":Str))=Ξ:=by decide)
  (he:YX (e::es) X.env=(Ξ,eval e X.env)::YX es X.env:=by rfl) (zK:(aax pos (YX es X.env)).any (·.1)=Ξ:=by rfl):PE X ?QG (VH r t):=by
 intro η s σ H Q I h;refine ZN (j8 I hg hm hv ?_ hn JM);exact PyProof.Rows.callWith_builtin1 (bW ?QZ λus s1 ⟨vs,H1,I1,r1,q1⟩=>hc η s1 σ H1 vs us Q I1 r1 q1) he zK
theorem jF(hc:g8 X (.type T) r)(hg:Gl X x)(hm:X.mg x=Θ)(hv:abv x=Δ (.type T))(ha:PA X (e::es) t)(hn:x≠"__name__":=by decide)(JM:(x==("__debug__":Str))=Ξ:=by decide)
  (he:YX (e::es) X.env=(Ξ,eval e X.env)::YX es X.env:=by rfl) (zK:(aax pos (YX es X.env)).any (·.1)=Ξ:=by rfl):PE X ?QG (VH r t):=by
 intro η s σ H Q I h;refine ZN (j8 I hg hm hv ?_ hn JM);exact Zu (bW ?QZ λus s1 ⟨vs,H1,I1,r1,q1⟩=>hc η s1 σ H1 vs us Q I1 r1 q1) he zK
end
end L2
namespace HT
open PySem PyProof.Rows
section
open PySem.SeqAt
open PySem.AutoSeq1 (wpAny_loadPart')
open PySem.MeetsSeq PySem.MeetsSeq2 PySem.MeetsSeq3
end
section
variable{prog:Zm}{w:World}{A:ZS}{E:Value->YG->Prop}{s:YG}
theorem JQ(ht:IsTup s.heap t vs.toArray)(hb:IsTup s.heap b ws.toArray)(hv:vs≠[])(h1:ws=[]->Q (.ref t) s)(h2:ws≠[]->Q (.ref ?C) {s with heap:=s.heap.push {cls:=.type "tuple",data:=.seq (vs++ws).toArray}})(hsz:vs.length+ws.length<=YQ):wpAny ?Qe A (aaK .Add (.ref t) (.ref b)) Q E s:=by
 obtain⟨⟨cls,dd,data,sl⟩,ho,hc,n,hd⟩:=id ht;obtain⟨⟨VI,Ug,data2,Uh⟩,Jl,Nh,n2,hd2⟩:=id hb;simp only at hc hd Nh hd2;subst hc hd Nh hd2;have e:vs.toArray++ws.toArray=(vs++ws).toArray:=by simp
 by_cases hw:ws=[]
 ·exact adF ⟨_,ho,rfl⟩ ⟨_,Jl,rfl⟩ acU adz abY abR (abF _ _)
   (tuple_addW1 t b vs.toArray ws.toArray n n2 dd Ug sl Uh (by simpa using hv) (by simp[hw])) ⟨ho,Jl,h1 hw⟩
 ·refine adF ⟨_,ho,rfl⟩ ⟨_,Jl,rfl⟩ acU adz abY abR (abF _ _)
   (tuple_addW2 t b vs.toArray ws.toArray n n2 dd Ug sl Uh (by simpa using hv) (by simpa using hw) (by rw[YC,YC];exact hsz)) ⟨ho,Jl,?_⟩
  rw[e];exact h2 hw
noncomputable def Cd(n d:Nat):Option Int->Nat
 |none=>d|some v=>if v < 0 then(v+(n:Int)).toNat else min v.toNat n
end
end HT
namespace L2
open PySem PySem.Spec PyProof.Rows
abbrev TO:=St->Hp->(Option Int->Hp->Prop)->Prop
noncomputable def PO(X:Cx)(e:Option Expr)(t:TO):Prop:=
 ∀(η:List ?Qb) (s:YG) (σ:St) (H:Hp) (Q:Option Int->Hp->Prop),Inv X η σ H s->t σ H Q->
  wpAny ?G X.A (evalPart e X.env) (λu s'=>∃o H',Inv X η σ H' s'/\IsPart u o/\Q o H') X.xe s
def JR:TO:=λ_ H Q=>Q Θ H
noncomputable def QZ(t:TE):TO:=λσ H Q=>t σ H λx H1=>∃i,x=.int i/\Q (Δ i) H1
section
variable{X:Cx}{e:Expr}{te:TE}{lo hi:Option Expr}{tl th:TO}{pos p2:Pos}
theorem JS:PO X Θ JR:=by intro η s σ H Q I h;rw[evalPart_none];exact YI ⟨Θ,H,I,.none,h⟩
theorem JT(h:PE X e te):PO X (Δ e) (QZ te):=by intro η s σ H Q I hw;rw[evalPart_some];refine bW (h η s σ H _ I hw) λu s1 ⟨x,H1,I1,r1,q1⟩=>?_;obtain⟨i,rfl,q⟩:=q1;obtain⟨t,rfl⟩:=r1;exact⟨Δ i,H1,I1,.int i t,q⟩
def SlR(X:Cx)(r:V->Option Int->Option Int->Hp->VK->Prop):Prop:=
 ∀(η:List ?Qb) (s:YG) (σ:St) (H:Hp) (x:V) (v vl vu:Value) (lo hi:Option Int) (sl:Addr) (Q:VK),Inv X η σ H s->RelV x v->s.heap.IsSliceOf sl vl vu .none->IsPart vl lo->IsPart vu hi->r x lo hi H Q->
  ∃T id,adW (.type T) "__getitem__"=pure (Δ (.builtin id))/\s.TypeIs v T/\wpAny ?G X.A (ads v (.ref sl)) (EP X η σ Q) X.xe s
def JU(xs:List V)(lo hi:Option Int):List V:=(xs.drop (HT.Cd ?Q 0 lo)).take (HT.Cd ?Q ?Q hi - HT.Cd ?Q 0 lo)
theorem zY xs lo hi:(JU xs lo hi).length<=xs.length:=by
 unfold JU;rw[aaI,List.length_drop]
 lia
def Q0(K:Yw):R2:=λx y H Q=>∃a b xs ys,x=.ref a/\y=.ref b/\fS K H a xs/\fS K H b ys/\xs≠[]/\?Q+?Zd<=YQ/\
 (ys=[]->Q ?QT H)/\(ys≠[]->∀p,H p=Θ->Q (.ref p) (upd H p (.tup (xs++ys))))
theorem aU.ot(r:aU xs us):us=[]↔xs=[]:=by cases r with|nil=>simp|cons _ _=>simp
theorem JV:kK X (aaK .Add) (Q0 X.K):=by intro η s σ H x y v u Q I rx ry h;obtain⟨a,b,xs,ys,rfl,rfl,ha,hb,hx,hz,q1,q2⟩:=h;cases rx;cases ry;obtain⟨its,r1,p1,_⟩:=I.tuple ha;obtain⟨GL,r2,p2,_⟩:=I.tuple hb;refine HT.JQ p1 p2 (λz=>hx (r1.ot.mp z)) (λz=>⟨.ref a,H,I,rfl,q1 (r2.ot.mp z)⟩) (λz=>?_) (by rw[<-r1.length,<-r2.length];exact hz);refine⟨.ref ?C,_,I.laid (t':=s.toks) (o:=.tup (xs++ys)) (λb ob q=>Yl _ q) (Yt _) ?_,rfl,q2 (λw=>z (r2.ot.mpr w)) _ ?QW⟩;exact⟨by rw[YF];exact hz,_,r1.append r2,IsTup.new _ _⟩
end
noncomputable def Ce(n:Nat)(i:Int):Option Nat:=if 0<=i then(if i < n then Δ i.toNat else Θ) else if -(n:Int)<=i then Δ (i+n).toNat else Θ
def nZ{α:Type}(xs:List α)(i:Int):Option α:=(Ce ?Q i).bind λj=>xs[j]?
theorem DA(h:Ce n i=Δ j):seqIndex? i n=Δ j/\j < n/\ -(n:Int)<=i/\i < n:=by
 unfold Ce at h;by_cases h0:0<=i
 ·rw[if_pos h0] at h;by_cases h1:i < n;·rw[if_pos h1] at h;have e:i.toNat=j:=Y0 h;exact⟨by rw[adQ h0 h1,e],by lia,by lia,h1⟩
  ·rw[if_neg h1] at h;cases h
 ·rw[if_neg h0] at h;by_cases h1: -(n:Int)<=i;·rw[if_pos h1] at h;have e:(i+n).toNat=j:=Y0 h;exact⟨by rw[adE ?D h1,e],by lia,h1,by lia⟩
  ·rw[if_neg h1] at h;cases h
theorem DB(h:nZ xs i=Δ v):∃j,seqIndex? i ?Q=Δ j/\xs[j]?=Δ v/\j < ?Q/\ -(xs.length:Int)<=i/\i < xs.length:=by unfold nZ at h;cases e:Ce ?Q i with|none=>rw[e] at h;cases h|some j=>rw[e] at h;obtain⟨h1,h2,h3,h4⟩:=DA e;exact⟨j,h1,h,h2,h3,h4⟩
noncomputable def DC(b:Expr):Prop:=∀o i,adk b Ξ o i=operate [o,i] (ads o i)
def L6(X:Cx)(r:R2):Prop:=
 ∀(value slice:Expr) (η:List ?Qb) (s:YG) (σ:St) (H:Hp) (x y:V) (v u:Value) (Q:VK),Inv X η σ H s->RelV x v->RelV y u->r x y H Q->
  adk slice Ξ v u=operate [v,u] (ads v u)->wpAny ?G X.A (ady value slice v u) (EP X η σ Q) X.xe s
def MtR(X:Cx)(id:String)(r:V->List V->Hp->VK->Prop):Prop:=
 ∀(η:List ?Qb) (s:YG) (σ:St) (H:Hp) (x:V) (xs:List V) (v:Value) (us:List Value) (Q:VK),Inv X η σ H s->RelV x v->aU xs us->r x xs H Q->
  wpAny ?G X.A (call (.builtin id) (v::us)) (EP X η σ Q) X.xe s
section
variable{X:Cx}{a b:Expr}{ta tb:TE}{pos:Pos}
theorem L6.or(h:L6 X r)(h':L6 X r'):L6 X (λx y H Q=>r x y H Q\/r' x y H Q):=by
 intro value slice η s σ H x y v u Q I rx ry q hs;rcases q with q|q;·exact h value slice η s σ H x y v u Q I rx ry q hs
 ·exact h' value slice η s σ H x y v u Q I rx ry q hs
theorem Q1(hr:L6 X r)(ha:PE X a ta)(hb:PE X b tb)(hs:DC b):PE X (.Subscript a b pos) (QM r ta tb):=by intro η s σ H Q I h;exact Subscript_ (M4 ha hb I h λv u s2 x y H2 I2 rx ry q=>hr a b η s2 σ H2 x y v u Q I2 rx ry q (hs _ _))
def VJ(K:Yw):R2:=λx y H Q=>∃p xs i v,x=.ref p/\y=.int i/\mB K H p xs/\nZ xs i=Δ v/\Q v H
def VL(K:Yw):R2:=λx y H Q=>∃p xs i v,x=.ref p/\y=.int i/\fS K H p xs/\nZ xs i=Δ v/\Q v H
theorem JW:L6 X (VJ X.K):=by
 intro value slice η s σ H x y v u Q I rx ry h hs;obtain⟨p,xs,i,z,rfl,rfl,hq,he,q⟩:=h;cases rx;obtain⟨t,rfl⟩:=ry;obtain⟨its,r,pl,hz⟩:=I.list hq;obtain⟨j,h1,h2,h3,h4,h5⟩:=DB he;obtain⟨w,ew,nh⟩:=r.get h2;have hl:=r.length;have hn:=pZ;have fin:EP X η σ Q w s:=⟨z,H,I,nh,q⟩;by_cases h0:0<=i
 ·have hj:i.toNat=j:=by rw[adQ h0 h5] at h1;exact Y0 h1
  exact item_listR pl.isList h0 ?D (by rw[hj];simpa using ew) fin hs
 ·have hj:(i+(its.toArray.size:Int)).toNat=j:=by rw[adE ?D h4] at h1;rw[YC,<-hl];exact Y0 h1
  exact subscriptTail_builtinR (x:=w) pl.isList.typeIs slot_list_getitem.lookup
   (wpAny_getItem_list_neg (Q:=λr s'=>r=w/\EP X η σ Q r s') pl.isList ?D (by rw[YC]<;>lia) ?D (by rw[hj];simpa using ew) ⟨rfl,fin⟩) hs
theorem Ni:L6 X (VL X.K):=by
 intro value slice η s σ H x y v u Q I rx ry h hs;obtain⟨p,xs,i,z,rfl,rfl,hq,he,q⟩:=h;cases rx;obtain⟨t,rfl⟩:=ry;obtain⟨its,r,pl,hz⟩:=I.tuple hq;obtain⟨j,h1,h2,h3,h4,h5⟩:=DB he;obtain⟨w,ew,nh⟩:=r.get h2;have hl:=r.length;have hn:=pZ;have fin:EP X η σ Q w s:=⟨z,H,I,nh,q⟩;exact subscriptTail_builtinR (x:=w) pl.typeIs slot_tuple_getitem.lookup
  (getItem_tuple (j:=j) (Q:=λr s'=>r=w/\EP X η σ Q r s') pl ?D ?D (by rw[YC,<-hl];exact h1) (by simpa using ew) ⟨rfl,fin⟩) hs
theorem Cf(its:List Value)n j u:aa1 (·.setIfInBounds j u) {cls:=.type "list",data:=.seq ?Qh n}={cls:=.type "list",data:=.seq (its.set j u).toArray n}:=by simp[aa1]
theorem Inv.lst(I:Inv X η σ H s)(h:H p=Δ ?QX):
  ∃(its:List Value) (n:Nat),aU xs its/\s.heap.get? p=Δ {cls:=.type "list",data:=.seq ?Qh n}/\?Q<=YQ:=by
 obtain⟨z,its,n,r,e⟩:=I.aL p _ h;exact⟨its,n,r,e,z⟩
theorem Inv.Nj{its its':List Value}(I:Inv X η σ H s)(h:H p=Δ ?QX)(ho:s.heap.get? p=Δ {cls:=.type "list",data:=.seq ?Qh n})(hf:f {cls:=.type "list",data:=.seq ?Qh n}={cls:=.type "list",data:=.seq its'.toArray n'})(r:aU ys its')(hz:?Zd<=YQ)t:
  Inv X η σ (upd H p (.lst ys)) {s with heap:=s.heap.update p f,toks:=t}:=by
 have e:(s.heap.update p f).get? p=Δ {cls:=.type "list",data:=.seq its'.toArray n'}:=by rw[aan f ho (by rw[hf]<;>rfl),hf]
 refine I.write (x:=p) (e:=p) (by rw[h];trivial) ?QO (λb u hb q=>(ZD _ _ (Zq hb)).trans q) ⟨_,e⟩ ?_;exact⟨hz,its',n',r,e⟩
def Q2:V->V->V->Hp->(Hp->Prop)->Prop:=λo i v H Q=>∃p xs k j,o=.ref p/\i=.int k/\H p=Δ ?QX/\Ce ?Q k=Δ j/\Q (upd H p (.lst (xs.set j v)))
theorem set_list:EE X Q2:=by
 intro η s σ H o i v ov iv u Q I ro ri rv h;obtain⟨p,xs,k,j,rfl,rfl,hp,hj,q⟩:=h;cases ro;obtain⟨t,rfl⟩:=ri;obtain⟨its,n,r,ho,hz⟩:=I.lst hp;obtain⟨h1,h2,h3,h4⟩:=DA hj;have hl:=r.length;have hn:=pZ;have I':Inv X η σ (upd H p (.lst (xs.set j v))) {s with heap:=s.heap.update p (aa1 (·.setIfInBounds j u))}:=
  I.Nj hp ho (Cf its n j u) (r.set rv j) (by rw[ZH];exact hz) s.toks
 by_cases h0:0<=k
 ·have hk:k.toNat=j:=by rw[adQ h0 h4] at h1;exact Y0 h1
  exact PySem.W.ki_setAt ho h0 ?D (by rw[YC,<-hl];exact h4) (by rw[hk];exact⟨_,I',q⟩)
 ·have hk:(k+(its.toArray.size:Int)).toNat=j:=by rw[adE ?D h3] at h1;rw[YC,<-hl];exact Y0 h1
  exact PySem.W.ki_setBack ho ?D (by rw[YC,<-hl];exact h3) ?D (by rw[hk];exact⟨_,I',q⟩)
theorem yr lo hi n:(abO lo hi Θ n).1=((HT.Cd n 0 lo:Nat):Int)/\(abO lo hi Θ n).2.1=((HT.Cd n n hi:Nat):Int)/\(abO lo hi Θ n).2.2=1:=by
 refine⟨?_,?_,rfl⟩
 ·cases lo with
  |none=>simp[abO,HT.Cd]|some i=>
   simp only[abO,HT.Cd,acW,show(1:Int) > 0 by decide,if_true];by_cases h:i < 0;·simp only[h,if_true]<;>lia
   ·simp only[h,if_false]<;>lia
 ·cases hi with
  |none=>simp[abO,HT.Cd]|some i=>
   simp only[abO,HT.Cd,acW,show(1:Int) > 0 by decide,if_true];by_cases h:i < 0;·simp only[h,if_true]<;>lia
   ·simp only[h,if_false]<;>lia
theorem v5(its:List Value)lo hi:slicePick ?Qh lo hi Θ=((its.drop (HT.Cd its.length 0 lo)).take (HT.Cd its.length its.length hi - HT.Cd its.length 0 lo)).toArray:=by obtain⟨h1,h2,h3⟩:=yr lo hi ?Za;unfold slicePick;rw[h1,h2,h3];simp only[sliceRange_one,pick_run,YC]<;>rfl
def VM(K:Yw):V->Option Int->Option Int->Hp->VK->Prop:=λx lo hi H Q=>∃a xs,x=.ref a/\mB K H a xs/\∀p,H p=Θ->Q (.ref p) (upd H p (.lst (JU xs lo hi)))
theorem Ui:SlR X (VM X.K):=by intro η s σ H x v vl vu lo hi sl Q I rx hs pl pu h;obtain⟨a,xs,rfl,hx,q⟩:=h;cases rx;obtain⟨its,r,ht,hz⟩:=I.list hx;have hlen:=r.length;refine⟨"list",_,slot_list_getitem.lookup,ht.isList.typeIs,?_⟩;refine wpAny_getItem_list_slice ht.isList hs pl pu .none ?E ?_ (by rw[YC]<;>lia);rw[v5,<-hlen];refine⟨.ref ?C,_,I.laid (t':=s.toks) (o:=.lst (JU xs lo hi)) (λb ob q=>Yl _ q) (Yt _) ?_,rfl,q _ ?QW⟩;exact⟨Zc (zY xs lo hi) hz,_,0,(r.drop (HT.Cd ?Q 0 lo)).take (HT.Cd ?Q ?Q hi - HT.Cd ?Q 0 lo),YD _ rfl⟩
noncomputable def mK:V->Bool
 |.bC=>Λ|.bl _=>Λ|.int _=>Λ|.str _=>Λ|_=>Ξ
noncomputable def JX:V->V->Bool
 |.bC,.bC=>Λ|.bl a,.bl b=>a==b|.bl a,.int b=>(if a then 1 else 0)==b|.int a,.bl b=>a==(if b then 1 else 0)|.int a,.int b=>a==b|.str a,.str b=>a==b|_,_=>Ξ
theorem Nk(ry:RelV y u)(rx:RelV x v)(fy:mK y=Λ)(fx:mK x=Λ):SeqAt.EqAt A s u v (JX y x):=by
 cases y with
 |bC=>cases ry;cases x with|bC=>cases rx;exact SeqAt.EqAt.same _|bl b=>cases rx;exact SeqAt.EqAt.none_bool b|int b=>obtain⟨t,rfl⟩:=rx;exact SeqAt.EqAt.none_int b t|str b=>obtain⟨t,rfl⟩:=rx;exact SeqAt.EqAt.none_str b t|_=>exact absurd (show Ξ=Λ from fx) Zh
 |bl a=>cases ry;cases x with|bC=>cases rx;exact SeqAt.EqAt.bool_none a|bl b=>cases rx;exact SeqAt.EqAt.bool_bool a b|int b=>obtain⟨t,rfl⟩:=rx;exact SeqAt.EqAt.bool_int a b t|str b=>obtain⟨t,rfl⟩:=rx;exact SeqAt.EqAt.bool_str a b t|_=>exact absurd (show Ξ=Λ from fx) Zh
 |int a=>obtain⟨t',rfl⟩:=ry;cases x with|bC=>cases rx;exact SeqAt.EqAt.int_none a t'|bl b=>cases rx;exact SeqAt.EqAt.int_bool a t' b|int b=>obtain⟨t,rfl⟩:=rx;exact SeqAt.EqAt.int_int a t' b t|str b=>obtain⟨t,rfl⟩:=rx;exact SeqAt.EqAt.int_str a t' b t|_=>exact absurd (show Ξ=Λ from fx) Zh
 |str a=>obtain⟨t',rfl⟩:=ry;cases x with|bC=>cases rx;exact SeqAt.EqAt.str_none a t'|bl b=>cases rx;exact SeqAt.EqAt.str_bool a t' b|int b=>obtain⟨t,rfl⟩:=rx;exact SeqAt.EqAt.str_int a t' b t|str b=>obtain⟨t,rfl⟩:=rx;exact SeqAt.EqAt.str_str a t' b t|_=>exact absurd (show Ξ=Λ from fx) Zh
 |_=>exact absurd (show Ξ=Λ from fy) Zh
def Cg(x:V)(u:Value):Bool:=match u with|.none=>JX .bC x|.bool b=>JX (.bl b) x|.int i _=>JX (.int i) x|.str z _=>JX (.str z) x|_=>Ξ
theorem GN(r:RelV y u)(f:mK y=Λ):Cg x u=JX y x:=by cases y with|bC=>cases r;rfl|bl b=>cases r;rfl|int i=>obtain⟨t,rfl⟩:=r;rfl|str z=>obtain⟨t,rfl⟩:=r;rfl|_=>exact absurd (show Ξ=Λ from f) Zh
theorem ou:∀{xs} {us},aU xs us->xs.all mK=Λ->us.any (Cg x)=xs.any λy=>JX y x
 |_,_,.nil,_=>rfl|y::xs,u::us,.cons r t,f=>by rw[aaG,Yj] at f;rw[aaF,aaF,GN r f.1,ou t f.2]
theorem k7(rx:RelV x v)(fx:mK x=Λ):∀{xs} {us},aU xs us->xs.all mK=Λ->∀u∈us,SeqAt.EqAt A s u v (Cg x u)
 |_,_,.nil,_=>λu hu=>by cases hu|y::xs,u::us,.cons r t,f=>λu' hu=>by
  rw[aaG,Yj] at f;rcases aa2.mp hu with rfl|hu;·rw[GN r f.1];exact Nk r rx f.1 fx
  ·exact k7 rx fx t f.2 u' hu
def Uj(x:V)(xs:List V):Bool:=xs.any λy=>JX y x
def Q3(K:Yw)(neg:Bool):R2:=λx y H Q=>∃p xs,y=.ref p/\(mB K H p xs\/fS K H p xs)/\mK x=Λ/\xs.all mK=Λ/\Q (.bl (if neg then !Uj x xs else Uj x xs)) H
theorem EN:kK X (ZM .In) (Q3 X.K Ξ):=by
 intro η s σ H x y v u Q I rx ry h;obtain⟨p,xs,rfl,hq,fx,fs,q⟩:=h;cases ry;rcases hq with hq|hq;·obtain⟨its,r,pl,hz⟩:=I.list hq;refine SeqAt.in_listAt (Cg x) pl.isList (λw hw=>k7 rx fx r fs w (by simpa using hw)) ⟨.bl _,H,I,rfl,?_⟩;rw[show its.toArray.any (Cg x)=its.any (Cg x) by simp,ou r fs];exact q
 ·obtain⟨its,r,pl,hz⟩:=I.tuple hq;refine SeqAt.in_tupleAt (Cg x) pl (λw hw=>k7 rx fx r fs w (by simpa using hw)) ⟨.bl _,H,I,rfl,?_⟩;rw[show its.toArray.any (Cg x)=its.any (Cg x) by simp,ou r fs];exact q
theorem yt:kK X (ZM .NotIn) (Q3 X.K Λ):=by
 intro η s σ H x y v u Q I rx ry h;obtain⟨p,xs,rfl,hq,fx,fs,q⟩:=h;cases ry;rcases hq with hq|hq;·obtain⟨its,r,pl,hz⟩:=I.list hq;refine SeqAt.notIn_listAt (Cg x) pl.isList (λw hw=>k7 rx fx r fs w (by simpa using hw)) ⟨.bl _,H,I,rfl,?_⟩;rw[show its.toArray.any (Cg x)=its.any (Cg x) by simp,ou r fs];exact q
 ·obtain⟨its,r,pl,hz⟩:=I.tuple hq;refine SeqAt.notIn_tupleAt (Cg x) pl (λw hw=>k7 rx fx r fs w (by simpa using hw)) ⟨.bl _,H,I,rfl,?_⟩;rw[show its.toArray.any (Cg x)=its.any (Cg x) by simp,ou r fs];exact q
theorem yu:g8 X (.builtin "len") (λxs H Q=>∃p ys,xs=[.ref p]/\(mB X.K H p ys\/fS X.K H p ys)/\Q (.int ?Zd) H):=by
 intro η s σ H xs us Q I r h;obtain⟨p,ys,rfl,hq,q⟩:=h;obtain⟨u,rfl,rx⟩:=vals1 r;cases rx;have hn:=pZ;rcases hq with hq|hq;·obtain⟨its,r',pl,hz⟩:=I.list hq;have hlen:=r'.length;exact Calls.call_len_list pl.isList (by simp only[YC]<;>lia) ⟨.int ?Zd,H,I.tok _,⟨s.toks+1,by rw[YC,hlen]⟩,q⟩
 ·obtain⟨its,r',pl,hz⟩:=I.tuple hq;have hlen:=r'.length;exact len_tuple pl (by simp only[YC]<;>lia) ⟨.int ?Zd,H,I.tok _,⟨s.toks+1,by rw[YC,hlen]⟩,q⟩
theorem yv:g8 X (.builtin "len") (λxs H Q=>∃z,xs=[.str z]/\z.length<=YQ/\Q (.int z.length) H):=by intro η s σ H xs us Q I r h;obtain⟨z,rfl,hz,q⟩:=h;obtain⟨u,rfl,t,rfl⟩:=vals1 r;have hn:=pZ;exact len_str ?D ⟨.int z.length,H,I.tok _,⟨_,rfl⟩,q⟩
theorem yw:g8 X (.type "list") (λxs H Q=>∃p ys,xs=[.ref p]/\(mB X.K H p ys\/fS X.K H p ys)/\∀l,H l=Θ->Q (.ref l) (upd H l (.lst ys))):=by
 intro η s σ H xs us Q I r h;obtain⟨p,ys,rfl,hq,q⟩:=h;obtain⟨u,rfl,rx⟩:=vals1 r;cases rx;have fin:∀(its:List Value),aU ys its->?Zd<=YQ->∀(h':Heap) (c':Nat),(∀b o',s.heap.get? b=Δ o'->h'.get? b=Δ o')->
   h'.get? ?C=Δ {cls:=.type "list",dict:=Θ,data:=.seq ?Qh c',slots:=#[]}->EP X η σ Q (.ref ?C) {s with heap:=h'}:=λits r' hz h' c' kp e=>
  ⟨.ref ?C,_,I.laid (t':=s.toks) kp (Yt _) (show bL X.prog X.w _ h' _ (.lst ys) from⟨hz,its,c',r',e⟩),rfl,q _ ?QW⟩
 rcases hq with hq|hq;·obtain⟨its,r',pl,hz⟩:=I.list hq;have hlen:=r'.length;obtain⟨o,ho,hc,n,hd⟩:=pl.isList;exact call_list_seq p ?QO ho hc hd (λh' c' kp e=>fin its r' hz h' c' kp e) (by simp only[YC]<;>lia)
 ·obtain⟨its,r',pl,hz⟩:=I.tuple hq;have hlen:=r'.length;obtain⟨o,ho,hc,n,hd⟩:=pl;exact call_list_seq p (.inr rfl) ho hc hd (λh' c' kp e=>fin its r' hz h' c' kp e) (by simp only[YC]<;>lia)
theorem v7:g8 X (.type "tuple") (λxs H Q=>∃p ys,xs=[.ref p]/\((mB X.K H p ys/\∀l,H l=Θ->Q (.ref l) (upd H l (.tup ys)))\/(fS X.K H p ys/\Q (.ref p) H))):=by
 intro η s σ H xs us Q I r h;obtain⟨p,ys,rfl,h⟩:=h;obtain⟨u,rfl,rx⟩:=vals1 r;cases rx;rcases h with ⟨hq,q⟩|⟨hq,q⟩
 ·obtain⟨its,r',pl,hz⟩:=I.list hq;have hlen:=r'.length;refine call_tuple_list pl.isList (λh' kp=>?_) (by simp only[YC]<;>lia);have I1:Inv X η σ H {s with heap:=h'}:=I.kept (t':=s.toks) kp;have I2:Inv X η σ (upd H ?Zc (.tup ys)) {s with heap:=h'.push {cls:=.type "tuple",data:=.seq ?Qh}}:=
   I1.laid (t':=s.toks) (λb o e=>Yl _ e) (Yt _) (show bL X.prog X.w _ _ _ (.tup ys) from⟨hz,its,r',IsTup.new _ _⟩)
  exact⟨.ref ?Zc,_,I2,rfl,q _ (I1.aL.fresh (Yt _))⟩
 ·obtain⟨its,r',pl,hz⟩:=I.tuple hq;exact call_tuple_same pl ⟨.ref p,H,I,rfl,q⟩
def VN(K:Yw)(T:String)(x:V)(H:Hp):Prop:=match x with
 |.str _=>T="str"|.int _=>T="int"
 |.ref p=>(T="list"/\∃xs,mB K H p xs)\/(T="tuple"/\∃o,K.lookup p=Δ o/\o.cls=.type "tuple"/\o.dict=Θ)\/
   (T="dict"/\((∃kvs,H p=Δ ?QA)\/∃kvs,H p=Δ (.dT kvs)))\/(T="set"/\∃S n,H p=Δ (.set S n))
 |_=>False
theorem GO(I:Inv X η σ H s)(r:RelV x v)(ty:VN X.K T x H):
  s.TypeIs v T/\∀a,v=.ref a->∃ob,s.heap.get? a=Δ ob/\ob.dict=Θ:=by
 cases x with
 |str z=>obtain⟨t,rfl⟩:=r;cases (show T="str" from ty);exact⟨typeIs_str s z t,λ_ e=>nomatch e⟩|int i=>obtain⟨t,rfl⟩:=r;cases (show T="int" from ty);exact⟨aca s i t,λ_ e=>nomatch e⟩|ref p=>
  cases r;rcases ty with ⟨rfl,xs,hq⟩|⟨rfl,o,hk,hc,hd⟩|⟨rfl,hk⟩|⟨rfl,S,n,hk⟩
  ·obtain⟨its,_,pl,_⟩:=I.list hq;refine⟨pl.isList.typeIs,λa e=>?_⟩;cases e;obtain⟨o,n,e,c,hd,_⟩:=pl;exact⟨o,e,hd⟩
  ·refine⟨⟨o,I.n9 p o hk,hc⟩,λa e=>?_⟩;cases e;exact⟨o,I.n9 _ o hk,hd⟩
  ·have z:∃o,s.heap.get? p=Δ o/\o.ExactDict:=by
    rcases hk with ⟨kvs,hk⟩|⟨kvs,hk⟩
    ·obtain⟨_,_,_,_,o,_,_,e,ex,_⟩:=I.aL p _ hk;exact⟨o,e,ex⟩
    ·obtain⟨_,_,_,_,o,_,_,e,ex,_⟩:=I.aL p _ hk;exact⟨o,e,ex⟩
   obtain⟨o,e,ex⟩:=z;refine⟨⟨o,e,ex.1⟩,λa e2=>?_⟩;cases e2;exact⟨o,e,ex.2.1⟩
  ·obtain⟨o,_,_,_,e,ex,_⟩:=I.aL p _ hk;refine⟨⟨o,e,ex.1⟩,λa e2=>?_⟩;cases e2;exact⟨o,e,ex.2.1⟩
 |_=>exact ZE ty
def VO(K:Yw)(T:String)(r:V->List V->Hp->VK->Prop)(to:TE):TE:=λσ H Q=>to σ H λx H1=>VN K T x H1/\r x [] H1 Q
def tBM(K:Yw)(T:String)(r:V->List V->Hp->VK->Prop)(to:TE)(t:TA):TE:=λσ H Q=>to σ H λx H1=>VN K T x H1/\t σ H1 λxs H2=>r x xs H2 Q
variable{o e:Expr}{es:List Expr}{to:TE}{t:TA}{name:Str}{apos gb:Pos}{T id:String}{r:V->List V->Hp->VK->Prop}
theorem Nl(pa:PlainAttrs T)(slot:Slot T name id)(VP:typeOf (.builtin id)=pure (.type "method_descriptor"))(hm:MtR X id r)(ho:PE X o to)
  (zZ:aa0 o name X.env (eval o X.env)=eval o X.env:=by rfl) (mL:(apos.endLine==gb.line)=Λ:=by rfl):PE X (.Call (.Attribute o name apos) [] [] gb) (VO X.K T r to):=by
 intro η s σ H Q I h;refine wpAny_Call_method0_late zZ mL (bW (ho η s σ H _ I h) λv s1 ⟨x,H1,I1,r1,ty,q1⟩=>?_);obtain⟨h1,h2⟩:=GO I1 r1 ty;exact⟨T,id,pa,slot,VP,h1,h2,aaD rfl (PySem.evalArgs_none (hm η s1 σ H1 x [] v [] Q I1 r1 .nil q1))⟩
theorem Q4(pa:PlainAttrs T)(slot:Slot T name id)(VP:typeOf (.builtin id)=pure (.type "method_descriptor"))(hm:MtR X id r)(ho:PE X o to)(ha:PA X (e::es) t)
  (zZ:aa0 o name X.env (eval o X.env)=eval o X.env:=by rfl)
  (VQ:((aax gb (YX (e::es) X.env)).all (λx=>!x.1)&&(ack gb (abb [] X.env)).all (λx=>x.1.isSome)
   &&decide ((e::es).length+([]:List acK).length+(if([]:List acK).isEmpty then 0 else 1) < 30))=Λ:=by rfl)
  (mL:(apos.endLine==gb.line)=Λ:=by rfl) (hs:YX (e::es) X.env=(Ξ,eval e X.env)::YX es X.env:=by rfl) (Nm:(aax gb (YX es X.env)).any (·.1)=Ξ:=by rfl):
  PE X (.Call (.Attribute o name apos) (e::es) [] gb) (tBM X.K T r to t):=by
 intro η s σ H Q I h;refine wpAny_Call_method_late zZ VQ mL rfl (bW (ho η s σ H _ I h) λv s1 ⟨x,H1,I1,r1,ty,q1⟩=>?_);obtain⟨h1,h2⟩:=GO I1 r1 ty;refine⟨T,id,pa,slot,VP,h1,h2,?_⟩;have hA:=ha gb η s1 σ H1 _ I1 q1;rw[hs] at hA ⊢;refine aaD (by show(Ξ||(aax gb (YX es X.env)).any (·.1))=Ξ;rw[Nm]<;>rfl) (aco ?_);exact bW hA λus s2 ⟨vs,H2,I2,r2,q2⟩=>hm η s2 σ H2 x vs v us Q I2 r1 r2 q2
end
def MtM(X:Cx)(id:String)(r:V->List V->Hp->VK->Prop):Prop:=
 ∀(η:List ?Qb) (s:YG) (σ:St) (H:Hp) (x:V) (xs:List V) (v:Value) (us:List Value) (Q:VK),Inv X η σ H s->RelV x v->aU xs us->r x xs H Q->
  wpAny ?G X.A (call (.builtin id) (v::us)) (EP X η σ Q) X.xe s
theorem aU.one:∀{x} {us},aU [x] us->∃u,us=[u]/\RelV x u:=by intro x us h;cases h with|cons r t=>cases t with|nil=>exact⟨_,rfl,r⟩
theorem aU.zero:∀{us},aU [] us->us=[]
 |_,.nil=>rfl
theorem aU.dropLast(h:aU xs us):aU xs.dropLast us.dropLast:=by induction h with|nil=>exact .nil|cons r t ih=>cases t with|nil=>exact .nil|cons q t'=>exact .cons r ih
theorem Ci{α:Type}(l:List α):l.eraseIdx (l.length - 1)=l.dropLast:=by
 induction l with
 |nil=>rfl|cons a r ih=>
  cases r with
  |nil=>rfl|cons b r=>
   have e:(a::b::r).length - 1=((b::r).length - 1)+1:=by
    have h1:(a::b::r).length=r.length+2:=rfl;have h2:(b::r).length=r.length+1:=rfl
    lia
   rw[e,List.eraseIdx_cons_succ,ih];all_goals rfl
section
variable{X:Cx}{η:List ?Qb}{σ:St}{H:Hp}{s:YG}{l b:Addr}{xs ys zs:List V}
theorem Inv.Q5{its its':List Value}(I:Inv X η σ H s)(hH:H l=Δ ?QX)(e:s.heap.get? l=Δ {cls:=.type "list",data:=.seq ?Qh n})(hf:f ?Qh=its'.toArray)(hv:aU ys its')(hz:?Zd<=YQ):
  Inv X η σ (upd H l (.lst ys)) {s with heap:=s.heap.update l (aa1 f),toks:=t'}:=by
 have q:=PySem.IsL.update e f;rw[hf] at q;refine I.write (x:=l) (e:=l) (by rw[hH];exact trivial) ?QO (λb' u hb hu=>(ZD s.heap (aa1 f) (Zq hb)).trans hu) ⟨_,q⟩ ?_;exact⟨hz,its',_,hv,q⟩
theorem Inv.VR(I:Inv X η σ H s)(hv:aU ys its)(hz:?Zd<=YQ):
  Inv X η σ (upd H ?C (.lst ys)) {s with heap:=s.heap.push {cls:=.type "list",data:=.seq ?Qh},toks:=t'}:=
 I.laid (λ_ _ q=>Yl _ q) (Yt _) ⟨hz,its,0,hv,YD _ rfl⟩
theorem Inv.fresh(I:Inv X η σ H s):H ?C=Θ:=I.aL.fresh (Yt _)
theorem Inv.Q6(I:Inv X η σ H s)(hH:H l=Δ ?QX):?Q<=YQ/\∃(its:List Value) (n:Nat),aU xs its/\?Q=its.length/\s.heap.get? l=Δ {cls:=.type "list",data:=.seq ?Qh n}:=by obtain⟨z,its,n,r,e⟩:=I.aL l _ hH;exact⟨z,its,n,r,r.length,e⟩
end
section
variable{X:Cx}
def JY:V->List V->Hp->VK->Prop:=λx vs H Q=>∃l xs y,x=.ref l/\vs=[y]/\H l=Δ ?QX/\?Q < YQ/\Q .bC (upd H l (.lst (xs++[y])))
theorem p6:MtM X "list.append" JY:=by
 intro η s σ H x vs v us Q I rx rv h;obtain⟨l,xs,y,rfl,rfl,hH,hz,q⟩:=h;cases rx;obtain⟨u,rfl,ru⟩:=rv.one;obtain⟨z,its,n,r,hl,e⟩:=I.Q6 hH;refine abJ F.slot_list_append ⟨_,e,rfl⟩ F.entry_list_append (F.args_list_append_2 _ _) (PySem.list_append l ?Qh n u (by rw[YC];lia)) ⟨e,?_⟩;refine⟨.bC,_,I.Q5 (its':=its++[u]) hH e ?E (r.append (.cons ru .nil)) ?_,rfl,q⟩;rw[YF,List.length_singleton]
 lia
def VS:V->List V->Hp->VK->Prop:=λx vs H Q=>∃l xs y,x=.ref l/\vs=[]/\H l=Δ ?QX/\xs[?Q - 1]?=Δ y/\Q y (upd H l (.lst xs.dropLast))
theorem Nn:MtM X "list.pop" VS:=by
 intro η s σ H x vs v us Q I rx rv h;obtain⟨l,xs,y,rfl,rfl,hH,hy,q⟩:=h;cases rx;have hus:=rv.zero;subst hus;obtain⟨z,its,n,r,hl,e⟩:=I.Q6 hH;obtain⟨u,hu,ru⟩:=r.get hy;have hy':?Qh[?Za - 1]?=Δ u:=by show ?Qh[its.length - 1]?=Δ u;rw[<-ab9,<-hl];exact hu
 refine abJ F.slot_list_pop ⟨_,e,rfl⟩ F.entry_list_pop (F.args_list_pop_1 _) (MeetsSeq.list_pop_last l ?Qh n u hy' (by rw[YC];lia)) ⟨e,?_⟩;refine⟨y,_,I.Q5 (its':=its.dropLast) hH e ?_ r.dropLast ?_,ru,q⟩;·show its.toArray.eraseIdxIfInBounds (?Za - 1)=its.dropLast.toArray;rw[YC,List.eraseIdxIfInBounds_toArray,Ci]
 ·rw[List.length_dropLast]
  lia
end
section
variable{prog:Zm}{w:World}{A:ZS}{E:Value->YG->Prop}{s:YG}
end
section
variable{X:Cx}
end
section
variable{κ:Type}[DecidableEq κ]
noncomputable def fP(kvs:List (κ×V))(k:κ):Option V:=(kvs.find? λkv=>decide (kv.1=k)).map (·.2)
def putK(kvs:List (κ×V))(k:κ)(v:V):List (κ×V):=
 if ?QL=Λ then kvs.map (λkv=>if kv.1=k then(kv.1,v) else kv) else kvs++[(k,v)]
noncomputable def ow(kvs:List (κ×V))(k:κ):List (κ×V):=kvs.filter λkv=>decide (kv.1≠k)
theorem ox{r:List (κ×V)}{k:κ}(e:p.1=k):fP (p::r) k=Δ p.2:=by simp[fP,ZJ,e]
theorem oy{r:List (κ×V)}{k:κ}(e:¬p.1=k):fP (p::r) k=fP r k:=by simp[fP,ZJ,e]
theorem tX(k:κ):∀kvs:List (κ×V),?QL=(fP kvs k).isSome
 |[]=>rfl|p::r=>by
  rw[aaF];by_cases e:p.1=k;·simp only[ox e,decide_eq_true e,Bool.true_or,Option.isSome_some]
  ·rw[oy e,decide_eq_false e,Bool.false_or];exact tX k r
theorem ji kvs(k:κ)v:(putK kvs k v).length<=?Ql+1:=by
 unfold putK;split;·rw[Yr];lia
 ·rw[YF,YA,aaj];lia
theorem kW.iB(r:kW o u):o.isSome=u.isSome:=by
 cases o with
 |none=>cases u with|none=>rfl|some _=>exact(show False from r).elim
 |some _=>cases u with|none=>exact(show False from r).elim|some _=>rfl
theorem KV.val(r:KV kvs vs)(k:κ):kW (fP kvs k) (ac4 vs k):=by
 unfold KV at r;induction r with
 |nil=>exact ZU|@cons p q ps qs h t ih=>
  obtain⟨h1,h2⟩:=h;by_cases e:p.1=k
  ·have e':q.1=k:=h1.symm.trans e;have b:ac4 (q::qs) k=Δ q.2:=by simp[ac4,ZJ,e']
   rw[ox e,b];exact h2
  ·have e':¬q.1=k:=λz=>e (h1.trans z);have b:ac4 (q::qs) k=ac4 qs k:=by simp[ac4,ZJ,e']
   rw[oy e,b];exact ih
theorem KV.any(r:KV kvs vs)(k:κ):?QL=vs.any λkv=>decide (kv.1=k):=by unfold KV at r;induction r with|nil=>rfl|cons h t ih=>rw[aaF,aaF,ih,h.1]
theorem KV.EO(r:KV kvs vs)(k:κ)(ry:RelV y u):
  KV (kvs.map λkv=>if kv.1=k then(kv.1,y) else kv) (vs.map λkv=>if kv.1=k then(kv.1,u) else kv):=by
 unfold KV at r ⊢;induction r with
 |nil=>exact .nil|@cons p q ps qs h t ih=>
  rw[Yx,Yx];refine .cons ?_ ih;obtain⟨h1,h2⟩:=h;by_cases e:p.1=k;·rw[if_pos e,if_pos (h1.symm.trans e)];exact⟨h1,ry⟩
  ·rw[if_neg e,if_neg (λz=>e (h1.trans z))];exact⟨h1,h2⟩
theorem KV.put(r:KV kvs vs)(k:κ)(ry:RelV y u):KV (putK kvs k y) (stored vs k u):=by
 unfold putK stored;rw[r.any k];by_cases e:(vs.any λkv=>decide (kv.1=k))=Λ;·rw[if_pos e,if_pos e];exact r.EO k ry
 ·rw[if_neg e,if_neg e];exact adD.snoc r ⟨rfl,ry⟩
theorem KV.drop(r:KV kvs vs)(k:κ):KV (ow kvs k) (without vs k):=by
 unfold KV at r ⊢;unfold ow without;induction r with
 |nil=>exact .nil|@cons p q ps qs h t ih=>
  obtain⟨h1,h2⟩:=h;rw[abA,abA];by_cases e:p.1=k
  ·have a:¬decide (p.1≠k)=Λ:=by simp[e]
   have b:¬decide (q.1≠k)=Λ:=by simp[h1.symm.trans e]
   rw[if_neg a,if_neg b];exact ih
  ·have e':¬q.1=k:=λz=>e (h1.trans z);have a:decide (p.1≠k)=Λ:=by simp[e]
   have b:decide (q.1≠k)=Λ:=by simp[e']
   rw[if_pos a,if_pos b];exact .cons ⟨h1,h2⟩ ih
theorem KV.length{vs:List (κ×Value)}(r:KV kvs vs):?Ql=vs.length:=acQ r
theorem z8 kvs(k:κ):(ow kvs k).length<=kvs.length:=Zv _ _
end
theorem oz(r:RelV (kV k) u):(bh P w).is k u=Λ:=by cases k with|inl i=>obtain⟨t,e⟩:=(show ∃t,u=acf i t from r);subst e;exact zQ P w i t|inr x=>obtain⟨t,e⟩:=(show ∃t,u=ace x t from r);subst e;exact zR P w x t
theorem w8:∀{ks} {us},aU (ks.map kV) us->ItemsAre (bh P w) ks us
 |[],_,r=>by rw[aaY] at r;cases r;exact .nil|k::ks,_,r=>by rw[Yx] at r;cases r with|cons h t=>exact .cons (oz h) (w8 t)
abbrev KT(H:Hp):List (List Key×V)->List (List Key×Addr×Value)->Prop:=adD λp q=>p.1=q.1/\H q.2.1=Δ (.tup (p.1.map kV))/\RelV p.2 q.2.2
theorem KT.val(r:KT H kvs xs)k:kW (fP kvs k) ((atKey xs k).map (·.2)):=by
 induction r with
 |nil=>exact ZU|@cons p q ps qs h t ih=>
  obtain⟨h1,_,h2⟩:=h;by_cases e:p.1=k
  ·have e':q.1=k:=h1.symm.trans e;have b:atKey (q::qs) k=Δ q.2:=by simp[atKey,ZJ,e']
   rw[ox e,b];exact h2
  ·have e':¬q.1=k:=λz=>e (h1.trans z);have b:atKey (q::qs) k=atKey qs k:=by simp[atKey,ZJ,e']
   rw[oy e,b];exact ih
theorem KT.EO(r:KT H kvs xs)k(ry:RelV y u):
  KT H (kvs.map λkv=>if kv.1=k then(kv.1,y) else kv) (xs.map (putAt k u)):=by
 induction r with
 |nil=>exact .nil|@cons p q ps qs h t ih=>
  rw[Yx,Yx];refine .cons ?_ ih;obtain⟨h1,h2,h3⟩:=h;unfold putAt;by_cases e:p.1=k;·rw[if_pos e,if_pos (h1.symm.trans e)];exact⟨h1,h2,ry⟩
  ·rw[if_neg e,if_neg (λz=>e (h1.trans z))];exact⟨h1,h2,h3⟩
theorem KT.put(r:KT H kvs xs)k(hb:H b=Δ (.tup (k.map kV)))(ry:RelV y u):
  KT H (putK kvs k y) (storedH xs k b u):=by
 have e:?QL=(atKey xs k).isSome:=by rw[tX,(r.val k).iB,abm]
 unfold putK storedH;rw[e];by_cases q:(atKey xs k).isSome=Λ;·rw[if_pos q,if_pos q];exact r.EO k ry
 ·rw[if_neg q,if_neg q];exact adD.snoc r ⟨rfl,hb,ry⟩
theorem KT.keeps(r:KT H kvs xs)(ht:∀b ys,H b=Δ (.tup ys)->H' b=Δ (.tup ys)):KT H' kvs xs:=
 adD.MQ r λ_ _ z=>⟨z.1,ht _ _ z.2.1,z.2.2⟩
section
variable{P:Zm}{w:World}{H:Hp}{h:Heap}{a:Addr}
theorem L7(ok:kX P w H h)(e:Rd H a u):bL P w H h a u:=e.ok ok
theorem qZ(ok:kX P w H h)(e:Rd H a ?QA):?Ql<=YQ/\(a==aab)=Ξ/\∃vs,KV kvs vs/\h.DictOf (bh P w) a vs:=
 show bL P w H h a ?QA from L7 ok e
theorem w9(ok:kX P w H h)(e:H a=Δ ?QA):?Ql<=YQ/\(a==aab)=Ξ/\∃vs,KV kvs vs/\h.DictOf (bh P w) a vs:=qZ ok (.inl e)
theorem p7(ok:kX P w H h)(e:H a=Δ (.tup (ks.map kV))):(acT (bh P w)).is h ks a:=by obtain⟨_,its,r,o,h1,h2,n,h3⟩:=(show bL P w H h a (.tup (ks.map kV)) from ok a _ e);exact⟨o,?Qh,n,h1,h2,h3,by simpa using w8 r⟩
theorem rf(ok:kX P w H h)(e:Rd H a (.dT kvs)):?Ql<=YQ/\(a==aab)=Ξ/\
  ∃xs,KT H kvs xs/\h.DictOfH (acT (bh P w)) a xs:=by
 obtain⟨z,y,xs,r,o,es,ep,h1,h2,h3,h4,h5⟩:=(show bL P w H h a (.dT kvs) from L7 ok e);refine⟨z,y,xs,r,o,es,ep,h1,h2,h3,h4,λx hx=>?_,h5⟩;have all:∀{l:List (List Key×V)} {m:List (List Key×Addr×Value)},KT H l m->∀x∈m,(acT (bh P w)).is h x.1 x.2.1:=by
  intro l m q;induction q with
  |nil=>intro x hx;exact nomatch hx|@cons p q ps qs hq t ih=>
   intro x hx;rcases aa2.mp hx with e|hx;·subst e;exact p7 ok (by rw[<-hq.1];exact hq.2.1)
   ·exact ih x hx
 exact all r x hx
theorem L8(ok:kX P w H h)(e:H a=Δ (.dT kvs)):?Ql<=YQ/\(a==aab)=Ξ/\
  ∃xs,KT H kvs xs/\h.DictOfH (acT (bh P w)) a xs:=rf ok (.inl e)
end
def oA(H:Hp)(a:Addr)(y:V)(r:Option V):Prop:=
 (∃kvs k,Rd H a ?QA/\y=kV k/\r=fP kvs k)\/∃kvs k b,Rd H a (.dT kvs)/\y=.ref b/\H b=Δ (.tup (k.map kV))/\r=fP kvs k
def z9(H:Hp)(a:Addr)(y v:V)(H':Hp):Prop:=
 (∃kvs k,H a=Δ ?QA/\y=kV k/\?Ql < YQ/\H'=upd H a (.dK (putK kvs k v)))\/
 ∃kvs k b,H a=Δ (.dT kvs)/\y=.ref b/\H b=Δ (.tup (k.map kV))/\?Ql < YQ/\H'=upd H a (.dT (putK kvs k v))
theorem oA.k{k:Key}(e:H a=Δ ?QA):oA H a (kV k) (fP kvs k):=.inl ⟨kvs,k,.inl e,rfl,rfl⟩
theorem oA.t{k:List Key}(e:H a=Δ (.dT kvs))(eb:H b=Δ (.tup (k.map kV))):oA H a (.ref b) (fP kvs k):=.inr ⟨kvs,k,b,.inl e,rfl,eb,rfl⟩
theorem z9.k{k:Key}(e:H a=Δ ?QA)(hl:?Ql < YQ):z9 H a (kV k) v (upd H a (.dK (putK kvs k v))):=.inl ⟨kvs,k,e,rfl,hl,rfl⟩
theorem z9.t{k:List Key}(e:H a=Δ (.dT kvs))(eb:H b=Δ (.tup (k.map kV)))(hl:?Ql < YQ):
  z9 H a (.ref b) v (upd H a (.dT (putK kvs k v))):=.inr ⟨kvs,k,b,e,rfl,eb,hl,rfl⟩
section
variable{X:Cx}{η:List ?Qb}{σ:St}{H:Hp}{s:YG}{a:Addr}{y v:V}{u r:Value}{o:Option V}{A:ZS}{E:Value->YG->Prop}
theorem Inv.Uk(I:Inv X η σ H s):aab < s.heap.objs.size:=by have h:YB < s.heap.objs.size:=(I.mod.glob.keeps I.bk).lt;exact ab0 ?T h
theorem ER(hu:A.units+1 < cLine)(I:Inv X η σ H s)(g:oA H a y (Δ v))(ry:RelV y u)(h:∀w' s',Inv X η σ H s'->RelV v w'->Q w' s'):
  wpAny ?G A (ads ?QT u) Q E s:=by
 rcases g with ⟨kvs,k,e,ey,l⟩|⟨kvs,k,b,e,ey,eb,l⟩
 ·subst ey;obtain⟨z,hd,vs,rel,dd⟩:=qZ I.aL e;obtain⟨w',hw,nh⟩:=kW.some_of (v:=v) (o:=ac4 vs k) (by rw[l];exact rel.val k);exact wpAny_getItem_of (oz ry) dd.mapOf hw (h w' _ (I.tok _) nh)
 ·subst ey;cases (show u=YW b from ry);obtain⟨z,hd,xs,rel,dd⟩:=rf I.aL e;obtain⟨w',hw,nh⟩:=kW.some_of (v:=v) (o:=(atKey xs k).map (·.2)) (by rw[l];exact rel.val k);obtain⟨p,hp,hp2⟩:=Option.map_eq_some_iff.mp hw;refine wpAny_getItem_heap (abI hu) (p7 I.aL eb) dd hp ?_;rw[hp2];exact h w' _ (I.tok _) nh
theorem VT(hu:A.units+1 < cLine)(I:Inv X η σ H s)(g:oA H a y o)(ry:RelV y u)(h:∀s',Inv X η σ H s'->Q (.bool o.isSome) s'):
  wpAny ?G A (ZM .In u ?QT) Q E s:=by
 rcases g with ⟨kvs,k,e,ey,l⟩|⟨kvs,k,b,e,ey,eb,l⟩
 ·subst ey;obtain⟨z,hd,vs,rel,dd⟩:=qZ I.aL e;refine wpAny_in_of (oz ry) hd dd.mapOf ?_;rw[<-(rel.val k).iB,<-l];exact h _ (I.tok _)
 ·subst ey;cases (show u=YW b from ry);obtain⟨z,hd,xs,rel,dd⟩:=rf I.aL e;refine wpAny_in_heap (abI hu) (p7 I.aL eb) hd dd ?_;have q:=(rel.val k).iB;rw[abm] at q;rw[<-q,<-l];exact h _ (I.tok _)
theorem JZ(hu:A.units+1 < cLine)(I:Inv X η σ H s)(g:oA H a y o)(ry:RelV y u)(h:∀s',Inv X η σ H s'->Q (.bool (!o.isSome)) s'):
  wpAny ?G A (ZM .NotIn u ?QT) Q E s:=by
 rcases g with ⟨kvs,k,e,ey,l⟩|⟨kvs,k,b,e,ey,eb,l⟩
 ·subst ey;obtain⟨z,hd,vs,rel,dd⟩:=qZ I.aL e;refine wpAny_notIn_of (oz ry) hd dd.mapOf ?_;rw[<-(rel.val k).iB,<-l];exact h _ (I.tok _)
 ·subst ey;cases (show u=YW b from ry);obtain⟨z,hd,xs,rel,dd⟩:=rf I.aL e;refine wpAny_notIn_heap (abI hu) (p7 I.aL eb) hd dd ?_;have q:=(rel.val k).iB;rw[abm] at q;rw[<-q,<-l];exact h _ (I.tok _)
theorem kg(I:Inv X η σ H s)(mu:Qs (H a))(hs:aaZ a s.heap h')(he:∃q,h'.get? a=Δ q)(new:bL X.prog X.w (upd H a ob) h' a ob):
  Inv X η σ (upd H a ob) {s with heap:=h',toks:=t'}:=
 I.write (x:=a) (e:=a) mu ?QO (λb q hb z=>(hs.2 b hb).trans z) he new
theorem tY(z:?Ql<=YQ)(hd:(a==aab)=Ξ)(rel:KV kvs vs)(dd:h'.DictOf (bh P w) a vs):
  bL P w H' h' a ?QA:=⟨z,hd,vs,rel,dd⟩
theorem ES(hu:A.units+1 < cLine)(I:Inv X η σ H s)(g:z9 H a y v H')(ry:RelV y u)(rv:RelV v r)(h:∀s',Inv X η σ H' s'->Q () s'):
  wpAny ?G A (setItem ?QT u r) Q E s:=by
 rcases g with ⟨kvs,k,e,ey,l,eH⟩|⟨kvs,k,b,e,ey,eb,l,eH⟩
 ·subst ey eH;obtain⟨z,hd,vs,rel,dd⟩:=w9 I.aL e;have hz:vs.length<=YQ:=by rw[<-rel.length];exact z
  have hl:(putK kvs k v).length<=YQ:=by have:=ji kvs k v;lia
  refine wpAny_setItem_pairs (hsz:=hz) (oz ry) dd λh' zL hs=>h _ ?_;have he:∃q,h'.get? a=Δ q:=let ⟨q,_,_,hq,_⟩:=zL;⟨q,hq⟩
  exact kg I (by rw[e];exact ZU) hs he (tY hl hd (rel.put k rv) zL)
 ·subst ey eH;cases (show u=YW b from ry);obtain⟨z,hd,xs,rel,dd⟩:=L8 I.aL e;have hz:?Q<=YQ:=by rw[<-acQ rel];exact z
  have hl:(putK kvs k v).length<=YQ:=by have:=ji kvs k v;lia
  refine wpAny_setItem_heap (hsz:=hz) (abI hu) (p7 I.aL eb) dd λh' zL hs=>h _ ?_;obtain⟨q,es,ep,hq,h2,h3,h4,_,h5⟩:=zL;refine kg I (by rw[e];exact ZU) hs ⟨q,hq⟩ ⟨hl,hd,_,(rel.put k eb rv).keeps λc ys ec=>?_,q,es,ep,hq,h2,h3,h4,h5⟩;rw[ax (LV ec e (λz=>nomatch z))];exact ec
end
section
variable{X:Cx}{η:List ?Qb}{σ:St}{H:Hp}{s:YG}{a:Addr}{kvs:List (Key×V)}{k:Key}{u:Value}{A:ZS}{E:Value->YG->Prop}
theorem PZ(I:Inv X η σ H s)(e:H a=Δ ?QA)(ry:RelV (kV k) u)(l:(fP kvs k).isSome=Λ)(h:∀s',Inv X η σ (upd H a (.dK (ow kvs k))) s'->Q () s'):
  wpAny ?G A (delItem ?QT u) Q E s:=by
 obtain⟨z,hd,vs,rel,dd⟩:=w9 I.aL e;refine wpAny_delItem_slot dd.typeIs ?T PySem.F.slot_dict_delitem
  (acw PySem.F.slot_dict_delitem dd.typeIs PySem.F.entry_dict_delitem (PySem.F.args_dict_delitem_2 _ _) (meets_dict_delitem_pairs (bh X.prog X.w) a (oz ry)) ⟨vs,dd,by rw[<-rel.length];exact z,by rw[<-(rel.val k).iB];exact l,λh' zL hs=>h _ ?_⟩)
 have he:∃q,h'.get? a=Δ q:=let ⟨q,_,_,hq,_⟩:=zL;⟨q,hq⟩
 exact kg I (by rw[e];exact ZU) hs he (tY (Zc (z8 kvs k) z) hd (rel.drop k) zL)
theorem Q7(I:Inv X η σ H s)(e:H a=Δ ?QA)(ry:RelV (kV k) u)(l:fP kvs k=Δ v)(hm:more=[]\/∃x,more=[x])(h:∀w' s',Inv X η σ (upd H a (.dK (ow kvs k))) s'->RelV v w'->Q w' s'):wpAny ?G A (call (.builtin "dict.pop") (.ref a::u::more)) Q E s:=by
 obtain⟨z,hd,vs,rel,dd⟩:=w9 I.aL e;obtain⟨w',hw,nh⟩:=kW.some_of (v:=v) (o:=ac4 vs k) (by rw[<-l];exact rel.val k);have hp:(keyPart u).isSome=Λ:=by cases k with|inl i=>obtain⟨t,q⟩:=(show ∃t,u=acf i t from ry);subst q;rfl|inr x=>obtain⟨t,q⟩:=(show ∃t,u=ace x t from ry);subst q;rfl
 have ha:argsOk "dict.pop" ⟨.ref a::u::more,[]⟩:=by
  rcases hm with q|⟨x,q⟩;·subst q;exact PySem.F.args_dict_pop_2 _ _
  ·subst q;exact PySem.F.args_dict_pop_3 _ _ _
 refine acw PySem.F.slot_dict_pop dd.typeIs PySem.F.entry_dict_pop ha (meets_dict_pop_there (bh X.prog X.w) a (oz ry) more hm hp)
  ⟨vs,w',dd,by rw[<-rel.length];exact z,hw,λh' zL hs=>h w' _ ?_ nh⟩
 have he:∃q,h'.get? a=Δ q:=let ⟨q,_,_,hq,_⟩:=zL;⟨q,hq⟩
 exact kg I (by rw[e];exact ZU) hs he (tY (Zc (z8 kvs k) z) hd (rel.drop k) zL)
theorem Q8(I:Inv X η σ H s)(e:Rd H a ?QA)(h:∀t s',Inv X η σ H s'->Q (.int ?Ql t) s'):wpAny ?G A (call (.builtin "len") [.ref a]) Q E s:=by obtain⟨z,hd,vs,rel,dd⟩:=qZ I.aL e;refine call_len_dict hd dd (by rw[<-rel.length];rw[ZV] at z;lia) ?_;rw[<-rel.length];exact h _ _ (I.tok _)
end
theorem Aa(I:Inv X η σ H s)(g:oA H a y o):s.TypeIs ?QT "dict":=by
 rcases g with ⟨kvs,k,e,_,_⟩|⟨kvs,k,b,e,_,_,_⟩
 ·obtain⟨_,_,vs,_,dd⟩:=qZ I.aL e;exact dd.typeIs
 ·obtain⟨_,_,xs,_,dd⟩:=rf I.aL e;exact dd.typeIs
theorem Ab(I:Inv X η σ H s)(g:oA H a y o):
  ∀b,YW a=.ref b->∃ob,s.heap.get? b=Δ ob/\ob.dict=Θ:=λb q=>by
 cases q;rcases g with ⟨kvs,k,e,_,_⟩|⟨kvs,k,b,e,_,_,_⟩
 ·obtain⟨_,_,vs,_,ob,_,_,h1,h2,_⟩:=qZ I.aL e;exact⟨ob,h1,h2.2.1⟩
 ·obtain⟨_,_,xs,_,ob,_,_,h1,h2,_⟩:=rf I.aL e;exact⟨ob,h1,h2.2.1⟩
section
variable{X:Cx}{o i e value:Expr}{pos pos' VE:Pos}{td ty tv:TE}
end
theorem Ac(h:Heap)(hb:aab < h.objs.size):bL P w H (h.push {cls:=.type "dict",data:=.dict #[]}) h.objs.size (.dK []):=
 ⟨Zr _,beq_eq_false_iff_ne.mpr (Zq (YZ hb)),[],.nil,Heap.DictOf.new h⟩
theorem Ad(h:Heap)(hb:aab < h.objs.size):bL P w H (h.push {cls:=.type "dict",data:=.dict #[]}) h.objs.size (.dT []):=
 ⟨Zr _,beq_eq_false_iff_ne.mpr (Zq (YZ hb)),[],.nil,_,#[],0,YD _ rfl,⟨rfl,rfl,rfl⟩,rfl,rfl,List.nodup_nil⟩
def Np:TE:=λ_ H Q=>∀p,H p=Θ->Q (.ref p) (upd H p (.dK []))
def Nq:TE:=λ_ H Q=>∀p,H p=Θ->Q (.ref p) (upd H p (.dT []))
section
variable{X:Cx}{pos:Pos}
theorem GP:PE X (.Dict [] [] pos) Np:=λη s σ H Q I h=>wpAny_Dict_empty ⟨.ref ?C,_,I.laid (a:=?C) (o:=.dK []) (t':=s.toks) (λ_ _ q=>Yl _ q) (Yt _) (Ac s.heap I.Uk),rfl,h _ ?QW⟩
theorem GQ:PE X (.Dict [] [] pos) Nq:=λη s σ H Q I h=>wpAny_Dict_empty ⟨.ref ?C,_,I.laid (a:=?C) (o:=.dT []) (t':=s.toks) (λ_ _ q=>Yl _ q) (Yt _) (Ad s.heap I.Uk),rfl,h _ ?QW⟩
end
noncomputable def Cj:List (TE×TE)->St->Hp->(List (V×V)->Hp->Prop)->Prop
 |[],_,H,Q=>Q [] H|(tk,tv)::r,σ,H,Q=>tk σ H λx H1=>tv σ H1 λy H2=>Cj r σ H2 λps H3=>Q ((x,y)::ps) H3
abbrev VV:List (V×V)->List (Value×Value)->Prop:=adD λp q=>RelV p.1 q.1/\RelV p.2 q.2
def Ul(X:Cx)(pos:Pos)(keys:List (Option Expr))(values:List Expr)(Nr:List (TE×TE)):Prop:=
 ∀(η:List ?Qb) (s:YG) (σ:St) (H:Hp) (Q:List (V×V)->Hp->Prop),Inv X η σ H s->Cj Nr σ H Q->
  wpAny ?G X.A (evalPairs (pairTrees keys values X.env pos)) (λvs s'=>∃ps H',Inv X η σ H' s'/\VV ps vs/\Q ps H') X.xe s
theorem DD:Ul X pos [] [] []:=λη s σ H Q I h=>pairTrees_nil_walk ⟨[],H,I,.nil,h⟩
theorem Ae(hk:PE X k tk)(hv:PE X v tv)(hr:Ul X pos ks vs Nr):
  Ul X pos (Δ k::ks) (v::vs) ((tk,tv)::Nr):=λη s σ H Q I h=>
 pairTrees_cons_walk (bW (hk η s σ H _ I h) λu s1 ⟨x,H1,I1,rx,q1⟩=>bW (hv η s1 σ H1 _ I1 q1) λw2 s2 ⟨y,H2,I2,ry,q2⟩=>bW (hr η s2 σ H2 _ I2 q2) λws s3 ⟨ps,H3,I3,rel,q3⟩=>⟨(x,y)::ps,H3,I3,.cons ⟨rx,ry⟩ rel,q3⟩)
def p8(kvs more:List (Key×V)):List (Key×V):=more.foldl (λacc kv=>putK acc kv.1 kv.2) kvs
theorem KV.merge:∀{more} {rs} {kvs} {vs},KV more rs->KV kvs vs->KV (p8 kvs more) (merged vs rs):=by
 intro more rs kvs vs r;unfold KV at r;induction r generalizing kvs vs with
 |nil=>intro q;exact q|@cons p q ps qs h t ih=>
  intro r0;have e:KV (putK kvs p.1 p.2) (stored vs q.1 q.2):=by have:=r0.put p.1 h.2;rw[<-h.1];exact this
  exact ih e
theorem mM:∀(more kvs),(p8 kvs more).length<=?Ql+more.length
 |[],kvs=>by show ?Ql<=?Ql+0;lia|p::r,kvs=>by have h1:=mM r (putK kvs p.1 p.2);have h2:=ji kvs p.1 p.2;show(p8 (putK kvs p.1 p.2) r).length<=_;rw[YA];lia
theorem tZ:∀{kvs} {ws},VV (kvs.map λkv=>(kV kv.1,kv.2)) ws->∃rs,Carries (bh P w) ws rs/\KV kvs rs
 |[],_,r=>by rw[aaY] at r;cases r;exact⟨[],ZU,.nil⟩|p::kvs,_,r=>by rw[Yx] at r;cases r with|@cons a b as bs h t=>obtain⟨rs,c,q⟩:=tZ (P:=P) (w:=w) t;obtain⟨b1,b2⟩:=b;exact⟨(p.1,b2)::rs,⟨oz h.1,rfl,c⟩,.cons ⟨rfl,h.2⟩ q⟩
def Q9(Nr:List (TE×TE)):TE:=λσ H Q=>∀p,H p=Θ->Cj Nr σ (upd H p (.dK [])) λps H2=>H2 p=Δ (.dK [])/\∃kvs:List (Key×V),ps=kvs.map (λkv=>(kV kv.1,kv.2))/\?Ql<=15/\Q (.ref p) (upd H2 p (.dK (p8 [] kvs)))
theorem J1(h:Ul X pos keys values Nr)(Ck:keys.all (·.isSome)=Λ)(hl:keys.length=values.length)(h0:keys≠[])(h15:keys.length<=15):PE X (.Dict keys values pos) (Q9 Nr):=by
 intro η s σ H Q I q;have hn:=I.aL.fresh (Yt ?C);have I1:=I.laid (a:=?C) (o:=.dK []) (h':=s.heap.push {cls:=.type "dict",data:=.dict #[]}) (t':=s.toks) (λ_ _ q=>Yl _ q) (Yt _) (Ac s.heap I.Uk);refine wpAny_Dict_walk (knd:=bh X.prog X.w) Ck hl h0 h15 (bW (h η _ σ _ _ I1 (q _ hn)) λws s2 ⟨ps,H2,I2,rel,e,kvs,ep,lk,q2⟩=>?_);subst ep;obtain⟨rs,c,rk⟩:=tZ (P:=X.prog) (w:=X.w) rel;obtain⟨z,hd,vs0,r0,dd⟩:=w9 I2.aL e;cases r0;refine⟨rs,c,dd,λh' zL hs=>⟨.ref ?C,_,?_,rfl,q2⟩⟩;have hz:(p8 [] kvs).length<=YQ:=by have h1:=mM kvs [];rw[aaj] at h1;rw[ZV];lia
 have he:∃q,h'.get? ?C=Δ q:=let ⟨q,_,_,hq,_⟩:=zL;⟨q,hq⟩
 exact kg I2 (by rw[e];exact ZU) hs he (tY hz hd (rk.merge .nil) zL)
structure M1(X:Cx)(o:Expr)(m:Str)(apos:Pos)(e:Expr)(gb:Pos):Prop where
 base:aa0 o m X.env (eval o X.env)=eval o X.env
 VU:((aax gb (YX [e] X.env)).all (λx=>!x.1)&&(ack gb (abb [] X.env)).all (λx=>x.1.isSome)
  &&decide (([e]:List Expr).length+([]:List acK).length+(if([]:List acK).isEmpty then 0 else 1) < 30))=Λ
 line:(apos.endLine==gb.line)=Λ
 trees:aax gb (YX [e] X.env)=[(Ξ,eval e X.env)]
structure M2(X:Cx)(o:Expr)(m:Str)(apos:Pos)(e f:Expr)(gb:Pos):Prop where
 base:aa0 o m X.env (eval o X.env)=eval o X.env
 VU:((aax gb (YX [e,f] X.env)).all (λx=>!x.1)&&(ack gb (abb [] X.env)).all (λx=>x.1.isSome)
  &&decide (([e,f]:List Expr).length+([]:List acK).length+(if([]:List acK).isEmpty then 0 else 1) < 30))=Λ
 line:(apos.endLine==gb.line)=Λ
 trees:aax gb (YX [e,f] X.env)=[(Ξ,eval e X.env),(Ξ,eval f X.env)]
def Um(H:Hp)(a:Addr):Prop:=(∃kvs,Rd H a ?QA)\/∃kvs,Rd H a (.dT kvs)
theorem Cm(I:Inv X η σ H s)(d:Um H a):
  s.TypeIs ?QT "dict"/\(∀b,YW a=.ref b->∃ob,s.heap.get? b=Δ ob/\ob.dict=Θ)/\(a==aab)=Ξ:=by
 rcases d with ⟨kvs,e⟩|⟨kvs,e⟩
 ·obtain⟨_,hd,vs,_,dd⟩:=qZ I.aL e;refine⟨dd.typeIs,λb q=>?_,hd⟩;cases q;obtain⟨ob,_,_,h1,h2,_⟩:=dd;exact⟨ob,h1,h2.2.1⟩
 ·obtain⟨_,hd,xs,_,dd⟩:=rf I.aL e;refine⟨dd.typeIs,λb q=>?_,hd⟩;cases q;obtain⟨ob,_,_,h1,h2,_⟩:=dd;exact⟨ob,h1,h2.2.1⟩
section
variable{X:Cx}{η:List ?Qb}{σ:St}{H:Hp}{s:YG}{a:Addr}{y d:V}{u r:Value}{o:Option V}{A:ZS}{E:Value->YG->Prop}
end
def Nt(td ty:TE):TE:=λσ H Q=>td σ H λx H1=>∃a,x=.ref a/\Um H1 a/\ty σ H1 λy H2=>∃kvs k v,H2 a=Δ ?QA/\y=kV k/\fP kvs k=Δ v/\Q v (upd H2 a (.dK (ow kvs k)))
section
variable{X:Cx}{o e f:Expr}{apos gb:Pos}{td ty tx:TE}
theorem GR(ho:PE X o td)(he:PE X e ty)(m:M1 X o "pop" apos e gb):PE X (.Call (.Attribute o "pop" apos) [e] [] gb) (Nt td ty):=by intro η s σ H Q I h;refine wpAny_Call_method m.base m.VU m.line abP PySem.F.slot_dict_pop PySem.F.type_dict_pop (bW (ho η s σ H _ I h) λu s1 ⟨x,H1,I1,rx,a,ex,d,q1⟩=>?_);subst ex;obtain rfl:u=YW a:=rx;obtain⟨t1,t2,_⟩:=Cm I1 d;refine⟨t1,t2,?_⟩;rw[m.trees];refine aaD rfl (aco (abf (bW (he η s1 σ H1 _ I1 q1) λiv s2 ⟨y,H2,I2,ry,kvs,k,v,ea,ey,l,q2⟩=>ab3 ?_)));subst ey;exact Q7 I2 ea ry l ?QO λw' s3 I3 nh=>⟨v,_,I3,nh,q2⟩
end
section
variable{X:Cx}{η:List ?Qb}{σ:St}{H:Hp}{s:YG}{a:Addr}{kvs:List (Key×V)}{A:ZS}{E:Value->YG->Prop}
end
section
variable{X:Cx}{η:List ?Qb}{σ:St}{H:Hp}{s:YG}{a:Addr}{y:V}{u:Value}{A:ZS}{E:Value->YG->Prop}
end
end L2
namespace Att
open PySem PySem.W PySem.Calls PyProof.Rows
theorem rW:∀(ns) (vs),WellAll P h vs (ns.map WData.int)->IntsAre vs ns:=by intro ns;induction ns with|nil=>intro vs w;rw[aaY] at w;cases w;exact .nil|cons n ns ih=>intro vs w;rw[Yx] at w;cases w with|cons a b=>cases a;exact .cons _ _ (ih _ b)
theorem ET{l:OpenLaw}(hn:l.most=Δ n)(J2:l.row.toRowW.claim.pre args=Λ)(Uo:WellAll P h vals args):
  ∃a vs ns,vals=[YW a]/\args=[WData.list (ns.map WData.int)]/\h.get? a=Δ {cls:=.type "list",data:=.seq vs.toArray}/\IntsAre vs ns/\ns.length<=n:=by
 have DE:WShape.hasAll [] args [.list .int]=Λ:=(pre_splitW J2).1;have hc:l.pre.holds [] {args:=args}=Λ:=(pre_splitW J2).2;obtain⟨d,r,rfl,h1,h2⟩:=hasAllW_cons DE;obtain rfl:=hasAllW_nil h2;obtain⟨xs,rfl,h3⟩:=hasW_list h1;obtain⟨ns,rfl⟩:=items_int h3;have hlen:ns.length<=n:=by
  unfold OpenLaw.pre at hc;have h4:(WTm.not (.lt (.lit (.int (n:Int))) (.len (.arg 0)))).holds [] {args:=[.list (ns.map .int)]}=Λ:=by have h4:=(holds_andW hc).1;rw[hn] at h4;exact h4
  have h5:=condW_of h4 (w_not (w_lt w_lit (w_len_list (w_arg rfl))));rw[Yr] at h5;refine Nat.le_of_not_lt λq=>?_;have q':(n:Int) < ((ns.length:Nat):Int):=by lia
  first
   |(rw[decide_eq_true q'] at h5;exact absurd h5 ?T)
   |(simp at h5;lia)
 cases Uo with|cons w1 w2=>cases w2;cases w1 with|list ho Ck=>exact⟨_,_,ns,rfl,rfl,ho,rW ns _ Ck,hlen⟩
theorem EU(l:OpenLaw)args:l.row.toRowW.claim.post args (.bool Λ) args=Λ:=
 postW_of (r:=l.row.toRowW) (X:=(Λ==Λ))
  (show WShape.has [] (.bool Λ) .bool=Λ by first|rfl|decide|simp[WShape.has,WShape.arms,WShape.armsAll])
  (show(WTm.eq .res (.lit (.bool Λ))).value [] {args:=args,res:=Δ (.bool Λ),after:=args}=Δ (.bool (Λ==Λ)) from w_eq_bool (w_res rfl) w_lit) rfl
theorem Af{l:OpenLaw}(hn:l.most=Δ n)(Ra:d.params.defaults=[])(call:∀(w:World) (ig bD:YG) (mg mb:Str->Option Value) (fa:Addr) (o:Obj) (pm cd doc:Value) (a:Addr) (vs:List Value) (ns:List Int),
   Ground q loose [] XP w ig mg mb bD.heap->YP w bD.heap->
   bD.heap.get? fa=Δ o->o.data=.func (docDef d.name d.params d.body d.scope pm cd doc)->bD.heap.CodeRec cd d.name->mg d.name=Δ (.ref fa)->
   bD.heap.get? a=Δ {cls:=.type "list",data:=.seq vs.toArray}->IntsAre vs ns->ns.length<=n->bD.gens=#[]->
   ach (model l.prog w) adt (.call (.ref fa) ⟨[.ref a],[]⟩) (λr s'=>r=.ok (.ret (.bool Λ))/\OldK bD.heap s'.heap/\s'.os=bD.os/\acL s'.gens) bD):
  WalkO q loose XP YP l.row.toRowW d [] (λf vs=>adZ f vs):=by
 intro w ig bD mg mb G Y fa o pm cd doc dV kV ho hd pX hD Rb hg args vals as J2 hlay hrd Uo hlo;obtain rfl:dV=.none:=Dflts.none hD Ra;obtain rfl:kV=.none:=Dflts.noKw hD;obtain⟨a,vs,ns,rfl,rfl,EV,hints,hlen⟩:=ET hn J2 Uo;refine enter_call (acv (call w ig bD mg mb fa o pm cd doc a vs ns G Y ho (fd_plain hd) pX Rb EV hints hlen hg) λr s' hq=>?_);obtain⟨rfl,h2,h3,h4⟩:=hq;exact⟨.inl ⟨.bool Λ,.bool Λ,[],rfl,λ_=>rfl,.bool Λ,EU l _,λ_=>⟨List.Pairwise.nil,λ_ hm=>(nomatch hm)⟩⟩,h2,h3,h4⟩
section
variable{prog:Zm}{w:World}{A:ZS}{E:Value->YG->Prop}{s:YG}{K:Frag}
end
end Att
namespace L2
open PySem PySem.Spec PyProof.Rows
theorem xa:∀{vs} {ns},IntsAre vs ns->aU (ns.map V.int) vs
 |_,_,.nil=>.nil|_,_,.cons n t h=>.cons ⟨t,rfl⟩ (xa h)
noncomputable def sP(s:Stmt):aaS:=match s with|.FunctionDef _ a _ _ _ _ _ _ _ _=>a|_=>{posonlyargs:=[],args:=[],vararg:=Θ,kwonlyargs:=[],kw_defaults:=[],kwarg:=Θ,defaults:=[]}
noncomputable def l8(s:Stmt):List Stmt:=match s with|.FunctionDef _ _ b _ _ _ _ _ _ _=>b|_=>[]
noncomputable def aF(s:Stmt):Scope:=match s with|.FunctionDef _ _ _ _ _ _ sc _ _ _=>sc|_=>{kind:=.function,names:=[],isGenerator:=Ξ,isCoroutine:=Ξ}
abbrev vU:Jj:=λ_ _ _ _ _ _=>False
abbrev E0:XK:=λ_ _ _=>False
theorem Ag:kZ vU X E0:=λ_ _ _ _ _ _ _ h=>h.elim
structure n4(K:Yw)(x qual:Str)(st:Stmt)(f:Addr)(fd:aao):Prop where
 ex:∃(oc:Value) (od:Option Addr) (kV doc pm:Value) (an:Option Addr) (kU ct:Value) (JP:Array (Option Value)),
  fd=abW x qual (sP st) (l8 st) (aF st) .none kV doc pm an kU ct/\K.lookup f=Δ ⟨oc,od,.func fd,JP⟩/\ado K kU qual=Λ
 kp:aaL K (.ref f)=Λ
section
variable{P:Zm}{w:World}{K:Yw}{mg:Str->Option Value}{base:Heap}
theorem n4.binds{st:Stmt}(F:n4 K x qual st f fd)(h:∀(kV doc pm:Value) (an:Option Addr) (kU ct:Value) (us:List Value),us.length=?S->adX (abW x qual (sP st) (l8 st) (aF st) .none kV doc pm an kU ct) ⟨us,[]⟩=pure (ps.zip us)):Binds K fd ps []:=by obtain⟨oc,od,kV,doc,pm,an,kU,ct,JP,rfl,lk,pX⟩:=F.ex;exact .all (h kV doc pm an kU ct)
theorem Nu{st:Stmt}{kV doc pm kU ct:Value}(l:K.lookup f=Δ ⟨oc,od,.func (abW x qual (sP st) (l8 st) (aF st) .none kV doc pm an kU ct),JP⟩)(c:ado K kU qual=Λ)(k:aaL K (.ref f)=Λ):n4 K x qual st f (abW x qual (sP st) (l8 st) (aF st) .none kV doc pm an kU ct):=⟨⟨oc,od,kV,doc,pm,an,kU,ct,JP,rfl,l,c⟩,k⟩
end
section
variable{X:Cx}
end
def kQ(H H':Hp):Prop:=∀b o,H b=Δ o->H' b=Δ o
theorem kQ.refl H:kQ H H:=λ_ _ h=>h
section
variable{κ:Type}[DecidableEq κ]
end
def dI(env:Env):List (Str×aaX)->List (Str×Addr)->List (Str×Addr)
 |[],cs=>cs|(n,k)::r,cs=>dI env r ?Qz
theorem t7(h:∀x∈sc.names,x.2=.free->∃c,env.cells.lookup x.1=Δ c):acz sc env=pure (dI env sc.names []):=by
 have go:∀(l:List (Str×aaX)) (cs:List (Str×Addr)),(∀x∈l,x.2=.free->∃c,env.cells.lookup x.1=Δ c)->
   (forIn l cs (λ(x:Str×aaX) (r:List (Str×Addr))=>if(x.2==YK)=Λ then do let a<-adP env x.1;pure (Z4 ((x.1,a)::r)) else pure (Z4 r)):Sem (List (Str×Addr)))=pure (dI env l cs):=by
  intro l;induction l with
  |nil=>intro cs _;rfl|cons x r ih=>
   intro cs hx;obtain⟨n,k⟩:=x;have hr:∀y∈r,y.2=.free->∃c,env.cells.lookup y.1=Δ c:=λy hy=>hx y (Yi _ hy);rw[aaQ];by_cases hk:(k==YK)=Λ
   ·obtain⟨c,hc⟩:=hx (n,k) Yk (by simpa using hk);have e:adP env n=pure c:=by unfold adP;simp only at hc;rw[hc]
    simp only[hk,if_true,e];show _=pure (dI env r ?Qz);rw[if_pos hk];simp only at hc;rw[hc];exact ih _ hr
   ·simp only[hk];show _=pure (dI env r ?Qz);rw[if_neg hk];exact ih _ hr
 have q:=go sc.names [] h;unfold acz;show((forIn sc.names [] (λ(x:Str×aaX) (r:List (Str×Addr))=>if(x.2==YK)=Λ then do let a<-adP env x.1;pure (Z4 ((x.1,a)::r)) else pure (Z4 r)):Sem (List (Str×Addr))) >>=λcs=>pure cs)=_;rw[q];rfl
theorem k8:∀{l} {cs},((x,YK)∈l\/∃c,cs.lookup x=Δ c)->∃c,(dI env l cs).lookup x=Δ c
 |[],cs,h=>by
  rcases h with h|h;·exact nomatch h
  ·exact h
 |(n,k)::r,cs,h=>by
  show ∃c,(dI env r ?Qz).lookup x=Δ c;refine k8 ?_;rcases h with h|⟨c,h⟩
  ·rcases aa2.mp h with e|e;·injection e with e1 e2;subst e1 e2;right;rw[if_pos (by rfl)];exact⟨_,by rw[YU];simp;rfl⟩
   ·exact .inl e
  ·right;by_cases hk:(k==YK)=Λ
   ·rw[if_pos hk,YU];split;·exact⟨_,rfl⟩
    ·exact⟨c,h⟩
   ·rw[if_neg hk];exact⟨c,h⟩
theorem rg:∀{l} {cs},(∀y∈l,y.2=.free->∃d,env.cells.lookup y.1=Δ d)->
  (dI env l cs).lookup x=Δ c->cs.lookup x=Δ c\/((x,YK)∈l/\env.cells.lookup x=Δ c)
 |[],cs,_,h=>.inl h|(n,k)::r,cs,hx,h=>by
  have h':(dI env r ?Qz).lookup x=Δ c:=h;rcases rg (λy hy=>hx y (Yi _ hy)) h' with q|⟨q1,q2⟩
  ·by_cases hk:(k==YK)=Λ
   ·rw[if_pos hk,YU] at q;split at q
    ·rename_i e;have e':x=n:=by simpa using e
     subst e';have P0:k=.free:=by simpa using hk
     subst P0;obtain⟨d,hd⟩:=hx (x,.free) Yk rfl;simp only at hd;rw[hd] at q;simp only[Option.getD_some] at q;exact .inr ⟨Yk,by rw[hd];exact q⟩
    ·exact .inl q
   ·rw[if_neg hk] at q;exact .inl q
  ·exact .inr ⟨Yi _ q1,q2⟩
section
variable{prog:Zm}{w:World}{A:ZS}{R:Result->YG->Prop}{s:YG}
theorem xb(I:Nat->YG->Prop)(turn:∀n s,I n s->wpAny ?Qe A (acO it) (λr bD=>match r with
   |none=>R (.ok .next) bD
   |some v=>wpAny ?Qe A (acq target it v) (λ_ L9=>wpAny ?Qe A (adY target env v) (λ_ vZ=>
     wpAny ?Qe A (forIn ifs Λ λc r=>if r=Λ then do let ok<-adO c env (eval c env);pure (Z4 ok) else pure (Z4 r)) (λok EW=>
      if ok=Λ then wpAny ?Qe A (eval elt env) (λx Rc=>wpAny ?Qe A (call (.builtin "list.append") [acc,x]) (λ_ Rf=>∃m,m < n/\I m Rf) (λ_ _=>False) Rc) (λ_ _=>False) EW
      else ∃m,m < n/\I m EW) (λ_ _=>False) vZ) (λ_ _=>False) L9) (λ_ _=>False) bD) (λ_ _=>False) s)n(h:I n s):
  ach ?Qe A (.compLoop (.ListComp elt [⟨target,iter,ifs,0⟩] scope pos) 0 it acc env) R s:=by
 refine codeAny_loop rfl I (λn s hI=>?_) n h;show wpAny _ A ((compTurn (.ListComp elt [⟨target,iter,ifs,0⟩] scope pos) 0 it acc env).onRaise (λx=>do noteFrame x env;theTreesLotGoes x)) _ _ s;refine wpAny_noted ?_;rw[compTurn_list];refine Yo (adx (Yo (Z5 (turn n s hI) (λr bD dB=>?_) λ_ _ h'=>h'.elim)));cases r with|none=>exact YI dB|some v=>refine Yo (Z5 dB (λ_ L9 Rg=>?_) λ_ _ h'=>h'.elim);refine Yo (Z5 Rg (λ_ vZ k9=>Yo (Z5 k9 (λok EW jz=>?_) λ_ _ h'=>h'.elim)) λ_ _ h'=>h'.elim);cases ok with|false=>exact YI ⟨rfl,jz⟩|true=>exact Yo (Yo (Z5 jz (λx Rc EX=>Yo (Z5 EX (λ_ Rf mC=>YI (YI ⟨rfl,mC⟩)) λ_ _ h'=>h'.elim)) λ_ _ h'=>h'.elim))
end
theorem kh{env:Env}:∀{names:List (Str×aaX)} {x},names.lookup x=Δ .free->
  (names.map λ(n,k)=>if ?I then(n,ZX) else(n,k)).lookup x=Δ .cell\/
  (names.map λ(n,k)=>if ?I then(n,ZX) else(n,k)).lookup x=Δ .free
 |[],_,h=>by simp at h|(n,k)::r,x,h=>by
  have ih:=@kh env r x;show aai x ((if ?I=Λ then(n,ZX) else(n,k))::_)=_\/aai x ((if ?I=Λ then(n,ZX) else(n,k))::_)=_;cases hx:x==n with
  |true=>
   simp only[YU,hx] at h;cases h;by_cases hc:(YK==YK&&env.scope.kind==.function&&env.kindOf n==Δ .cell)=Λ;·rw[if_pos hc];simp[YU,hx]
   ·rw[if_neg hc];simp[YU,hx]
  |false=>
   simp only[YU,hx] at h;by_cases hc:?I=Λ;·rw[if_pos hc];simp only[YU,hx];exact ih h
   ·rw[if_neg hc];simp only[YU,hx];exact ih h
theorem rm{env:Env}:∀{names:List (Str×aaX)} {x} {q},q=.cell\/q=.free->
  (names.map λ(n,k)=>if ?I then(n,ZX) else(n,k)).lookup x=Δ q->∃k,(x,k)∈names/\(k=.free\/k=.cell)
 |[],_,_,_,h=>by simp at h|(n,k)::r,x,q,hq,h=>by
  have h':aai x ((if ?I=Λ then(n,ZX) else(n,k))::(r.map λ(n,k)=>if ?I then(n,ZX) else(n,k)))=Δ q:=h;cases hx:x==n with
  |true=>
   have e:x=n:=by simpa using hx
   by_cases hc:?I=Λ
   ·have hk:k=.free:=by simp only[Yj] at hc;simpa using hc.1.1
    exact⟨k,by rw[e];exact Yk,.inl hk⟩
   ·rw[if_neg hc] at h';simp only[YU,hx] at h';cases h';exact⟨k,by rw[e];exact Yk,hq.symm⟩
  |false=>
   have h2:aai x (r.map λ(n,k)=>if ?I then(n,ZX) else(n,k))=Δ q:=by
    by_cases hc:?I=Λ;·rw[if_pos hc] at h';simpa only[YU,hx] using h'
    ·rw[if_neg hc] at h';simpa only[YU,hx] using h'
   obtain⟨k',m,z⟩:=rm hq h2;exact⟨k',Yi _ m,z⟩
def mE(X:Cx)(η:List ?Qb)(N:List Str)(sc:Scope)(fp:List Addr)(C:Addr)(s:YG)(H:Hp):Cx where
 prog:=X.prog
 w:=X.w
 K:=X.K
 mg:=X.mg
 base:=X.base
 A:=X.A
 N:=N
 ig:=s
 zT:=H
 env:=compEnvC sc (dI X.env sc.names []) C X.env
 outer:=X.stack
 stack:=X.stack
 ex:=fp
 calm:=X.calm
 fn:=λ_=>Ξ
 pn:=X.pn++η
 xe:=λ_ _=>False
structure ki(X:Cx)(N:List Str)(ts:Nat)(js:List Nat)(sc:Scope):Prop where
 kind:sc.kind=.function
 len:N.length=ts+js.length
 eR:∀x∈sc.names,x.2≠.cell
 names:∀x∈sc.names,x.2=.local->sc.names.lookup x.1=Δ .local
 frees:∀x∈sc.names,x.2=.free->X.env.kindOf x.1=Δ .cell\/X.env.kindOf x.1=Δ .free
 slots:∀(i:Nat) (y:Str) (j:Nat),N[ts+i]?=Δ y->js[i]?=Δ j->X.N[j]?=Δ y/\sc.names.lookup y=Δ .free
noncomputable def jj(ts:Nat)(js:List Nat)(σ:St):St:=ZO ts Θ++js.map λj=>(σ[j]?).join
section
variable{X:Cx}{η:List ?Qb}{σ:St}{H:Hp}{s:YG}{N:List Str}{ts:Nat}{js:List Nat}{sc:Scope}{fp:List Addr}
theorem ki.cl(B:ki X N ts js sc)(ok:X.Ok):∀x∈sc.names,x.2=.free->∃c,X.env.cells.lookup x.1=Δ c:=λx hx hk=>ok.has x.1 (B.frees x hx hk)
theorem ki.get(B:ki X N ts js sc)(ok:X.Ok)(h:(dI X.env sc.names []).lookup x=Δ c):X.env.cells.lookup x=Δ c:=by
 rcases rg (B.cl ok) h with q|⟨_,q⟩;·cases q
 ·exact q
theorem Inv.VW(I:Inv X η σ H s)(f:m9 X η H b):b∉j0 X.stack:=λz=>by
 rcases aa2.mp (I.pW b z) with e|e;·exact f.2.1 e
 ·exact f.2.2.1 e
theorem Inv.okB(I:Inv X η σ H s)(B:ki X N ts js sc)(hf:∀b∈fp,m9 X η H b)(ho:∀b∈fp,b < ?C):(mE X η N sc fp ?C s H).Ok where
 mod:=I.ok.mod
 kind:=B.kind
 glob:=I.ok.glob
 blt:=I.ok.blt
 above:=Yt _
 inj:=λx y c h1 h2=>I.ok.inj x y c (B.get I.ok h1) (B.get I.ok h2)
 has:=λx hx=>by
  have sQ:∃q,(q=ZX\/q=.free)/\(sc.names.map λ(n,k)=>if(k==YK&&X.env.scope.kind==.function&&X.env.kindOf n==Δ .cell) then(n,ZX) else(n,k)).lookup x=Δ q:=by
   rcases hx with h|h;·exact⟨_,.inl rfl,h⟩
   ·exact⟨_,.inr rfl,h⟩
  obtain⟨q,hq,hl⟩:=sQ;obtain⟨k,hm,hk⟩:=rm hq hl;have P0:k=.free:=hk.resolve_right (B.eR _ hm);subst P0;exact k8 (.inl hm)
 MT:=λx c h=>absurd ?Qi Zh
 hd:=I.ok.hd
 frames:=I.ok.frames
 Qv:=.inl rfl
 Vi:=λb hb=>⟨YZ (ho b hb),λx c h=>(hf b hb).2.2.2.2.1 x c (B.get I.ok h)⟩
 bs:=I.bs
 Ga:=Zc I.ok.Ga I.sz
 EC:=λb o e hb=>by
  rcases(hf b hb).2.2.2.1 with z|z;·exact I.ok.EC b o e z
  ·exact absurd (YO (YE e) (Zc I.ok.Ga z)) (Z9 _)
 Gh:=λb hb=>I.VW (hf b hb)
 m7:=I.stack
 Jz:=I.oa
theorem Inv.block(I:Inv X η σ H s)(B:ki X N ts js sc)(hf:∀b∈fp,m9 X η H b)(ho:∀b∈fp,b < ?C)(hn:h'.Ns ?C m)(k:∀b o,s.heap.get? b=Δ o->h'.get? b=Δ o):Inv (mE X η N sc fp ?C s H) [] (jj ts js σ) H {s with heap:=h',toks:=tk}:=by
 refine⟨I.okB B hf ho,rfl,I.bare,Un.kept k,⟨m,hn,λi y v h1 h2 h3=>?_⟩,λx c h=>?_,I.aL.fresh (Yt _),λx c h=>I.kJ x c (B.get I.ok h),λp hp=>?_,I.aL.kept k,?_⟩
 ·have hi:ts<=i:=by
   by_cases hi:ts<=i;·exact hi
   ·unfold jj at h2;rw[Yq ?Zl,aba] at h2;split at h2<;>cases h2
  obtain⟨d,rfl⟩:∃d,i=ts+d:=⟨i - ts,by lia⟩;have sR:(js.map λj=>(σ[j]?).join)[d]?=Δ (Δ v):=by unfold jj at h2;rw[YH ?E] at h2;simpa using h2
  rw[Ys] at sR;cases ej:js[d]? with
  |none=>rw[ej] at sR;cases sR|some j=>
   rw[ej] at sR;have h4:(σ[j]?).join=Δ v:=by simpa using sR
   have h5:σ[j]?=Δ (Δ v):=by cases e:σ[j]? with|none=>rw[e] at h4;cases h4|some o=>rw[e] at h4;simp at h4;rw[h4]
   obtain⟨g1,g2⟩:=B.slots d y j h1 ej;have hm:(y,YK)∈sc.names:=Zd g2;have hk:=B.frees _ hm rfl;obtain⟨m0,hn0,hl0⟩:=I.loc;have hv:Qu X.env.scope y:=by
    rcases hk with z|z;·exact .inr (.inl z)
    ·exact .inr (.inr z)
   obtain⟨u,ru,lk⟩:=hl0 j y v g1 h5 hv;refine⟨u,ru,.inr ⟨kh g2,?_⟩⟩;rcases lk with ⟨z,_⟩|⟨_,c,hc,oi⟩
   ·rcases hk with z'|z'<;>(rw[z] at z';cases z')
   ·obtain⟨c',Dw⟩:=k8 (env:=X.env) (l:=sc.names) (cs:=[]) (.inl hm);have e:=B.get I.ok Dw;rw[hc] at e;cases e;obtain⟨o,pV,Du⟩:=oi;exact⟨c,Dw,o,k _ _ pV,Du⟩
 ·obtain⟨v,o,pV,Du⟩:=I.cell x c (B.get I.ok h);exact⟨v,o,k _ _ pV,Du⟩
 ·have EY:p∈X.pn++η:=by simpa[mE] using hp
  obtain⟨e,n,ne,nf,d⟩:=I.pin p EY;refine⟨k _ _ e,n,YZ (YE e),λz=>?_,d⟩;rcases aa2.mp (I.pW p.1 z) with q|q;·exact ne q
  ·exact nf q
 ·show(jj ts js σ).length=N.length;unfold jj;rw[YF,abl,Yr,B.len]
end
noncomputable def GU(X:Cx)(ifs:List Expr)(t:TT):Prop:=
 ∀(η:List ?Qb) (s:YG) (σ:St) (H:Hp) (Q:Bool->Hp->Prop),Inv X η σ H s->t σ H Q->
  wpAny ?G X.A (forIn ifs Λ λc r=>if r=Λ then do let ok<-adO c X.env (eval c X.env);pure (Z4 ok) else pure (Z4 r)) (TP X η σ Q) X.xe s
def VX:TT:=λ_ H Q=>Q Λ H
theorem J3:GU X [] VX:=λ_ _ _ H _ I h=>wpAny_tests_nil ⟨H,I,h⟩
theorem J4(h:PT X c t):GU X [c] t:=λη s σ H Q I q=>wpAny_tests_one (h η s σ H Q I q)
def xc(wi:TI)(g:TG)(tc:TT)(te:TE)(ts:Nat)(js:List Nat):TE:=λσ H Q=>wi σ H λJ H1=>∀acc,H1 acc=Θ->
 ∃W:Nat->Nat->St->Hp->Prop,(∃m,W 0 m (jj ts js σ) (upd H1 acc (.lst [])))/\∀i m τ H,W i m τ H->
  (J.stop i H/\Q (.ref acc) H)\/(J.go i H/\∀x H',J.QJ i H x H'->g x τ H' λUp H2=>tc Up H2 λb H3=>
   if b=Λ then te Up H3 λy H4=>∃ys,H4 acc=Δ (.lst ys)/\?Zd < YQ/\∃m',m' < m/\W (i+1) m' Up (upd H4 acc (.lst (ys++[y])))
   else ∃m',m' < m/\W (i+1) m' Up H3)
section
variable{X:Cx}{elt iter tg:Expr}{ifs:List Expr}{sc:Scope}{pos:Pos}{N:List Str}{ts:Nat}{js:List Nat}{wi:TI}{g:TG}{tc:TT}{te:TE}
theorem Inv.Ah(I:Inv X η σ H s)(hf:∀b∈fp,m9 X η H b)(J:Inv (mE X η N sc fp ?C s H) [] τ H' s')(sb:aaZ ?C s'.heap h''):Inv X η σ H' {s' with heap:=h''}:=by
 have hC:H' ?C=Θ:=J.free;have k:∀b o,b≠?C->s'.heap.get? b=Δ o->h''.get? b=Δ o:=λb o hb e=>sb.extBut b o hb e;have ne:∀b o,s.heap.get? b=Δ o->b≠s.heap.objs.size:=λb o e=>YZ (YE e);have u:Un (j0 X.stack) fp H H' s.heap h'':=
  ⟨λb o e n hb hx=>k b o (ne b o e) (J.base.keep b o e n hb hx),
   λb o e n hb hx=>by
   obtain⟨sl,q⟩:=J.base.slot b o e n hb hx;exact⟨sl,k b _ (ne b o e) q⟩,
   J.base.free,
   λb o e hx=>by
   obtain⟨o',q⟩:=J.base.there b o e hx;exact⟨o',k b _ (ne b o e) q⟩,
   J.base.tI,J.base.pU,J.base.rT⟩
 have aL:kX X.prog X.w H' h'':=λb ob e=>by
  refine(J.aL b ob e).n8 (λc v hc q=>k c v ?_ q) (λ_ q=>q) λ_ _ q=>q;rintro rfl;rcases hc with z|z;·rw[z] at hC;rw[hC] at e;cases e
  ·rw[hC] at z;cases z
 exact I.Gk (s':={s' with heap:=h''}) (ch:=fp) J.os u aL J.bare λb hb=>⟨(hf b hb).2.2.2.1,(hf b hb).2.1,(hf b hb).2.2.2.2.1,(hf b hb).2.2.2.2.2⟩
theorem yx(hc:X.calm=Λ)(B:ki X N ts js sc)(hi:PI X tg iter wi)
  (hg:∀η fp C s H,PG (mE X η N sc fp C s H) tg g) (ht:∀η fp C s H,GU (mE X η N sc fp C s H) ifs tc) (he:∀η fp C s H,PE (mE X η N sc fp C s H) elt te)
  (hs:∀x,acE iter X.env x=pure x:=by intro _;rfl):PE X ?QI (xc wi g tc te ts js):=by
 intro η s σ H Q I h;rw[eval_ListComp];refine wpAny_comprehension_free (use:=Θ) rfl hs (t7 (B.cl I.ok)) B.kind B.names (bW (hi η s σ H _ I h) λv s1 h1=>bW h1 λUa s2 h2=>?_);obtain⟨it,fp,tn,J,H2,e,I2,T,st2,f2,sR⟩:=h2;subst e;have EZ:H2 ?Qq=Θ:=I2.aL.fresh (Yt _);obtain⟨W,⟨m0,w0⟩,turn⟩:=sR ?Qq EZ;refine aaT (abo B.eR (by intro y hy;simp at hy) (λdB Cn Co=>?_) B.kind);obtain⟨s3,J5⟩:∃s3:YG,({s2 with heap:=s2.heap.push {cls:=.type "list",dict:=Θ,data:=.seq ([]:List Value).toArray}}:YG)=s3:=⟨_,rfl⟩;have e3:s3.heap=s2.heap.push {cls:=.type "list",dict:=Θ,data:=.seq ([]:List Value).toArray}:=by rw[<-J5]
 have Cp:dB.Ns s3.heap.objs.size λx=>([]:List (Str×Value)).reverse.lookup x:=by rw[e3];exact Cn
 have Cq:aaZ s3.heap.objs.size (s3.heap.push {cls:=.type (if(Δ X.env).isSome then "dict" else "frame"),data:=.dict #[]}) dB:=by rw[e3];exact Co
 have I3:Inv X η σ (upd H2 ?Qq (.lst [])) s3:=by rw[<-J5];exact I2.laid (t':=s2.toks) (λb u e=>Yl _ e) (Yt _) ⟨Zr _,[],0,.nil,YD _ rfl⟩
 have Rh:∀b∈fp,b < s2.heap.objs.size:=λb hb=>by obtain⟨o,e,_⟩:=T.obj _ _ st2 b hb;exact YE e
 have f3:∀b∈fp,m9 X η (upd H2 ?Qq (.lst [])) b:=λb hb=>⟨by rw[ax (YZ (Rh b hb))];exact(f2 b hb).1,(f2 b hb).2⟩;have VY:?Qq < s3.heap.objs.size:=by rw[e3,ZQ];exact Z7 _
 have Ri:∀b∈fp,b < s3.heap.objs.size:=λb hb=>ab0 (Rh b hb) VY;have k1:∀b o,s3.heap.get? b=Δ o->dB.get? b=Δ o:=λb o e=>Cq.extBut b o (YZ (YE e)) (Yl _ e);have IB:=I3.block (tk:=s3.toks+([]:List (Str×Value)).length) (N:=N) B f3 Ri Cp k1;have mN:tn 0 dB:=T.keep _ _ _ st2 λb hb o e=>k1 b o (by rw[e3];exact Yl _ e);have tN:∀{H':Hp},(∀b∈fp,H' b=Θ)->∀b∈fp,m9 ?H [] H' b:=λhn b hb=>⟨hn b hb,YZ (Ri b hb),I3.VW (f3 b hb),.inl hb,λx c h=>(f3 b hb).2.2.2.2.1 x c (B.get I3.ok h),λp hp=>(f3 b hb).2.2.2.2.2 p (by simpa[mE] using hp)⟩;have loop:ach ?G X.A (.compLoop ?QI 0 (.ref it) (.ref ?Qq) (compEnvC sc (dI X.env sc.names []) s3.heap.objs.size X.env))
   (compPost ?G X.A X.xe Θ (EP X η σ Q) (.ref ?Qq) s3.heap.objs.size) {s3 with heap:=dB,toks:=s3.toks+([]:List (Str×Value)).length}:=by
  refine xb (λn s'=>∃i τ H',Inv ?H [] τ H' s'/\tn i s'.heap/\(∀b∈fp,H' b=Θ)/\W i n τ H') ?_ m0
   ⟨0,jj ts js σ,_,IB,mN,λb hb=>(f3 b hb).1,w0⟩
  rintro n s5 ⟨i,τ,H5,I5,B1,M3,w5⟩;rcases turn i n τ H5 w5 with ⟨stop,qn⟩|⟨go,step⟩
  ·refine bW (T.done ?H rfl rfl rfl hc i [] s5 τ H5 (λ_ _=>False) I5 (tN M3) B1 stop) λr s6 ⟨hr,I6⟩=>?_;subst hr;obtain⟨m,hn,_⟩:=I6.loc;exact⟨m,hn,λh' t8=>⟨.ref ?Qq,H5,I3.Ah f3 I6 t8,rfl,qn⟩⟩
  ·refine bW (T.item ?H rfl rfl rfl hc i [] s5 τ H5 (λ_ _=>False) I5 (tN M3) B1 go) λr s6 ⟨u,hr,h6⟩=>?_;subst hr;refine bW h6 λ_ s7 ⟨x,H7,I7,r7,y7,Nv,VZ⟩=>?_;have V0:=I7.pinned (tN VZ) (T.obj _ _ Nv);refine bW (hg _ _ _ _ _ _ s7 τ H7 x u _ V0 r7 (step x H7 y7)) λ_ s8 ⟨J6,H8,I8,q8⟩=>?_;refine bW (ht _ _ _ _ _ _ s8 J6 H8 _ I8 q8) λok s9 ⟨H9,I9,q9⟩=>?_;have again:∀{s':YG} {J7:St} {H':Hp},Inv ?H ([]++pY fp s7.heap) J7 H' s'->(∃m',m' < n/\W (i+1) m' J7 H')->
     ∃m,m < n/\∃i τ H',Inv ?H [] τ H' s'/\tn i s'.heap/\(∀b∈fp,H' b=Θ)/\W i m τ H':=λ{s' J7 H'} I' ⟨m',hm,w'⟩=>by
    refine⟨m',hm,i+1,J7,H',I'.jE,T.keep _ _ _ Nv λb hb o e=>(I'.pin (b,o) (YS _ (YS _ (eQ hb e)))).1,λb hb=>?_,w'⟩;obtain⟨o,e,d⟩:=T.obj _ _ Nv b hb;exact(I'.pin (b,o) (YS _ (YS _ (eQ hb e)))).2.1
   cases ok with|false=>exact again I9 q9|true=>refine bW (he _ _ _ _ _ _ s9 J6 H9 _ I9 q9) λxv Rj ⟨y,V1,V2,V3,ys,ha,hz,V4⟩=>?_;refine bW (p6 _ Rj J6 V1 (.ref ?Qq) [y] (.ref ?Qq) [xv] (λ_ H'=>∃m',m' < n/\W (i+1) m' J6 H') V2 rfl (.cons V3 .nil) ⟨_,ys,y,rfl,rfl,ha,hz,V4⟩) λ_ s11 ⟨_,H11,V5,_,V6⟩=>?_;exact again V5 V6
 subst J5;exact codeAny_compStart_list loop (T.self _ 0 _ _ _ mN loop)
end
end L2
namespace L2
open PySem
end L2
namespace L2
open PySem PySem.Spec PyProof.Rows PySem.SeqAt
open PySem.AutoSeq1 (wpAny_loadPart')
def fk(t T:String):Bool:=t==T||(t=="bool"&&T=="int")
noncomputable def Rk(H:Hp):V->Option String
 |.bC=>Δ "NoneType"|.bl _=>Δ "bool"|.int _=>Δ "int"|.str _=>Δ "str"|.ref a=>match H a with|some (.lst _)=>Δ "list"|some (.tup _)=>Δ "tuple"|_=>Θ
 |_=>Θ
theorem Nw(h:Rk H v=Δ t):t="NoneType"\/t="bool"\/t="int"\/t="str"\/t="list"\/t="tuple":=by
 cases v with
 |ref a=>
  unfold Rk at h;simp only at h;split at h<;>first
   |(cases h;simp)
   |cases h
 |_=>first
  |(cases h;simp)
  |cases h
theorem J8{K:Yw}(h:Rk H v=Δ t):ng K H v (.type t):=by
 cases v with
 |bC=>cases h;exact .bC|bl b=>cases h;exact .bl b|int i=>cases h;exact .int i|str x=>cases h;exact .str x|ref a=>
  unfold Rk at h;simp only at h;split at h;·rename_i xs e;cases h;exact .lst e
  ·rename_i xs e;cases h;exact .tup e
  ·cases h
 |_=>cases h
theorem sT K(ht:t="NoneType"\/t="bool"\/t="int"\/t="str"\/t="list"\/t="tuple")(hT:T="int"\/T="bool"\/T="tuple"\/T="str"\/T="list"):
  adn K (.type t) (.type T)=Δ (fk t T):=by
 rcases ht with rfl|rfl|rfl|rfl|rfl|rfl<;>rcases hT with rfl|rfl|rfl|rfl|rfl<;>first
  |rfl
  |kernel_rfl
section
variable{X:Cx}
theorem bp(h:H p=Θ)o:kQ H (upd H p o):=λb u q=>by rw[ax (aN q h)];exact q
def Ma:R2:=λx y H Q=>∃a b xs ys,x=.ref a/\y=.ref b/\H a=Δ ?QE/\H b=Δ (.tup ys)/\?Q+?Zd<=YQ/\∀r H',kQ H H'->H' r=Δ (.tup (xs++ys))->Q (.ref r) H'
theorem J9:kK X (aaK .Add) Ma:=by
 intro η s σ H x y v u Q I rx ry h;obtain⟨a,b,xs,ys,rfl,rfl,ha,hb,hz,q⟩:=h;cases rx;cases ry;obtain⟨its,r1,p1,_⟩:=I.tuple (fS.of ha);obtain⟨GL,r2,p2,_⟩:=I.tuple (fS.of hb);by_cases hx:xs=[]
 ·subst hx;cases r1;obtain⟨⟨cls,dd,data,sl⟩,ho,hc,n,hd⟩:=id p1;obtain⟨⟨VI,Ug,data2,Uh⟩,Jl,Nh,n2,hd2⟩:=id p2;simp only at hc hd Nh hd2;subst hc hd Nh hd2;exact adF ⟨_,ho,rfl⟩ ⟨_,Jl,rfl⟩ acU adz abY abR (abF _ _)
   (tuple_addW0 a b ([]:List Value).toArray GL.toArray n n2 dd Ug sl Uh ?E) ⟨ho,Jl,⟨.ref b,H,I,rfl,q b H (kQ.refl H) hb⟩⟩
 ·refine JV η s σ H ?QT (.ref b) _ _ Q I rfl rfl ⟨a,b,xs,ys,rfl,rfl,fS.of ha,fS.of hb,hx,hz,λe=>?_,λe p hp=>?_⟩;·subst e;exact q a H (kQ.refl H) (by rw[Zo];exact ha)
  ·exact q p _ (bp hp _) aD
theorem gc:fillsNumberSlot (.type "tuple") "mul"=pure Ξ:=
 PySem.fillsNumberSlot_seq (id:="tuple.__mul__") (r:=Δ (.builtin "tuple.__rmul__")) abX.lookup ?K PySem.F.slot_tuple_rmul.lookup ?K
theorem kj:seqRepeat? (.type "tuple")=pure (Δ (.builtin "tuple.__mul__")):=by unfold seqRepeat?;rw[PySem.seqSlot_of (T:="tuple") (name:="__mul__") (id:="tuple.__mul__") abX.lookup ?K,PySem.seqSlot_of (T:="tuple") (name:="__rmul__") (id:="tuple.__rmul__") PySem.F.slot_tuple_rmul.lookup ?K];rfl
theorem iD a t l items n d sl:
  Meets (aci.«int.__rmul__» ⟨[.int a t,.ref l],[]⟩) (λ_ R s=>s.heap.get? l=Δ {cls:=.type "tuple",dict:=d,data:=.seq items n,slots:=sl}/\R (.ok (.ret Value.notImplemented)) s):=
 .of_wp λprog w A R s h=>by obtain⟨hp,g,d,tk,os⟩:=s;obtain⟨hl,h⟩:=h;wp_walk;exact⟨_,rfl,h⟩
theorem Cr l items n d sl u(fm:¬items.isEmpty=Λ)(hz:items.size*2<=1000000):
  Meets (aci.«tuple.__mul__» ⟨[.ref l,.int 2 u],[]⟩) (λ_ R s=>s.heap.get? l=Δ {cls:=.type "tuple",dict:=d,data:=.seq items n,slots:=sl}/\
   R (.ok (.ret (YW ?C))) {s with heap:=s.heap.push {cls:=abc "tuple",data:=Data.seq (#[]++items++items)},toks:=s.toks}):=
 .of_wp λprog w A R s h=>by
  obtain⟨hp,g,dr,tk,os⟩:=s;obtain⟨hl,h⟩:=h;have f1:=ac3;have h1:¬((items.size:Int)*2 > (2 ^ 63 - 1) / 8):=by lia
  have h2:¬ZR ((items.size:Int)*2)=Λ:=by
   unfold ZR;simp[YQ]
   lia
  have h3:(items.isEmpty||(2:Int)==1)=Ξ:=by simpa using fm
  have h4:((2:Int)<=0||items.isEmpty)=Ξ:=by simpa using fm
  wp_walk using ZZ hl
  rw[if_neg h1];show wpAny _ _ (if ZR ((items.size:Int)*2)=Λ then _ else _) _ _ _;rw[if_neg h2];have hsz:sizeOk (.seq (acB (λx1 x2=>x1++x2) #[] (ZO (ac1 2) items))):=by
   show(acB (λx1 x2=>x1++x2) #[] (ZO (ac1 2) items)).size<=YQ;show(#[]++items++items).size<=YQ;simp[YQ]
   lia
  show wpAny _ _ (aa4 (acB (λx1 x2=>x1++x2) #[] (ZO (ac1 2) items)) >>=λv=>ret v) _ _ _;exact Yo (m:=aa4 _) (aaT (YI ⟨_,rfl,h⟩) hsz)
def Mb:R2:=λx y H Q=>∃a xs,x=.ref a/\y=.int 2/\H a=Δ ?QE/\xs≠[]/\?Q<=100000/\∀p,H p=Θ->Q (.ref p) (upd H p (.tup (xs++xs)))
theorem GV:kK X (aaK .Mult) Mb:=by
 intro η s σ H x y v u Q I rx ry h;obtain⟨a,xs,rfl,rfl,ha,fm,hz,q⟩:=h;cases rx;obtain⟨t,rfl⟩:=ry;obtain⟨its,r,ht,Rl⟩:=I.tuple (fS.of ha);have hl:=r.length;obtain⟨⟨cls,dd,data,sl⟩,ho,hc,n,hd⟩:=id ht;simp only at hc hd;subst hc hd;have yy:¬its.toArray.isEmpty=Λ:=by
  intro z;have:its=[]:=by simpa using z
  exact fm (r.ot.mp this)
 refine abB (T:="tuple") (U:="int") ?T ⟨_,ho,rfl⟩ (λs'=>aca s' 2 t) gc ab6 aam kj PySem.F.slot_int_index.lookup
  (abJ aam (aca s 2 t) abZ (abS _ _) (iD 2 t a ?Qh n dd sl)
   ⟨ho,rfl,⟨_,ho,rfl⟩,abJ abX ⟨_,ho,rfl⟩ abQ (abE _ _)
    (Cr a ?Qh n dd sl t yy (by rw[YC];lia)) ⟨ho,?_⟩⟩)
 refine⟨.ref ?C,_,I.laid (t':=s.toks) (o:=.tup (xs++xs)) (λb ob q=>Yl _ q) (Yt _) ?_,rfl,q _ ?QW⟩;refine⟨by rw[YF,ZV];lia,its++its,r.append r,?_⟩;have e:(#[]++?Qh++its.toArray:Array Value)=(its++its).toArray:=by simp
 rw[e];exact IsTup.new _ _
noncomputable def Mc:List DictEntry->Option (List (Str×Int))
 |[]=>Δ []|⟨_,.str x _,.int i _⟩::r=>(Mc r).map λD=>(x,i)::D|_=>Θ
def V7(o:Obj):Option (List (Str×Int)):=match o with|⟨.type t,Θ,.dict es _,sl⟩=>if t="dict"/\sl=#[] then Mc es.toList else Θ|_=>Θ
open PyProof.Rows.KTD in
structure Rm(K:Yw)(a:Addr)(D:List (Str×Int)):Prop where
 low:(a==aab)=Ξ
 at_:∃o,K.lookup a=Δ o/\V7 o=Δ D
end
end L2
namespace L2
open PySem PySem.Spec PyProof.Rows PySem.SeqAt
open PySem.AutoSeq1 (wpAny_loadPart')
section
variable{X:Cx}
theorem any_range(bs:List Bool):(Yh bs.length).any (λi=>bs.getD i Λ)=bs.any id:=by
 rw[aak];simp only[ZK,Zp,id];constructor;·rintro⟨i,hi,h⟩;rw[Ym,Yn hi] at h;exact⟨bs[i],Zl hi,by simpa using h⟩
 ·rintro⟨b,hb,h⟩;obtain⟨i,hi,e⟩:=List.mem_iff_getElem.mp hb;refine⟨i,hi,?_⟩;rw[Ym,Yn hi];simpa[e] using h
theorem E1(hc:X.calm=Λ):g8 X (.builtin "any") (λxs H Q=>∃(p:Addr) (bs:List Bool),xs=[.ref p]/\mB X.K H p (bs.map V.bl)/\Q (.bl (bs.any id)) H):=by
 intro η s σ H xs us Q I r h;obtain⟨p,bs,rfl,hq,q⟩:=h;obtain⟨u,rfl,rx⟩:=vals1 r;cases rx;obtain⟨its,rv,pl,hz⟩:=I.list hq;have hl:=rv.length;rw[Yr] at hl;have fT:p < s.heap.objs.size:=by obtain⟨o,n,e,_⟩:=pl;exact YE e
 refine call_any_walk (wpAny_pyIter_list pl.isList ?_);refine⟨?C,_,_,?Za,_,_,λi=>bs.getD i Λ,rfl,Walks.list (A:=X.A.in1) (show X.A.in1.handled=Θ from I.ok.hd hc) ?C p (YZ fT) ?Qh,⟨⟨_,YD _ rfl,rfl,rfl⟩,?_⟩,?_,?_⟩;·obtain⟨o,e,c⟩:=pl.isList;exact⟨o,Yl _ e,c⟩
 ·intro i v s' Q' E' hP hQ;have hP':its[i]?=Δ v:=by simpa using hP
  have hi:i < its.length:=(qqz hP').1;have hb:(bs.map V.bl)[i]?=Δ (V.bl (bs.getD i Λ)):=by rw[Ys,Yn ?D,Ym,Yn ?D];rfl
  obtain⟨u,hu,ru⟩:=rv.get hb;rw[hP'] at hu;cases hu;cases ru;exact aaa hQ
 ·intro h' tk hk;refine⟨.bl (bs.any id),H,I.kept (t':=tk) (λb o e=>hk b o (by simpa using YZ (YE e)) (Yl _ e)),?_,q⟩;show abK _=abK _;rw[YC,<-hl,any_range]
theorem rY(hd:(d==aab)=Ξ)(ho:∀s:YG,s.heap.get? d=Δ o->True):
  MeetsIn prog w (aci.«dict.__len__» ⟨[.ref d],[]⟩) (λ_ R s=>(s.heap.get? d=Δ o/\o.ExactDict/\o.data=.dict es ep)/\R (.ok (.ret (.int es.size s.toks))) {s with toks:=s.toks+1}):=
 .of_wp λA R s ⟨⟨ho,hc,Nx⟩,h⟩=>by show wpAny _ _ (dictSize d >>=_) _ _ s;unfold dictSize;refine Yo (Yo (wpAny_dictEntries ho Nx (YI ?_)));show wpAny _ _ (aci.Dict.pendingCount d >>=_) _ _ s;refine Yo (wpAny_pendingCount_other hd ?_);refine wpAny_ret_mkInt ?_;rw[Nat.add_zero];exact h
theorem yz(hd:(d==aab)=Ξ)(ho:s.heap.get? d=Δ o)(hc:o.ExactDict)(Nx:o.data=.dict es ep)(hfit:(es.size:Int) < 2 ^ 63)(h:Q (.int es.size (s.toks+1)) {s with toks:=s.toks+1+1}):wpAny ?Qe A (call (.builtin "len") [.ref d]) Q E s:=by
 have hT:s.TypeIs (.ref d) "dict":=⟨o,ho,hc.1⟩;refine Calls.call_function_entry kind_len plain_len entry_len (args_len1 _) ?_;unfold aci.«len»;refine Yo (m:=oneArg "len" _) (YI ?_);refine Yo (m:=callSpecial? (.ref d) (Zw "__len__")) (ZL (name:=Zw "__len__") hT F.slot_dict_len
  (acw F.slot_dict_len hT F.entry_dict_len (F.args_dict_len_1 _) (rY (o:=o) (es:=es) (ep:=ep) hd λ_ _=>trivial) ⟨⟨ho,hc,Nx⟩,?_⟩))
 show wpAny _ _ _ _ _ {s with toks:=s.toks+1};refine Yo (abD (YI ?_));refine Yo (acD ?_);show wpAny _ _ (if((es.size:Nat):Int) < 0 then _ else _) _ _ _;rw[if_neg ?D];show wpAny _ _ (if((es.size:Nat):Int)>=2 ^ 63 then _ else _) _ _ _;rw[if_neg ?D];exact Yo (wpAny_mkInt (YI ⟨_,rfl,h⟩))
def Rn(H:Hp)(a:Addr)(n:Nat):Prop:=(∃kvs,Rd H a ?QA/\?Ql=n)\/∃kvs,Rd H a (.dT kvs)/\?Ql=n
theorem yA:g8 X (.builtin "len") (λxs H Q=>∃p n,xs=[.ref p]/\Rn H p n/\Q (.int n) H):=by
 intro η s σ H xs us Q I r h;obtain⟨p,n,rfl,hd,q⟩:=h;obtain⟨u,rfl,rx⟩:=vals1 r;cases rx;rcases hd with ⟨kvs,e,rfl⟩|⟨kvs,e,rfl⟩
 ·exact Q8 I e λt s' I'=>⟨.int ?Ql,H,I',⟨t,rfl⟩,q⟩
 ·obtain⟨z,hd,xs,rel,o,es,ep,h1,h2,h3,h4,_⟩:=rf I.aL e;have hl:es.size=kvs.length:=by
   have:es.toList.length=xs.length:=by rw[h4,Yr]
   rw[<-aa6,this,<-rel.length]
  refine yz hd h1 h2 h3 (by rw[ZV] at z;lia) ?_;rw[hl];exact⟨.int ?Ql,H,I.tok _,⟨_,rfl⟩,q⟩
theorem oB(hT:vZ.TypeIs o "dict")(k9:wpAny ?Qe A (ads o i) Q E vZ)(hs:adk slice Ξ o i=operate [o,i] (ads o i)):wpAny ?Qe A (ady value slice o i) Q E vZ:=by
 unfold ady;refine Yo ?_;rw[getitemInPython_of_ne hT.not_modules];refine Yo (ade hT PySem.F.slot_dict_getitem.lookup ?_);have fin:wpAny ?Qe A (adk slice Ξ o i) (λr EW=>wpAny ?Qe A (letTemporaryGo value o r >>=λ_=>pure r) Q E EW) E vZ:=by rw[hs];exact wpAny_operating (Z5 k9 (λr EW jz=>Yo (wpAny_letTemporaryGo (YI jz))) λ_ _ x=>x)
 first
  |exact YI (Yo fin)
  |exact Yo (YI (Yo fin))
  |exact Yo fin
theorem Ai:g8 X (.type "range") (λxs H Q=>∃lo hi,(xs=[.int lo,.int hi]\/(lo=0/\xs=[.int hi]))/\∀p,H p=Θ->Q (.ref p) (upd H p (.fR lo hi))):=by
 intro η s σ H xs us Q I r h;obtain⟨lo,hi,hx,q⟩:=h;rcases hx with rfl|⟨rfl,rfl⟩;·obtain⟨u,w',rfl,rx,ry⟩:=vals2 r;obtain⟨t,rfl⟩:=rx;obtain⟨t',rfl⟩:=ry;refine call_range_2 ⟨.ref ?C,_,I.laid (a:=?C) (o:=.fR lo hi) (λb o e=>Yl _ e) (Yt _) ⟨_,_,_,YD _ rfl⟩,rfl,q _ ?QW⟩
 ·obtain⟨u,rfl,rx⟩:=vals1 r;obtain⟨t,rfl⟩:=rx;refine call_range_1 ⟨.ref ?C,_,I.laid (a:=?C) (o:=.fR 0 hi) (λb o e=>Yl _ e) (Yt _) ⟨_,_,_,YD _ rfl⟩,rfl,q _ ?QW⟩
noncomputable def Cs(lo:Int)(n:Nat):List V:=(Yh n).map λk=>.int (lo+(k:Nat))
theorem GW{lo:Int}:∀{acc} {n},acc.length=n->(∀(j:Nat) v,acc[j]?=Δ v->∃t,v=.int (lo+j*1) t)->aU (Cs lo n) acc:=by
 intro acc n hl h
 suffices ∀(k:Nat) (ij:List Value),ij.length+k=n->(∀(j:Nat) v,ij[j]?=Δ v->∃t,v=.int (lo+((k+j:Nat):Int)) t)->aU ((List.range' k ij.length).map λi=>V.int (lo+(i:Nat))) ij by
  have q:=this 0 acc ?D λj v hj=>by obtain⟨t,e⟩:=h j v hj;exact⟨t,by rw[e];congr 1<;>simp⟩
  unfold Cs;rw[List.range_eq_range',<-hl];exact q
 intro k ij;induction ij generalizing k with
 |nil=>intro _ _;exact .nil|cons x xs ih=>
  intro hn hx;rw[YA,List.range'_succ,Yx];refine .cons ?_ ?_;·obtain⟨t,e⟩:=hx 0 x rfl;exact⟨t,by rw[e];simp⟩
  ·refine ih (k+1) (by rw[YA] at hn;lia) λj v hj=>?_;obtain⟨t,e⟩:=hx (j+1) v ?Zm;exact⟨t,by rw[e];congr 1;lia⟩
theorem v8(hc:X.calm=Λ):g8 X (.type "list") (λxs H Q=>∃p lo hi,xs=[.ref p]/\H p=Δ (.fR lo hi)/\(-(2 ^ 62)<=lo/\lo < 2 ^ 62/\ -(2 ^ 62)<=hi/\hi < 2 ^ 62)/\(hi - lo).toNat<=YQ/\
  ∀l,H l=Θ->Q (.ref l) (upd H l (.lst (Cs lo (hi - lo).toNat)))):=by
 intro η s σ H xs us Q I r h;obtain⟨p,lo,hi,rfl,hp,⟨h1,h2,h3,h4⟩,hz,q⟩:=h;obtain⟨u,rfl,rx⟩:=vals1 r;cases rx;obtain⟨t,u,v,e⟩:=(show bL X.prog X.w H s.heap p (.fR lo hi) from I.aL p _ hp);refine call_list_range (n:=(hi - lo).toNat) (I.ok.hd hc) (show IsRange s.heap p lo hi 1 t u v from e) (small_one h1 h2 h3 h4) (by rw[rangeSize_one];split<;>lia) (by rw[ZV] at hz;lia) λh' tk ij c' hk hS xf=>?_;obtain⟨i1,i2⟩:=xf;have hv:aU (Cs lo (hi - lo).toNat) ij.toList:=GW (by rw[aa6];exact i1) λj v hj=>i2 j v ?Zm;have hlen:=hv.length;refine⟨.ref ?C,_,I.laid (a:=?C) (o:=.lst (Cs lo (hi - lo).toNat)) (t':=tk) hk (Yt _) ⟨by unfold Cs;rw[Yr,YN];exact hz,ij.toList,c',hv,by simpa using hS⟩,rfl,q _ ?QW⟩
theorem Ct l items n d sl u(fm:¬items.isEmpty=Λ)(hz:items.size*3<=1000000):
  Meets (aci.«tuple.__mul__» ⟨[.ref l,.int 3 u],[]⟩) (λ_ R s=>s.heap.get? l=Δ {cls:=.type "tuple",dict:=d,data:=.seq items n,slots:=sl}/\
   R (.ok (.ret (YW ?C))) {s with heap:=s.heap.push {cls:=abc "tuple",data:=Data.seq (#[]++items++items++items)},toks:=s.toks}):=
 .of_wp λprog w A R s h=>by
  obtain⟨hp,g,dr,tk,os⟩:=s;obtain⟨hl,h⟩:=h;have f1:=ac3;have h1:¬((items.size:Int)*3 > (2 ^ 63 - 1) / 8):=by lia
  have h2:¬ZR ((items.size:Int)*3)=Λ:=by
   unfold ZR;simp[YQ]
   lia
  have h3:(items.isEmpty||(3:Int)==1)=Ξ:=by simpa using fm
  have h4:((3:Int)<=0||items.isEmpty)=Ξ:=by simpa using fm
  wp_walk using ZZ hl
  rw[if_neg h1];show wpAny _ _ (if ZR ((items.size:Int)*3)=Λ then _ else _) _ _ _;rw[if_neg h2];have hsz:sizeOk (.seq (acB (λx1 x2=>x1++x2) #[] (ZO (ac1 3) items))):=by
   show(acB (λx1 x2=>x1++x2) #[] (ZO (ac1 3) items)).size<=YQ;show(#[]++items++items++items).size<=YQ;simp[YQ]
   lia
  show wpAny _ _ (aa4 (acB (λx1 x2=>x1++x2) #[] (ZO (ac1 3) items)) >>=λv=>ret v) _ _ _;exact Yo (m:=aa4 _) (aaT (YI ⟨_,rfl,h⟩) hsz)
def Md:R2:=λx y H Q=>∃a xs,x=.ref a/\y=.int 3/\H a=Δ ?QE/\xs≠[]/\?Q<=100000/\∀p,H p=Θ->Q (.ref p) (upd H p (.tup (xs++xs++xs)))
theorem GX:kK X (aaK .Mult) Md:=by
 intro η s σ H x y v u Q I rx ry h;obtain⟨a,xs,rfl,rfl,ha,fm,hz,q⟩:=h;cases rx;obtain⟨t,rfl⟩:=ry;obtain⟨its,r,ht,Rl⟩:=I.tuple (fS.of ha);have hl:=r.length;obtain⟨⟨cls,dd,data,sl⟩,ho,hc,n,hd⟩:=id ht;simp only at hc hd;subst hc hd;have yy:¬its.toArray.isEmpty=Λ:=by
  intro z;have:its=[]:=by simpa using z
  exact fm (r.ot.mp this)
 refine abB (T:="tuple") (U:="int") ?T ⟨_,ho,rfl⟩ (λs'=>aca s' 3 t) gc ab6 aam kj PySem.F.slot_int_index.lookup
  (abJ aam (aca s 3 t) abZ (abS _ _) (iD 3 t a ?Qh n dd sl)
   ⟨ho,rfl,⟨_,ho,rfl⟩,abJ abX ⟨_,ho,rfl⟩ abQ (abE _ _)
    (Ct a ?Qh n dd sl t yy (by rw[YC];lia)) ⟨ho,?_⟩⟩)
 refine⟨.ref ?C,_,I.laid (t':=s.toks) (o:=.tup (xs++xs++xs)) (λb ob q=>Yl _ q) (Yt _) ?_,rfl,q _ ?QW⟩;refine⟨by rw[YF,YF,ZV];lia,its++its++its,(r.append r).append r,?_⟩;have e:(#[]++?Qh++?Qh++its.toArray:Array Value)=(its++its++its).toArray:=by simp
 rw[e];exact IsTup.new _ _
theorem Cu l items n d sl u:
  Meets (aci.«tuple.__mul__» ⟨[.ref l,.int 1 u],[]⟩) (λ_ R s=>s.heap.get? l=Δ {cls:=.type "tuple",dict:=d,data:=.seq items n,slots:=sl}/\R (.ok (.ret (YW l))) s):=
 .of_wp λprog w A R s h=>by
  obtain⟨hp,g,dr,tk,os⟩:=s;obtain⟨hl,h⟩:=h;have f1:=ac3;have h3:(items.isEmpty||(1:Int)==1)=Λ:=by simp
  wp_walk using ZZ hl
  all_goals exact⟨_,rfl,h⟩
def Me:R2:=λx y H Q=>∃a xs,x=.ref a/\y=.int 1/\H a=Δ ?QE/\Q ?QT H
theorem GY:kK X (aaK .Mult) Me:=by
 intro η s σ H x y v u Q I rx ry h;obtain⟨a,xs,rfl,rfl,ha,q⟩:=h;cases rx;obtain⟨t,rfl⟩:=ry;obtain⟨its,r,ht,Rl⟩:=I.tuple (fS.of ha);obtain⟨⟨cls,dd,data,sl⟩,ho,hc,n,hd⟩:=id ht;simp only at hc hd;subst hc hd;refine abB (T:="tuple") (U:="int") ?T ⟨_,ho,rfl⟩ (λs'=>aca s' 1 t) gc ab6 aam kj PySem.F.slot_int_index.lookup
  (abJ aam (aca s 1 t) abZ (abS _ _) (iD 1 t a ?Qh n dd sl)
   ⟨ho,rfl,⟨_,ho,rfl⟩,abJ abX ⟨_,ho,rfl⟩ abQ (abE _ _)
    (Cu a ?Qh n dd sl t) ⟨ho,?_⟩⟩)
 exact⟨.ref a,H,I,rfl,q⟩
end
end L2
namespace L2
open PySem PySem.Spec PyProof.Rows
section
variable{X:Cx}{elt iter tg:Expr}{ifs:List Expr}{sc:Scope}{pos:Pos}{N:List Str}{ts:Nat}{js:List Nat}{wi:TI}{g:TG}{tc:TT}{te:TE}
theorem ni(hc:X.calm=Λ)(B:ki X N ts js sc)(hi:PI X tg iter wi)(hg:∀η fp C s H,PG (mE X η N sc fp C s H) tg g)(ht:∀η fp C s H,GU (mE X η N sc fp C s H) ifs tc)(he:∀η fp C s H,PE (mE X η N sc fp C s H) elt te)(hs:∀x,acE iter X.env x=pure x)(hsw:X.Ok->abu ?QI (Δ (.Name y py)) V8.line X.env=pure Λ)(hgt:PG X (.Name y py) gt):
  PS X (.Assign [.Name y py] ?QI V8) (λD σ H=>xc wi g tc te ts js σ H λv H1=>gt v σ H1 D.nx):=by
 intro η s σ H D I h;rw[exec_Assign_Name_used _ _ _ _ (hsw I.ok)];refine Yo (adx (Yo ?_));show wpAny _ X.A (do let _<-comprehension ?QI sc X.env _ (newList []) Ξ (eval iter X.env) (Δ (adY (.Name y py) X.env))) _ _ s;refine Yo (Z5 (wpAny_comprehension_free (use:=Δ (adY (.Name y py) X.env)) (Q:=λ_ s'=>SP X η D .next s') rfl hs (t7 (B.cl I.ok)) B.kind B.names
  (bW (hi η s σ H _ I h) λv s1 h1=>bW h1 λUa s2 h2=>?_)) (λ_ s' hq=>YI (YI hq)) λ_ _ e=>e)
 obtain⟨it,fp,tn,J,H2,e,I2,T,st2,f2,sR⟩:=h2;subst e;have EZ:H2 ?Qq=Θ:=I2.aL.fresh (Yt _);obtain⟨W,⟨m0,w0⟩,turn⟩:=sR ?Qq EZ;refine aaT (abo B.eR (by intro y hy;simp at hy) (λdB Cn Co=>?_) B.kind);obtain⟨s3,J5⟩:∃s3:YG,({s2 with heap:=s2.heap.push {cls:=.type "list",dict:=Θ,data:=.seq ([]:List Value).toArray}}:YG)=s3:=⟨_,rfl⟩;have e3:s3.heap=s2.heap.push {cls:=.type "list",dict:=Θ,data:=.seq ([]:List Value).toArray}:=by rw[<-J5]
 have Cp:dB.Ns s3.heap.objs.size λx=>([]:List (Str×Value)).reverse.lookup x:=by rw[e3];exact Cn
 have Cq:aaZ s3.heap.objs.size (s3.heap.push {cls:=.type (if(Δ X.env).isSome then "dict" else "frame"),data:=.dict #[]}) dB:=by rw[e3];exact Co
 have I3:Inv X η σ (upd H2 ?Qq (.lst [])) s3:=by rw[<-J5];exact I2.laid (t':=s2.toks) (λb u e=>Yl _ e) (Yt _) ⟨Zr _,[],0,.nil,YD _ rfl⟩
 have Rh:∀b∈fp,b < s2.heap.objs.size:=λb hb=>by obtain⟨o,e,_⟩:=T.obj _ _ st2 b hb;exact YE e
 have f3:∀b∈fp,m9 X η (upd H2 ?Qq (.lst [])) b:=λb hb=>⟨by rw[ax (YZ (Rh b hb))];exact(f2 b hb).1,(f2 b hb).2⟩;have VY:?Qq < s3.heap.objs.size:=by rw[e3,ZQ];exact Z7 _
 have Ri:∀b∈fp,b < s3.heap.objs.size:=λb hb=>ab0 (Rh b hb) VY;have k1:∀b o,s3.heap.get? b=Δ o->dB.get? b=Δ o:=λb o e=>Cq.extBut b o (YZ (YE e)) (Yl _ e);have IB:=I3.block (tk:=s3.toks+([]:List (Str×Value)).length) (N:=N) B f3 Ri Cp k1;have mN:tn 0 dB:=T.keep _ _ _ st2 λb hb o e=>k1 b o (by rw[e3];exact Yl _ e);have tN:∀{H':Hp},(∀b∈fp,H' b=Θ)->∀b∈fp,m9 ?H [] H' b:=λhn b hb=>⟨hn b hb,YZ (Ri b hb),I3.VW (f3 b hb),.inl hb,λx c h=>(f3 b hb).2.2.2.2.1 x c (B.get I3.ok h),λp hp=>(f3 b hb).2.2.2.2.2 p (by simpa[mE] using hp)⟩;have loop:ach ?G X.A (.compLoop ?QI 0 (.ref it) (.ref ?Qq) (compEnvC sc (dI X.env sc.names []) s3.heap.objs.size X.env))
   (compPost ?G X.A X.xe (Δ (adY (.Name y py) X.env)) (λ_ s'=>SP X η D .next s') (.ref ?Qq) s3.heap.objs.size) {s3 with heap:=dB,toks:=s3.toks+([]:List (Str×Value)).length}:=by
  refine xb (λn s'=>∃i τ H',Inv ?H [] τ H' s'/\tn i s'.heap/\(∀b∈fp,H' b=Θ)/\W i n τ H') ?_ m0
   ⟨0,jj ts js σ,_,IB,mN,λb hb=>(f3 b hb).1,w0⟩
  rintro n s5 ⟨i,τ,H5,I5,B1,M3,w5⟩;rcases turn i n τ H5 w5 with ⟨stop,qn⟩|⟨go,step⟩
  ·refine bW (T.done ?H rfl rfl rfl hc i [] s5 τ H5 (λ_ _=>False) I5 (tN M3) B1 stop) λr s6 ⟨hr,I6⟩=>?_;subst hr;obtain⟨m,hn,_⟩:=I6.loc;have IO:Inv X η σ H5 s6:=I3.Ah (h'':=s6.heap) f3 I6 ⟨rfl,λ_ _=>rfl⟩;have fC:m9 X η H5 s3.heap.objs.size:=I3.ym (Yt _) I6.free;obtain⟨oC,esC,epC,eC,dC,rC⟩:=id hn;have IOp:=IO.pinned (fp:=[s3.heap.objs.size]) (λb hb=>by rw[Zt.mp hb];exact fC) λb hb=>by rw[Zt.mp hb];exact⟨oC,eC,λv z=>by rw[dC] at z;cases z⟩
   refine bW (hgt _ s6 σ H5 (.ref ?Qq) (.ref ?Qq) D.nx IOp rfl qn) λ_ s8 ⟨σ8,H8,I8,q8⟩=>?_;obtain⟨pC,fC8,_⟩:=I8.pin (s3.heap.objs.size,oC) (YS _ (YS _ (eQ ?E eC)));refine⟨m,hn.at' λo e=>?_,λh' t8=>⟨σ8,H8,?_,q8⟩⟩;·rw[eC] at e;cases e;exact pC
   ·exact(I8.jE).turned (it:=s3.heap.objs.size) (t':=s8.toks) (λb o hb e=>t8.extBut b o hb e) fC8 fC.2.1 fC.2.2.2.1 fC.2.2.2.2.1 fC.2.2.2.2.2
  ·refine bW (T.item ?H rfl rfl rfl hc i [] s5 τ H5 (λ_ _=>False) I5 (tN M3) B1 go) λr s6 ⟨u,hr,h6⟩=>?_;subst hr;refine bW h6 λ_ s7 ⟨x,H7,I7,r7,y7,Nv,VZ⟩=>?_;have V0:=I7.pinned (tN VZ) (T.obj _ _ Nv);refine bW (hg _ _ _ _ _ _ s7 τ H7 x u _ V0 r7 (step x H7 y7)) λ_ s8 ⟨J6,H8,I8,q8⟩=>?_;refine bW (ht _ _ _ _ _ _ s8 J6 H8 _ I8 q8) λok s9 ⟨H9,I9,q9⟩=>?_;have again:∀{s':YG} {J7:St} {H':Hp},Inv ?H ([]++pY fp s7.heap) J7 H' s'->(∃m',m' < n/\W (i+1) m' J7 H')->
     ∃m,m < n/\∃i τ H',Inv ?H [] τ H' s'/\tn i s'.heap/\(∀b∈fp,H' b=Θ)/\W i m τ H':=λ{s' J7 H'} I' ⟨m',hm,w'⟩=>by
    refine⟨m',hm,i+1,J7,H',I'.jE,T.keep _ _ _ Nv λb hb o e=>(I'.pin (b,o) (YS _ (YS _ (eQ hb e)))).1,λb hb=>?_,w'⟩;obtain⟨o,e,d⟩:=T.obj _ _ Nv b hb;exact(I'.pin (b,o) (YS _ (YS _ (eQ hb e)))).2.1
   cases ok with|false=>exact again I9 q9|true=>refine bW (he _ _ _ _ _ _ s9 J6 H9 _ I9 q9) λxv Rj ⟨y,V1,V2,V3,ys,ha,hz,V4⟩=>?_;refine bW (p6 _ Rj J6 V1 (.ref ?Qq) [y] (.ref ?Qq) [xv] (λ_ H'=>∃m',m' < n/\W (i+1) m' J6 H') V2 rfl (.cons V3 .nil) ⟨_,ys,y,rfl,rfl,ha,hz,V4⟩) λ_ s11 ⟨_,H11,V5,_,V6⟩=>?_;exact again V5 V6
 subst J5;exact codeAny_compStart_list loop (T.self _ 0 _ _ _ mN loop)
end
section
variable{prog:Zm}{w:World}{A:ZS}{E:Value->YG->Prop}{s:YG}
theorem oE{items}(hit:s.heap.IsTupleIter it t i)(ht:s.heap.IsTuple t items)(hx:items[i]?=Δ x)(hQ:∀h',h'.IsTupleIter it t (i+1)->aaZ it s.heap h'->Q x {s with heap:=h'}):
  wpAny ?Qe A (Y3 (.ref it)) Q E s:=by
 obtain⟨o,ho,hc,hd⟩:=id hit;obtain⟨ol,V9,_,nl,Ro⟩:=ht;unfold Y3;refine Yo (ZL (name:=Zw "__next__") hit.typeIs aac
  (aaq aac hit.typeIs PySem.F.entry_tuple_iterator_next ?_ (PySem.F.args_tuple_iterator_next_1 _)))
 show wpAny _ _ (field (.ref it) 0 >>=_) _ _ s;refine Yo (Z6 ho hd (x:=.ref t) rfl ?_);show wpAny _ _ (if(YW t==aar)=Λ then _ else _) _ _ s;rw[if_neg (show ¬((YW t==aar)=Λ) from Zh)];show wpAny _ _ (field (.ref it) 1 >>=_) _ _ s;refine Yo (Z6 ho hd (x:=.int i 0) rfl ?_);show wpAny _ _ (seqItems? (.ref t) >>=_) _ _ s;refine Yo (aav V9 Ro ?_);simp only[Int.toNat_natCast,hx];refine Yo (wpAny_setField ho hd ?E (YI ⟨x,rfl,YI (hQ _ ?_ (aaZ.update ..))⟩));exact⟨_,aan _ ho (Obj.isFreed_of_fields (Obj.data_mapFields hd _)),(Obj.cls_mapFields ..).trans hc,by rw[Obj.data_mapFields hd];simp[aaw]⟩
theorem jG{items}(hh:A.handled=Θ)(hit:s.heap.IsTupleIter it t i)(ht:s.heap.IsTuple t items)(hx:items[i]?=Θ)(hE:∀h' e,Heap.ExtBut it s.heap h'->(∃o,h'.get? e=Δ o/\o.cls=.type "StopIteration")->E (.ref e) {s with heap:=h'}):
  wpAny ?Qe A (Y3 (.ref it)) Q E s:=by
 obtain⟨o,ho,hc,hd⟩:=id hit;obtain⟨ol,V9,_,nl,Ro⟩:=ht;unfold Y3;refine Yo (ZL (name:=Zw "__next__") hit.typeIs aac
  (aaq aac hit.typeIs PySem.F.entry_tuple_iterator_next ?_ (PySem.F.args_tuple_iterator_next_1 _)))
 show wpAny _ _ (field (.ref it) 0 >>=_) _ _ s;refine Yo (Z6 ho hd (x:=.ref t) rfl ?_);show wpAny _ _ (if(YW t==aar)=Λ then _ else _) _ _ s;rw[if_neg (show ¬((YW t==aar)=Λ) from Zh)];show wpAny _ _ (field (.ref it) 1 >>=_) _ _ s;refine Yo (Z6 ho hd (x:=.int i 0) rfl ?_);show wpAny _ _ (seqItems? (.ref t) >>=_) _ _ s;refine Yo (aav V9 Ro ?_);simp only[Int.toNat_natCast,hx];refine Yo (adC (Yo (wpAny_setField ho hd ?E ?_)));show wpAny _ _ (newExc (.type "StopIteration") [] >>=_) _ _ _;refine Yo ?_;simp only[newExc,newTuple];refine Yo (aaT ?_ (by size_fits));refine Yo (m:=firstArgMember _ _) (wpAny_of_eq (a:=aar) (by first|rfl|(simp only[firstArgMember];rfl)) ?_);refine aaT ?_ (by size_fits);simp only[raiseNew];refine Yo (wpAny_handled ?_);first|rw[show A.in1.handled=Θ from hh]|rw[hh]
 refine Yo (YI (wpAny_throw ?_));exact hE _ _ (((aaZ.update ..).extBut.push _).push _) ⟨_,YD _ rfl,rfl⟩
end
theorem lg{prog:Zm}{w:World}{A:ZS}(hh:A.handled=Θ)(it l:Addr)(fm:l≠it)(items:Array Value):
  Draws prog w A it [it,l] items.size (λi v=>items[i]?=Δ v) (λi h=>h.IsTupleIter it l i/\h.IsTuple l items) where
 live:=λ_ _ st=>let ⟨o,ho,_⟩:=st.1;⟨o,ho⟩
 frame:=λ_ _ _ st hk=>⟨st.1.at λo e=>hk it ?E o e,let ⟨o,ho,r⟩:=st.2;⟨o,hk l ?E o ho,r⟩⟩
 item:=λi s Q E hi st hQ=>by refine oE st.1 st.2 (x:=items[i]) (by simp[hi]) λh' Wa t8=>?_;exact hQ _ h' s.toks (by simp[hi]) ⟨Wa,st.2.extBut t8.extBut fm⟩ t8
 done:=λs Q E st hE=>jG hh st.1 st.2 ?E hE
abbrev zM(h:Heap)(z TI TO:Addr)(f0 f1:Value):Prop:=
 h.get? z=Δ {cls:=.type "zip",dict:=Θ,data:=.fields #[f0,f1,.bool Ξ,.ref TI,.ref TO],slots:=#[]}
noncomputable def ZF(f0 f1:Value):Prop:=(f0=.none\/∃(T:Int) (t:Tok),f0=.int T t)/\∃b,f1=.bool b
structure Ka(z TI TO i1 i2:Addr)(p9 qa:List Addr):Prop where
 TIz:TI≠z
 TOz:TO≠z
 i1z:i1≠z
 i2z:i2≠z
 TITO:TI≠TO
 TIi1:TI≠i1
 TIi2:TI≠i2
 TOi1:TO≠i1
 TOi2:TO≠i2
 i12:i1≠i2
 z1:z∉p9
 z2:z∉qa
 T1:TO∉p9
 T2:TO∉qa
 x1:i2∉p9
 x2:i1∉qa
section
variable{prog:Zm}{w:World}{A:ZS}{E:Value->YG->Prop}{s:YG}{z TI TO i1 i2:Addr}{p9 qa:List Addr}{n1 n2:Nat}{P1 P2:Nat->Value->Prop}{v9 wa:Nat->Heap->Prop}
theorem Aj(h:Q (s.heap.get? a) s):wpAny M A (loadIfAlive a) Q E s:=λΓ p _=>by unfold loadIfAlive;rw[Sem.wp_loadIfAlive];exact YI (M:=M) (A:=A) (E:=E) (Q:=Q) h Γ p (by assumption)
theorem Mf(hf:ZF f0 f1)(hz:zM s.heap z TI TO f0 f1)(h1:Q Λ s)(h2:∀h',zM h' z TI TO f0 (.bool Λ)->aaZ z s.heap h'->Q Ξ {s with heap:=h'}):
  wpAny ?Qe A (ZY (.ref z)) Q E s:=by
 unfold ZY;refine Yo (Z6 hz rfl (x:=f0) rfl ?_);obtain⟨hf0,b,rfl⟩:=hf;rcases hf0 with rfl|⟨T,t,rfl⟩;·exact YI h1
 ·dsimp only;refine Yo (Aj ?_);cases s.heap.get? T.toNat with|none=>exact YI h1|some o=>show wpAny _ _ (field (.ref z) 1 >>=_) _ _ _;refine Yo (Z6 hz rfl (x:=.bool b) rfl ?_);cases b with|true=>exact YI (h2 s.heap hz ⟨rfl,λ_ _=>rfl⟩)|false=>show wpAny _ _ (setField (.ref z) 1 (.bool Λ) >>=_) _ _ _;exact Yo (aap hz ?E λdB jH dQ=>YI (h2 dB jH dQ))
theorem GZ(D1:Draws prog w A i1 p9 n1 P1 v9)(D2:Draws prog w A i2 qa n2 P2 wa)(ap:Ka z TI TO i1 i2 p9 qa){Q:Value->YG->Prop}(hf:ZF f0 f1)(hz:zM s.heap z TI TO f0 f1)(Ny:aaM s.heap TI (.ref i1) (.ref i2))(Mg:aaM s.heap TO a b)(wb:k < n1)(wc:k < n2)(h1:v9 k s.heap)(h2:wa k s.heap)(hQ:∀h' tk T x y f0 f1 a b,ZF f0 f1->zM h' z TI TO f0 f1->aaM h' TO a b->v9 (k+1) h'->wa (k+1) h'->P1 k x->P2 k y->?C<=T->aaM h' T x y->
   ?QH->Q (.ref T) {s with heap:=h',toks:=tk}):
  wpAny ?Qe A (aci.«zip.__next__» ⟨[.ref z],[]⟩) (λfin s'=>∃v,fin=.done (.ret v)/\Q v s') E s:=by
 show wpAny _ _ (field (.ref z) 2 >>=_) _ _ _;refine Yo (Z6 hz rfl (x:=.bool Ξ) rfl ?_);show wpAny _ _ (field (.ref z) 3 >>=_) _ _ _;refine Yo (Z6 hz rfl (x:=.ref TI) rfl ?_);refine Yo (aav Ny rfl ?_);show wpAny _ _ (ZY (.ref z) >>=_) _ _ _;refine Yo (Mf hf hz ?_ ?_)
 ·simp only[if_true];refine Yo (adC ?_);refine Yo (Z6 hz rfl (x:=.ref TO) rfl ?_);refine Yo (aap hz ?E λdB jH dQ=>?_);replace jH:zM dB z TI TO .ellipsis f1:=jH;refine Yo ?_;simp only[acX,List.zipIdx_nil,aaQ,abr];refine Yo (Yo (acM ?_));show wpAny _ _ (Y3 (.ref i1) >>=_) _ _ _;refine Yo (D1.item k _ _ _ wb (D1.frame k _ dB h1 λc hc o e=>dQ.extBut _ _ (λx=>ap.z1 (x▸hc)) e) λx k9 Rp px Ak dR=>YI ?_);have t9:aaM k9 TO a b:=dR.extBut _ _ ap.TOi1 (dQ.extBut _ _ ap.TOz Mg);refine Yo (aav t9 rfl ?_);refine Yo (acj t9 λjz yB fU=>?_);replace yB:aaM jz TO x b:=yB;refine Yo (acD (YI ?_));refine Yo (Yo (acM ?_));show wpAny _ _ (Y3 (.ref i2) >>=_) _ _ _;have k3:∀c o,c≠z->c≠TO->c≠i1->s.heap.get? c=Δ o->jz.get? c=Δ o:=λc o c1 c2 c3 e=>fU.extBut _ _ c2 (dR.extBut _ _ c3 (dQ.extBut _ _ c1 e));refine Yo (D2.item k _ _ _ wc (D2.frame k _ jz h2 λc hc o e=>k3 c o (λx=>ap.z2 (x▸hc)) (λx=>ap.T2 (x▸hc)) (λx=>ap.x2 (x▸hc)) e) λy EX tk4 py Rq rn=>YI ?_);have G0:aaM EX TO x b:=rn.extBut _ _ ap.TOi2 yB;refine Yo (aav G0 rfl ?_);refine Yo (acj G0 λmC yC rA=>?_);replace yC:aaM mC TO x y:=yC;refine Yo (acD (YI (YI ?_)));refine Yo (aav yC rfl ?_);refine Yo (wpAny_newTuple ?_);have hsz:mC.objs.size=s.heap.objs.size:=by rw[rA.1,rn.1,fU.1,dR.1,dQ.1]
  have Mh:zM mC z TI TO .ellipsis f1:=rA.extBut _ _ ap.TOz.symm (rn.extBut _ _ ap.i2z.symm (fU.extBut _ _ ap.TOz.symm (dR.extBut _ _ ap.i1z.symm jH)));have Rr:∀c o,c≠z->c≠TO->c≠i1->c≠i2->s.heap.get? c=Δ o->mC.get? c=Δ o:=λc o c1 c2 c3 c4 e=>rA.extBut _ _ c2 (rn.extBut _ _ c4 (k3 c o c1 c2 c3 e));have Rt:z < mC.objs.size:=YE Mh;show wpAny _ _ (aci.SmallTypes.ownedTupleHandOut (.ref z) (.ref mC.objs.size) >>=_) _ _ _;refine Yo ?_;unfold aci.SmallTypes.ownedTupleHandOut;have Ru:zM (mC.push {cls:=.type "tuple",data:=.seq #[x,y]}) z TI TO .ellipsis f1:=Yl _ Mh;refine Yo (aap Ru ?E λWb G1 Mi=>?_);replace G1:zM Wb z TI TO (aaw mC.objs.size) f1:=G1;refine aap G1 ?E λE2 G3 Mj=>?_;replace G3:zM E2 z TI TO (aaw mC.objs.size) (.bool Ξ):=G3;have up:∀c o,c≠z->mC.get? c=Δ o->E2.get? c=Δ o:=λc o c1 e=>Mj.extBut _ _ c1 (Mi.extBut _ _ c1 (Yl _ e));have Rv:aaM E2 mC.objs.size x y:=Mj.extBut _ _ (Zx Rt) (Mi.extBut _ _ (Zx Rt) (YD _ rfl));refine YI ⟨_,rfl,?_⟩;refine hQ E2 _ mC.objs.size x y _ _ x y ⟨.inr ⟨_,_,rfl⟩,Ξ,rfl⟩ G3 (up _ _ ap.TOz yC) (D1.frame _ k9 E2 Ak λc hc o e=>?_) (D2.frame _ EX E2 Rq λc hc o e=>?_) px py (by rw[hsz];exact Yt _) Rv λc o c1 c2 c3 c4 e=>up c o c1 (Rr c o c1 c2 c3 c4 e);·exact up c o (λx=>ap.z1 (x▸hc)) (rA.extBut _ _ (λx=>ap.T1 (x▸hc)) (rn.extBut _ _ (λx=>ap.x1 (x▸hc)) (fU.extBut _ _ (λx=>ap.T1 (x▸hc)) e)))
  ·exact up c o (λx=>ap.z2 (x▸hc)) (rA.extBut _ _ (λx=>ap.T2 (x▸hc)) e)
 ·intro dB jH dQ;simp only[Y7,if_false,List.forIn_toArray,aaQ,abr];refine Yo ?_;refine Yo ?_;refine Yo ?_;refine abD ?_;show wpAny _ _ (Y3 (.ref i1) >>=_) _ _ _;refine Yo (D1.item k _ _ _ wb (D1.frame k _ dB h1 λc hc o e=>dQ.extBut _ _ (λx=>ap.z1 (x▸hc)) e) λx k9 Rp px Ak dR=>YI ?_);refine YI ?_;refine Yo ?_;refine Yo ?_;refine abD ?_;show wpAny _ _ (Y3 (.ref i2) >>=_) _ _ _;refine Yo (D2.item k _ _ _ wc (D2.frame k _ k9 h2 λc hc o e=>dR.extBut _ _ (λx=>ap.x2 (x▸hc)) (dQ.extBut _ _ (λx=>ap.z2 (x▸hc)) e)) λy jz tk3 py Rw fU=>YI ?_);refine YI ?_;refine YI ?_;show wpAny _ _ (newTuple [x,y] >>=_) _ _ _;refine Yo (wpAny_newTuple (items:=[x,y]) ?_);have hsz:jz.objs.size=s.heap.objs.size:=by rw[fU.1,dR.1,dQ.1]
  have up:∀c o,jz.get? c=Δ o->(jz.push {cls:=.type "tuple",data:=.seq #[x,y]}).get? c=Δ o:=λc o e=>Yl _ e;refine YI ⟨_,rfl,?_⟩;refine hQ _ _ jz.objs.size x y f0 (.bool Λ) a b ⟨hf.1,Λ,rfl⟩ (up _ _ (fU.extBut _ _ ap.i2z.symm (dR.extBut _ _ ap.i1z.symm jH))) (up _ _ (fU.extBut _ _ ap.TOi2 (dR.extBut _ _ ap.TOi1 (dQ.extBut _ _ ap.TOz Mg))))
   (D1.frame _ k9 _ Ak λc hc o e=>up _ _ (fU.extBut _ _ (λx=>ap.x1 (x▸hc)) e)) (D2.frame _ jz _ Rw λc hc o e=>up _ _ e) px py (by rw[hsz];exact Yt _) (YD _ rfl) λc o c1 c2 c3 c4 e=>up _ _ (fU.extBut _ _ c4 (dR.extBut _ _ c3 (dQ.extBut _ _ c1 e)))
theorem G4(D1:Draws prog w A i1 p9 n1 P1 v9)(D2:Draws prog w A i2 qa n2 P2 wa)(ap:Ka z TI TO i1 i2 p9 qa)(hf:ZF f0 f1)(hz:zM s.heap z TI TO f0 f1)(Ny:aaM s.heap TI (.ref i1) (.ref i2))(Mg:aaM s.heap TO a b)(hk:k=n1\/(k < n1/\k=n2))(h1:v9 k s.heap)(h2:wa k s.heap)(hE:∀h' tk e,?QH->(∃o,h'.get? e=Δ o/\o.cls=.type "StopIteration")->E (.ref e) {s with heap:=h',toks:=tk}):
  wpAny ?Qe A (aci.«zip.__next__» ⟨[.ref z],[]⟩) Q E s:=by
 show wpAny _ _ (field (.ref z) 2 >>=_) _ _ _;refine Yo (Z6 hz rfl (x:=.bool Ξ) rfl ?_);show wpAny _ _ (field (.ref z) 3 >>=_) _ _ _;refine Yo (Z6 hz rfl (x:=.ref TI) rfl ?_);refine Yo (aav Ny rfl ?_);show wpAny _ _ (ZY (.ref z) >>=_) _ _ _;refine Yo (Mf hf hz ?_ ?_)
 ·simp only[if_true];refine Yo (adC ?_);refine Yo (Z6 hz rfl (x:=.ref TO) rfl ?_);refine Yo (aap hz ?E λdB jH dQ=>?_);replace jH:zM dB z TI TO .ellipsis f1:=jH;refine Yo ?_;simp only[acX,List.zipIdx_nil,aaQ,abr];refine Yo (Yo (acM ?_));show wpAny _ _ (Y3 (.ref i1) >>=_) _ _ _;have Al:=D1.frame k _ dB h1 λc hc o e=>dQ.extBut _ _ (λx=>ap.z1 (x▸hc)) e;rcases hk with rfl|⟨hk,rfl⟩
  ·refine Yo (D1.done _ _ _ Al λk9 e dR he=>?_);obtain⟨oe,Nz,Rx⟩:=he;have Ml:zM k9 z TI TO .ellipsis f1:=dR _ _ ap.i1z.symm jH;have Wc:e≠z:=λx=>by subst x;rw[Ml] at Nz;cases Nz;simp at Rx
   exact aap Ml ?E λjz _ fU=>hE jz s.toks e (λc o c1 _ c3 _ x=>fU.extBut _ _ c1 (dR _ _ c3 (dQ.extBut _ _ c1 x))) ⟨oe,fU.extBut _ _ Wc Nz,Rx⟩
  ·refine Yo (D1.item k _ _ _ hk Al λx k9 Rp px Ak dR=>YI ?_);have t9:aaM k9 TO a b:=dR.extBut _ _ ap.TOi1 (dQ.extBut _ _ ap.TOz Mg);refine Yo (aav t9 rfl ?_);refine Yo (acj t9 λjz yB fU=>?_);refine Yo (acD (YI ?_));refine Yo (Yo (acM ?_));show wpAny _ _ (Y3 (.ref i2) >>=_) _ _ _;have k3:∀c o,c≠z->c≠TO->c≠i1->s.heap.get? c=Δ o->jz.get? c=Δ o:=λc o c1 c2 c3 e=>fU.extBut _ _ c2 (dR.extBut _ _ c3 (dQ.extBut _ _ c1 e));refine Yo (D2.done _ _ _ (D2.frame k _ jz h2 λc hc o e=>k3 c o (λx=>ap.z2 (x▸hc)) (λx=>ap.T2 (x▸hc)) (λx=>ap.x2 (x▸hc)) e) λEX e rn he=>?_);obtain⟨oe,Nz,Rx⟩:=he;have Mm:zM EX z TI TO .ellipsis f1:=rn _ _ ap.i2z.symm (fU.extBut _ _ ap.TOz.symm (dR.extBut _ _ ap.i1z.symm jH));have Wc:e≠z:=λx=>by subst x;rw[Mm] at Nz;cases Nz;simp at Rx
   exact aap Mm ?E λmC _ rA=>hE mC Rp e (λc o c1 c2 c3 c4 x=>rA.extBut _ _ c1 (rn _ _ c4 (k3 c o c1 c2 c3 x))) ⟨oe,rA.extBut _ _ Wc Nz,Rx⟩
 ·intro dB jH dQ;simp only[Y7,if_false,List.forIn_toArray,aaQ,abr];refine Yo ?_;refine Yo ?_;refine Yo ?_;refine abD ?_;show wpAny _ _ (Y3 (.ref i1) >>=_) _ _ _;have Al:=D1.frame k _ dB h1 λc hc o e=>dQ.extBut _ _ (λx=>ap.z1 (x▸hc)) e;rcases hk with rfl|⟨hk,rfl⟩;·exact Yo (D1.done _ _ _ Al λk9 e dR he=>hE k9 s.toks e (λc o c1 _ c3 _ x=>dR _ _ c3 (dQ.extBut _ _ c1 x)) he)
  ·refine Yo (D1.item k _ _ _ hk Al λx k9 Rp px Ak dR=>YI ?_);refine YI ?_;refine Yo ?_;refine Yo ?_;refine abD ?_;show wpAny _ _ (Y3 (.ref i2) >>=_) _ _ _;exact Yo (D2.done _ _ _ (D2.frame k _ k9 h2 λc hc o e=>dR.extBut _ _ (λx=>ap.x2 (x▸hc)) (dQ.extBut _ _ (λx=>ap.z2 (x▸hc)) e)) λjz e fU he=>hE jz Rp e (λc o c1 _ c3 c4 x=>fU _ _ c4 (dR.extBut _ _ c3 (dQ.extBut _ _ c1 x))) he)
theorem rZ(D1:Draws prog w A.in1 i1 p9 n1 P1 v9)(D2:Draws prog w A.in1 i2 qa n2 P2 wa)(ap:Ka z TI TO i1 i2 p9 qa)(hf:ZF f0 f1)(hz:zM s.heap z TI TO f0 f1)(Ny:aaM s.heap TI (.ref i1) (.ref i2))(Mg:aaM s.heap TO a b)(wb:k < n1)(wc:k < n2)(h1:v9 k s.heap)(h2:wa k s.heap)(hQ:∀h' tk T x y f0 f1 a b,ZF f0 f1->zM h' z TI TO f0 f1->aaM h' TO a b->v9 (k+1) h'->wa (k+1) h'->P1 k x->P2 k y->?C<=T->aaM h' T x y->
   ?QH->Q (Δ (.ref T)) {s with heap:=h',toks:=tk}):wpAny ?Qe A (acO (.ref z)) Q E s:=by
 have hT:s.TypeIs (.ref z) "zip":=⟨_,hz,rfl⟩;unfold acO;exact Yo (acN (ZL (name:=Zw "__next__") hT abi
  (aaq abi hT PySem.F.entry_zip_next
   (GZ D1 D2 ap hf hz Ny Mg wb wc h1 h2 λh' tk T x y f0 f1 a b c1 c2 c3 c4 c5 c6 c7 c8 c9 c10=>YI (hQ h' tk T x y f0 f1 a b c1 c2 c3 c4 c5 c6 c7 c8 c9 c10)) (PySem.F.args_zip_next_1 _))))
theorem r6(D1:Draws prog w A.in1 i1 p9 n1 P1 v9)(D2:Draws prog w A.in1 i2 qa n2 P2 wa)(ap:Ka z TI TO i1 i2 p9 qa)(hf:ZF f0 f1)(hz:zM s.heap z TI TO f0 f1)(Ny:aaM s.heap TI (.ref i1) (.ref i2))(Mg:aaM s.heap TO a b)(hk:k=n1\/(k < n1/\k=n2))(h1:v9 k s.heap)(h2:wa k s.heap)(hQ:∀h' tk,?QH->Q Θ {s with heap:=h',toks:=tk}):wpAny ?Qe A (acO (.ref z)) Q E s:=by
 have hT:s.TypeIs (.ref z) "zip":=⟨_,hz,rfl⟩;unfold acO;refine Yo (acN (ZL (name:=Zw "__next__") hT abi
  (aaq abi hT PySem.F.entry_zip_next (G4 D1 D2 ap hf hz Ny Mg hk h1 h2 λh' tk e E3 he=>?_) (PySem.F.args_zip_next_1 _))))
 obtain⟨o,ho,hc⟩:=he;refine Yo (acS (T:="StopIteration") (b:=Λ) ⟨o,ho,hc⟩ adl ?_);exact YI (hQ _ _ E3)
def ZI(z TI TO i1 i2:Addr)(v9 wa:Nat->Heap->Prop)(k:Nat)(h:Heap):Prop:=∃f0 f1 a b,ZF f0 f1/\zM h z TI TO f0 f1/\aaM h TI (.ref i1) (.ref i2)/\aaM h TO a b/\v9 k h/\wa k h
theorem ZI.frame(ap:Ka z TI TO i1 i2 p9 qa)(D1:Draws prog w A i1 p9 n1 P1 v9)(D2:Draws prog w A i2 qa n2 P2 wa)(x:ZI z TI TO i1 i2 v9 wa k h)(hk:∀b,(b=z\/b=TI\/b=TO\/b∈p9\/b∈qa)->∀o,h.get? b=Δ o->h'.get? b=Δ o):ZI z TI TO i1 i2 v9 wa k h':=by obtain⟨f0,f1,a,b,c1,c2,c3,c4,c5,c6⟩:=x;exact⟨f0,f1,a,b,c1,hk _ ?QO _ c2,hk _ (.inr ?QO) _ c3,hk _ (.inr (.inr ?QO)) _ c4,D1.frame _ _ _ c5 λb hb=>hk b (.inr (.inr (.inr (.inl hb)))),D2.frame _ _ _ c6 λb hb=>hk b (.inr (.inr (.inr (.inr hb))))⟩
noncomputable def ZP(B:Nat)(bad:List Addr)(P1 P2:Nat->Value->Prop)(acc:Array Value)(k:Nat)(h:Heap):Prop:=acc.size=k/\(∀j v,acc[j]?=Δ v->∃T x y,v=.ref T/\B<=T/\T∉bad/\aaM h T x y/\P1 j x/\P2 j y)/\∀(i j:Nat) (v:Value),acc[i]?=Δ v->acc[j]?=Δ v->i=j
theorem ZP.frame(x:ZP B bad P1 P2 acc k h)(hk:∀b o,b∉bad->h.get? b=Δ o->h'.get? b=Δ o):ZP B bad P1 P2 acc k h':=by refine⟨x.1,λj v hj=>?_,x.2.2⟩;obtain⟨T,a,b,e,c1,c2,c3,c4,c5⟩:=x.2.1 j v hj;exact⟨T,a,b,e,c1,c2,hk _ _ c2 c3,c4,c5⟩
theorem ZP.push(x:ZP B bad P1 P2 acc k h)(c1:B<=T)(c2:T∉bad)(c3:aaM h T a b)(c4:P1 k a)(c5:P2 k b)(c6:∀j:Nat,acc[j]?≠Δ (YW T)):ZP B bad P1 P2 (acc.push (.ref T)) (k+1) h:=by
 refine⟨by rw[Array.size_push,x.1],λj v hj=>?_,λi j v hi hj=>?_⟩
 ·rw[Array.getElem?_push] at hj;split at hj;·rename_i e;rw[x.1] at e;cases hj;exact⟨T,a,b,rfl,c1,c2,c3,by rw[e];exact c4,by rw[e];exact c5⟩
  ·exact x.2.1 j v hj
 ·rw[Array.getElem?_push] at hi hj;split at hi
  ·split at hj
   ·lia
   ·cases hi;exact absurd hj (c6 j)
  ·split at hj;·cases hj;exact absurd hi (c6 i)
   ·exact x.2.2 i j v hi hj
theorem Cv(ap:Ka z TI TO i1 i2 p9 qa)(D1:Draws prog w A.in1.in1 i1 p9 n1 P1 v9)(D2:Draws prog w A.in1.in1 i2 qa n2 P2 wa)(hn:n1<=YQ)(yD:S≠z/\S≠TI/\S≠TO/\S∉p9/\S∉qa)(Ry:i1∈p9)(E4:i2∈qa):
  ∀(m k) (s) (acc) (c),min n1 n2 - k=m->k<=n1->k<=n2->B<=?C->ZI z TI TO i1 i2 v9 wa k s.heap->s.heap.get? S=Δ {cls:=.type "list",dict:=Θ,data:=.seq acc c,slots:=#[]}->
  ZP B [z,TO,i1,i2,S] P1 P2 acc k s.heap->
  (∀h' tk ij c',(∀b o,b∉[z,TO,i1,i2,S]->s.heap.get? b=Δ o->h'.get? b=Δ o)->h'.get? S=Δ {cls:=.type "list",dict:=Θ,data:=.seq ij c',slots:=#[]}->ZP B [z,TO,i1,i2,S] P1 P2 ij (min n1 n2) h'->
   R (.ok (.ret res)) {s with heap:=h',toks:=tk})->
  ach ?Qe A (.builtin "list.extend.loop" ⟨[.ref S,.ref z,res],[]⟩) R s:=by
 have Rz:S≠i1:=λe=>yD.2.2.2.1 (e▸Ry);have RA:S≠i2:=λe=>yD.2.2.2.2 (e▸E4);intro m;induction m with
 |zero=>
  intro k s acc c hm wb wc hB Mn hS fi hR;refine codeAny_builtin PySem.F.entry_extend_loop ?_;rw[ZS.under_plainId aaN _];show wpAny _ A.in1 (acO (.ref z) >>=_) _ _ s;obtain⟨f0,f1,a,b,c1,c2,c3,c4,c5,c6⟩:=Mn;have We:min n1 n2=k:=by lia
  refine Yo (r6 D1 D2 ap c1 c2 c3 c4 (k:=k) ?D c5 c6 λh' tk hk=>YI ?_);refine hR h' tk acc c (λb o hb e=>hk b o (λx=>hb (by simp[x])) (λx=>hb (by simp[x])) (λx=>hb (by simp[x])) (λx=>hb (by simp[x])) e) (hk _ _ yD.1 yD.2.2.1 Rz RA hS) ?_;rw[We];exact fi.frame λb o hb e=>hk b o (λx=>hb (by simp[x])) (λx=>hb (by simp[x])) (λx=>hb (by simp[x])) (λx=>hb (by simp[x])) e
 |succ m ih=>
  intro k s acc c hm wb wc hB Mn hS fi hR;refine codeAny_builtin PySem.F.entry_extend_loop ?_;rw[ZS.under_plainId aaN _];show wpAny _ A.in1 (acO (.ref z) >>=_) _ _ s;obtain⟨f0,f1,a,b,c1,c2,c3,c4,c5,c6⟩:=Mn;refine Yo (rZ D1 D2 ap c1 c2 c3 c4 (k:=k) (YO (abj hm) (abH ..)) (YO (abj hm) (abx ..)) c5 c6 λh' tk T x y g0 g1 a' b' d1 d2 d3 d4 d5 px py hT hp hk=>?_);have kk:∀b o,b∉[z,TO,i1,i2,S]->s.heap.get? b=Δ o->h'.get? b=Δ o:=λb o hb e=>hk b o (λx=>hb (by simp[x])) (λx=>hb (by simp[x])) (λx=>hb (by simp[x])) (λx=>hb (by simp[x])) e;have P4:=hk _ _ yD.1 yD.2.2.1 Rz RA hS;have Wf:=hk _ _ ap.TIz ap.TITO ap.TIi1 ap.TIi2 c3;have lt:∀{b o},s.heap.get? b=Δ o->T≠b:=λe=>Zx (YO (YE e) hT);have RB:T∉[z,TO,i1,i2,S]:=by obtain⟨o1,e1⟩:=D1.live _ _ c5;obtain⟨o2,e2⟩:=D2.live _ _ c6;simp only[aa2,aa9,or_false,not_or];exact⟨lt c2,lt c4,lt e1,lt e2,lt hS⟩
  show wpAny _ A.in1 (adN S (·.push (.ref T)) >>=_) _ _ _;refine Yo ?_;refine acp P4 rfl (YI ⟨plainId_quiet aaN _,ih (k+1) _ (acc.push (.ref T)) _ (by rw[Nat.sub_succ,hm];rfl) (YO (abj hm) (abH ..)) (YO (abj hm) (abx ..)) ?_ ?_ (aan _ P4 rfl) ?_ λh'' tk' ij c' Wg Wh RC=>?_⟩)
   (by rw[fi.1];lia) (by show(acc.push (YW T)).size<=YQ+1;rw[Array.size_push,fi.1];lia)
  ·show B<=(h'.update S _).objs.size;rw[acg];exact Zc hB (Zc hT (aby (YE hp)))
  ·refine ZI.frame ap D1 D2 ⟨g0,g1,a',b',d1,d2,Wf,d3,d4,d5⟩ λb hb o e=>(ZD _ _ (λh:S=b=>?_)).trans e;subst h;rcases hb with h|h|h|h|h;·exact yD.1 h
   ·exact yD.2.1 h
   ·exact yD.2.2.1 h
   ·exact yD.2.2.2.1 h
   ·exact yD.2.2.2.2 h
  ·refine ZP.frame ((fi.frame kk).push (Zc hB hT) RB hp px py λj hj=>by obtain⟨T',_,_,e,_,_,c3',_⟩:=fi.2.1 j _ hj;cases e;exact lt c3' rfl) λb o hb e=>(ZD _ _ (λh:S=b=>hb (by simp[h]))).trans e
  ·refine hR h'' tk' ij c' (λb o hb e=>Wg b o hb ((ZD _ _ (λh:S=b=>hb (by simp[h]))).trans (kk b o hb e))) Wh RC
theorem Cw:adW (.type "zip") "__len__"=pure Θ:=by rw[typeLookup_type,builtinLookup_eq_fast];kernel_rfl
theorem Am:adW (.type "zip") "__length_hint__"=pure Θ:=by rw[typeLookup_type,builtinLookup_eq_fast];kernel_rfl
theorem uc(ap:Ka z TI TO i1 i2 p9 qa)(D1:Draws prog w A.in1.in1 i1 p9 n1 P1 v9)(D2:Draws prog w A.in1.in1 i2 qa n2 P2 wa)(hn:n1<=YQ)(yD:S≠z/\S≠TI/\S≠TO/\S∉p9/\S∉qa)(Ry:i1∈p9)(E4:i2∈qa)(hB:B<=?C)(Mn:ZI z TI TO i1 i2 v9 wa 0 s.heap)(hS:s.heap.get? S=Δ {cls:=.type "list",data:=.seq #[] c₀})(hR:∀h' tk ij c',(∀b o,b∉[z,TO,i1,i2,S]->s.heap.get? b=Δ o->h'.get? b=Δ o)->h'.get? S=Δ {cls:=.type "list",dict:=Θ,data:=.seq ij c',slots:=#[]}->ZP B [z,TO,i1,i2,S] P1 P2 ij (min n1 n2) h'->
   R (.ok (.ret res)) {s with heap:=h',toks:=tk}):
  wpAny ?Qe A.in1 (aaE (.ref S) (.ref z) res)
   (λfin s'=>match fin with|.done f=>R (.ok f) s'|.again c'=>c'.quiet=Λ/\ach ?Qe A c' R s') (λe s'=>R (.error e) s') s:=by
 obtain⟨f0,f1,a,b,c1,c2,c3,c4,c5,c6⟩:=id Mn;have hT:s.TypeIs (.ref z) "zip":=⟨_,c2,rfl⟩;unfold aaE;refine Yo (wpAny_typeOf hT ?_);have h1:aci.List.listSameRef (.ref S) (.ref z)=Ξ:=by simp[aci.List.listSameRef,yD.1]
 have h2:(abc "zip"==abc "list")=Ξ:=by decide
 have h3:(abc "zip"==abc "tuple")=Ξ:=by decide
 simp only[h1,h2,h3,Bool.or_false,Y7,if_false];refine Yo (wpAny_pyIter_slot hT PySem.F.slot_zip_iter (aaq PySem.F.slot_zip_iter hT PySem.F.entry_zip_iter ?_ (PySem.F.args_zip_iter_1 _)));show wpAny _ _ (ret (.ref z)) _ _ s;refine YI ⟨_,rfl,"zip",_,hT,abi.lookup,?_⟩;refine Yo (abD ?_);unfold aci.List.listLengthHint;refine Yo (ade hT Cw ?_);show wpAny _ A.in1 (specialOf (YW z) (Zw "__length_hint__") >>=_) _ _ _;refine Yo (ade hT Am ?_);refine YI ?_;show wpAny _ A.in1 (rule "list.extend.makes-room" >>=λ_=>aci.List.listTouch (.ref S) >>=λ_=>again (.builtin "list.extend.loop" ⟨[.ref S,.ref z,res],[]⟩)) _ _ _;refine Yo (adC ?_);refine Yo ?_;show wpAny _ A.in1 (adN S (·.push .none) >>=λ_=>adN S (·.pop)) _ _ _;refine Yo (acp hS rfl ?_);have DF:=aan (aa1 (·.push aar)) hS rfl;refine acp (hz:=by seq_fits) DF rfl ?_;have RD:=aan (aa1 (·.pop)) DF rfl;have Kb:∀b o,b≠S->s.heap.get? b=Δ o->((s.heap.update S (aa1 (·.push aar))).update S (aa1 (·.pop))).get? b=Δ o:=
  λb o hb e=>(ZD _ _ (Zq hb)).trans ((ZD _ _ (Zq hb)).trans e)
 refine YI ⟨plainId_quiet aaN _,Cv ap D1 D2 (B:=B) hn yD Ry E4 _ 0 _ _ _ rfl (Zr _) (Zr _) ?_ (ZI.frame ap D1 D2 Mn λb hb o e=>Kb b o (λh=>?_) e) RD ⟨rfl,(λj v hj=>by simp at hj),(λi j v hi _=>by simp at hi)⟩ λh' tk ij c' hk P4 fi=>?_⟩;·show B<=((s.heap.update S _).update S _).objs.size;rw[acg,acg];exact hB
 ·subst h;rcases hb with h|h|h|h|h;·exact yD.1 h
  ·exact yD.2.1 h
  ·exact yD.2.2.1 h
  ·exact yD.2.2.2.1 h
  ·exact yD.2.2.2.2 h
 ·exact hR h' tk ij c' (λb o hb e=>hk b o hb (Kb b o (λh=>hb (by simp[h])) e)) P4 fi
theorem wd(ap:Ka z TI TO i1 i2 p9 qa)(D1:Draws prog w A.in1.in1.in1 i1 p9 n1 P1 v9)(D2:Draws prog w A.in1.in1.in1 i2 qa n2 P2 wa)(hn:n1<=YQ)(fT:z < ?C/\TI < ?C/\TO < ?C/\(∀b∈p9,b < ?C)/\∀b∈qa,b < ?C)(Ry:i1∈p9)(E4:i2∈qa)(hB:B<=?C)(Mn:ZI z TI TO i1 i2 v9 wa 0 s.heap)(hQ:∀h' tk ij c',(∀b o,b∉[z,TO,i1,i2]->s.heap.get? b=Δ o->h'.get? b=Δ o)->h'.get? ?C=Δ {cls:=.type "list",dict:=Θ,data:=.seq ij c',slots:=#[]}->ZP B [z,TO,i1,i2,?C] P1 P2 ij (min n1 n2) h'->
   Q (.ref ?C) {s with heap:=h',toks:=tk}):
  wpAny ?Qe A (call (.type "list") [.ref z]) Q E s:=by
 refine callType_codes (Q₁:=λobj bD=>obj=.ref ?C/\bD={s with heap:=s.heap.push {cls:=.type "list",data:=.seq #[]}}) PySem.F.called_list (PySem.F.typeCall_list_1 _) PySem.F.entry_list_init
  (code_list_new _ ⟨rfl,rfl⟩) λobj bD dB=>?_
 obtain⟨rfl,rfl⟩:=dB;have hS:(s.heap.push {cls:=.type "list",data:=.seq #[]}).get? ?C=Δ {cls:=.type "list",data:=.seq #[]}:=YD _ rfl;refine⟨⟨_,hS,rfl⟩,PySem.F.args_list_init_2 _ _,?_⟩;show wpAny _ A.in1.in1 (do let old<-aci.List.listItems (.ref ?C);aci.List.listUpdate (.ref ?C) (λ_=>#[]);letGo old.toList.reverse;aaE (.ref ?C) (.ref z) .none) _ _ _;refine Yo ?_;unfold aci.List.listItems;refine Yo (aav hS rfl (YI ?_));show wpAny _ _ (adN ?C (λ_=>#[]) >>=λ_=>letGo (#[]:Array Value).toList.reverse >>=λ_=>aaE (.ref ?C) (.ref z) .none) _ _ _;refine Yo (acp hS rfl ?_);have DF:=aan (aa1 (λ_=>(#[]:Array Value))) hS rfl;have Kb:∀b o,s.heap.get? b=Δ o->((s.heap.push {cls:=.type "list",data:=.seq #[]}).update ?C (aa1 (λ_=>(#[]:Array Value)))).get? b=Δ o:=
  λb o e=>(ZD _ _ (Zx (YE e))).trans (Yl _ e)
 refine Yo (acD ?_);refine uc ap D1 D2 (B:=B) hn ⟨Zx fT.1,Zx fT.2.1,Zx fT.2.2.1,λh=>Z9 _ (fT.2.2.2.1 _ h),λh=>Z9 _ (fT.2.2.2.2 _ h)⟩ Ry E4 ?_ (ZI.frame ap D1 D2 Mn λb _ o e=>Kb b o e) DF λh' tk ij c' hk P4 fi=>?_
 ·show B<=((s.heap.push _).update _ _).objs.size;rw[acg,ZQ]
  lia
 ·refine⟨rfl,hQ h' tk ij c' (λb o hb e=>hk b o ?_ (Kb b o e)) P4 fi⟩;intro hm;simp only[aa2,aa9,or_false] at hm hb;rcases hm with h|h|h|h|h;·exact hb (.inl h)
  ·exact hb (.inr (.inl h))
  ·exact hb (.inr (.inr (.inl h)))
  ·exact hb (.inr (.inr (.inr h)))
  ·exact absurd (YE e) (by rw[h];exact Z9 _)
abbrev Uq(h:Heap)(l1:Addr):Heap:=h.push {cls:=.type "tuple_iterator",data:=.fields #[.ref l1,.int 0 0]}
abbrev Ur(h:Heap)(l1 l2:Addr):Heap:=(Uq h l1).push {cls:=.type "tuple_iterator",data:=.fields #[.ref l2,.int 0 0]}
abbrev Us(h:Heap)(l1 l2:Addr):Heap:=(Ur h l1 l2).push {cls:=.type "tuple",data:=.seq #[.ref h.objs.size,.ref (Uq h l1).objs.size]}
abbrev Ut(h:Heap)(l1 l2:Addr):Heap:=(Us h l1 l2).push {cls:=.type "tuple",data:=.seq #[.none,.none]}
abbrev NA(h:Heap)(l1 l2:Addr):Heap:=(Ut h l1 l2).push {cls:=.type "zip",data:=.fields #[.none,.bool Ξ,.bool Ξ,.ref (Ur h l1 l2).objs.size,.ref (Us h l1 l2).objs.size]}
theorem ud l1 l2 xs ys:
  Meets (aci.«zip.__new__» ⟨[.type "zip",.ref l1,.ref l2],[]⟩) (λ_ R s=>s.heap.IsTuple l1 xs/\s.heap.IsTuple l2 ys/\
   R (.ok (.ret (.ref (Ut s.heap l1 l2).objs.size))) {s with heap:=NA s.heap l1 l2}):=
 .of_wp λprog w A R s h=>by
  obtain⟨hp,g,d,tk,os⟩:=s;obtain⟨Wi,xg,h⟩:=h;have NB:=sub_zip;have hL1:adK (adS ⟨hp,g,d,tk,os⟩) l1 xs:=Wi;have hL2:adK (adS ⟨hp.push {cls:=.type "tuple_iterator",data:=.fields #[.ref l1,.int 0 0]},g,d,tk,os⟩) l2 ys:=adK.push xg _
  wp_walk using aaJ hL1,aaJ hL2
  exact⟨_,rfl,h⟩
theorem Cy(Wi:s.heap.IsTuple l1 xs)(xg:s.heap.IsTuple l2 ys)(h:∀h',zM h' (?C+4) (?C+2) (?C+3) .none (.bool Ξ)->aaM h' (?C+2) (.ref ?C) (.ref (?C+1))->
   aaM h' (?C+3) .none .none->h'.IsTupleIter ?C l1 0->h'.IsTupleIter (?C+1) l2 0->?Zc=?C+5->
   (∀c o,s.heap.get? c=Δ o->h'.get? c=Δ o)->Q (.ref (?C+4)) {s with heap:=h'}):
  wpAny ?Qe A (call (.type "zip") [.ref l1,.ref l2]) Q E s:=by
 refine callType_new PySem.F.called_zip ?T (PySem.F.typeCall_zip_2 _ _) (PySem.F.newCall_zip_2 _ _) (λobj=>PySem.F.args_object_init_3 obj _ _) PySem.F.entry_zip_new
  (ud l1 l2 xs ys) ⟨Wi,xg,?_⟩
 have z1:(Uq s.heap l1).objs.size=?C+1:=ZQ ..;have z2:(Ur s.heap l1 l2).objs.size=?C+2:=by rw[ZQ,z1]
 have z3:(Us s.heap l1 l2).objs.size=?C+3:=by rw[ZQ,z2]
 have z4:(Ut s.heap l1 l2).objs.size=?C+4:=by rw[ZQ,z3]
 have z5:(NA s.heap l1 l2).objs.size=?C+5:=by rw[ZQ,z4]
 have g5:(NA s.heap l1 l2).get? (Ut s.heap l1 l2).objs.size=Δ _:=YD _ rfl;have g4:(NA s.heap l1 l2).get? (Us s.heap l1 l2).objs.size=Δ _:=Yl _ (YD _ rfl);have g3:(NA s.heap l1 l2).get? (Ur s.heap l1 l2).objs.size=Δ _:=Yl _ (Yl _ (YD _ rfl));have g2:(NA s.heap l1 l2).get? (Uq s.heap l1).objs.size=Δ _:=Yl _ (Yl _ (Yl _ (YD _ rfl)));have g1:(NA s.heap l1 l2).get? ?C=Δ _:=Yl _ (Yl _ (Yl _ (Yl _ (YD _ rfl))));show _/\_;rw[z2,z3,z4] at g5;rw[z1,z2] at g3;rw[z3] at g4;rw[z1] at g2;rw[z4];exact⟨⟨_,g5,rfl⟩,h _ g5 g3 g4 ⟨_,g1,rfl,rfl⟩ ⟨_,g2,rfl,rfl⟩ z5 λc o x=>Yl _ (Yl _ (Yl _ (Yl _ (Yl _ x))))⟩
theorem Inv.Wj(I:Inv X η σ H s)(k:∀b u,s.heap.get? b=Δ u->h'.get? b=Δ u)(hs:kQ H H')(EZ:∀b o,H' b=Δ o->H b=Δ o\/(?C<=b/\bL X.prog X.w H' h' b o)):Inv X η σ H' {s with heap:=h',toks:=t'}:=by
 refine I.un ⟨λb u q _ _ _=>k b u q,λb u q _ _ _=>⟨u.slots,k b u q⟩,λb u q n _=>?_,λb u q _=>⟨u,k b u q⟩,λb xs q=>hs _ _ q,λb u xs q=>hs _ _ q,λb ps q=>⟨#[],by rw[hs _ _ q];simp⟩⟩ λb o e=>?_
 ·cases e:H' b with
  |none=>rfl|some o=>
   rcases EZ b o e with z|⟨z,_⟩;·rw[n] at z;cases z
   ·exact absurd (YE q) (Nat.not_lt.mpr z)
 ·rcases EZ b o e with z|⟨_,z⟩;·exact(I.aL b o z).n8 (λc v _ q=>k c v q) (λc q=>hs _ _ q) λc xs q=>hs _ _ q
  ·exact z
noncomputable def NC(H:Hp)(us ws ts:List V):Prop:=ts.length=min us.length ws.length/\∀(j:Nat) t,ts[j]?=Δ t->∃T u w,t=.ref T/\H T=Δ (.tup [u,w])/\us[j]?=Δ u/\ws[j]?=Δ w
def G5:Value->V
 |.ref a=>.ref a|_=>.bC
theorem xh:∀{l},(∀v∈l,∃T,v=YW T)->aU (l.map G5) l
 |[],_=>.nil|v::l,h=>by obtain⟨T,rfl⟩:=h v Yk;exact .cons rfl (xh λv hv=>h v (Yi _ hv))
theorem Wk(h:a=c)(k:b=d):(Δ (HO.tup [a,b]):Option HO)=Δ (HO.tup [c,d]):=by rw[h,k]
theorem Kc(N a b:Nat)(la:a < N)(lb:b < N):Ka (N+4) (N+2) (N+3) N (N+1) [N,a] [N+1,b]:=by
 have e2:∀{x y z:Nat},x≠y->x≠z->x∉[y,z]:=λh1 h2 h=>by
  rcases aa2.mp h with h|h;·exact h1 h
  ·exact h2 (by simpa using h)
 have ne:∀{x y:Nat},x < y\/y < x->x≠y:=λh=>by lia
 exact⟨ne ?D,ne ?D,ne ?D,ne ?D,ne ?D,ne ?D,ne ?D,ne ?D,ne ?D,ne ?D,e2 ?D ?D,e2 ?D ?D,e2 ?D ?D,e2 ?D ?D,e2 ?D ?D,e2 ?D ?D⟩
theorem G6(la:a < N)(hc:c∈[N+k,a])(hk:k < 5):c < N+5:=by simp at hc;rcases hc with rfl|rfl<;>lia
open Classical in
theorem An(hc:X.calm=Λ)(hgL:Gl X "list")(hmL:X.mg "list"=Θ)(hgZ:Gl X "zip")(hmZ:X.mg "zip"=Θ)(ha:PA X [x1,x2] t)(he:YX [x1,x2] X.env=(Ξ,eval x1 X.env)::YX [x2] X.env)(zK:(aax pos (YX [x2] X.env)).any (·.1)=Ξ):
  PE X (.Call (.Name "list" p2) [.Call (.Name "zip" p) [x1,x2] [] pos] [] Kd) (λσ H Q=>t σ H λvs H1=>∃a b us ws,vs=[.ref a,.ref b]/\fS X.K H1 a us/\fS X.K H1 b ws/\
   ∀l H' ts,kQ H1 H'->H1 l=Θ->H' l=Δ (.lst ts)->NC H' us ws ts->Q (.ref l) H'):=by
 intro η s σ H Q I h;refine ZN (j8 I hgL hmL adu ?_ ?K ?K);refine Zu ?_ rfl rfl;show wpAny _ _ (spliced [(Ξ,eval (.Call (.Name "zip" p) [x1,x2] [] pos) X.env)]) _ _ s;refine abf ?_;refine ZN (j8 I hgZ hmZ PyProof.Rows.boot_zip ?_ ?K ?K);refine Zu (bW ?QZ λus s1 ⟨vs,H1,I1,r1,q1⟩=>?_) he zK;obtain⟨a,b,ua,ub,rfl,ta,tb,q⟩:=q1;obtain⟨va,vb,rfl,ra,rb⟩:=vals2 r1;cases ra;cases rb;obtain⟨ia,Wl,pa,za⟩:=I1.tuple ta;obtain⟨ib,rvb,pb,zb⟩:=I1.tuple tb;have Wm:s1.heap.IsTuple a ia.toArray:=pa;have Wn:s1.heap.IsTuple b ib.toArray:=pb;obtain⟨N,hN⟩:∃N:Nat,N=s1.heap.objs.size:=⟨_,rfl⟩;have la:(a:Nat) < s1.heap.objs.size:=by obtain⟨o,e,_⟩:=Wm;exact YE e
 have lb:(b:Nat) < s1.heap.objs.size:=by obtain⟨o,e,_⟩:=Wn;exact YE e
 refine Cy Wm Wn λh2 g1 g2 g3 g4 g5 hsz hk=>?_;refine ab3 ?_;have hh:X.A.in1.in1.in1.handled=Θ:=I1.ok.hd hc;have Ke:({s1 with heap:=h2}:YG).heap.objs.size=?Z+5:=hsz;have up:∀{c:Addr} {items:Array Value},s1.heap.IsTuple c items->h2.IsTuple c items:=λ{c items} x=>let ⟨o,e,r⟩:=x;⟨o,hk _ _ e,r⟩
 have ap:=Kc ?Z a b la lb;have Uu:∀k:Nat,k < 5->?Z+k < ({s1 with heap:=h2}:YG).heap.objs.size:=λk hk=>by rw[Ke];exact Nat.add_lt_add_left hk _
 refine wd (s:={s1 with heap:=h2}) ap (lg hh ?Z a (YZ la) ia.toArray) (lg hh (?Z+1) b (YZ (Nat.lt_succ_of_lt lb)) ib.toArray) (B:=?Z) (by rw[YC,<-Wl.length];exact za)
  ⟨Uu 4 ?T,Uu 2 ?T,Uu 3 ?T,λc hc=>?_,λc hc=>?_⟩ ?E ?E (aby (Uu 0 ?T)) ⟨.none,.bool Ξ,.none,.none,⟨.inl rfl,Ξ,rfl⟩,g1,g2,g3,⟨g4,up Wm⟩,⟨g5,up Wn⟩⟩ λh' tk acc c' P0 hS fi=>?_
 ·rw[Ke];exact G6 (k:=0) la hc ?T
 ·rw[Ke];exact G6 (k:=1) lb hc ?T
 rw[Ke] at hS fi ⊢;obtain⟨a1,a2,a3⟩:=fi;have n5:∀b o,s1.heap.get? b=Δ o->h'.get? b=Δ o:=λb o e=>by
  have hb:(b:Nat) < s1.heap.objs.size:=YE e;refine P0 b o (λhm=>?_) (hk b o e);simp only[aa2,aa9,or_false] at hm;have:(b:Nat)>=s1.heap.objs.size:=by
   rcases hm with h|h|h|h;·exact h▸aaH _ _
   ·exact h▸aaH _ _
   ·exact h▸Yt _
   ·exact h▸aaH _ _
  exact absurd hb (Nat.not_lt.mpr this)
 have hrefs:∀v∈acc.toList,∃T,v=YW T:=λv hv=>by obtain⟨j,hj,e⟩:=List.mem_iff_getElem.mp hv;obtain⟨T,_,_,e',_⟩:=a2 j v (by rw[<-ab9,Yn hj,e]);exact⟨T,e'⟩
 have hV:=xh hrefs
 let H2:Hp:=λc=>if c=?Z+5 then Δ (.lst (acc.toList.map G5)) else
  if hj:∃(j:Nat) (u w':V),acc[j]?=Δ (YW c)/\ua[j]?=Δ u/\ub[j]?=Δ w' then Δ (.tup [hj.choose_spec.choose,hj.choose_spec.choose_spec.choose]) else H1 c
 have fr:∀c,?Z<=c->H1 c=Θ:=λc hc=>I1.aL.fresh hc;have Wo:∀(j:Nat) T,acc[j]?=Δ (YW T)->T≠?Z+5:=λj T e z=>by obtain⟨T',_,_,e',_,hb,_⟩:=a2 j _ e;cases e';exact hb (by rw[z];simp)
 have Wp:∀(j:Nat) T,acc[j]?=Δ (YW T)->?Z<=T:=λj T e=>by obtain⟨T',_,_,e',h1,_⟩:=a2 j _ e;cases e';exact h1
 have atT:∀(j:Nat) T u w',acc[j]?=Δ (YW T)->ua[j]?=Δ u->ub[j]?=Δ w'->H2 T=Δ (.tup [u,w']):=λj T u w' e1 e2 e3=>by have hj:∃(j:Nat) (u w':V),acc[j]?=Δ (YW T)/\ua[j]?=Δ u/\ub[j]?=Δ w':=⟨j,u,w',e1,e2,e3⟩;show(if T=?Z+5 then _ else if hj:_ then _ else _)=_;rw[if_neg (Wo j T e1),dif_pos hj];obtain⟨c1,c2,c3⟩:=hj.choose_spec.choose_spec.choose_spec;have ej:=a3 _ _ _ c1 e1;have q1:=Y0 (c2.symm.trans (show ua[hj.choose]?=Δ u by rw[ej];exact e2));have q2:=Y0 (c3.symm.trans (show ub[hj.choose]?=Δ w' by rw[ej];exact e3));exact Wk q1 q2
 have hS2:H2 (?Z+5)=Δ (.lst (acc.toList.map G5)):=if_pos rfl;have sm:kQ H1 H2:=λc o e=>by
  show(if c=?Z+5 then _ else if hj:_ then _ else _)=_;rw[if_neg,dif_neg];·exact e
  ·rintro⟨j,u,w',e1,_⟩;rw[fr c (Wp j c e1)] at e;cases e
  ·rintro rfl;rw[fr _ (aaH _ _)] at e;cases e
 have hlen:acc.toList.length=min ua.length ub.length:=by rw[aa6,a1,YC,YC,<-Wl.length,<-rvb.length]
 have I2:Inv X η σ H2 {s1 with heap:=h',toks:=tk}:=by
  refine I1.Wj n5 sm λc o e=>?_;have e':(if c=?Z+5 then Δ (HO.lst (acc.toList.map G5)) else
   if hj:∃(j:Nat) (u w':V),acc[j]?=Δ (YW c)/\ua[j]?=Δ u/\ub[j]?=Δ w' then Δ (.tup [hj.choose_spec.choose,hj.choose_spec.choose_spec.choose]) else H1 c)=Δ o:=e
  split at e';·rename_i hc;cases e';refine .inr ⟨by rw[hc];exact aaH _ _,?_⟩;rw[hc];refine⟨?_,acc.toList,c',hV,by simpa using hS⟩;rw[Yr,hlen];exact Zc (abH _ _) za
  ·split at e'
   ·rename_i hj;cases e';obtain⟨c1,c2,c3⟩:=hj.choose_spec.choose_spec.choose_spec;obtain⟨T,x,y,eT,b1,b2,b3,b4,b5⟩:=a2 _ _ c1;cases eT;refine .inr ⟨b1,?_,[x,y],?_,⟨_,b3,rfl,_,rfl⟩⟩;·rw[ZV];simp
    ·obtain⟨x',ex,rx⟩:=Wl.get c2;obtain⟨y',ey,ry⟩:=rvb.get c3;have e1:ia[hj.choose]?=Δ x:=by simpa using b4
     have e2:ib[hj.choose]?=Δ y:=by simpa using b5
     rw[ex] at e1;rw[ey] at e2;cases e1;cases e2;exact .cons rx (.cons ry .nil)
   ·exact .inl e'
 refine⟨.ref (?Z+5),H2,I2,rfl,q _ H2 _ sm (fr _ (aaH _ _)) hS2 ⟨by rw[Yr,hlen],λj t ht=>?_⟩⟩;rw[Ys] at ht;obtain⟨v,hv,rfl⟩:∃v,acc.toList[j]?=Δ v/\G5 v=t:=by cases hq:acc.toList[j]? with|none=>rw[hq] at ht;cases ht|some v=>rw[hq] at ht;exact⟨v,rfl,by simpa using ht⟩
 have Uv:j < min ua.length ub.length:=by rw[<-hlen];exact(qqz hv).1
 have Uc:acc[j]?=Δ v:=by rw[<-ab9];exact hv
 obtain⟨T,x,y,rfl,_⟩:=a2 j v Uc;have l1:j < ua.length:=YO Uv (abH _ _);have l2:j < ub.length:=YO Uv (abx _ _);exact⟨T,ua[j],ub[j],rfl,atT j T _ _ Uc (Yn l1) (Yn l2),Yn l1,Yn l2⟩
end
theorem lh l items o(ht:o.cls=.type "tuple")n(hd:o.data=.seq items n):
  Meets (aci.«enumerate.__new__» ⟨[.type "enumerate",.ref l],[]⟩) (λ_ R s=>s.heap.get? l=Δ o/\
   R (.ok (.ret (.ref (s.heap.push {cls:=.type "tuple_iterator",data:=.fields #[.ref l,.int 0 0]}).objs.size)))
    {s with heap:=(s.heap.push {cls:=.type "tuple_iterator",data:=.fields #[.ref l,.int 0 0]}).push {cls:=.type "enumerate",data:=.fields #[.none,.bool Ξ,.ref ?C,aaw 0,.none,.none]}}):=
 .of_wp λprog w A R s h=>by
  obtain⟨hp,g,d,tk,os⟩:=s;obtain⟨hl,h⟩:=h;have NB:=sub_enumerate;have hL:adK (adS ⟨hp,g,d,tk,os⟩) l items:=⟨_,hl,ht,n,hd⟩
  wp_walk using ZZ hl
  refine wpAny_stack_any λst=>YI ?_;split
  ·rename_i c _ _ _ _ _;cases (c==abc "enumerate")
   ·wp_walk using ZZ hl,aaJ hL
    exact⟨_,rfl,h⟩
   ·wp_walk using ZZ hl,aaJ hL
    exact⟨_,rfl,h⟩
  ·wp_walk using ZZ hl,aaJ hL
   exact⟨_,rfl,h⟩
section
variable{prog:Zm}{w:World}{A:ZS}{E:Value->YG->Prop}{s:YG}
theorem qb(hl:s.heap.IsTuple l items)(h:∀h',IsEnum h' (?C+1) ?C 0 .none->h'.IsTupleIter ?C l 0->?Zc=?C+2->
   (∀b o,s.heap.get? b=Δ o->h'.get? b=Δ o)->Q (.ref (?C+1)) {s with heap:=h'}):
  wpAny ?Qe A (call (.type "enumerate") [.ref l]) Q E s:=by
 obtain⟨o,ho,hc,n,hd⟩:=hl;refine callType_new PySem.F.called_enumerate ?T (PySem.F.typeCall_enumerate_1 _) (PySem.F.newCall_enumerate_1 _) (λobj=>PySem.F.args_object_init_2 obj _) PySem.F.entry_enumerate_new
  (lh l items o hc n hd) ⟨ho,?_⟩
 have hz:(s.heap.push {cls:=.type "tuple_iterator",data:=.fields #[.ref l,.int 0 0]}).objs.size=?C+1:=ZQ ..;show _/\_;rw[hz];have he:IsEnum ((s.heap.push {cls:=.type "tuple_iterator",data:=.fields #[.ref l,.int 0 0]}).push
   {cls:=.type "enumerate",data:=.fields #[.none,.bool Ξ,.ref ?C,aaw 0,.none,.none]}) (?C+1) ?C 0 .none:=by
  have:=YD (s.heap.push {cls:=.type "tuple_iterator",data:=.fields #[.ref l,.int 0 0]})
   (o:={cls:=.type "enumerate",data:=.fields #[.none,.bool Ξ,.ref ?C,aaw 0,.none,.none]}) rfl
  rw[hz] at this;exact this
 refine⟨⟨_,he,rfl⟩,h _ he ⟨_,Yl _ (YD _ rfl),rfl,rfl⟩ (by rw[ZQ,hz]) λb o x=>Yl _ (Yl _ x)⟩
end
def Wq(K:Yw)(a:Addr):It:=
 ⟨λi H=>∃xs x,fS K H a xs/\xs[i]?=Δ x,λi H x H'=>∃T v,H T=Θ/\H'=upd H T (.tup [.int i,v])/\x=.ref T/\∀xs,fS K H a xs->xs[i]?=Δ v,λi H=>∃xs,fS K H a xs/\?Q<=i⟩
theorem Cz{P:Zm}{w:World}{K:Yw}{elts:List Expr}{kk:Nat}{pos:Pos}(a it e:Addr)(P5:e≠it):Turn P w K (.Tuple elts kk pos) (Wq K a) [e,it] e (λi h=>(∃old,IsEnum h e it i old)/\h.IsTupleIter it a i) where
 mem:=by simp
 obj:=λi h st b hb=>by
  obtain⟨⟨old,he⟩,o,eo,c,d⟩:=st;have jk:b=e\/b=it:=by simpa using hb
  rcases jk with z|z;·rw[z];exact⟨_,he,λv z=>nomatch z⟩
  ·rw[z];exact⟨o,eo,λv z=>by rw[d] at z;cases z⟩
 keep:=λi h h' st k=>⟨let ⟨old,he⟩:=st.1;⟨old,k e ?E _ he⟩,st.2.at λo x=>k it ?E o x⟩
 item:=by
  intro X hP hw hK hc i η s σ H E I hf st hg;subst hP hw hK;obtain⟨xs,x,hq,hx⟩:=hg;obtain⟨its,rv,p,hz⟩:=I.tuple hq;have p':s.heap.IsTuple a its.toArray:=p;obtain⟨u,hu,ru⟩:=rv.get hx;obtain⟨f0,f1,f2,f3,f4,f5⟩:=hf it ?E;obtain⟨g0,g1,g2,g3,g4,g5⟩:=hf e ?E;obtain⟨⟨old,he⟩,hit⟩:=st;have P6:a≠it:=λz=>by obtain⟨o1,e1,c1,_⟩:=p';obtain⟨o2,e2,c2,_⟩:=id hit;rw[z,e2] at e1;cases e1;rw[c1] at c2;simp at c2
  have hae:a≠e:=λz=>by obtain⟨o1,e1,c1,_⟩:=p';rw[z,he] at e1;cases e1;simp at c1
  have fT:i < its.toArray.size:=by have:=(qqz hu).1;simpa using this
  refine wpAny_pyNext_enum_itemD (lg (A:=X.A.in1) (I.ok.hd hc) it a P6 ?Qh) he ⟨hit,p'⟩ fT P5 (by simp[P5,Zq hae]) λx1 h' tk px ho t8 hT hsz hk=>?_;have ex1:x1=u:=by
   have:its[i]?=Δ x1:=by simpa using px
   rw[hu] at this;cases this;rfl
  subst ex1;refine⟨_,rfl,?_⟩;refine wpAny_letOwnedTupleGo_enum ho λh2 Mo Jm=>?_;have RE:?C≠e:=Zx (YE he);have P7:?C≠it:=by obtain⟨o,eo,_⟩:=hit;exact Zx (YE eo)
  have Ao:∀b o,b≠e->b≠it->s.heap.get? b=Δ o->h2.get? b=Δ o:=λb o h1 h3 q=>Jm.extBut b o h1 (hk b o h1 h3 q);have hn:H ?C=Θ:=I.aL.fresh (Yt _);have Gi:∀b v,H b=Δ v->b≠e/\b≠it:=λb v q=>⟨(λz=>by rw[z,g0] at q;cases q),(λz=>by rw[z,f0] at q;cases q)⟩;have RG:h2.get? ?C=Δ {cls:=.type "tuple",data:=.seq #[.int i tk,x1]}:=Jm.extBut _ _ RE hT;have I1:Inv X η σ (upd H ?C (.tup [.int i,x])) {s with heap:=h2,toks:=tk+1}:=by
   refine I.step (g':=s.gens) (d':=s.drawn) (ch:=[e,it]) (λb hb=>?_) (λb o _ _ hc q _=>Ao b o (λz=>hc ?Zi) (λz=>hc ?Zi) q) (λb o _ _ hc q _=>⟨o.slots,Ao b o (λz=>hc ?Zi) (λz=>hc ?Zi) q⟩)
    (λb o _ q n=>by rw[ax (YZ (YE q))];exact n) (λb o hc q=>⟨o,Ao b o (λz=>hc ?Zi) (λz=>hc ?Zi) q⟩) (λb xs q=>by rw[ax (aN q hn)];exact q) (λb o v q=>by rw[ax (aN q hn)];exact q)
    (λb ps q=>⟨#[],by rw[ax (aN q hn),q];simp⟩) (λm hm=>?_) (λb v q=>?_) I.bare
   ·have jk:b=e\/b=it:=by simpa using hb
    rcases jk with z|z;·rw[z];exact⟨g3,g1,g4,g5⟩
    ·rw[z];exact⟨f3,f1,f4,f5⟩
   ·obtain⟨o,es,ep,pV,r⟩:=hm;exact⟨o,es,ep,Ao _ o (Zq g1) (Zq f1) pV,r⟩
   ·by_cases hb:b=?C;·rw[hb,aD] at q;cases q;rw[hb];exact⟨by rw[ZV];simp,[.int i tk,x1],.cons ⟨tk,rfl⟩ (.cons ru .nil),⟨_,RG,rfl,_,rfl⟩⟩
    ·rw[ax hb] at q;refine(I.aL b v q).n8 (λc y hc qq=>?_) (λc qq=>by rw[ax (aN qq hn)];exact qq) λc xs qq=>by rw[ax (aN qq hn)];exact qq
     have:c≠e/\c≠it:=by
      rcases hc with z|z;·rw[z];exact Gi b v q
      ·exact Gi c _ z
     exact Ao c y this.1 this.2 qq
  refine⟨.ref ?C,_,I1,rfl,⟨?C,x,hn,rfl,rfl,λys hy=>by rw[I.wX hy hq];exact hx⟩,⟨⟨x1,by simpa using Mo⟩,t8.1.at λo q=>Jm.extBut _ _ (Zq P5) q⟩,λb hb=>?_⟩;have jk:b=e\/b=it:=by simpa using hb
  rcases jk with z|z;·rw[z,ax (Zq RE)];exact g0
  ·rw[z,ax (Zq P7)];exact f0
 done:=by
  intro X hP hw hK hc i η s σ H E I hf st hg;subst hP hw hK;obtain⟨xs,hq,hx⟩:=hg;obtain⟨its,rv,p,hz⟩:=I.tuple hq;obtain⟨f0,f1,f2,f3,f4,f5⟩:=hf it ?E;obtain⟨⟨old,he⟩,hit⟩:=st;have hl:=rv.length;have hT:s.TypeIs (.ref e) "enumerate":=⟨_,he,rfl⟩;unfold acO;refine Yo (acN (ZL (name:=Zw "__next__") hT aaB
   (aaq aaB hT PySem.F.entry_enumerate_next ?_ (PySem.F.args_enumerate_next_1 _))))
  show wpAny _ _ (field (.ref e) 2 >>=_) _ _ _;refine Yo (Z6 he rfl (x:=.ref it) rfl ?_);refine Yo (jG (I.ok.hd hc) hit (show s.heap.IsTuple a ?Qh from p) (by simp;lia) λh' y Wr sQ=>?_);obtain⟨o,ho,yE⟩:=sQ;refine Yo (acS (T:="StopIteration") (b:=Λ) ⟨o,ho,yE⟩ adl ?_);exact YI ⟨rfl,I.turned (t':=s.toks) (λb o hb q=>Wr b o hb q) f0 f1 f3 f4 f5⟩
 self:=λ_ _ _ _ _ st h=>let ⟨old,he⟩:=st.1;abT he h
section
variable{X:Cx}
def RI(K:Yw)(ta:TA):TI:=λσ H R=>ta σ H λvs H1=>∃a,vs=[.ref a]/\(∃xs,fS K H1 a xs)/\R (Wq K a) H1
theorem G7(hg:Gl X "enumerate")(hm:X.mg "enumerate"=Θ)(ha:PA X [x] ta)(hs:YX [x] X.env=[(Ξ,eval x X.env)]):
  PI X (.Tuple elts kk p3) (.Call (.Name "enumerate" p) [x] [] pos) (RI X.K ta):=by
 intro η s σ H R I h;refine Call_ (j8 I hg hm boot_enumerate (Zu (bW ?QZ λus s1 ⟨vs,H1,I1,r1,q1⟩=>?_) hs rfl) ?K ?K);obtain⟨a,rfl,⟨xs,hq⟩,q⟩:=q1;obtain⟨u,rfl,ru⟩:=vals1 r1;cases ru;obtain⟨its,rv,pl,hz⟩:=I1.tuple hq;refine qb (show s1.heap.IsTuple a ?Qh from pl) λh' he hit hsz hk=>?_;refine abT he ?_;have I2:Inv X η σ H1 {s1 with heap:=h'}:=I1.kept (t':=s1.toks) hk;refine⟨?Z+1,[?Z+1,?Z],_,_,H1,rfl,I2,Cz a _ _ (Nat.succ_ne_self _),⟨⟨_,he⟩,hit⟩,λb hb=>?_,q⟩;have jk:b=?Z+1\/b=s1.heap.objs.size:=by simpa using hb
 rcases jk with z|z;·rw[z];exact I1.ym (aah _) (I1.aL.fresh (aah _))
 ·rw[z];exact I1.ym (Yt _) (I1.aL.fresh (Yt _))
end
section
variable{prog:Zm}{w:World}{A:ZS}{E:Value->YG->Prop}{s:YG}
end
section
variable{X:Cx}
end
def dD(c:Addr)(q:Str):Heap->Prop:=λh=>h.CodeRec (.ref c) q
structure lj(N P F:List Str)(sc:Scope):Prop where
 kind:sc.kind=.function
 co:sc.isCoroutine=Ξ
 gen:sc.isGenerator=Ξ
 nd:N.Nodup
 pre:N.take (P.length+F.length)=P++F
 par:∀x∈P,sc.names.lookup x=Δ .local
 fre:∀x∈F,sc.names.lookup x=Δ .free
 eR:∀y∈sc.names,y.2≠.cell
 RJ:∀y∈sc.names,y.2=.free->y.1∈F
structure Jn(B:Heap)(cl:List (Str×Addr))(F:List Str)(b7:List V):Prop where
 inj:∀x y c,cl.lookup x=Δ c->cl.lookup y=Δ c->x=y
 only:∀x c,cl.lookup x=Δ c->x∈F
 at_:∀(i:Nat) (x:Str) (v:V),F[i]?=Δ x->b7[i]?=Δ v->∃c u,cl.lookup x=Δ c/\B.IsCell c (Δ u)/\RelV v u
 len:b7.length=F.length
theorem Jn.get(C:Jn B cl F b7)(h:x∈F):∃(i:Nat) (v:V) (c:Addr) (u:Value),F[i]?=Δ x/\b7[i]?=Δ v/\cl.lookup x=Δ c/\B.IsCell c (Δ u)/\RelV v u:=by
 obtain⟨i,hi,e⟩:=List.mem_iff_getElem.mp h;have h1:F[i]?=Δ x:=by rw[Yn hi,e]
 have h2:b7[i]?=Δ (b7[i]'(by rw[C.len];exact hi)):=Yn _;obtain⟨c,u,a,b,d⟩:=C.at_ i x _ h1 h2;exact⟨i,_,c,u,h1,h2,a,b,d⟩
abbrev Ap(qual:Str)(scope:Scope)(L f:Addr)(cd:Value)(cl:List (Str×Addr)):Env:=PySem.W.envX qual scope L f cd cl
noncomputable def Mp(CX:Jj)(P:Zm)(w:World)(K:Yw)(mg:Str->Option Value)(base:Heap)(N:List Str)(qual:Str)(scope:Scope)(f:Addr)(cd:Value)(cl:List (Str×Addr))(A:ZS)(outer:List Env)(s:YG)(H:Hp)(E:XK):Cx where
 prog:=P
 w:=w
 K:=K
 mg:=mg
 base:=base
 A:=A.deeper (Ap qual scope ?C f cd cl)
 N:=N
 ig:=s
 zT:=H
 env:=Ap qual scope ?C f cd cl
 outer:=outer
 stack:=Ap qual scope ?C f cd cl::outer
 ex:=[]
 calm:=Λ
 fn:=λ_=>Ξ
 pn:=[]
 xe:=λe s'=>wpAny (model P w) (A.deeper (Ap qual scope ?C f cd cl)) (leaving (Ap qual scope ?C f cd cl) e) (λ_ Ng=>CX outer H s E e Ng) (λe' Ng=>CX outer H s E e' Ng) s'
theorem G8:∀{ps:List Str} {us} {i:Nat} {y:Str} {u:Value},ps.Nodup->ps[i]?=Δ y->us[i]?=Δ u->(ps.zip us).reverse.lookup y=Δ u:=by
 intro ps us i y u nd h1 h2;have hm:(y,u)∈(ps.zip us).reverse:=by rw[List.mem_reverse];refine List.mem_iff_getElem?.mpr ⟨i,?_⟩;rw[List.getElem?_zip_eq_some];exact⟨h1,h2⟩
 have un:∀u',(y,u')∈(ps.zip us).reverse->u'=u:=λu' h'=>by
  rw[List.mem_reverse] at h';obtain⟨j,hj⟩:=List.mem_iff_getElem?.mp h';rw[List.getElem?_zip_eq_some] at hj;obtain⟨a,b⟩:=hj;have hi:i < ps.length:=(qqz h1).1;have Uw:j < ps.length:=(qqz a).1;have e:i=j:=by
   have e1:ps[i]'hi=y:=(qqz h1).2;have e2:ps[j]'Uw=y:=(qqz a).2;rcases Nat.lt_trichotomy i j with z|z|z;·exact absurd (e1.trans e2.symm) (List.pairwise_iff_getElem.mp (List.nodup_iff_pairwise_ne.mp nd) i j hi Uw z)
   ·exact z
   ·exact absurd (e2.trans e1.symm) (List.pairwise_iff_getElem.mp (List.nodup_iff_pairwise_ne.mp nd) j i Uw hi z)
  subst e;rw[h2] at b;exact(Y0 b).symm
 cases q:(ps.zip us).reverse.lookup y with
 |none=>
  exfalso;have key:∀(l:List (Str×Value)),(y,u)∈l->l.lookup y≠Θ:=λl=>by
   induction l with
   |nil=>intro h;cases h|cons p l ih=>
    intro h;obtain⟨p1,p2⟩:=p;rw[YU];rcases aa2.mp h with e|e;·injection e with e1 _;rw[<-e1];simp
    ·cases hb:y==p1 with|true=>exact λz=>nomatch z|false=>exact ih e
  exact key _ hm q
 |some u'=>rw[un u' (Zd q)]
theorem DG{K:Yw}(S:lj N ps F scope)(C:Jn base cl F b7)(hd:A.handled=Θ)(e0:yo P w K mg base A outer s H)(hl:vs.length=?S)(r:aU vs us)(Mq:dB.Ns ?C (λx=>(ps.zip us).reverse.lookup x))(hk:∀b o,s.heap.get? b=Δ o->dB.get? b=Δ o):
  Inv (Mp CX P w K mg base N qual scope f cd cl A outer s H E) [] (start N (vs++b7)) H {s with heap:=dB,toks:=tk}:=by
 have zK:?S+F.length<=N.length:=by have:=congrArg acI S.pre;rw[aaI,YF] at this;lia
 have Jk:∀b:Addr,b∉(Mp CX P w K mg base N qual scope f cd cl A outer s H E).ex:=λb z=>absurd (show b∈([]:List Addr) from z) ?E;have old:∀b o,base.get? b=Δ o->dB.get? b=Δ o:=λb o e=>hk b o (e0.bs b o e).1;have Jo:∀x c,cl.lookup x=Δ c->∃u,base.IsCell c (Δ u):=λx c h=>by obtain⟨i,v,c',u,_,_,h3,h4,_⟩:=C.get (C.only x c h);rw[h] at h3;cases h3;exact⟨u,h4⟩
 refine⟨⟨e0.mod,S.kind,rfl,rfl,Yt _,λy z c h1 h2=>C.inj y z c h1 h2,λy hy=>?_,(λy c h _=>absurd ?Qi ?T),λ_=>hd,ZS.frames_deeper e0.frames,.inr ⟨rfl,rfl⟩,λb z=>absurd z (Jk b),e0.bs,e0.Ga,λb _ _=>Jk b,λb z=>absurd z (Jk b),e0.m7,e0.Jz⟩,
  rfl,e0.bare,Un.kept hk,⟨_,Mq,λi y v h1 h2 h3=>?_⟩,λy c h=>?_,e0.aL.fresh (Yt _),λy c h=>?_,λp hp=>absurd (show p∈([]:List ?Qb) from hp) ?E,e0.aL.kept hk,?_⟩
 ·have hy:scope.names.lookup y=Δ .cell\/scope.names.lookup y=Δ .free:=hy;rcases hy with hy|hy;·exact absurd rfl (S.eR _ (Zd hy))
  ·obtain⟨_,_,c,_,_,_,h,_⟩:=C.get (S.RJ _ (Zd hy) rfl);exact⟨c,h⟩
 ·have hlen:(vs++b7).length=?S+F.length:=by rw[YF,hl,C.len]
  have hi:i < (vs++b7).length:=by
   unfold start at h2;by_cases hi:i < (vs++b7).length;·exact hi
   ·rw[YH ?Zl] at h2;rw[aba] at h2;split at h2<;>cases h2
  have ha:(vs++b7)[i]?=Δ v:=by unfold start at h2;rw[Yq ?Zl,Ys] at h2;cases e:(vs++b7)[i]? with|none=>rw[e] at h2;cases h2|some a=>rw[e] at h2;cases h2;rfl
  have hp:(ps++F)[i]?=Δ y:=by rw[<-S.pre,List.getElem?_take_of_lt ?D];exact h1
  have Ue:ps.Nodup:=by
   have:(ps++F).Nodup:=by rw[<-S.pre];exact S.nd.sublist (List.take_sublist _ _)
   exact(Ze.mp this).1
  by_cases E4:i < vs.length;·rw[Yq E4] at ha;rw[Yq ?D] at hp;obtain⟨u,hu,rv⟩:=r.get ha;exact⟨u,rv,.inl ⟨S.par y (Yz hp),G8 Ue hp hu⟩⟩
  ·rw[YH ?D] at ha;rw[YH ?D,<-hl] at hp;obtain⟨c,u,hc,oi,rv⟩:=C.at_ _ y v hp ha;exact⟨u,rv,.inr ⟨.inr (S.fre y (Yz hp)),c,hc,oi.keeps old⟩⟩
 ·obtain⟨u,hc⟩:=Jo y c h;exact⟨_,hc.keeps old⟩
 ·obtain⟨u,o,ho,_⟩:=Jo y c h;exact(e0.bs c o ho).2
 ·unfold start;show _=N.length;rw[YF,Yr,abl,YF,hl,C.len]
  lia
section
variable{CX:Jj}{P:Zm}{w:World}{K:Yw}{mg:Str->Option Value}{base:Heap}{k:Nat}{f:Addr}{name qual:Str}{params:aaS}{scope:Scope}{cl:List (Str×Addr)}{dV kV doc pm kU ct oc:Value}{an od:Option Addr}
  {JP:Array (Option Value)} {N ps F:List Str} {b7:List V} {sp:Sp}
theorem ND(lk:base.get? f=Δ ⟨oc,od,.func (adT name qual params body scope cl dV kV doc pm an kU ct),JP⟩)(pX:∀vs H Q E,sp vs H Q E->∃c,kU=.ref c/\H c=Δ (.ext (dD c qual)))(S:lj N ps F scope)(C:Jn base cl F b7)(len:∀vs H Q E,sp vs H Q E->vs.length=?S)(tU:∀(A:ZS) (outer:List Env) (s:YG) (H:Hp) (vs:List V) (Q:VK) (E:XK),dj k (A.deeper (Ap qual scope ?C f kU cl))->sp vs H Q E->
   ∃t,m8 (Mp CX P w K mg base N qual scope f kU cl A outer s H E) body t/\t {nx:=λ_ H'=>Q .bC H',rt:=Q} (start N (vs++b7)) H):
  gR P w K mg base CX (k+1) f (adT name qual params body scope cl dV kV doc pm an kU ct) ps sp:=by
 refine⟨len,λA outer s H args us vs Q E hr e0 hb r yq=>?_⟩;have hl:=len _ _ _ _ yq;have old:∀b o,base.get? b=Δ o->s.heap.get? b=Δ o:=λb o e=>(e0.bs b o e).1;have lim:s.heap.NoLimit:=e0.mod.nolimit.keeps old;have NG:s.heap.CodeRec kU qual:=by obtain⟨c,rfl,hc⟩:=pX _ _ _ _ yq;exact(e0.aL c _ hc).1
 have G9:∀y∈ps.zip us,scope.names.lookup y.1=Δ .local:=λ⟨n,v⟩ hy=>S.par n (abg hy).1;refine codeAny_call_function hr.depth (old _ _ lk) rfl S.co S.gen rfl NG (hb _ _ _ _ ?_);refine abo S.eR G9 (λdB Mq RK=>⟨lim.fresh _ RK,codeAny_func ?_⟩) S.kind;have hk:∀b o,s.heap.get? b=Δ o->dB.get? b=Δ o:=λb o e=>RK.extBut b o (YZ (YE e)) (Yl _ e);obtain⟨t,ht,hq⟩:=tU A outer s H vs Q E (hr.deeper _) yq;have I:=DG (CX:=CX) (qual:=qual) (f:=f) (cd:=kU) (tk:=s.toks+(ps.zip us).length) (E:=E) S C hr.hd e0 hl r Mq hk;refine Z5 (ht [] _ (start N (vs++b7)) H _ I hq) (λfl s' hs=>?_) λe s' hs=>hs;have fin:∀{c0:St} {H':Hp} {v:V} {u:Value},Inv (Mp CX P w K mg base N qual scope f kU cl A outer s H E) [] c0 H' s'->RelV v u->Q v H'->CE outer P w H s Q u s':=
  λ{c0 H' v u} J rv q=>⟨v,H',J.os,J.bare,J.base,J.aL,rv,q⟩
 cases fl with|ret u=>obtain⟨v,c0,H',J,rv,q⟩:=hs;exact fin J rv q|next=>obtain⟨c0,H',J,q⟩:=hs;exact fin (v:=V.bC) (u:=aar) J rfl q|brk=>obtain⟨_,_,_,q⟩:=hs;exact ZE q|cont=>obtain⟨_,_,_,q⟩:=hs;exact ZE q
theorem NH(lk:base.get? f=Δ ⟨oc,od,.func (adm name qual params body scope cl pm kU ct),JP⟩)(pX:∀vs H Q E,sp vs H Q E->∃c,kU=.ref c/\H c=Δ (.ext (dD c qual)))(S:lj N ps F scope)(C:Jn base cl F b7)(len:∀vs H Q E,sp vs H Q E->vs.length=?S)(tU:∀(A:ZS) (outer:List Env) (s:YG) (H:Hp) (vs:List V) (Q:VK) (E:XK),dj k (A.deeper (Ap qual scope ?C f kU cl))->sp vs H Q E->
   ∃t,PE (Mp CX P w K mg base N qual scope f kU cl A outer s H E) body t/\t (start N (vs++b7)) H Q):
  gR P w K mg base CX (k+1) f (adm name qual params body scope cl pm kU ct) ps sp:=by
 refine⟨len,λA outer s H args us vs Q E hr e0 hb r yq=>?_⟩;have hl:=len _ _ _ _ yq;have old:∀b o,base.get? b=Δ o->s.heap.get? b=Δ o:=λb o e=>(e0.bs b o e).1;have lim:s.heap.NoLimit:=e0.mod.nolimit.keeps old;have NG:s.heap.CodeRec kU qual:=by obtain⟨c,rfl,hc⟩:=pX _ _ _ _ yq;exact(e0.aL c _ hc).1
 have G9:∀y∈ps.zip us,scope.names.lookup y.1=Δ .local:=λ⟨n,v⟩ hy=>S.par n (abg hy).1;refine PySem.W.kla_callFunE hr.depth (old _ _ lk) rfl S.co S.gen rfl NG (hb _ _ _ _ ?_);refine abo S.eR G9 (λdB Mq RK=>⟨lim.fresh _ RK,PySem.W.kla_codeExpr ?_⟩) S.kind;have hk:∀b o,s.heap.get? b=Δ o->dB.get? b=Δ o:=λb o e=>RK.extBut b o (YZ (YE e)) (Yl _ e);obtain⟨t,ht,hq⟩:=tU A outer s H vs Q E (hr.deeper _) yq;have I:=DG (CX:=CX) (qual:=qual) (f:=f) (cd:=kU) (tk:=s.toks+(ps.zip us).length) (E:=E) S C hr.hd e0 hl r Mq hk;refine Z5 (ht [] _ (start N (vs++b7)) H _ I hq) (λu s' hs=>?_) λe s' hs=>hs;obtain⟨v,H',J,rv,q⟩:=hs;exact⟨v,H',J.os,J.bare,J.base,J.aL,rv,q⟩
end
open Classical in
noncomputable def gQ(H:Hp):Hp:=λb=>match H b with|some (.ext φ)=>if ∃q,φ=dD b q then Δ ?QQ else Θ|o=>o
open Classical in
noncomputable def Aq(H H2:Hp):Hp:=λb=>match H b with|some (.ext φ)=>if ∃q,φ=dD b q then H2 b else Δ ?QQ|_=>H2 b
def CA(b:Addr)(φ:Heap->Prop):Prop:=∀q,φ≠dD b q
theorem kl(h:H b=Θ):gQ H b=Θ:=by unfold gQ;rw[h]
theorem yF(h:H b=Δ ?QQ)(hf:CA b φ):gQ H b=Θ:=by unfold gQ;rw[h];exact if_neg λ⟨q,e⟩=>hf q e
theorem gD(h:H b=Δ (.ext (dD b q))):gQ H b=Δ (.ext (dD b q)):=by unfold gQ;rw[h];exact if_pos ⟨q,rfl⟩
theorem lp(h:gQ H b=Δ o):H b=Δ o/\∀φ,o=.ext φ->¬CA b φ:=by
 unfold gQ at h;split at h
 ·rename_i φ e;split at h;·rename_i hq;cases h;obtain⟨q,hq⟩:=hq;exact⟨e,λψ z hf=>by cases z;exact hf q hq⟩
  ·cases h
 ·rename_i fm;exact⟨h,λφ z=>absurd (h.trans (by rw[z])) (fm φ)⟩
theorem bz(h:H b=Δ o)(fm:∀φ,o≠.ext φ):gQ H b=Δ o:=by unfold gQ;rw[h];cases o with|ext φ=>exact absurd rfl (fm φ)|_=>rfl
theorem DH(h:H b=Δ ?QQ)(hf:CA b φ):Aq H H2 b=Δ ?QQ:=by unfold Aq;rw[h];exact if_neg λ⟨q,e⟩=>hf q e
theorem ue(h:∀φ,H b=Δ ?QQ->¬CA b φ):Aq H H2 b=H2 b:=by
 unfold Aq;split;·rename_i φ q;have:∃q,φ=dD b q:=YT λz=>h φ q λq' e=>z ⟨q',e⟩;exact if_pos this
 ·rfl
noncomputable def r8(h:Heap)(H:Hp)(fs:List Addr):Heap:=PySem.W.hideAll (rV h (gQ H)) fs
theorem Ha h H fs:(r8 h H fs).objs.size=h.objs.size:=(PySem.W.hideAll_size _ _).trans (wW _ _)
theorem yG(e:h.get? b=Δ o)(n:gQ H b=Θ)(hb:b∉fs):(r8 h H fs).get? b=Δ o:=PySem.W.hideAll_get _ (zS e n) hb
theorem NI(e:(r8 h H fs).get? b=Δ o):h.get? b=Δ o/\gQ H b=Θ:=Dt (PySem.W.of_hideAll _ e)
theorem Hb(hb:b∈fs):(r8 h H fs).get? b=Θ:=PySem.W.hideAll_none _ hb
theorem kX.gQ{P:Zm}{w:World}{H:Hp}{h:Heap}(x:kX P w H h):kX P w (gQ H) h:=λa o e=>by obtain⟨e1,_⟩:=lp e;exact(x a o e1).n8 (λ_ _ _ z=>z) (λb z=>bz z (λ_ q=>nomatch q)) λb xs z=>bz z (λ_ q=>nomatch q)
theorem funFrames_base{h base Ar:Heap}:∀{l},(∀b∈j0 l,Ar.get? b=Θ)->h.FunFrames base l->h.FunFrames Ar l
 |[],_,_=>trivial|env::r,hb,⟨hk,⟨L,o,hf,hn,ho,hd⟩,hr⟩=>by
  have e:j0 (env::r)=L::j0 r:=by unfold j0;rw[aa5,hf]
  rw[e] at hb;exact⟨hk,⟨L,o,hf,hb L Yk,ho,hd⟩,funFrames_base (λb z=>hb b (Yi _ z)) hr⟩
section
variable{X:Cx}{η:List ?Qb}{σ:St}{H:Hp}{s s':YG}
theorem Inv.Hc(I:Inv X η σ H s)(e:X.base.get? b=Δ o):(r8 s.heap H (j0 X.stack)).get? b=Δ o:=by
 obtain⟨h1,h2⟩:=I.bs b o e;refine yG h1 (kl h2) λz=>?_;rcases aa2.mp (I.pW b z) with q|q;·have l1:=YE e;have l2:=I.ok.Ga;have l3:=I.ok.above;exact Z9 _ (YO l1 (Zc l2 (by rw[q];exact l3)))
 ·exact I.ok.JA e q
theorem Inv.Wu(I:Inv X η σ H s):Mod X.K X.mg ?QJ:=by have k:∀b o,X.base.get? b=Δ o->(r8 s.heap H (j0 X.stack)).get? b=Δ o:=λb o e=>I.Hc e;obtain⟨mb,h1,h2⟩:=I.mod.blt;exact⟨I.mod.MS.keeps k,I.mod.glob.keeps k,⟨mb,h1.keeps k,h2⟩,I.mod.nolimit.keeps k⟩
theorem Inv.RL(I:Inv X η σ H s):yo X.prog X.w X.K X.mg ?QJ X.A X.stack s (gQ H):=
 ⟨I.ok.frames,I.Wu,λb o e=>NI e,acx (Ha _ _ _),funFrames_base (λb hb=>Hb hb) I.stack,λb hb=>kl (I.oa b hb),I.aL.gQ,I.bare⟩
theorem Inv.NJ(I:Inv X η σ H s)(h:CE X.stack X.prog X.w (gQ H) s Q u s'):EP X η σ (λv H3=>∃H2,H3=Aq H H2/\(∀b φ,H b=Δ ?QQ->CA b φ->H2 b=Θ)/\Q v H2) u s':=by
 obtain⟨v,H2,os,bare,un,aL,r,q⟩:=h;have JA:∀b φ,H b=Δ ?QQ->b∉j0 X.stack:=λb φ e z=>by rw[I.oa b z] at e;cases e
 have kept:∀b φ,H b=Δ ?QQ->CA b φ->H2 b=Θ/\φ s'.heap/\∃o,s'.heap.get? b=Δ o:=λb φ e hf=>by obtain⟨p1,⟨o,p2⟩,p3⟩:=I.aL b _ e;have k1:=un.keep b o p2 (yF e hf) (JA b φ e) ?E;exact⟨un.free b o p2 (yF e hf) ?E,p3 _ _ p1 (λo' pV=>by rw[p2] at pV;cases pV;exact k1),o,k1⟩
 have mono:∀b o,H2 b=Δ o->Aq H H2 b=Δ o:=λb o e=>by rw[ue λφ z hf=>by rw[(kept b φ z hf).1] at e;cases e];exact e
 refine I.after ⟨v,Aq H H2,os,bare,⟨λb o e n hb hx=>un.keep b o e (kl n) hb hx,λb o e n hb hx=>un.slot b o e (kl n) hb hx,λb o e n hx=>?_,λb o e hx=>un.there b o e hx,λb xs e=>?_,λb o x e=>?_,λb ps e=>?_⟩,λb o e=>?_,r,H2,rfl,λb φ e hf=>(kept b φ e hf).1,q⟩;·rw[ue λφ z _=>by rw[n] at z;cases z];exact un.free b o e (kl n) hx
 ·exact mono _ _ (un.tI b xs (bz e (λ_ z=>nomatch z)))
 ·exact mono _ _ (un.pU b o x (bz e (λ_ z=>nomatch z)))
 ·obtain⟨more,e2⟩:=un.rT b ps (bz e (λ_ z=>nomatch z));exact⟨more,mono _ _ e2⟩
 ·by_cases c:∃φ,H b=Δ ?QQ/\CA b φ;·obtain⟨φ,c,hf⟩:=c;rw[DH c hf] at e;cases e;obtain⟨_,_,p3⟩:=I.aL b _ c;obtain⟨_,k2,k3⟩:=kept b φ c hf;exact⟨k2,k3,p3⟩
  ·rw[ue λφ z hf=>c ⟨φ,z,hf⟩] at e;exact(aL b o e).n8 (λ_ _ _ z=>z) (λb' z=>mono _ _ z) λb' xs z=>mono _ _ z
theorem Kg(I:Inv X η σ H s)(F:gR X.prog X.w X.K X.mg ?QJ vU k f fd ps sp)(hr:dj k X.A)(hb:adb s fd ⟨us,[]⟩ (ps.zip us))(r:aU vs us)(h:sp vs (gQ H) Q E0):wpAny ?G X.A (call (.ref f) us) (EP X η σ (λv H3=>∃H2,H3=Aq H H2/\(∀b φ,H b=Δ ?QQ->CA b φ->H2 b=Θ)/\Q v H2)) X.xe s:=by refine adU (acv (F.run X.A X.stack s (gQ H) ⟨us,[]⟩ us vs Q E0 hr I.RL hb r h) λr s' hq=>?_);cases r with|error e=>exact ZE hq|ok fl=>cases fl with|ret u=>exact I.NJ hq|next=>exact ZE hq|brk=>exact ZE hq|cont=>exact ZE hq
def NK(X:Cx)(i:Nat)(t:TA):TE:=λσ H Q=>∃a,σ[i]?=Δ (Δ ?QT)/\(∃oc od fd sl,X.base.get? a=Δ ⟨oc,od,.func fd,sl⟩)/\t σ H λvs H1=>∃k fd ps sp,gR X.prog X.w X.K X.mg X.base vU k a fd ps sp/\dj k X.A/\Binds X.K fd ps []/\sp vs H1 Q E0
theorem Hd(hN:X.N[i]?=Δ x)(hv:Qu X.env.scope x)(ha:PA X (e::es) t)(hd:(x==("__debug__":Str))=Ξ:=by decide)(pX:(x==("__classdict__":Str))=Ξ:=by decide)(he:YX (e::es) X.env=(Ξ,eval e X.env)::YX es X.env:=by rfl)(zK:(aax pos (YX es X.env)).any (·.1)=Ξ:=by rfl):
  PE X ?QG (NK X i t):=by
 intro η s σ H Q I h;obtain⟨a,ea,⟨oc,od,fd0,sl,eo⟩,h⟩:=h;refine ZN (Z5 (BY (pos:=p) hN hv hd pX η s σ H (λv H'=>v=.ref a/\H'=H) I ⟨_,ea,rfl,rfl⟩) (λu s0 ⟨v,H0,I0,rv,ev,eH⟩=>?_) λ_ _ z=>z);subst ev;subst eH;obtain rfl:u=YW a:=rv;have RM:∀{η:List ?Qb} {σ:St} {H:Hp} {s:YG},Inv X η σ H s->PySem.W.FnAt a s.heap:=λJ=>⟨oc,od,fd0,sl,J.bk _ _ eo⟩;refine PySem.W.callWith_F (RM I0) (bW (ha pos η s0 σ H0 _ I0 h) λus s1 ⟨vs,H1,I1,r,k,fd,ps,sp,F,hr,hb,q⟩=>⟨RM I1,?_⟩) he zK;exact tQ F hr hb (dvs:=[]) (ds:=[]) (E:=E0) .nil (λ_ _ _ _ _ _ _ z=>z.elim) I1 r (by rw[Zo];exact q)
end
def fV(H:Hp)(bX:List (Pos×Str))(ps:Array Value):Prop:=acy ps.toList/\∀p∈bX,∀cv,aa7 p.1 ps.toList=Δ cv->∃c,cv=.ref c/\H c=Δ (.ext (dD c p.2))
noncomputable def BMain(mg:Str->Option Value)(B:Heap):Prop:=∃bm ob,mg "__builtins__"=Δ (.ref bm)/\bm≠ac7/\B.get? bm=Δ ob/\ob.cls=.type "module"/\ob.dict=Δ ac7/\ob.data=.plain
structure Made(H H':Hp)(P f c:Addr)(bX:List (Pos×Str))(q:Str)(φ:Heap->Prop):Prop where
 fresh:H f=Θ
 fn:H' f=Δ ?QQ
 code:H' c=Δ (.ext (dD c q))
 tab:∃ps,H' P=Δ (.fO ps)/\fV H' bX ps
 keep:∀b u,H b=Δ u->b≠P->H' b=Δ u
 grow:∀ps,H P=Δ (.fO ps)->∃more,H' P=Δ (.fO (ps++more))
 new:∀b,H b=Θ->H' b=Θ\/∃ψ,H' b=Δ (.ext ψ)
theorem oF:∀(l),acy l->acy (l++[.int i ti,.int j tj,c])
 |[],_=>trivial|.int _ _::.int _ _::_::rest,h=>oF rest h
theorem mO{pos p:Pos}(fm:¬(p.line=pos.line/\p.col=pos.col)):∀(l),acy l->aa7 pos (l++[aaw p.line,aaw p.col,c])=aa7 pos l
 |[],_=>by show(if((p.line:Int)==(pos.line:Int)&&(p.col:Int)==(pos.col:Int))=Λ then Δ c else Θ)=Θ;rw[if_neg];rw[Yj,beq_iff_eq,beq_iff_eq];rintro⟨a,b⟩;exact fm ⟨by lia,by lia⟩
 |.int a ta::.int b tb::d::rest,h=>by have ih:=mO (c:=c) fm rest h;simp only[aat,aa7];rw[ih]
theorem r9 l(h:acy l)(hn:aa7 p l=Θ):aa7 p (l++[aaw p.line,aaw p.col,c])=Δ c:=codeAmong_snoc l h hn
theorem As{p:Pos}(h:acy l):acy (l++[aaw p.line,aaw p.col,c]):=oF l h
def Apart(bX:List (Pos×Str)):Prop:=∀p∈bX,∀q∈bX,p.1.line=q.1.line/\p.1.col=q.1.col->p=q
section
variable{X:Cx}{η:List ?Qb}{σ:St}{H:Hp}{s:YG}
theorem Inv.Au(Wv:fo.isFreed=Ξ)(I:Inv X η σ H s)(hP:H P=Δ (.fO ps))(tb:fV H bX ps)(hs:(pos,q)∈bX)(ap:Apart bX)(hnf:aa7 pos ps.toList=Θ)(hx:Heap.ExtBut P s.heap h')(NL:?C<=c')(fT:c' < ?Zc)(yH:h'.CodeRec (.ref c') q)(P8:h'.get? P=Δ (aa8 (ps++#[aaw pos.line,aaw pos.col,.ref c'])))(hf:f=?Zc)φ(h1:φ (h'.push fo))(h2:∀g1 g2:Heap,φ g1->(∀o,g1.get? f=Δ o->g2.get? f=Δ o)->φ g2):
  ∃H',Inv X η σ H' {s with heap:=h'.push fo,toks:=tk}/\Made H H' P f c' bX q φ:=by
 have NM:s.heap.get? P=Δ (aa8 ps):=I.aL P _ hP;have lP:P < s.heap.objs.size:=YE NM;have fr:∀b,?C<=b->H b=Θ:=λb hb=>I.aL.fresh hb;have lcf:c' < f:=by rw[hf];exact fT
 have NN:?C < f:=Nat.lt_of_le_of_lt NL lcf;have nPc:c'≠P:=Zx (YO lP NL);have nPf:f≠P:=Zx (ab0 lP NN);have ncf:f≠c':=Zx lcf;have Ux:∀b,b < ?C->b≠c'/\b≠f:=λb hb=>⟨YZ (YO hb NL),YZ (ab0 hb NN)⟩;obtain⟨cc,oc,vs,tt,ecc,MU,hd,hv⟩:=yH;cases ecc
 let H':Hp:=upd (upd (upd H P (.fO (ps++#[aaw pos.line,aaw pos.col,.ref c']))) c' (.ext (dD c' q))) f ?QQ
 have eP:H' P=Δ (.fO (ps++#[aaw pos.line,aaw pos.col,.ref c'])):=by show upd _ _ _ P=_;rw[ax (Zq nPf),ax (Zq nPc),aD]
 have ec:H' c'=Δ (.ext (dD c' q)):=by show upd _ _ _ c'=_;rw[ax (Zq ncf),aD]
 have ef:H' f=Δ ?QQ:=aD;have eo:∀b,b≠P->b≠c'->b≠f->H' b=H b:=λb n1 n2 n3=>by show upd _ _ _ b=_;rw[ax n3,ax n2,ax n1]
 have hsf:?C<=f:=aby NN;have hold:∀b u,H b=Δ u->b≠P->H' b=Δ u:=λb u e n=>by
  have hb:b < s.heap.objs.size:=by
   rcases Nat.lt_or_ge b ?C with z|z;·exact z
   ·rw[fr b z] at e;cases e
  rw[eo b n (Ux b hb).1 (Ux b hb).2];exact e
 have kp:∀b o,b≠P->s.heap.get? b=Δ o->(h'.push fo).get? b=Δ o:=λb o n e=>Yl _ (hx b o n e);refine⟨H',I.Gk (ch:=[]) rfl ⟨λb o e n _ _=>?_,λb o e n _ _=>⟨o.slots,?_⟩,λb o e n _=>?_,λb o e _=>?_,λb xs e=>?_,λb o x e=>?_,λb qs e=>?_⟩ (λb o e=>?_) I.bare (λb z=>absurd z ?E),⟨fr f hsf,ef,ec,⟨_,eP,?_,?_⟩,hold,λqs e=>⟨#[aaw pos.line,aaw pos.col,.ref c'],?_⟩,λb n=>?_⟩⟩;·exact kp b o (λz=>by rw[z,hP] at n;cases n) e
 ·exact kp b o (λz=>by rw[z,hP] at n;cases n) e
 ·have lb:=YE e;rw[eo b (λz=>by rw[z,hP] at n;cases n) (Ux b lb).1 (Ux b lb).2];exact n
 ·by_cases z:b=P;·subst z;exact⟨_,Yl _ P8⟩
  ·exact⟨o,kp b o z e⟩
 ·exact hold b _ e λz=>by rw[z,hP] at e;cases e
 ·exact hold b _ e λz=>by rw[z,hP] at e;cases e
 ·by_cases z:b=P;·subst z;rw[hP] at e;cases e;exact⟨_,eP⟩
  ·exact⟨#[],by rw[hold b _ e z];simp⟩
 ·by_cases z1:b=f;·subst z1;rw[ef] at e;cases e;exact⟨h1,⟨fo,by rw[hf];exact YD _ Wv⟩,h2⟩
  ·by_cases z2:b=c';·subst z2;rw[ec] at e;cases e;refine⟨⟨b,oc,vs,tt,rfl,Yl _ MU,hd,hv⟩,⟨oc,Yl _ MU⟩,λg1 g2 ⟨c2,o2,v2,t2,e2,a2,r2⟩ k=>?_⟩;cases e2;exact⟨b,o2,v2,t2,rfl,k _ a2,r2⟩
   ·by_cases z3:b=P;·subst z3;rw[eP] at e;cases e;exact Yl _ P8
    ·rw[eo b z3 z2 z1] at e;refine(I.aL b o e).n8 (λb' u jk eu=>?_) (λb' z=>hold b' _ z λy=>by rw[y,hP] at z;cases z) λb' xs z=>hold b' _ z λy=>by rw[y,hP] at z;cases z
     refine kp b' u (λy=>?_) eu;rcases jk with w1|w1;·exact z3 (w1▸y)
     ·rw[y,hP] at w1;cases w1
 ·rw[Array.toList_append];exact As tb.1
 ·intro p hp cv BV;rw[Array.toList_append] at BV;by_cases z:pos.line=p.1.line/\pos.col=p.1.col;·have e:=ap (pos,q) hs p hp z;subst e;have:aa7 pos (ps.toList++[aaw pos.line,aaw pos.col,.ref c'])=Δ (.ref c'):=r9 _ tb.1 hnf;have RN:aa7 pos (ps.toList++[aaw pos.line,aaw pos.col,.ref c'])=Δ cv:=BV;rw[this] at RN;cases RN;exact⟨c',rfl,ec⟩
  ·have:aa7 p.1 (ps.toList++[aaw pos.line,aaw pos.col,.ref c'])=Δ cv:=BV;rw[mO z _ tb.1] at this;obtain⟨c,e1,e2⟩:=tb.2 p hp cv this;exact⟨c,e1,hold c _ e2 λy=>by rw[y,hP] at e2;cases e2⟩
 ·rw[hP] at e;cases e;exact eP
 ·by_cases z1:b=f;·subst z1;exact .inr ⟨_,ef⟩
  ·by_cases z2:b=c';·subst z2;exact .inr ⟨_,ec⟩
   ·have z3:b≠P:=λy=>by rw[y,hP] at n;cases n
    rw[eo b z3 z2 z1];exact .inl n
theorem Inv.Av{h':Heap}(Wv:fo.isFreed=Ξ)(I:Inv X η σ H s)(hP:H P=Δ (.fO ps))(tb:fV H bX ps)(pX:H c'=Δ (.ext (dD c' q)))(hk:∀b o,s.heap.get? b=Δ o->h'.get? b=Δ o)(hsz:?C<=?Zc)(hf:f=?Zc)φ(h1:φ (h'.push fo))(h2:∀g1 g2:Heap,φ g1->(∀o,g1.get? f=Δ o->g2.get? f=Δ o)->φ g2):
  ∃H',Inv X η σ H' {s with heap:=h'.push fo,toks:=tk}/\Made H H' P f c' bX q φ:=by
 have NN:?C<=f:=by rw[hf];exact hsz
 have hn:H f=Θ:=I.aL.fresh NN;have kp:∀b o,s.heap.get? b=Δ o->(h'.push fo).get? b=Δ o:=λb o e=>Yl _ (hk b o e);have hold:∀b u,H b=Δ u->upd H f ?QQ b=Δ u:=λb u e=>by rw[ax (aN e hn)];exact e
 refine⟨upd H f ?QQ,I.Gk (ch:=[]) rfl (Un.laid kp NN hn) (I.aL.laid kp NN ⟨h1,⟨fo,by rw[hf];exact YD _ Wv⟩,h2⟩) I.bare (λb z=>absurd z ?E),⟨hn,aD,hold _ _ pX,⟨ps,hold _ _ hP,tb.1,λp hp cv BV=>?_⟩,λb u e _=>hold b u e,λqs e=>⟨#[],by rw[hold _ _ e];simp⟩,λb n=>?_⟩⟩;·obtain⟨c,e1,e2⟩:=tb.2 p hp cv BV;exact⟨c,e1,hold _ _ e2⟩
 ·by_cases z:b=f;·subst z;exact .inr ⟨_,aD⟩
  ·rw[ax z];exact .inl n
structure Maker(X:Cx)(c P:Addr)(bX:List (Pos×Str)):Prop where
 code:X.env.code=.ref c
 hd:aay X.base c P
 bm:BMain X.mg X.base
 ap:Apart bX
theorem Maker.bt(M:Maker X c P bX)(I:Inv X η σ H s)(hP:H P=Δ (.fO ps)):YB≠P/\s.heap.BuiltinsAt X.mg P:=by
 obtain⟨bm,ob,b1,b2,b3,b4,b5,b6⟩:=M.bm;obtain⟨og,es,ep,g1,g2,_⟩:=I.mod.glob;have n1:YB≠P:=λz=>by have:=(I.bs _ _ g1).2;rw[z,hP] at this;cases this
 have n2:bm≠P:=λz=>by have:=(I.bs _ _ b3).2;rw[z,hP] at this;cases this
 have n3:bm≠YB:=λz=>by rw[z,g1] at b3;cases b3;rw[g2] at b6;cases b6
 exact⟨n1,bm,ob,b1,b2,n3,n2,I.bk _ _ b3,b4,b5,b6⟩
noncomputable def Ww(f:Addr)(qual:Str)(params:aaS)(body:Expr)(scope:Scope)(CB:List (Str×Addr))(pm:Value)(c:Addr)(ct:Value):Heap->Prop:=λh=>h.get? f=Δ (PySem.W.kla_obj "<lambda>" qual params body scope CB pm c ct)
def Wx(X:Cx)(P:Addr)(bX:List (Pos×Str))(qual:Str)(φ:Addr->Addr->Value->Heap->Prop):TE:=λσ H Q=>∃ps,H P=Δ (.fO ps)/\fV H bX ps/\
 ∀f c ct H',Made H H' P f c bX qual (φ f c ct)->Q (.ref f) H'
theorem NO(M:Maker X c P bX)(hs:(pos,X.env.qual++"<lambda>")∈bX)(Wy:defaultsOf params X.env=([],[]))(yE:acz scope X.env=pure CB)(h1:∀f c ct h,Ww f (X.env.qual++"<lambda>") params body scope CB ((X.mg "__name__").getD .none) c ct h->φ f c ct h)(h2:∀f c ct (g1 g2:Heap),φ f c ct g1->(∀o,g1.get? f=Δ o->g2.get? f=Δ o)->φ f c ct g2):
  PE X (.Lambda params body scope pos) (Wx X P bX (X.env.qual++"<lambda>") φ):=by
 intro η s σ H Q I h;obtain⟨ps,hP,tb,h⟩:=h;have NM:s.heap.get? P=Δ (aa8 ps):=I.aL P _ hP;obtain⟨Wz,hb⟩:=M.bt I hP;have hg:s.heap.Ns YB X.mg:=I.mod.glob.keeps I.bk;refine PySem.W.kla_eval Wy ?_;cases hf:aa7 pos ps.toList with|none=>refine PySem.W.kla_makeFunction yE I.ok.glob hg M.code (M.hd.keeps I.bk) NM tb.1 hf Wz hb λc' NP h' tk hx NL fT yH P8=>?_;obtain⟨H',I',md⟩:=Inv.Au rfl I (f:=?Zc) (tk:=tk) hP tb hs M.ap hf hx NL fT yH P8 rfl (φ ?Zc c' NP) (h1 _ _ _ _ (YD _ rfl)) (h2 _ _ _);exact⟨.ref ?Zc,H',I',rfl,h _ _ _ _ md⟩|some cv=>obtain⟨c',rfl,pX⟩:=tb.2 _ hs cv hf;refine PySem.W.kla_makeFunctionHit yE I.ok.glob hg M.code (M.hd.keeps I.bk) NM tb.1 hf hb λNP h' tk hk hsz=>?_;obtain⟨H',I',md⟩:=Inv.Av rfl I (f:=?Zc) (tk:=tk) hP tb pX hk hsz rfl (φ ?Zc c' NP) (h1 _ _ _ _ (YD _ rfl)) (h2 _ _ _);exact⟨.ref ?Zc,H',I',rfl,h _ _ _ _ md⟩
noncomputable def WA(f:Addr)(name qual:Str)(params:aaS)(body:List Stmt)(scope:Scope)(CB:List (Str×Addr))(doc pm:Value)(c:Addr)(ct:Value):Heap->Prop:=λh=>h.get? f=Δ (PySem.W.fnMade name qual params body scope CB doc pm c ct)
def WB(X:Cx)(i:Nat)(P:Addr)(bX:List (Pos×Str))(qual:Str)(φ:Addr->Addr->Value->Heap->Prop):TS:=λD σ H=>∃ps,H P=Δ (.fO ps)/\fV H bX ps/\
 ∀f c ct H',Made H H' P f c bX qual (φ f c ct)->D.nx (σ.set i (Δ (.ref f))) H'
theorem NQ(M:Maker X c P bX)(hs:(pos,acb X.env name name)∈bX)(hd0:params.defaults=[])(RO:params.kw_defaults=[])(ha:annTrees params Θ X.env=[])(yE:acz scope X.env=pure CB)(hN:X.N.Nodup)(hi:X.N[i]?=Δ name)(hx:Loc X.env.scope name)(Gb:X.fn name=Λ\/X.env.scope.names.lookup name=Δ .local)(h1:∀f c ct doc h,WA f name (acb X.env name name) params body scope CB doc ((X.mg "__name__").getD .none) c ct h->φ f c ct h)(h2:∀f c ct (g1 g2:Heap),φ f c ct g1->(∀o,g1.get? f=Δ o->g2.get? f=Δ o)->φ f c ct g2):
  PS X (.FunctionDef name params body [] Θ [] scope Θ name pos) (WB X i P bX (acb X.env name name) φ):=by
 intro η s σ H D I h;obtain⟨ps,hP,tb,h⟩:=h;have NM:s.heap.get? P=Δ (aa8 ps):=I.aL P _ hP;obtain⟨Wz,hb⟩:=M.bt I hP;have hg:s.heap.Ns YB X.mg:=I.mod.glob.keeps I.bk;refine PySem.W.nestDef_K hd0 RO ha ?_;cases hf:aa7 pos ps.toList with|none=>refine PySem.W.makeFunction_K yE I.ok.glob hg M.code (M.hd.keeps I.bk) NM tb.1 hf Wz hb λc' NP doc h' tk sQ NL fT yH P8=>?_;obtain⟨H',I',md⟩:=Inv.Au rfl I (f:=?Zc) (tk:=tk) hP tb hs M.ap hf sQ NL fT yH P8 rfl (φ ?Zc c' NP) (h1 _ _ _ doc _ (YD _ rfl)) (h2 _ _ _);exact oh I' hN hi hx (v:=.ref ?Zc) rfl (λs' I2=>⟨_,H',I2,h _ _ _ _ md⟩) Gb|some cv=>obtain⟨c',rfl,pX⟩:=tb.2 _ hs cv hf;refine PySem.W.makeFunction_hit yE I.ok.glob hg M.code (M.hd.keeps I.bk) NM tb.1 hf hb λNP doc h' tk hk hsz=>?_;obtain⟨H',I',md⟩:=Inv.Av rfl I (f:=?Zc) (tk:=tk) hP tb pX hk hsz rfl (φ ?Zc c' NP) (h1 _ _ _ doc _ (YD _ rfl)) (h2 _ _ _);exact oh I' hN hi hx (v:=.ref ?Zc) rfl (λs' I2=>⟨_,H',I2,h _ _ _ _ md⟩) Gb
end
def DI(tabs:List (Addr×Addr))(H:Hp):Prop:=(∀b,H b=Θ\/(∃o xs,H b=Δ (.dA o ?QX))\/(H b=Δ (.fO #[])/\b∈tabs.map (·.2)))/\∀q∈tabs,H q.2=Δ (.fO #[])
theorem E5{K:Yw}{sp:Heap->Sp}(KX:K.In bD.heap)(Mq:bD.heap.Ns YB mg)(hb:bD.heap.Ns ac7 mb)(hbb:∀x:Str,x≠"__name__"->mb x=abv x)(WC:bD.heap.NoLimit)(hg:bD.gens=#[])(hT:PySem.W.TabsAt tabs bD.heap)(WD:tabs≠[]->abU K=Λ)(hbm:BMain mg bD.heap)(ha:bD.heap.get? a=Δ {cls:=.type "list",data:=.seq vs.toArray})(hi:IntsAre vs ns)(hl:ns.length<=YQ)(hr:dj k adt)(F:∀base:Heap,K.In base->base.Ns YB mg->(∀q∈tabs,aay base q.1 q.2)->BMain mg base->gR P w K mg base CX k fa fd [x] (sp base))(He:∀(s:YG) (u:Value),adb s fd ⟨[u],[]⟩ [(x,u)])(yq:∀(base:Heap) (H:Hp),(∀q∈tabs,aay base q.1 q.2)->BMain mg base->DI tabs H->mB K H a (ns.map V.int)->sp base [.ref a] H (λv _=>v=.bl Λ) λ_ _ _=>False)(WE:∀H e s',CX [] H bD (λ_ _ _=>False) e s'->False):
  ach (model P w) adt (.call (.ref fa) ⟨[.ref a],[]⟩) (λr s'=>r=.ok (.ret (.bool Λ))/\OldK bD.heap s'.heap/\s'.os=bD.os/\acL s'.gens) bD:=by
 have rv:=xa hi;have WG:=hi.length;have E6:∀b,b∈tabs.map (·.2)->bD.heap.get? b=Δ (aa8 #[]):=λb hb=>by obtain⟨q,hq,rfl⟩:=aad.mp hb;exact(hT q hq).2
 have aT:a∉tabs.map (·.2):=λz=>by have:=E6 a z;rw[ha] at this;cases this
 have core:∀H:Hp,DI tabs H->mB K H a (ns.map V.int)->kX P w H bD.heap->(∀b,H b≠Θ->b=a\/b∈tabs.map (·.2))->(H a≠Θ->K.lookup a=Θ)->
   ach (model P w) adt (.call (.ref fa) ⟨[.ref a],[]⟩) (λr s'=>r=.ok (.ret (.bool Λ))/\OldK bD.heap s'.heap/\s'.os=bD.os/\acL s'.gens) bD:=by
  intro H hO hS aL hA hK;have sU:∀{b:Addr} {o:Obj},bD.heap.get? b=Δ o->H b=Θ->(rV bD.heap H).get? b=Δ o:=λe n=>zS e n;have Jk:∀{b:Addr} {o:Obj},bD.heap.get? b=Δ o->o.cls≠.none->(∀its n,o.data≠.seq its n)->H b=Θ:=λ{b o} e d1 d2=>by
   cases q:H b with
   |none=>rfl|some u=>
    rcases hA b (by rw[q];simp) with e'|e';·subst e';rw[ha] at e;cases e;exact absurd rfl (d2 _ _)
    ·rw[E6 b e'] at e;cases e;exact absurd rfl d1
  have noD:∀{b:Addr} {o:Obj} {es:Array DictEntry} {ep:Nat},bD.heap.get? b=Δ o->o.data=.dict es ep->H b=Θ:=λ{b o es ep} e d=>by
   cases q:H b with
   |none=>rfl|some u=>
    rcases hA b (by rw[q];simp) with e'|e';·subst e';rw[ha] at e;cases e;cases d
    ·rw[E6 b e'] at e;cases e;cases d
  have Uy:∀{b:Addr} {m:Str->Option Value},bD.heap.Ns b m->(rV bD.heap H).Ns b m:=λ{b m} ⟨o,es,ep,e,d,r⟩=>⟨o,es,ep,sU e (noD e d),d,r⟩;have hKb:K.In (rV bD.heap H):=λb o e=>sU (KX b o e) (by
   cases q:H b with
   |none=>rfl|some u=>
    rcases hA b (by rw[q];simp) with e'|e';·subst e';rw[hK (by rw[q];simp)] at e;cases e
    ·have e2:=KX b o e;rw[E6 b e'] at e2;cases e2;have h2:=Zz.mp (WD λz=>by rw[z] at e';cases e') _ (PySem.W.mem_of_lookupK e);exact absurd (show Ξ=Λ from h2) Zh)
  have hM:Mod K mg (rV bD.heap H):=⟨hKb,Uy Mq,⟨mb,Uy hb,hbb⟩,let ⟨mc,h1,h2⟩:=WC;⟨mc,Uy h1,h2⟩⟩;have e0:yo P w K mg (rV bD.heap H) adt [] bD H:=⟨rfl,hM,λb o e=>Dt e,acx (wW _ _),trivial,λb hb=>absurd (show b∈([]:List Addr) from hb) ?E,aL,.of_eq hg⟩;have pX:∀q∈tabs,aay (rV bD.heap H) q.1 q.2:=λq hq=>by obtain⟨o,us,file,tf,flags,tg,inF,text,tt,e1,r1,r2,r⟩:=(hT q hq).1;exact⟨o,us,file,tf,flags,tg,inF,text,tt,sU e1 (Jk e1 (by rw[r1];nofun) (by rw[r2];nofun)),r1,r2,r⟩
  have RP:BMain mg (rV bD.heap H):=by obtain⟨bm,ob,b1,b2,b3,b4,b5,b6⟩:=hbm;exact⟨bm,ob,b1,b2,sU b3 (Jk b3 (by rw[b4];nofun) (by rw[b6];nofun)),b4,b5,b6⟩
  refine acv ((F _ hKb (Uy Mq) pX RP).run adt [] bD H ⟨[.ref a],[]⟩ [.ref a] [.ref a] _ _ hr e0 (He bD ?QT) (.cons rfl .nil) (yq _ H pX RP hO hS)) λr s' h=>?_;cases r with
  |error e=>exact(WE H e s' h).elim|ok fl=>
   cases fl with
   |next=>exact ZE h|brk=>exact ZE h|cont=>exact ZE h|ret u=>
    obtain⟨v,H',os,bare,un,RQ,r',q⟩:=h;have q':v=.bl Λ:=q;subst q';obtain rfl:u=abK Λ:=r';have way:∀b o,bD.heap.get? b=Δ o->s'.heap.get? b=Δ o\/(isCodeTable bD.heap b/\o=aa8 #[]/\∃ps,s'.heap.get? b=Δ (aa8 ps)):=λb o e=>by
     rcases hO.1 b with z|⟨ob,xs,z⟩|⟨z,zt⟩;·exact .inl (un.keep b o e z (by intro z;exact absurd (show b∈([]:List Addr) from z) ?E) ?E)
     ·have z2:=un.pU b ob _ z;obtain⟨e1,_⟩:=aL b _ z;obtain⟨e2,_⟩:=RQ b _ z2;rw[e] at e1;cases e1;exact .inl e2
     ·obtain⟨more,z2⟩:=un.rT b _ z;have e2:=RQ b _ z2;have e3:=E6 b zt;rw[e] at e3;obtain⟨q,hq,rfl⟩:=aad.mp zt;exact .inr ⟨((hT q hq).1.tab (hT q hq).2).isCodeTable,Y0 e3,_,e2⟩
    refine⟨rfl,⟨λb o e=>?_,λb o e=>?_⟩,os,bare⟩
    ·rcases way b o e with z|⟨z1,rfl,ps,z2⟩;·exact .inl z
     ·exact .inr (.inl ⟨z1,rfl,#[],ps,rfl,by rw[Array.empty_append];exact z2⟩)
    ·rcases way b o e with z|⟨_,_,ps,z2⟩;·exact⟨o,z⟩
     ·exact⟨_,z2⟩
 have tb:∀(b:Addr) (u:HO),u=.fO #[]->b∈tabs.map (·.2)->∀H:Hp,bL P w H bD.heap b u:=λb u e hb H=>by rw[e];exact E6 b hb
 let H0:Hp:=λb=>if b∈tabs.map (·.2) then Δ (.fO #[]) else Θ
 cases hk:K.lookup a with
 |some o=>
  have e:=KX a o hk;rw[ha] at e;cases e;refine core H0 ⟨λb=>?_,λq hq=>if_pos (abC hq)⟩ (.inr ⟨_,vs.toArray,_,hk,rfl,rfl,rfl,by rw[YC,WG];exact hl,by simpa using rv⟩) (λb u z=>?_) (λb z=>.inr ?_) λz=>absurd (if_neg aT) z
  ·by_cases hb:b∈tabs.map (·.2);·exact .inr (.inr ⟨if_pos hb,hb⟩)
   ·exact .inl (if_neg hb)
  ·by_cases hb:b∈tabs.map (·.2);·have z':=(if_pos hb).symm.trans z;exact tb b u (Y0 z').symm hb _
   ·have z':=(if_neg hb).symm.trans z;cases z'
  ·by_cases hb:b∈tabs.map (·.2);·exact hb
   ·exact absurd (if_neg hb) z
 |none=>
  let H1:Hp:=λb=>if b=a then Δ (.dA {cls:=.type "list",data:=.seq vs.toArray} (.lst (ns.map V.int))) else H0 b
  have Uz:∀b,b≠a->H1 b=H0 b:=λb hb=>if_neg hb;refine core H1 ⟨λb=>?_,λq hq=>?_⟩ (.inl (.inr ⟨{cls:=.type "list",data:=.seq vs.toArray},if_pos rfl⟩)) (λb u z=>?_) (λb z=>?_) λ_=>hk
  ·by_cases hb:b=a;·exact .inr (.inl ⟨_,_,if_pos hb⟩)
   ·rw[Uz b hb];by_cases xi:b∈tabs.map (·.2);·exact .inr (.inr ⟨if_pos xi,xi⟩)
    ·exact .inl (if_neg xi)
  ·rw[Uz q.2 λz=>aT (z▸abC hq)];exact if_pos (abC hq)
  ·by_cases hb:b=a;·have z':=(if_pos hb).symm.trans z;cases z';subst hb;exact⟨ha,by rw[Yr];exact hl,vs,_,rv,ha⟩
   ·rw[Uz b hb] at z;by_cases xi:b∈tabs.map (·.2);·have z':=(if_pos xi).symm.trans z;exact tb b u (Y0 z').symm xi _
    ·have z':=(if_neg xi).symm.trans z;cases z'
  ·by_cases hb:b=a;·exact .inl hb
   ·rw[Uz b hb] at z;by_cases xi:b∈tabs.map (·.2);·exact .inr xi
    ·exact absurd (if_neg xi) z
theorem Hf{l:adi}{K:Params->Yw}{CX:World->Jj}{sp:World->(Str->Option Value)->List (Addr×Addr)->Heap->Sp}xs(hn:l.most=Δ n)(Ud:n<=YQ)(Ra:d.params.defaults=[])(hr:dj k adt)(hY:∀(w:World) (h:Heap),YP w h->(K w.params).In h)(yH:∀y∈xs,∃dr,(recsOf q).find? (λe=>e.name==y)=Δ dr)(F:∀(w:World) (mg:Str->Option Value) (fa:Addr) (h:Heap),(K w.params).In h->h.Ns YB mg->mg d.name=Δ (.ref fa)->
   (xs≠[]->abU (K w.params)=Λ)/\∃(tabs:List (Addr×Addr)) (fd:aao),xs.map (aau (K w.params))=tabs.map Δ/\(∀(s:YG) (u:Value),adb s fd ⟨[u],[]⟩ [(x,u)])/\
    (∀base:Heap,(K w.params).In base->base.Ns YB mg->(∀q∈tabs,aay base q.1 q.2)->BMain mg base->gR l.prog w (K w.params) mg base (CX w) k fa fd [x] (sp w mg tabs base))/\
    ∀(base:Heap) (H:Hp) (a:Addr) (ns:List Int),ns.length<=n->(∀q∈tabs,aay base q.1 q.2)->BMain mg base->DI tabs H->mB (K w.params) H a (ns.map V.int)->sp w mg tabs base [.ref a] H (λv _=>v=.bl Λ) λ_ _ _=>False)(WE:∀(w:World) (H:Hp) (s:YG) (e:Value) (s':YG),CX w [] H s (λ_ _ _=>False) e s'->False):
  PySem.W.WalkO q loose XP YP l.row.toRowW d [] (λf vs=>adZ f vs):=by
 refine Att.Af hn Ra λw ig bD mg mb fa o pm cd doc a vs ns G Y ho hd pX Rb EV hints hlen hg=>?_;have KX:=hY w _ Y;obtain⟨WD,tabs,fd,NR,hb,hF,yq⟩:=F w mg fa _ KX G.T.g Rb;have hT:PySem.W.TabsAt tabs bD.heap:=λt ht=>by
  have hm:Δ t∈xs.map (aau (K w.params)):=by rw[NR];exact abC ht
  obtain⟨y,hy,e⟩:=aad.mp hm;obtain⟨dr,hdr⟩:=yH y hy;exact PySem.W.tab_of G.T KX hdr e
 exact E5 KX G.T.g G.T.b G.T.builtins G.T.nolimit hg hT (λz=>WD λy=>z (by rw[y] at NR;exact List.map_eq_nil_iff.mp NR.symm)) G.T.bmain EV hints (Zc hlen Ud) hr hF hb (λbase H h1 h2 h3 h4=>yq base H a ns hlen h1 h2 h3 h4) λH e s'=>WE w H bD e s'
noncomputable def fb(a:aaS)(ps:List Str):Bool:=a.posonlyargs.isEmpty&&a.vararg.isNone&&a.kwonlyargs.isEmpty&&a.kw_defaults.isEmpty&&a.kwarg.isNone&&a.defaults.isEmpty&&decide (a.args.map (·.arg)=ps)&&decide ps.Nodup&&a.args.all λx=>x.annotation.isNone
theorem uf:∀{ps:List Str} {us:List Value},us.length=?S->∀n∈ps,((ps.zip us).lookup n).isSome=Λ
 |[],_,_,n,h=>by cases h|p::ps,[],hl,_,_=>by simp at hl|p::ps,u::us,hl,n,h=>by
  rw[abN,YU];cases hb:n==p with
  |true=>rfl|false=>
   rcases aa2.mp h with e|e;·rw[e] at hb;simp at hb
   ·exact uf (by simpa using hl) n e
theorem mP:∀{ps:List Str} {us} {l:List (Str×Value)},us.length=?S->ps.Nodup->(∀n∈ps,l.lookup n=(ps.zip us).lookup n)->ps.filterMap (λn=>(l.lookup n).map λv=>(n,v))=ps.zip us
 |[],us,l,_,_,_=>by simp|p::ps,[],l,hl,_,_=>by simp at hl|p::ps,u::us,l,hl,nd,h=>by
  rw[ZT] at nd;have h0:=h p Yk;rw[abN,YU,beq_self_eq_true] at h0;have h0':l.lookup p=Δ u:=h0;rw[aa5,h0',abN];show(p,u)::_=_;congr 1;refine mP (by simpa using hl) nd.2 λn hn=>?_;have:=h n (Yi _ hn);rw[abN,YU] at this;have hb:(n==p)=Ξ:=by rw[beq_eq_false_iff_ne];exact λz=>nd.1 (z▸hn)
  rw[hb] at this;exact this
theorem jm(ha:fb fd.params ps=Λ)(hd:fd.defaults=.none)(hl:us.length=?S):adX fd ⟨us,[]⟩=pure (ps.zip us):=by
 obtain⟨fname,fq,WH,fbody,fsc,fgl,fcl,nj,fkw,fdoc,fpm,fan,fcd,fct,fbi⟩:=fd;obtain⟨po,as,va,ko,kd,ka,df⟩:=WH;dsimp only at ha hd;unfold fb at ha;simp only[Yj,Yy,aal,qqq] at ha;obtain⟨⟨⟨⟨⟨⟨⟨⟨rfl,rfl⟩,rfl⟩,rfl⟩,rfl⟩,rfl⟩,e⟩,nd⟩,_⟩:=ha;have q:seqItems? aar=pure Θ:=rfl;have m0:((as.map (·.arg)).take (as.map (·.arg)).length).filter (λn=>(((as.map (·.arg)).zip us).lookup n).isNone)=[]:=by rw[aaC];intro n hn hc;have Gj:n∈as.map (·.arg):=List.mem_of_mem_take hn;have:=uf (us:=us) (by rw[e];exact hl) n Gj;cases hx:((as.map (·.arg)).zip us).lookup n with|none=>rw[hx] at this;cases this|some v=>rw[hx] at hc;cases hc
 have g0:¬(us.length > (as.map (·.arg)).length):=by rw[e];lia
 have z0:(as.map (·.arg)).filterMap (λn=>(((as.map (·.arg)).zip us).lookup n).map λv=>(n,v))=(as.map (·.arg)).zip us:=mP (by rw[e];exact hl) (by rw[e];exact nd) λ_ _=>rfl;unfold adX;simp only[hd,q,aaY,aaA,abr,pure_bind,acW,aaj,Nat.sub_zero,List.drop_nil,Nat.zero_sub,m0,List.isEmpty_nil,Bool.not_true,Y7,if_false,List.zip_nil_right,Zo,z0];have g1:(decide (us.length > (as.map (·.arg)).length)&&(Θ:Option Arg).isNone)=Ξ:=by rw[decide_eq_false g0];rfl
 simp[g0,m0,z0,e];intro h
 lia
noncomputable def jn(cells:List (Str×Addr)):List (Str×aaX)->List (Str×Addr)->List (Str×Addr)
 |[],acc=>acc|(x,k)::r,acc=>if k=.free then jn cells r ((x,(cells.lookup x).getD 0)::acc) else jn cells r acc
theorem nk:∀{names} {acc},(∀x,(x,YK)∈names->∃c,env.cells.lookup x=Δ c)->
  (forIn names acc λ(p:Str×aaX) (cs:List (Str×Addr))=>(match p with|(name,kind)=>if(kind==YK)=Λ then do {let c<-adP env name;pure (Z4 ((name,c)::cs))} else pure (Z4 cs):Sem (ForInStep (List (Str×Addr)))))=pure (jn env.cells names acc)
 |[],acc,_=>rfl|(x,k)::r,acc,h=>by
  rw[aaQ];by_cases hk:k=.free
  ·subst hk;obtain⟨c,hc⟩:=h x Yk;have e:adP env x=pure c:=by unfold adP;rw[hc]
   simp only[beq_self_eq_true,if_true,e,pure_bind];rw[nk λy hy=>h y (Yi _ hy)];simp only[jn,if_true,hc,Option.getD_some]
  ·have hb:(k==YK)=Ξ:=by rw[beq_eq_false_iff_ne];exact hk
   simp only[hb,Y7,if_false,pure_bind];rw[nk λy hy=>h y (Yi _ hy)];simp only[jn,if_neg hk]
theorem mQ(h:∀x,(x,YK)∈scope.names->∃c,env.cells.lookup x=Δ c):acz scope env=pure (jn env.cells scope.names []):=by unfold acz;have:=nk (acc:=[]) h;simp only[bind_pure];exact this
theorem kn:∀{names} {acc},(∀y,(y,YK)∈names->∃c,cells.lookup y=Δ c)->
  ((x,YK)∈names->(jn cells names acc).lookup x=cells.lookup x)/\((x,YK)∉names->(jn cells names acc).lookup x=acc.lookup x)
 |[],acc,_=>⟨(λh=>nomatch h),λ_=>rfl⟩|(y,k)::r,acc,h=>by
  have hr:∀z,(z,YK)∈r->∃c,cells.lookup z=Δ c:=λz hz=>h z (Yi _ hz);by_cases hk:k=.free
  ·subst hk;simp only[jn,if_true];obtain⟨i1,i2⟩:=kn (x:=x) (acc:=(y,(cells.lookup y).getD 0)::acc) hr;by_cases hx:(x,YK)∈r;·exact⟨λ_=>i1 hx,λz=>absurd (Yi _ hx) z⟩
   ·by_cases WI:x=y;·subst WI;obtain⟨c,hc⟩:=h x Yk;refine⟨λ_=>?_,λz=>absurd Yk z⟩;rw[i2 hx,YU,beq_self_eq_true,hc];rfl
    ·have hb:(x==y)=Ξ:=by rw[beq_eq_false_iff_ne];exact WI
     refine⟨λz=>?_,λ_=>?_⟩
     ·rcases aa2.mp z with z|z;·injection z with z1 _;exact absurd z1 WI
      ·exact absurd z hx
     ·rw[i2 hx,YU,hb]
  ·simp only[jn,if_neg hk];obtain⟨i1,i2⟩:=kn (x:=x) (acc:=acc) hr;refine⟨λz=>?_,λz=>i2 λy=>z (Yi _ y)⟩;rcases aa2.mp z with z|z;·injection z with _ z2;exact absurd z2.symm hk
   ·exact i1 z
theorem lq(h:fb a ps=Λ)env:defaultsOf a env=([],[])/\a.defaults=[]/\a.kw_defaults=[]:=by obtain⟨po,as,va,ko,kd,ka,df⟩:=a;unfold fb at h;simp only[Yj,Yy,aal,qqq] at h;obtain⟨⟨⟨⟨⟨⟨⟨⟨rfl,rfl⟩,rfl⟩,rfl⟩,rfl⟩,rfl⟩,e⟩,nd⟩,_⟩:=h;exact⟨rfl,rfl,rfl⟩
theorem Aw:∀{as},(as.all λx=>x.annotation.isNone)=Λ->acP as env=[]
 |[],_=>by unfold acP;rfl|⟨x,an,p⟩::r,h=>by
  rw[aaG,Yj] at h;have e:an=Θ:=aal.mp h.1;subst e;have ih:=Aw (env:=env) h.2;first
   |(unfold acP;exact ih)
   |(simp only[acP,ih])
theorem E7(h:fb a ps=Λ)env:annTrees a Θ env=[]:=by obtain⟨po,as,va,ko,kd,ka,df⟩:=a;unfold fb at h;simp only[Yj,Yy,aal,qqq] at h;obtain⟨⟨⟨⟨⟨⟨⟨⟨rfl,rfl⟩,rfl⟩,rfl⟩,rfl⟩,rfl⟩,e⟩,nd⟩,an⟩:=h;unfold annTrees;simp only[Zo,Option.toList_none];rw[Aw an];rfl
section
variable{X:Cx}{η:List ?Qb}{σ:St}{H:Hp}{s:YG}{a:Addr}{kvs:List (Key×V)}{k:Key}{u r:Value}{z:V}{A:ZS}{E:Value->YG->Prop}
theorem Hg(I:Inv X η σ H s)(e:H a=Δ ?QA)(ry:RelV (kV k) u)(rz:RelV z r)(hl:?Ql < YQ)(h1:∀v w' s',fP kvs k=Δ v->Inv X η σ H s'->RelV v w'->Q w' s')(h2:fP kvs k=Θ->∀s',Inv X η σ (upd H a (.dK (putK kvs k z))) s'->Q r s'):
  wpAny ?G A (call (.builtin "dict.setdefault") [.ref a,u,r]) Q E s:=by
 obtain⟨zz,hd,vs,rel,dd⟩:=w9 I.aL e;refine acw PySem.F.slot_dict_setdefault dd.typeIs PySem.F.entry_dict_setdefault (PySem.F.args_dict_setdefault_3 _ _ _) (kt_meets_setdefault (bh X.prog X.w) a (oz ry) hd r)
  ⟨vs,dd,by rw[<-rel.length];exact zz,λw' hw=>?_,λhn h' zL hs=>?_⟩
 ·have rr:=rel.val k;rw[hw] at rr;cases hv:fP kvs k with|none=>rw[hv] at rr;exact(show False from rr).elim|some v=>rw[hv] at rr;exact h1 v w' _ hv (I.tok _) rr
 ·have rr:=rel.val k;rw[hn] at rr;cases hv:fP kvs k with
  |some v=>rw[hv] at rr;exact(show False from rr).elim|none=>
   have he:∃q,h'.get? a=Δ q:=let ⟨q,_,_,hq,_⟩:=zL;⟨q,hq⟩
   have oG:(putK kvs k z).length<=YQ:=by have:=ji kvs k z;lia
   exact h2 hv _ (kg I (by rw[e];exact ZU) hs he (tY oG hd (rel.put k rz) zL))
end
def NS(td ty tx:TE):TE:=λσ H Q=>td σ H λx H1=>∃a,x=.ref a/\Um H1 a/\ty σ H1 λy H2=>tx σ H2 λz H3=>∃kvs k,H3 a=Δ ?QA/\y=kV k/\?Ql < YQ/\
 (∀v,fP kvs k=Δ v->Q v H3)/\(fP kvs k=Θ->Q z (upd H3 a (.dK (putK kvs k z))))
section
variable{X:Cx}{o e f:Expr}{apos gb:Pos}{td ty tx:TE}
theorem Hh(ho:PE X o td)(he:PE X e ty)(hf:PE X f tx)(m:M2 X o "setdefault" apos e f gb):PE X (.Call (.Attribute o "setdefault" apos) [e,f] [] gb) (NS td ty tx):=by intro η s σ H Q I h;refine wpAny_Call_method m.base m.VU m.line abP PySem.F.slot_dict_setdefault PySem.F.type_dict_setdefault (bW (ho η s σ H _ I h) λu s1 ⟨x,H1,I1,rx,a,ex,d,q1⟩=>?_);subst ex;obtain rfl:u=YW a:=rx;obtain⟨t1,t2,_⟩:=Cm I1 d;refine⟨t1,t2,?_⟩;rw[m.trees];refine aaD rfl (aco (abf (bW (he η s1 σ H1 _ I1 q1) λiv s2 ⟨y,H2,I2,ry,q2⟩=>abf (bW (hf η s2 σ H2 _ I2 q2) λfv s3 ⟨z,H3,I3,rz,kvs,k,ea,ey,hl,q3,q4⟩=>ab3 ?_))));subst ey;exact Hg I3 ea ry rz hl (λv w' s4 hv I4 nh=>⟨v,H3,I4,nh,q3 v hv⟩) λhn s4 I4=>⟨z,_,I4,rz,q4 hn⟩
end
def RR(K:Yw)(a:Addr):It:=
 ⟨λi H=>∃xs x,mB K H a xs/\xs[i]?=Δ x,λi H x H'=>∃T v,H T=Θ/\H'=upd H T (.tup [.int i,v])/\x=.ref T/\∀xs,mB K H a xs->xs[i]?=Δ v,λi H=>∃xs,mB K H a xs/\?Q<=i⟩
theorem CC{P:Zm}{w:World}{K:Yw}{elts:List Expr}{kk:Nat}{pos:Pos}(a it e:Addr)(P5:e≠it):Turn P w K (.Tuple elts kk pos) (RR K a) [e,it] e (λi h=>(∃old,IsEnum h e it i old)/\h.IsListIter it a i) where
 mem:=by simp
 obj:=λi h st b hb=>by
  obtain⟨⟨old,he⟩,o,eo,c,d⟩:=st;have jk:b=e\/b=it:=by simpa using hb
  rcases jk with z|z;·rw[z];exact⟨_,he,λv z=>nomatch z⟩
  ·rw[z];exact⟨o,eo,λv z=>by rw[d] at z;cases z⟩
 keep:=λi h h' st k=>⟨let ⟨old,he⟩:=st.1;⟨old,k e ?E _ he⟩,st.2.at λo x=>k it ?E o x⟩
 item:=by
  intro X hP hw hK hc i η s σ H E I hf st hg;subst hP hw hK;obtain⟨xs,x,hq,hx⟩:=hg;obtain⟨its,rv,p,hz⟩:=I.list hq;have p':s.heap.IsList a its.toArray:=p.isList;obtain⟨u,hu,ru⟩:=rv.get hx;obtain⟨f0,f1,f2,f3,f4,f5⟩:=hf it ?E;obtain⟨g0,g1,g2,g3,g4,g5⟩:=hf e ?E;obtain⟨⟨old,he⟩,hit⟩:=st;refine wpAny_pyNext_enum_item he hit p' (x:=u) (by simpa using hu) P5 λh' ho t8 hT hsz hk=>?_;refine⟨_,rfl,?_⟩;refine wpAny_letOwnedTupleGo_enum ho λh2 Mo Jm=>?_;have RE:?C≠e:=Zx (YE he);have P7:?C≠it:=by obtain⟨o,eo,_⟩:=hit;exact Zx (YE eo)
  have Ao:∀b o,b≠e->b≠it->s.heap.get? b=Δ o->h2.get? b=Δ o:=λb o h1 h3 q=>Jm.extBut b o h1 (hk b o h1 h3 q);have hn:H ?C=Θ:=I.aL.fresh (Yt _);have Gi:∀b v,H b=Δ v->b≠e/\b≠it:=λb v q=>⟨(λz=>by rw[z,g0] at q;cases q),(λz=>by rw[z,f0] at q;cases q)⟩;have RG:h2.get? ?C=Δ {cls:=.type "tuple",data:=.seq #[.int i s.toks,u]}:=Jm.extBut _ _ RE hT;have I1:Inv X η σ (upd H ?C (.tup [.int i,x])) {s with heap:=h2,toks:=s.toks+1}:=by
   refine I.step (g':=s.gens) (d':=s.drawn) (ch:=[e,it]) (λb hb=>?_) (λb o _ _ hc q _=>Ao b o (λz=>hc ?Zi) (λz=>hc ?Zi) q) (λb o _ _ hc q _=>⟨o.slots,Ao b o (λz=>hc ?Zi) (λz=>hc ?Zi) q⟩)
    (λb o _ q n=>by rw[ax (YZ (YE q))];exact n) (λb o hc q=>⟨o,Ao b o (λz=>hc ?Zi) (λz=>hc ?Zi) q⟩) (λb xs q=>by rw[ax (aN q hn)];exact q) (λb o v q=>by rw[ax (aN q hn)];exact q)
    (λb ps q=>⟨#[],by rw[ax (aN q hn),q];simp⟩) (λm hm=>?_) (λb v q=>?_) I.bare
   ·have jk:b=e\/b=it:=by simpa using hb
    rcases jk with z|z;·rw[z];exact⟨g3,g1,g4,g5⟩
    ·rw[z];exact⟨f3,f1,f4,f5⟩
   ·obtain⟨o,es,ep,pV,r⟩:=hm;exact⟨o,es,ep,Ao _ o (Zq g1) (Zq f1) pV,r⟩
   ·by_cases hb:b=?C;·rw[hb,aD] at q;cases q;rw[hb];exact⟨by rw[ZV];simp,[.int i s.toks,u],.cons ⟨_,rfl⟩ (.cons ru .nil),⟨_,RG,rfl,_,rfl⟩⟩
    ·rw[ax hb] at q;refine(I.aL b v q).n8 (λc y hc qq=>?_) (λc qq=>by rw[ax (aN qq hn)];exact qq) λc xs qq=>by rw[ax (aN qq hn)];exact qq
     have:c≠e/\c≠it:=by
      rcases hc with z|z;·rw[z];exact Gi b v q
      ·exact Gi c _ z
     exact Ao c y this.1 this.2 qq
  refine⟨.ref ?C,_,I1,rfl,⟨?C,x,hn,rfl,rfl,λys hy=>by rw[I.zV hy hq];exact hx⟩,⟨⟨u,by simpa using Mo⟩,t8.at λo q=>Jm.extBut _ _ (Zq P5) q⟩,λb hb=>?_⟩;have jk:b=e\/b=it:=by simpa using hb
  rcases jk with z|z;·rw[z,ax (Zq RE)];exact g0
  ·rw[z,ax (Zq P7)];exact f0
 done:=by
  intro X hP hw hK hc i η s σ H E I hf st hg;subst hP hw hK;obtain⟨xs,hq,hx⟩:=hg;obtain⟨its,rv,p,hz⟩:=I.list hq;obtain⟨f0,f1,f2,f3,f4,f5⟩:=hf it ?E;obtain⟨⟨old,he⟩,hit⟩:=st;have hl:=rv.length;have hT:s.TypeIs (.ref e) "enumerate":=⟨_,he,rfl⟩;unfold acO;refine Yo (acN (ZL (name:=Zw "__next__") hT aaB
   (aaq aaB hT PySem.F.entry_enumerate_next ?_ (PySem.F.args_enumerate_next_1 _))))
  show wpAny _ _ (field (.ref e) 2 >>=_) _ _ _;refine Yo (Z6 he rfl (x:=.ref it) rfl ?_);refine Yo (wpAny_nextOf_list_end (I.ok.hd hc) hit p.isList (by simp;lia) λh' y Wr sQ=>?_);obtain⟨o,ho,yE⟩:=sQ;refine Yo (acS (T:="StopIteration") (b:=Λ) ⟨o,ho,yE⟩ adl ?_);exact YI ⟨rfl,I.turned (t':=s.toks) (λb o hb q=>Wr b o hb q) f0 f1 f3 f4 f5⟩
 self:=λ_ _ _ _ _ st h=>let ⟨old,he⟩:=st.1;abT he h
section
variable{X:Cx}
def NT(K:Yw)(ta:TA):TI:=λσ H R=>ta σ H λvs H1=>∃a,vs=[.ref a]/\(∃xs,mB K H1 a xs)/\R (RR K a) H1
theorem Hi(hg:Gl X "enumerate")(hm:X.mg "enumerate"=Θ)(ha:PA X [x] ta)(hs:YX [x] X.env=[(Ξ,eval x X.env)]):
  PI X (.Tuple elts kk p3) (.Call (.Name "enumerate" p) [x] [] pos) (NT X.K ta):=by
 intro η s σ H R I h;refine Call_ (j8 I hg hm boot_enumerate (Zu (bW ?QZ λus s1 ⟨vs,H1,I1,r1,q1⟩=>?_) hs rfl) ?K ?K);obtain⟨a,rfl,⟨xs,hq⟩,q⟩:=q1;obtain⟨u,rfl,ru⟩:=vals1 r1;cases ru;obtain⟨its,rv,pl,hz⟩:=I1.list hq;refine call_enumerate_list pl.isList λh' he hit hsz hk=>?_;refine abT he ?_;have I2:Inv X η σ H1 {s1 with heap:=h'}:=I1.kept (t':=s1.toks) hk;refine⟨?Z+1,[?Z+1,?Z],_,_,H1,rfl,I2,CC a _ _ (Nat.succ_ne_self _),⟨⟨_,he⟩,hit⟩,λb hb=>?_,q⟩;have jk:b=?Z+1\/b=s1.heap.objs.size:=by simpa using hb
 rcases jk with z|z;·rw[z];exact I1.ym (aah _) (I1.aL.fresh (aah _))
 ·rw[z];exact I1.ym (Yt _) (I1.aL.fresh (Yt _))
end
theorem adD.get'{α β:Type}{F:α->β->Prop}{Gf:List α}{Gg:List β}(r:adD F Gf Gg):∀{i:Nat} {x},Gf[i]?=Δ x->∃u,Gg[i]?=Δ u/\F x u:=by induction r with|nil=>intro i x e;simp at e|@cons a b as bs h t ih=>intro i x e;cases i with|zero=>simp at e;subst e;exact⟨b,rfl,h⟩|succ i=>simpa using ih (by simpa using e)
def Iti(d:Addr)(o:Obj)(kvs:List (Key×V)):It:=
 ⟨λi H=>H d=Δ (.dA o ?QA)/\i < ?Ql,λi H x H'=>∃T k v,kvs[i]?=Δ (k,v)/\H T=Θ/\H'=upd H T (.tup [kV k,v])/\x=.ref T,λi H=>H d=Δ (.dA o ?QA)/\?Ql<=i⟩
theorem Hj(ok:kX P w H h)(e:H d=Δ (.dA o ?QA))(ho:o.data=.dict es ep):
  ∃vs,KV kvs vs/\Heap.DictAt (bh P w) h d vs ep:=by
 obtain⟨h1,z,hs,vs,r,o',T6,T7,h2,h3,h4,h5⟩:=(show bL P w H h d (.dA o ?QA) from ok d _ e);rw[h1] at h2;cases h2;rw[ho] at h4;cases h4;exact⟨vs,r,o,es,h1,h3,ho,h5⟩
theorem Hk(h:(bh P w).is k u=Λ):RelV (kV k) u:=by
 rcases cb h with ⟨i,t,rfl,rfl⟩|⟨x,t,rfl,rfl⟩
 ·exact⟨t,rfl⟩
 ·exact⟨t,rfl⟩
theorem mF:entryFor table "dict_itemiterator.__iter__"=Δ aci.«dict_keyiterator.__iter__»:=
 entryFor_alias (id':="dict_keyiterator.__iter__") (by kernel_rfl) rfl ?K (by kernel_rfl)
theorem we(hit:IsItemIter s.heap it d i n ep ok ov)(h:Q (.ref it) s):wpAny ?Qe A (pyIter (.ref it)) Q E s:=by have ht:s.TypeIs (.ref it) "dict_itemiterator":=⟨_,hit,rfl⟩;refine wpAny_pyIter_slot ht F.slot_dict_itemiterator_iter (aaq F.slot_dict_itemiterator_iter ht mF ?_ (F.args_dict_itemiterator_iter_1 _));show wpAny _ _ (ret (.ref it)) _ _ s;exact YI ⟨_,rfl,"dict_itemiterator",_,ht,F.slot_dict_itemiterator_next.lookup,h⟩
theorem CD{P:Zm}{w:World}{K:Yw}{elts:List Expr}{kk:Nat}{pos:Pos}(d it:Addr)(o:Obj)(kvs:List (Key×V))(es:Array DictEntry)(ep:Nat)(ho:o.data=.dict es ep):
  Turn P w K (.Tuple elts kk pos) (Iti d o kvs) [it] it (λi h=>∃ok ov,IsItemIter h it d i ?Ql ep ok ov) where
 mem:=by simp
 obj:=λi h st b hb=>by
  obtain⟨ok,ov,he⟩:=st;have jk:b=it:=by simpa using hb
  rw[jk];exact⟨_,he,λv z=>nomatch z⟩
 keep:=λi h h' st k=>let ⟨ok,ov,he⟩:=st;⟨ok,ov,k it ?E _ he⟩
 item:=by
  intro X hP hw hK hc i η s σ H E I hf st hg;subst hP hw hK;obtain⟨hd,hi⟩:=hg;obtain⟨ok,ov,hit⟩:=st;obtain⟨vs,rel,da⟩:=Hj I.aL hd ho;have hlen:?Ql=vs.length:=rel.length;obtain⟨f0,f1,f2,f3,f4,f5⟩:=hf it ?E;obtain⟨⟨k,v⟩,rB⟩:∃p,kvs[i]?=Δ p:=⟨kvs[i],Yn hi⟩;obtain⟨⟨k',u⟩,hu,ek,ru⟩:=adD.get' rel rB;cases (show k=k' from ek);rw[hlen] at hit;refine wpAny_pyNext_items_item hit da hu λkey h' hk out hT hsz E3=>?_;refine⟨_,rfl,?_⟩;refine wpAny_letOwnedTupleGo_items out λh2 Mo Jm=>?_;have P7:?C≠it:=Zx (YE hit);have Ao:∀b o,b≠it->s.heap.get? b=Δ o->h2.get? b=Δ o:=λb o h1 q=>Jm.extBut b o h1 (E3 b o h1 q);have hn:H ?C=Θ:=I.aL.fresh (Yt _);have Gi:∀b v,H b=Δ v->b≠it:=λb v q z=>by rw[z,f0] at q;cases q
  have RG:h2.get? ?C=Δ {cls:=.type "tuple",data:=.seq #[key,u]}:=Jm.extBut _ _ P7 hT;have I1:Inv X η σ (upd H ?C (.tup [kV k,v])) {s with heap:=h2}:=by
   refine I.step (g':=s.gens) (d':=s.drawn) (t':=s.toks) (ch:=[it]) (λb hb=>?_) (λb o _ _ hc q _=>Ao b o (λz=>hc ?Zi) q) (λb o _ _ hc q _=>⟨o.slots,Ao b o (λz=>hc ?Zi) q⟩)
    (λb o _ q n=>by rw[ax (YZ (YE q))];exact n) (λb o hc q=>⟨o,Ao b o (λz=>hc ?Zi) q⟩) (λb xs q=>by rw[ax (aN q hn)];exact q) (λb o v q=>by rw[ax (aN q hn)];exact q)
    (λb ps q=>⟨#[],by rw[ax (aN q hn),q];simp⟩) (λm hm=>?_) (λb v' q=>?_) I.bare
   ·have jk:b=it:=by simpa using hb
    rw[jk];exact⟨f3,f1,f4,f5⟩
   ·obtain⟨o,es,ep,pV,r⟩:=hm;exact⟨o,es,ep,Ao _ o (Zq f1) pV,r⟩
   ·by_cases hb:b=?C;·rw[hb,aD] at q;cases q;rw[hb];exact⟨by rw[ZV];simp,[key,u],.cons (Hk hk) (.cons ru .nil),⟨_,RG,rfl,_,rfl⟩⟩
    ·rw[ax hb] at q;refine(I.aL b v' q).n8 (λc y hc qq=>?_) (λc qq=>by rw[ax (aN qq hn)];exact qq) λc xs qq=>by rw[ax (aN qq hn)];exact qq
     have:c≠it:=by
      rcases hc with z|z;·rw[z];exact Gi b v' q
      ·exact Gi c _ z
     exact Ao c y this qq
  refine⟨.ref ?C,_,I1,rfl,⟨?C,k,v,rB,hn,rfl,rfl⟩,⟨key,u,by rw[hlen];exact Mo⟩,λb hb=>?_⟩;have jk:b=it:=by simpa using hb
  rw[jk,ax (Zq P7)];exact f0
 done:=by intro X hP hw hK hc i η s σ H E I hf st hg;subst hP hw hK;obtain⟨hd,hi⟩:=hg;obtain⟨ok,ov,hit⟩:=st;obtain⟨vs,rel,da⟩:=Hj I.aL hd ho;have hlen:?Ql=vs.length:=rel.length;obtain⟨f0,f1,f2,f3,f4,f5⟩:=hf it ?E;rw[hlen] at hit;exact wpAny_pyNext_items_end (I.ok.hd hc) hit da (YR ?D) λh' eb=>⟨rfl,I.turned (t':=s.toks) (λb o hb q=>eb b o hb q) f0 f1 f3 f4 f5⟩
 self:=λA i s Q E st h=>by obtain⟨ok,ov,he⟩:=st;exact we he h
section
variable{X:Cx}{η:List ?Qb}{σ:St}{H:Hp}{s:YG}
theorem Inv.re(I:Inv X η σ H s)(e:H d=Δ u)(h1:∀xs,u≠.tup xs)(h2:∀ps,u≠.fO ps)(h3:∀b,u≠.own b)(hf:∀o v,X.zT d=Δ (.dA o v)->u'=.dA o v)(new:bL X.prog X.w H s.heap d u'):Inv X η σ (upd H d u') s:=by
 have st:∀{b:Addr} {v:HO},bL X.prog X.w H s.heap b v->bL X.prog X.w (upd H d u') s.heap b v:=λx=>x.n8 (λ_ _ _ q=>q) (λc q=>by
  rw[ax (λz=>by rw[z,e] at q;exact h3 _ (Y0 q))];exact q) λc xs q=>by
  rw[ax (λz=>by rw[z,e] at q;exact h1 _ (Y0 q))];exact q
 have nn:∀{b:Addr},H b=Θ->upd H d u' b=Θ:=λ{b} q=>by rw[ax (λz=>by rw[z,e] at q;cases q)];exact q
 refine⟨I.ok,I.os,I.bare,⟨I.base.keep,I.base.slot,λb o q n hx=>nn (I.base.free b o q n hx),I.base.there,λb xs q=>?_,λb o v q=>?_,λb ps q=>?_⟩,I.loc,I.cell,nn I.free,λx c q=>nn (I.kJ x c q),λp hp=>?_,λb v q=>?_,I.len⟩;·have:=I.base.tI b xs q;rw[ax (λz=>by rw[z,e] at this;exact h1 _ (Y0 this))];exact this
 ·by_cases z:b=d;·rw[z] at q ⊢;rw[aD,hf o v q]
  ·rw[ax z];exact I.base.pU b o v q
 ·obtain⟨more,this⟩:=I.base.rT b ps q;exact⟨more,by rw[ax (λz=>by rw[z,e] at this;exact h2 _ (Y0 this))];exact this⟩
 ·obtain⟨q1,q2,q3⟩:=I.pin p hp;exact⟨q1,nn q2,q3⟩
 ·by_cases z:b=d;·rw[z,aD] at q;cases q;rw[z];exact st new
  ·rw[ax z] at q;exact st (I.aL b v q)
def NF(X:Cx)(d:Addr):Prop:=∀o v,X.zT d≠Δ (.dA o v)
theorem Inv.hold(I:Inv X η σ H s)(e:H d=Δ ?QA):∃o es ep,s.heap.get? d=Δ o/\o.data=.dict es ep/\NF X d/\Inv X η σ (upd H d (.dA o ?QA)) s:=by
 have ok:bL X.prog X.w H s.heap d ?QA:=I.aL d _ e;obtain⟨z,hs,vs,r,o,es,ep,h2,h3,h4,h5⟩:=id ok;have nf:NF X d:=λo' v q=>by have:=I.base.pU d o' v q;rw[e] at this;cases this
 exact⟨o,es,ep,h2,h4,nf,I.re e (λ_ z=>nomatch z) (λ_ z=>nomatch z) (λ_ z=>nomatch z) (λo' v q=>absurd q (nf o' v)) ⟨h2,ok⟩⟩
theorem Inv.E8(I:Inv X η σ H s)(e:H d=Δ (.dA o u))(nf:NF X d):Inv X η σ (upd H d u) s:=by obtain⟨h1,h2⟩:=(show bL X.prog X.w H s.heap d (.dA o u) from I.aL d _ e);exact I.re e (λ_ z=>nomatch z) (λ_ z=>nomatch z) (λ_ z=>nomatch z) (λo' v q=>absurd q (nf o' v)) h2
def xj(X:Cx)(D:Ends):Ends where
 nx:=λσ H=>∃d o u,H d=Δ (.dA o u)/\NF X d/\D.nx σ (upd H d u)
 rt:=λv H=>∃d o u,H d=Δ (.dA o u)/\NF X d/\D.rt v (upd H d u)
 bk:=λσ H=>∃d o u,H d=Δ (.dA o u)/\NF X d/\D.bk σ (upd H d u)
 ct:=λσ H=>∃d o u,H d=Δ (.dA o u)/\NF X d/\D.ct σ (upd H d u)
theorem Kh{st:Stmt}(h:PS X st t):PS X st (λD σ H=>t (xj X D) σ H):=by intro η s σ H D I q;refine bW (h η s σ H _ I q) λf s1 q1=>?_;cases f with|next=>obtain⟨c0,H',I',d,o,u,e,nf,q'⟩:=q1;exact⟨c0,_,I'.E8 e nf,q'⟩|brk=>obtain⟨c0,H',I',d,o,u,e,nf,q'⟩:=q1;exact⟨c0,_,I'.E8 e nf,q'⟩|cont=>obtain⟨c0,H',I',d,o,u,e,nf,q'⟩:=q1;exact⟨c0,_,I'.E8 e nf,q'⟩|ret w'=>obtain⟨v,c0,H',I',r,d,o,u,e,nf,q'⟩:=q1;exact⟨v,c0,_,I'.E8 e nf,r,q'⟩
end
section
variable{X:Cx}
def NU(X:Cx)(td:TE):TI:=λσ H R=>td σ H λx H1=>∃d kvs,x=.ref d/\H1 d=Δ ?QA/\∀o,NF X d->R (Iti d o kvs) (upd H1 d (.dA o ?QA))
theorem Hl(ho:PE X x td)(zZ:aa0 x "items" X.env (eval x X.env)=eval x X.env)(mL:(apos.endLine==gb.line)=Λ):
  PI X (.Tuple elts kk p3) (.Call (.Attribute x "items" apos) [] [] gb) (NU X td):=by
 intro η s σ H R I h;refine wpAny_Call_method0_late zZ mL (bW (ho η s σ H _ I h) λv s1 ⟨y,H1,I1,r1,d,kvs,ey,ed,q1⟩=>?_);subst ey;cases r1;obtain⟨t1,t2,RS⟩:=Cm I1 (.inl ⟨kvs,.inl ed⟩);refine⟨"dict","dict.items",abP,PySem.F.slot_dict_items,PySem.F.type_dict_items,t1,t2,aaD rfl (PySem.evalArgs_none ?_)⟩;obtain⟨o,es,ep,pV,Du,nf,I2⟩:=I1.hold ed;obtain⟨vs,rel,da⟩:=Hj I2.aL aD Du;have dd:Heap.DictOf (bh X.prog X.w) s1.heap d vs:=da.dictOf;refine acw PySem.F.slot_dict_items dd.typeIs PySem.F.entry_dict_items (PySem.F.args_dict_items_1 _) (meets_dict_items (bh X.prog X.w) d RS) ⟨⟨vs,dd⟩,?_⟩;have hv:Heap.IsItemsView (s1.heap.push {cls:=.type "dict_items",data:=.fields #[.ref d]}) ?Z d:=⟨_,YD _ rfl,rfl,rfl⟩;refine wpAny_pyIter_items (knd:=bh X.prog X.w) (ep:=ep) (kvs:=vs) hv (da.at' λo' q=>Yl _ q) ?_;have hlen:?Ql=vs.length:=rel.length;have I3:Inv X η σ (upd H1 d (.dA o ?QA)) {s1 with heap:=s1.heap.push {cls:=.type "dict_items",data:=.fields #[.ref d]}}:=I2.kept (t':=s1.toks) λb o' q=>Yl _ q;refine⟨_,[_],_,_,_,rfl,I3.kept (t':=s1.toks) λb o' q=>Yl _ q,CD d _ o kvs es ep Du,⟨.none,.none,?_⟩,λb hb=>?_,q1 o nf⟩;·rw[hlen];exact YD _ rfl
 ·have jk:b=(s1.heap.push {cls:=.type "dict_items",data:=.fields #[.ref d]}).objs.size:=by simpa using hb
  rw[jk];exact I3.ym (Yt _) (I3.aL.fresh (Yt _))
theorem E9(rel:KV kvs vs):∀{us},us.length=vs.length->(∀(j:Nat) (v),us[j]?=Δ v->∃k x,vs[j]?=Δ (k,x)/\(bh P w).is k v=Λ)->aU (kvs.map λkv=>kV kv.1) us:=by
 unfold KV at rel;induction rel with
 |nil=>intro us hl h;cases us with|nil=>exact .nil|cons _ _=>simp at hl
 |@cons p q ps qs e t ih=>
  intro us hl h;cases us with
  |nil=>simp at hl|cons v us=>
   refine .cons ?_ (ih (by simpa using hl) λj v' hv=>h (j+1) v' (by simpa using hv));obtain⟨k,x,hk,hi⟩:=h 0 v rfl;simp at hk;have e1:p.1=k:=by rw[e.1,hk]
   show RelV (kV p.1) v;rw[e1];exact Hk hi
theorem wj(hc:X.calm=Λ):g8 X (.type "list") (λxs H Q=>∃p kvs,xs=[.ref p]/\H p=Δ ?QA/\∀l,H l=Θ->Q (.ref l) (upd H l (.lst (kvs.map λkv=>kV kv.1)))):=by intro η s σ H xs us Q I r h;obtain⟨p,kvs,rfl,hq,q⟩:=h;obtain⟨u,rfl,rx⟩:=vals1 r;cases rx;obtain⟨z,RS,vs,rel,dd⟩:=w9 I.aL hq;have hlen:?Ql=vs.length:=rel.length;obtain⟨ep,da⟩:=dd.dictAt;refine PySem.W.kdl_call (PySem.W.kdl_dict (knd:=bh X.prog X.w) (kvs:=vs) (ep:=ep) RS) (I.ok.hd hc) da ?D λh' tk acc c' kp e io=>?_;obtain⟨hsz,hit⟩:=io;have rv:aU (kvs.map λkv=>kV kv.1) acc.toList:=E9 rel (by simpa using hsz) λj v hv=>hit j v (by simpa using hv);refine⟨.ref ?C,_,I.laid (t':=tk) kp (Yt _) (show bL X.prog X.w _ h' _ (.lst (kvs.map λkv=>kV kv.1)) from⟨by simpa using z,acc.toList,c',rv,by simpa using e⟩),rfl,q _ ?QW⟩
end
def NV(tk tv:TE):TE:=λσ H Q=>∀p,H p=Θ->tk σ (upd H p (.dT [])) λx H1=>tv σ H1 λy H2=>H2 p=Δ (.dT [])/\∃ks b,x=.ref b/\H2 b=Δ (.tup (ks.map kV))/\Q (.ref p) (upd H2 p (.dT [(ks,y)]))
theorem Hm(hu:X.A.units+1 < cLine)(hk:PE X k tk)(hv:PE X v tv):PE X (.Dict [Δ k] [v] pos) (NV tk tv):=by
 intro η s σ H Q I q;have hn:=I.aL.fresh (Yt ?C);have I1:=I.laid (a:=?C) (o:=.dT []) (h':=s.heap.push {cls:=.type "dict",data:=.dict #[]}) (t':=s.toks) (λ_ _ q=>Yl _ q) (Yt _) (Ad s.heap I.Uk);rw[arm_eval_Dict];have e0:(evalEachOpt [Δ k] X.env).zip (acm (λv=>do let x<-v;ac5 pos;pure x) (evalEach [v] X.env))=acm (λp=>(Δ p.1,p.2)) (pairTrees [Δ k] [v] X.env pos):=by rfl
 rw[e0,dictDisplay_pairs (pairTrees [Δ k] [v] X.env pos) (List.cons_ne_nil _ _) (Nat.le_of_ble_eq_true rfl)];refine Yo (adx (Yo (wpAny_subDict_any (Nat.le_of_ble_eq_true rfl) (bW ((Ae hk hv DD) η _ σ _ (λps H2=>match ps with
  |[(x,y)]=>H2 ?C=Δ (.dT [])/\∃ks b,x=.ref b/\H2 b=Δ (.tup (ks.map kV))/\Q (.ref ?C) (upd H2 ?C (.dT [(ks,y)]))
  |_=>False) I1 (q _ hn)) λws s2 ⟨ps,H2,I2,rel,h⟩=>?_))))
 cases rel with
 |nil=>exact h.elim|@cons p1 q1 ps1 qs1 r rs=>
  cases rs with
  |cons _ _=>exact h.elim|nil=>
  obtain⟨x,y⟩:=p1;obtain⟨w1,w2⟩:=q1;obtain⟨e,ks,b,ex,eb,q2⟩:=h;subst ex;cases (show w1=YW b from r.1);obtain⟨z,hd,xs,rl,dd⟩:=L8 I2.aL e;cases rl;unfold storeAll;rw[aaQ];have room:(acT (bh X.prog X.w)).room X.A:=by
   show X.A.units < cLine
   lia
  refine Yo (Yo (wpAny_dictSet_heap room (p7 I2.aL eb) dd (λh' zL hs=>YI ?_) ?E));dsimp only;rw[abr];refine YI (YI ?_);obtain⟨qq,es,ep,hq,h2,h3,h4,_,h5⟩:=zL;refine⟨.ref ?C,_,kg (ob:=.dT [(ks,y)]) I2 (by rw[e];exact ZU) hs ⟨qq,hq⟩ ⟨by simp[ZV],hd,_,(KT.put (H:=H2) .nil ks eb r.2).keeps λc ys ec=>?_,qq,es,ep,hq,h2,h3,h4,h5⟩,rfl,q2⟩;rw[ax (LV ec e (λz=>nomatch z))];exact ec
end L2
namespace Y
open PySem
inductive D where
 |bC|bl (b:Bool)|int (i:Int)|str (x:Str)|tup (xs:List D)|pl (xs:List D)
inductive P where
 |d (x:D)|obj (n:Nat)|ik (ns:List Int)
 |fn (k:Nat) (bA:List P)|lf (k:Nat)
inductive O where
 |lst (xs:List P)|dK (kvs:List (Sum Int Str×P))|dT (kvs:List (List (Sum Int Str)×P))|ins (c:Str) (fs:List (Str×P))
 |wm
abbrev aK:=List O
abbrev bS:=List (Option P)
inductive R (α:Type) where
 |ok (a:α) (st:aK)|ex (x:Str) (st:aK)|no
noncomputable def R.bind{α β:Type}(r:R α)(k:α->aK->R β):R β:=match r with|.ok a st=>k a st|.ex x st=>.ex x st|.no=>.no
noncomputable def R.of{α:Type}(o:Option α)(st:aK):R α:=match o with|some a=>.ok a st|none=>.no
@[simp] theorem aa{α β:Type}(a:α)st(k:α->aK->R β):(R.ok a st).bind k=k a st:=rfl
@[simp] theorem UA{α β:Type}x st(k:α->aK->R β):(R.ex x st:R α).bind k=.ex x st:=rfl
@[simp] theorem oH{α β:Type}(k:α->aK->R β):(R.no:R α).bind k=.no:=rfl
@[simp] theorem au{α:Type}(a:α)st:R.of (Δ a) st=.ok a st:=rfl
@[simp] theorem of_none{α:Type}st:R.of (Θ:Option α) st=.no:=rfl
inductive RT where|add|sub|mul|mod
inductive Mr where|lt|le|gt|ge|eq|ne|isin|jo
inductive Bf where|len|any|tuple
mutual
inductive E where
 |var (i:Nat)
 |cst (x:D)
 |op (o:RT) (a b:E)
 |not (a:E)
 |cmp (o:Mr) (a b:E)
 |chain (o o':Mr) (a b c:E)
 |and (es:List E)
 |or (es:List E)
 |tup (es:List E)
 |lst (m:Bool) (l:L)
 |call (f:Nat) (es:List E)
 |Hn (a:E) (T:String)
 |bf (f:Bf) (es:List E)
 |ix (a b:E)
 |qc (t:Bool)
 |oI (i:Nat) (es:List E)
 |fc (f:Nat) (es:List E) (ls:List (Nat×List Nat))
 |jA (i:Nat) (es:List E) (ls:List (Nat×List Nat))
 |lam (k:Nat)
 |attr (c f:Str) (i:Nat)
 |qd (k:Nat) (c m:Str) (i:Nat) (es:List E)
 |make (k:Nat) (c:Str) (es:List E)
 |Fb (a b:E)
 |CF (a:E)
 |ug (a b c:E)
 |Fc (k:E) (x:D)
inductive L where
 |fQ (es:List E)
 |comp (it:W) (ts:Nat) (js:List Nat) (c:Option E) (e:E)
 |list (e:E)
 |fR (es:List E)
 |zip (a b:E)
 |cx (e:E) (js:List Nat) (c:Option E) (ee:E)
 |iE (w:W) (js:List Nat) (c:Option E) (e:E)
 |keys (e:E)
inductive W where
 |ex (e:E)
 |fR (es:List E)
 |enum (e:E)
end
inductive Tg where
 |nm (i:Nat)
 |tup (is:List Nat)
 |two (i j:Nat)
inductive S where
 |ret (e:E)
 |Fd
 |set (i:Nat) (e:E)
 |ifs (c:E) (a b:List S)
 |eV (t:Tg) (w:W) (b:List S)
 |kq (c:E) (b:List S)
 |gS (t:Tg) (e:E) (b:List S)
 |CG (i j:Nat) (e:E) (b:List S)
 |jB (i j:Nat) (e:E) (b:List S)
 |expr (e:E)
 |nj (i k:Nat)
 |mG (c f:Str) (i:Nat) (e:E)
 |app (a e:E)
 |put (a i e:E)
inductive Fl where
 |nx (r:bS)|bk (r:bS)|ct (r:bS)|rt (v:P)
def aq:Nat:=16777216
noncomputable def nq:Int:=18446744073709551616
def nr:Int:=4611686018427387904
def nY(o:RT)(i j:Int):Option Int:=match o with|.add=>Δ (i+j)|.sub=>Δ (i - j)|.mul=>if(-nq < i/\i < nq)\/(-nq < j/\j < nq) then Δ (i*j) else Θ|.mod=>if 0 < j then Δ (i % j) else Θ
def Ho:P->Option D
 |.d x=>Δ x|_=>Θ
def br:List P->Option (List D)
 |[]=>Δ []|p::r=>(Ho p).bind λx=>(br r).map λxs=>x::xs
def cT(st:aK):P->Option (List P)
 |.d (.pl xs)=>Δ (xs.map .d)|.obj n=>match st[n]? with|some (.lst xs)=>Δ xs|_=>Θ
 |_=>Θ
def Jp(o:RT)(a b:P)(st:aK):Option P:=match o,a,b with|o,.d (.int i),.d (.int j)=>(nY o i j).map λk=>.d (.int k)|.add,.d (.str x),.d (.str y)=>if x.length+y.length<=aq then Δ (.d (.str (x++y))) else Θ|.add,.d (.tup xs),.d (.tup ys)=>if ?Q+?Zd<=aq then Δ (.d (.tup (xs++ys))) else Θ|.mul,.d (.tup xs),.d (.int k)=>if k=1 then Δ (.d ?QE) else if k=2/\0 < ?Q/\?Q<=100000 then Δ (.d (.tup (xs++xs))) else if k=3/\0 < ?Q/\?Q<=100000 then Δ (.d (.tup (xs++xs++xs))) else Θ|.add,a,b=>(cT st a).bind λxs=>(cT st b).bind λys=>(br (xs++ys)).bind λzs=>if zs.length<=aq then Δ (.d (.pl zs)) else Θ|_,_,_=>Θ
mutual
def sV:D->D->Bool
 |.bC,.bC=>Λ|.bl a,.bl b=>a==b|.bl a,.int j=>(if a then 1 else 0)==j|.int i,.bl b=>i==(if b then 1 else 0)|.int i,.int j=>i==j|.str x,.str y=>x==y|.tup xs,.tup ys=>iq xs ys|.pl xs,.pl ys=>iq xs ys|_,_=>Ξ
def iq:List D->List D->Bool
 |[],[]=>Λ|x::xs,y::ys=>sV x y&&iq xs ys|_,_=>Ξ
end
mutual
def mH:D->Nat
 |.tup xs=>kL xs+1|.pl xs=>kL xs+1|_=>0
def kL:List D->Nat
 |[]=>0|x::xs=>max (mH x) (kL xs)
end
theorem Hq:sV (.int i) (.int j)=(i==j):=rfl
theorem DJ:iq (x::xs) (y::ys)=(sV x y&&iq xs ys):=rfl
theorem NW:mH ?QE=kL xs+1:=rfl
theorem yI:kL (x::xs)=max (mH x) (kL xs):=rfl
def se(x y:D):Option Bool:=if min (mH x) (mH y)<=100 then Δ (sV x y) else Θ
def lr:D->Bool
 |.tup _=>Ξ|.pl _=>Ξ|_=>Λ
noncomputable def RU(o:Mr)(i j:Int):Option Bool:=match o with|.lt=>Δ (decide (i < j))|.le=>Δ (decide (i<=j))|.gt=>Δ (decide (j < i))|.ge=>Δ (decide (j<=i))|_=>Θ
def dg(st:aK):P->Option (List P)
 |.d (.tup xs)=>Δ (xs.map .d)|.ik ns=>Δ (ns.map λi=>.d (.int i))|p=>cT st p
def kr(st:aK):P->Option D
 |.d x=>Δ x|.obj n=>match st[n]? with|some (.lst xs)=>(br xs).map .pl|_=>Θ
 |_=>Θ
mutual
noncomputable def cz:P->Bool
 |.d _=>Λ|.fn _ bA=>cE bA|_=>Ξ
noncomputable def cE:List P->Bool
 |[]=>Λ|p::r=>cz p&&cE r
end
def yJ(st:aK):P->Option P
 |.ik ns=>Δ (.ik ns)|.fn k bA=>if cE bA then Δ (.fn k bA) else Θ|p=>(kr st p).map .d
def g9(st:aK):List P->Option (List P)
 |[]=>Δ []|p::r=>(yJ st p).bind λx=>(g9 st r).map λxs=>x::xs
noncomputable def keyOf:P->Option (Sum Int Str)
 |.d (.int i)=>Δ (.inl i)|.d (.str x)=>Δ (.inr x)|_=>Θ
def keysOf:List D->Option (List (Sum Int Str))
 |[]=>Δ []|x::r=>(keyOf (.d x)).bind λk=>(keysOf r).map λks=>k::ks
def nu:P->Option (List (Sum Int Str))
 |.d (.tup xs)=>keysOf xs|_=>Θ
noncomputable def fu{κ:Type}[DecidableEq κ](kvs:List (κ×P))(k:κ):Option P:=(kvs.find? λkv=>decide (kv.1=k)).map (·.2)
def mI{κ:Type}[DecidableEq κ](kvs:List (κ×P))(k:κ)(v:P):List (κ×P):=
 if ?QL=Λ then kvs.map (λkv=>if kv.1=k then(kv.1,v) else kv) else kvs++[(k,v)]
def oJ(o:O)(k:P):Option (Option P):=match o with|.lst _=>Θ|.ins _ _=>Θ|.wm=>Θ|.dK kvs=>(keyOf k).map λk=>fu kvs k|.dT kvs=>(nu k).map λk=>fu kvs k
def jI:O->Bool
 |.lst _=>Ξ|.ins _ _=>Ξ|.wm=>Ξ|_=>Λ
def Fe(st:aK):P->Option O
 |.obj n=>st[n]?|_=>Θ
def bF(st:aK)(p:P):Option O:=(Fe st p).bind λo=>if jI o then Δ o else Θ
def Hr:O->Nat
 |.lst xs=>?Q|.ins _ _=>0|.wm=>0|.dK kvs=>?Ql|.dT kvs=>?Ql
def DK(o:O)(k v:P):Option O:=match o with|.lst _=>Θ|.ins _ _=>Θ|.wm=>Θ|.dK kvs=>if ?Ql < aq then(keyOf k).map λk=>.dK (mI kvs k v) else Θ|.dT kvs=>if ?Ql < aq then(nu k).map λk=>.dT (mI kvs k v) else Θ
def NX(o:Mr)(a b:P):Option Bool:=match a,b with|.d (.int i),.d (.int j)=>RU o i j|_,_=>Θ
def Ff(a b:P)(st:aK):Option Bool:=match bF st b with|some o=>(oJ o a).map λr=>r.isSome|none=>(Ho a).bind λx=>(dg st b).bind λps=>(br ps).bind λys=>if lr x&&ys.all lr then Δ (ys.any λy=>sV y x) else Θ
def jf(o:Mr)(a b:P)(st:aK):Option Bool:=match o with|.eq=>(kr st a).bind λx=>(kr st b).bind λy=>se x y|.ne=>(kr st a).bind λx=>(kr st b).bind λy=>(se x y).map not|.isin=>Ff a b st|.jo=>(Ff a b st).map not|_=>NX o a b
def yK(st:aK):P->Option Bool
 |.d .bC=>Δ Ξ|.d (.bl b)=>Δ b|.d (.int i)=>Δ (i !=0)|.d (.str x)=>if x.length<=aq then Δ ((x.length:Int)!=0) else Θ|.d (.tup xs)=>Δ (!xs.isEmpty)|p=>(cT st p).map λxs=>!xs.isEmpty
noncomputable def Ki:P->aK->Option String
 |.d .bC,_=>Δ "NoneType"|.d (.bl _),_=>Δ "bool"|.d (.int _),_=>Δ "int"|.d (.str _),_=>Δ "str"|.d (.tup _),_=>Δ "tuple"|.d (.pl _),_=>Δ "list"|.obj n,st=>match st[n]? with|some (.lst _)=>Δ "list"|_=>Θ
 |_,_=>Θ
def fk(t T:String):Bool:=t==T||(t=="bool"&&T=="int")
noncomputable def Ce(n:Nat)(i:Int):Option Nat:=if 0<=i then(if i < n then Δ i.toNat else Θ) else if -(n:Int)<=i then Δ (i+n).toNat else Θ
def nZ{α:Type}(xs:List α)(i:Int):Option α:=(Ce ?Q i).bind λj=>xs[j]?
noncomputable def Hs:Option P->Option (Option Int)
 |none=>Δ Θ|some (.d (.int i))=>Δ (Δ i)|_=>Θ
def WJ(a b:P)(st:aK):Option P:=match b with|.d (.int i)=>(dg st a).bind λxs=>nZ xs i|_=>Θ
def Ax(a b:P)(st:aK):Option P:=match bF st a with|some o=>(oJ o b).bind id|none=>WJ a b st
def yL(a v:P)(st:aK):Option aK:=match a with
 |.obj n=>match st[n]? with|some (.lst xs)=>if ?Q < aq then Δ (st.set n (.lst (xs++[v]))) else Θ|_=>Θ
 |_=>Θ
def Ay(o:O)(k v:P):Option O:=match o with
 |.lst xs=>match k with|.d (.int i)=>(Ce ?Q i).map λj=>.lst (xs.set j v)|_=>Θ
 |o=>DK o k v
def nv(a k v:P)(st:aK):Option aK:=match a with|.obj n=>(st[n]?).bind λo=>(Ay o k v).map λo'=>st.set n o'|_=>Θ
noncomputable def boolsOf:List P->Option (List Bool)
 |[]=>Δ []|.d (.bl b)::r=>(boolsOf r).map λbs=>b::bs|_=>Θ
noncomputable def xk{κ:Type}[DecidableEq κ](kvs:List (κ×P))(k:κ):List (κ×P):=kvs.filter λkv=>decide (kv.1≠k)
def Ht(x y:P)(st:aK):Option (P×aK):=match x with
 |.obj n=>match st[n]? with|some (.dK kvs)=>(keyOf y).bind λk=>(fu kvs k).map λv=>(v,st.set n (.dK (xk kvs k)))|_=>Θ
 |_=>Θ
def CH(x:P)(st:aK):Option (P×aK):=match x with
 |.obj n=>match st[n]? with|some (.lst xs)=>(xs[?Q - 1]?).map λv=>(v,st.set n (.lst xs.dropLast))|_=>Θ
 |_=>Θ
def rD(x y z:P)(st:aK):Option (P×aK):=match x with
 |.obj n=>match st[n]? with
  |some (.dK kvs)=>if ?Ql < aq then(keyOf y).map λk=>match fu kvs k with|some v=>(v,st)|none=>(z,st.set n (.dK (mI kvs k z)))
   else Θ
  |_=>Θ
 |_=>Θ
noncomputable def yM:Sum Int Str->P
 |.inl i=>.d (.int i)|.inr x=>.d (.str x)
def Kj(x y:P):Option O:=match keyOf x with|some k=>Δ (.dK [(k,y)])|none=>(nu x).map λk=>.dT [(k,y)]
noncomputable def uh(st:aK):P->Option (Nat×List (Sum Int Str×P))
 |.obj n=>match st[n]? with|some (.dK kvs)=>Δ (n,kvs)|_=>Θ
 |_=>Θ
noncomputable def qf(c:Str)(st:aK):P->Option (Nat×List (Str×P))
 |.obj n=>match st[n]? with|some (.ins c' fs)=>if c'=c then Δ (n,fs) else Θ|_=>Θ
 |_=>Θ
noncomputable def wo(f:Str)(v:P):List (Str×P)->List (Str×P)
 |[]=>[(f,v)]|(g,x)::r=>if g=f then(g,v)::r else(g,x)::wo f v r
def conv(ls:List (Nat×List Nat))(r:bS):Nat->P->Option P
 |0,_=>Θ|n+1,p=>match p with|.d x=>Δ (.d x)|.ik ns=>Δ (.ik ns)|.fn k bA=>if cE bA then Δ (.fn k bA) else Θ|.lf k=>(ls.lookup k).bind λjs=>(js.mapM λj=>((r[j]?).join).bind (conv ls r n)).map λbA=>.fn k bA|.obj _=>Θ
section
variable(C:Nat->List P->aK->R P)
def kR(r:bS)(i:Nat):Option P:=(r[i]?).join
def sf(f:Bf)(ps:List P)(st:aK):Option P:=match f,ps with
 |.len,[p]=>match p with|.d (.str x)=>if x.length<=aq then Δ (.d (.int x.length)) else Θ|p=>match bF st p with|some o=>Δ (.d (.int (Hr o)))|none=>(dg st p).map λxs=>.d (.int ?Q)
 |.any,[p]=>(cT st p).bind λxs=>(boolsOf xs).map λbs=>.d (.bl (bs.any id))|.tuple,[p]=>(dg st p).bind λxs=>(br xs).map λys=>.d (.tup ys)|_,_=>Θ
def ny:P->Option (List P)
 |.d (.tup xs)=>Δ (xs.map .d)|.d (.pl xs)=>Δ (xs.map .d)|_=>Θ
noncomputable def Hu(lo hi:Int):List P:=(Yh (hi - lo).toNat).map λk=>.d (.int (lo+(k:Nat)))
def si:List P->Option (List P)
 |[.d (.int j)]=>if -nr<=j/\j < nr then Δ (Hu 0 j) else Θ|[.d (.int i),.d (.int j)]=>if -nr<=i/\i < nr/\ -nr<=j/\j < nr then Δ (Hu i j) else Θ|_=>Θ
def dS:Nat->List D->List P
 |_,[]=>[]|k,x::xs=>.d (.tup [.int k,x])::dS (k+1) xs
def Fg:P->P->Option (List D)
 |.d (.tup xs),.d (.tup ys)=>Δ ((xs.zip ys).map λp=>.tup [p.1,p.2])|_,_=>Θ
def cn(g:P->bS)(c:bS->aK->R Bool)(e:bS->aK->R P):List P->aK->R (List P)
 |[],st=>.ok [] st|p::r,st=>(c (g p) st).bind λb st1=>if b then(e (g p) st1).bind λy st2=>(cn g c e r st2).bind λys st3=>.ok (y::ys) st3 else cn g c e r st1
def xl(n:Nat)(st:aK)(i:Nat):Option (Option P):=match st[n]? with|some (.lst xs)=>Δ xs[i]?|_=>Θ
def cx(n:Nat)(g:P->bS)(c:bS->aK->R Bool)(e:bS->aK->R P):Nat->Nat->aK->R (List P)
 |0,_,_=>.no|k+1,i,st=>match xl n st i with|none=>.no|some Θ=>.ok [] st|some (Δ p)=>(c (g p) st).bind λb st1=>if b then(e (g p) st1).bind λy st2=>(cx n g c e k (i+1) st2).bind λys st3=>.ok (y::ys) st3 else cx n g c e k (i+1) st1
def iG(c:List P->aK->R P)(o:Option (List P))(st:aK):R P:=match o,st with
 |some qs,[]=>(c qs []).bind λp st2=>match p,st2 with|.d x,[]=>.ok (.d x) []|_,_=>.no
 |_,_=>.no
def bu(js:List Nat)(r:bS):bS:=js.map λj=>(r[j]?).join
def Hv:P->Bool
 |.d (.tup [_,_])=>Λ|_=>Ξ
noncomputable def NY:P->bS
 |.d (.tup [a,b])=>[Δ (.d a),Δ (.d b)]|_=>[Θ,Θ]
mutual
def ae:E->bS->aK->R P
 |.var i,r,st=>R.of (kR r i) st|.cst x,_,st=>.ok (.d x) st|.op o a b,r,st=>(ae a r st).bind λx st1=>(ae b r st1).bind λy st2=>R.of (Jp o x y st2) st2|.not a,r,st=>(ae a r st).bind λx st1=>(R.of (yK st1 x) st1).bind λb st2=>.ok (.d (.bl (!b))) st2|.cmp o a b,r,st=>(ae a r st).bind λx st1=>(ae b r st1).bind λy st2=>(R.of (jf o x y st2) st2).bind λb st3=>.ok (.d (.bl b)) st3|.chain o o' a b c,r,st=>(ae a r st).bind λx st1=>(ae b r st1).bind λy st2=>(R.of (jf o x y st2) st2).bind λk st3=>if k then(ae c r st3).bind λz mN=>(R.of (jf o' y z mN) mN).bind λb B1=>.ok (.d (.bl b)) B1 else .ok (.d ?Zj) st3
 |.and es,r,st=>gE es r st|.or es,r,st=>gF es r st|.tup es,r,st=>(aC es r st).bind λps st1=>if ?S<=aq then(R.of (br ps) st1).bind λxs st2=>.ok (.d ?QE) st2 else .no|.lst m l,r,st=>(aS l r st).bind λps st1=>if m then .ok (.obj st1.length) (st1++[.lst ps]) else(R.of (br ps) st1).bind λxs st2=>.ok (.d (.pl xs)) st2|.call f es,r,st=>(aC es r st).bind λps st1=>C f ps st1|.Hn a T,r,st=>(ae a r st).bind λx st1=>(R.of (Ki x st1) st1).bind λt st2=>.ok (.d (.bl (fk t T))) st2|.bf f es,r,st=>(aC es r st).bind λps st1=>R.of (sf f ps st1) st1|.ix a b,r,st=>(ae a r st).bind λx st1=>(ae b r st1).bind λy st2=>R.of (Ax x y st2) st2|.qc t,r,st=>.ok (.obj ?O) (st++[if t then .dT [] else .dK []])|.oI i es,r,st=>(R.of (kR r i) st).bind λp bG=>(aC es r bG).bind λps st1=>match p with|.fn k bA=>C k (ps++bA) st1|_=>.no
 |.fc f es ls,r,st=>(aC es r st).bind λps st1=>iG (C f) (ps.mapM (conv ls r 3)) st1|.jA i es ls,r,st=>(R.of (kR r i) st).bind λp bG=>(aC es r bG).bind λps st1=>match conv ls r 3 p with|some (.fn k bA)=>iG (C k) ((ps.mapM (conv ls r 3)).map λqs=>qs++bA) st1|_=>.no
 |.lam k,_,st=>.ok (.lf k) st|.attr c f i,r,st=>(R.of (kR r i) st).bind λx st1=>R.of ((qf c st1 x).bind λq=>q.2.lookup f) st1|.qd k c m i es,r,st=>(R.of (kR r i) st).bind λx bG=>(R.of ((qf c bG x).bind λq=>if(q.2.lookup m).isNone then Δ () else Θ) bG).bind λ_ bG=>(aC es r bG).bind λps st1=>C k (x::ps) st1|.Fb a b,r,st=>(ae a r st).bind λx st1=>(R.of (bF st1 x) st1).bind λ_ st1=>(ae b r st1).bind λy st2=>(R.of (Ht x y st2) st2).bind λq _=>.ok q.1 q.2|.ug a b c,r,st=>(ae a r st).bind λx st1=>(R.of (bF st1 x) st1).bind λ_ st1=>(ae b r st1).bind λy st2=>(ae c r st2).bind λz st3=>(R.of (rD x y z st3) st3).bind λq _=>.ok q.1 q.2|.Fc k x,r,st=>(ae k r st).bind λy st1=>(R.of (Kj y (.d x)) st1).bind λo st2=>.ok (.obj st2.length) (st2++[o])|.CF a,r,st=>(ae a r st).bind λx st1=>(R.of (CH x st1) st1).bind λq _=>.ok q.1 q.2|.make k c es,r,st=>(aC es r st).bind λps st1=>(C k (.obj st1.length::ps) (st1++[.ins c []])).bind λv st2=>match v with|.d .bC=>.ok (.obj st1.length) st2|_=>.no
def xm:Option E->bS->aK->R (Option P)
 |none,_,st=>.ok Θ st|some e,r,st=>(ae e r st).bind λx st1=>.ok (Δ x) st1
def aC:List E->bS->aK->R (List P)
 |[],_,st=>.ok [] st|e::es,r,st=>(ae e r st).bind λx st1=>(aC es r st1).bind λxs st2=>.ok (x::xs) st2
def gE:List E->bS->aK->R P
 |[],_,_=>.no|[e],r,st=>ae e r st|e::e'::es,r,st=>(ae e r st).bind λx st1=>match x with|.d (.bl b)=>if b then gE (e'::es) r st1 else .ok (.d ?Zj) st1|_=>.no
def gF:List E->bS->aK->R P
 |[],_,_=>.no|[e],r,st=>ae e r st|e::e'::es,r,st=>(ae e r st).bind λx st1=>match x with|.d (.bl b)=>if b then .ok (.d ?QV) st1 else gF (e'::es) r st1|_=>.no
def aS:L->bS->aK->R (List P)
 |.fQ es,r,st=>(aC es r st).bind λps st1=>if ?S<=aq then .ok ps st1 else .no|.comp w ts js c e,r,st=>(bM w r st).bind λps st1=>if ts=1/\?S<=aq then cn (λp=>Δ p::bu js r) (be c) (λr' aJ=>ae e r' aJ) ps st1 else .no|.iE w js c e,r,st=>(bM w r st).bind λps st1=>if ps.all Hv=Λ/\?S<=aq then cn (λp=>NY p++bu js r) (be c) (λr' aJ=>ae e r' aJ) ps st1 else .no|.list e,r,st=>(ae e r st).bind λx st1=>R.of (dg st1 x) st1|.fR es,r,st=>(aC es r st).bind λps st1=>(R.of (si ps) st1).bind λqs st2=>if qs.length<=aq then .ok qs st2 else .no|.zip a b,r,st=>(ae a r st).bind λx st1=>(ae b r st1).bind λy st2=>(R.of (Fg x y) st2).bind λzs st3=>.ok (zs.map .d) st3|.cx e js c ee,r,st=>(ae e r st).bind λx st1=>match x with|.obj n=>cx n (λp=>Δ p::bu js r) (be c) (λr' aJ=>ae ee r' aJ) aq 0 st1|_=>.no
 |.keys e,r,st=>(ae e r st).bind λx st1=>(R.of (uh st1 x) st1).bind λq st2=>.ok (q.2.map λkv=>yM kv.1) st2
def be:Option E->bS->aK->R Bool
 |none,_,st=>.ok Λ st|some c,r,st=>(ae c r st).bind λx st2=>R.of (yK st2 x) st2
def bM:W->bS->aK->R (List P)
 |.ex e,r,st=>(ae e r st).bind λx st1=>R.of (ny x) st1|.fR es,r,st=>(aC es r st).bind λps st1=>R.of (si ps) st1|.enum e,r,st=>(ae e r st).bind λx st1=>match x with|.d (.tup xs)=>.ok (dS 0 xs) st1|_=>.no
end
noncomputable def gf:Tg->P->bS->Option bS
 |.nm i,p,r=>Δ (r.set i (Δ p))|.tup _,_,_=>Θ|.two i j,p,r=>match p with|.d (.tup [x,y])=>Δ ((r.set i (Δ (.d x))).set j (Δ (.d y)))|_=>Θ
def forL(g:P->bS->Option bS)(b:bS->aK->R Fl):List P->bS->aK->R Fl
 |[],r,st=>.ok (.nx r) st|p::ps,r,st=>(R.of (g p r) st).bind λr1 bG=>(b r1 bG).bind λf st1=>match f with|.nx r2=>forL g b ps r2 st1|.ct r2=>forL g b ps r2 st1|.bk r2=>.ok (.nx r2) st1|.rt v=>.ok (.rt v) st1
def gS(n:Nat)(g:P->bS->Option bS)(b:bS->aK->R Fl):Nat->Nat->bS->aK->R Fl
 |0,_,_,_=>.no|k+1,i,r,st=>match xl n st i with|none=>.no|some Θ=>.ok (.nx r) st|some (Δ p)=>(R.of (g p r) st).bind λr1 bG=>(b r1 bG).bind λf st1=>match f with|.nx r2=>gS n g b k (i+1) r2 st1|.ct r2=>gS n g b k (i+1) r2 st1|.bk r2=>.ok (.nx r2) st1|.rt v=>.ok (.rt v) st1
def nz(i j:Nat)(b:bS->aK->R Fl):List (Sum Int Str×P)->bS->aK->R Fl
 |[],r,st=>.ok (.nx r) st|kv::ps,r,st=>(b ((r.set i (Δ (yM kv.1))).set j (Δ kv.2)) st).bind λf st1=>match f with|.nx r2=>nz i j b ps r2 st1|.ct r2=>nz i j b ps r2 st1|.bk r2=>.ok (.nx r2) st1|.rt v=>.ok (.rt v) st1
def jB(n i j:Nat)(b:bS->aK->R Fl):Nat->Nat->bS->aK->R Fl
 |0,_,_,_=>.no|k+1,q,r,st=>match xl n st q with|none=>.no|some Θ=>.ok (.nx r) st|some (Δ p)=>(b ((r.set i (Δ (.d (.int q)))).set j (Δ p)) st).bind λf st1=>match f with|.nx r2=>jB n i j b k (q+1) r2 st1|.ct r2=>jB n i j b k (q+1) r2 st1|.bk r2=>.ok (.nx r2) st1|.rt v=>.ok (.rt v) st1
def gT(c:bS->aK->R Bool)(b:bS->aK->R Fl):Nat->bS->aK->R Fl
 |0,_,_=>.no|n+1,r,st=>(c r st).bind λk st1=>if k then(b r st1).bind λf st2=>match f with|.nx r2=>gT c b n r2 st2|.ct r2=>gT c b n r2 st2|.bk r2=>.ok (.nx r2) st2|.rt v=>.ok (.rt v) st2 else .ok (.nx r) st1
def bY(d:bS->aK->R P)(r:bS)(st:aK):R Bool:=(d r st).bind λx st1=>R.of (yK st1 x) st1
def cF:Nat:=1000000
mutual
def aQ:S->bS->aK->R Fl
 |.ret e,r,st=>(ae C e r st).bind λv st1=>.ok (.rt v) st1|.Fd,r,st=>.ok (.rt (.d .bC)) st|.set i e,r,st=>(ae C e r st).bind λv st1=>.ok (.nx (r.set i (Δ v))) st1|.ifs c a b,r,st=>(bY (ae C c) r st).bind λk st1=>if k then ah a r st1 else ah b r st1|.eV t w b,r,st=>(bM C w r st).bind λps st1=>forL (gf t) (ah b) ps r st1|.kq c b,r,st=>gT (bY (ae C c)) (ah b) cF r st|.gS t e b,r,st=>(ae C e r st).bind λx st1=>match x with|.obj n=>gS n (gf t) (ah b) cF 0 r st1|_=>.no
 |.CG i j e b,r,st=>(ae C e r st).bind λx st1=>(R.of (uh st1 x) st1).bind λq st1=>(nz i j (ah b) q.2 r (st1.set q.1 .wm)).bind λf st2=>.ok f (st2.set q.1 (.dK q.2))|.jB i j e b,r,st=>(ae C e r st).bind λx st1=>match x with|.obj n=>jB n i j (ah b) cF 0 r st1|_=>.no
 |.expr e,r,st=>(ae C e r st).bind λ_ st1=>.ok (.nx r) st1|.nj i k,r,st=>.ok (.nx (r.set i (Δ (.lf k)))) st|.mG c f i e,r,st=>(ae C e r st).bind λv st1=>(R.of (kR r i) st1).bind λx st2=>(R.of ((qf c st2 x).bind λq=>if q.2.length < 1000 then Δ (st2.set q.1 (.ins c (wo f v q.2))) else Θ) st2).bind λst3 _=>.ok (.nx r) st3|.app a e,r,st=>(ae C a r st).bind λx st1=>(R.of (cT st1 x) st1).bind λ_ st1=>(ae C e r st1).bind λv st2=>(R.of (yL x v st2) st2).bind λst3 _=>.ok (.nx r) st3|.put a i e,r,st=>(ae C e r st).bind λv st1=>(ae C a r st1).bind λx st2=>(ae C i r st2).bind λk st3=>(R.of (nv x k v st3) st3).bind λmN _=>.ok (.nx r) mN
def ah:List S->bS->aK->R Fl
 |[],r,st=>.ok (.nx r) st|s::rest,r,st=>(aQ s r st).bind λf st1=>match f with|.nx r1=>ah rest r1 st1|.bk r1=>.ok (.bk r1) st1|.ct r1=>.ok (.ct r1) st1|.rt v=>.ok (.rt v) st1
end
variable{C}
theorem l9{i}:ae C (.var i) r st=R.of (kR r i) st:=rfl
@[simp]theorem dn{x}:ae C (.cst x) r st=.ok (.d x) st:=rfl
theorem iH{o a b}:ae C (.op o a b) r st=(ae C a r st).bind λx st1=>(ae C b r st1).bind λy st2=>R.of (Jp o x y st2) st2:=rfl
theorem xn{a}:ae C (.not a) r st=(ae C a r st).bind λx st1=>(R.of (yK st1 x) st1).bind λb st2=>.ok (.d (.bl (!b))) st2:=rfl
theorem bx{o a b}:ae C (.cmp o a b) r st=(ae C a r st).bind λx st1=>(ae C b r st1).bind λy st2=>(R.of (jf o x y st2) st2).bind λb st3=>.ok (.d (.bl b)) st3:=rfl
theorem rE{o o' a b c}:ae C (.chain o o' a b c) r st=(ae C a r st).bind λx st1=>(ae C b r st1).bind λy st2=>(R.of (jf o x y st2) st2).bind λk st3=>if k then(ae C c r st3).bind λz mN=>(R.of (jf o' y z mN) mN).bind λb B1=>.ok (.d (.bl b)) B1 else .ok (.d ?Zj) st3:=rfl
@[simp]theorem Fh{es}:ae C (.and es) r st=gE C es r st:=rfl
@[simp]theorem oK{es}:ae C (.or es) r st=gF C es r st:=rfl
theorem xo{es}:ae C (.tup es) r st=(aC C es r st).bind λps st1=>if ?S<=aq then(R.of (br ps) st1).bind λxs st2=>.ok (.d ?QE) st2 else .no:=rfl
theorem Fi{m l}:ae C (.lst m l) r st=(aS C l r st).bind λps st1=>if m then .ok (.obj st1.length) (st1++[.lst ps]) else(R.of (br ps) st1).bind λxs st2=>.ok (.d (.pl xs)) st2:=rfl
theorem dE{f es}:ae C (.call f es) r st=(aC C es r st).bind λps st1=>C f ps st1:=rfl
theorem Fj{a T}:ae C (.Hn a T) r st=(ae C a r st).bind λx st1=>(R.of (Ki x st1) st1).bind λt st2=>.ok (.d (.bl (fk t T))) st2:=rfl
theorem bT{f es}:ae C (.bf f es) r st=(aC C es r st).bind λps st1=>R.of (sf f ps st1) st1:=rfl
theorem bH{a b}:ae C (.ix a b) r st=(ae C a r st).bind λx st1=>(ae C b r st1).bind λy st2=>R.of (Ax x y st2) st2:=rfl
@[simp]theorem iI{t}:ae C (.qc t) r st=.ok (.obj ?O) (st++[if t then .dT [] else .dK []]):=rfl
theorem Az{i es}:ae C (.oI i es) r st=(R.of (kR r i) st).bind λp bG=>(aC C es r bG).bind λps st1=>match p with|.fn k bA=>C k (ps++bA) st1|_=>.no:=rfl
theorem fe{f es ls}:ae C (.fc f es ls) r st=(aC C es r st).bind λps st1=>iG (C f) (ps.mapM (conv ls r 3)) st1:=rfl
@[simp]theorem qg{k}:ae C (.lam k) r st=.ok (.lf k) st:=rfl
theorem CJ{c f i}:ae C (.attr c f i) r st=(R.of (kR r i) st).bind λx st1=>R.of ((qf c st1 x).bind λq=>q.2.lookup f) st1:=rfl
theorem CL{k c m i es}:ae C (.qd k c m i es) r st=(R.of (kR r i) st).bind λx bG=>(R.of ((qf c bG x).bind λq=>if(q.2.lookup m).isNone then Δ () else Θ) bG).bind λ_ bG=>(aC C es r bG).bind λps st1=>C k (x::ps) st1:=rfl
theorem ui{a b}:ae C (.Fb a b) r st=(ae C a r st).bind λx st1=>(R.of (bF st1 x) st1).bind λ_ st1=>(ae C b r st1).bind λy st2=>(R.of (Ht x y st2) st2).bind λq _=>.ok q.1 q.2:=rfl
theorem lx{a b c}:ae C (.ug a b c) r st=(ae C a r st).bind λx st1=>(R.of (bF st1 x) st1).bind λ_ st1=>(ae C b r st1).bind λy st2=>(ae C c r st2).bind λz st3=>(R.of (rD x y z st3) st3).bind λq _=>.ok q.1 q.2:=rfl
theorem uj{k x}:ae C (.Fc k x) r st=(ae C k r st).bind λy st1=>(R.of (Kj y (.d x)) st1).bind λo st2=>.ok (.obj st2.length) (st2++[o]):=rfl
theorem nA{a}:ae C (.CF a) r st=(ae C a r st).bind λx st1=>(R.of (CH x st1) st1).bind λq _=>.ok q.1 q.2:=rfl
theorem uk{k c es}:ae C (.make k c es) r st=(aC C es r st).bind λps st1=>(C k (.obj st1.length::ps) (st1++[.ins c []])).bind λv st2=>match v with|.d .bC=>.ok (.obj st1.length) st2|_=>.no:=rfl
@[simp]theorem um:xm C Θ r st=.ok Θ st:=rfl
theorem CM{e}:xm C (Δ e) r st=(ae C e r st).bind λx st1=>.ok (Δ x) st1:=rfl
@[simp]theorem az:aC C [] r st=.ok [] st:=rfl
theorem ak{e es}:aC C (e::es) r st=(ae C e r st).bind λx st1=>(aC C es r st1).bind λxs st2=>.ok (x::xs) st2:=rfl
@[simp]theorem Fm{e}:gE C [e] r st=ae C e r st:=rfl
theorem xp{e e' es}:gE C (e::e'::es) r st=(ae C e r st).bind λx st1=>match x with|.d (.bl b)=>if b then gE C (e'::es) r st1 else .ok (.d ?Zj) st1|_=>.no:=rfl
@[simp]theorem xq{e}:gF C [e] r st=ae C e r st:=rfl
theorem jJ{e e' es}:gF C (e::e'::es) r st=(ae C e r st).bind λx st1=>match x with|.d (.bl b)=>if b then .ok (.d ?QV) st1 else gF C (e'::es) r st1|_=>.no:=rfl
theorem iJ{es}:aS C (.fQ es) r st=(aC C es r st).bind λps st1=>if ?S<=aq then .ok ps st1 else .no:=rfl
theorem iK{w ts js c e}:aS C (.comp w ts js c e) r st=(bM C w r st).bind λps st1=>if ts=1/\?S<=aq then cn (λp=>Δ p::bu js r) (be C c) (λr' aJ=>ae C e r' aJ) ps st1 else .no:=rfl
theorem ly{w js c e}:aS C (.iE w js c e) r st=(bM C w r st).bind λps st1=>if ps.all Hv=Λ/\?S<=aq then cn (λp=>NY p++bu js r) (be C c) (λr' aJ=>ae C e r' aJ) ps st1 else .no:=rfl
theorem uo{e}:aS C (.list e) r st=(ae C e r st).bind λx st1=>R.of (dg st1 x) st1:=rfl
theorem xt{es}:aS C (.fR es) r st=(aC C es r st).bind λps st1=>(R.of (si ps) st1).bind λqs st2=>if qs.length<=aq then .ok qs st2 else .no:=rfl
theorem xu{a b}:aS C (.zip a b) r st=(ae C a r st).bind λx st1=>(ae C b r st1).bind λy st2=>(R.of (Fg x y) st2).bind λzs st3=>.ok (zs.map .d) st3:=rfl
theorem rF{e js c ee}:aS C (.cx e js c ee) r st=(ae C e r st).bind λx st1=>match x with|.obj n=>cx n (λp=>Δ p::bu js r) (be C c) (λr' aJ=>ae C ee r' aJ) aq 0 st1|_=>.no:=rfl
theorem uq{e}:aS C (.keys e) r st=(ae C e r st).bind λx st1=>(R.of (uh st1 x) st1).bind λq st2=>.ok (q.2.map λkv=>yM kv.1) st2:=rfl
@[simp]theorem nB:be C Θ r st=.ok Λ st:=rfl
theorem ku{c}:be C (Δ c) r st=(ae C c r st).bind λx st2=>R.of (yK st2 x) st2:=rfl
theorem ur{e}:bM C (.ex e) r st=(ae C e r st).bind λx st1=>R.of (ny x) st1:=rfl
theorem xw{es}:bM C (.fR es) r st=(aC C es r st).bind λps st1=>R.of (si ps) st1:=rfl
theorem CN{e}:bM C (.enum e) r st=(ae C e r st).bind λx st1=>match x with|.d (.tup xs)=>.ok (dS 0 xs) st1|_=>.no:=rfl
theorem qh{e}:aQ C (.ret e) r st=(ae C e r st).bind λv st1=>.ok (.rt v) st1:=rfl
theorem uu:aQ C .Fd r st=.ok (.rt (.d .bC)) st:=rfl
theorem qi{i e}:aQ C (.set i e) r st=(ae C e r st).bind λv st1=>.ok (.nx (r.set i (Δ v))) st1:=rfl
theorem qj{c a b}:aQ C (.ifs c a b) r st=(bY (ae C c) r st).bind λk st1=>if k then ah C a r st1 else ah C b r st1:=rfl
theorem uv{t w b}:aQ C (.eV t w b) r st=(bM C w r st).bind λps st1=>forL (gf t) (ah C b) ps r st1:=rfl
theorem oM{c b}:aQ C (.kq c b) r st=gT (bY (ae C c)) (ah C b) cF r st:=rfl
theorem uw{t e b}:aQ C (.gS t e b) r st=(ae C e r st).bind λx st1=>match x with|.obj n=>gS n (gf t) (ah C b) cF 0 r st1|_=>.no:=rfl
theorem ux{i j e b}:aQ C (.CG i j e b) r st=(ae C e r st).bind λx st1=>(R.of (uh st1 x) st1).bind λq st1=>(nz i j (ah C b) q.2 r (st1.set q.1 .wm)).bind λf st2=>.ok f (st2.set q.1 (.dK q.2)):=rfl
theorem uy{i j e b}:aQ C (.jB i j e b) r st=(ae C e r st).bind λx st1=>match x with|.obj n=>jB n i j (ah C b) cF 0 r st1|_=>.no:=rfl
theorem uz{e}:aQ C (.expr e) r st=(ae C e r st).bind λ_ st1=>.ok (.nx r) st1:=rfl
theorem uA{i k}:aQ C (.nj i k) r st=.ok (.nx (r.set i (Δ (.lf k)))) st:=rfl
theorem uB{c f i e}:aQ C (.mG c f i e) r st=(ae C e r st).bind λv st1=>(R.of (kR r i) st1).bind λx st2=>(R.of ((qf c st2 x).bind λq=>if q.2.length < 1000 then Δ (st2.set q.1 (.ins c (wo f v q.2))) else Θ) st2).bind λst3 _=>.ok (.nx r) st3:=rfl
theorem xx{a e}:aQ C (.app a e) r st=(ae C a r st).bind λx st1=>(R.of (cT st1 x) st1).bind λ_ st1=>(ae C e r st1).bind λv st2=>(R.of (yL x v st2) st2).bind λst3 _=>.ok (.nx r) st3:=rfl
theorem xy{a i e}:aQ C (.put a i e) r st=(ae C e r st).bind λv st1=>(ae C a r st1).bind λx st2=>(ae C i r st2).bind λk st3=>(R.of (nv x k v st3) st3).bind λmN _=>.ok (.nx r) mN:=rfl
theorem uC:ah C [] r st=.ok (.nx r) st:=rfl
theorem jq{s rest}:ah C (s::rest) r st=(aQ C s r st).bind λf st1=>match f with|.nx r1=>ah C rest r1 st1|.bk r1=>.ok (.bk r1) st1|.ct r1=>.ok (.ct r1) st1|.rt v=>.ok (.rt v) st1:=rfl
end
theorem Hw:forL g b [] r st=.ok (.nx r) st:=rfl
theorem qk:forL g b (p::ps) r st=(R.of (g p r) st).bind λr1 bG=>(b r1 bG).bind λf st1=>match f with|.nx r2=>forL g b ps r2 st1|.ct r2=>forL g b ps r2 st1|.bk r2=>.ok (.nx r2) st1|.rt v=>.ok (.rt v) st1:=rfl
theorem qm:gS n g b (k+1) i r st=match xl n st i with|none=>.no|some Θ=>.ok (.nx r) st|some (Δ p)=>(R.of (g p r) st).bind λr1 bG=>(b r1 bG).bind λf st1=>match f with|.nx r2=>gS n g b k (i+1) r2 st1|.ct r2=>gS n g b k (i+1) r2 st1|.bk r2=>.ok (.nx r2) st1|.rt v=>.ok (.rt v) st1:=rfl
theorem qo:jB n i j b (k+1) q r st=match xl n st q with|none=>.no|some Θ=>.ok (.nx r) st|some (Δ p)=>(b ((r.set i (Δ (.d (.int q)))).set j (Δ p)) st).bind λf st1=>match f with|.nx r2=>jB n i j b k (q+1) r2 st1|.ct r2=>jB n i j b k (q+1) r2 st1|.bk r2=>.ok (.nx r2) st1|.rt v=>.ok (.rt v) st1:=rfl
theorem Hx:nz i j b [] r st=.ok (.nx r) st:=rfl
theorem xA:nz i j b (kv::ps) r st=(b ((r.set i (Δ (yM kv.1))).set j (Δ kv.2)) st).bind λf st1=>match f with|.nx r2=>nz i j b ps r2 st1|.ct r2=>nz i j b ps r2 st1|.bk r2=>.ok (.nx r2) st1|.rt v=>.ok (.rt v) st1:=rfl
theorem lA:gT c b (n+1) r st=(c r st).bind λk st1=>if k then(b r st1).bind λf st2=>match f with|.nx r2=>gT c b n r2 st2|.ct r2=>gT c b n r2 st2|.bk r2=>.ok (.nx r2) st2|.rt v=>.ok (.rt v) st2 else .ok (.nx r) st1:=rfl
theorem xB:cn g c e [] st=.ok [] st:=rfl
theorem eY:cn g c e (p::r) st=(c (g p) st).bind λb st1=>if b then(e (g p) st1).bind λy st2=>(cn g c e r st2).bind λys st3=>.ok (y::ys) st3 else cn g c e r st1:=rfl
theorem nC:cx n g c e (k+1) i st=match xl n st i with|none=>.no|some Θ=>.ok [] st|some (Δ p)=>(c (g p) st).bind λb st1=>if b then(e (g p) st1).bind λy st2=>(cx n g c e k (i+1) st2).bind λys st3=>.ok (y::ys) st3 else cx n g c e k (i+1) st1:=rfl
structure Fn where
 np:Nat
 nn:Nat
 body:List S
 sh:Bool:=Ξ
mutual
def oN:D->Bool
 |.pl _=>Ξ|.tup xs=>DL xs|_=>Λ
def DL:List D->Bool
 |[]=>Λ|x::xs=>oN x&&DL xs
end
def isObj:P->Bool
 |.obj _=>Λ|_=>Ξ
def outF(r:R Fl):Option D:=match r with|.ok (.rt p) st=>kr st p|.ok (.nx _) _=>Δ .bC|_=>Θ
def ay(nn:Nat)(ps:List P):bS:=ps.map Δ++ZO (nn - ?S) Θ
def wq(C:Nat->List P->aK->R P)(F:Fn)(ps:List P):Option D:=if ?S=F.np then outF (ah C F.body (ay F.nn ps) []) else Θ
def uD(ps:List P)(d:D)(st:aK):R P:=if ps.any isObj&&!oN d then .no else .ok (.d d) st
noncomputable def Kk(r:R Fl):R P:=match r with|.ok (.rt p) st=>.ok p st|.ok (.nx _) st=>.ok (.d .bC) st|_=>.no
def xC(Fs:List Fn):Nat->Nat->List P->aK->R P
 |0,_,_,_=>.no|n+1,f,ps,st=>match Fs[f]? with|none=>.no|some F=>if F.sh then(if ?S=F.np then Kk (ah (xC Fs n) F.body (ay F.nn ps) st) else .no) else match g9 st ps with|none=>.no|some qs=>match wq (xC Fs n) F qs with|none=>.no|some d=>uD ps d st
theorem Hy:∃f:List Fn->Nat->Nat->List P->aK->R P,f=xC:=⟨xC,rfl⟩
noncomputable def callC:List Fn->Nat->Nat->List P->aK->R P:=ac2 Hy
theorem AA:callC=xC:=ab8 Hy
theorem uE Fs f ps st:callC Fs 0 f ps st=.no:=by rw[AA];rfl
theorem iN(Fs:List Fn)(n f:Nat)(ps:List P)(st:aK):callC Fs (n+1) f ps st=match Fs[f]? with|none=>.no|some F=>if F.sh then(if ?S=F.np then Kk (ah ?L F.body (ay F.nn ps) st) else .no) else match g9 st ps with|none=>.no|some qs=>match wq ?L F qs with|none=>.no|some d=>uD ps d st:=by rw[AA,xC]
end Y
namespace L2
open PySem PySem.Spec PySem.Calls PyProof.Rows PySem.W
section
variable{X:Cx}
section
variable{prog:Zm}{w:World}{A:ZS}{E:Value->YG->Prop}{s:YG}{κ:SortKind}
end
end
section
variable{X:Cx}
end
end L2
namespace Y
open PySem L2
structure KB where
 K:Yw
 B:Heap
 tabs:List ?Qu
 rG:Nat->Addr->Addr->List V->Prop
 Jq:Nat->Addr->Addr->Value->Heap->Prop
 AB:Nat->Str
structure KT where
 tabs:List ?Qu:=[]
 rG:Nat->Addr->Addr->List V->Prop:=λ_ _ _ _=>False
 Jq:Nat->Addr->Addr->Value->Heap->Prop:=λ_ _ _ _ _=>False
 AB:Nat->Str:=λ_=>""
abbrev af(X:Cx)(t:KT):KB:=⟨X.K,X.base,t.tabs,t.rG,t.Jq,t.AB⟩
mutual
def aH(K:KB)(H:Hp)(m Z:List Addr):D->V->Prop
 |.bC,v=>v=.bC|.bl b,v=>v=.bl b|.int i,v=>v=.int i|.str x,v=>v=.str x|.tup xs,v=>∃a us,v=.ref a/\H a=Δ (.tup us)/\av K H m Z xs us|.pl xs,v=>∃a us,v=.ref a/\Rd H a ?QY/\a∉m/\a∉Z/\av K H m Z xs us
def av(K:KB)(H:Hp)(m Z:List Addr):List D->List V->Prop
 |[],us=>us=[]|x::xs,us=>∃v vs,us=v::vs/\aH K H m Z x v/\av K H m Z xs vs
end
noncomputable def NZ(K:Yw)(H:Hp)(a:Addr)(us:List V):Prop:=(∃o,H a=Δ (.dA o ?QY))\/
 ∃(o:Obj) (its:Array Value) (n:Nat),K.lookup a=Δ o/\o.cls=.type "list"/\o.dict=Θ/\o.data=.seq its n/\its.size<=YQ/\aU us its.toList
theorem NZ.sq(h:NZ K H a us):mB K H a us:=by
 rcases h with h|h;·exact .inl (.inr h)
 ·exact .inr h
mutual
def aj(K:KB)(H:Hp)(m Z:List Addr):P->V->Prop
 |.d x,v=>aH K H m Z x v|.obj n,v=>∃a,m[n]?=Δ a/\v=.ref a|.ik ns,v=>∃a,v=.ref a/\NZ K.K H a (ns.map V.int)|.fn k bA,v=>∃a c b7,v=.ref a/\K.rG k a c b7/\H c=Δ (.ext (dD c (K.AB k)))/\ai K H m Z bA b7|.lf k,v=>∃a c ct,v=.ref a/\H a=Δ (.ext (K.Jq k a c ct))/\H c=Δ (.ext (dD c (K.AB k)))
def ai(K:KB)(H:Hp)(m Z:List Addr):List P->List V->Prop
 |[],us=>us=[]|x::xs,us=>∃v vs,us=v::vs/\aj K H m Z x v/\ai K H m Z xs vs
end
def aO{κ:Type}(K:KB)(H:Hp)(m Z:List Addr):List (κ×P)->List (κ×V)->Prop
 |[],us=>us=[]|x::xs,us=>∃v vs,us=(x.1,v)::vs/\aj K H m Z x.2 v/\aO K H m Z xs vs
def sk(K:KB)(H:Hp)(m Z:List Addr)(a:Addr):O->Prop
 |.lst ps=>∃us,H a=Δ ?QY/\ai K H m Z ps us|.dK kvs=>∃us,H a=Δ (.dK us)/\aO K H m Z kvs us|.dT kvs=>∃us,H a=Δ (.dT us)/\aO K H m Z kvs us|.ins c fs=>∃C dx us,YJ K.K YB c=Δ (Δ (.ref C))/\H a=Δ (.ins C dx us)/\H dx=Δ (.own a)/\aO K H m Z fs us|.wm=>∃o us,H a=Δ (.dA o (.dK us))
theorem ai.mono(f:∀p v,aj K H m Z p v->aj K H' m' Z' p v):∀{xs} {us},ai K H m Z xs us->ai K H' m' Z' xs us
 |[],_,h=>h|x::xs,us,h=>by rw[ai] at h ⊢;obtain⟨v,vs,e,r,rs⟩:=h;exact⟨v,vs,e,f _ _ r,ai.mono f rs⟩
theorem aO.mono{κ:Type}{H H':Hp}{m m' Z Z':List Addr}(f:∀p v,aj K H m Z p v->aj K H' m' Z' p v):∀{xs:List (κ×P)} {us:List (κ×V)},aO K H m Z xs us->aO K H' m' Z' xs us
 |[],_,h=>h|x::xs,us,h=>by obtain⟨v,vs,e,r,rs⟩:=?Qp;exact⟨v,vs,e,f _ _ r,aO.mono f rs⟩
theorem sk.mono(he:∀b u,(b=a\/H b=Δ (.own a))->H b=Δ u->H' b=Δ u)(f:∀p v,aj K H m Z p v->aj K H' m' Z' p v)(h:sk K H m Z a o):sk K H' m' Z' a o:=by cases o with|lst ps=>obtain⟨us,e,r⟩:=h;exact⟨us,he _ _ ?QO e,r.mono f⟩|dK ps=>obtain⟨us,e,r⟩:=h;exact⟨us,he _ _ ?QO e,r.mono f⟩|dT ps=>obtain⟨us,e,r⟩:=h;exact⟨us,he _ _ ?QO e,r.mono f⟩|ins c fs=>obtain⟨C,dx,us,n,e,e2,r⟩:=h;exact⟨C,dx,us,n,he _ _ ?QO e,he _ _ (.inr e2) e2,r.mono f⟩|wm=>obtain⟨o,us,e⟩:=h;exact⟨o,us,he _ _ ?QO e⟩
theorem sk.rU(h:sk K H m Z a o):H a≠Θ/\(∀us,H a≠Δ (.tup us))/\(o≠.wm->∀o' u,H a≠Δ (.dA o' u))/\(∀φ,H a≠Δ ?QQ)/\(∀ps,H a≠Δ (.fO ps))/\∀b,H a≠Δ (.own b):=by cases o with|lst ps=>obtain⟨us,e,r⟩:=h;rw[e];exact⟨(λz=>nomatch z),(λ_ z=>nomatch z),(λ_ _ _ z=>nomatch z),(λ_ z=>nomatch z),(λ_ z=>nomatch z),(λ_ z=>nomatch z)⟩|dK ps=>obtain⟨us,e,r⟩:=h;rw[e];exact⟨(λz=>nomatch z),(λ_ z=>nomatch z),(λ_ _ _ z=>nomatch z),(λ_ z=>nomatch z),(λ_ z=>nomatch z),(λ_ z=>nomatch z)⟩|dT ps=>obtain⟨us,e,r⟩:=h;rw[e];exact⟨(λz=>nomatch z),(λ_ z=>nomatch z),(λ_ _ _ z=>nomatch z),(λ_ z=>nomatch z),(λ_ z=>nomatch z),(λ_ z=>nomatch z)⟩|ins c fs=>obtain⟨C,dx,us,n,e,e2,r⟩:=h;rw[e];exact⟨(λz=>nomatch z),(λ_ z=>nomatch z),(λ_ _ _ z=>nomatch z),(λ_ z=>nomatch z),(λ_ z=>nomatch z),(λ_ z=>nomatch z)⟩|wm=>obtain⟨o,us,e⟩:=h;rw[e];exact⟨(λz=>nomatch z),(λ_ z=>nomatch z),(λz=>absurd rfl z),(λ_ z=>nomatch z),(λ_ z=>nomatch z),(λ_ z=>nomatch z)⟩
structure aA(K:KB)(H:Hp)(m Z:List Addr)(st:aK):Prop where
 len:?A=?O
 nd:m.Nodup
 at_:∀(n:Nat) (o:O),st[n]?=Δ o->∃a,m[n]?=Δ a/\sk K H m Z a o
 zt:∀a∈Z,gQ H a≠Θ
 zm:∀a∈Z,a∉m
 tab:∀t∈K.tabs,∃ps,H t.1=Δ (.fO ps)/\fV H t.2 ps
structure cA(K:KB)(H:Hp)(m Z:List Addr)(r:bS)(σ:St):Prop where
 len:r.length=σ.length
 at_:∀(i:Nat) (p:P),r[i]?=Δ (Δ p)->∃v,σ[i]?=Δ (Δ v)/\aj K H m Z p v
structure Le(K:KB)(m:List Addr)(H:Hp)(m':List Addr)(H':Hp):Prop where
 pre:∃t,m'=m++t
 tup:∀a xs,H a=Δ ?QE->H' a=Δ ?QE
 keep:∀a u,H a=Δ u->a∉m->(∀ps,u≠.fO ps)->H' a=Δ u
 new:∀a∈m',a∈m\/H a=Θ
 rU:∀a,H a≠Θ->H' a≠Θ
 DM:∀a,gQ H a≠Θ->gQ H' a≠Θ
 dA:∀a o u,H a=Δ (.dA o u)->H' a=Δ (.dA o u)
 ext:∀a φ,H a=Δ ?QQ->H' a=Δ ?QQ
 fO:∀a ps,H a=Δ (.fO ps)->∃more,H' a=Δ (.fO (ps++more))
section
variable{K:KB}{H H' H1 H2:Hp}{m m' m1 m2 Z:List Addr}{α β:Type}
theorem Hz(h:Rd H a u):H a≠Θ:=by rcases h with h|⟨o,h⟩<;>(rw[h];exact λz=>nomatch z)
theorem Le.refl:Le K m H m H:=⟨⟨[],by simp⟩,λ_ _ h=>h,λ_ _ h _ _=>h,λ_ h=>.inl h,λ_ h=>h,λ_ h=>h,λ_ _ _ h=>h,λ_ _ h=>h,λ_ ps h=>⟨#[],by rw[h];simp⟩⟩
theorem Le.trans(a:Le K m H m1 H1)(b:Le K m1 H1 m2 H2):Le K m H m2 H2 where
 pre:=by obtain⟨t,e⟩:=a.pre;obtain⟨u,e'⟩:=b.pre;exact⟨t++u,by rw[e',e,Zf]⟩
 tup:=λc xs h=>b.tup c xs (a.tup c xs h)
 keep:=λc u h hc hu=>b.keep c u (a.keep c u h hc hu) (λz=>by
  rcases a.new c z with q|q;·exact hc q
  ·rw[h] at q;cases q) hu
 new:=λc hc=>by
  rcases b.new c hc with q|q;·exact a.new c q
  ·cases e:H c with|none=>exact .inr rfl|some o=>exact absurd q (a.rU c (by rw[e];exact λz=>nomatch z))
 rU:=λc h=>b.rU c (a.rU c h)
 DM:=λc h=>b.DM c (a.DM c h)
 dA:=λc o u h=>b.dA c o u (a.dA c o u h)
 ext:=λc φ h=>b.ext c φ (a.ext c φ h)
 fO:=λc ps h=>by obtain⟨m1,e1⟩:=a.fO c ps h;obtain⟨m2,e2⟩:=b.fO c _ e1;exact⟨m1++m2,by rw[e2,Array.append_assoc]⟩
theorem Kl(e:kQ H H')(h:H a≠Θ):H' a≠Θ:=by cases q:H a with|none=>exact absurd q h|some o=>rw[e _ _ q];exact λz=>nomatch z
theorem uF(e:kQ H H')(h:gQ H a≠Θ):gQ H' a≠Θ:=by cases q:gQ H a with|none=>exact absurd q h|some o=>obtain⟨h1,h2⟩:=lp q;have h3:=e _ _ h1;cases o with|ext φ=>have:∃q,φ=dD a q:=YT λz=>h2 φ rfl λq' e'=>z ⟨q',e'⟩;obtain⟨q',rfl⟩:=this;rw[gD h3];exact λz=>nomatch z|_=>rw[bz h3 (λ_ z=>nomatch z)];exact λz=>nomatch z
theorem Le.same(e:kQ H H'):Le K m H m H':=⟨⟨[],by simp⟩,λ_ _ h=>e _ _ h,λ_ _ h _ _=>e _ _ h,λ_ h=>.inl h,λ_ h=>Kl e h,λ_ h=>uF e h,λ_ _ _ h=>e _ _ h,λ_ _ h=>e _ _ h,λ_ ps h=>⟨#[],by rw[e _ _ h];simp⟩⟩
theorem Le.rd(le:Le K m H m' H')(h:Rd H a ?QY)(hm:a∉m):Rd H' a ?QY:=by
 rcases h with h|⟨o,h⟩;·exact .inl (le.keep _ _ h hm (λ_ z=>nomatch z))
 ·exact .inr ⟨o,le.keep _ _ h hm (λ_ z=>nomatch z)⟩
mutual
theorem aH.le(le:Le K m H m' H'):∀{x:D} {v:V},aH K H m Z x v->aH K H' m' Z x v
 |.bC,_,h=>h|.bl _,_,h=>h|.int _,_,h=>h|.str _,_,h=>h|.tup xs,v,h=>by obtain⟨a,us,e,q,r⟩:=?Qw;exact⟨a,us,e,le.tup _ _ q,av.le le r⟩
 |.pl xs,v,h=>by
  obtain⟨a,us,e,q,hm,hz,r⟩:=?Qj;refine⟨a,us,e,le.rd q hm,λz=>?_,hz,av.le le r⟩;rcases le.new a z with y|y;·exact hm y
  ·exact Hz q y
theorem av.le(le:Le K m H m' H'):∀{xs:List D} {us:List V},av K H m Z xs us->av K H' m' Z xs us
 |[],_,h=>h|x::xs,us,h=>by obtain⟨v,vs,e,r,rs⟩:=?Qd;exact⟨v,vs,e,aH.le le r,av.le le rs⟩
end
mutual
theorem aj.le(le:Le K m H m' H'):∀{x:P} {v:V},aj K H m Z x v->aj K H' m' Z x v
 |.d _,_,h=>by rw[aj] at h ⊢;exact aH.le le h|.obj n,v,h=>by rw[aj] at h ⊢;obtain⟨a,e,r⟩:=h;obtain⟨t,q⟩:=le.pre;refine⟨a,?_,r⟩;rw[q,Yq (qqz e).1];exact e
 |.ik ns,v,h=>by
  rw[aj] at h ⊢;obtain⟨a,e,r⟩:=h;refine⟨a,e,?_⟩;rcases r with ⟨o,r⟩|r
  ·exact .inl ⟨o,le.dA _ _ _ r⟩
  ·exact .inr r
 |.fn k bA,v,h=>by rw[aj] at h ⊢;obtain⟨a,c,b7,e,q,hc,r⟩:=h;exact⟨a,c,b7,e,q,le.ext _ _ hc,ai.le le r⟩|.lf k,v,h=>by rw[aj] at h ⊢;obtain⟨a,c,ct,e,q,r⟩:=h;exact⟨a,c,ct,e,le.ext _ _ q,le.ext _ _ r⟩
theorem ai.le(le:Le K m H m' H'):∀{xs:List P} {us:List V},ai K H m Z xs us->ai K H' m' Z xs us
 |[],_,h=>h|x::xs,us,h=>by obtain⟨v,vs,e,r,rs⟩:=(show ∃v vs,us=v::vs/\aj K H m Z x v/\ai K H m Z xs vs by rw[ai] at h;exact h);rw[ai];exact⟨v,vs,e,aj.le le r,ai.le le rs⟩
end
theorem cA.le(A:cA K H m Z r σ)(le:Le K m H m' H'):cA K H' m' Z r σ:=⟨A.len,λi p h=>by obtain⟨v,e,q⟩:=A.at_ i p h;exact⟨v,e,q.le le⟩⟩
theorem fV.same(e:∀a φ,H a=Δ ?QQ->H' a=Δ ?QQ)(h:fV H bX ps):fV H' bX ps:=
 ⟨h.1,λp hp cv BV=>by obtain⟨c,e1,e2⟩:=h.2 p hp cv BV;exact⟨c,e1,e _ _ e2⟩⟩
theorem aA.same(A:aA K H m Z st)(e:kQ H H'):aA K H' m Z st:=by
 refine⟨A.len,A.nd,λn o h=>?_,λa h=>uF e (A.zt a h),A.zm,λt ht=>?_⟩;·obtain⟨a,q,r⟩:=A.at_ n o h;exact⟨a,q,r.mono (λb u _ hu=>e _ _ hu) λp v z=>z.le (Le.same e)⟩
 ·obtain⟨ps,h1,h2⟩:=A.tab t ht;exact⟨ps,e _ _ h1,fV.same (λa φ z=>e _ _ z) h2⟩
noncomputable def Ok(K:KB)(Z:List Addr)(r:R α)(m:List Addr)(H:Hp)(Q:α->aK->List Addr->Hp->Prop):Prop:=match r with|.ok a aJ=>∀m' H',Le K m H m' H'->aA K H' m' Z aJ->Q a aJ m' H'|_=>False
theorem Ok.le(h:Ok K Z r m H Q)(le:Le K m H m' H'):Ok K Z r m' H' Q:=by cases r with|ok a aJ=>exact λm2 H2 l2 a2=>h m2 H2 (le.trans l2) a2|ex x aJ=>exact h|no=>exact h
theorem Ok.bind(h:Ok K Z (r.bind k) m H Q):Ok K Z r m H (λa aJ m' H'=>Ok K Z (k a aJ) m' H' Q):=by cases r with|ok a aJ=>exact λm' H' le _=>Ok.le (r:=k a aJ) h le|ex x aJ=>exact h|no=>exact h
theorem Ok.oH{r:R α}{Q:β->aK->List Addr->Hp->Prop}(hk:∀a st,k a st=.no)(h:Ok K Z (r.bind k) m H Q):False:=by cases r with|ok a aJ=>rw[aa,hk] at h;exact h|ex x aJ=>exact h|no=>exact h
theorem Ok.mono(h:Ok K Z r m H Q)(f:∀a aJ m' H',Le K m H m' H'->aA K H' m' Z aJ->Q a aJ m' H'->Q' a aJ m' H'):Ok K Z r m H Q':=by cases r with|ok a aJ=>exact λm' H' le as=>f a aJ m' H' le as (h m' H' le as)|ex x aJ=>exact h|no=>exact h
theorem Ok.xD(h:Ok K Z r m H Q)(f:∀a aJ m' H',r=.ok a aJ->Le K m H m' H'->aA K H' m' Z aJ->Q a aJ m' H'->Q' a aJ m' H'):Ok K Z r m H Q':=by cases r with|ok a aJ=>exact λm' H' le as=>f a aJ m' H' rfl le as (h m' H' le as)|ex x aJ=>exact h|no=>exact h
theorem Ok.of(h:Ok K Z (R.of o st) m H Q)(as:aA K H m Z st):∃a,o=Δ a/\Q a st m H/\∀m' H',Le K m H m' H'->aA K H' m' Z st->Q a st m' H':=by cases o with|none=>exact(show False from h).elim|some a=>exact⟨a,rfl,h m H Le.refl as,h⟩
theorem Ok.here(h:Ok K Z (R.ok a st) m H Q)(as:aA K H m Z st):Q a st m H:=h m H Le.refl as
inductive tE (K:KB) (Z:List Addr) (d:bS->aK->R P) (σ:St) (H:Hp) (Q:VK):Prop
 |mk (m:List Addr) (r:bS) (st:aK) (a:cA K H m Z r σ) (b:aA K H m Z st) (c:Ok K Z (d r st) m H (λp _ m' H'=>∀v,aj K H' m' Z p v->Q v H')):tE K Z d σ H Q
inductive tT (K:KB) (Z:List Addr) (d:bS->aK->R Bool) (σ:St) (H:Hp) (Q:Bool->Hp->Prop):Prop
 |mk (m:List Addr) (r:bS) (st:aK) (a:cA K H m Z r σ) (b:aA K H m Z st) (c:Ok K Z (d r st) m H (λb _ _ H'=>Q b H')):tT K Z d σ H Q
inductive tA (K:KB) (Z:List Addr) (d:bS->aK->R (List P)) (σ:St) (H:Hp) (Q:List V->Hp->Prop):Prop
 |mk (m:List Addr) (r:bS) (st:aK) (a:cA K H m Z r σ) (b:aA K H m Z st) (c:Ok K Z (d r st) m H (λps _ m' H'=>∀vs,ai K H' m' Z ps vs->Q vs H')):tA K Z d σ H Q
def LQ(K:KB)(Z:List Addr)(r:R (List P))(m:List Addr)(H:Hp)(Q:VK):Prop:=match r with|.ok ps aJ=>∀m' H' a vs,Le K m H m' H'->H a=Θ->a∉m'->H' a=Δ (.lst vs)->aA K H' m' (a::Z) aJ->ai K H' m' (a::Z) ps vs->Q ?QT H'|_=>False
inductive tL (K:KB) (Z:List Addr) (d:bS->aK->R (List P)) (σ:St) (H:Hp) (Q:VK):Prop
 |mk (m:List Addr) (r:bS) (st:aK) (a:cA K H m Z r σ) (b:aA K H m Z st) (c:LQ K Z (d r st) m H Q):tL K Z d σ H Q
def rH(K:KB)(Z:List Addr)(D:Ends):Fl->aK->List Addr->Hp->Prop:=λf _ m' H'=>match f with|.nx r=>∀σ,cA K H' m' Z r σ->D.nx σ H'|.bk r=>∀σ,cA K H' m' Z r σ->D.bk σ H'|.ct r=>∀σ,cA K H' m' Z r σ->D.ct σ H'|.rt p=>∀v,aj K H' m' Z p v->D.rt v H'
mutual
theorem aH.sub{Z':List Addr}(sm:∀a∈m',a∈m)(s:∀a∈Z,a∈Z'):∀{x:D} {v:V},aH K H m Z' x v->aH K H m' Z x v
 |.bC,_,h=>h|.bl _,_,h=>h|.int _,_,h=>h|.str _,_,h=>h|.tup xs,v,h=>by obtain⟨a,us,e,q,r⟩:=(show ∃a us,v=.ref a/\H a=Δ (.tup us)/\av K H m Z' xs us from h);exact⟨a,us,e,q,av.sub sm s r⟩
 |.pl xs,v,h=>by obtain⟨a,us,e,q,hm,hz,r⟩:=(show ∃a us,v=.ref a/\Rd H a ?QY/\a∉m/\a∉Z'/\av K H m Z' xs us from h);exact⟨a,us,e,q,λz=>hm (sm a z),λz=>hz (s a z),av.sub sm s r⟩
theorem av.sub{Z':List Addr}(sm:∀a∈m',a∈m)(s:∀a∈Z,a∈Z'):∀{xs:List D} {us:List V},av K H m Z' xs us->av K H m' Z xs us
 |[],_,h=>h|x::xs,us,h=>by obtain⟨v,vs,e,r,rs⟩:=(show ∃v vs,us=v::vs/\aH K H m Z' x v/\av K H m Z' xs vs from h);exact⟨v,vs,e,aH.sub sm s r,av.sub sm s rs⟩
end
theorem aH.wu(s:∀a∈Z,a∈Z')(h:aH K H m Z' x v):aH K H m Z x v:=aH.sub (λ_ h=>h) s h
theorem aH.bare(h:aH K H m Z x v):aH K H [] [] x v:=aH.sub (λ_ h=>by cases h) (λ_ h=>by cases h) h
theorem av.bare(h:av K H m Z x v):av K H [] [] x v:=av.sub (λ_ h=>by cases h) (λ_ h=>by cases h) h
mutual
theorem aj.wu{Z':List Addr}(s:∀a∈Z,a∈Z'):∀{x:P} {v:V},aj K H m Z' x v->aj K H m Z x v
 |.d _,_,h=>by rw[aj] at h ⊢;exact aH.wu s h|.obj _,_,h=>by rw[aj] at h ⊢;exact h|.ik _,_,h=>by rw[aj] at h ⊢;exact h|.fn k bA,v,h=>by rw[aj] at h ⊢;obtain⟨a,c,b7,e,q,hc,r⟩:=h;exact⟨a,c,b7,e,q,hc,ai.wu s r⟩
 |.lf k,v,h=>by rw[aj] at h ⊢;exact h
theorem ai.wu{Z':List Addr}(s:∀a∈Z,a∈Z'):∀{xs:List P} {us:List V},ai K H m Z' xs us->ai K H m Z xs us
 |[],_,h=>h|x::xs,us,h=>by rw[ai] at h ⊢;obtain⟨v,vs,e,r,rs⟩:=h;exact⟨v,vs,e,aj.wu s r,ai.wu s rs⟩
end
mutual
theorem aH.lB{b:Addr}(hb:H b=Θ):∀{x:D} {v:V},aH K H m Z x v->aH K H m (b::Z) x v
 |.bC,_,h=>h|.bl _,_,h=>h|.int _,_,h=>h|.str _,_,h=>h|.tup xs,v,h=>by obtain⟨a,us,e,q,r⟩:=?Qw;exact⟨a,us,e,q,av.lB hb r⟩
 |.pl xs,v,h=>by
  obtain⟨a,us,e,q,hm,hz,r⟩:=?Qj;refine⟨a,us,e,q,hm,λz=>?_,av.lB hb r⟩;rcases aa2.mp z with z|z;·rw[z] at q;exact Hz q hb
  ·exact hz z
theorem av.lB{b:Addr}(hb:H b=Θ):∀{xs:List D} {us:List V},av K H m Z xs us->av K H m (b::Z) xs us
 |[],_,h=>h|x::xs,us,h=>by obtain⟨v,vs,e,r,rs⟩:=?Qd;exact⟨v,vs,e,aH.lB hb r,av.lB hb rs⟩
end
mutual
theorem aj.lB{b:Addr}(hb:H b=Θ):∀{x:P} {v:V},aj K H m Z x v->aj K H m (b::Z) x v
 |.d _,_,h=>by rw[aj] at h ⊢;exact aH.lB hb h|.obj _,_,h=>by rw[aj] at h ⊢;exact h|.ik _,_,h=>by rw[aj] at h ⊢;exact h|.fn k bA,v,h=>by rw[aj] at h ⊢;obtain⟨a,c,b7,e,q,hc,r⟩:=h;exact⟨a,c,b7,e,q,hc,ai.lB hb r⟩
 |.lf k,v,h=>by rw[aj] at h ⊢;exact h
theorem ai.lB{b:Addr}(hb:H b=Θ):∀{xs:List P} {us:List V},ai K H m Z xs us->ai K H m (b::Z) xs us
 |[],_,h=>h|x::xs,us,h=>by rw[ai] at h ⊢;obtain⟨v,vs,e,r,rs⟩:=h;exact⟨v,vs,e,aj.lB hb r,ai.lB hb rs⟩
end
theorem aA.RV(A:aA K H m Z st)(h:a∈m):H a≠Θ:=by
 obtain⟨n,hn,e⟩:=List.mem_iff_getElem.mp h;have Gj:n < st.length:=by rw[<-A.len];exact hn
 obtain⟨a',e',r⟩:=A.at_ n st[n] (Yn Gj);rw[Yn hn,e] at e';cases e';exact r.rU.1
theorem aA.fresh(A:aA K H m Z st)(h:H a=Θ):a∉m/\a∉Z:=⟨λz=>A.RV z h,λz=>A.zt a z (kl h)⟩
theorem ma(hx:∀φ,o≠.ext φ)(h:gQ H b≠Θ):gQ (upd H a o) b≠Θ:=by
 by_cases hb:b=a;·rw[hb,bz aD hx];exact λz=>nomatch z
 ·unfold gQ at h ⊢;rw[ax hb];exact h
theorem aA.laid(A:aA K H m Z st)(h:H a=Θ)o(hx:∀φ,o≠.ext φ:=by exact λ_ z=>nomatch z):aA K (upd H a o) m (a::Z) st:=by
 have e:kQ H (upd H a o):=bp h o;have A':=A.same e;refine⟨A.len,A.nd,λn ob hn=>?_,λb hb=>?_,λb hb=>?_,A'.tab⟩;·obtain⟨c,q,r⟩:=A.at_ n ob hn;exact⟨c,q,r.mono (λb u _ hu=>e _ _ hu) λp v z=>(z.lB h).le (Le.same e)⟩
 ·rcases aa2.mp hb with z|z;·rw[z,bz aD hx];exact λz=>nomatch z
  ·exact A'.zt b z
 ·rcases aa2.mp hb with z|z;·rw[z];exact(A.fresh h).1
  ·exact A.zm b z
theorem aA.RW(A:aA K H m Z st)(h:H a=Θ)(e:kQ H H')(h':gQ H' a≠Θ):aA K H' m (a::Z) st:=by
 refine⟨A.len,A.nd,λn ob hn=>?_,λb hb=>?_,λb hb=>?_,(A.same e).tab⟩;·obtain⟨c,q,r⟩:=A.at_ n ob hn;exact⟨c,q,r.mono (λb u _ hu=>e _ _ hu) λp v z=>(z.lB h).le (Le.same e)⟩
 ·rcases aa2.mp hb with z|z;·rw[z];exact h'
  ·exact uF e (A.zt b z)
 ·rcases aa2.mp hb with z|z;·rw[z];exact(A.fresh h).1
  ·exact A.zm b z
theorem aA.wu(A:aA K H m Z' st)(s:∀a∈Z,a∈Z'):aA K H m Z st:=
 ⟨A.len,A.nd,λn o h=>by obtain⟨a,q,r⟩:=A.at_ n o h;exact⟨a,q,r.mono (λb u _ hu=>hu) λp v z=>z.wu s⟩,λa h=>A.zt a (s a h),λa h=>A.zm a (s a h),A.tab⟩
mutual
theorem aH.adopt{b:Addr}:∀{x:D} {v:V},aH K H m (b::Z) x v->aH K H (m++[b]) Z x v
 |.bC,_,h=>h|.bl _,_,h=>h|.int _,_,h=>h|.str _,_,h=>h|.tup xs,v,h=>by obtain⟨a,us,e,q,r⟩:=(show ∃a us,v=.ref a/\H a=Δ (.tup us)/\av K H m (b::Z) xs us from h);exact⟨a,us,e,q,av.adopt r⟩
 |.pl xs,v,h=>by
  obtain⟨a,us,e,q,hm,hz,r⟩:=(show ∃a us,v=.ref a/\Rd H a ?QY/\a∉m/\a∉b::Z/\av K H m (b::Z) xs us from h);refine⟨a,us,e,q,λz=>?_,λz=>hz (Yi _ z),av.adopt r⟩;rcases abh.mp z with z|z;·exact hm z
  ·exact hz (by simp at z;rw[z];exact Yk)
theorem av.adopt{b:Addr}:∀{xs:List D} {us:List V},av K H m (b::Z) xs us->av K H (m++[b]) Z xs us
 |[],_,h=>h|x::xs,us,h=>by obtain⟨v,vs,e,r,rs⟩:=(show ∃v vs,us=v::vs/\aH K H m (b::Z) x v/\av K H m (b::Z) xs vs from h);exact⟨v,vs,e,aH.adopt r,av.adopt rs⟩
end
mutual
theorem aj.adopt{b:Addr}:∀{x:P} {v:V},aj K H m (b::Z) x v->aj K H (m++[b]) Z x v
 |.d _,_,h=>by rw[aj] at h ⊢;exact aH.adopt h|.obj n,v,h=>by rw[aj] at h ⊢;obtain⟨a,e,r⟩:=h;exact⟨a,by rw[Yq (qqz e).1];exact e,r⟩
 |.ik _,_,h=>by rw[aj] at h ⊢;exact h|.fn k bA,v,h=>by rw[aj] at h ⊢;obtain⟨a,c,b7,e,q,hc,r⟩:=h;exact⟨a,c,b7,e,q,hc,ai.adopt r⟩
 |.lf k,v,h=>by rw[aj] at h ⊢;exact h
theorem ai.adopt{b:Addr}:∀{xs:List P} {us:List V},ai K H m (b::Z) xs us->ai K H (m++[b]) Z xs us
 |[],_,h=>h|x::xs,us,h=>by rw[ai] at h ⊢;obtain⟨v,vs,e,r,rs⟩:=h;exact⟨v,vs,e,aj.adopt r,ai.adopt rs⟩
end
theorem kY{l:List Addr}(nd:l.Nodup)(hi:i < l.length)(hj:j < l.length)(h:l[i]=l[j]):i=j:=by
 rcases Nat.lt_trichotomy i j with z|z|z;·exact absurd h (List.pairwise_iff_getElem.mp nd i j hi hj z)
 ·exact z
 ·exact absurd h.symm (List.pairwise_iff_getElem.mp nd j i hj hi z)
theorem aA.uG(A:aA K H m (a::Z) st)(hz:a∉Z)(r:sk K H m (a::Z) a ob):aA K H (m++[a]) Z (st++[ob]):=by
 refine⟨by rw[YF,YF,A.len];rfl,?_,λn o h=>?_,λb h=>A.zt b (Yi _ h),λb h z=>?_,A.tab⟩
 ·refine Ze.mpr ⟨A.nd,by simp,λx hx y hy=>?_⟩;have e:y=a:=by simpa using hy
  rw[e];rintro rfl;exact A.zm x Yk hx
 ·by_cases hn:n < ?O;·rw[Yq hn] at h;obtain⟨b,q,rr⟩:=A.at_ n o h;exact⟨b,by rw[Yq (by rw[A.len];exact hn)];exact q,rr.mono (λb u _ hu=>hu) λp v z=>z.adopt⟩
  ·rw[YH ?D] at h;have UB:n - ?O=0:=by
    have:=(qqz h).1;simp at this
    lia
   rw[UB] at h;cases h;refine⟨a,?_,r.mono (λb u _ hu=>hu) λp v z=>z.adopt⟩;rw[YH (by rw[A.len];lia),A.len,UB];rfl
 ·rcases abh.mp z with z|z;·exact A.zm b (Yi _ h) z
  ·have e:b=a:=by simpa using z
   rw[e] at h;exact hz h
theorem aA.adopt(A:aA K H m (a::Z) st)(hz:a∉Z)(ha:H a=Δ (.lst vs))(r:ai K H m (a::Z) ps vs):aA K H (m++[a]) Z (st++[.lst ps]):=A.uG hz ⟨vs,ha,r⟩
theorem aA.write(A:aA K H m Z st)(hn:st[n]?=Δ o)(ha:m[n]?=Δ a)(pV:∀H',H' a=Δ ho->(∀b u,b≠a->H b=Δ u->H' b=Δ u)->(∀p v,aj K H m Z p v->aj K H' m Z p v)->sk K H' m Z a o')(hx:∀φ,ho≠.ext φ:=by exact λ_ z=>nomatch z)(hl:o≠.wm:=by exact λz=>nomatch z):
  Le K m H m (upd H a ho)/\aA K (upd H a ho) m Z (st.set n o'):=by
 obtain⟨a',e,r⟩:=A.at_ n o hn;rw[ha] at e;cases e;obtain⟨t1,t2,t3,t4,t5,t6⟩:=r.rU;replace t3:=t3 hl;have le:Le K m H m (upd H a ho):=by
  refine⟨⟨[],by simp⟩,λb xs h=>?_,λb u h hb _=>?_,λb h=>.inl h,λb h=>?_,λb h=>ma hx h,λb o u h=>?_,λb φ h=>?_,λb ps h=>⟨#[],?_⟩⟩;·rw[ax (λz=>t2 xs (by rw[<-z];exact h))];exact h
  ·rw[ax (λz=>hb (by rw[z];exact Yz ha))];exact h
  ·by_cases N1:b=a;·rw[N1,aD];exact λz=>nomatch z
   ·rw[ax N1];exact h
  ·rw[ax (λz=>t3 o u (by rw[<-z];exact h))];exact h
  ·rw[ax (λz=>t4 φ (by rw[<-z];exact h))];exact h
  ·rw[ax (λz=>t5 ps (by rw[<-z];exact h)),h];simp
 refine⟨le,⟨by rw[ZH];exact A.len,A.nd,λk ob hk=>?_,λb hb=>le.DM b (A.zt b hb),A.zm,λt ht=>?_⟩⟩
 rotate_left
 ·obtain⟨ps,h1,h2⟩:=A.tab t ht;exact⟨ps,by rw[ax (λz=>t5 ps (by rw[<-z];exact h1))];exact h1,fV.same le.ext h2⟩
 by_cases N2:n=k;·subst N2;have fT:=(qqz hn).1;rw[YL fT] at hk;cases hk;exact⟨a,ha,pV _ aD (λb u hb hu=>by rw[ax hb];exact hu) λp v z=>z.le le⟩
 ·rw[Yp N2] at hk;obtain⟨b,q,rr⟩:=A.at_ k ob hk;have N1:b≠a:=by rintro rfl;have h1:=(qqz ha);have h2:=(qqz q);obtain⟨l1,e1⟩:=h1;obtain⟨l2,e2⟩:=h2;exact N2 (kY A.nd l1 l2 (e1.trans e2.symm))
  exact⟨b,q,rr.mono (λb' u jk hu=>by
   rw[ax (λz=>by
    rcases jk with w1|w1;·exact N1 (w1▸z)
    ·exact t6 b (by rw[<-z];exact w1))]
   exact hu) λp v z=>z.le le⟩
end
mutual
def RH(h:Heap):D->Value->Prop
 |.bC,u=>u=.none|.bl b,u=>u=.bool b|.int i,u=>∃t,u=.int i t|.str x,u=>∃t,u=.str x t|.tup xs,u=>∃a its,u=.ref a/\h.IsTuple a ?Qh/\vV h xs its|.pl xs,u=>∃a its,u=.ref a/\h.IsList a ?Qh/\vV h xs its
def vV(h:Heap):List D->List Value->Prop
 |[],us=>us=[]|x::xs,us=>∃u r,us=u::r/\RH h x u/\vV h xs r
end
section
variable{h:Heap}
theorem vV.length:∀{xs} {us},vV h xs us->us.length=?Q
 |[],us,r=>by cases (show us=[] from r);rfl|x::xs,us,r=>by obtain⟨u,q,rfl,_,rs⟩:=(show ∃u r,us=u::r/\RH h x u/\vV h xs r from r);rw[YA,YA,vV.length rs]
theorem rJ(p:h.IsTuple a x)(q:h.IsTuple a y):x=y:=by obtain⟨o,e,_,n,d⟩:=p;obtain⟨o',e',_,n',d'⟩:=q;rw[e] at e';cases e';rw[d] at d';cases d';rfl
theorem uH(p:h.IsList a x)(q:h.IsList a y):x=y:=by obtain⟨o,e,_,n,d⟩:=p;obtain⟨o',e',_,n',d'⟩:=q;rw[e] at e';cases e';rw[d] at d';cases d';rfl
theorem AD(p:h.IsTuple a x)(q:h.IsList a y):False:=by obtain⟨o,e,c,_⟩:=p;obtain⟨o',e',c',_⟩:=q;rw[e] at e';cases e';rw[c] at c';exact absurd c' ?K
mutual
theorem RH.self:∀{x y:D} {u:Value},RH h x u->RH h y u->sV x y=Λ
 |.bC,y,u,p,q=>by cases (show u=.none from p);cases y with|bC=>rfl|bl b=>exact nomatch (show aar=.bool b from q)|int i=>obtain⟨t,e⟩:=q;exact nomatch e|str i=>obtain⟨t,e⟩:=q;exact nomatch e|tup i=>obtain⟨t,_,e,_⟩:=q;exact nomatch e|pl i=>obtain⟨t,_,e,_⟩:=q;exact nomatch e
 |.bl b,y,u,p,q=>by cases (show u=.bool b from p);cases y with|bC=>exact nomatch (show abK b=.none from q)|bl c=>cases (show abK b=.bool c from q);simp[sV]|int i=>obtain⟨t,e⟩:=q;exact nomatch e|str i=>obtain⟨t,e⟩:=q;exact nomatch e|tup i=>obtain⟨t,_,e,_⟩:=q;exact nomatch e|pl i=>obtain⟨t,_,e,_⟩:=q;exact nomatch e
 |.int b,y,u,p,q=>by obtain⟨t0,rfl⟩:=p;cases y with|bC=>exact nomatch (show acf b t0=.none from q)|bl c=>exact nomatch (show acf b t0=.bool c from q)|int i=>obtain⟨t,e⟩:=q;cases e;simp[sV]|str i=>obtain⟨t,e⟩:=q;exact nomatch e|tup i=>obtain⟨t,_,e,_⟩:=q;exact nomatch e|pl i=>obtain⟨t,_,e,_⟩:=q;exact nomatch e
 |.str b,y,u,p,q=>by obtain⟨t0,rfl⟩:=p;cases y with|bC=>exact nomatch (show ace b t0=.none from q)|bl c=>exact nomatch (show ace b t0=.bool c from q)|int i=>obtain⟨t,e⟩:=q;exact nomatch e|str i=>obtain⟨t,e⟩:=q;cases e;simp[sV]|tup i=>obtain⟨t,_,e,_⟩:=q;exact nomatch e|pl i=>obtain⟨t,_,e,_⟩:=q;exact nomatch e
 |.tup xs,y,u,p,q=>by
  obtain⟨a,its,rfl,ht,rs⟩:=p;cases y with
  |bC=>exact nomatch (show YW a=.none from q)|bl c=>exact nomatch (show YW a=.bool c from q)|int i=>obtain⟨t,e⟩:=q;exact nomatch e|str i=>obtain⟨t,e⟩:=q;exact nomatch e|tup ys=>
   obtain⟨b,its',e,xE,yN⟩:=q;cases e;have e2:its=its':=by simpa using rJ ht xE
   subst e2;show iq xs ys=Λ;exact vV.self rs yN
  |pl ys=>obtain⟨b,its',e,xE,yN⟩:=q;cases e;exact(AD ht xE).elim
 |.pl xs,y,u,p,q=>by
  obtain⟨a,its,rfl,ht,rs⟩:=p;cases y with
  |bC=>exact nomatch (show YW a=.none from q)|bl c=>exact nomatch (show YW a=.bool c from q)|int i=>obtain⟨t,e⟩:=q;exact nomatch e|str i=>obtain⟨t,e⟩:=q;exact nomatch e|tup ys=>obtain⟨b,its',e,xE,yN⟩:=q;cases e;exact(AD xE ht).elim
  |pl ys=>
   obtain⟨b,its',e,xE,yN⟩:=q;cases e;have e2:its=its':=by simpa using uH ht xE
   subst e2;show iq xs ys=Λ;exact vV.self rs yN
theorem vV.self:∀{xs ys:List D} {us:List Value},vV h xs us->vV h ys us->iq xs ys=Λ
 |[],ys,us,p,q=>by cases (show us=[] from p);cases ys with|nil=>rfl|cons y ys=>obtain⟨u,r,e,_⟩:=q;exact nomatch e
 |x::xs,ys,us,p,q=>by obtain⟨u,r,rfl,p1,p2⟩:=(show ∃u r,us=u::r/\RH h x u/\vV h xs r from p);cases ys with|nil=>exact nomatch (show u::r=[] from q)|cons y ys=>obtain⟨u',r',e,q1,q2⟩:=(show ∃u' r',u::r=u'::r'/\RH h y u'/\vV h ys r' from q);cases e;show(sV x y&&iq xs ys)=Λ;rw[RH.self p1 q1,vV.self p2 q2];rfl
end
def pairD(xs ys:List D)(j:Nat):Bool:=sV (xs.getD j .bC) (ys.getD j .bC)
theorem oO:∀xs ys,((Yh (min ?Q ?Zd)).all (pairD xs ys)&&?Q==?Zd)=iq xs ys
 |[],[]=>rfl|[],_::_=>by simp[iq]|_::_,[]=>by simp[iq]|x::xs,y::ys=>by
  have ih:=oO xs ys;have e1:min (x::xs).length (y::ys).length=min ?Q ?Zd+1:=by simp only[YA];lia
  have e2:((x::xs).length==(y::ys).length)=(?Q==?Zd):=by simp
  have e3:(Yh (min ?Q ?Zd+1)).all (pairD (x::xs) (y::ys))=(sV x y&&(Yh (min ?Q ?Zd)).all (pairD xs ys)):=by rw[List.range_succ_eq_map,aaG,ada];first|rfl|simp[pairD,Y8]
  rw[e1,e2,e3,iq,<-ih,Bool.and_assoc]
theorem AE(h:?Q=?Zd):(Yh ?Q).all (pairD xs ys)=iq xs ys:=by have:=oO xs ys;rw[<-h,Nat.min_self] at this;simpa using this
theorem uI(h:?Q≠?Zd):iq xs ys=Ξ:=by rw[<-oO xs ys];simp[h]
open SeqAt
mutual
theorem RX:∀(x y:D) (A:ZS) (s:YG) (u v:Value),RH s.heap x u->RH s.heap y v->A.units+min (mH x) (mH y) < cLine->RcAt A s u v (sV x y)/\RcNeAt A s u v (!sV x y)
 |.bC,y,A,s,u,v,p,q,hu=>by cases (show u=.none from p);cases y with|bC=>cases ?QM;exact⟨RcAt.none_none,RcNeAt.none_none⟩|bl b=>cases ?QF;exact⟨RcAt.none_bool b,RcNeAt.none_bool b⟩|int b=>obtain⟨t,rfl⟩:=q;exact⟨RcAt.none_int b t,RcNeAt.none_int b t⟩|str b=>obtain⟨t,rfl⟩:=q;exact⟨RcAt.none_str b t,RcNeAt.none_str b t⟩|tup ys=>obtain⟨a,its,rfl,hl,_⟩:=q;exact⟨RcAt.none_tuple hl ?J,RcNeAt.none_tuple hl ?J⟩|pl ys=>obtain⟨a,its,rfl,hl,_⟩:=q;exact⟨RcAt.none_list hl ?J,RcNeAt.none_list hl ?J⟩
 |.bl x,y,A,s,u,v,p,q,hu=>by cases (show u=.bool x from p);cases y with|bC=>cases ?QM;exact⟨RcAt.bool_none x,RcNeAt.bool_none x⟩|bl b=>cases ?QF;exact⟨RcAt.bool_bool x b,RcNeAt.bool_bool x b⟩|int b=>obtain⟨t,rfl⟩:=q;exact⟨RcAt.bool_int x b t,RcNeAt.bool_int x b t⟩|str b=>obtain⟨t,rfl⟩:=q;exact⟨RcAt.bool_str x b t,RcNeAt.bool_str x b t⟩|tup ys=>obtain⟨a,its,rfl,hl,_⟩:=q;exact⟨RcAt.bool_tuple x hl ?J,RcNeAt.bool_tuple x hl ?J⟩|pl ys=>obtain⟨a,its,rfl,hl,_⟩:=q;exact⟨RcAt.bool_list x hl ?J,RcNeAt.bool_list x hl ?J⟩
 |.int x,y,A,s,u,v,p,q,hu=>by obtain⟨t0,rfl⟩:=p;cases y with|bC=>cases ?QM;exact⟨RcAt.int_none x t0,RcNeAt.int_none x t0⟩|bl b=>cases ?QF;exact⟨RcAt.int_bool x t0 b,RcNeAt.int_bool x t0 b⟩|int b=>obtain⟨t,rfl⟩:=q;exact⟨RcAt.int_int x t0 b t,RcNeAt.int_int x t0 b t⟩|str b=>obtain⟨t,rfl⟩:=q;exact⟨RcAt.int_str x t0 b t,RcNeAt.int_str x t0 b t⟩|tup ys=>obtain⟨a,its,rfl,hl,_⟩:=q;exact⟨RcAt.int_tuple x t0 hl ?J,RcNeAt.int_tuple x t0 hl ?J⟩|pl ys=>obtain⟨a,its,rfl,hl,_⟩:=q;exact⟨RcAt.int_list x t0 hl ?J,RcNeAt.int_list x t0 hl ?J⟩
 |.str x,y,A,s,u,v,p,q,hu=>by obtain⟨t0,rfl⟩:=p;cases y with|bC=>cases ?QM;exact⟨RcAt.str_none x t0,RcNeAt.str_none x t0⟩|bl b=>cases ?QF;exact⟨RcAt.str_bool x t0 b,RcNeAt.str_bool x t0 b⟩|int b=>obtain⟨t,rfl⟩:=q;exact⟨RcAt.str_int x t0 b t,RcNeAt.str_int x t0 b t⟩|str b=>obtain⟨t,rfl⟩:=q;exact⟨RcAt.str_str x t0 b t,RcNeAt.str_str x t0 b t⟩|tup ys=>obtain⟨a,its,rfl,hl,_⟩:=q;exact⟨RcAt.str_tuple x t0 hl ?J,RcNeAt.str_tuple x t0 hl ?J⟩|pl ys=>obtain⟨a,its,rfl,hl,_⟩:=q;exact⟨RcAt.str_list x t0 hl ?J,RcNeAt.str_list x t0 hl ?J⟩
 |.tup xs,y,A,s,u,v,p,q,hu=>by
  obtain⟨a,its,rfl,hl,rs⟩:=p;cases y with
  |bC=>cases ?QM;exact⟨RcAt.tuple_none hl ?J,RcNeAt.tuple_none hl ?J⟩|bl b=>cases ?QF;exact⟨RcAt.tuple_bool b hl ?J,RcNeAt.tuple_bool b hl ?J⟩|int b=>obtain⟨t,rfl⟩:=q;exact⟨RcAt.tuple_int b t hl ?J,RcNeAt.tuple_int b t hl ?J⟩|str b=>obtain⟨t,rfl⟩:=q;exact⟨RcAt.tuple_str b t hl ?J,RcNeAt.tuple_str b t hl ?J⟩|pl ys=>obtain⟨b,its',rfl,oG,_⟩:=q;exact⟨RcAt.tuple_list hl oG ?J,RcNeAt.tuple_list hl oG ?J⟩|tup ys=>
   obtain⟨b,its',rfl,oG,yN⟩:=q;have n1:?Za=xs.length:=by rw[YC];exact rs.length
   have n2:its'.toArray.size=ys.length:=by rw[YC];exact yN.length
   have he:∀j (j1:j < ?Za) (j2:j < its'.toArray.size),EqAt A.in1 s ?Qh[j] its'.toArray[j] (pairD xs ys j):=λj j1 j2=>by have:=AF xs ys A.in1 s its its' rs yN (room_in hu) j (by simpa using j1) (by simpa using j2);simpa using this
   show RcAt A s ?QT (.ref b) (iq xs ys)/\RcNeAt A s ?QT (.ref b) (!iq xs ys);rw[<-oO xs ys,<-n1,<-n2];exact⟨RcAt.tuples hl oG ?J he,RcNeAt.tuples hl oG ?J he⟩
 |.pl xs,y,A,s,u,v,p,q,hu=>by
  obtain⟨a,its,rfl,hl,rs⟩:=p;cases y with
  |bC=>cases ?QM;exact⟨RcAt.list_none hl ?J,RcNeAt.list_none hl ?J⟩|bl b=>cases ?QF;exact⟨RcAt.list_bool b hl ?J,RcNeAt.list_bool b hl ?J⟩|int b=>obtain⟨t,rfl⟩:=q;exact⟨RcAt.list_int b t hl ?J,RcNeAt.list_int b t hl ?J⟩|str b=>obtain⟨t,rfl⟩:=q;exact⟨RcAt.list_str b t hl ?J,RcNeAt.list_str b t hl ?J⟩|tup ys=>obtain⟨b,its',rfl,oG,_⟩:=q;exact⟨RcAt.list_tuple hl oG ?J,RcNeAt.list_tuple hl oG ?J⟩|pl ys=>
   obtain⟨b,its',rfl,oG,yN⟩:=q;have n1:?Za=xs.length:=by rw[YC];exact rs.length
   have n2:its'.toArray.size=ys.length:=by rw[YC];exact yN.length
   have he:∀j (j1:j < ?Za) (j2:j < its'.toArray.size),EqAt A.in1 s ?Qh[j] its'.toArray[j] (pairD xs ys j):=λj j1 j2=>by have:=AF xs ys A.in1 s its its' rs yN (room_in hu) j (by simpa using j1) (by simpa using j2);simpa using this
   show RcAt A s ?QT (.ref b) (iq xs ys)/\RcNeAt A s ?QT (.ref b) (!iq xs ys);by_cases hsz:?Za=its'.toArray.size;·rw[<-AE (by lia:?Q=?Zd),<-n1];exact⟨RcAt.lists hl oG hsz ?J he,RcNeAt.lists hl oG hsz ?J he⟩
   ·rw[uI (by lia:?Q≠?Zd)];exact⟨RcAt.lists_lengths hl oG (by simpa using hsz) ?J,RcNeAt.lists_lengths hl oG (by simpa using hsz) ?J⟩
theorem WK:∀(x y:D) (A:ZS) (s:YG) (u v:Value),RH s.heap x u->RH s.heap y v->A.units+min (mH x) (mH y) < cLine->EqAt A s u v (sV x y)
 |.bC,y,A,s,u,v,p,q,hu=>by cases (show u=.none from p);cases y with|bC=>cases ?QM;exact EqAt.same _|bl b=>cases ?QF;exact EqAt.none_bool b|int b=>obtain⟨t,rfl⟩:=q;exact EqAt.none_int b t|str b=>obtain⟨t,rfl⟩:=q;exact EqAt.none_str b t|tup ys=>obtain⟨a,its,rfl,hl,_⟩:=q;exact EqAt.none_tuple hl ?J|pl ys=>obtain⟨a,its,rfl,hl,_⟩:=q;exact EqAt.none_list hl ?J
 |.bl x,y,A,s,u,v,p,q,hu=>by cases (show u=.bool x from p);cases y with|bC=>cases ?QM;exact EqAt.bool_none x|bl b=>cases ?QF;exact EqAt.bool_bool x b|int b=>obtain⟨t,rfl⟩:=q;exact EqAt.bool_int x b t|str b=>obtain⟨t,rfl⟩:=q;exact EqAt.bool_str x b t|tup ys=>obtain⟨a,its,rfl,hl,_⟩:=q;exact EqAt.bool_tuple x hl ?J|pl ys=>obtain⟨a,its,rfl,hl,_⟩:=q;exact EqAt.bool_list x hl ?J
 |.int x,y,A,s,u,v,p,q,hu=>by obtain⟨t0,rfl⟩:=p;cases y with|bC=>cases ?QM;exact EqAt.int_none x t0|bl b=>cases ?QF;exact EqAt.int_bool x t0 b|int b=>obtain⟨t,rfl⟩:=q;exact EqAt.int_int x t0 b t|str b=>obtain⟨t,rfl⟩:=q;exact EqAt.int_str x t0 b t|tup ys=>obtain⟨a,its,rfl,hl,_⟩:=q;exact EqAt.int_tuple x t0 hl ?J|pl ys=>obtain⟨a,its,rfl,hl,_⟩:=q;exact EqAt.int_list x t0 hl ?J
 |.str x,y,A,s,u,v,p,q,hu=>by obtain⟨t0,rfl⟩:=p;cases y with|bC=>cases ?QM;exact EqAt.str_none x t0|bl b=>cases ?QF;exact EqAt.str_bool x t0 b|int b=>obtain⟨t,rfl⟩:=q;exact EqAt.str_int x t0 b t|str b=>obtain⟨t,rfl⟩:=q;exact EqAt.str_str x t0 b t|tup ys=>obtain⟨a,its,rfl,hl,_⟩:=q;exact EqAt.str_tuple x t0 hl ?J|pl ys=>obtain⟨a,its,rfl,hl,_⟩:=q;exact EqAt.str_list x t0 hl ?J
 |.tup xs,y,A,s,u,v,p,q,hu=>by
  obtain⟨a,its,rfl,hl,rs⟩:=p;cases y with
  |bC=>cases ?QM;exact EqAt.tuple_none hl ?J|bl b=>cases ?QF;exact EqAt.tuple_bool b hl ?J|int b=>obtain⟨t,rfl⟩:=q;exact EqAt.tuple_int b t hl ?J|str b=>obtain⟨t,rfl⟩:=q;exact EqAt.tuple_str b t hl ?J|pl ys=>obtain⟨b,its',rfl,oG,_⟩:=q;exact EqAt.tuple_list hl oG ?J|tup ys=>
   obtain⟨b,its',rfl,oG,yN⟩:=q;have n1:?Za=xs.length:=by rw[YC];exact rs.length
   have n2:its'.toArray.size=ys.length:=by rw[YC];exact yN.length
   have he:∀j (j1:j < ?Za) (j2:j < its'.toArray.size),EqAt A.in1 s ?Qh[j] its'.toArray[j] (pairD xs ys j):=λj j1 j2=>by have:=AF xs ys A.in1 s its its' rs yN (room_in hu) j (by simpa using j1) (by simpa using j2);simpa using this
   show EqAt A s ?QT (.ref b) (iq xs ys);by_cases N3:a=b
   ·subst N3;have e2:its=its':=by simpa using rJ hl oG
    subst e2;rw[vV.self rs yN];exact EqAt.same _
   ·rw[<-oO xs ys,<-n1,<-n2];exact EqAt.of_refs N3 (RcAt.tuples hl oG ?J he)
 |.pl xs,y,A,s,u,v,p,q,hu=>by
  obtain⟨a,its,rfl,hl,rs⟩:=p;cases y with
  |bC=>cases ?QM;exact EqAt.list_none hl ?J|bl b=>cases ?QF;exact EqAt.list_bool b hl ?J|int b=>obtain⟨t,rfl⟩:=q;exact EqAt.list_int b t hl ?J|str b=>obtain⟨t,rfl⟩:=q;exact EqAt.list_str b t hl ?J|tup ys=>obtain⟨b,its',rfl,oG,_⟩:=q;exact EqAt.list_tuple hl oG ?J|pl ys=>
   obtain⟨b,its',rfl,oG,yN⟩:=q;have n1:?Za=xs.length:=by rw[YC];exact rs.length
   have n2:its'.toArray.size=ys.length:=by rw[YC];exact yN.length
   have he:∀j (j1:j < ?Za) (j2:j < its'.toArray.size),EqAt A.in1 s ?Qh[j] its'.toArray[j] (pairD xs ys j):=λj j1 j2=>by have:=AF xs ys A.in1 s its its' rs yN (room_in hu) j (by simpa using j1) (by simpa using j2);simpa using this
   show EqAt A s ?QT (.ref b) (iq xs ys);by_cases N3:a=b
   ·subst N3;have e2:its=its':=by simpa using uH hl oG
    subst e2;rw[vV.self rs yN];exact EqAt.same _
   ·by_cases hsz:?Za=its'.toArray.size;·rw[<-AE (by lia:?Q=?Zd),<-n1];exact EqAt.of_refs N3 (RcAt.lists hl oG hsz ?J he)
    ·rw[uI (by lia:?Q≠?Zd)];exact EqAt.of_refs N3 (RcAt.lists_lengths hl oG (by simpa using hsz) ?J)
theorem AF:∀(xs ys:List D) (A:ZS) (s:YG) (us vs:List Value),vV s.heap xs us->vV s.heap ys vs->A.units+min (kL xs) (kL ys) < cLine->
  ∀j (h1:j < us.length) (h2:j < vs.length),EqAt A s us[j] vs[j] (pairD xs ys j)
 |[],_,_,_,us,_,ra,_,_,j,h1,_=>by cases (show us=[] from ra);exact absurd h1 (aaP _)|_::_,[],_,_,_,vs,_,rb,_,j,_,h2=>by cases (show vs=[] from rb);exact absurd h2 (aaP _)|x::xs,y::ys,A,s,us,vs,ra,rb,hu,j,h1,h2=>by obtain⟨u,r,rfl,p1,p2⟩:=(show ∃u r,us=u::r/\RH s.heap x u/\vV s.heap xs r from ra);obtain⟨v,r',rfl,q1,q2⟩:=(show ∃u r,vs=u::r/\RH s.heap y u/\vV s.heap ys r from rb);cases j with|zero=>exact WK x y A s u v p1 q1 (room_head hu)|succ j=>exact AF xs ys A s r r' p2 q2 (room_tail hu) j (Nat.lt_of_succ_lt_succ h1) (Nat.lt_of_succ_lt_succ h2)
end
end
section
variable{X:Cx}{η:List ?Qb}{σ:St}{H:Hp}{s:YG}{m Z:List Addr}
mutual
theorem aH.rh(I:Inv X η σ H s):∀{x:D} {v:V} {u:Value},aH ?B H m Z x v->RelV v u->RH s.heap x u
 |.bC,v,u,p,r=>by cases (show v=.bC from p);exact r|.bl b,v,u,p,r=>by cases (show v=.bl b from p);exact r|.int b,v,u,p,r=>by cases (show v=.int b from p);exact r|.str b,v,u,p,r=>by cases (show v=.str b from p);exact r|.tup xs,v,u,p,r=>by obtain⟨a,us,rfl,q,rs⟩:=(show ∃a us,v=.ref a/\H a=Δ (.tup us)/\av ?B H m Z xs us from p);cases (show u=.ref a from r);obtain⟨its,rv,ht,_⟩:=I.tuple (fS.of q);exact⟨a,its,rfl,ht,av.rh I rs rv⟩
 |.pl xs,v,u,p,r=>by obtain⟨a,us,rfl,q,_,_,rs⟩:=(show ∃a us,v=.ref a/\Rd H a ?QY/\a∉m/\a∉Z/\av ?B H m Z xs us from p);cases (show u=.ref a from r);obtain⟨its,rv,ht,_⟩:=I.list (.inl q);exact⟨a,its,rfl,ht.isList,av.rh I rs rv⟩
theorem av.rh(I:Inv X η σ H s):∀{xs:List D} {vs:List V} {us:List Value},av ?B H m Z xs vs->aU vs us->vV s.heap xs us
 |[],vs,us,p,r=>by cases (show vs=[] from p);cases r;rfl|x::xs,vs,us,p,r=>by obtain⟨v,w',rfl,p1,p2⟩:=(show ∃v w',vs=v::w'/\aH ?B H m Z x v/\av ?B H m Z xs w' from p);cases r with|cons r1 r2=>exact⟨_,_,rfl,aH.rh I p1 r1,av.rh I p2 r2⟩
end
theorem N4(hu:X.A.units+100 < cLine):kK X (ZM .Eq) (λv u H Q=>∃m Z x y k,aH ?B H m Z x v/\aH ?B H m Z y u/\se x y=Δ k/\Q (.bl k) H):=by
 intro η s σ H v u a b Q I rx ry h;obtain⟨m,Z,x,y,k,p,q,e,hq⟩:=h;unfold se at e;split at e;·rename_i hd;cases e;exact(RX x y X.A s a b (p.rh I rx) (q.rh I ry) ?D).1 X.prog X.w X.xe _ ⟨.bl (sV x y),H,I,rfl,hq⟩
 ·cases e
theorem N5(hu:X.A.units+100 < cLine):kK X (ZM .NotEq) (λv u H Q=>∃m Z x y k,aH ?B H m Z x v/\aH ?B H m Z y u/\se x y=Δ k/\Q (.bl (!k)) H):=by
 intro η s σ H v u a b Q I rx ry h;obtain⟨m,Z,x,y,k,p,q,e,hq⟩:=h;unfold se at e;split at e;·rename_i hd;cases e;exact(RX x y X.A s a b (p.rh I rx) (q.rh I ry) ?D).2 X.prog X.w X.xe _ ⟨.bl (!sV x y),H,I,rfl,hq⟩
 ·cases e
end
end Y
namespace Y
open PySem L2 PySem.Spec PyProof.Rows
structure G where
 N:List Str
 names:List (Str×aaX)
 fns:List (Str×Nat)
 iO:List (Str×Int)
 tabs:List (Str×List (Str×Int))
 RY:Nat->aaS->Expr->Scope->Pos->Bool:=λ_ _ _ _ _=>Ξ
 RZ:Nat->Nat->Str->aaS->List Stmt->Scope->Pos->Bool:=λ_ _ _ _ _ _ _=>Ξ
 Ms:Nat->Str->Nat->List (Nat×List Nat)->Bool:=λ_ _ _ _=>Ξ
 R0:Nat->Str->List (Nat×List Nat)->Bool:=λ_ _ _=>Ξ
 zN:Str->Str->Bool:=λ_ _=>Ξ
 BW:Nat->Str->Str->Nat->Bool:=λ_ _ _ _=>Ξ
 BX:Nat->Str->Nat->Bool:=λ_ _ _=>Ξ
 cv:Bool:=Λ
def notStar(e:Expr):Bool:=e.ctorIdx !=22
def G.yO(g:G)(x:Str):Bool:=match g.names.lookup x with|some .local=>Λ|some .cell=>Λ|some .free=>Λ|_=>Ξ
noncomputable def G.gl(g:G)(x:Str):Bool:=decide (g.names.lookup x=Δ .globalImplicit)
noncomputable def aV(x:Str):Bool:=!(x==("__debug__":Str))&&!(x==("__classdict__":Str))&&!(x==("__name__":Str))
noncomputable def DN:RT->Operator
 |.add=>.Add|.sub=>.Sub|.mul=>.Mult|.mod=>.Mod
noncomputable def kM:Mr->CmpOp
 |.lt=>.Lt|.le=>.LtE|.gt=>.Gt|.ge=>.GtE|.eq=>.Eq|.ne=>.NotEq|.isin=>.In|.jo=>.NotIn
def yP:Bf->Str
 |.len=>"len"|.any=>"any"|.tuple=>"tuple"
def me:List String:=["int","bool","tuple","str","list"]
def yQ(e:Expr):Bool:=e.ctorIdx==26
noncomputable def nE(e:Expr):Bool:=e.ctorIdx==8||e.ctorIdx==9||e.ctorIdx==10
def cB(e:Expr):Bool:=e.ctorIdx==7
def HA(g:G)(ts:Nat)(N:List Str)(js:List Nat)(sc:Scope):Bool:=
 decide (sc.kind=.function)&&decide (N.length=ts+js.length)&&
 sc.names.all (λx=>decide (x.2≠.cell)&&(decide (x.2≠.local)||decide (sc.names.lookup x.1=Δ .local))&&(decide (x.2≠.free)||(decide (g.names.lookup x.1=Δ .cell)||decide (g.names.lookup x.1=Δ .free))))&&
 (Yh js.length).all (λi=>match N[ts+i]?,js[i]? with
  |some y,Δ j=>decide (g.N[j]?=Δ y)&&decide (sc.names.lookup y=Δ .free)
  |_,_=>Λ)
noncomputable def hU(g:G)(x:Str)(js:List Nat):List Str:=x::js.map λj=>(g.N[j]?).getD "?"
noncomputable def lC(g:G)(x y:Str)(js:List Nat):List Str:=x::y::js.map λj=>(g.N[j]?).getD "?"
def G.inner(g:G)(N:List Str)(sc:Scope):G:={N:=N,names:=sc.names,fns:=g.fns,iO:=g.iO,tabs:=g.tabs,cv:=g.cv,zN:=g.zN,BW:=g.BW,BX:=g.BX}
theorem jC{c:Prop}[Decidable c]{a:c->Bool}{g:Prop}(hi:¬c)(h:(if q:c then a q else Ξ)=Λ):g:=by rw[dif_neg hi] at h;exact ft h
noncomputable def aX{α:Type}(l:List α)(k:α->List α->Bool):Bool:=match l with|x::r=>k x r|[]=>Ξ
@[elab_as_elim] theorem aE{α:Type}{P:List α->Prop}{l:List α}{k:α->List α->Bool}(h:aX l k=Λ)(c:∀x r,k x r=Λ->P (x::r)):P l:=by cases l<;>first|exact c _ _ h|exact ft h
noncomputable def yR{α:Type}(l:Option α)(k:α->Bool):Bool:=match l with|some x=>k x|none=>Ξ
@[elab_as_elim] theorem uJ{α:Type}{P:Option α->Prop}{l:Option α}{k:α->Bool}(h:yR l k=Λ)(c:∀x,k x=Λ->P (Δ x)):P l:=by cases l<;>first|exact c _ h|exact ft h
noncomputable def DO(l:acR)(k:Expr->Expr->List Expr->Int->Bool):Bool:=k l.target l.iter l.ifs l.is_async
@[elab_as_elim] theorem mf{P:acR->Prop}{l:acR}{k:Expr->Expr->List Expr->Int->Bool}(h:DO l k=Λ)(c:∀a b d e,k a b d e=Λ->P ⟨a,b,d,e⟩):P l:=by cases l;exact c _ _ _ _ h
noncomputable def jK(e:Stmt)(k:(List Expr)->Expr->Pos->Bool):Bool:=if h:e.ctorIdx=5 then @Stmt.Assign.elim (λ_=>Bool) e h k else Ξ
noncomputable def cf(e:Expr)(k:Expr->Str->Pos->Bool):Bool:=if h:e.ctorIdx=20 then @Expr.Attribute.elim (λ_=>Bool) e h k else Ξ
noncomputable def yS(e:Expr)(k:Expr->Operator->Expr->Pos->Bool):Bool:=if h:e.ctorIdx=2 then @Expr.BinOp.elim (λ_=>Bool) e h k else Ξ
noncomputable def oP(e:Expr)(k:BoolOp->(List Expr)->Pos->Bool):Bool:=if h:e.ctorIdx=0 then @Expr.BoolOp.elim (λ_=>Bool) e h k else Ξ
noncomputable def bZ(e:Expr)(k:Expr->(List Expr)->(List acK)->Pos->Bool):Bool:=if h:e.ctorIdx=16 then @Expr.Call.elim (λ_=>Bool) e h k else Ξ
noncomputable def mh(e:Expr)(k:Expr->(List CmpOp)->(List Expr)->Pos->Bool):Bool:=if h:e.ctorIdx=15 then @Expr.Compare.elim (λ_=>Bool) e h k else Ξ
noncomputable def nF(e:Expr)(k:Const->Nat->Pos->Bool):Bool:=if h:e.ctorIdx=19 then @Expr.Constant.elim (λ_=>Bool) e h k else Ξ
noncomputable def yT(e:Expr)(k:(List (Option Expr))->(List Expr)->Pos->Bool):Bool:=if h:e.ctorIdx=6 then @Expr.Dict.elim (λ_=>Bool) e h k else Ξ
noncomputable def sW(e:Stmt)(k:Expr->Pos->Bool):Bool:=if h:e.ctorIdx=24 then @Stmt.Expr.elim (λ_=>Bool) e h k else Ξ
noncomputable def qp(e:Stmt)(k:Expr->Expr->(List Stmt)->(List Stmt)->Pos->Bool):Bool:=if h:e.ctorIdx=9 then @Stmt.For.elim (λ_=>Bool) e h k else Ξ
noncomputable def iP(e:Stmt)(k:Str->aaS->(List Stmt)->(List Expr)->(Option Expr)->(List TypeParam)->Scope->(Option Scope)->Str->Pos->Bool):Bool:=if h:e.ctorIdx=0 then @Stmt.FunctionDef.elim (λ_=>Bool) e h k else Ξ
noncomputable def HB(e:Stmt)(k:Expr->(List Stmt)->(List Stmt)->Pos->Bool):Bool:=if h:e.ctorIdx=12 then @Stmt.If.elim (λ_=>Bool) e h k else Ξ
noncomputable def uK(e:Expr)(k:aaS->Expr->Scope->Pos->Bool):Bool:=if h:e.ctorIdx=4 then @Expr.Lambda.elim (λ_=>Bool) e h k else Ξ
noncomputable def CO(e:Expr)(k:(List Expr)->Pos->Bool):Bool:=if h:e.ctorIdx=24 then @Expr.List.elim (λ_=>Bool) e h k else Ξ
noncomputable def iQ(e:Expr)(k:Expr->(List acR)->Scope->Pos->Bool):Bool:=if h:e.ctorIdx=8 then @Expr.ListComp.elim (λ_=>Bool) e h k else Ξ
noncomputable def bj(e:Expr)(k:Str->Pos->Bool):Bool:=if h:e.ctorIdx=23 then @Expr.Name.elim (λ_=>Bool) e h k else Ξ
noncomputable def mi(e:Stmt)(k:(Option Expr)->Pos->Bool):Bool:=if h:e.ctorIdx=3 then @Stmt.Return.elim (λ_=>Bool) e h k else Ξ
noncomputable def jr(e:Expr)(k:Expr->Expr->Pos->Bool):Bool:=if h:e.ctorIdx=21 then @Expr.Subscript.elim (λ_=>Bool) e h k else Ξ
noncomputable def oQ(e:Expr)(k:(List Expr)->Nat->Pos->Bool):Bool:=if h:e.ctorIdx=25 then @Expr.Tuple.elim (λ_=>Bool) e h k else Ξ
noncomputable def qr(e:Expr)(k:UnaryOp->Expr->Pos->Bool):Bool:=if h:e.ctorIdx=3 then @Expr.UnaryOp.elim (λ_=>Bool) e h k else Ξ
noncomputable def uL(e:Stmt)(k:Expr->(List Stmt)->(List Stmt)->Pos->Bool):Bool:=if h:e.ctorIdx=11 then @Stmt.While.elim (λ_=>Bool) e h k else Ξ
section
variable{P:Expr->Prop}{e:Expr}
@[elab_as_elim] theorem cg{k}(h:cf e k=Λ)(c:∀x1 x2 x3,k x1 x2 x3=Λ->P (.Attribute x1 x2 x3)):P e:=if i:e.ctorIdx=20 then @Expr.Attribute.elim (λe=>cf e k=Λ->P e) e i c h else jC i h
@[elab_as_elim] theorem Fo{k}(h:yS e k=Λ)(c:∀x1 x2 x3 x4,k x1 x2 x3 x4=Λ->P (.BinOp x1 x2 x3 x4)):P e:=if i:e.ctorIdx=2 then @Expr.BinOp.elim (λe=>yS e k=Λ->P e) e i c h else jC i h
@[elab_as_elim] theorem uM{k}(h:oP e k=Λ)(c:∀x1 x2 x3,k x1 x2 x3=Λ->P (.BoolOp x1 x2 x3)):P e:=if i:e.ctorIdx=0 then @Expr.BoolOp.elim (λe=>oP e k=Λ->P e) e i c h else jC i h
@[elab_as_elim] theorem aW{k}(h:bZ e k=Λ)(c:∀x1 x2 x3 x4,k x1 x2 x3 x4=Λ->P (.Call x1 x2 x3 x4)):P e:=if i:e.ctorIdx=16 then @Expr.Call.elim (λe=>bZ e k=Λ->P e) e i c h else jC i h
@[elab_as_elim] theorem rK{k}(h:mh e k=Λ)(c:∀x1 x2 x3 x4,k x1 x2 x3 x4=Λ->P (.Compare x1 x2 x3 x4)):P e:=if i:e.ctorIdx=15 then @Expr.Compare.elim (λe=>mh e k=Λ->P e) e i c h else jC i h
@[elab_as_elim] theorem oR{k}(h:nF e k=Λ)(c:∀x1 x2 x3,k x1 x2 x3=Λ->P (.Constant x1 x2 x3)):P e:=if i:e.ctorIdx=19 then @Expr.Constant.elim (λe=>nF e k=Λ->P e) e i c h else jC i h
@[elab_as_elim] theorem AG{k}(h:yT e k=Λ)(c:∀x1 x2 x3,k x1 x2 x3=Λ->P (.Dict x1 x2 x3)):P e:=if i:e.ctorIdx=6 then @Expr.Dict.elim (λe=>yT e k=Λ->P e) e i c h else jC i h
@[elab_as_elim] theorem CP{k}(h:uK e k=Λ)(c:∀x1 x2 x3 x4,k x1 x2 x3 x4=Λ->P (.Lambda x1 x2 x3 x4)):P e:=if i:e.ctorIdx=4 then @Expr.Lambda.elim (λe=>uK e k=Λ->P e) e i c h else jC i h
@[elab_as_elim] theorem AH{k}(h:CO e k=Λ)(c:∀x1 x2,k x1 x2=Λ->P (.List x1 x2)):P e:=if i:e.ctorIdx=24 then @Expr.List.elim (λe=>CO e k=Λ->P e) e i c h else jC i h
@[elab_as_elim] theorem dJ{k}(h:iQ e k=Λ)(c:∀x1 x2 x3 x4,k x1 x2 x3 x4=Λ->P (.ListComp x1 x2 x3 x4)):P e:=if i:e.ctorIdx=8 then @Expr.ListComp.elim (λe=>iQ e k=Λ->P e) e i c h else jC i h
@[elab_as_elim] theorem aG{k}(h:bj e k=Λ)(c:∀x1 x2,k x1 x2=Λ->P (.Name x1 x2)):P e:=if i:e.ctorIdx=23 then @Expr.Name.elim (λe=>bj e k=Λ->P e) e i c h else jC i h
@[elab_as_elim] theorem mR{k}(h:jr e k=Λ)(c:∀x1 x2 x3,k x1 x2 x3=Λ->P (.Subscript x1 x2 x3)):P e:=if i:e.ctorIdx=21 then @Expr.Subscript.elim (λe=>jr e k=Λ->P e) e i c h else jC i h
@[elab_as_elim] theorem jL{k}(h:oQ e k=Λ)(c:∀x1 x2 x3,k x1 x2 x3=Λ->P (.Tuple x1 x2 x3)):P e:=if i:e.ctorIdx=25 then @Expr.Tuple.elim (λe=>oQ e k=Λ->P e) e i c h else jC i h
@[elab_as_elim] theorem AI{k}(h:qr e k=Λ)(c:∀x1 x2 x3,k x1 x2 x3=Λ->P (.UnaryOp x1 x2 x3)):P e:=if i:e.ctorIdx=3 then @Expr.UnaryOp.elim (λe=>qr e k=Λ->P e) e i c h else jC i h
end
section
variable{P:Stmt->Prop}{e:Stmt}
@[elab_as_elim] theorem lD{k}(h:jK e k=Λ)(c:∀x1 x2 x3,k x1 x2 x3=Λ->P (.Assign x1 x2 x3)):P e:=if i:e.ctorIdx=5 then @Stmt.Assign.elim (λe=>jK e k=Λ->P e) e i c h else jC i h
@[elab_as_elim] theorem xF{k}(h:sW e k=Λ)(c:∀x1 x2,k x1 x2=Λ->P (.Expr x1 x2)):P e:=if i:e.ctorIdx=24 then @Stmt.Expr.elim (λe=>sW e k=Λ->P e) e i c h else jC i h
@[elab_as_elim] theorem oS{k}(h:qp e k=Λ)(c:∀x1 x2 x3 x4 x5,k x1 x2 x3 x4 x5=Λ->P (.For x1 x2 x3 x4 x5)):P e:=if i:e.ctorIdx=9 then @Stmt.For.elim (λe=>qp e k=Λ->P e) e i c h else jC i h
@[elab_as_elim] theorem qt{k}(h:iP e k=Λ)(c:∀x1 x2 x3 x4 x5 x6 x7 x8 x9 x10,k x1 x2 x3 x4 x5 x6 x7 x8 x9 x10=Λ->P (.FunctionDef x1 x2 x3 x4 x5 x6 x7 x8 x9 x10)):P e:=if i:e.ctorIdx=0 then @Stmt.FunctionDef.elim (λe=>iP e k=Λ->P e) e i c h else jC i h
@[elab_as_elim] theorem Km{k}(h:HB e k=Λ)(c:∀x1 x2 x3 x4,k x1 x2 x3 x4=Λ->P (.If x1 x2 x3 x4)):P e:=if i:e.ctorIdx=12 then @Stmt.If.elim (λe=>HB e k=Λ->P e) e i c h else jC i h
@[elab_as_elim] theorem rL{k}(h:mi e k=Λ)(c:∀x1 x2,k x1 x2=Λ->P (.Return x1 x2)):P e:=if i:e.ctorIdx=3 then @Stmt.Return.elim (λe=>mi e k=Λ->P e) e i c h else jC i h
@[elab_as_elim] theorem CQ{k}(h:uL e k=Λ)(c:∀x1 x2 x3 x4,k x1 x2 x3 x4=Λ->P (.While x1 x2 x3 x4)):P e:=if i:e.ctorIdx=11 then @Stmt.While.elim (λe=>uL e k=Λ->P e) e i c h else jC i h
end
def isCall(e:Expr):Bool:=bZ e λf xs ks _=>bj f λ_ _=>xs.isEmpty&&ks.isEmpty
def CS:W->Bool
 |.enum _=>Λ|_=>Ξ
noncomputable def WL:D->Const->Bool
 |.int i,c=>decide (c=.int i)|.bl i,c=>decide (c=.bool i)|.bC,c=>decide (c=.none)|.str i,c=>decide (c=.str i)|_,_=>Ξ
def AJ(d:D)(e:Expr):Bool:=nF e λc _ _=>WL d c
def glB(g:G):D->Str->Bool
 |.int i,x=>g.gl x&&decide (g.iO.lookup x=Δ i)&&aV x|_,_=>Ξ
def DP(g:G)(k:E)(e:Expr):Bool:=match k with|.var i=>bj e λx _=>decide (g.N[i]?=Δ x)&&g.yO x&&aV x|.cst d=>AJ d e|_=>Ξ
mutual
def ir(g:G):E->Expr->Bool
 |.var i=>λe=>bj e λx _=>decide (g.N[i]?=Δ x)&&g.yO x&&aV x|.cst d=>λe=>AJ d e||bj e λx _=>glB g d x
 |.op o a b=>λe=>yS e λx p y _=>decide (p=DN o)&&ir g a x&&ir g b y|.not a=>λe=>qr e λop x _=>decide (op=.Not)&&ir g a x|.cmp o a b=>λe=>mh e λx ops ys _=>aX ops λp r=>aX ys λy s=>r.isEmpty&&s.isEmpty&&decide (p=kM o)&&ir g a x&&ir g b y&&!cB y|.chain o o' a b c=>λe=>mh e λx ops ys _=>aX ops λp r=>aX r λq r'=>aX ys λy s=>aX s λz s'=>r'.isEmpty&&s'.isEmpty&&decide (p=kM o)&&decide (q=kM o')&&ir g a x&&ir g b y&&ir g c z&&!cB y&&!cB z|.and es=>λe=>oP e λop xs _=>decide (op=.And)&&iu g es xs|.or es=>λe=>oP e λop xs _=>decide (op=.Or)&&iu g es xs|.tup es=>λe=>oQ e λxs _ _=>iu g es xs|.lst _ l=>λe=>Ms g l e|.call f es=>λe=>bZ e λf0 xs je _=>bj f0 λx _=>je.isEmpty&&decide (g.fns[f]?=Δ (x,es.length))&&g.gl x&&aV x&&iu g es xs|.Hn a T=>λe=>bZ e λf0 xs je _=>bj f0 λn _=>aX xs λx r=>aX r λt0 r'=>bj t0 λt _=>je.isEmpty&&r'.isEmpty&&decide (n="isinstance")&&g.gl "isinstance"&&decide (t=Zw T)&&g.gl (Zw T)&&decide (T∈me)&&ir g a x&&notStar x|.bf f es=>λe=>bZ e λf0 xs je _=>bj f0 λn _=>je.isEmpty&&decide (n=yP f)&&g.gl (yP f)&&iu g es xs&&!xs.isEmpty|.ix a b=>λe=>jr e λx y _=>ir g a x&&ir g b y&&!yQ y|.qc _=>λe=>yT e λks vs _=>ks.isEmpty&&vs.isEmpty|.oI i es=>λe=>bZ e λf0 xs je _=>bj f0 λx _=>je.isEmpty&&decide (g.N[i]?=Δ x)&&g.yO x&&aV x&&iu g es xs&&!xs.isEmpty&&g.cv|.fc f es ls=>λe=>bZ e λf0 xs je _=>bj f0 λx _=>je.isEmpty&&g.Ms f x es.length ls&&g.gl x&&aV x&&iu g es xs&&!xs.isEmpty|.jA i es ls=>λe=>bZ e λf0 xs je _=>bj f0 λx _=>je.isEmpty&&decide (g.N[i]?=Δ x)&&g.yO x&&aV x&&g.R0 i x ls&&iu g es xs&&!xs.isEmpty|.lam k=>λe=>uK e λparams body scope pos=>g.RY k params body scope pos|.Fb a b=>λe=>bZ e λf0 xs je cp=>cf f0 λo n ap=>aX xs λx r=>r.isEmpty&&je.isEmpty&&?QU&&decide (n="pop")&&!isCall o&&ir g a o&&ir g b x&&notStar x|.ug a b c=>λe=>bZ e λf0 xs je cp=>cf f0 λo n ap=>aX xs λx r=>aX r λy r'=>r'.isEmpty&&je.isEmpty&&?QU&&decide (n="setdefault")&&!isCall o&&ir g a o&&ir g b x&&notStar x&&ir g c y&&notStar y|.Fc k d=>λe=>yT e λks vs _=>aX ks λk0 r=>yR k0 λkx=>aX vs λv0 r'=>r.isEmpty&&r'.isEmpty&&DP g k kx&&AJ d v0|.CF a=>λe=>bZ e λf0 xs je cp=>cf f0 λo n ap=>xs.isEmpty&&je.isEmpty&&?QU&&decide (n="pop")&&!isCall o&&ir g a o|.attr c f i=>λe=>cf e λo m _=>bj o λx _=>decide (m=f)&&g.zN c f&&decide (g.N[i]?=Δ x)&&g.yO x&&aV x|.qd k c m i es=>λe=>bZ e λf0 xs je cp=>cf f0 λo mm ap=>bj o λx _=>je.isEmpty&&decide (mm=m)&&g.BW k c m es.length&&decide (g.N[i]?=Δ x)&&g.yO x&&aV x&&iu g es xs&&?QU&&decide (?Q < 30)|.make k c es=>λe=>bZ e λf0 xs je _=>bj f0 λx _=>je.isEmpty&&decide (x=c)&&g.BX k c es.length&&g.gl x&&aV x&&iu g es xs&&!xs.isEmpty
def okM(g:G):Option E->Option Expr->Bool
 |none=>λo=>o.isNone|some e=>λo=>yR o λx=>ir g e x
def iu(g:G):List E->List Expr->Bool
 |[]=>λl=>l.isEmpty|e::es=>λl=>aX l λx xs=>ir g e x&&notStar x&&iu g es xs
def UC(g:G):Option E->List Expr->Bool
 |none=>λl=>l.isEmpty|some c=>λl=>aX l λi r=>r.isEmpty&&ir g c i
def Ms(g:G):L->Expr->Bool
 |.fQ es=>λe=>CO e λxs _=>iu g es xs|.comp w ts js c e=>λe0=>iQ e0 λelt gens sc _=>aX gens λge r=>DO ge λtg iter ifs a=>bj tg λx _=>r.isEmpty&&decide (ts=1)&&decide (a=0)&&UD g w iter&&!CS w&&HA g 1 (hU g x js) js sc&&decide (sc.names.lookup x=Δ .local)&&decide (hU g x js).Nodup&&UC (g.inner (hU g x js) sc) c ifs&&ir (g.inner (hU g x js) sc) e elt&&!cB iter|.iE w js c e=>λe0=>iQ e0 λelt gens sc _=>aX gens λge r=>DO ge λtg iter ifs a=>oQ tg λns _ _=>aX ns λn1 WM=>bj n1 λx _=>aX WM λn2 WN=>bj n2 λy _=>WN.isEmpty&&r.isEmpty&&decide (a=0)&&UD g w iter&&HA g 2 (lC g x y js) js sc&&decide (sc.names.lookup x=Δ .local)&&decide (sc.names.lookup y=Δ .local)&&decide (lC g x y js).Nodup&&UC (g.inner (lC g x y js) sc) c ifs&&ir (g.inner (lC g x y js) sc) e elt&&!cB iter|.list e=>λe0=>bZ e0 λf0 xs je _=>bj f0 λn _=>aX xs λx r=>r.isEmpty&&je.isEmpty&&decide (n="list")&&g.gl "list"&&ir g e x&&notStar x|.keys e=>λe0=>bZ e0 λf0 xs je _=>bj f0 λn _=>aX xs λx r=>r.isEmpty&&je.isEmpty&&decide (n="list")&&g.gl "list"&&ir g e x&&notStar x|.fR es=>λe0=>bZ e0 λf0 ys je _=>bj f0 λn _=>aX ys λy r=>bZ y λf1 xs N6 _=>bj f1 λn1 _=>r.isEmpty&&je.isEmpty&&N6.isEmpty&&decide (n="list")&&g.gl "list"&&decide (n1="range")&&g.gl "range"&&iu g es xs|.zip a b=>λe0=>bZ e0 λf0 ys je _=>bj f0 λn _=>aX ys λy r=>bZ y λf1 xs N6 _=>bj f1 λn1 _=>aX xs λx1 r1=>aX r1 λx2 r2=>r.isEmpty&&r2.isEmpty&&je.isEmpty&&N6.isEmpty&&decide (n="list")&&g.gl "list"&&decide (n1="zip")&&g.gl "zip"&&ir g a x1&&notStar x1&&ir g b x2&&notStar x2|.cx e js c ee=>λe0=>iQ e0 λelt gens sc _=>aX gens λge r=>DO ge λtg iter ifs a=>bj tg λx _=>r.isEmpty&&decide (a=0)&&ir g e iter&&HA g 1 (hU g x js) js sc&&decide (sc.names.lookup x=Δ .local)&&decide (hU g x js).Nodup&&UC (g.inner (hU g x js) sc) c ifs&&ir (g.inner (hU g x js) sc) ee elt&&!cB iter
def UD(g:G):W->Expr->Bool
 |.ex e=>λx=>ir g e x&&!cB x|.fR es=>λx=>bZ x λf0 xs je _=>bj f0 λn _=>je.isEmpty&&decide (n="range")&&g.gl "range"&&iu g es xs|.enum e=>λx=>bZ x λf0 xs je _=>bj f0 λn _=>aX xs λy r=>r.isEmpty&&je.isEmpty&&decide (n="enumerate")&&g.gl "enumerate"&&ir g e y&&notStar y
end
def CT(K:KB)(c:List P->aK->R P)(n:Nat):Sp:=λvs H Q _=>∃m Z qs st,vs.length=n/\ai K H m Z qs vs/\aA K H m Z st/\Ok K Z (c qs st) m H (λp _ m' H'=>∀v,aj K H' m' Z p v->Q v H')
structure uN(X:Cx)(kt:KT)(c:List P->aK->R P)(x:Str)(n:Nat):Prop where
 ex:∃(k:Nat) (f:Addr) (fd:aao) (ps:List Str),gR X.prog X.w X.K X.mg X.base vU k f fd ps (CT ?B c n)/\
  dj k X.A/\X.mg x=Δ (.ref f)/\aaL X.K (.ref f)=Λ/\Binds X.K fd ps []
noncomputable def uO:List Str:=["len","min","max","all","any","sum","str","tuple","list","int","bool","isinstance","range","zip","enumerate","sorted"]
def R1(K:KB)(c:List P->aK->R P)(cd:Addr)(q:Str)(b7:List V):Sp:=λvs H Q _=>H cd=Δ (.ext (dD cd q))/\∃m Z qs bA st,ai K H m Z qs vs/\ai K H m Z bA b7/\aA K H m Z st/\Ok K Z (c (qs++bA) st) m H (λp _ m' H'=>∀v,aj K H' m' Z p v->Q v H')
structure DQ(X:Cx)(kt:KT)(C:Nat->List P->aK->R P)(k:Nat)(a c:Addr)(b7:List V):Prop where
 ob:∃oc od fd sl,X.base.get? a=Δ ⟨oc,od,.func fd,sl⟩
 ex:∃(n:Nat) (fd:aao) (ps:List Str),gR X.prog X.w X.K X.mg X.base vU n a fd ps (R1 ?B (C k) c (kt.AB k) b7)/\dj n X.A/\Binds X.K fd ps []
structure Good(X:Cx)(kt:KT)(g:G)(C:Nat->List P->aK->R P):Prop where
 N:X.N=g.N
 loc:∀x,g.names.lookup x=Δ .local->X.env.scope.names.lookup x=Δ .local
 Jo:∀x,(g.names.lookup x=Δ .cell\/g.names.lookup x=Δ .free)->(X.env.scope.names.lookup x=Δ .cell\/X.env.scope.names.lookup x=Δ .free)
 gl:∀x,g.names.lookup x=Δ .globalImplicit->X.env.scope.names.lookup x=Δ .globalImplicit
 calm:X.calm=Λ
 hu:X.A.units+100 < cLine
 bl:∀x∈uO,X.mg x=Θ
 fn:∀(k:Nat) (x:Str) (n:Nat),g.fns[k]?=Δ (x,n)->uN X kt (C k) x n
 cs:∀x i,g.iO.lookup x=Δ i->∃t,X.mg x=Δ (.int i t)
 tb:∀x t,g.tabs.lookup x=Δ t->∃a,X.mg x=Δ ?QT/\Rm X.K a t
 fld:∀c f,g.zN c f=Λ->∃A,YJ X.K YB c=Δ (Δ (.ref A))/\BU X.K A/\kf X.K A f
 P9:∀k c m n,g.BW k c m n=Λ->∃A l fa fd ps,YJ X.K YB c=Δ (Δ (.ref A))/\BU X.K A/\B6 X.K A m fa/\gR X.prog X.w X.K X.mg X.base vU l fa fd ps (CT ?B (C k) (n+1))/\dj l X.A/\Binds X.K fd ps []
 Qa:∀k c n,g.BX k c n=Λ->∃A l fa fd ps,X.mg c=Δ (.ref A)/\YJ X.K YB c=Δ (Δ (.ref A))/\Mk X.K A fa/\gR X.prog X.w X.K X.mg X.base vU l fa fd ps (CT ?B (C k) (n+1))/\dj (l+1) X.A/\Binds X.K fd ps []
 rG:g.cv=Λ->∀k a c b7,kt.rG k a c b7->DQ X kt C k a c b7
 lam:∀k params body scope pos,g.RY k params body scope pos=Λ->∀Z,PE X (.Lambda params body scope pos) (tE ?B Z (ae C (.lam k)))
 fc:∀f x n ls,g.Ms f x n ls=Λ->∀(Z:List Addr) (e:Expr) (es:List Expr) (cj:List E) (p pos:Pos),cj.length=n->g.gl x=Λ->aV x=Λ->(∀y∈e::es,notStar y=Λ)->PA X (e::es) (tA ?B Z (aC C cj))->
  PE X ?QG (tE ?B Z (ae C (.fc f cj ls)))
 jA:∀i x ls,g.R0 i x ls=Λ->∀(Z:List Addr) (e:Expr) (es:List Expr) (cj:List E) (p pos:Pos),g.N[i]?=Δ x->g.yO x=Λ->aV x=Λ->(∀y∈e::es,notStar y=Λ)->PA X (e::es) (tA ?B Z (aC C cj))->
  PE X ?QG (tE ?B Z (ae C (.jA i cj ls)))
section
variable{X:Cx}{g:G}{C:Nat->List P->aK->R P}{Z:List Addr}{e:Expr}{es:List Expr}
theorem Good.yO(T:Good X kt g C)(h:g.yO x=Λ):Qu X.env.scope x:=by
 unfold G.yO at h;split at h;·exact .inl (T.loc _ ‹_›)
 ·rcases T.Jo x (.inl ‹_›) with q|q;·exact .inr (.inl q)
  ·exact .inr (.inr q)
 ·rcases T.Jo x (.inr ‹_›) with q|q;·exact .inr (.inl q)
  ·exact .inr (.inr q)
 ·cases h
theorem Good.glob(T:Good X kt g C)(h:g.gl x=Λ):Gl X x:=T.gl x (of_decide_eq_true h)
theorem PE.imp(h:PE X e t)(i:∀σ H Q,t' σ H Q->t σ H Q):PE X e t':=λη s σ H Q I q=>h η s σ H Q I (i σ H Q q)
theorem PT.imp(h:PT X e t)(i:∀σ H Q,t' σ H Q->t σ H Q):PT X e t':=λη s σ H Q I q=>h η s σ H Q I (i σ H Q q)
theorem PW.imp(h:PW X e t)(i:∀σ H Q,t' σ H Q->t σ H Q):PW X e t':=λwh η s σ H Q I q=>h wh η s σ H Q I (i σ H Q q)
theorem PA.imp(h:PA X es t)(i:∀σ H Q,t' σ H Q->t σ H Q):PA X es t':=λpos η s σ H Q I q=>h pos η s σ H Q I (i σ H Q q)
theorem pn(h:aV x=Λ):(x==("__debug__":Str))=Ξ/\(x==("__classdict__":Str))=Ξ/\x≠"__name__":=by unfold aV at h;simp only[Yj,YV] at h;exact⟨h.1.1,h.1.2,λz=>by rw[z] at h;exact absurd h.2 ?E⟩
theorem bI(h:notStar e=Λ):YX (e::es) env=(Ξ,eval e env)::YX es env:=by
 cases e<;>first
  |rfl
  |exact absurd ?Qi Zh
theorem AK(T:Good X kt g C)(h1:g.N[i]?=Δ x)(h2:g.yO x=Λ)(h3:aV x=Λ):PE X (.Name x pos) (tE ?B Z (ae C (.var i))):=by
 refine PE.imp (BY (i:=i) (by rw[T.N];exact h1) (T.yO h2) (pn h3).1 (pn h3).2.1) ?_;rintro σ H Q ⟨m,r,st,ar,as,h⟩;obtain⟨p,e,q,_⟩:=Ok.of (show Ok ?B Z (R.of (kR r i) st) m H _ from h) as;have e':r[i]?=Δ (Δ p):=by unfold kR at e;cases q:r[i]? with|none=>rw[q] at e;cases e|some o=>rw[q] at e;simp at e;rw[e]
 obtain⟨v,ev,rv⟩:=ar.at_ i p e';exact⟨v,ev,q v rv⟩
theorem AL(h:PE X e (tC v))(hr:∀H m,aH ?B H m Z x v):PE X e (tE ?B Z (ae C (.cst x))):=by refine PE.imp h ?_;rintro σ H Q ⟨m,r,st,ar,as,q⟩;exact Ok.here (show Ok ?B Z (R.ok (P.d x) st) m H _ from q) as v (hr H m)
theorem HC(h:AJ d e=Λ):∃v,PE X e (tC v)/\∀K H m Z,aH K H m Z d v:=by refine oR h λc _ _ h=>?_;cases d with|int i=>obtain rfl:=of_decide_eq_true h;exact⟨_,Gm,λ_ _ _ _=>rfl⟩|bl i=>obtain rfl:=of_decide_eq_true h;exact⟨_,LX,λ_ _ _ _=>rfl⟩|bC=>obtain rfl:=of_decide_eq_true h;exact⟨_,Gn,λ_ _ _ _=>rfl⟩|str i=>obtain rfl:=of_decide_eq_true h;exact⟨_,Gp,λ_ _ _ _=>rfl⟩|tup _=>exact ft h|pl _=>exact ft h
theorem Kn(T:Good X kt g C)(h:DP g k e=Λ):∃tk,PE X e tk/\∀{σ} {H} {m} {ρ} {st},cA ?B H m Z ρ σ->ae C k ρ st=.no\/∃y v,ae C k ρ st=.ok y st/\aj ?B H m Z y v/\∀(Q) (H'),Q v H'->tk σ H' Q:=by
 unfold DP at h;split at h
 ·rename_i i;refine aG h λ_ _ h=>?_
  ·simp only[Yj,qqq] at h;refine⟨_,BY (i:=i) (by rw[T.N];exact h.1.1) (T.yO h.1.2) (pn h.2).1 (pn h.2).2.1,λ{σ H m ρ st} ar=>?_⟩;rw[l9];cases e:kR ρ i with
   |none=>exact .inl rfl|some p=>
    have e':ρ[i]?=Δ (Δ p):=by unfold kR at e;cases q:ρ[i]? with|none=>rw[q] at e;cases e|some o=>rw[q] at e;simp at e;rw[e]
    obtain⟨v,ev,rv⟩:=ar.at_ i p e';exact .inr ⟨p,v,rfl,rv,λQ H' q=>⟨v,ev,q⟩⟩
 ·rename_i d;obtain⟨v,hv,hr⟩:=HC (X:=X) h;exact⟨_,hv,λ{σ H m ρ st} ar=>.inr ⟨.d d,v,rfl,(show aH ?B H m Z d v from hr _ _ _ _),λQ H' q=>q⟩⟩
 ·cases h
theorem DR{f:Value->Value->Sem Value}{r:R2}{da db:bS->aK->R P}{k:P->P->aK->R P}{σ:L2.St}{H:Hp}{Q:VK}
  (hr:∀(x y:P) (v u:V) (m:List Addr) (H:Hp) (st:aK) (Q:VK),aA ?B H m Z st->aj ?B H m Z x v->aj ?B H m Z y u->Ok ?B Z (k x y st) m H (λp _ m' H'=>∀v,aj ?B H' m' Z p v->Q v H')->r v u H Q)
  (h:tE ?B Z (λρ st=>(da ρ st).bind λx st1=>(db ρ st1).bind λy st2=>k x y st2) σ H Q):QM r (tE ?B Z da) (tE ?B Z db) σ H Q:=by
 obtain⟨m,ρ,st,ar,as,h⟩:=h;refine⟨m,ρ,st,ar,as,(Ok.bind h).mono λx st1 m1 H1 bU bg h1 v rv=>?_⟩;refine⟨m1,ρ,st1,ar.le bU,bg,(Ok.bind h1).mono λy st2 m2 H2 fj eZ h2 u ru=>?_⟩;exact hr x y v u m2 H2 st2 Q eZ (rv.le fj) ru h2
theorem av.map{K:KB}:∀{xs} {us},av K H m Z xs us->ai K H m Z (xs.map .d) us
 |[],_,h=>h|x::xs,us,h=>by obtain⟨v,vs,e,r,rs⟩:=?Qd;exact⟨v,vs,e,r,av.map rs⟩
theorem ai.br{K:KB}:∀{ps} {xs} {us},ai K H m Z ps us->Y.br ps=Δ xs->av K H m Z xs us
 |[],xs,us,h,e=>by cases e;exact h|p::ps,xs,us,h,e=>by obtain⟨v,vs,e1,r,rs⟩:=?QR;cases p with|obj n=>cases e|ik n=>cases e|fn k c=>cases e|lf k=>cases e|d x=>have e':(Y.br ps).map (λxs=>x::xs)=Δ xs:=e;cases q:Y.br ps with|none=>rw[q] at e';cases e'|some zs=>rw[q] at e';cases e';exact⟨v,vs,e1,r,ai.br rs q⟩
theorem ai.append{K:KB}:∀{ps qs} {us vs},ai K H m Z ps us->ai K H m Z qs vs->ai K H m Z (ps++qs) (us++vs)
 |[],_,us,_,h,h'=>by cases ?QD;exact h'|p::ps,qs,us,vs,h,h'=>by obtain⟨v,w',rfl,r,rs⟩:=?QR;exact⟨v,w'++vs,rfl,r,ai.append rs h'⟩
theorem av.append{K:KB}:∀{ps qs} {us vs},av K H m Z ps us->av K H m Z qs vs->av K H m Z (ps++qs) (us++vs)
 |[],_,us,_,h,h'=>by cases ?QD;exact h'|p::ps,qs,us,vs,h,h'=>by obtain⟨v,w',rfl,r,rs⟩:=(show ∃v vs,us=v::vs/\aH K H m Z p v/\av K H m Z ps vs from h);exact⟨v,w'++vs,rfl,r,av.append rs h'⟩
theorem av.length{K:KB}:∀{ps} {us},av K H m Z ps us->us.length=?S
 |[],us,h=>by cases ?QD;rfl|p::ps,us,h=>by obtain⟨v,w',rfl,r,rs⟩:=(show ∃v vs,us=v::vs/\aH K H m Z p v/\av K H m Z ps vs from h);rw[YA,YA,av.length rs]
theorem ai.length{K:KB}:∀{ps} {us},ai K H m Z ps us->us.length=?S
 |[],us,h=>by cases ?QD;rfl|p::ps,us,h=>by obtain⟨v,w',rfl,r,rs⟩:=?QR;rw[YA,YA,ai.length rs]
theorem ai.get{K:KB}:∀{ps} {us} {i:Nat} {p},ai K H m Z ps us->ps[i]?=Δ p->∃v,us[i]?=Δ v/\aj K H m Z p v
 |[],us,i,p,h,e=>by simp at e|q::ps,us,i,p,h,e=>by obtain⟨v,w',rfl,r,rs⟩:=(show ∃v vs,us=v::vs/\aj K H m Z q v/\ai K H m Z ps vs from h);cases i with|zero=>simp at e;subst e;exact⟨v,by simp,r⟩|succ i=>simpa using ai.get rs (by simpa using e)
theorem ff{K:KB}{st:aK}(as:aA K H m Z st)(h:cT st p=Δ ps)(r:aj K H m Z p v):∃a us,v=.ref a/\Rd H a ?QY/\ai K H m Z ps us:=by
 cases p with
 |d x=>cases x with|pl xs=>have e:Δ (xs.map P.d)=Δ ps:=h;cases e;obtain⟨a,us,e,q,_,_,rs⟩:=r;exact⟨a,us,e,q,rs.map⟩|_=>cases h
 |obj n=>
  obtain⟨a,e,rfl⟩:=r;have h':(match st[n]? with|some (.lst xs)=>Δ xs|_=>Θ)=Δ ps:=h;split at h';·rename_i xs hs;cases h';obtain⟨a',e',o⟩:=as.at_ n _ hs;rw[e] at e';cases e';obtain⟨us,hu,rs⟩:=o;exact⟨a,us,rfl,.inl hu,rs⟩
  ·cases h'
 |ik n=>cases h|fn k c=>cases h|lf k=>cases h
theorem AM{K:KB}:∀ns:List Int,ai K H m Z (ns.map λi=>P.d (.int i)) (ns.map V.int)
 |[]=>rfl|n::ns=>⟨_,_,rfl,rfl,AM ns⟩
theorem jM{K:KB}{st:aK}(as:aA K H m Z st)(h:dg st p=Δ ps)(r:aj K H m Z p v):∃a us,v=.ref a/\(mB K.K H a us\/H a=Δ (.tup us))/\ai K H m Z ps us:=by
 cases p with
 |d x=>cases x with|tup xs=>have e:Δ (xs.map P.d)=Δ ps:=h;cases e;obtain⟨a,us,e,q,rs⟩:=r;exact⟨a,us,e,.inr q,rs.map⟩|pl xs=>obtain⟨a,us,e,q,rs⟩:=ff as (show cT st (.d (.pl xs))=Δ ps from h) r;exact⟨a,us,e,.inl (.inl q),rs⟩|bC=>cases h|bl b=>cases h|int b=>cases h|str b=>cases h
 |obj n=>obtain⟨a,us,e,q,rs⟩:=ff as (show cT st (.obj n)=Δ ps from h) r;exact⟨a,us,e,.inl (.inl q),rs⟩|ik n=>have e:Δ (n.map λi=>P.d (.int i))=Δ ps:=h;cases e;obtain⟨a,e,q⟩:=r;exact⟨a,_,e,.inl q.sq,AM n⟩|fn k c=>cases h|lf k=>cases h
theorem HD{K:Yw}(h:mB K H a us\/H a=Δ (.tup us)):mB K H a us\/fS K H a us:=h.imp_right fS.of
theorem sY{K:KB}{H:Hp}{m Z:List Addr}{st:aK}{xs:List D}{us:List V}{α:Type}{Q:V->Hp->Prop}(as:aA K H m Z st)(r:av K H m Z xs us){a:Addr}(ha:H a=Θ)
  (h:Ok K Z (R.ok (P.d ?QE) st) m H (λp _ m' H'=>∀v,aj K H' m' Z p v->Q v H')):Q ?QT (upd H a (.tup us)):=by
 have le:Le K m H m (upd H a (.tup us)):=Le.same (bp ha _);exact h m (upd H a (.tup us)) le (as.same (bp ha _)) ?QT ⟨a,us,rfl,aD,r.le le⟩
theorem N7{K:KB}{st:aK}{Q:V->Hp->Prop}(as:aA K H m Z st)(r:av K H m Z xs us)(ha:H a=Θ)(h:Ok K Z (R.ok (P.d (.pl xs)) st) m H (λp _ m' H'=>∀v,aj K H' m' Z p v->Q v H')):Q ?QT (upd H a ?QY):=by have le:Le K m H m (upd H a ?QY):=Le.same (bp ha _);exact h m (upd H a ?QY) le (as.same (bp ha _)) ?QT ⟨a,us,rfl,.inl aD,(as.fresh ha).1,(as.fresh ha).2,r.le le⟩
end
section
variable{X:Cx}{g:G}{C:Nat->List P->aK->R P}{Z:List Addr}{e:Expr}{es:List Expr}
theorem dv:aq=YQ:=by rw[ZV];rfl
theorem DS(h:Rd H a ?QX)(I:Inv X η σ H s):
  ?Q<=YQ/\∃(its:List Value) (n:Nat),aU xs its/\s.heap.get? a=Δ {cls:=.type "list",data:=.seq ?Qh n}:=h.ok I.aL
def Mt:R2:=λx y H Q=>∃l b xs zs,x=.ref l/\y=.ref b/\Rd H l ?QX/\Rd H b (.lst zs)/\?Q+zs.length<=YQ/\∀p,H p=Θ->Q (.ref p) (upd H p (.lst (xs++zs)))
theorem Ko:kK X (aaK .Add) Mt:=by
 intro η s σ H x y v u Q I rx ry h;obtain⟨l,b,xs,zs,rfl,rfl,hH,hB,hz,q⟩:=h;cases rx;cases ry;obtain⟨z,its,n,r,e⟩:=DS hH I;obtain⟨z2,GL,n2,r2,e2⟩:=DS hB I;have hl:=r.length;have xg:=r2.length;refine PySem.P.add_list e e2 ?_ (by rw[YC,YC];lia);have ea:?Qh++GL.toArray=(its++GL).toArray:=by simp
 rw[ea];exact⟨.ref _,_,I.VR (t':=s.toks) (r.append r2) (by rw[YF];lia),rfl,q _ I.fresh⟩
noncomputable def WO:R2:=λx y H Q=>∃i j,x=.str i/\y=.str j/\i.length+j.length<=YQ/\Q (.str (i++j)) H
def R3(K:Yw):RT->R2
 |.add=>λv u H Q=>Dy (λi j=>.int (i+j)) v u H Q\/WO v u H Q\/Ma v u H Q\/Mt v u H Q|.sub=>Dy λi j=>.int (i - j)|.mul=>λv u H Q=>rI JG (λi j=>.int (i*j)) v u H Q\/Mb v u H Q\/Md v u H Q\/Me v u H Q|.mod=>rI (λ_ j=>0 < j) λi j=>.int (i % j)
theorem N8:∀o,kK X (aaK (DN o)) (R3 X.K o)
 |.add=>M5.or (B4.or (J9.or Ko))|.sub=>M6|.mul=>M7.or (GV.or (GX.or GY))|.mod=>M8
theorem N9{K:KB}{st:aK}(as:aA K H m Z st)(rx:aj K H m Z x v)(ry:aj K H m Z y u)(h:Ok K Z (R.of (Jp o x y st) st) m H (λp _ m' H'=>∀v,aj K H' m' Z p v->Q v H')):R3 K.K o v u H Q:=by
 obtain⟨p,e,q,qq⟩:=Ok.of h as;unfold Jp at e;split at e
 ·rename_i i j;cases (show v=.int i from rx);cases (show u=.int j from ry);cases o with
  |add=>cases e;exact .inl ⟨i,j,rfl,rfl,q _ rfl⟩|sub=>cases e;exact⟨i,j,rfl,rfl,q _ rfl⟩|mul=>
   unfold nY at e;simp only at e;split at e;·rename_i hc;cases e;exact .inl ⟨i,j,rfl,rfl,hc,q _ rfl⟩
   ·cases e
  |mod=>
   unfold nY at e;simp only at e;split at e;·rename_i hc;cases e;exact⟨i,j,rfl,rfl,hc,q _ rfl⟩
   ·cases e
 ·rename_i x y;cases (show v=.str x from rx);cases (show u=.str y from ry);split at e;·rename_i hc;cases e;exact .inr (.inl ⟨x,y,rfl,rfl,by rw[<-dv];exact hc,q _ rfl⟩)
  ·cases e
 ·rename_i xs ys;obtain⟨a,us,rfl,ha,ra⟩:=rx;obtain⟨b,vs,rfl,hb,rb⟩:=ry;split at e;·rename_i hc;cases e;refine .inr (.inr (.inl ⟨a,b,us,vs,rfl,rfl,ha,hb,by rw[ra.length,rb.length,<-dv];exact hc,λr H' sm hr=>?_⟩));have le:Le K m H m H':=Le.same sm;exact qq m H' le (as.same sm) (.ref r) ⟨r,us++vs,rfl,hr,(ra.append rb).le le⟩
  ·cases e
 ·rename_i xs k;obtain⟨a,us,rfl,ha,ra⟩:=rx;cases (show u=.int k from ry);split at e;·rename_i hc;cases e;subst hc;exact .inr (.inr (.inr ⟨a,us,rfl,rfl,ha,q ?QT ⟨a,us,rfl,ha,ra⟩⟩))
  split at e
  ·rename_i hc;cases e;obtain⟨rfl,h1,h2⟩:=hc;refine .inr (.inl ⟨a,us,rfl,rfl,ha,λz=>?_,by rw[ra.length];exact h2,λp hp=>?_⟩)
   ·have:=ra.length;rw[z] at this;simp at this
    lia
   ·exact sY (α:=Unit) as (ra.append ra) hp qq
  split at e
  ·rename_i hc;cases e;obtain⟨rfl,h1,h2⟩:=hc;refine .inr (.inr (.inl ⟨a,us,rfl,rfl,ha,λz=>?_,by rw[ra.length];exact h2,λp hp=>?_⟩))
   ·have:=ra.length;rw[z] at this;simp at this
    lia
   ·exact sY (α:=Unit) as ((ra.append ra).append ra) hp qq
  ·cases e
 ·rename_i h1 h2 h3;cases ha:cT st x with
  |none=>rw[ha] at e;cases e|some ps=>
   cases hb:cT st y with
   |none=>rw[ha,hb] at e;cases e|some qs=>
    rw[ha,hb] at e;simp only[Zk] at e;cases hz:br (ps++qs) with
    |none=>rw[hz] at e;cases e|some zs=>
     rw[hz] at e;simp only[Zk] at e;split at e;·rename_i hc;cases e;obtain⟨c,us,rfl,hc1,rc⟩:=ff as ha rx;obtain⟨d,vs,rfl,hd1,rd⟩:=ff as hb ry;have rr:=(rc.append rd).br hz;have hlen:=rr.length;rw[YF] at hlen;refine .inr (.inr (.inr ⟨c,d,us,vs,rfl,rfl,hc1,hd1,by rw[<-dv];lia,λp hp=>?_⟩));exact N7 as rr hp qq
     ·cases e
 ·cases e
theorem WQ(ha:PE X a (tE ?B Z (ae C ea)))(hb:PE X b (tE ?B Z (ae C eb))):PE X (.BinOp a (DN o) b pos) (tE ?B Z (ae C (.op o ea eb))):=
 PE.imp (QN (N8 o) ha hb) λσ H Q h=>DR (f:=aaK (DN o)) (λx y v u m H st Q as rx ry h=>N9 as rx ry h) h
theorem dc{α β:Type}{o:Option α}{f:α->Option β}{b:β}(h:o.bind f=Δ b):∃a,o=Δ a/\f a=Δ b:=by cases o with|none=>cases h|some a=>exact⟨a,rfl,h⟩
theorem iw{α β:Type}{o:Option α}{f:α->β}{b:β}(h:o.map f=Δ b):∃a,o=Δ a/\f a=b:=by cases o with|none=>cases h|some a=>exact⟨a,rfl,by simpa using h⟩
theorem lE{K:KB}{st:aK}(as:aA K H m Z st)(h:kr st p=Δ x)(r:aj K H m Z p v):aH K H [] [] x v:=by
 cases p with
 |d y=>cases h;exact aH.bare r|obj n=>
  obtain⟨a,e,rfl⟩:=r;have h':(match st[n]? with|some (.lst xs)=>(br xs).map D.pl|_=>Θ)=Δ x:=h;split at h';·rename_i xs hs;obtain⟨a',e',o⟩:=as.at_ n _ hs;rw[e] at e';cases e';obtain⟨us,hu,rs⟩:=o;cases hd:br xs with|none=>rw[hd] at h';cases h'|some ys=>rw[hd] at h';cases h';exact⟨a,us,rfl,.inl hu,by simp,by simp,(rs.br hd).bare⟩
  ·cases h'
 |ik n=>cases h|fn k c=>cases h|lf k=>cases h
theorem aj.key{K:KB}(r:aj K H m Z p v)(e:keyOf p=Δ k):v=kV k:=by
 unfold keyOf at e;split at e;·cases e;exact r
 ·cases e;exact r
 ·cases e
theorem av.keys{K:KB}:∀{xs} {ks} {us},av K H m Z xs us->keysOf xs=Δ ks->us=ks.map kV
 |[],ks,us,h,e=>by cases e;exact h|x::xs,ks,us,h,e=>by obtain⟨v,vs,rfl,r,rs⟩:=?Qd;unfold keysOf at e;cases e1:keyOf (.d x) with|none=>rw[e1] at e;cases e|some k=>rw[e1] at e;cases e2:keysOf xs with|none=>rw[e2] at e;cases e|some k2=>rw[e2] at e;cases e;rw[av.keys rs e2,aj.key (show aj K H m Z (.d x) v from r) e1];rfl
theorem aj.nu{K:KB}(r:aj K H m Z p v)(e:Y.nu p=Δ k):∃b,v=.ref b/\H b=Δ (.tup (k.map kV)):=by
 unfold Y.nu at e;split at e;·obtain⟨b,us,rfl,h1,rs⟩:=r;exact⟨b,rfl,by rw[<-av.keys rs e];exact h1⟩
 ·cases e
theorem aO.val{κ:Type}[DecidableEq κ]{K:KB}{k:κ}:∀{kvs} {us},aO K H m Z kvs us->(fP us k).isSome=(fu kvs k).isSome/\∀p,fu kvs k=Δ p->∃v,fP us k=Δ v/\aj K H m Z p v
 |[],us,h=>by cases ?QD;exact⟨rfl,λp e=>by cases e⟩|x::xs,us,h=>by
  obtain⟨v,vs,rfl,r,rs⟩:=?Qp;obtain⟨i1,i2⟩:=aO.val (k:=k) rs;by_cases hk:x.1=k
  ·have e1:fP ((x.1,v)::vs) k=Δ v:=ox hk;have e2:fu (x::xs) k=Δ x.2:=by simp[fu,ZJ,hk]
   rw[e1,e2];exact⟨rfl,λp e=>by cases e;exact⟨v,rfl,r⟩⟩
  ·have e1:fP ((x.1,v)::vs) k=fP vs k:=oy hk;have e2:fu (x::xs) k=fu xs k:=by simp[fu,ZJ,hk]
   rw[e1,e2];exact⟨i1,i2⟩
theorem aO.length{κ:Type}{K:KB}{m:List Addr}:∀{kvs:List (κ×P)} {us:List (κ×V)},aO K H m Z kvs us->us.length=?Ql
 |[],us,h=>by cases ?QD;rfl|x::xs,us,h=>by obtain⟨v,vs,rfl,r,rs⟩:=?Qp;rw[YA,YA,aO.length rs]
theorem aO.app{κ:Type}{K:KB}{k:κ}(rp:aj K H m Z p v):∀{kvs} {us},aO K H m Z kvs us->aO K H m Z (kvs++[(k,p)]) (us++[(k,v)])
 |[],us,h=>by cases ?QD;exact⟨v,[],rfl,rp,rfl⟩|x::xs,us,h=>by obtain⟨v',vs,rfl,r,rs⟩:=?Qp;exact⟨v',vs++[(k,v)],rfl,r,aO.app rp rs⟩
theorem aO.EO{κ:Type}[DecidableEq κ]{K:KB}{k:κ}(rp:aj K H m Z p v):∀{kvs} {us},aO K H m Z kvs us->
  aO K H m Z (kvs.map λkv=>if kv.1=k then(kv.1,p) else kv) (us.map λkv=>if kv.1=k then(kv.1,v) else kv)
 |[],us,h=>by cases ?QD;rfl|x::xs,us,h=>by
  obtain⟨v',vs,rfl,r,rs⟩:=?Qp;have ih:=aO.EO (k:=k) rp rs;rw[Yx,Yx];by_cases hk:x.1=k;·rw[if_pos hk,if_pos hk];exact⟨v,_,rfl,rp,ih⟩
  ·rw[if_neg hk,if_neg hk];exact⟨v',_,rfl,r,ih⟩
theorem aO.put{κ:Type}[DecidableEq κ]{K:KB}{k:κ}{kvs:List (κ×P)}{us:List (κ×V)}(rs:aO K H m Z kvs us)(rp:aj K H m Z p v):aO K H m Z (mI kvs k p) (putK us k v):=by
 have e:(us.any λkv=>decide (kv.1=k))=?QL:=by
  have e2:∀kvs:List (κ×P),?QL=(fu kvs k).isSome:=λkvs=>by
   unfold fu;rw[abm];induction kvs with
   |nil=>rfl|cons x xs ih=>
    rw[aaF,ZJ];cases hx:decide (x.1=k);·simpa using ih
    ·rfl
  rw[tX,(rs.val (k:=k)).1,e2]
 unfold mI putK;rw[e];split;·exact rs.EO rp
 ·exact rs.app rp
theorem uP{K:KB}{st:aK}(as:aA K H m Z st)(h:bF st p=Δ o)(r:aj K H m Z p v):∃n a,p=.obj n/\st[n]?=Δ o/\m[n]?=Δ a/\v=.ref a/\sk K H m Z a o/\jI o=Λ:=by
 unfold bF at h;cases p with
 |d x=>cases h|ik x=>cases h|fn k c=>cases h|lf k=>cases h|obj n=>
  obtain⟨a,e,rfl⟩:=r;cases hs:st[n]? with
  |none=>rw[show Fe st (.obj n)=st[n]? from rfl,hs] at h;cases h|some o'=>
   rw[show Fe st (.obj n)=st[n]? from rfl,hs] at h;have h':(if jI o'=Λ then Δ o' else Θ)=Δ o:=h;split at h';·rename_i hd;cases h';obtain⟨a',e',q⟩:=as.at_ n _ hs;rw[e] at e';cases e';exact⟨n,a,rfl,hs,e,rfl,q,hd⟩
   ·cases h'
theorem DT{K:KB}(ao:sk K H m Z a o)(rk:aj K H m Z k y)(h:oJ o k=Δ res):∃ov,oA H a y ov/\ov.isSome=res.isSome/\∀p,res=Δ p->∃v,ov=Δ v/\aj K H m Z p v:=by
 cases o with
 |lst xs=>cases h|ins c fs=>cases h|wm=>cases h|dK kvs=>obtain⟨us,hu,rs⟩:=ao;cases hk:keyOf k with|none=>rw[show oJ ?QA k=(keyOf k).map _ from rfl,hk] at h;cases h|some kk=>rw[show oJ ?QA k=(keyOf k).map _ from rfl,hk] at h;cases h;obtain⟨i1,i2⟩:=rs.val (k:=kk);refine⟨fP us kk,?_,i1,λp hp=>i2 p hp⟩;rw[rk.key hk];exact oA.k hu
 |dT kvs=>obtain⟨us,hu,rs⟩:=ao;cases hk:nu k with|none=>rw[show oJ (.dT kvs) k=(nu k).map _ from rfl,hk] at h;cases h|some kk=>rw[show oJ (.dT kvs) k=(nu k).map _ from rfl,hk] at h;cases h;obtain⟨i1,i2⟩:=rs.val (k:=kk);obtain⟨b,rfl,hb⟩:=rk.nu hk;exact⟨fP us kk,oA.t hu hb,i1,λp hp=>i2 p hp⟩
def HE(neg:Bool):R2:=λy x H Q=>∃a o,x=.ref a/\oA H a y o/\Q (.bl (if neg then !o.isSome else o.isSome)) H
theorem Oa(hu:X.A.units+100 < cLine):kK X (ZM .In) (HE Ξ):=by intro η s σ H x y v u Q I rx ry h;obtain⟨a,o,rfl,g,q⟩:=h;cases ry;exact VT ?D I g rx λs3 I3=>⟨.bl o.isSome,H,I3,rfl,q⟩
theorem Fp(hu:X.A.units+100 < cLine):kK X (ZM .NotIn) (HE Λ):=by intro η s σ H x y v u Q I rx ry h;obtain⟨a,o,rfl,g,q⟩:=h;cases ry;exact JZ ?D I g rx λs3 I3=>⟨.bl (!o.isSome),H,I3,rfl,q⟩
def Kp(K:KB):Mr->R2
 |.lt=>Dy λi j=>.bl (decide (i < j))|.le=>Dy λi j=>.bl (decide (i<=j))|.gt=>Dy λi j=>.bl (decide (j < i))|.ge=>Dy λi j=>.bl (decide (j<=i))|.eq=>λv u H Q=>∃m Z x y k,aH K H m Z x v/\aH K H m Z y u/\se x y=Δ k/\Q (.bl k) H|.ne=>λv u H Q=>∃m Z x y k,aH K H m Z x v/\aH K H m Z y u/\se x y=Δ k/\Q (.bl (!k)) H|.isin=>λv u H Q=>Q3 K.K Ξ v u H Q\/HE Ξ v u H Q|.jo=>λv u H Q=>Q3 K.K Λ v u H Q\/HE Λ v u H Q
theorem qu(hu:X.A.units+100 < cLine):∀o,kK X (ZM (kM o)) (Kp ?B o)
 |.lt=>QP|.le=>QQ|.gt=>QR|.ge=>QS|.eq=>N4 hu|.ne=>N5 hu|.isin=>EN.or (Oa hu)|.jo=>yt.or (Fp hu)
theorem HF{K:KB}(h:aH K H m Z x v)(f:lr x=Λ):mK v=Λ:=by cases x with|bC=>cases (show v=.bC from h);rfl|bl b=>cases (show v=.bl b from h);rfl|int b=>cases (show v=.int b from h);rfl|str b=>cases (show v=.str b from h);rfl|tup xs=>cases f|pl xs=>cases f
theorem WR{K:KB}(h:aH K H m Z x v)(h':aH K H m Z y u)(f:lr x=Λ)(f':lr y=Λ):JX v u=sV x y:=by
 cases x with
 |tup xs=>cases f|pl xs=>cases f|bC=>cases (show v=.bC from h);cases y with|tup xs=>cases f'|pl xs=>cases f'|bC=>cases (show u=.bC from h');rfl|bl b=>cases (show u=.bl b from h');rfl|int b=>cases (show u=.int b from h');rfl|str b=>cases (show u=.str b from h');rfl
 |bl a=>cases (show v=.bl a from h);cases y with|tup xs=>cases f'|pl xs=>cases f'|bC=>cases (show u=.bC from h');rfl|bl b=>cases (show u=.bl b from h');rfl|int b=>cases (show u=.int b from h');rfl|str b=>cases (show u=.str b from h');rfl
 |int a=>cases (show v=.int a from h);cases y with|tup xs=>cases f'|pl xs=>cases f'|bC=>cases (show u=.bC from h');rfl|bl b=>cases (show u=.bl b from h');rfl|int b=>cases (show u=.int b from h');rfl|str b=>cases (show u=.str b from h');rfl
 |str a=>cases (show v=.str a from h);cases y with|tup xs=>cases f'|pl xs=>cases f'|bC=>cases (show u=.bC from h');rfl|bl b=>cases (show u=.bl b from h');rfl|int b=>cases (show u=.int b from h');rfl|str b=>cases (show u=.str b from h');rfl
theorem Mu{K:KB}(h:aH K H m Z x v)(f:lr x=Λ):∀{ys} {us},av K H m Z ys us->ys.all lr=Λ->us.all mK=Λ/\Uj v us=ys.any λy=>sV y x
 |[],us,r,_=>by cases (show us=[] from r);exact⟨rfl,rfl⟩|y::ys,us,r,q=>by obtain⟨w',ws,rfl,r1,r2⟩:=(show ∃v vs,us=v::vs/\aH K H m Z y v/\av K H m Z ys vs from r);rw[aaG,Yj] at q;obtain⟨i1,i2⟩:=Mu h f r2 q.2;refine⟨by rw[aaG,HF r1 q.1,i1];rfl,?_⟩;unfold Uj at i2 ⊢;rw[aaF,aaF,WR r1 h q.1 f,i2]
theorem in_of{K:KB}{st:aK}(as:aA K H m Z st)(rx:aj K H m Z x v)(ry:aj K H m Z y u)(e:Ff x y st=Δ k)(q:Q (.bl (if neg then !k else k)) H):Q3 K.K neg v u H Q\/HE neg v u H Q:=by
 unfold Ff at e;split at e;·rename_i o ho;obtain⟨res,e1,rfl⟩:=iw e;obtain⟨n,a,rfl,hs,hm,rfl,ao,_⟩:=uP as ho ry;obtain⟨ov,hg,h1,_⟩:=DT ao rx e1;refine .inr ⟨a,ov,rfl,hg,?_⟩;rw[h1];exact q
 ·left;obtain⟨xd,e1,e⟩:=dc e;obtain⟨ps,e2,e⟩:=dc e;obtain⟨ys,e3,e9⟩:=dc e;clear e;split at e9;·rename_i hf;rw[Yj] at hf;cases x with|obj n=>cases e1|ik n=>cases e1|fn k c=>cases e1|lf k=>cases e1|d x=>cases e1;obtain⟨a,us,rfl,hs,rs⟩:=jM as e2 ry;obtain⟨f1,f2⟩:=Mu rx hf.1 (rs.br e3) hf.2;refine⟨a,us,rfl,HD hs,HF rx hf.1,f1,?_⟩;rw[f2];cases e9;cases neg<;>exact q
  ·cases e9
theorem yU{K:KB}{st:aK}(as:aA K H m Z st)(rx:aj K H m Z x v)(ry:aj K H m Z y u)(e:jf o x y st=Δ k)(q:Q (.bl k) H):Kp K o v u H Q:=by
 have Kq:∀{o:Mr},NX o x y=Δ k->∃i j,v=.int i/\u=.int j/\RU o i j=Δ k:=λ{o} z=>by
  unfold NX at z;split at z;·exact⟨_,_,rx,ry,z⟩
  ·cases z
 cases o with
 |lt=>obtain⟨i,j,rfl,rfl,z⟩:=Kq e;cases z;exact⟨i,j,rfl,rfl,q⟩|le=>obtain⟨i,j,rfl,rfl,z⟩:=Kq e;cases z;exact⟨i,j,rfl,rfl,q⟩|gt=>obtain⟨i,j,rfl,rfl,z⟩:=Kq e;cases z;exact⟨i,j,rfl,rfl,q⟩|ge=>obtain⟨i,j,rfl,rfl,z⟩:=Kq e;cases z;exact⟨i,j,rfl,rfl,q⟩|eq=>obtain⟨a,e1,e⟩:=dc (show((kr st x).bind λx=>(kr st y).bind λy=>se x y)=Δ k from e);obtain⟨b,e2,e⟩:=dc e;exact⟨[],[],a,b,k,lE as e1 rx,lE as e2 ry,e,q⟩
 |ne=>obtain⟨a,e1,e⟩:=dc (show((kr st x).bind λx=>(kr st y).bind λy=>(se x y).map not)=Δ k from e);obtain⟨b,e2,e⟩:=dc e;obtain⟨c,e3,rfl⟩:=iw e;exact⟨[],[],a,b,c,lE as e1 rx,lE as e2 ry,e3,q⟩|isin=>exact in_of (neg:=Ξ) as rx ry e q|jo=>obtain⟨k',e',rfl⟩:=iw (show(Ff x y st).map not=Δ k from e);exact in_of (neg:=Λ) as rx ry e' q
theorem Ok.truth{K:KB}{st:aK}{Q:VK}(as:aA K H m Z st)(h:Ok K Z ((R.of o st).bind λb st3=>R.ok (P.d (.bl b)) st3) m H (λp _ m' H'=>∀v,aj K H' m' Z p v->Q v H')):∃k,o=Δ k/\Q (.bl k) H:=by obtain⟨k,e,q,_⟩:=Ok.of (Ok.bind h) as;exact⟨k,e,Ok.here q as (.bl k) rfl⟩
theorem DU(h:cB b=Ξ):adA op b=Ξ:=by
 cases b<;>first
  |rfl
  |exact absurd (show Λ=Ξ from h) Zh.symm
theorem R4(T:Good X kt g C)(ha:PE X a (tE ?B Z (ae C ea)))(hb:PE X b (tE ?B Z (ae C eb)))(hn:cB b=Ξ):
  PE X (.Compare a [kM o] [b] pos) (tE ?B Z (ae C (.cmp o ea eb))):=
 PE.imp (JH (qu T.hu o) ha hb (DU hn)) λσ H Q h=>DR (f:=ZM (kM o)) (λx y v u m H st Q as rx ry h=>by obtain⟨k,e,q⟩:=Ok.truth as h;exact yU as rx ry e q) h
theorem mS{α β:Type}{r:R α}{f:α->aK->R β}{b:β}{st:aK}(h:r.bind f=.ok b st):∃a st1,r=.ok a st1/\f a st1=.ok b st:=by cases r with|ok a st1=>exact⟨a,st1,rfl,h⟩|ex x st1=>cases h|no=>cases h
theorem HG{K:KB}{st:aK}(as:aA K H m Z st)(r:aj K H m Z p v)(e:yK st p=Δ k):EJ K.K v H k:=by
 have lists:(cT st p).map (λxs=>!xs.isEmpty)=Δ k->EJ K.K v H k:=λz=>by obtain⟨ps,e1,rfl⟩:=iw z;obtain⟨a,us,rfl,hr,rs⟩:=ff as e1 r;refine .inl ⟨us,.inl hr,?_⟩;have:=rs.length;cases ps<;>cases us<;>simp at this ⊢
 cases p with
 |obj n=>exact lists e|ik n=>exact lists e|fn k c=>exact lists e|lf k=>exact lists e|d x=>
  cases x with
  |bC=>cases (show v=.bC from r);cases e;rfl|bl b=>cases (show v=.bl b from r);cases e;rfl|int b=>cases (show v=.int b from r);cases e;rfl|str b=>
   cases (show v=.str b from r);have e':(if b.length<=aq then Δ ((b.length:Int)!=0) else Θ)=Δ k:=e;split at e';·rename_i hc;cases e';exact⟨by rw[<-dv];exact hc,rfl⟩
   ·cases e'
  |tup xs=>obtain⟨a,us,rfl,hs,rs⟩:=r;cases e;refine .inr (.inl ⟨us,fS.of hs,?_⟩);have:=rs.length;cases xs<;>cases us<;>simp at this ⊢|pl xs=>exact lists e
theorem Ob(h:tT ?B Z (bY d) σ H Q):tE ?B Z d σ H λx H'=>∃k,EJ X.K x H' k/\Q k H':=by obtain⟨m,r,st,ar,as,h⟩:=h;refine⟨m,r,st,ar,as,(Ok.bind h).mono λp st1 m1 H1 bU bg h1 v rv=>?_⟩;obtain⟨k,e,q,_⟩:=Ok.of h1 bg;exact⟨k,HG bg rv e,q⟩
theorem Kr(ha:PE X e (tE ?B Z d))(he:∀whole,adO e X.env whole=(do let v<-whole;ac5 e.pos;adq [v] (truthy v))):PT X e (tT ?B Z (bY d)):=
 PT.imp (GC ha he) λσ H Q h=>Ob h
theorem DV(hb:∀r st p st1,d r st=.ok p st1->∃b,p=.d (.bl b))(h:tT ?B Z (bY d) σ H Q):tE ?B Z d σ H λx H'=>∃k,x=.bl k/\Q k H':=by obtain⟨m,r,st,ar,as,h⟩:=h;refine⟨m,r,st,ar,as,(Ok.bind h).xD λp st1 m1 H1 hr bU bg h1 v rv=>?_⟩;obtain⟨b,rfl⟩:=hb r st p st1 hr;obtain⟨k,e,q,_⟩:=Ok.of h1 bg;cases e;cases (show v=.bl b from rv);exact⟨b,rfl,q⟩
theorem HH:∀r st p st1,ae C (.cmp o a b) r st=.ok p st1->∃b,p=.d (.bl b):=λr st p st1 h=>by rw[bx] at h;obtain⟨x,s1,_,h⟩:=mS h;obtain⟨y,s2,_,h⟩:=mS h;obtain⟨k,s3,_,h⟩:=mS h;cases h;exact⟨k,rfl⟩
theorem Oc(T:Good X kt g C)(ha:PE X a (tE ?B Z (ae C ea)))(hb:PE X b (tE ?B Z (ae C eb)))(hn:cB b=Ξ):
  PT X (.Compare a [kM o] [b] pos) (tT ?B Z (bY (ae C (.cmp o ea eb)))):=
 PT.imp (JI (qu T.hu o) ha hb (DU hn)) λσ H Q h=>DR (f:=ZM (kM o)) (λx y v u m H st Q as rx ry h=>by obtain⟨k,e,q⟩:=Ok.truth as h;exact yU as rx ry e q) (DV HH h)
theorem xG(h:cB b=Ξ)(h':cB c=Ξ):lastMarks [p,q] [b,c]=Ξ:=by
 cases c<;>first
  |rfl
  |exact absurd (show Λ=Ξ from h') Zh.symm
theorem AN(h:tE ?B Z (ae C (.chain o o' a b c)) σ H Q):
  B2 (Kp ?B o) (Kp ?B o') (tE ?B Z (ae C a)) (tE ?B Z (ae C b)) (tE ?B Z (ae C c)) σ H Q:=by
 obtain⟨m,ρ,st,ar,as,h⟩:=h;rw[rE] at h;refine⟨m,ρ,st,ar,as,(Ok.bind h).mono λx st1 m1 H1 bU bg h1 v rv=>?_⟩;refine⟨m1,ρ,st1,ar.le bU,bg,(Ok.bind h1).mono λy st2 m2 H2 fj eZ h2 u ru=>?_⟩;obtain⟨k,e,h3,_⟩:=Ok.of (Ok.bind h2) eZ;refine yU eZ (rv.le fj) ru e ⟨k,rfl,?_⟩;cases k with|false=>exact Ok.here h3 eZ ?Zj rfl|true=>refine⟨m2,ρ,st2,(ar.le bU).le fj,eZ,(Ok.bind (show Ok ?B Z ((ae C c ρ st2).bind _) m2 H2 _ from h3)).mono λz mN m4 H4 zO DW h4 w' nh=>?_⟩;obtain⟨k',e',q⟩:=Ok.truth DW h4;exact yU DW (ru.le zO) nh e' q
theorem Ks(T:Good X kt g C)(ha:PE X a (tE ?B Z (ae C ea)))(hb:PE X b (tE ?B Z (ae C eb)))(hc:PE X c (tE ?B Z (ae C ec)))(hn:cB b=Ξ)(Gj:cB c=Ξ):
  PE X (.Compare a [kM o,kM o'] [b,c] pos) (tE ?B Z (ae C (.chain o o' ea eb ec))):=
 PE.imp (Gz (qu T.hu o) (qu T.hu o') ha hb hc (xG hn Gj)) λσ H Q h=>AN h
theorem CU:∀r st p st1,ae C (.chain o o' a b c) r st=.ok p st1->∃b,p=.d (.bl b):=λr st p st1 h=>by rw[rE] at h;obtain⟨x,s1,_,h⟩:=mS h;obtain⟨y,s2,_,h⟩:=mS h;obtain⟨k,s3,_,h⟩:=mS h;cases k with|false=>cases h;exact⟨Ξ,rfl⟩|true=>obtain⟨z,s4,_,h⟩:=mS (show((ae C c r s3).bind _)=_ from h);obtain⟨k',s5,_,h⟩:=mS h;cases h;exact⟨k',rfl⟩
theorem HI(T:Good X kt g C)(ha:PE X a (tE ?B Z (ae C ea)))(hb:PE X b (tE ?B Z (ae C eb)))(hc:PE X c (tE ?B Z (ae C ec)))(hn:cB b=Ξ)(Gj:cB c=Ξ):
  PT X (.Compare a [kM o,kM o'] [b,c] pos) (tT ?B Z (bY (ae C (.chain o o' ea eb ec)))):=
 PT.imp (GA (qu T.hu o) (qu T.hu o') ha hb hc (xG hn Gj)) λσ H Q h=>AN (DV CU h)
theorem Kt(ha:PE X a ta):PE X (.UnaryOp .Not a pos) (λσ H Q=>ta σ H λx H1=>∃k,EJ X.K x H1 k/\Q (.bl (!k)) H1):=by intro η s σ H Q I h;refine UnaryOp_ (bW ?QP λv s1 ⟨x,H1,I1,r1,q1⟩=>not_of ?_);exact bW (GB η s1 σ H1 x v (λk H'=>Q (.bl (!k)) H') I1 r1 q1) λc s2 ⟨H2,I2,q2⟩=>⟨.bl (!c),H2,I2,rfl,q2⟩
theorem R5(ha:PE X a (tE ?B Z (ae C ea))):PE X (.UnaryOp .Not a pos) (tE ?B Z (ae C (.not ea))):=by refine PE.imp (Kt ha) ?_;rintro σ H Q ⟨m,ρ,st,ar,as,h⟩;rw[xn] at h;refine⟨m,ρ,st,ar,as,(Ok.bind h).mono λx st1 m1 H1 bU bg h1 v rv=>?_⟩;obtain⟨k,e,h2,_⟩:=Ok.of (Ok.bind h1) bg;exact⟨k,HG bg rv e,Ok.here h2 bg (.bl (!k)) rfl⟩
theorem Od(ha:PT X a (tT ?B Z (bY (ae C ea)))):PT X (.UnaryOp .Not a pos) (tT ?B Z (bY (ae C (.not ea)))):=by refine PT.imp (MV ha) ?_;rintro σ H Q ⟨m,ρ,st,ar,as,h⟩;unfold bY at h;rw[xn] at h;refine⟨m,ρ,st,ar,as,?_⟩;unfold bY;cases hr:ae C ea ρ st with|ex x s=>rw[hr] at h;exact h|no=>rw[hr] at h;exact h|ok p s1=>rw[hr] at h;simp only[aa] at h ⊢;cases ht:yK s1 p with|none=>rw[ht] at h;exact h|some k=>rw[ht] at h;exact h
theorem Oe(ha:PE X a (tE ?B Z (ae C ea))):PE X (.BoolOp .And [a] pos) (tE ?B Z (gE C [ea])):=Gq ha
theorem R6(ha:PE X a (tE ?B Z (ae C ea))):PE X (.BoolOp .Or [a] pos) (tE ?B Z (gF C [ea])):=Gq ha
theorem Of{rest:List Expr}(ha:PE X a (tE ?B Z (ae C ea)))(hb:PE X (.BoolOp .And (b::rest) pos) (tE ?B Z (gE C (eb::er)))):
  PE X (.BoolOp .And (a::b::rest) pos) (tE ?B Z (gE C (ea::eb::er))):=by
 refine PE.imp (MW ha hb) ?_;rintro σ H Q ⟨m,ρ,st,ar,as,h⟩;rw[xp] at h;refine⟨m,ρ,st,ar,as,(Ok.bind h).mono λx st1 m1 H1 bU bg h1 v rv=>?_⟩;split at h1;·rename_i k;cases (show v=.bl k from rv);refine⟨k,rfl,?_⟩;cases k with|true=>exact⟨m1,ρ,st1,ar.le bU,bg,h1⟩|false=>exact Ok.here h1 bg ?Zj rfl
 ·exact h1.elim
theorem R7{rest:List Expr}(ha:PE X a (tE ?B Z (ae C ea)))(hb:PE X (.BoolOp .Or (b::rest) pos) (tE ?B Z (gF C (eb::er)))):
  PE X (.BoolOp .Or (a::b::rest) pos) (tE ?B Z (gF C (ea::eb::er))):=by
 refine PE.imp (QA ha hb) ?_;rintro σ H Q ⟨m,ρ,st,ar,as,h⟩;rw[jJ] at h;refine⟨m,ρ,st,ar,as,(Ok.bind h).mono λx st1 m1 H1 bU bg h1 v rv=>?_⟩;split at h1;·rename_i k;cases (show v=.bl k from rv);refine⟨k,rfl,?_⟩;cases k with|false=>exact⟨m1,ρ,st1,ar.le bU,bg,h1⟩|true=>exact Ok.here h1 bg ?QV rfl
 ·exact h1.elim
theorem Ku(ha:PT X a (tT ?B Z (bY (ae C ea)))):PW X (.BoolOp .And [a] pos) (tT ?B Z (bY (gE C [ea]))):=pw_and1 ha
theorem Og(ha:PT X a (tT ?B Z (bY (ae C ea)))):PW X (.BoolOp .Or [a] pos) (tT ?B Z (bY (gF C [ea]))):=pw_or1 ha
theorem Kv{rest:List Expr}(ha:PT X a (tT ?B Z (bY (ae C ea))))(hb:PW X (.BoolOp .And (b::rest) pos) (tT ?B Z (bY (gE C (eb::er))))):
  PW X (.BoolOp .And (a::b::rest) pos) (tT ?B Z (bY (gE C (ea::eb::er)))):=by
 refine PW.imp (pw_and ha hb) ?_;rintro σ H Q ⟨m,ρ,st,ar,as,h⟩;refine⟨m,ρ,st,ar,as,?_⟩;unfold bY at h ⊢;rw[xp] at h;cases hr:ae C ea ρ st with
 |ex x s=>rw[hr] at h;exact h|no=>rw[hr] at h;exact h|ok p s1=>
  rw[hr] at h;simp only[aa] at h ⊢;split at h;·rename_i k;refine λm1 H1 bU bg=>?_;cases k with|true=>exact⟨m1,ρ,s1,ar.le bU,bg,Ok.le h bU⟩|false=>exact h m1 H1 bU bg
  ·exact h.elim
theorem Oh{rest:List Expr}(ha:PT X a (tT ?B Z (bY (ae C ea))))(hb:PW X (.BoolOp .Or (b::rest) pos) (tT ?B Z (bY (gF C (eb::er))))):
  PW X (.BoolOp .Or (a::b::rest) pos) (tT ?B Z (bY (gF C (ea::eb::er)))):=by
 refine PW.imp (pw_or ha hb) ?_;rintro σ H Q ⟨m,ρ,st,ar,as,h⟩;refine⟨m,ρ,st,ar,as,?_⟩;unfold bY at h ⊢;rw[jJ] at h;cases hr:ae C ea ρ st with
 |ex x s=>rw[hr] at h;exact h|no=>rw[hr] at h;exact h|ok p s1=>
  rw[hr] at h;simp only[aa] at h ⊢;split at h;·rename_i k;refine λm1 H1 bU bg=>?_;cases k with|false=>exact⟨m1,ρ,s1,ar.le bU,bg,Ok.le h bU⟩|true=>exact h m1 H1 bU bg
  ·exact h.elim
end
section
variable{X:Cx}{g:G}{C:Nat->List P->aK->R P}{Z:List Addr}{e:Expr}{es:List Expr}
theorem gg:∀{es} {r} {st st1} {ps},aC C es r st=.ok ps st1->?S=es.length
 |[],r,st,st1,ps,h=>by rw[az] at h;cases h;rfl|e::es,r,st,st1,ps,h=>by rw[ak] at h;obtain⟨x,s1,_,h⟩:=mS h;obtain⟨xs,s2,h2,h⟩:=mS h;cases h;rw[YA,YA,gg h2]
theorem uQ:PA X [] (tA ?B Z (aC C [])):=by refine PA.imp Cb ?_;rintro σ H Q ⟨m,ρ,st,ar,as,h⟩;rw[az] at h;exact Ok.here h as [] rfl
theorem lF(ha:PE X x (tE ?B Z (ae C a)))(hr:PA X xs (tA ?B Z (aC C cj)))(hs:notStar x=Λ):PA X (x::xs) (tA ?B Z (aC C (a::cj))):=by refine PA.imp (sO ha hr (bI hs)) ?_;rintro σ H Q ⟨m,ρ,st,ar,as,h⟩;rw[ak] at h;refine⟨m,ρ,st,ar,as,(Ok.bind h).mono λp st1 m1 H1 bU bg h1 v rv=>?_⟩;refine⟨m1,ρ,st1,ar.le bU,bg,(Ok.bind h1).mono λps st2 m2 H2 fj eZ h2 vs jc=>?_⟩;exact Ok.here h2 eZ (v::vs) ⟨v,vs,rfl,rv.le fj,jc⟩
theorem gh(h:iu g (a::cj) xs=Λ):∃x ys,xs=x::ys/\ir g a x=Λ/\notStar x=Λ/\iu g cj ys=Λ:=by refine aE h λx ys h=>?_;simp only[Yj] at h;exact⟨x,ys,rfl,h.1.1,h.1.2,h.2⟩
theorem lG(h:iu g [] xs=Λ):xs=[]:=Yy.mp h
theorem cK:∀{cj} {xs},iu g cj xs=Λ->∀x∈xs,notStar x=Λ
 |[],xs,h=>by rw[lG h];intro x hx;cases hx|a::cj,xs,h=>by
  obtain⟨x,ys,rfl,_,h2,h3⟩:=gh h;intro y hy;rcases aa2.mp hy with z|z;·rw[z];exact h2
  ·exact cK h3 y z
theorem gG:∀{cj} {xs},iu g cj xs=Λ->?Q=cj.length
 |[],xs,h=>by rw[lG h];rfl|a::cj,xs,h=>by obtain⟨x,ys,rfl,_,_,h3⟩:=gh h;rw[YA,YA,gG h3]
theorem gu:∀{xs},(∀x∈xs,notStar x=Λ)->(aax pos (YX xs env)).any (·.1)=Ξ
 |[],_=>rfl|x::xs,h=>by rw[bI (h x Yk)];show(Ξ||(aax pos (YX xs env)).any (·.1))=Ξ;rw[gu λy hy=>h y (Yi _ hy)];rfl
theorem R8(h:PA X xs (tA ?B Z (aC C cj))):PE X (.Tuple xs k pos) (tE ?B Z (ae C (.tup cj))):=by
 refine PE.imp (Nc h) ?_;rintro σ H Q ⟨m,ρ,st,ar,as,h⟩;rw[xo] at h;refine⟨m,ρ,st,ar,as,(Ok.bind h).mono λps st1 m1 H1 bU bg h1 vs jc=>?_⟩;split at h1;·rename_i hc;obtain⟨xs,e,h2,_⟩:=Ok.of (Ok.bind h1) bg;exact⟨by rw[jc.length,<-dv];exact hc,λp hp=>sY (α:=Unit) bg (jc.br e) hp h2⟩
 ·exact h1.elim
theorem Le.grow{K:KB}{m m':List Addr}{H H':Hp}{a:Addr}(le:Le K m H m' H')(ha:H a=Θ):Le K m H (m'++[a]) H' where
 pre:=by obtain⟨t,e⟩:=le.pre;exact⟨t++[a],by rw[e,Zf]⟩
 tup:=le.tup
 keep:=le.keep
 new:=λb hb=>by
  rcases abh.mp hb with z|z;·exact le.new b z
  ·have:b=a:=by simpa using z
   rw[this];exact .inr ha
 rU:=le.rU
 DM:=le.DM
 dA:=le.dA
 ext:=le.ext
 fO:=le.fO
theorem sZ(h:tE ?B Z (ae C (.lst mu l)) σ H Q):tL ?B Z (aS C l) σ H Q:=by obtain⟨m,ρ,st,ar,as,h⟩:=h;rw[Fi] at h;refine⟨m,ρ,st,ar,as,?_⟩;cases hr:aS C l ρ st with|ex x s=>rw[hr] at h;exact h|no=>rw[hr] at h;exact h|ok ps st1=>rw[hr] at h;simp only[aa] at h;intro m' H' a vs le ha hm hH cj rs;have hz:a∉Z:=(as.fresh ha).2;cases mu with|true=>refine h (m'++[a]) H' (le.grow ha) (cj.adopt hz hH rs) ?QT ⟨a,?_,rfl⟩;rw[YH (by rw[cj.len];exact Yt _),cj.len];simp|false=>have eZ:=cj.wu (Z:=Z) λb hb=>Yi _ hb;obtain⟨xs,e,h2,_⟩:=Ok.of (Ok.bind (Ok.le (show Ok ?B Z ((R.of (br ps) st1).bind λxs st2=>R.ok (P.d (.pl xs)) st2) m H _ from h) le)) eZ;exact Ok.here h2 eZ ?QT ⟨a,vs,rfl,.inl hH,hm,hz,(rs.wu λb hb=>Yi _ hb).br e⟩
theorem R9(h:PE X e (tL ?B Z (aS C l))):PE X e (tE ?B Z (ae C (.lst mu l))):=PE.imp h λσ H Q q=>sZ q
theorem Le.DX{K:KB}(le:Le K m H m' H')(ha:H' a=Θ):H a=Θ:=by cases q:H a with|none=>rfl|some o=>exact absurd ha (le.rU a (by rw[q];exact λz=>nomatch z))
theorem oT{K:KB}(bU:Le K m H m1 H1)(bg:aA K H1 m1 Z st1)(jc:ai K H1 m1 Z ps vs)(ha:H1 a=Θ)(h:LQ K Z (R.ok ps st1) m H Q):Q ?QT (upd H1 a (.lst vs)):=
 h m1 (upd H1 a (.lst vs)) a vs (bU.trans (Le.same (bp ha _))) (bU.DX ha) (bg.fresh ha).1 aD (bg.laid ha _) ((jc.lB ha).le (Le.same (bp ha _)))
theorem Oi(h:PA X xs (tA ?B Z (aC C cj))):PE X (.List xs pos) (tL ?B Z (aS C (.fQ cj))):=by
 refine PE.imp (Nd h) ?_;rintro σ H Q ⟨m,ρ,st,ar,as,h⟩;refine⟨m,ρ,st,ar,as,?_⟩;rw[iJ] at h;cases hr:aC C cj ρ st with
 |ex x s=>rw[hr] at h;exact h|no=>rw[hr] at h;exact h|ok ps st1=>
  rw[hr] at h;simp only[aa] at h;split at h;·rename_i hc;intro m1 H1 bU bg vs jc;exact⟨by rw[jc.length,<-dv];exact hc,λa ha=>oT bU bg jc ha h⟩
  ·exact h.elim
theorem Oj(T:Good X kt g C)(hg:g.gl "list"=Λ)(ha:PE X x (tE ?B Z (ae C a)))(hs:notStar x=Λ):PE X (.Call (.Name "list" p) [x] [] pos) (tL ?B Z (aS C (.list a))):=by refine PE.imp (jF yw (T.glob hg) (T.bl _ ?K) adu (lF ha uQ hs) ?K ?K (bI hs) rfl) ?_;rintro σ H Q ⟨m,ρ,st,ar,as,h⟩;refine⟨m,ρ,st,ar,as,?_⟩;rw[uo] at h;show Ok ?B Z (aC C [a] ρ st) m H _;simp only[ak,az];cases hr:ae C a ρ st with|ex x s=>rw[hr] at h;exact h|no=>rw[hr] at h;exact h|ok y st1=>rw[hr] at h;simp only[aa] at h ⊢;intro m1 H1 bU bg vs jc;obtain⟨v,qv,rfl,rv,e⟩:=(show ∃v qv,vs=v::qv/\aj ?B H1 m1 Z y v/\qv=[] from jc);subst e;cases hi:dg st1 y with|none=>rw[hi] at h;exact(show False from h).elim|some ps=>rw[hi] at h;obtain⟨b,us,rfl,hq,rs⟩:=jM bg hi rv;exact⟨b,us,rfl,HD hq,λl hl=>oT bU bg rs hl h⟩
theorem aO.keys{K:KB}:∀{kvs} {us},aO K H m Z kvs us->ai K H m Z (kvs.map λkv=>yM kv.1) (us.map λkv=>kV kv.1)
 |[],us,h=>by cases ?QD;exact rfl|(k,p)::kvs,us,h=>by obtain⟨v,vs,rfl,r,rs⟩:=(show ∃v vs,us=(k,v)::vs/\aj K H m Z p v/\aO K H m Z kvs vs from h);refine⟨kV k,_,rfl,?_,aO.keys rs⟩;cases k<;>rfl
theorem DY{K:KB}{st:aK}(as:aA K H m Z st)(h:uh st p=Δ q)(r:aj K H m Z p v):∃a us,p=.obj q.1/\st[q.1]?=Δ (.dK q.2)/\m[q.1]?=Δ a/\v=.ref a/\H a=Δ (.dK us)/\aO K H m Z q.2 us:=by
 unfold uh at h;split at h
 ·rename_i n;split at h;·rename_i kvs hk;cases h;obtain⟨a,ha,rfl⟩:=(show ∃a,m[n]?=Δ a/\v=.ref a from r);obtain⟨a',UE,us,hu,rs⟩:=as.at_ n _ hk;rw[ha] at UE;cases UE;exact⟨a,us,rfl,hk,ha,rfl,hu,rs⟩
  ·cases h
 ·cases h
theorem Ol(T:Good X kt g C)(hg:g.gl "list"=Λ)(ha:PE X x (tE ?B Z (ae C a)))(hs:notStar x=Λ):PE X (.Call (.Name "list" p) [x] [] pos) (tL ?B Z (aS C (.keys a))):=by refine PE.imp (jF (wj T.calm) (T.glob hg) (T.bl _ ?K) adu (lF ha uQ hs) ?K ?K (bI hs) rfl) ?_;rintro σ H Q ⟨m,ρ,st,ar,as,h⟩;refine⟨m,ρ,st,ar,as,?_⟩;rw[uq] at h;show Ok ?B Z (aC C [a] ρ st) m H _;simp only[ak,az];cases hr:ae C a ρ st with|ex x s=>rw[hr] at h;exact h|no=>rw[hr] at h;exact h|ok y st1=>rw[hr] at h;simp only[aa] at h ⊢;intro m1 H1 bU bg vs jc;obtain⟨v,qv,rfl,rv,e⟩:=(show ∃v qv,vs=v::qv/\aj ?B H1 m1 Z y v/\qv=[] from jc);subst e;cases hi:uh st1 y with|none=>rw[hi] at h;exact(show False from h).elim|some q=>rw[hi] at h;obtain⟨b,us,rfl,hk,hm,rfl,hu,rs⟩:=DY bg hi rv;exact⟨b,us,rfl,hu,λl hl=>oT bU bg rs.keys hl h⟩
theorem Kw(T:Good X kt g C)(BV:g.cv=Λ)(h1:g.N[i]?=Δ x)(h2:g.yO x=Λ)(hp:aV x=Λ)(hs:∀z∈y::ys,notStar z=Λ)(h:PA X (y::ys) (tA ?B Z (aC C cj))):
  PE X (.Call (.Name x p) (y::ys) [] pos) (tE ?B Z (ae C (.oI i cj))):=by
 refine PE.imp (Hd (i:=i) (by rw[T.N];exact h1) (T.yO h2) h (pn hp).1 (pn hp).2.1 (bI (hs y Yk)) (gu λz hz=>hs z (Yi _ hz))) ?_;rintro σ H Q ⟨m,ρ,st,ar,as,h⟩;rw[Az] at h;obtain⟨q,e,h',_⟩:=Ok.of (Ok.bind h) as;have e':ρ[i]?=Δ (Δ q):=by unfold kR at e;cases z:ρ[i]? with|none=>rw[z] at e;cases e|some o=>rw[z] at e;simp at e;rw[e]
 obtain⟨v,ev,rv⟩:=ar.at_ i q e';cases q with|fn k bA=>rw[aj] at rv;obtain⟨a,c,b7,rfl,hc,WS,rc⟩:=rv;obtain⟨n,fd,ps,F,hr,hb⟩:=(T.rG BV k a c b7 hc).ex;refine⟨a,ev,(T.rG BV k a c b7 hc).ob,m,ρ,st,ar,as,(Ok.bind h').xD λqs st1 m1 H1 hq bU bg h1 vs jc=>⟨n,fd,ps,_,F,hr,hb,?_⟩⟩;exact⟨bU.ext _ _ WS,m1,Z,qs,bA,st1,jc,rc.le bU,bg,h1⟩|d x=>exact(Ok.oH (λ_ _=>rfl) h').elim|obj x=>exact(Ok.oH (λ_ _=>rfl) h').elim|ik x=>exact(Ok.oH (λ_ _=>rfl) h').elim|lf x=>exact(Ok.oH (λ_ _=>rfl) h').elim
theorem aO.look{K:KB}{m:List Addr}{f:Str}:∀{fs:List (Str×P)} {us:List (Str×V)},aO K H m Z fs us->(∀p,fs.lookup f=Δ p->∃v,us.lookup f=Δ v/\aj K H m Z p v)/\(fs.lookup f=Θ->us.lookup f=Θ)
 |[],us,h=>by cases ?QD;exact⟨(λp z=>nomatch z),λ_=>rfl⟩|(k,p)::fs,us,h=>by obtain⟨v,vs,rfl,r,rs⟩:=(show ∃v vs,us=(k,v)::vs/\aj K H m Z p v/\aO K H m Z fs vs from h);obtain⟨i1,i2⟩:=aO.look (f:=f) rs;rw[YU,YU];cases hb:f==k with|true=>exact⟨λq z=>by cases z;exact⟨v,rfl,r⟩,λz=>nomatch z⟩|false=>exact⟨i1,i2⟩
theorem CV{K:KB}{st:aK}(as:aA K H m Z st)(r:aj K H m Z p v)(h:qf c st p=Δ (n,fs)):
  ∃a A dx us,p=.obj n/\m[n]?=Δ a/\v=.ref a/\st[n]?=Δ (.ins c fs)/\YJ K.K YB c=Δ (Δ (.ref A))/\H a=Δ (.ins A dx us)/\H dx=Δ (.own a)/\aO K H m Z fs us:=by
 unfold qf at h;split at h
 ·rename_i n';split at h
  ·rename_i c' fs' hs;split at h;·rename_i hc;cases h;subst hc;rw[aj] at r;obtain⟨a,e,rfl⟩:=r;obtain⟨a',e',ao⟩:=as.at_ n _ hs;rw[e] at e';cases e';obtain⟨A,dx,us,g1,g2,g3,g4⟩:=ao;exact⟨a,A,dx,us,rfl,e,rfl,hs,g1,g2,g3,g4⟩
   ·cases h
  ·cases h
 ·cases h
theorem Om(T:Good X kt g C)(hf:g.zN c f=Λ)(h1:g.N[i]?=Δ x)(h2:g.yO x=Λ)(h3:aV x=Λ):PE X (.Attribute (.Name x p) f pos) (tE ?B Z (ae C (.attr c f i))):=by refine PE.imp (M9 (AK (Z:=Z) (kt:=kt) T h1 h2 h3) rfl) ?_;rintro σ H Q ⟨m,ρ,st,ar,as,h⟩;rw[CJ] at h;refine⟨m,ρ,st,ar,as,?_⟩;rw[l9];refine(Ok.bind h).mono λq st1 m1 H1 bU bg h1 v rv=>?_;obtain⟨q2,e,h2,_⟩:=Ok.of h1 bg;obtain⟨⟨n,fs⟩,e1,e2⟩:=dc e;obtain⟨a,A,dx,us,rfl,hm,rfl,hs,g1,g2,g3,g4⟩:=CV bg rv e1;obtain⟨A',k1,k2,k3⟩:=T.fld c f hf;rw[show YJ X.K YB c=Δ (Δ (.ref A)) from g1] at k1;cases k1;obtain⟨w,hw,nh⟩:=(aO.look (f:=f) g4).1 q2 e2;exact⟨a,A,dx,us,w,rfl,g2,k2,k3,hw,h2 w nh⟩
theorem s_call(T:Good X kt g C)(hf:g.fns[f]?=Δ (x,cj.length))(hg:g.gl x=Λ)(hp:aV x=Λ)(hs:∀x∈xs,notStar x=Λ)(hl:?Q=cj.length)(h:PA X xs (tA ?B Z (aC C cj))):
  PE X (.Call (.Name x p) xs [] pos) (tE ?B Z (ae C (.call f cj))):=by
 obtain⟨k,fa,fd,ps,F,hr,hm,hk,hb⟩:=(T.fn f x cj.length hf).ex;have red:∀σ H Q,tE ?B Z (ae C (.call f cj)) σ H Q->GG (CT ?B (C f) cj.length) [] E0 (tA ?B Z (aC C cj)) σ H Q:=by rintro σ H Q ⟨m,ρ,st,ar,as,h⟩;rw[dE] at h;refine⟨m,ρ,st,ar,as,(Ok.bind h).xD λqs st1 m1 H1 hq bU bg h1 vs jc=>?_⟩;show CT ?B (C f) cj.length (vs++[]) H1 Q E0;rw[Zo];exact⟨m1,Z,qs,st1,by rw[jc.length,gg hq],jc,bg,h1⟩
 cases xs with
 |nil=>
  have e:cj=[]:=by cases cj with|nil=>rfl|cons a b=>simp at hl
  subst e;refine PE.imp (GH F hr (T.glob hg) hm hk hb .nil Ag (pn hp).1) λσ H Q h=>?_;obtain⟨m,ρ,st,ar,as,h1⟩:=red σ H Q h;rw[az] at h1;exact Ok.here h1 as [] rfl
 |cons y ys=>exact PE.imp (JL F hr (T.glob hg) hm hk hb .nil Ag h (pn hp).1 (bI (hs y Yk)) (gu λz hz=>hs z (Yi _ hz))) red
theorem CW{E:Value->YG->Prop}(I:Inv X η σ H s)(q:fS X.K H a xs)(e:adn X.K (.type "tuple") c=Δ b)(h:∀tk,Q (.bool b) {s with toks:=tk}):wpAny ?G A (call (.builtin "isinstance") [.ref a,c]) Q E s:=by obtain⟨_,_,p,_⟩:=I.tuple q;obtain⟨o,h1,h2,_⟩:=p;exact ZG PySem.W.kitx_tuple I.n9 ⟨o,h1,h2⟩ e (λz=>nomatch z) h
theorem HJ:g8 X (.builtin "isinstance") (λxs H Q=>∃x T,xs=[x,.ty T]/\T∈me/\((∃t,L2.Rk H x=Δ t/\Q (.bl (L2.fk t T)) H)\/(∃a ys,x=.ref a/\fS X.K H a ys/\Q (.bl (L2.fk "tuple" T)) H)\/(∃a ys,x=.ref a/\Rd H a (.lst ys)/\Q (.bl (L2.fk "list" T)) H))):=by
 intro η s σ H xs us Q I r h;obtain⟨x,T,rfl,hT,h⟩:=h;obtain⟨u,w',rfl,rx,ry⟩:=vals2 r;cases (show w'=abc T from ry);have UG:T="int"\/T="bool"\/T="tuple"\/T="str"\/T="list":=by simpa[me] using hT
 rcases h with ⟨t,ht,q⟩|⟨a,ys,rfl,hq,q⟩|⟨a,ys,rfl,hq,q⟩
 ·exact p5 I rx (J8 ht) (sT X.K (Nw ht) UG) λtk=>⟨.bl (L2.fk t T),H,I.tok _,rfl,q⟩
 ·cases rx;exact CW I hq (sT X.K ?E UG) λtk=>⟨.bl (L2.fk "tuple" T),H,I.tok _,rfl,q⟩
 ·rcases hq with hq|⟨o,hq⟩;·exact p5 I rx (ng.lst hq) (sT X.K (by simp) UG) λtk=>⟨.bl (L2.fk "list" T),H,I.tok _,rfl,q⟩
  ·exact p5 I rx (ng.dA hq) (sT X.K ?E UG) λtk=>⟨.bl (L2.fk "list" T),H,I.tok _,rfl,q⟩
theorem Kx(h:T∈me):abv (Zw T)=Δ (.type T)/\Zw T∈uO/\Zw T≠"__name__"/\(Zw T==("__debug__":Str))=Ξ:=by
 have h':T="int"\/T="bool"\/T="tuple"\/T="str"\/T="list":=by simpa[me] using h
 rcases h' with rfl|rfl|rfl|rfl|rfl;·exact⟨boot_int,by decide+kernel,by decide+kernel,by decide+kernel⟩
 ·exact⟨boot_bool,by decide+kernel,by decide+kernel,by decide+kernel⟩
 ·exact⟨boot_tuple,by decide+kernel,by decide+kernel,by decide+kernel⟩
 ·exact⟨boot_str,by decide+kernel,by decide+kernel,by decide+kernel⟩
 ·exact⟨adu,by decide+kernel,by decide+kernel,by decide+kernel⟩
theorem Sa(T:Good X kt g C)(hg:g.gl "isinstance"=Λ)(ht:t∈me)(Ky:g.gl (Zw t)=Λ)(ha:PE X x (tE ?B Z (ae C a)))(hs:notStar x=Λ):
  PE X (.Call (.Name "isinstance" p) [x,.Name (Zw t) q] [] pos) (tE ?B Z (ae C (.Hn a t))):=by
 obtain⟨b1,b2,b3,b4⟩:=Kx ht;refine PE.imp (tV HJ (T.glob hg) (T.bl _ ?K) boot_isinstance (sO ha (sO (JC (v:=.ty t) (T.glob Ky) (T.bl _ b2) b1 rfl b3 b4) Cb) (bI hs)) ?K ?K (bI hs) rfl) ?_;rintro σ H Q ⟨m,ρ,st,ar,as,h⟩;rw[Fj] at h;refine⟨m,ρ,st,ar,as,(Ok.bind h).mono λy st1 m1 H1 bU bg h1 v rv=>?_⟩;obtain⟨k,e,h2,_⟩:=Ok.of (Ok.bind h1) bg;have q:=Ok.here h2 bg (.bl (fk k t)) rfl;have eqt:Y.fk k t=L2.fk k t:=rfl;refine⟨v,t,rfl,ht,?_⟩;cases y with
 |d x=>cases x with|bC=>cases (show v=.bC from rv);cases e;exact .inl ⟨_,rfl,q⟩|bl b=>cases (show v=.bl b from rv);cases e;exact .inl ⟨_,rfl,q⟩|int b=>cases (show v=.int b from rv);cases e;exact .inl ⟨_,rfl,q⟩|str b=>cases (show v=.str b from rv);cases e;exact .inl ⟨_,rfl,q⟩|tup xs=>obtain⟨b,us,rfl,hq,_⟩:=rv;cases e;exact .inr (.inl ⟨b,us,rfl,fS.of hq,q⟩)|pl xs=>obtain⟨b,us,rfl,hq,_⟩:=rv;cases e;exact .inr (.inr ⟨b,us,rfl,hq,q⟩)
 |obj n=>
  have e':(match st1[n]? with|some (.lst _)=>Δ "list"|_=>Θ)=Δ k:=e;split at e';·rename_i xs hx;cases e';obtain⟨b,us,rfl,hq,_⟩:=ff bg (show cT st1 (.obj n)=Δ xs by show(match st1[n]? with|some (.lst xs)=>Δ xs|_=>Θ)=Δ xs;rw[hx]) rv;exact .inr (.inr ⟨b,us,rfl,hq,q⟩)
  ·cases e'
 |ik n=>cases e|fn k c=>cases e|lf k=>cases e
end
section
variable{X:Cx}{g:G}{C:Nat->List P->aK->R P}{Z:List Addr}{e:Expr}{es:List Expr}
theorem HK(h:yQ y=Ξ):DC y:=by
 intro o i;cases y<;>first
  |rfl
  |exact absurd (show Λ=Ξ from h) Zh.symm
def WT:R2:=λx y H Q=>∃a v,x=.ref a/\oA H a y (Δ v)/\Q v H
theorem CY(hu:X.A.units+100 < cLine):L6 X WT:=by intro value slice η s σ H x y v u Q I rx ry h hs;obtain⟨a,w',rfl,g,q⟩:=h;cases rx;obtain⟨ob,h1,h2⟩:=Ab I g a rfl;refine oB (Aa I g) ?_ hs;exact ER ?D I g ry λw2 s3 I3 nh=>⟨w',H,I3,nh,q⟩
theorem WU(hu:X.A.units+100 < cLine)(ha:PE X a (tE ?B Z (ae C ea)))(hb:PE X b (tE ?B Z (ae C eb)))(hs:yQ b=Ξ):PE X (.Subscript a b pos) (tE ?B Z (ae C (.ix ea eb))):=by
 refine PE.imp (Q1 ((JW.or Ni).or (CY hu)) ha hb (HK hs)) λσ H Q h=>DR (f:=λa b=>ads a b) (λx y v u m H st Q as rx ry h=>?_) h;obtain⟨p,e,q,_⟩:=Ok.of h as;unfold Ax at e;split at e;·rename_i o ho;obtain⟨res,e1,e2⟩:=dc e;cases (show res=Δ p from e2);obtain⟨n,a,rfl,hs,hm,rfl,ao,_⟩:=uP as ho rx;obtain⟨ov,hg,h1,h2⟩:=DT ao ry e1;obtain⟨w',rfl,nh⟩:=h2 p rfl;exact .inr ⟨a,w',rfl,hg,q w' nh⟩
 left;unfold WJ at e;split at e
 ·rename_i i;cases (show u=.int i from ry);obtain⟨ps,e1,e2⟩:=dc e;obtain⟨a,us,rfl,hq,rs⟩:=jM as e1 rx;obtain⟨j,e3,e4⟩:=dc (show(Y.Ce ?S i).bind (λj=>ps[j]?)=Δ p from e2);obtain⟨w',e5,nh⟩:=rs.get e4;have e6:L2.nZ us i=Δ w':=by show(L2.Ce us.length i).bind (λj=>us[j]?)=Δ w';rw[rs.length];have:L2.Ce ?S i=Δ j:=e3;rw[this];exact e5
  rcases hq with hq|hq;·exact .inl ⟨a,us,i,w',rfl,rfl,hq,e6,q w' nh⟩
  ·exact .inr ⟨a,us,i,w',rfl,rfl,fS.of hq,e6,q w' nh⟩
 ·cases e
inductive tO (K:KB) (Z:List Addr) (d:bS->aK->R (Option P)) (σ:L2.St) (H:Hp) (Q:Option Int->Hp->Prop):Prop
 |mk (m:List Addr) (r:bS) (st:aK) (a:cA K H m Z r σ) (b:aA K H m Z st) (c:Ok K Z (d r st) m H (λo _ _ H'=>∃l,Hs o=Δ l/\Q l H')):tO K Z d σ H Q
theorem PO.imp(h:PO X x t)(i:∀σ H Q,t' σ H Q->t σ H Q):PO X x t':=λη s σ H Q I q=>h η s σ H Q I (i σ H Q q)
theorem Kz:PO X Θ (tO ?B Z (xm C Θ)):=by refine PO.imp JS ?_;rintro σ H Q ⟨m,ρ,st,ar,as,h⟩;rw[um] at h;obtain⟨l,e,q⟩:=Ok.here h as;cases e;exact q
theorem KA(ha:PE X x (tE ?B Z (ae C a))):PO X (Δ x) (tO ?B Z (xm C (Δ a))):=by refine PO.imp (JT ha) ?_;rintro σ H Q ⟨m,ρ,st,ar,as,h⟩;rw[CM] at h;refine⟨m,ρ,st,ar,as,(Ok.bind h).mono λp st1 m1 H1 bU bg h1 v rv=>?_⟩;obtain⟨l,e,q⟩:=Ok.here h1 bg;cases p with|obj n=>cases e|ik n=>cases e|fn k c=>cases e|lf k=>cases e|d y=>cases y with|int i=>cases e;cases (show v=.int i from rv);exact⟨i,rfl,q⟩|_=>cases e
theorem AO{K:KB}(h:ai K H m Z [p] vs):∃v,vs=[v]/\aj K H m Z p v:=by obtain⟨v,qv,rfl,rv,e⟩:=(show ∃v qv,vs=v::qv/\aj K H m Z p v/\qv=[] from h);subst e;exact⟨v,rfl,rv⟩
theorem Oo{K:KB}(h:ai K H m Z [p,q] vs):∃v u,vs=[v,u]/\aj K H m Z p v/\aj K H m Z q u:=by obtain⟨v,qv,rfl,rv,h'⟩:=(show ∃v qv,vs=v::qv/\aj K H m Z p v/\ai K H m Z [q] qv from h);obtain⟨u,rfl,ru⟩:=AO h';exact⟨v,u,rfl,rv,ru⟩
def WV(K:Yw):Bf->List V->Hp->VK->Prop
 |.any=>λxs H Q=>∃(p:Addr) (bs:List Bool),xs=[.ref p]/\mB K H p (bs.map V.bl)/\Q (.bl (bs.any id)) H|.len=>λxs H Q=>(∃p n,xs=[.ref p]/\Rn H p n/\Q (.int n) H)\/(∃p ys,xs=[.ref p]/\(mB K H p ys\/fS K H p ys)/\Q (.int ?Zd) H)\/(∃z,xs=[.str z]/\z.length<=YQ/\Q (.int z.length) H)|.tuple=>λxs H Q=>∃p ys,xs=[.ref p]/\((mB K H p ys/\∀l,H l=Θ->Q (.ref l) (upd H l (.tup ys)))\/(fS K H p ys/\Q (.ref p) H))
noncomputable def Sb:Bf->Value
 |.len=>.builtin "len"|.any=>.builtin "any"|.tuple=>.type "tuple"
theorem AQ(h:g8 X f r)(h':g8 X f r'):g8 X f (λxs H Q=>r xs H Q\/r' xs H Q):=by
 intro η s σ H xs us Q I rv q;rcases q with q|q;·exact h η s σ H xs us Q I rv q
 ·exact h' η s σ H xs us Q I rv q
theorem KC(hc:X.calm=Λ):∀f,g8 X (Sb f) (WV X.K f)
 |.len=>AQ yA (AQ yu yv)|.any=>E1 hc|.tuple=>v7
theorem AR{K:KB}:∀{ps} {bs} {us},ai K H m Z ps us->boolsOf ps=Δ bs->us=bs.map V.bl
 |[],bs,us,h,e=>by cases e;exact h|p::ps,bs,us,h,e=>by
  obtain⟨v,vs,rfl,r,rs⟩:=?QR;unfold boolsOf at e;split at e;·rename_i e0;cases e0
  ·rename_i b r' e0;cases e0;obtain⟨cs,e1,rfl⟩:=iw e;cases (show v=.bl b from r);rw[AR rs e1];rfl
  ·cases e
theorem Sd{K:KB}{st:aK}(as:aA K H m Z st)(rx:ai K H m Z ps vs)(h:Ok K Z (R.of (sf f ps st) st) m H (λp _ m' H'=>∀v,aj K H' m' Z p v->Q v H')):WV K.K f vs H Q:=by
 obtain⟨p,e,q,qq⟩:=Ok.of h as;unfold sf at e;split at e
 ·rename_i p0;obtain⟨v,rfl,rv⟩:=AO rx;split at e
  ·rename_i x;cases (show v=.str x from rv);split at e;·rename_i hc;cases e;exact .inr (.inr ⟨x,rfl,by rw[<-dv];exact hc,q _ rfl⟩)
   ·cases e
  ·split at e
   ·rename_i o ho;cases e;obtain⟨n,a,rfl,hs,hm,rfl,ao,hd⟩:=uP as ho rv;refine .inl ⟨a,Hr o,rfl,?_,q _ rfl⟩;cases o with
    |lst xs=>cases hd|ins c fs=>cases hd|wm=>cases hd|dK kvs=>obtain⟨us,hu,rs⟩:=ao;exact .inl ⟨us,.inl hu,rs.length⟩
    |dT kvs=>obtain⟨us,hu,rs⟩:=ao;exact .inr ⟨us,.inl hu,rs.length⟩
   ·obtain⟨xs,e1,rfl⟩:=iw e;obtain⟨a,us,rfl,hq,rs⟩:=jM as e1 rv;refine .inr (.inl ⟨a,us,rfl,HD hq,?_⟩);rw[rs.length];exact q _ rfl
 ·obtain⟨v,rfl,rv⟩:=AO rx;obtain⟨xs,e1,e⟩:=dc e;obtain⟨bs,e2,rfl⟩:=iw e;obtain⟨a,us,rfl,hq,rs⟩:=ff as e1 rv;have:=AR rs e2;subst this;exact⟨a,bs,rfl,.inl hq,q _ rfl⟩
 ·obtain⟨v,rfl,rv⟩:=AO rx;obtain⟨xs,e1,e⟩:=dc e;obtain⟨ys,e2,rfl⟩:=iw e;obtain⟨a,us,rfl,hq,rs⟩:=jM as e1 rv;have rr:=rs.br e2;rcases hq with hq|hq;·exact⟨a,us,rfl,.inl ⟨hq,λl hl=>sY (α:=Unit) as rr hl qq⟩⟩
  ·exact⟨a,us,rfl,.inr ⟨fS.of hq,q ?QT ⟨a,us,rfl,hq,rr⟩⟩⟩
 ·cases e
theorem WW(T:Good X kt g C)(hg:g.gl (yP f)=Λ)(hs:∀y∈x::xs,notStar y=Λ)(h:PA X (x::xs) (tA ?B Z (aC C cj))):
  PE X (.Call (.Name (yP f) p) (x::xs) [] pos) (tE ?B Z (ae C (.bf f cj))):=by
 have red:∀σ H Q,tE ?B Z (ae C (.bf f cj)) σ H Q->VH (WV X.K f) (tA ?B Z (aC C cj)) σ H Q:=by rintro σ H Q ⟨m,ρ,st,ar,as,h⟩;rw[bT] at h;exact⟨m,ρ,st,ar,as,(Ok.bind h).mono λqs st1 m1 H1 bU bg h1 vs jc=>Sd bg jc h1⟩
 have s1:=bI (env:=X.env) (es:=xs) (hs x Yk);have s2:(aax pos (YX xs X.env)).any (·.1)=Ξ:=gu λz hz=>hs z (Yi _ hz);have hc:=KC (X:=X) T.calm f;cases f with|len=>exact PE.imp (tV (id:="len") hc (T.glob hg) (T.bl _ ?K) PySem.boot_len h ?K ?K s1 s2) red|any=>exact PE.imp (tV (id:="any") hc (T.glob hg) (T.bl _ ?K) boot_any h ?K ?K s1 s2) red|tuple=>exact PE.imp (jF (T:="tuple") hc (T.glob hg) (T.bl _ ?K) boot_tuple h ?K ?K s1 s2) red
theorem Oq:PE X (.Dict [] [] pos) (tE ?B Z (ae C (.qc t))):=by
 have red:∀(ho:HO) (ob:O),(∀H m Z a,H a=Δ ho->sk ?B H m Z a ob)->∀(σ:L2.St) (H:Hp) (Q:VK) m ρ st,cA ?B H m Z ρ σ->aA ?B H m Z st->
   Ok ?B Z (R.ok (P.obj ?O) (st++[ob])) m H (λp _ m' H'=>∀v,aj ?B H' m' Z p v->Q v H')->∀p,H p=Θ->Q (.ref p) (upd H p ho):=by
  intro ho ob Ot σ H Q m ρ st ar as h p hp;have hz:p∉Z:=(as.fresh hp).2;refine h (m++[p]) (upd H p ho) ((Le.same (bp hp _)).grow hp) ((as.laid hp ho (λφ z=>(Ot (upd H p ho) m Z p aD).rU.2.2.2.1 φ (by rw[aD,z]))).uG hz (Ot _ _ _ _ aD)) (.ref p) ⟨p,?_,rfl⟩;rw[YH (by rw[as.len];exact Yt _),as.len];simp
 cases t with
 |false=>refine PE.imp GP ?_;rintro σ H Q ⟨m,ρ,st,ar,as,h⟩;rw[iI] at h;exact red (.dK []) (.dK []) (λH m Z a e=>⟨[],e,rfl⟩) σ H Q m ρ st ar as h
 |true=>refine PE.imp GQ ?_;rintro σ H Q ⟨m,ρ,st,ar,as,h⟩;rw[iI] at h;exact red (.dT []) (.dT []) (λH m Z a e=>⟨[],e,rfl⟩) σ H Q m ρ st ar as h
theorem PE.or(h1:PE X e t1)(h2:PE X e t2):PE X e (λσ H Q=>t1 σ H Q\/t2 σ H Q):=λη s σ H Q I h=>h.elim (h1 η s σ H Q I) (h2 η s σ H Q I)
theorem Ou(T:Good X kt g C)(hk:DP g k kx=Λ)(hv:AJ x vx=Λ):PE X (.Dict [Δ kx] [vx] pos) (tE ?B Z (ae C (.Fc k x))):=by
 obtain⟨v,pv,rv⟩:=HC (X:=X) hv;obtain⟨tk,pk,rk⟩:=Kn (Z:=Z) T hk;refine PE.imp (PE.or (J1 (Ae pk pv DD) rfl rfl ?E ?E) (Hm (by have:=T.hu;lia) pk pv)) ?_;rintro σ H Q ⟨m,ρ,st,ar,as,h⟩;rw[uj] at h;rcases rk (st:=st) ar with e|⟨y,u,e,ru,q⟩;·rw[e] at h;exact h.elim
 rw[e,aa] at h;obtain⟨o,eo,h2,dX⟩:=Ok.of (Ok.bind h) as;clear dX;unfold Kj at eo;cases RO:keyOf y with
 |some kk=>rw[RO] at eo;cases eo;cases ru.key RO;refine .inl λp hp=>q _ _ ⟨aD,[(kk,v)],rfl,by simp,?_⟩;rw[Ds];have hz:p∉Z:=(as.fresh hp).2;have ho:upd H p (.dK (p8 [] [(kk,v)]))=upd H p (.dK [(kk,v)]):=rfl;rw[ho];refine h2 (m++[p]) (upd H p (.dK [(kk,v)])) ((Le.same (bp hp _)).grow hp) ((as.laid hp (HO.dK [(kk,v)]) (λφ z=>nomatch z)).uG hz ⟨[(kk,v)],aD,v,[],rfl,rv _ _ _ _,rfl⟩) (.ref p) ⟨p,?_,rfl⟩;rw[YH (by rw[as.len];exact Yt _),as.len];simp|none=>
  rw[RO] at eo;obtain⟨kk,E3,rfl⟩:=iw (show(nu y).map (λk=>O.dT [(k,P.d x)])=Δ o from eo);obtain⟨b,rfl,hb⟩:=ru.nu E3;refine .inr λp hp=>q _ _ ⟨aD,kk,b,rfl,?_,?_⟩;·rw[ax (λz=>by rw[z,hp] at hb;cases hb)];exact hb
  rw[Ds];have hz:p∉Z:=(as.fresh hp).2;refine h2 (m++[p]) (upd H p (.dT [(kk,v)])) ((Le.same (bp hp _)).grow hp) ((as.laid hp (HO.dT [(kk,v)]) (λφ z=>nomatch z)).uG hz ⟨[(kk,v)],aD,v,[],rfl,rv _ _ _ _,rfl⟩) (.ref p) ⟨p,?_,rfl⟩;rw[YH (by rw[as.len];exact Yt _),as.len];simp
theorem uR(h:isCall o=Ξ):aa0 o n env w=w:=by
 cases o with
 |Call f xs ks p=>
  cases f with
  |Name x q=>
   cases xs with
   |nil=>cases ks with|nil=>exact absurd (show Λ=Ξ from h) Zh.symm|cons _ _=>rfl
   |cons _ _=>rfl
  |_=>rfl
 |_=>rfl
theorem HL{K:KB}(ao:sk K H m Z a o)(hd:jI o=Λ):Um H a:=by cases o with|lst xs=>cases hd|ins c fs=>cases hd|wm=>cases hd|dK kvs=>obtain⟨us,hu,_⟩:=ao;exact .inl ⟨us,.inl hu⟩|dT kvs=>obtain⟨us,hu,_⟩:=ao;exact .inr ⟨us,.inl hu⟩
noncomputable def WalksU(K:KB)(J:It)(us:List V)(m:List Addr)(H:Hp):Prop:=
 ∀m2 H2,Le K m H m2 H2->∀i:Nat,(i < us.length->J.go i H2/\∀x H3,J.QJ i H2 x H3->H3=H2/\us[i]?=Δ x)/\(us.length<=i->J.stop i H2)
def Walks(K:KB)(Z:List Addr)(J:It)(ps:List P)(m:List Addr)(H:Hp):Prop:=
 ∀m2 H2 Z2,Le K m H m2 H2->(∀a∈Z2,a∈Z\/H a=Θ)->∀i:Nat,(∀p,ps[i]?=Δ p->J.go i H2/\∀x H3,J.QJ i H2 x H3->kQ H2 H3/\aj K H3 m2 Z2 p x)/\(i=?S->J.stop i H2)
inductive tW (K:KB) (Z:List Addr) (d:bS->aK->R (List P)) (σ:L2.St) (H:Hp) (S:It->Hp->Prop):Prop
 |mk (m:List Addr) (r:bS) (st:aK) (a:cA K H m Z r σ) (b:aA K H m Z st) (c:Ok K Z (d r st) m H (λps _ m' H'=>∀J,Walks K Z J ps m' H'->S J H')):tW K Z d σ H S
mutual
theorem aH.jN{K:KB}{H:Hp}{m Z Z2:List Addr}(hz:∀a∈Z2,a∈Z\/H a=Θ):∀{x:D} {v:V},aH K H m Z x v->aH K H m Z2 x v
 |.bC,_,h=>h|.bl _,_,h=>h|.int _,_,h=>h|.str _,_,h=>h|.tup xs,v,h=>by obtain⟨a,us,e,q,r⟩:=?Qw;exact⟨a,us,e,q,av.jN hz r⟩
 |.pl xs,v,h=>by
  obtain⟨a,us,e,q,hm,hn,r⟩:=?Qj;refine⟨a,us,e,q,hm,λz=>?_,av.jN hz r⟩;rcases hz a z with y|y;·exact hn y
  ·exact Hz q y
theorem av.jN{K:KB}{H:Hp}{m Z Z2:List Addr}(hz:∀a∈Z2,a∈Z\/H a=Θ):∀{xs:List D} {us:List V},av K H m Z xs us->av K H m Z2 xs us
 |[],_,h=>h|x::xs,us,h=>by obtain⟨v,vs,e,r,rs⟩:=?Qd;exact⟨v,vs,e,aH.jN hz r,av.jN hz rs⟩
end
mutual
theorem aj.jN{K:KB}{H:Hp}{m Z Z2:List Addr}(hz:∀a∈Z2,a∈Z\/H a=Θ):∀{x:P} {v:V},aj K H m Z x v->aj K H m Z2 x v
 |.d _,_,h=>by rw[aj] at h ⊢;exact aH.jN hz h|.obj _,_,h=>by rw[aj] at h ⊢;exact h|.ik _,_,h=>by rw[aj] at h ⊢;exact h|.fn k bA,v,h=>by rw[aj] at h ⊢;obtain⟨a,c,b7,e,q,hc,r⟩:=h;exact⟨a,c,b7,e,q,hc,ai.jN hz r⟩
 |.lf k,v,h=>by rw[aj] at h ⊢;exact h
theorem ai.jN{K:KB}{H:Hp}{m Z Z2:List Addr}(hz:∀a∈Z2,a∈Z\/H a=Θ):∀{xs:List P} {us:List V},ai K H m Z xs us->ai K H m Z2 xs us
 |[],_,h=>h|x::xs,us,h=>by rw[ai] at h ⊢;obtain⟨v,vs,e,r,rs⟩:=h;exact⟨v,vs,e,aj.jN hz r,ai.jN hz rs⟩
end
theorem WalksU.walks{K:KB}(w:WalksU K J us m H)(r:ai K H m Z ps us):Walks K Z J ps m H:=by intro m2 H2 Z2 le hz i;obtain⟨w1,w2⟩:=w m2 H2 le i;refine⟨λp hp=>?_,λh=>w2 (by rw[r.length];exact acx h.symm)⟩;obtain⟨v,hv,rv⟩:=r.get hp;obtain⟨go,yl⟩:=w1 (qqz hv).1;refine⟨go,λx H3 hy=>?_⟩;obtain⟨rfl,hx⟩:=yl x H3 hy;rw[hv] at hx;cases hx;exact⟨λ_ _ e=>e,(rv.jN hz).le le⟩
theorem PI.imp(h:PI X tg iter t)(i:∀σ H Q,t' σ H Q->t σ H Q):PI X tg iter t':=λη s σ H Q I q=>h η s σ H Q I (i σ H Q q)
theorem KD{K:KB}(h:H a=Δ (.tup us)):WalksU K (Vw K.K a) us m H:=λm2 H2 le i=>by have h2:fS K.K H2 a us:=fS.of (le.tup _ _ h);refine⟨λhi=>⟨⟨us,us[i],h2,by simp[hi]⟩,λx H3 ⟨e,y⟩=>⟨e,y us h2⟩⟩,λhi=>⟨us,h2,hi⟩⟩
theorem KE{K:KB}(h:Rd H a ?QY)(hm:a∉m):WalksU K (Vv K.K a) us m H:=λm2 H2 le i=>by have h2:mB K.K H2 a us:=.inl (le.rd h hm);refine⟨λhi=>⟨⟨us,us[i],h2,by simp[hi]⟩,λx H3 ⟨e,y⟩=>⟨e,y us h2⟩⟩,λhi=>⟨us,h2,hi⟩⟩
theorem DZ{K:KB}{lo hi:Int}:WalksU K (MZ lo (hi - lo).toNat) ((Yh (hi - lo).toNat).map λk=>V.int (lo+(k:Nat))) m H:=λm2 H2 le i=>by
 refine⟨λh=>⟨by show i < (hi - lo).toNat;rw[Yr,YN] at h;exact h,λx H3 ⟨e,y⟩=>⟨e,?_⟩⟩,λh=>by show(hi - lo).toNat<=i;rw[Yr,YN] at h;exact h⟩;have h':i < (hi - lo).toNat:=by rw[Yr,YN] at h;exact h
 rw[Ys,Zb h',y];rfl
theorem tm{K:KB}lo:∀l:List Nat,ai K H m Z (l.map λk=>P.d (.int (lo+(k:Nat)))) (l.map λk=>V.int (lo+(k:Nat)))
 |[]=>rfl|k::l=>⟨_,_,rfl,rfl,tm lo l⟩
theorem Se(ha:PE X x (tE ?B Z (ae C a))):PI X tg x (tW ?B Z (bM C (.ex a))):=by
 intro η s σ H S I h;obtain⟨m,ρ,st,ar,as,h0⟩:=h;rw[ur] at h0;cases hr:ae C a ρ st with
 |ex x s=>rw[hr] at h0;exact(show False from h0).elim|no=>rw[hr] at h0;exact(show False from h0).elim|ok y st1=>
  rw[hr] at h0;simp only[aa] at h0;unfold ny at h0;split at h0;·rename_i xs;refine M0 ha η s σ H S I ⟨m,ρ,st,ar,as,?_⟩;rw[hr];intro m1 H1 bU bg v rv;obtain⟨b,us,rfl,hq,rs⟩:=rv;exact⟨b,rfl,⟨us,fS.of hq⟩,h0 m1 H1 bU bg _ ((KD hq).walks rs.map)⟩
  ·rename_i xs;refine sM ha η s σ H S I ⟨m,ρ,st,ar,as,?_⟩;rw[hr];intro m1 H1 bU bg v rv;obtain⟨b,us,rfl,hq,hm,_,rs⟩:=rv;exact⟨b,rfl,⟨us,.inl hq⟩,h0 m1 H1 bU bg _ ((KE hq hm).walks rs.map)⟩
  ·exact(show False from h0).elim
theorem Ov(T:Good X kt g C)(hg:g.gl "range"=Λ)(aL:iu g cj xs=Λ)(h:PA X xs (tA ?B Z (aC C cj))):PI X tg (.Call (.Name "range" p) xs [] pos) (tW ?B Z (bM C (.fR cj))):=by
 intro η s σ H S I h1;obtain⟨m,ρ,st,ar,as,h0⟩:=h1;rw[xw] at h0;cases hr:aC C cj ρ st with
 |ex x s=>rw[hr] at h0;exact(show False from h0).elim|no=>rw[hr] at h0;exact(show False from h0).elim|ok ps st1=>
  rw[hr] at h0;simp only[aa] at h0;have hl:=gG aL;have xg:=gg hr;have qV:=cK aL;unfold si at h0;split at h0
  ·rename_i j
   match xs,hl,qV,h with
   |[x],_,qV,h=>
    split at h0;·rename_i hc;refine EG (T.glob hg) (T.bl _ ?K) h (bI (qV x Yk)) η s σ H S I ⟨m,ρ,st,ar,as,?_⟩;rw[hr];intro m1 H1 bU bg vs jc;obtain⟨v,rfl,rv⟩:=AO jc;cases (show v=.int j from rv);have q:=h0 m1 H1 bU bg (MZ 0 (j - 0).toNat) ((DZ (lo:=0) (hi:=j)).walks (tm 0 _));rw[Int.sub_zero] at q;exact⟨j,rfl,hc.1,hc.2,q⟩
    ·exact(show False from h0).elim
   |[],hl,_,_=>simp at hl;rw[<-hl] at xg;simp at xg|_::_::_,hl,_,_=>rw[<-xg] at hl;simp at hl
  ·rename_i i j
   match xs,hl,qV,h with
   |[x,y],_,qV,h=>
    split at h0;·rename_i hc;have sy:YX [y] X.env=[(Ξ,eval y X.env)]:=bI (qV y ?E);refine EH (T.glob hg) (T.bl _ ?K) h (by rw[bI (qV x Yk),sy]) sy η s σ H S I ⟨m,ρ,st,ar,as,?_⟩;rw[hr];intro m1 H1 bU bg vs jc;obtain⟨v,u,rfl,rv,ru⟩:=Oo jc;cases (show v=.int i from rv);cases (show u=.int j from ru);exact⟨i,j,rfl,hc,h0 m1 H1 bU bg (MZ i (j - i).toNat) ((DZ (lo:=i) (hi:=j)).walks (tm i _))⟩
    ·exact(show False from h0).elim
   |[],hl,_,_=>rw[<-xg] at hl;simp at hl|[_],hl,_,_=>rw[<-xg] at hl;simp at hl|_::_::_::_,hl,_,_=>rw[<-xg] at hl;simp at hl
  ·exact(show False from h0).elim
theorem AS:∀{xs} {k i:Nat} {p:P},(dS k xs)[i]?=Δ p->∃x,xs[i]?=Δ x/\p=.d (.tup [.int (k+i:Nat),x])
 |[],k,i,p,h=>by simp[dS] at h|x::xs,k,i,p,h=>by cases i with|zero=>simp[dS] at h;exact⟨x,rfl,by rw[<-h];simp⟩|succ i=>obtain⟨y,e1,e2⟩:=AS (xs:=xs) (k:=k+1) (i:=i) (by simpa[dS] using h);exact⟨y,by simpa using e1,by rw[e2];congr 4;lia⟩
theorem AU:∀{xs} {k},(dS k xs).length=?Q
 |[],_=>rfl|x::xs,k=>by simp[dS,AU (xs:=xs) (k:=k+1)]
theorem KG{K:KB}(ha:H a=Δ (.tup us))(r:av K H m Z xs us):Walks K Z (Wq K.K a) (dS 0 xs) m H:=by intro m2 H2 Z2 le hz i;have Ow:=le.tup _ _ ha;refine⟨λp hp=>?_,λh=>⟨us,fS.of Ow,by rw[AU] at h;rw[r.length];exact acx h.symm⟩⟩;obtain⟨x,hx,rfl⟩:=AS hp;obtain⟨v,hv,rv⟩:=r.map.get (i:=i) (p:=.d x) (by rw[Ys,hx];rfl);refine⟨⟨us,v,fS.of Ow,hv⟩,?_⟩;rintro y H3 ⟨T,v',hT,rfl,rfl,hy⟩;have e:=hy us (fS.of Ow);rw[hv] at e;cases e;have sm:kQ H2 (upd H2 T (.tup [.int (i:Nat),v])):=bp hT _;refine⟨sm,T,[.int (i:Nat),v],rfl,aD,_,_,rfl,?_,v,[],rfl,((aH.jN hz rv).le le).le (Le.same sm),rfl⟩;show V.int (i:Nat)=V.int ((0+i:Nat):Int);rw[Y2]
theorem KH(T:Good X kt g C)(hg:g.gl "enumerate"=Λ)(ha:PE X x (tE ?B Z (ae C a)))(hs:notStar x=Λ):
  PI X (.Tuple elts kk p3) (.Call (.Name "enumerate" p) [x] [] pos) (tW ?B Z (bM C (.enum a))):=by
 refine PI.imp (G7 (T.glob hg) (T.bl _ ?K) (lF ha uQ hs) (bI hs)) ?_;rintro σ H S ⟨m,ρ,st,ar,as,h0⟩;rw[CN] at h0;refine⟨m,ρ,st,ar,as,?_⟩;show Ok ?B Z (aC C [a] ρ st) m H _;simp only[ak,az];cases hr:ae C a ρ st with
 |ex x s=>rw[hr] at h0;exact(show False from h0).elim|no=>rw[hr] at h0;exact(show False from h0).elim|ok y st1=>
  rw[hr] at h0;simp only[aa] at h0 ⊢;intro m1 H1 bU bg vs jc;obtain⟨v,rfl,rv⟩:=AO jc;split at h0;·rename_i xs;obtain⟨b,us,rfl,hq,rs⟩:=rv;exact⟨b,rfl,⟨us,fS.of hq⟩,h0 m1 H1 bU bg _ (KG hq rs)⟩
  ·exact(show False from h0).elim
theorem Ox(T:Good X kt g C){p pos p2 Kd:Pos}(hg:g.gl "range"=Λ)(Ky:g.gl "list"=Λ)(aL:iu g cj xs=Λ)(h:PA X xs (tA ?B Z (aC C cj))):
  PE X (.Call (.Name "list" p2) [.Call (.Name "range" p) xs [] pos] [] Kd) (tL ?B Z (aS C (.fR cj))):=by
 have qV:=cK aL;have hl:=gG aL;cases xs with
 |nil=>rintro η s σ H Q I ⟨m,ρ,st,ar,as,h0⟩;cases cj with|nil=>exact(show False from h0).elim|cons a b=>simp at hl
 |cons x xs=>
  have s1:=bI (env:=X.env) (es:=xs) (qV x Yk);have s2:(aax pos (YX xs X.env)).any (·.1)=Ξ:=gu λz hz=>qV z (Yi _ hz);refine PE.imp (jF (v8 T.calm) (T.glob Ky) (T.bl _ ?K) adu (sO (jF Ai (T.glob hg) (T.bl _ ?K) boot_range h ?K ?K s1 s2) Cb) ?K ?K rfl rfl) ?_;rintro σ H Q ⟨m,ρ,st,ar,as,h0⟩;refine⟨m,ρ,st,ar,as,?_⟩;rw[xt] at h0;cases hr:aC C cj ρ st with
  |ex x s=>rw[hr] at h0;exact(show False from h0).elim|no=>rw[hr] at h0;exact(show False from h0).elim|ok ps st1=>
   rw[hr] at h0;simp only[aa] at h0;intro m1 H1 bU bg vs jc;have fin:∀lo hi:Int,(-nr<=lo/\lo < nr/\ -nr<=hi/\hi < nr)->LQ ?B Z (R.bind (R.of (Δ (Hu lo hi)) st1) λqs st2=>if qs.length<=aq then R.ok qs st2 else R.no) m H Q->∀q,H1 q=Θ->
     ∃p Qb xf,[V.ref q]=[.ref p]/\upd H1 q (.fR lo hi) p=Δ (.fR Qb xf)/\(-(2 ^ 62)<=Qb/\Qb < 2 ^ 62/\ -(2 ^ 62)<=xf/\xf < 2 ^ 62)/\(xf - Qb).toNat<=YQ/\∀l,upd H1 q (.fR lo hi) l=Θ->Q (.ref l) (upd (upd H1 q (.fR lo hi)) l (.lst (Cs Qb (xf - Qb).toNat))):=by
    intro lo hi hb hQ q hq;simp only[au,aa] at hQ;split at hQ
    ·rename_i hc;refine⟨q,lo,hi,rfl,aD,hb,?_,λl hl=>?_⟩;·unfold Hu at hc;rw[Yr,YN] at hc;rw[<-dv];exact hc
     ·have fj:Le ?B m1 H1 m1 (upd H1 q (.fR lo hi)):=Le.same (bp hq _);exact oT (bU.trans fj) (bg.same (bp hq _)) (tm lo _) hl hQ
    ·exact hQ.elim
   cases hp:si ps with
   |none=>rw[hp] at h0;exact(show False from h0).elim|some qs=>
    rw[hp] at h0;unfold si at hp;split at hp
    ·rename_i j;split at hp;·rename_i hc;cases hp;obtain⟨v,rfl,rv⟩:=AO jc;cases (show v=.int j from rv);exact⟨0,j,.inr ⟨rfl,rfl⟩,fin 0 j ⟨by unfold nr;lia,by unfold nr;lia,hc.1,hc.2⟩ h0⟩
     ·cases hp
    ·rename_i i j;split at hp;·rename_i hc;cases hp;obtain⟨v,u,rfl,rv,ru⟩:=Oo jc;cases (show v=.int i from rv);cases (show u=.int j from ru);exact⟨i,j,.inl rfl,fin i j hc h0⟩
     ·cases hp
    ·cases hp
theorem ai.of_get{K:KB}:∀{ps} {ts},ts.length=?S->(∀(j:Nat) p t,ps[j]?=Δ p->ts[j]?=Δ t->aj K H m Z p t)->ai K H m Z ps ts
 |[],ts,hl,_=>by cases ts with|nil=>rfl|cons t ts=>simp at hl
 |p::ps,ts,hl,h=>by cases ts with|nil=>simp at hl|cons t ts=>exact⟨t,ts,rfl,h 0 p t rfl rfl,ai.of_get (by simpa using hl) λj p' t' e e'=>h (j+1) p' t' (by simpa using e) (by simpa using e')⟩
theorem av.get{K:KB}{j:Nat}(h:av K H m Z xs us)(e:xs[j]?=Δ x)(e':us[j]?=Δ u):aH K H m Z x u:=by obtain⟨v,ev,rv⟩:=h.map.get (i:=j) (p:=.d x) (by rw[Ys,e];rfl);rw[e'] at ev;cases ev;exact rv
theorem Oy(T:Good X kt g C){p pos p2 Kd:Pos}(hg:g.gl "zip"=Λ)(Ky:g.gl "list"=Λ)(ha:PE X x1 (tE ?B Z (ae C a)))(h1:notStar x1=Λ)(hb:PE X x2 (tE ?B Z (ae C b)))(h2:notStar x2=Λ):
  PE X (.Call (.Name "list" p2) [.Call (.Name "zip" p) [x1,x2] [] pos] [] Kd) (tL ?B Z (aS C (.zip a b))):=by
 refine PE.imp (An T.calm (T.glob Ky) (T.bl _ ?K) (T.glob hg) (T.bl _ ?K) (lF ha (lF hb uQ h2) h1) (bI h1) (gu λz hz=>?_)) ?_
 ·have:z=x2:=by simpa using hz
  rw[this];exact h2
 rintro σ H Q ⟨m,ρ,st,ar,as,h0⟩;refine⟨m,ρ,st,ar,as,?_⟩;rw[xu] at h0;simp only[ak,az];cases hr:ae C a ρ st with
 |ex x s=>rw[hr] at h0;exact(show False from h0).elim|no=>rw[hr] at h0;exact(show False from h0).elim|ok x st1=>
  rw[hr] at h0;simp only[aa] at h0 ⊢;cases WX:ae C b ρ st1 with
  |ex x s=>rw[WX] at h0;exact(show False from h0).elim|no=>rw[WX] at h0;exact(show False from h0).elim|ok y st2=>
   rw[WX] at h0;simp only[aa] at h0 ⊢;intro m1 H1 bU bg vs jc;obtain⟨v,u,rfl,rv,ru⟩:=Oo jc;unfold Fg at h0;split at h0
   ·rename_i xs ys;obtain⟨va,us,rfl,hva,rx⟩:=rv;obtain⟨vb,ws,rfl,hvb,ry⟩:=ru;refine⟨va,vb,us,ws,rfl,fS.of hva,fS.of hvb,λl H' ts sm hl oG hp=>?_⟩;simp only[au,aa] at h0;have fj:Le ?B m1 H1 m1 H':=Le.same sm;refine h0 m1 H' l ts (bU.trans fj) (bU.DX hl) (bg.fresh hl).1 oG (bg.RW hl sm (by rw[bz oG (λ_ z=>nomatch z)];exact λz=>nomatch z)) (ai.of_get ?_ λj p t e e'=>?_);·rw[hp.1,Yr,Yr,acr,rx.length,ry.length]
    ·obtain⟨Tt,u,w',rfl,e1,e2,e3⟩:=hp.2 j t e';rw[Ys,Ys] at e;cases hz:(xs.zip ys)[j]? with
     |none=>rw[hz] at e;cases e|some q=>
      rw[hz] at e;have e9:P.d (D.tup [q.1,q.2])=p:=by simpa using e
      subst e9;obtain⟨q1,q2⟩:=List.getElem?_zip_eq_some.mp hz;have r1:=(aH.lB hl (rx.get q1 e2)).le fj;have r2:=(aH.lB hl (ry.get q2 e3)).le fj;exact⟨Tt,[u,w'],rfl,e1,u,[w'],rfl,r1,w',[],rfl,r2,rfl⟩
   ·exact(show False from h0).elim
end
section
variable{K:KB}{H H':Hp}{m Z:List Addr}
mutual
theorem aH.congr(ht:∀a us,H a=Δ (.tup us)->H' a=Δ (.tup us))(hl:∀a us,a∉m->a∉Z->Rd H a ?QY->Rd H' a ?QY):∀{x:D} {v:V},aH K H m Z x v->aH K H' m Z x v
 |.bC,_,h=>h|.bl _,_,h=>h|.int _,_,h=>h|.str _,_,h=>h|.tup xs,v,h=>by obtain⟨a,us,e,q,r⟩:=?Qw;exact⟨a,us,e,ht _ _ q,av.congr ht hl r⟩
 |.pl xs,v,h=>by obtain⟨a,us,e,q,hm,hz,r⟩:=?Qj;exact⟨a,us,e,hl _ _ hm hz q,hm,hz,av.congr ht hl r⟩
theorem av.congr(ht:∀a us,H a=Δ (.tup us)->H' a=Δ (.tup us))(hl:∀a us,a∉m->a∉Z->Rd H a ?QY->Rd H' a ?QY):∀{xs:List D} {us:List V},av K H m Z xs us->av K H' m Z xs us
 |[],_,h=>h|x::xs,us,h=>by obtain⟨v,vs,e,r,rs⟩:=?Qd;exact⟨v,vs,e,aH.congr ht hl r,av.congr ht hl rs⟩
end
mutual
theorem aj.congr(ht:∀a us,H a=Δ (.tup us)->H' a=Δ (.tup us))(hl:∀a us,a∉m->a∉Z->Rd H a ?QY->Rd H' a ?QY)(hf:∀a o u,H a=Δ (.dA o u)->H' a=Δ (.dA o u))(hx:∀a φ,H a=Δ ?QQ->H' a=Δ ?QQ):∀{x:P} {v:V},aj K H m Z x v->aj K H' m Z x v
 |.d _,_,h=>by rw[aj] at h ⊢;exact aH.congr ht hl h|.obj _,_,h=>by rw[aj] at h ⊢;exact h|.ik ns,v,h=>by
  rw[aj] at h ⊢;obtain⟨a,e,r⟩:=h;refine⟨a,e,?_⟩;rcases r with ⟨o,r⟩|r
  ·exact .inl ⟨o,hf _ _ _ r⟩
  ·exact .inr r
 |.fn k bA,v,h=>by rw[aj] at h ⊢;obtain⟨a,c,b7,e,q,hc,r⟩:=h;exact⟨a,c,b7,e,q,hx _ _ hc,ai.congr ht hl hf hx r⟩|.lf k,v,h=>by rw[aj] at h ⊢;obtain⟨a,c,ct,e,q,r⟩:=h;exact⟨a,c,ct,e,hx _ _ q,hx _ _ r⟩
theorem ai.congr(ht:∀a us,H a=Δ (.tup us)->H' a=Δ (.tup us))(hl:∀a us,a∉m->a∉Z->Rd H a ?QY->Rd H' a ?QY)(hf:∀a o u,H a=Δ (.dA o u)->H' a=Δ (.dA o u))(hx:∀a φ,H a=Δ ?QQ->H' a=Δ ?QQ):∀{xs:List P} {us:List V},ai K H m Z xs us->ai K H' m Z xs us
 |[],_,h=>h|x::xs,us,h=>by rw[ai] at h ⊢;obtain⟨v,vs,e,r,rs⟩:=h;exact⟨v,vs,e,aj.congr ht hl hf hx r,ai.congr ht hl hf hx rs⟩
end
theorem oU(ha:H a=Δ (.lst ys)):∀b φ,H b=Δ ?QQ->upd H a o b=Δ ?QQ:=λb φ h=>by
 have hb:b≠a:=λz=>by rw[z,ha] at h;cases h
 rw[ax hb];exact h
theorem tp(ha:H a=Δ (.lst ys)):∀b us,H b=Δ (.tup us)->upd H a o b=Δ (.tup us):=λb us h=>by
 have hb:b≠a:=λz=>by rw[z,ha] at h;cases h
 rw[ax hb];exact h
theorem tq(ha:H a=Δ (.lst ys)):∀b o' u,H b=Δ (.dA o' u)->upd H a o b=Δ (.dA o' u):=λb o' u h=>by
 have hb:b≠a:=λz=>by rw[z,ha] at h;cases h
 rw[ax hb];exact h
theorem CZ(hb:b≠a)(h:Rd H b ?QY):Rd (upd H a o) b ?QY:=by
 rcases h with h|⟨o',h⟩;·exact .inl (by rw[ax hb];exact h)
 ·exact .inr ⟨o',by rw[ax hb];exact h⟩
theorem aA.Sf{st:aK}(A:aA K H m (a::Z) st)(ha:H a=Δ (.lst ys)):aA K (upd H a (.lst zs)) m (a::Z) st:=by
 refine⟨A.len,A.nd,λn o h=>?_,λb hb=>?_,A.zm,λt ht=>?_⟩
 ·obtain⟨c,q,r⟩:=A.at_ n o h;have hc:c≠a:=λz=>A.zm a Yk (by rw[<-z];exact Yz q);exact⟨c,q,r.mono (λb u hb hu=>by
   rw[ax (λz=>by
    rcases hb with w1|w1;·exact hc (w1▸z)
    ·rw[z,ha] at w1;cases w1)]
   exact hu) λp v z=>z.congr (tp ha) (λb us _ hz h=>CZ (λz=>hz (by rw[z];exact Yk)) h) (tq ha) (oU ha)⟩
 ·exact ma (o:=.lst zs) (λ_ z=>nomatch z) (A.zt b hb)
 ·obtain⟨ps,h1,h2⟩:=A.tab t ht;exact⟨ps,by rw[ax (λz=>by rw[z,ha] at h1;cases h1)];exact h1,fV.same (oU ha) h2⟩
theorem Le.Sg{H1:Hp}{m1:List Addr}{a:Addr}{ys zs:List V}(le:Le K m1 H1 m H)(h1:H1 a=Θ)(ha:H a=Δ (.lst ys)):Le K m1 H1 m (upd H a (.lst zs)) where
 pre:=le.pre
 tup:=λb xs h=>tp ha b xs (le.tup b xs h)
 keep:=λb u h hb hu=>by rw[ax (aN h h1)];exact le.keep b u h hb hu
 ext:=λb φ h=>oU ha b φ (le.ext b φ h)
 DM:=λb h=>ma (o:=.lst zs) (λ_ z=>nomatch z) (le.DM b h)
 fO:=λb ps h=>by obtain⟨more,e⟩:=le.fO b ps h;exact⟨more,by rw[ax (λz=>by rw[z,ha] at e;cases e)];exact e⟩
 new:=le.new
 rU:=λb h=>by
  by_cases N1:b=a;·rw[N1,aD];exact λz=>nomatch z
  ·rw[ax N1];exact le.rU b h
 dA:=λb o u h=>tq ha b o u (le.dA b o u h)
end
section
variable{X:Cx}{g:G}{C:Nat->List P->aK->R P}{Z:List Addr}{e:Expr}{es:List Expr}
theorem GU.imp(h:GU X ifs t)(i:∀σ H Q,t' σ H Q->t σ H Q):GU X ifs t':=λη s σ H Q I q=>h η s σ H Q I (i σ H Q q)
noncomputable def Oz(K:KB)(d:bS->aK->R Bool):TT:=λσ H Q=>∃Z,tT K Z d σ H Q
noncomputable def Sh(K:KB)(d:bS->aK->R P):TE:=λσ H Q=>∃Z,tE K Z d σ H Q
theorem Fq:GU X [] (Oz ?B (be C Θ)):=by refine GU.imp J3 ?_;rintro σ H Q ⟨Z,m,ρ,st,ar,as,h⟩;rw[nB] at h;exact Ok.here h as
theorem Ft(h:∀Z,PT X c (tT ?B Z (bY (ae C ec)))):GU X [c] (Oz ?B (be C (Δ ec))):=by refine J4 λη s σ H Q I q=>?_;obtain⟨Z,q⟩:=q;refine h Z η s σ H Q I ?_;obtain⟨m,ρ,st,ar,as,h⟩:=q;rw[ku] at h;exact⟨m,ρ,st,ar,as,h⟩
theorem Fu(h:∀Z,PE X x (tE ?B Z d)):PE X x (Sh ?B d):=λη s σ H Q I ⟨Z,q⟩=>h Z η s σ H Q I q
theorem uS{K:KB}(ar:cA K H m Z r σ)(fi:H acc=Θ)(le:Le K m H m2 H2):cA K H2 m2 (acc::Z) (bu js r) (js.map λj=>(σ[j]?).join):=by
 refine⟨by unfold bu;simp,λi q h=>?_⟩;unfold bu at h;rw[Ys] at h;cases ej:js[i]? with
 |none=>rw[ej] at h;cases h|some j=>
  rw[ej] at h;have h2:(r[j]?).join=Δ q:=by simpa using h
  have h3:r[j]?=Δ (Δ q):=by cases e:r[j]? with|none=>rw[e] at h2;cases h2|some o=>rw[e] at h2;simp at h2;rw[h2]
  obtain⟨w',e1,r1⟩:=ar.at_ j q h3;refine⟨w',?_,(r1.lB fi).le le⟩;rw[Ys,ej];simp[e1]
theorem cA.cons{K:KB}(ar:cA K H m Z r σ)(rp:aj K H m Z p v):cA K H m Z (Δ p::r) (Δ v::σ):=by refine⟨by simp[ar.len],λi q h=>?_⟩;cases i with|zero=>simp at h;subst h;exact⟨v,by simp,rp⟩|succ i=>exact ar.at_ i q (by simpa using h)
theorem Fv{K:KB}(ar:cA K H m Z r σ)(fi:H acc=Θ)(le:Le K m H m2 H2)(rp:aj K H2 m2 (acc::Z) p v):
  cA K H2 m2 (acc::Z) (Δ p::bu js r) (Δ v::js.map λj=>(σ[j]?).join):=(uS ar fi le).cons rp
theorem xH{gB:P->bS}(OA:∀(p:P) (v:V) (m:List Addr) (H:Hp) (Z:List Addr) (us fr:L2.St) (rb:bS) (Q':L2.St->Hp->Prop),okp p=Λ->aj ?B H m Z p v->cA ?B H m Z rb fr->us.length=ts->
   (∀KJ:L2.St,KJ.length=ts->cA ?B H m Z (gB p++rb) (KJ++fr)->Q' (KJ++fr) H)->gt v (us++fr) H Q')(h:tL ?B Z (λr st=>(bM C w r st).bind λps st1=>if ps.all okp=Λ/\?S<=aq then cn (λp=>gB p++bu js r) (be C c) (λr' aJ=>ae C ee r' aJ) ps st1 else .no) σ H Q):
  xc (tW ?B Z (bM C w)) gt (Oz ?B (be C c)) (Sh ?B (ae C ee)) ts js σ H Q:=by
 obtain⟨m0,r,bG,ar,WY,h⟩:=h;refine⟨m0,r,bG,ar,WY,?_⟩;cases hw:bM C w r bG with
 |ex x s=>rw[hw] at h;exact(show False from h).elim|no=>rw[hw] at h;exact(show False from h).elim|ok ps st1=>
  rw[hw] at h;simp only[aa] at h;split at h
  ·rename_i hlen;obtain⟨Ck,hlen⟩:=hlen;intro m1 H1 bU bg J wk acc fi
   let G':P->bS:=λp=>gB p++bu js r
   let K':=af X kt
   let fr:L2.St:=js.map λj=>(σ[j]?).join
   let CK:Nat->List P->aK->Prop:=λi qs st=>match cn G' (be C c) (λr' aJ=>ae C ee r' aJ) (ps.drop i) st with|.ok rest aJ=>LQ ?B Z (.ok (qs++rest) aJ) m0 H Q|_=>False
   have UH:CK 0 [] st1:=by show(match cn G' (be C c) (λr' aJ=>ae C ee r' aJ) (ps.drop 0) st1 with|.ok rest aJ=>LQ ?B Z (.ok ([]++rest) aJ) m0 H Q|_=>False);rw[abt];cases hc:cn G' (be C c) (λr' aJ=>ae C ee r' aJ) ps st1 with|ok rest aJ=>have h':LQ ?B Z (cn G' (be C c) (λr' aJ=>ae C ee r' aJ) ps st1) m0 H Q:=h;rw[hc] at h';exact h'|ex x s=>have h':LQ ?B Z (cn G' (be C c) (λr' aJ=>ae C ee r' aJ) ps st1) m0 H Q:=h;rw[hc] at h';exact h'|no=>have h':LQ ?B Z (cn G' (be C c) (λr' aJ=>ae C ee r' aJ) ps st1) m0 H Q:=h;rw[hc] at h';exact h'
   refine⟨λi k τ H'=>k=?S - i/\i<=?S/\(∃us:L2.St,us.length=ts/\τ=us++fr)/\∃m st qs ys,Le ?B m1 H1 m H'/\aA ?B H' m (acc::Z) st/\H' acc=Δ (.lst ys)/\ai ?B H' m (acc::Z) qs ys/\qs.length<=i/\CK i qs st,⟨?S,by simp,Zr _,⟨ZO ts Θ,abl,rfl⟩,?_⟩,?_⟩;·exact⟨m1,st1,[],[],Le.same (bp fi _),bg.laid fi _,aD,rfl,Yt _,UH⟩
   ·rintro i k τ H' ⟨rfl,hi,⟨us0,lus,rfl⟩,m,st,qs,ys,le,as,OB,rq,hql,ck⟩;obtain⟨w1,w2⟩:=wk m H' (acc::Z) le (λa ha=>(aa2.mp ha).elim (λz=>.inr (by rw[z];exact fi)) .inl) i;by_cases fT:i < ?S
    ·have Qc:i < ps.length:=fT;obtain⟨go,yl⟩:=w1 ps[i] (Yn Qc);refine .inr ⟨go,λx H2 hy=>?_⟩;obtain⟨sm,rx⟩:=yl x H2 hy;have C0:Le ?B m H' m H2:=Le.same sm;replace le:=le.trans C0;replace as:=as.same sm;replace OB:=sm _ _ OB;replace rq:=rq.le C0;have dX:ps.drop i=ps[i]::ps.drop (i+1):=Zi Qc;have nG:(match cn G' (be C c) (λr' aJ=>ae C ee r' aJ) (ps[i]::ps.drop (i+1)) st with|.ok rest aJ=>LQ ?B Z (.ok (qs++rest) aJ) m0 H Q|_=>False):=by rw[<-dX];exact ck
     rw[eY] at nG;refine OA ps[i] x m H2 (acc::Z) us0 fr (bu js r) _ (Zz.mp Ck _ (Zl Qc)) rx (uS (js:=js) (ar.le bU) fi le) lus λKJ Si Sj=>?_;refine⟨acc::Z,m,G' ps[i],st,Sj,as,?_⟩;cases hc:be C c (G' ps[i]) st with
     |ex x s=>rw[hc] at nG;exact nG.elim|no=>rw[hc] at nG;exact nG.elim|ok b st2=>
      rw[hc] at nG;simp only[aa] at nG;intro m2 H2 fj eZ;have AV:H2 acc=Δ (.lst ys):=fj.keep acc _ OB (as.zm acc Yk) (λ_ z=>nomatch z);cases b with
      |false=>refine⟨?S - (i+1),aaV _ _ fT,rfl,fT,⟨KJ,Si,rfl⟩,m2,st2,qs,ys,le.trans fj,eZ,AV,rq.le fj,by lia,?_⟩;exact nG|true=>
       refine⟨acc::Z,m2,G' ps[i],st2,Sj.le fj,eZ,?_⟩;have nH:(match (ae C ee (G' ps[i]) st2).bind λy st3=>(cn G' (be C c) (λr' aJ=>ae C ee r' aJ) (ps.drop (i+1)) st3).bind λys mN=>R.ok (y::ys) mN with|.ok rest aJ=>LQ ?B Z (.ok (qs++rest) aJ) m0 H Q|_=>False):=nG;cases he:ae C ee (G' ps[i]) st2 with
       |ex x s=>rw[he] at nH;exact nH.elim|no=>rw[he] at nH;exact nH.elim|ok y st3=>
        rw[he] at nH;simp only[aa] at nH;intro m3 H3 uT vW v rv;have jO:H3 acc=Δ (.lst ys):=uT.keep acc _ AV (eZ.zm acc Yk) (λ_ z=>nomatch z);have hyl:?Zd=qs.length:=rq.length;have WZ:ai ?B (upd H3 acc (.lst (ys++[v]))) m3 (acc::Z) (qs++[y]) (ys++[v]):=by have q1:ai ?B H3 m3 (acc::Z) (qs++[y]) (ys++[v]):=((rq.le fj).le uT).append ⟨v,[],rfl,rv,rfl⟩;exact q1.congr (tp jO) (λb us _ hz h=>CZ (λz=>hz (by rw[z];exact Yk)) h) (tq jO) (oU jO)
        refine⟨ys,jO,by rw[<-dv];lia,?S - (i+1),aaV _ _ fT,rfl,fT,⟨KJ,Si,rfl⟩,m3,st3,qs++[y],ys++[v],?_,vW.Sf jO,aD,WZ,by rw[YF];simp;lia,?_⟩;·exact Le.Sg ((le.trans fj).trans uT) fi jO
        ·show(match cn G' (be C c) (λr' aJ=>ae C ee r' aJ) (ps.drop (i+1)) st3 with|.ok rest aJ=>LQ ?B Z (.ok ((qs++[y])++rest) aJ) m0 H Q|_=>False);cases hr:cn G' (be C c) (λr' aJ=>ae C ee r' aJ) (ps.drop (i+1)) st3 with|ex x s=>rw[hr] at nH;exact nH|no=>rw[hr] at nH;exact nH|ok rest mN=>rw[hr] at nH;show LQ ?B Z (R.ok ((qs++[y])++rest) mN) m0 H Q;rw[Zf];exact nH
    ·have e:i=ps.length:=by lia
     subst e;refine .inl ⟨w2 rfl,?_⟩;have nG:(match cn G' (be C c) (λr' aJ=>ae C ee r' aJ) (ps.drop ?S) st with|.ok rest aJ=>LQ ?B Z (.ok (qs++rest) aJ) m0 H Q|_=>False):=ck;rw[ac0,xB] at nG;have nH:LQ ?B Z (R.ok (qs++[]) st) m0 H Q:=nG;rw[Zo] at nH;exact nH m H' acc ys (bU.trans le) (bU.DX fi) (as.zm acc Yk) OB as rq
  ·exact(show False from h).elim
theorem AW(h:tL ?B Z (aS C (.comp w 1 js c ee)) σ H Q):
  xc (tW ?B Z (bM C w)) (om 0) (Oz ?B (be C c)) (Sh ?B (ae C ee)) 1 js σ H Q:=by
 refine xH (okp:=λ_=>Λ) (gB:=λp=>[Δ p]) (λp v m H Z us fr rb Q' _ rp ar lu q=>?_) ?_
 ·match us,lu with|[u],_=>exact q [Δ v] rfl (ar.cons rp)
 ·have e:aS C (.comp w 1 js c ee)=λr st=>(bM C w r st).bind λps st1=>if(ps.all λ_=>Λ)=Λ/\?S<=aq then cn (λp=>[Δ p]++bu js r) (be C c) (λr' aJ=>ae C ee r' aJ) ps st1 else .no:=by funext r st;rw[iK];simp
  rw[<-e];exact h
theorem xI(h:tL ?B Z (aS C (.iE w js c ee)) σ H Q):
  xc (tW ?B Z (bM C w)) (QI X.K 2 (Gs (om 0) (Gs (om 1) QH))) (Oz ?B (be C c)) (Sh ?B (ae C ee)) 2 js σ H Q:=by
 refine xH (okp:=Hv) (gB:=NY) (λp v m H Z us fr rb Q' ho rp ar lu q=>?_) ?_
 ·unfold Hv at ho;split at ho
  ·rename_i a b;obtain⟨c,us2,rfl,hc,v1,vs1,e1,W0,v2,W1,e2,Sk,e3⟩:=rp;subst e3 e2 e1
   match us,lu with|[u,u'],_=>exact⟨c,_,rfl,fS.of hc,rfl,v1,[v2],rfl,v2,[],rfl,rfl,q [Δ v1,Δ v2] rfl ((ar.cons (p:=.d b) (show aj ?B H m Z (.d b) v2 from Sk)).cons (p:=.d a) (show aj ?B H m Z (.d a) v1 from W0))⟩
  ·cases ho
 ·have e:aS C (.iE w js c ee)=λr st=>(bM C w r st).bind λps st1=>if ps.all Hv=Λ/\?S<=aq then cn (λp=>NY p++bu js r) (be C c) (λr' aJ=>ae C ee r' aJ) ps st1 else .no:=by funext r st;rw[ly]
  rw[<-e];exact h
theorem qw{K:KB}{st:aK}(as:aA K H m Z st)(ha:m[n]?=Δ a)(h:xl n st i=Δ o):∃us,H a=Δ ?QY/\(o=Θ->us.length<=i)/\∀p,o=Δ p->∃v,us[i]?=Δ v/\aj K H m Z p v:=by
 unfold xl at h;split at h;·rename_i xs hs;cases h;obtain⟨a',e,us,hu,rs⟩:=as.at_ n _ hs;rw[ha] at e;cases e;refine⟨us,hu,λz=>?_,λp z=>rs.get z⟩;rw[rs.length];exact List.getElem?_eq_none_iff.mp z
 ·cases h
theorem xJ{e:E}(h:tL ?B Z (aS C (.cx e js c ee)) σ H Q):
  xc (LY X.K (tE ?B Z (ae C e))) (om 0) (Oz ?B (be C c)) (Sh ?B (ae C ee)) 1 js σ H Q:=by
 obtain⟨m0,r,bG,ar,WY,h⟩:=h;rw[rF] at h;refine⟨m0,r,bG,ar,WY,?_⟩;cases hw:ae C e r bG with
 |ex x s=>rw[hw] at h;exact(show False from h).elim|no=>rw[hw] at h;exact(show False from h).elim|ok x0 st1=>
  rw[hw] at h;simp only[aa] at h;split at h
  ·rename_i n;intro m1 H1 bU bg v rv;obtain⟨a,ha,rfl⟩:=rv
   let G':P->bS:=λp=>Δ p::bu js r
   let fr:L2.St:=js.map λj=>(σ[j]?).join
   let CK:Nat->Nat->List P->aK->Prop:=λk i qs st=>match cx n G' (be C c) (λr' aJ=>ae C ee r' aJ) k i st with|.ok rest aJ=>LQ ?B Z (.ok (qs++rest) aJ) m0 H Q|_=>False
   have UH:CK aq 0 [] st1:=by show(match cx n G' (be C c) (λr' aJ=>ae C ee r' aJ) aq 0 st1 with|.ok rest aJ=>LQ ?B Z (.ok ([]++rest) aJ) m0 H Q|_=>False);have h':LQ ?B Z (cx n G' (be C c) (λr' aJ=>ae C ee r' aJ) aq 0 st1) m0 H Q:=h;cases hc:cx n G' (be C c) (λr' aJ=>ae C ee r' aJ) aq 0 st1 with|ok rest aJ=>rw[hc] at h';exact h'|ex x s=>rw[hc] at h';exact h'|no=>rw[hc] at h';exact h'
   have Sl:∃us,H1 a=Δ ?QY:=by have ck:=UH;have nG:(match cx n G' (be C c) (λr' aJ=>ae C ee r' aJ) (16777215+1) 0 st1 with|.ok rest aJ=>LQ ?B Z (.ok ([]++rest) aJ) m0 H Q|_=>False):=ck;rw[nC] at nG;cases ho:xl n st1 0 with|none=>rw[ho] at nG;exact nG.elim|some o=>obtain⟨us,hu,_⟩:=qw bg ha ho;exact⟨us,hu⟩
   obtain⟨Sm,Sn⟩:=Sl;refine⟨a,rfl,⟨Sm,.inl (.inl Sn)⟩,λacc fi=>?_⟩;refine⟨λi k τ H'=>k+i=aq/\(∃u,τ=u::fr)/\∃m st qs ys,Le ?B m1 H1 m H'/\aA ?B H' m (acc::Z) st/\H' acc=Δ (.lst ys)/\ai ?B H' m (acc::Z) qs ys/\qs.length<=i/\CK k i qs st,⟨aq,rfl,⟨Θ,rfl⟩,?_⟩,?_⟩;·exact⟨m1,st1,[],[],Le.same (bp fi _),bg.laid fi _,aD,rfl,Yt _,UH⟩
   ·rintro i k τ H' ⟨hk,⟨u,rfl⟩,m,st,qs,ys,le,as,OB,rq,hql,ck⟩;have So:m[n]?=Δ a:=by obtain⟨t,et⟩:=le.pre;rw[et,Yq (qqz ha).1];exact ha
    cases k with
    |zero=>exact(show False from ck).elim|succ k=>
     have nG:(match cx n G' (be C c) (λr' aJ=>ae C ee r' aJ) (k+1) i st with|.ok rest aJ=>LQ ?B Z (.ok (qs++rest) aJ) m0 H Q|_=>False):=ck;rw[nC] at nG;cases ho:xl n st i with
     |none=>rw[ho] at nG;exact nG.elim|some o=>
      rw[ho] at nG;obtain⟨us,hu,q0,q1⟩:=qw as So ho;cases o with
      |none=>have nH:LQ ?B Z (R.ok (qs++[]) st) m0 H Q:=nG;rw[Zo] at nH;exact .inl ⟨⟨us,.inl (.inl hu),q0 rfl⟩,nH m H' acc ys (bU.trans le) (bU.DX fi) (as.zm acc Yk) OB as rq⟩|some p=>
       obtain⟨vx,Mv,rx⟩:=q1 p rfl;refine .inr ⟨⟨us,vx,.inl (.inl hu),Mv⟩,λx H2 hy=>?_⟩;obtain⟨rfl,hx⟩:=hy;have sQ:=hx us (.inl (.inl hu));rw[Mv] at sQ;cases sQ;simp only at nG;have Sj:=Fv (js:=js) (ar.le bU) fi le rx;refine⟨acc::Z,m,G' p,st,Sj,as,?_⟩;cases hc:be C c (G' p) st with
       |ex x s=>rw[hc] at nG;exact nG.elim|no=>rw[hc] at nG;exact nG.elim|ok b st2=>
        rw[hc] at nG;simp only[aa] at nG;intro m2 H2 fj eZ;have AV:H2 acc=Δ (.lst ys):=fj.keep acc _ OB (as.zm acc Yk) (λ_ z=>nomatch z);cases b with
        |false=>exact⟨k,Z7 k,by lia,⟨Δ vx,rfl⟩,m2,st2,qs,ys,le.trans fj,eZ,AV,rq.le fj,by lia,nG⟩|true=>
         refine⟨acc::Z,m2,G' p,st2,Sj.le fj,eZ,?_⟩;have nH:(match (ae C ee (G' p) st2).bind λy st3=>(cx n G' (be C c) (λr' aJ=>ae C ee r' aJ) k (i+1) st3).bind λys mN=>R.ok (y::ys) mN with|.ok rest aJ=>LQ ?B Z (.ok (qs++rest) aJ) m0 H Q|_=>False):=nG;cases he:ae C ee (G' p) st2 with
         |ex x s=>rw[he] at nH;exact nH.elim|no=>rw[he] at nH;exact nH.elim|ok y st3=>
          rw[he] at nH;simp only[aa] at nH;intro m3 H3 uT vW v rv;have jO:H3 acc=Δ (.lst ys):=uT.keep acc _ AV (eZ.zm acc Yk) (λ_ z=>nomatch z);have hyl:?Zd=qs.length:=rq.length;have WZ:ai ?B (upd H3 acc (.lst (ys++[v]))) m3 (acc::Z) (qs++[y]) (ys++[v]):=by have q1:ai ?B H3 m3 (acc::Z) (qs++[y]) (ys++[v]):=((rq.le fj).le uT).append ⟨v,[],rfl,rv,rfl⟩;exact q1.congr (tp jO) (λb us _ hz h=>CZ (λz=>hz (by rw[z];exact Yk)) h) (tq jO) (oU jO)
          refine⟨ys,jO,by rw[<-dv];lia,k,Z7 k,by lia,⟨Δ vx,rfl⟩,m3,st3,qs++[y],ys++[v],?_,vW.Sf jO,aD,WZ,by rw[YF];simp;lia,?_⟩;·exact Le.Sg ((le.trans fj).trans uT) fi jO
          ·show(match cx n G' (be C c) (λr' aJ=>ae C ee r' aJ) k (i+1) st3 with|.ok rest aJ=>LQ ?B Z (.ok ((qs++[y])++rest) aJ) m0 H Q|_=>False);cases hr:cx n G' (be C c) (λr' aJ=>ae C ee r' aJ) k (i+1) st3 with|ex x s=>rw[hr] at nH;exact nH|no=>rw[hr] at nH;exact nH|ok rest mN=>rw[hr] at nH;show LQ ?B Z (R.ok ((qs++[y])++rest) mN) m0 H Q;rw[Zf];exact nH
  ·exact(show False from h).elim
theorem hW{env:PySem.Env}:∀{names:List (Str×aaX)} {x},names.lookup x=Δ .globalImplicit->
  (names.map λ(n,k)=>if ?I then(n,ZX) else(n,k)).lookup x=Δ .globalImplicit
 |[],_,h=>by simp at h|(n,k)::r,x,h=>by
  have ih:=@hW env r x;show aai x ((if ?I=Λ then(n,ZX) else(n,k))::_)=_;cases hx:x==n with
  |true=>simp only[YU,hx] at h;cases h;rw[if_neg ?E];simp[YU,hx]|false=>
   simp only[YU,hx] at h;by_cases hc:?I=Λ;·rw[if_pos hc];simp only[YU,hx];exact ih h
   ·rw[if_neg hc];simp only[YU,hx];exact ih h
theorem Good.qx(T:Good X kt g C){N:List Str}(h:HA g ts N js sc=Λ):ki X N ts js sc:=by unfold HA at h;simp only[Yj,qqq,Zz,aaR] at h;obtain⟨⟨⟨h1,h2⟩,h3⟩,h4⟩:=h;refine⟨h1,h2,λx hx=>(h3 x hx).1.1,λx hx hl=>(h3 x hx).1.2.resolve_left λz=>z hl,λx hx hf=>T.Jo _ ((h3 x hx).2.resolve_left λz=>z hf),λi y j e1 e2=>?_⟩;have hi:i∈Yh js.length:=Zp.mpr (qqz e2).1;have q:=h4 i hi;rw[e1,e2] at q;rw[T.N];simpa using q
theorem uN.inner(h:uN X kt c x n):uN (mE X η N sc fp Cc s H) kt c x n:=⟨h.ex⟩
theorem DQ.inner(h:DQ X kt C k a c b7):DQ (mE X η N sc fp Cc s H) kt C k a c b7:=⟨h.ob,h.ex⟩
theorem Good.inner(T:Good X kt g C){η:List ?Qb}{N:List Str}{js:List Nat}{sc:Scope}{fp:List Addr}{Cc:Addr}{s:YG}{H:Hp}(hnc:∀x∈sc.names,x.2≠.cell):Good (mE X η N sc fp Cc s H) kt (g.inner N sc) C where
 N:=rfl
 loc:=λx h=>lookup_relabel_local h
 Jo:=λx h=>by
  rcases h with h|h;·exact absurd rfl (hnc _ (Zd h))
  ·exact kh h
 gl:=λx h=>hW h
 calm:=T.calm
 hu:=T.hu
 bl:=T.bl
 fn:=λk x n h=>(T.fn k x n h).inner
 cs:=T.cs
 tb:=T.tb
 fld:=T.fld
 P9:=T.P9
 Qa:=T.Qa
 rG:=λhv k a c b7 h=>(T.rG hv k a c b7 h).inner
 lam:=λk pa bo sc' ps h=>absurd ?Qi ?T
 fc:=λf x n ls h=>absurd ?Qi ?T
 jA:=λf x ls h=>absurd ?Qi ?T
end
section
variable{X:Cx}{kt:KT}{g:G}{C:Nat->List P->aK->R P}{Z:List Addr}
theorem AX(hs:∀z∈xs,notStar z=Λ):(aax pos (YX xs env)).all (λx=>!x.1)=Λ:=by have h:=gu (env:=env) (pos:=pos) hs;rw[acJ] at h;rw[Zz];intro x hx;have:=h x hx;revert this;cases x.1<;>simp
theorem xK(hs:∀z∈xs,notStar z=Λ)(hn:?Q < 30)(mL:(apos.endLine==pos.line)=Λ):
  eval (.Call (.Attribute (.Name x p) mm apos) xs [] pos) env=(do
   let ov<-eval (.Name x p) env
   ac5 apos.atName
   let (f,first)<-adq [ov] (acV ov mm (do return (<-importBound (.Name x p) env).getD Λ))
   adG pos f first (aax pos (YX xs env)) (ack pos (abb [] env))):=by
 rw[arm_eval_Call];have Sq:methodCallForm (?Q+([]:List acK).length) (aax pos (YX xs env)) (ack pos (abb [] env))=Λ:=by unfold methodCallForm;rw[AX hs];have:?Q+0+0 < 30:=hn;simp[hn];exact⟨λa b h=>(by cases h),hn⟩
 have KL:methodCallPos Λ (.Name x p) env apos pos=pure pos:=by unfold methodCallPos;simp[mL]
 unfold methodCall;rw[Sq,KL];rfl
theorem OC(T:Good X kt g C)(hm:g.BW k c mm cj.length=Λ)(h1:g.N[i]?=Δ x)(h2:g.yO x=Λ)(h3:aV x=Λ)(hn:?Q < 30)(mL:(apos.endLine==pos.line)=Λ)(hs:∀z∈xs,notStar z=Λ)(hl:?Q=cj.length)(h:PA X xs (tA ?B Z (aC C cj))):
  PE X (.Call (.Attribute (.Name x p) mm apos) xs [] pos) (tE ?B Z (ae C (.qd k c mm i cj))):=by
 obtain⟨A,l,fa,fd,ps,k1,kc,km,F,hr,hb⟩:=T.P9 k c mm cj.length hm;have red:∀σ H Q,tE ?B Z (ae C (.qd k c mm i cj)) σ H Q->Dz A mm (CT ?B (C k) (cj.length+1)) [] E0 (tE ?B Z (ae C (.var i))) (tA ?B Z (aC C cj)) σ H Q:=by
  rintro σ H Q ⟨m,ρ,st,ar,as,h⟩;rw[CL] at h;refine⟨m,ρ,st,ar,as,?_⟩;rw[l9];refine(Ok.bind h).mono λq st1 m1 H1 bU bg h1 v rv=>?_;obtain⟨u,e,h2,_⟩:=Ok.of (Ok.bind h1) bg;obtain⟨⟨n,fs⟩,e1,e2⟩:=dc e;obtain⟨a,A',dx,us,rfl,UI,rfl,hs,g1,g2,g3,g4⟩:=CV bg rv e1;rw[show YJ X.K YB c=Δ (Δ (.ref A')) from g1] at k1;cases k1;have e3:fs.lookup mm=Θ:=by
   by_cases hh:(fs.lookup mm).isNone=Λ;·exact aal.mp hh
   ·rw[if_neg hh] at e2;cases e2
  refine⟨a,dx,us,rfl,g2,(aO.look (f:=mm) g4).2 e3,m1,ρ,st1,ar.le bU,bg,(Ok.bind h2).xD λqs st2 m2 H2 hq fj eZ h3 vs jc=>?_⟩;show CT ?B (C k) (cj.length+1) (.ref a::(vs++[])) H2 Q E0;rw[Zo];exact⟨m2,Z,.obj n::qs,st2,by rw[YA,jc.length,gg hq],⟨.ref a,vs,rfl,rv.le fj,jc⟩,eZ,h3⟩
 cases xs with
 |nil=>
  have e:cj=[]:=by cases cj with|nil=>rfl|cons a b=>simp at hl
  subst e;refine PE.imp (GI (AK (Z:=Z) (kt:=kt) T h1 h2 h3) kc km F hr hb .nil Ag (xK hs hn mL)) λσ H Q h=>?_;have r:=red σ H Q h;unfold Dz at r ⊢;obtain⟨m,ρ,st,ar,as,h1⟩:=r;refine⟨m,ρ,st,ar,as,h1.mono λq st1 m1 H1 bU bg hh v rv=>?_⟩;obtain⟨a,dx,us,e1,e2,e3,m2,ρ2,st2,Jr,eZ,h4⟩:=hh v rv;rw[az] at h4;exact⟨a,dx,us,e1,e2,e3,Ok.here h4 eZ [] rfl⟩
 |cons y ys=>exact PE.imp (JN (AK (Z:=Z) (kt:=kt) T h1 h2 h3) kc km F hr hb .nil Ag h (bI (hs y Yk)) (gu λz hz=>hs z (Yi _ hz)) (xK hs hn mL)) red
theorem OD(T:Good X kt g C)(hm:g.BX k c cj.length=Λ)(hg:g.gl c=Λ)(h3:aV c=Λ)(hs:∀z∈y::ys,notStar z=Λ)(h:PA X (y::ys) (tA ?B Z (aC C cj))):
  PE X (.Call (.Name c p) (y::ys) [] pos) (tE ?B Z (ae C (.make k c cj))):=by
 obtain⟨A,l,fa,fd,ps,k1,k2,M,F,hr,hb⟩:=T.Qa k c cj.length hm;refine PE.imp (JO M F hr (T.glob hg) k1 hb .nil Ag h (pn h3).1 (bI (hs y Yk)) (gu λz hz=>hs z (Yi _ hz))) ?_;rintro σ H Q ⟨m,ρ,st,ar,as,h⟩;rw[uk] at h;refine⟨m,ρ,st,ar,as,(Ok.bind h).xD λqs st1 m1 H1 hq bU bg h1 vs jc=>?_⟩;intro x dx hx hdx fm;rw[Zo];have sm:kQ H1 (upd H1 dx (.own x)):=bp hdx _;have eZ:=bg.same sm;have UJ:upd H1 dx (.own x) x=Θ:=by rw[ax (Zq fm)];exact hx
 have fj:Le ?B m1 H1 (m1++[x]) (upd (upd H1 dx (.own x)) x (.ins A dx [])):=(Le.same sm).trans ((Le.same (bp UJ _)).grow UJ);have vW:aA ?B (upd (upd H1 dx (.own x)) x (.ins A dx [])) (m1++[x]) Z (st1++[.ins c []]):=(eZ.laid UJ (.ins A dx [])).uG (eZ.fresh UJ).2 ⟨A,dx,[],k2,aD,by rw[ax fm];exact aD,rfl⟩;have hi:(m1++[x])[st1.length]?=Δ x:=by rw[YH (by rw[bg.len];exact Yt _),bg.len];simp
 refine⟨m1++[x],Z,.obj st1.length::qs,st1++[.ins c []],by rw[YA,jc.length,gg hq],⟨.ref x,vs,rfl,⟨x,hi,rfl⟩,jc.le fj⟩,vW,?_⟩;refine(Ok.bind (Ok.le h1 fj)).mono λq mN m4 H4 zO DW h4 v rv=>?_;cases q with
 |d d=>cases d with|bC=>refine⟨rv,Ok.here h4 DW (.ref x) ⟨x,?_,rfl⟩⟩;obtain⟨t,rfl⟩:=zO.pre;rw[Yq (by simp[bg.len])];exact hi|_=>exact(show False from h4).elim
 |_=>exact(show False from h4).elim
theorem ai.dropLast{K:KB}:∀{ps} {us},ai K H m Z ps us->ai K H m Z ps.dropLast us.dropLast
 |[],us,h=>by cases ?QD;exact h|[p],us,h=>by obtain⟨v,vs,rfl,r,rs⟩:=(show ∃v vs,us=v::vs/\aj K H m Z p v/\ai K H m Z [] vs from h);cases (show vs=[] from rs);exact rfl|p::q::ps,us,h=>by obtain⟨v,vs,rfl,r,rs⟩:=(show ∃v vs,us=v::vs/\aj K H m Z p v/\ai K H m Z (q::ps) vs from h);obtain⟨v2,W1,rfl,r2,rs2⟩:=(show ∃v qv,vs=v::qv/\aj K H m Z q v/\ai K H m Z ps qv from rs);have:=ai.dropLast rs;rw[List.dropLast_cons₂,List.dropLast_cons₂];exact⟨v,_,rfl,r,this⟩
theorem ai.at_{K:KB}:∀{ps} {us} {i:Nat},ai K H m Z ps us->ps[i]?=Δ p->∃v,us[i]?=Δ v/\aj K H m Z p v
 |[],us,i,h,e=>by simp at e|q::ps,us,i,h,e=>by obtain⟨v,vs,rfl,r,rs⟩:=(show ∃v vs,us=v::vs/\aj K H m Z q v/\ai K H m Z ps vs from h);cases i with|zero=>rw[Yu] at e;cases e;exact⟨v,rfl,r⟩|succ i=>rw[Yv] at e ⊢;exact ai.at_ rs e
theorem aO.drop{κ:Type}[DecidableEq κ]{K:KB}{k:κ}:∀{kvs} {us},aO K H m Z kvs us->aO K H m Z (xk kvs k) (ow us k)
 |[],us,h=>by cases ?QD;exact rfl|(q,p)::kvs,us,h=>by
  obtain⟨v,vs,rfl,r,rs⟩:=(show ∃v vs,us=(q,v)::vs/\aj K H m Z p v/\aO K H m Z kvs vs from h);have ih:=aO.drop (k:=k) rs;unfold xk ow at ih ⊢;by_cases hq:q=k;·rw[Y4 (by simp[hq]),Y4 (by simp[hq])];exact ih
  ·rw[YY (by simp[hq]),YY (by simp[hq])];exact⟨v,_,rfl,r,ih⟩
theorem OE(hl:?QU=Λ)(hc:isCall o=Ξ)(ho:PE X o (tE ?B Z (ae C a))):
  PE X (.Call (.Attribute o "pop" ap) [] [] cp) (tE ?B Z (ae C (.CF a))):=by
 refine PE.imp (Nl PySem.F.plainAttrs_list PySem.F.slot_list_pop PySem.F.type_list_pop Nn ho (uR hc) hl) ?_;rintro σ H Q ⟨m,r,st,ar,as,h⟩;rw[nA] at h;refine⟨m,r,st,ar,as,(Ok.bind h).mono λx st1 m1 H1 bU bg h1 v rv=>?_⟩;obtain⟨⟨p,st2⟩,e1,h2,dX⟩:=Ok.of (Ok.bind h1) bg;clear dX;unfold CH at e1;split at e1
 ·rename_i n;split at e1;·rename_i xs Sr;obtain⟨w',hw,e⟩:=iw e1;cases e;obtain⟨b,hb,eb⟩:=(show ∃b,m1[n]?=Δ b/\v=.ref b from rv);cases eb;obtain⟨b',jk,zs,hz,rz⟩:=bg.at_ n _ Sr;rw[hb] at jk;cases jk;obtain⟨u,hu,ru⟩:=rz.at_ hw;obtain⟨uT,vW⟩:=bg.write (ho:=.lst zs.dropLast) (o':=.lst xs.dropLast) Sr hb λH' e _ f=>⟨_,e,(rz.mono f).dropLast⟩;refine⟨.inl ⟨rfl,zs,.inl (.inl hz)⟩,b,zs,u,rfl,rfl,hz,by rw[rz.length];exact hu,?_⟩;exact h2 m1 _ uT vW u (ru.le uT)
  ·cases e1
 ·cases e1
theorem OF(hl:?QU=Λ)(hc:isCall o=Ξ)(ho:PE X o (tE ?B Z (ae C a)))(hx:PE X x (tE ?B Z (ae C b)))(hs:notStar x=Λ):
  PE X (.Call (.Attribute o "pop" ap) [x] [] cp) (tE ?B Z (ae C (.Fb a b))):=by
 have s1:YX [x] X.env=[(Ξ,eval x X.env)]:=bI hs;refine PE.imp (GR ho hx ⟨uR hc,by rw[s1];rfl,hl,by rw[s1];rfl⟩) ?_;rintro σ H Q ⟨m,ρ,st,ar,as,h0⟩;rw[ui] at h0;refine⟨m,ρ,st,ar,as,(Ok.bind h0).mono λy st1 m1 H1 bU bg h1 v rv=>?_⟩;obtain⟨o',e,h2,_⟩:=Ok.of (Ok.bind h1) bg;obtain⟨n,c,rfl,qV,hm,rfl,ao,hd⟩:=uP bg e rv;refine⟨c,rfl,HL ao hd,m1,ρ,st1,ar.le bU,bg,(Ok.bind h2).mono λk st2 m2 H2 fj eZ h3 u ru=>?_⟩;obtain⟨⟨p,st3⟩,e2,h4,dX⟩:=Ok.of (Ok.bind h3) eZ;clear dX;unfold Ht at e2;dsimp only at e2;split at e2;·rename_i kvs rB;obtain⟨kk,E3,e3⟩:=dc e2;obtain⟨w',hw,e4⟩:=iw e3;cases e4;obtain⟨b,hb,eb⟩:=(show ∃b,m2[n]?=Δ b/\V.ref c=.ref b from rv.le fj);cases eb;obtain⟨b',jk,us,hu,rs⟩:=eZ.at_ n _ rB;rw[hb] at jk;cases jk;obtain⟨v2,UK,Sk⟩:=(rs.val (k:=kk)).2 _ hw;obtain⟨uT,vW⟩:=eZ.write (ho:=.dK (ow us kk)) (o':=.dK (xk kvs kk)) rB hb λH' e _ f=>⟨_,e,(rs.mono f).drop⟩;refine⟨us,kk,v2,hu,ru.key E3,UK,?_⟩;exact h4 m2 _ uT vW v2 (Sk.le uT)
 ·cases e2
theorem KN(hl:?QU=Λ)(hc:isCall o=Ξ)(ho:PE X o (tE ?B Z (ae C a)))(hx:PE X x (tE ?B Z (ae C b)))(hs:notStar x=Λ)(hy:PE X y (tE ?B Z (ae C c)))(tM:notStar y=Λ):
  PE X (.Call (.Attribute o "setdefault" ap) [x,y] [] cp) (tE ?B Z (ae C (.ug a b c))):=by
 have s1:YX [x,y] X.env=[(Ξ,eval x X.env),(Ξ,eval y X.env)]:=(bI hs).trans (by rw[bI tM];rfl);refine PE.imp (Hh ho hx hy ⟨uR hc,by rw[s1];rfl,hl,by rw[s1];rfl⟩) ?_;rintro σ H Q ⟨m,ρ,st,ar,as,h0⟩;rw[lx] at h0;refine⟨m,ρ,st,ar,as,(Ok.bind h0).mono λy st1 m1 H1 bU bg h1 v rv=>?_⟩;obtain⟨o',e,h2,_⟩:=Ok.of (Ok.bind h1) bg;obtain⟨n,c,rfl,qV,hm,rfl,ao,hd⟩:=uP bg e rv;refine⟨c,rfl,HL ao hd,m1,ρ,st1,ar.le bU,bg,(Ok.bind h2).mono λk st2 m2 H2 fj eZ h3 u ru=>?_⟩;refine⟨m2,ρ,st2,(ar.le bU).le fj,eZ,(Ok.bind h3).mono λz st3 m3 H3 uT vW h4 w' nh=>?_⟩;obtain⟨⟨p,mN⟩,e2,h5,dX⟩:=Ok.of (Ok.bind h4) vW;clear dX;unfold rD at e2;dsimp only at e2;split at e2
 ·rename_i kvs rB;split at e2
  ·rename_i fT;obtain⟨kk,E3,e3⟩:=iw e2;obtain⟨b,hb,eb⟩:=(show ∃b,m3[n]?=Δ b/\V.ref c=.ref b from(rv.le fj).le uT);cases eb;obtain⟨b',jk,us,hu,rs⟩:=vW.at_ n _ rB;rw[hb] at jk;cases jk;have rr:=rs.val (k:=kk);refine⟨us,kk,hu,(ru.le uT).key E3,by rw[rs.length,<-dv];exact fT,λv2 UK=>?_,λhn=>?_⟩;·cases hv:fu kvs kk with|none=>rw[hv,UK] at rr;cases rr.1|some w2=>rw[hv] at e3;cases e3;obtain⟨v3,e4,r3⟩:=rr.2 _ hv;rw[UK] at e4;cases e4;exact Ok.here h5 vW v2 r3
   ·cases hv:fu kvs kk with|some w2=>rw[hv,hn] at rr;cases rr.1|none=>rw[hv] at e3;cases e3;obtain⟨zO,DW⟩:=vW.write (ho:=.dK (putK us kk w')) (o':=.dK (mI kvs kk z)) rB hb λH' e _ f=>⟨_,e,(rs.mono f).put (f _ _ nh)⟩;exact h5 m3 _ zO DW w' (nh.le zO)
  ·cases e2
 ·cases e2
end
section
variable(C:Nat->List P->aK->R P)
def SE(e':E):Prop:=∀(kt:KT) (X:Cx) (g:G) (e:Expr) (Z:List Addr),Good X kt g C->ir g e' e=Λ->PE X e (tE ?B Z (ae C e'))/\PT X e (tT ?B Z (bY (ae C e')))
def SEs(es:List E):Prop:=(∀(kt:KT) (X:Cx) (g:G) (xs:List Expr) (Z:List Addr),Good X kt g C->iu g es xs=Λ->PA X xs (tA ?B Z (aC C es)))/\
 (∀(kt:KT) (X:Cx) (g:G) (xs:List Expr) (Z:List Addr) (pos:Pos),Good X kt g C->iu g es xs=Λ->PE X (.BoolOp .And xs pos) (tE ?B Z (gE C es))/\PW X (.BoolOp .And xs pos) (tT ?B Z (bY (gE C es))))/\
 (∀(kt:KT) (X:Cx) (g:G) (xs:List Expr) (Z:List Addr) (pos:Pos),Good X kt g C->iu g es xs=Λ->PE X (.BoolOp .Or xs pos) (tE ?B Z (gF C es))/\PW X (.BoolOp .Or xs pos) (tT ?B Z (bY (gF C es))))
def SM(o:Option E):Prop:=(∀(kt:KT) (X:Cx) (g:G) (x:Option Expr) (Z:List Addr),Good X kt g C->okM g o x=Λ->PO X x (tO ?B Z (xm C o)))/\
 (∀(kt:KT) (X:Cx) (g:G) (ifs:List Expr),Good X kt g C->UC g o ifs=Λ->GU X ifs (Oz ?B (be C o)))
def SL(l:L):Prop:=∀(kt:KT) (X:Cx) (g:G) (e:Expr) (Z:List Addr),Good X kt g C->Ms g l e=Λ->PE X e (tL ?B Z (aS C l))
def SW(w:W):Prop:=∀(kt:KT) (X:Cx) (g:G) (e tg:Expr) (Z:List Addr),Good X kt g C->UD g w e=Λ->(CS w=Λ->∃es k p,tg=.Tuple es k p)->PI X tg e (tW ?B Z (bM C w))
variable{C}
theorem xM(h:∀r st,d r st=.no):PE X e (tE ?B Z d)/\PT X e (tT ?B Z (bY d)):=by
 constructor;·rintro η s σ H Q I ⟨m,r,st,_,_,q⟩;rw[h] at q;exact(show False from q).elim
 ·rintro η s σ H Q I ⟨m,r,st,_,_,q⟩;unfold bY at q;rw[h] at q;exact(show False from q).elim
theorem pw_no(h:∀r st,d r st=.no):PW X e (tT ?B Z (bY d)):=by rintro wh η s σ H Q I ⟨m,r,st,_,_,q⟩;unfold bY at q;rw[h] at q;exact(show False from q).elim
theorem both(h:PE X e (tE ?B Z d))(he:∀whole,adO e X.env whole=(do let v<-whole;ac5 e.pos;adq [v] (truthy v))):PE X e (tE ?B Z d)/\PT X e (tT ?B Z (bY d)):=⟨h,Kr h he⟩
mutual
theorem aI:∀e':E,SE C e'
 |.var i=>λkt X g e Z T h=>by refine aG h λ_ _ h=>?_;simp only[Yj,qqq] at h;exact both (AK T h.1.1 h.1.2 h.2) λ_=>rfl|.cst d=>λkt X g e Z T h=>by
  rcases Bool.or_eq_true_iff.mp h with h|h;·refine oR h λc _ _ h=>?_;cases d with|int i=>obtain rfl:=of_decide_eq_true h;exact both (AL Gm λ_ _=>rfl) λ_=>rfl|bl i=>obtain rfl:=of_decide_eq_true h;exact both (AL LX λ_ _=>rfl) λ_=>rfl|bC=>obtain rfl:=of_decide_eq_true h;exact both (AL Gn λ_ _=>rfl) λ_=>rfl|str i=>obtain rfl:=of_decide_eq_true h;exact both (AL Gp λ_ _=>rfl) λ_=>rfl|tup _=>exact ft h|pl _=>exact ft h
  ·refine aG h λx _ h=>?_;cases d with|int i=>have h:=Bool.and_eq_true_iff.mp h;have h':=Bool.and_eq_true_iff.mp h.1;obtain⟨t,ht⟩:=T.cs _ _ (of_decide_eq_true h'.2);exact both (AL (JB (v:=.int _) (T.glob h'.1) ht ⟨t,rfl⟩ (pn h.2).1) λ_ _=>rfl) λ_=>rfl|_=>exact ft h
 |.op o a b=>λkt X g e Z T h=>by refine Fo h λ_ _ _ _ h=>?_;simp only[Yj,qqq] at h;obtain⟨⟨rfl,h1⟩,h2⟩:=h;exact both (WQ (aI a kt X g _ Z T h1).1 (aI b kt X g _ Z T h2).1) λ_=>rfl|.Fb a b=>λkt X g e Z T h=>by refine aW h λ_ _ _ _ h=>?_;refine cg h λ_ _ _ h=>?_;refine aE h λ_ _ h=>?_;simp only[Yj,qqq,Yy,YV] at h;obtain⟨⟨⟨⟨⟨⟨⟨rfl,rfl⟩,h0⟩,rfl⟩,h1⟩,h2⟩,h3⟩,h4⟩:=h;exact both (OF h0 h1 (aI a kt X g _ Z T h2).1 (aI b kt X g _ Z T h3).1 h4) λ_=>rfl|.ug a b c=>λkt X g e Z T h=>by refine aW h λ_ _ _ _ h=>?_;refine cg h λ_ _ _ h=>?_;refine aE h λ_ _ h=>?_;refine aE h λ_ _ h=>?_;simp only[Yj,qqq,Yy,YV] at h;obtain⟨⟨⟨⟨⟨⟨⟨⟨⟨rfl,rfl⟩,h0⟩,rfl⟩,h1⟩,h2⟩,h3⟩,h4⟩,h5⟩,h6⟩:=h;exact both (KN h0 h1 (aI a kt X g _ Z T h2).1 (aI b kt X g _ Z T h3).1 h4 (aI c kt X g _ Z T h5).1 h6) λ_=>rfl|.CF a=>λkt X g e Z T h=>by refine aW h λ_ _ _ _ h=>?_;refine cg h λ_ _ _ h=>?_;simp only[Yj,qqq,Yy,YV] at h;obtain⟨⟨⟨⟨⟨rfl,rfl⟩,h0⟩,rfl⟩,h1⟩,h2⟩:=h;exact both (OE h0 h1 (aI a kt X g _ Z T h2).1) λ_=>rfl|.attr c f i=>λkt X g e Z T h=>by refine cg h λ_ _ _ h=>?_;refine aG h λ_ _ h=>?_;simp only[Yj,qqq] at h;obtain⟨⟨⟨⟨rfl,h1⟩,h2⟩,h3⟩,h4⟩:=h;exact both (Om T h1 h2 h3 h4) λ_=>rfl|.qd k c m i es=>λkt X g e Z T h=>by refine aW h λ_ _ _ _ h=>?_;refine cg h λ_ _ _ h=>?_;refine aG h λ_ _ h=>?_;simp only[Yj,qqq,Yy] at h;obtain⟨⟨⟨⟨⟨⟨⟨⟨rfl,rfl⟩,h1⟩,h2⟩,h3⟩,h4⟩,h5⟩,h6⟩,h7⟩:=h;exact both (OC T h1 h2 h3 h4 h7 h6 (cK h5) (gG h5) ((dw es).1 kt X g _ Z T h5)) λ_=>rfl|.make k c es=>λkt X g e Z T h=>by refine aW h λ_ xs je _ h=>?_;refine aG h λx p h=>?_;cases xs with|nil=>simp at h|cons y ys=>simp only[Yj,qqq,Yy] at h;obtain⟨⟨⟨⟨⟨⟨rfl,rfl⟩,h1⟩,h2⟩,h3⟩,h4⟩,_⟩:=h;exact both (OD T h1 h2 h3 (cK h4) ((dw es).1 kt X g _ Z T h4)) λ_=>rfl
 |.not a=>λkt X g e Z T h=>by refine AI h λ_ _ _ h=>?_;simp only[Yj,qqq] at h;obtain⟨rfl,h⟩:=h;exact⟨R5 (aI a kt X g _ Z T h).1,Od (aI a kt X g _ Z T h).2⟩|.cmp o a b=>λkt X g e Z T h=>by refine rK h λ_ _ _ _ h=>?_;refine aE h λ_ _ h=>?_;refine aE h λ_ _ h=>?_;simp only[Yj,qqq,YV,Yy] at h;obtain⟨⟨⟨⟨⟨rfl,rfl⟩,rfl⟩,h1⟩,h2⟩,h3⟩:=h;exact⟨R4 T (aI a kt X g _ Z T h1).1 (aI b kt X g _ Z T h2).1 h3,Oc T (aI a kt X g _ Z T h1).1 (aI b kt X g _ Z T h2).1 h3⟩|.chain o o' a b c=>λkt X g e Z T h=>by refine rK h λ_ _ _ _ h=>?_;refine aE h λ_ _ h=>?_;refine aE h λ_ _ h=>?_;refine aE h λ_ _ h=>?_;refine aE h λ_ _ h=>?_;simp only[Yj,qqq,YV,Yy] at h;obtain⟨⟨⟨⟨⟨⟨⟨⟨rfl,rfl⟩,rfl⟩,rfl⟩,h1⟩,h2⟩,h3⟩,h4⟩,h5⟩:=h;exact⟨Ks T (aI a kt X g _ Z T h1).1 (aI b kt X g _ Z T h2).1 (aI c kt X g _ Z T h3).1 h4 h5,HI T (aI a kt X g _ Z T h1).1 (aI b kt X g _ Z T h2).1 (aI c kt X g _ Z T h3).1 h4 h5⟩|.and es=>λkt X g e Z T h=>by refine uM h λop xs pos h=>?_;simp only[Yj,qqq] at h;obtain⟨rfl,h⟩:=h;obtain⟨h1,h2⟩:=(dw es).2.1 kt X g xs Z pos T h;have e1:ae C (.and es)=gE C es:=rfl;rw[e1];exact⟨h1,h2.pt⟩|.or es=>λkt X g e Z T h=>by refine uM h λop xs pos h=>?_;simp only[Yj,qqq] at h;obtain⟨rfl,h⟩:=h;obtain⟨h1,h2⟩:=(dw es).2.2 kt X g xs Z pos T h;have e1:ae C (.or es)=gF C es:=rfl;rw[e1];exact⟨h1,h2.pt⟩|.tup es=>λkt X g e Z T h=>by refine jL h λ_ _ _ h=>?_;exact both (R8 ((dw es).1 kt X g _ Z T h)) λ_=>rfl|.lst mu l=>λkt X g e Z T h=>by have h1:=R9 (mu:=mu) (OG l kt X g e Z T h);refine both h1 λwhole=>?_;cases l with|fQ es=>exact AH h λ_ _ _=>rfl|comp w ts js c e=>exact dJ h λ_ _ _ _ _=>rfl|iE w js c e=>exact dJ h λ_ _ _ _ _=>rfl|list e=>exact aW h λ_ _ _ _ _=>rfl|fR es=>exact aW h λ_ _ _ _ _=>rfl|zip a b=>exact aW h λ_ _ _ _ _=>rfl|cx e js c ee=>exact dJ h λ_ _ _ _ _=>rfl|keys e=>exact aW h λ_ _ _ _ _=>rfl
 |.call f es=>λkt X g e Z T h=>by refine aW h λ_ _ _ _ h=>?_;refine aG h λ_ _ h=>?_;simp only[Yj,qqq,Yy] at h;obtain⟨⟨⟨⟨rfl,h1⟩,h2⟩,h3⟩,h4⟩:=h;exact both (s_call T h1 h2 h3 (cK h4) (gG h4) ((dw es).1 kt X g _ Z T h4)) λ_=>rfl|.Hn a t=>λkt X g e Z T h=>by refine aW h λ_ _ _ _ h=>?_;refine aG h λ_ _ h=>?_;refine aE h λ_ _ h=>?_;refine aE h λ_ _ h=>?_;refine aG h λ_ _ h=>?_;simp only[Yj,qqq,Yy] at h;obtain⟨⟨⟨⟨⟨⟨⟨⟨rfl,rfl⟩,rfl⟩,h1⟩,rfl⟩,h2⟩,h3⟩,h4⟩,h5⟩:=h;exact both (Sa T h1 h3 h2 (aI a kt X g _ Z T h4).1 h5) λ_=>rfl|.bf f es=>λkt X g e Z T h=>by refine aW h λf0 xs je pos h=>?_;refine aG h λ_ _ h=>?_;simp only[Yj,qqq,YV,Yy] at h;obtain⟨⟨⟨⟨rfl,rfl⟩,h1⟩,h2⟩,h3⟩:=h;cases xs with|nil=>cases h3|cons x xs=>exact both (WW T h1 (cK h2) ((dw es).1 kt X g _ Z T h2)) λ_=>rfl
 |.ix a b=>λkt X g e Z T h=>by refine mR h λ_ _ _ h=>?_;simp only[Yj,YV] at h;exact both (WU T.hu (aI a kt X g _ Z T h.1.1).1 (aI b kt X g _ Z T h.1.2).1 h.2) λ_=>rfl|.Fc k d=>λkt X g e Z T h=>by refine AG h λ_ _ _ h=>?_;refine aE h λ_ _ h=>?_;refine uJ h λ_ h=>?_;refine aE h λ_ _ h=>?_;simp only[Yj,Yy] at h;obtain⟨⟨⟨rfl,rfl⟩,h1⟩,h2⟩:=h;exact both (Ou T h1 h2) λ_=>rfl|.qc t=>λkt X g e Z T h=>by refine AG h λ_ _ _ h=>?_;simp only[Yj,Yy] at h;obtain⟨rfl,rfl⟩:=h;exact both Oq λ_=>rfl|.oI i es=>λkt X g e Z T h=>by refine aW h λ_ xs je _ h=>?_;refine aG h λx p h=>?_;cases xs with|nil=>simp at h|cons y ys=>simp only[Yj,qqq,Yy] at h;obtain⟨⟨⟨⟨⟨⟨rfl,h1⟩,h2⟩,h3⟩,h4⟩,_⟩,BV⟩:=h;exact both (Kw T BV h1 h2 h3 (cK h4) ((dw es).1 kt X g _ Z T h4)) λ_=>rfl
 |.fc f es ls=>λkt X g e Z T h=>by refine aW h λ_ xs je _ h=>?_;refine aG h λx p h=>?_;cases xs with|nil=>simp at h|cons y ys=>simp only[Yj,qqq,Yy] at h;obtain⟨⟨⟨⟨⟨rfl,h1⟩,h2⟩,h3⟩,h4⟩,_⟩:=h;exact both (T.fc f x _ ls h1 Z y ys es p _ rfl h2 h3 (cK h4) ((dw es).1 kt X g _ Z T h4)) λ_=>rfl
 |.jA i es ls=>λkt X g e Z T h=>by refine aW h λ_ xs je _ h=>?_;refine aG h λx p h=>?_;cases xs with|nil=>simp at h|cons y ys=>simp only[Yj,qqq,Yy] at h;obtain⟨⟨⟨⟨⟨⟨rfl,h1⟩,h2⟩,h3⟩,h5⟩,h4⟩,_⟩:=h;exact both (T.jA i x ls h5 Z y ys es p _ h1 h2 h3 (cK h4) ((dw es).1 kt X g _ Z T h4)) λ_=>rfl
 |.lam k=>λkt X g e Z T h=>by refine CP h λ_ _ _ _ h=>?_;exact both (T.lam k _ _ _ _ h Z) λ_=>rfl
theorem dw:∀es:List E,SEs C es
 |[]=>⟨λkt X g xs Z T h=>by rw[lG h];exact uQ,λkt X g xs Z pos T h=>by exact⟨(xM λr st=>rfl).1,pw_no λr st=>rfl⟩,λkt X g xs Z pos T h=>⟨(xM λr st=>rfl).1,pw_no λr st=>rfl⟩⟩|a::cj=>by
  have ih:=dw cj;have ia:=aI a;refine⟨λkt X g xs Z T h=>?_,λkt X g xs Z pos T h=>?_,λkt X g xs Z pos T h=>?_⟩;·obtain⟨x,ys,rfl,h1,h2,h3⟩:=gh h;exact lF (ia kt X g x Z T h1).1 (ih.1 kt X g ys Z T h3) h2
  ·obtain⟨x,ys,rfl,h1,h2,h3⟩:=gh h;cases cj with|nil=>rw[lG h3];exact⟨Oe (ia kt X g x Z T h1).1,Ku (ia kt X g x Z T h1).2⟩|cons b bs=>obtain⟨y,zs,rfl,_,_,_⟩:=gh h3;obtain⟨i1,i2⟩:=ih.2.1 kt X g (y::zs) Z pos T h3;exact⟨Of (ia kt X g x Z T h1).1 i1,Kv (ia kt X g x Z T h1).2 i2⟩
  ·obtain⟨x,ys,rfl,h1,h2,h3⟩:=gh h;cases cj with|nil=>rw[lG h3];exact⟨R6 (ia kt X g x Z T h1).1,Og (ia kt X g x Z T h1).2⟩|cons b bs=>obtain⟨y,zs,rfl,_,_,_⟩:=gh h3;obtain⟨i1,i2⟩:=ih.2.2 kt X g (y::zs) Z pos T h3;exact⟨R7 (ia kt X g x Z T h1).1 i1,Oh (ia kt X g x Z T h1).2 i2⟩
theorem qy:∀o:Option E,SM C o
 |none=>⟨λkt X g x Z T h=>by
   have:x=Θ:=aal.mp h;rw[this];exact Kz,λkt X g ifs T h=>by
   have:ifs=[]:=Yy.mp h;rw[this];exact Fq⟩
 |some a=>by
  have ia:=aI a;refine⟨λkt X g x Z T h=>?_,λkt X g ifs T h=>?_⟩;·refine uJ h λ_ h=>?_;exact KA (ia kt X g _ Z T h).1
  ·refine aE h λ_ _ h=>?_;simp only[Yj,Yy] at h;obtain⟨rfl,h⟩:=h;exact Ft λZ=>(ia kt X g _ Z T h).2
theorem OG:∀l:L,SL C l
 |.fQ es=>λkt X g e Z T h=>by refine AH h λ_ _ h=>?_;exact Oi ((dw es).1 kt X g _ Z T h)|.comp w ts js c ee=>λkt X g e Z T h=>by
  refine dJ h λelt gens sc pos' h=>?_;refine aE h λge r h=>?_;refine mf h λtg iter ifs a h=>?_;refine aG h λx pos h=>?_;simp only[Yj,qqq,YV,Yy] at h;obtain⟨⟨⟨⟨⟨⟨⟨⟨⟨⟨rfl,rfl⟩,rfl⟩,h1⟩,W2⟩,h2⟩,h3⟩,h4⟩,h5⟩,h6⟩,h7⟩:=h;have B:=T.qx h2;have T':∀η fp Cc s H,Good (mE X η (hU g x js) sc fp Cc s H) kt (g.inner (hU g x js) sc) C:=λη fp Cc s H=>T.inner (js:=js) B.eR;refine PE.imp (yx T.calm B (qz w kt X g iter (.Name x pos) Z T h1 (λz=>by rw[W2] at z;cases z)) (λη fp Cc s H=>cM (i:=0) h4 rfl (.inl ((T' η fp Cc s H).loc x h3)) (.inr ((T' η fp Cc s H).loc x h3)))
   (λη fp Cc s H=>(qy c).2 kt _ _ _ ?Zg h5) (λη fp Cc s H=>Fu λZ=>(aI ee kt _ _ _ Z ?Zg h6).1) (λy=>?_)) λσ H Q q=>AW q
  cases iter<;>first
   |rfl
   |exact absurd (show Λ=Ξ from h7) Zh.symm
 |.iE w js c ee=>λkt X g e Z T h=>by
  refine dJ h λelt gens sc KO h=>?_;refine aE h λge r h=>?_;refine mf h λtg iter ifs a h=>?_;refine jL h λns k2 p2 h=>?_;refine aE h λn1 WM h=>?_;refine aG h λx px h=>?_;refine aE h λn2 WN h=>?_;refine aG h λy py h=>?_;simp only[Yj,qqq,YV,Yy] at h;obtain⟨⟨⟨⟨⟨⟨⟨⟨⟨⟨rfl,rfl⟩,rfl⟩,h1⟩,h2⟩,h3⟩,Ss⟩,h4⟩,h5⟩,h6⟩,h7⟩:=h;have B:=T.qx h2;have T':∀η fp Cc s H,Good (mE X η (lC g x y js) sc fp Cc s H) kt (g.inner (lC g x y js) sc) C:=λη fp Cc s H=>T.inner (js:=js) B.eR;refine PE.imp (yx T.calm B (qz w kt X g iter (.Tuple [.Name x px,.Name y py] k2 p2) Z T h1 (λ_=>⟨_,_,_,rfl⟩)) (λη fp Cc s H=>tK (n:=2) (T' η fp Cc s H).calm (dW (cM (i:=0) h4 rfl (.inl ((T' η fp Cc s H).loc x h3)) (.inr ((T' η fp Cc s H).loc x h3))) (dW (cM (i:=1) h4 rfl (.inl ((T' η fp Cc s H).loc y Ss)) (.inr ((T' η fp Cc s H).loc y Ss))) oo)))
   (λη fp Cc s H=>(qy c).2 kt _ _ _ ?Zg h5) (λη fp Cc s H=>Fu λZ=>(aI ee kt _ _ _ Z ?Zg h6).1) (λy=>?_)) λσ H Q q=>xI q
  cases iter<;>first
   |rfl
   |exact absurd (show Λ=Ξ from h7) Zh.symm
 |.list a=>λkt X g e Z T h=>by refine aW h λ_ _ _ _ h=>?_;refine aG h λ_ _ h=>?_;refine aE h λ_ _ h=>?_;simp only[Yj,qqq,Yy] at h;obtain⟨⟨⟨⟨⟨rfl,rfl⟩,rfl⟩,h1⟩,h2⟩,h3⟩:=h;exact Oj T h1 (aI a kt X g _ Z T h2).1 h3|.keys a=>λkt X g e Z T h=>by refine aW h λ_ _ _ _ h=>?_;refine aG h λ_ _ h=>?_;refine aE h λ_ _ h=>?_;simp only[Yj,qqq,Yy] at h;obtain⟨⟨⟨⟨⟨rfl,rfl⟩,rfl⟩,h1⟩,h2⟩,h3⟩:=h;exact Ol T h1 (aI a kt X g _ Z T h2).1 h3|.fR es=>λkt X g e Z T h=>by refine aW h λ_ _ _ _ h=>?_;refine aG h λ_ _ h=>?_;refine aE h λ_ _ h=>?_;refine aW h λ_ _ _ _ h=>?_;refine aG h λ_ _ h=>?_;simp only[Yj,qqq,Yy] at h;obtain⟨⟨⟨⟨⟨⟨⟨rfl,rfl⟩,rfl⟩,rfl⟩,h1⟩,rfl⟩,h2⟩,h3⟩:=h;exact Ox T h2 h1 h3 ((dw es).1 kt X g _ Z T h3)|.zip a b=>λkt X g e Z T h=>by refine aW h λ_ _ _ _ h=>?_;refine aG h λ_ _ h=>?_;refine aE h λ_ _ h=>?_;refine aW h λ_ _ _ _ h=>?_;refine aG h λ_ _ h=>?_;refine aE h λ_ _ h=>?_;refine aE h λ_ _ h=>?_;simp only[Yj,qqq,Yy] at h;obtain⟨⟨⟨⟨⟨⟨⟨⟨⟨⟨⟨rfl,rfl⟩,rfl⟩,rfl⟩,rfl⟩,h1⟩,rfl⟩,h2⟩,h3⟩,h4⟩,h5⟩,h6⟩:=h;exact Oy T h2 h1 (aI a kt X g _ Z T h3).1 h4 (aI b kt X g _ Z T h5).1 h6|.cx a js c ee=>λkt X g e Z T h=>by
  refine dJ h λelt gens sc pos' h=>?_;refine aE h λge r h=>?_;refine mf h λtg iter ifs a h=>?_;refine aG h λx pos h=>?_;simp only[Yj,qqq,YV,Yy] at h;obtain⟨⟨⟨⟨⟨⟨⟨⟨rfl,rfl⟩,h1⟩,h2⟩,h3⟩,h4⟩,h5⟩,h6⟩,h7⟩:=h;have B:=T.qx h2;have T':∀η fp Cc s H,Good (mE X η (hU g x js) sc fp Cc s H) kt (g.inner (hU g x js) sc) C:=λη fp Cc s H=>T.inner (js:=js) B.eR;refine PE.imp (yx T.calm B (sM (aI a kt X g iter Z T h1).1) (λη fp Cc s H=>cM (i:=0) h4 rfl (.inl ((T' η fp Cc s H).loc x h3)) (.inr ((T' η fp Cc s H).loc x h3)))
   (λη fp Cc s H=>(qy c).2 kt _ _ _ ?Zg h5) (λη fp Cc s H=>Fu λZ=>(aI ee kt _ _ _ Z ?Zg h6).1) (λy=>?_)) λσ H Q q=>xJ q
  cases iter<;>first
   |rfl
   |exact absurd (show Λ=Ξ from h7) Zh.symm
theorem qz:∀w:W,SW C w
 |.ex a=>λkt X g e tg Z T h _=>by have h:=Bool.and_eq_true_iff.mp h;exact Se (aI a kt X g e Z T h.1).1|.fR es=>λkt X g e tg Z T h _=>by refine aW h λ_ _ _ _ h=>?_;refine aG h λ_ _ h=>?_;simp only[Yj,qqq,Yy] at h;obtain⟨⟨⟨rfl,rfl⟩,h1⟩,h2⟩:=h;exact Ov T h1 h2 ((dw es).1 kt X g _ Z T h2)|.enum a=>λkt X g e tg Z T h ht=>by obtain⟨es,k,p,rfl⟩:=ht rfl;refine aW h λ_ _ _ _ h=>?_;refine aG h λ_ _ h=>?_;refine aE h λ_ _ h=>?_;simp only[Yj,qqq,Yy] at h;obtain⟨⟨⟨⟨⟨rfl,rfl⟩,rfl⟩,h1⟩,h2⟩,h3⟩:=h;exact KH T h1 (aI a kt X g _ Z T h2).1 h3
end
end
def iR(g:G)(x:Str):Bool:=decide (g.names.lookup x=Δ .local)||decide (g.names.lookup x=Δ .cell)
def Su(g:G)(t:Tg)(e:Expr):Bool:=match t with|.nm i=>bj e λx _=>decide (g.N[i]?=Δ x)&&iR g x|.tup _=>Ξ|.two i j=>oQ e λes _ _=>aX es λa r=>bj a λx _=>aX r λb r'=>bj b λy _=>r'.isEmpty&&decide (g.N[i]?=Δ x)&&iR g x&&decide (g.N[j]?=Δ y)&&iR g y
def HM:Tg->Bool
 |.two _ _=>Λ|_=>Ξ
def D3(e:Expr):Bool:=e.ctorIdx==9||e.ctorIdx==10
mutual
def pR(g:G):S->Stmt->Bool
 |.ret e=>λs=>mi s λv _=>yR v λx=>ir g e x|.Fd=>λs=>mi s λv _=>v.isNone|.set i e=>λs=>jK s λts v _=>aX ts λt r=>bj t λx _=>r.isEmpty&&decide (g.N[i]?=Δ x)&&iR g x&&ir g e v&&!D3 v|.ifs c a b=>λs=>HB s λx ys zs _=>ir g c x&&uU g a ys&&uU g b zs|.eV t w b=>λs=>qp s λtg iter body orelse _=>orelse.isEmpty&&Su g t tg&&UD g w iter&&uU g b body&&!cB iter&&(!CS w||HM t)|.gS t e b=>λs=>qp s λtg iter body orelse _=>orelse.isEmpty&&Su g t tg&&ir g e iter&&uU g b body&&!cB iter&&!HM t|.CG i j a b=>λs=>qp s λtg iter body orelse _=>bZ iter λf0 xs je cp=>cf f0 λo n ap=>orelse.isEmpty&&xs.isEmpty&&je.isEmpty&&Su g (.two i j) tg&&decide (n="items")&&!isCall o&&?QU&&ir g a o&&uU g b body|.jB i j a b=>λs=>qp s λtg iter body orelse _=>bZ iter λf0 xs je cp=>bj f0 λn _=>aX xs λo r=>orelse.isEmpty&&r.isEmpty&&je.isEmpty&&Su g (.two i j) tg&&decide (n="enumerate")&&g.gl "enumerate"&&notStar o&&ir g a o&&uU g b body|.kq c b=>λs=>uL s λx body orelse _=>orelse.isEmpty&&ir g c x&&uU g b body|.nj i k=>λs=>iP s λname params body W3 rt tps scope tsc bind pos=>W3.isEmpty&&rt.isNone&&tps.isEmpty&&tsc.isNone&&decide (bind=name)&&g.RZ i k name params body scope pos|.expr e=>λs=>sW s λx _=>ir g e x&&!nE x|.app a e=>λs=>sW s λc _=>bZ c λf0 xs je cp=>cf f0 λo n ap=>aX xs λx r=>r.isEmpty&&je.isEmpty&&?QU&&decide (n="append")&&!isCall o&&ir g a o&&ir g e x&&notStar x|.put a i e=>λs=>jK s λts v _=>aX ts λt r=>jr t λo k _=>r.isEmpty&&ir g a o&&ir g i k&&ir g e v&&!nE v|.mG c f i e=>λs=>jK s λts v _=>aX ts λt r=>cf t λo n _=>bj o λx _=>r.isEmpty&&decide (n=f)&&g.zN c f&&decide (g.N[i]?=Δ x)&&g.yO x&&aV x&&ir g e v
def uU(g:G):List S->List Stmt->Bool
 |[]=>λl=>l.isEmpty|s::ss=>λl=>aX l λx xs=>pR g s x&&uU g ss xs
end
inductive tS (K:KB) (Z:List Addr) (d:bS->aK->R Fl) (D:Ends) (σ:L2.St) (H:Hp):Prop
 |mk (m:List Addr) (r:bS) (st:aK) (a:cA K H m Z r σ) (b:aA K H m Z st) (c:Ok K Z (d r st) m H (rH K Z D)):tS K Z d D σ H
structure fW(X:Cx)(kt:KT)(g:G)(C:Nat->List P->aK->R P):Prop extends Good X kt g C where
 cell:∀x,g.names.lookup x=Δ .cell->X.env.scope.names.lookup x=Δ .cell
 nd:g.N.Nodup
 UL:∀x,g.names.lookup x=Δ .cell->X.fn x=Λ
 nj:∀i k name params body scope pos,g.RZ i k name params body scope pos=Λ->∀Z,PS X (.FunctionDef name params body [] Θ [] scope Θ name pos) (tS ?B Z (aQ C (.nj i k)))
 own:PassesOwn ?G X.A X.env X.xe
section
variable{X:Cx}{g:G}{C:Nat->List P->aK->R P}{Z:List Addr}
theorem PS.imp{st:Stmt}(h:PS X st t)(i:∀D σ H,t' D σ H->t D σ H):PS X st t':=λη s σ H D I q=>h η s σ H D I (i D σ H q)
theorem m8.imp{st:List Stmt}(h:m8 X st t)(i:∀D σ H,t' D σ H->t D σ H):m8 X st t':=λη s σ H D I q=>h η s σ H D I (i D σ H q)
theorem fW.wy(T:fW X kt g C)(h:iR g x=Λ):Loc X.env.scope x:=by
 unfold iR at h;simp only[aaR,qqq] at h;rcases h with h|h;·exact .inl (T.loc x h)
 ·exact .inr (T.cell x h)
theorem fW.Js(T:fW X kt g C)(h:iR g x=Λ):X.fn x=Λ\/X.env.scope.names.lookup x=Δ .local:=by
 unfold iR at h;simp only[aaR,qqq] at h;rcases h with h|h;·exact .inr (T.loc x h)
 ·exact .inl (T.UL x h)
theorem cA.set{K:KB}(A:cA K H m Z r σ)(rv:aj K H m Z p v):cA K H m Z (r.set i (Δ p)) (σ.set i (Δ v)):=by
 refine⟨by rw[ZH,ZH];exact A.len,λj q h=>?_⟩;by_cases hj:i=j
 ·subst hj;have hi:i < r.length:=by have:=(qqz h).1;rwa [ZH] at this
  rw[YL hi] at h;cases h;exact⟨v,by rw[YL (by rw[<-A.len];exact hi)],rv⟩
 ·rw[Yp hj] at h;obtain⟨w',e,r'⟩:=A.at_ j q h;exact⟨w',by rw[Yp hj];exact e,r'⟩
theorem Sv(h:PE X x (tE ?B Z (ae C e))):PS X (.Return (Δ x) pos) (tS ?B Z (aQ C (.ret e))):=by refine PS.imp (MX h) ?_;rintro D σ H ⟨m,r,st,ar,as,h⟩;rw[qh] at h;exact⟨m,r,st,ar,as,(Ok.bind h).mono λp st1 m1 H1 bU bg h1=>Ok.here h1 bg⟩
theorem OH:PS X (.Return Θ pos) (tS ?B Z (aQ C .Fd)):=by refine PS.imp JE ?_;rintro D σ H ⟨m,r,st,ar,as,h⟩;rw[uu] at h;exact Ok.here h as .bC rfl
theorem yV(h:nE x=Ξ):abu x t line env=pure Ξ:=by
 cases x<;>first
  |rfl
  |exact absurd (show Λ=Ξ from h) Zh.symm
theorem Sw(T:fW X kt g C)(hi:g.N[i]?=Δ x)(hl:iR g x=Λ)(hc:nE v=Ξ)(h:PE X v (tE ?B Z (ae C e))):PS X (.Assign [.Name x p] v pos) (tS ?B Z (aQ C (.set i e))):=by refine PS.imp (Gu (i:=i) (by rw[T.N];exact T.nd) (by rw[T.N];exact hi) (T.wy hl) h (yV hc) (T.Js hl)) ?_;rintro D σ H ⟨m,r,st,ar,as,h⟩;rw[qi] at h;refine⟨m,r,st,ar,as,(Ok.bind h).mono λq st1 m1 H1 bU bg h1 v rv=>?_⟩;exact Ok.here h1 bg (σ.set i (Δ v)) ((ar.le bU).set rv)
theorem HN(h:ir g e (.ListComp elt gens sc pos)=Λ):(∃mu w ts js c ee,e=.lst mu (.comp w ts js c ee))\/(∃mu a js c ee,e=.lst mu (.cx a js c ee))\/∃mu w js c ee,e=.lst mu (.iE w js c ee):=by
 cases e with
 |lst mu l=>cases l with|comp w ts js c ee=>exact .inl ⟨mu,w,ts,js,c,ee,rfl⟩|cx a js c ee=>exact .inr (.inl ⟨mu,a,js,c,ee,rfl⟩)|iE w js c ee=>exact .inr (.inr ⟨mu,w,js,c,ee,rfl⟩)|_=>exact nomatch ?Qi
 |_=>exact nomatch ?Qi
theorem D4(hk:env.scope.kind=.function):
  abu (.ListComp elt gens sc pos) (Δ (.Name x p)) line env=pure (decide (env.scope.names.lookup x=Δ .local)&&(p.line==pos.line)&&!(sc.names.any λq=>q.1==x&&(q.2==.local||q.2==.cell))):=by
 unfold abu;dsimp only;have h1:env.blockKind=.function:=by unfold PySem.Env.blockKind;rw[hk];rfl
 have h2:(env.kindOf x==Δ .local)=decide (env.scope.names.lookup x=Δ .local):=by
  unfold PySem.Env.kindOf;by_cases h:env.scope.names.lookup x=Δ .local;·rw[h];rfl
  ·rw[decide_eq_false h];exact beq_eq_false_iff_ne.mpr h
 rw[h1,h2];rfl
theorem tu{D:Ends}(h:tS ?B Z (aQ C (.set i e)) D σ H):tE ?B Z (ae C e) σ H λv H1=>D.nx (σ.set i (Δ v)) H1:=by obtain⟨m,r,st,ar,as,h⟩:=h;rw[qi] at h;refine⟨m,r,st,ar,as,(Ok.bind h).mono λq st1 m1 H1 bU bg h1 v rv=>?_⟩;exact Ok.here h1 bg (σ.set i (Δ v)) ((ar.le bU).set rv)
theorem HP(T:fW X kt g C)(hi:g.N[i]?=Δ x)(hl:iR g x=Λ)(hc:D3 v=Ξ)(h:ir g e v=Λ):PS X (.Assign [.Name x p] v pos) (tS ?B Z (aQ C (.set i e))):=by
 have he:=(aI e kt X g v Z T.toGood h).1;by_cases Gc:nE v=Ξ;·exact Sw T hi hl Gc he
 ·cases v with
  |ListComp elt gens sc KO=>
   intro η s σ H D I q;have sw:=D4 (x:=x) (p:=p) (elt:=elt) (gens:=gens) (sc:=sc) (pos:=KO) (line:=pos.line) I.ok.kind;cases hb:(decide (X.env.scope.names.lookup x=Δ .local)&&(p.line==KO.line)&&!(sc.names.any λq=>q.1==x&&(q.2==.local||q.2==.cell))) with
   |false=>rw[hb] at sw;exact PS.imp (Gu (i:=i) (by rw[T.N];exact T.nd) (by rw[T.N];exact hi) (T.wy hl) he sw (T.Js hl)) (λD σ H q=>tu q) η s σ H D I q|true=>
    have W4:X.Ok->abu (.ListComp elt gens sc KO) (Δ (.Name x p)) pos.line X.env=pure Λ:=λok=>by rw[D4 ok.kind,hb]
    rcases HN h with ⟨mu,w,ts,js,c,ee,rfl⟩|⟨mu,a,js,c,ee,rfl⟩|⟨mu,w,js,c,ee,rfl⟩
    ·have q1:=sZ (tu q);refine aE (show aX gens _=Λ from h) λge r h=>?_;refine mf h λtg iter ifs a h=>?_;refine aG h λy py h=>?_;simp only[Yj,qqq,YV,Yy] at h;obtain⟨⟨⟨⟨⟨⟨⟨⟨⟨⟨rfl,rfl⟩,rfl⟩,h1⟩,W2⟩,h2⟩,h3⟩,h4⟩,h5⟩,h6⟩,h7⟩:=h;have B:=T.toGood.qx h2;have T':∀η fp Cc s H,Good (mE X η (hU g y js) sc fp Cc s H) kt (g.inner (hU g y js) sc) C:=λη fp Cc s H=>T.toGood.inner (js:=js) B.eR;refine ni T.calm B (qz w kt X g iter (.Name y py) Z T.toGood h1 (λz=>by rw[W2] at z;cases z)) (λη fp Cc s H=>cM (i:=0) h4 rfl (.inl ((T' η fp Cc s H).loc y h3)) (.inr ((T' η fp Cc s H).loc y h3)))
      (λη fp Cc s H=>(qy c).2 kt _ _ _ ?Zg h5) (λη fp Cc s H=>Fu λZ=>(aI ee kt _ _ _ Z ?Zg h6).1) (λy=>?_) W4 ?Qn η s σ H D I (AW q1)
     cases iter<;>first
      |rfl
      |exact absurd (show Λ=Ξ from h7) Zh.symm
    ·have q1:=sZ (tu q);refine aE (show aX gens _=Λ from h) λge r h=>?_;refine mf h λtg iter ifs a9 h=>?_;refine aG h λy py h=>?_;simp only[Yj,qqq,YV,Yy] at h;obtain⟨⟨⟨⟨⟨⟨⟨⟨rfl,rfl⟩,h1⟩,h2⟩,h3⟩,h4⟩,h5⟩,h6⟩,h7⟩:=h;have B:=T.toGood.qx h2;have T':∀η fp Cc s H,Good (mE X η (hU g y js) sc fp Cc s H) kt (g.inner (hU g y js) sc) C:=λη fp Cc s H=>T.toGood.inner (js:=js) B.eR;refine ni T.calm B (sM (aI a kt X g iter Z T.toGood h1).1) (λη fp Cc s H=>cM (i:=0) h4 rfl (.inl ((T' η fp Cc s H).loc y h3)) (.inr ((T' η fp Cc s H).loc y h3)))
      (λη fp Cc s H=>(qy c).2 kt _ _ _ ?Zg h5) (λη fp Cc s H=>Fu λZ=>(aI ee kt _ _ _ Z ?Zg h6).1) (λy=>?_) W4 ?Qn η s σ H D I (xJ q1)
     cases iter<;>first
      |rfl
      |exact absurd (show Λ=Ξ from h7) Zh.symm
    ·have q1:=sZ (tu q);refine aE (show aX gens _=Λ from h) λge r h=>?_;refine mf h λtg iter ifs a h=>?_;refine jL h λns k2 p2 h=>?_;refine aE h λn1 WM h=>?_;refine aG h λy py h=>?_;refine aE h λn2 WN h=>?_;refine aG h λz pz h=>?_;simp only[Yj,qqq,YV,Yy] at h;obtain⟨⟨⟨⟨⟨⟨⟨⟨⟨⟨rfl,rfl⟩,rfl⟩,h1⟩,h2⟩,h3⟩,Ss⟩,h4⟩,h5⟩,h6⟩,h7⟩:=h;have B:=T.toGood.qx h2;have T':∀η fp Cc s H,Good (mE X η (lC g y z js) sc fp Cc s H) kt (g.inner (lC g y z js) sc) C:=λη fp Cc s H=>T.toGood.inner (js:=js) B.eR;refine ni T.calm B (qz w kt X g iter (.Tuple [.Name y py,.Name z pz] k2 p2) Z T.toGood h1 (λ_=>⟨_,_,_,rfl⟩)) (λη fp Cc s H=>tK (n:=2) (T' η fp Cc s H).calm (dW (cM (i:=0) h4 rfl (.inl ((T' η fp Cc s H).loc y h3)) (.inr ((T' η fp Cc s H).loc y h3))) (dW (cM (i:=1) h4 rfl (.inl ((T' η fp Cc s H).loc z Ss)) (.inr ((T' η fp Cc s H).loc z Ss))) oo)))
      (λη fp Cc s H=>(qy c).2 kt _ _ _ ?Zg h5) (λη fp Cc s H=>Fu λZ=>(aI ee kt _ _ _ Z ?Zg h6).1) (λy=>?_) W4 ?Qn η s σ H D I (xI q1)
     cases iter<;>first
      |rfl
      |exact absurd (show Λ=Ξ from h7) Zh.symm
  |SetComp _ _ _ _=>cases hc|DictComp _ _ _ _ _=>cases hc|_=>exact absurd rfl Gc
theorem OI(hc:nE x=Ξ)(h:PE X x (tE ?B Z (ae C e))):PS X (.Expr x pos) (tS ?B Z (aQ C (.expr e))):=by refine PS.imp (Dx h (yV hc)) ?_;rintro D σ H ⟨m,r,st,ar,as,h⟩;rw[uz] at h;refine⟨m,r,st,ar,as,(Ok.bind h).mono λq st1 m1 H1 bU bg h1 v rv=>?_⟩;exact Ok.here h1 bg σ (ar.le bU)
theorem ai.setAt{K:KB}(r:aj K H m Z p v):∀{xs} {us} (j),ai K H m Z xs us->ai K H m Z (xs.set j p) (us.set j v)
 |[],us,j,h=>by cases ?QD;exact rfl|x::xs,us,j,h=>by obtain⟨u,KJ,rfl,r1,rs⟩:=(show ∃v vs,us=v::vs/\aj K H m Z x v/\ai K H m Z xs vs from h);cases j with|zero=>exact⟨v,KJ,rfl,r,rs⟩|succ j=>exact⟨u,KJ.set j v,rfl,r1,ai.setAt r j rs⟩
theorem Sx(hl:?QU=Λ)(hc:isCall o=Ξ)(ho:PE X o (tE ?B Z (ae C a)))(hx:PE X x (tE ?B Z (ae C e)))(hs:notStar x=Λ):
  PS X (.Expr (.Call (.Attribute o "append" ap) [x] [] cp) pos) (tS ?B Z (aQ C (.app a e))):=by
 have s1:YX [x] X.env=[(Ξ,eval x X.env)]:=bI hs;refine PS.imp (Dx (Q4 PySem.F.plainAttrs_list PySem.F.slot_list_append PySem.F.type_list_append p6 ho (lF hx uQ hs) (uR hc) (by rw[s1];rfl) hl s1 rfl) rfl) ?_;rintro D σ H ⟨m,r,st,ar,as,h⟩;rw[xx] at h;refine⟨m,r,st,ar,as,(Ok.bind h).mono λy st1 m1 H1 bU bg h1 v rv=>?_⟩;obtain⟨its,e1,h2,dX⟩:=Ok.of (Ok.bind h1) bg;clear dX;obtain⟨l,us,rfl,hq,rs⟩:=ff bg e1 rv;refine⟨.inl ⟨rfl,us,.inl hq⟩,m1,r,st1,ar.le bU,bg,?_⟩;show Ok ?B Z (aC C [e] r st1) m1 H1 _;simp only[ak,az];cases hr:ae C e r st1 with
 |ex x s=>rw[hr] at h2;exact(show False from h2).elim|no=>rw[hr] at h2;exact(show False from h2).elim|ok w st2=>
  rw[hr] at h2;simp only[aa] at h2 ⊢;intro m2 H2 fj eZ vs jc;obtain⟨u,rfl,ru⟩:=AO jc;obtain⟨st3,e2,h3,dX⟩:=Ok.of (Ok.bind (Ok.le h2 fj)) eZ;clear dX;unfold yL at e2;split at e2
  ·rename_i n;split at e2
   ·rename_i xs Sr;split at e2;·rename_i fT;cases e2;obtain⟨b,hb,eb⟩:=rv.le fj;cases eb;obtain⟨b',jk,zs,hz,rz⟩:=eZ.at_ n _ Sr;rw[hb] at jk;cases jk;obtain⟨uT,vW⟩:=eZ.write (ho:=.lst (zs++[u])) (o':=.lst (xs++[w])) Sr hb λH' e _ f=>⟨_,e,(rz.mono f).append ⟨u,[],rfl,f _ _ ru,rfl⟩⟩;refine⟨l,zs,u,rfl,rfl,hz,by rw[rz.length,<-dv];exact fT,?_⟩;exact h3 m2 _ uT vW σ (((ar.le bU).le fj).le uT)
    ·cases e2
   ·cases e2
  ·cases e2
def Sy:QG:=λo i v H Q=>∃a H4,o=.ref a/\z9 H a i v H4/\Q H4
theorem KP(hu:X.A.units+100 < cLine):EE X Sy:=by intro η s σ H o i v ov iv u Q I ro ri rv h;obtain⟨a,H4,rfl,g,q⟩:=h;cases ro;exact ES ?D I g ri rv λs4 I4=>⟨H4,I4,q⟩
theorem KQ(h:EE X t)(h':EE X t'):EE X (λo i v H Q=>t o i v H Q\/t' o i v H Q):=by
 intro η s σ H o i v ov iv u Q I ro ri rv q;rcases q with q|q;·exact h η s σ H o i v ov iv u Q I ro ri rv q
 ·exact h' η s σ H o i v ov iv u Q I ro ri rv q
theorem OJ(hp:EE X t)(ho:PE X o td)(hi:PE X i ty)(hv:PE X value tv)(hs:abu value (Δ (.Subscript o i pos')) pos.line X.env=pure Ξ):
  PS X (.Assign [.Subscript o i pos'] value pos) (λD σ H=>tv σ H λv H1=>td σ H1 λx H2=>ty σ H2 λy H3=>t x y v H3 λH4=>D.nx σ H4):=by
 intro η s σ H D I h;refine wpAny_Assign_Subscript (bW (hv η s σ H _ I h) λr s1 ⟨v,H1,I1,rv,q1⟩=>bW (ho η s1 σ H1 _ I1 q1) λu s2 ⟨x,H2,I2,rx,q2⟩=>bW (hi η s2 σ H2 _ I2 q2) λiv s3 ⟨y,H3,I3,ry,q3⟩=>?_) hs;exact bW (hp η s3 σ H3 x y v u iv r _ I3 rx ry rv q3) λ_ s4 ⟨H4,I4,q4⟩=>⟨σ,H4,I4,q4⟩
theorem Sz(T:Good X kt g C)(hc:nE v=Ξ)(ho:PE X o (tE ?B Z (ae C a)))(hk:PE X k (tE ?B Z (ae C i)))(hv:PE X v (tE ?B Z (ae C e))):
  PS X (.Assign [.Subscript o k pos'] v pos) (tS ?B Z (aQ C (.put a i e))):=by
 refine PS.imp (OJ (KQ set_list (KP T.hu)) ho hk hv (yV hc)) ?_;rintro D σ H ⟨m,r,st,ar,as,h⟩;rw[xy] at h;refine⟨m,r,st,ar,as,(Ok.bind h).mono λw st1 m1 H1 bU bg h1 vw nh=>?_⟩;refine⟨m1,r,st1,ar.le bU,bg,(Ok.bind h1).mono λx st2 m2 H2 fj eZ h2 vx rx=>?_⟩;refine⟨m2,r,st2,(ar.le bU).le fj,eZ,(Ok.bind h2).mono λy st3 m3 H3 uT vW h3 vy ry=>?_⟩;obtain⟨mN,e2,h4,dX⟩:=Ok.of (Ok.bind h3) vW;clear dX;have W5:=(nh.le fj).le uT;have W6:=((ar.le bU).le fj).le uT;unfold nv at e2;split at e2
 ·rename_i n;obtain⟨ob,Ot,e5⟩:=dc e2;clear e2;obtain⟨ob',e3,rfl⟩:=iw e5;clear e5;obtain⟨b,hb,eb⟩:=rx.le uT;cases eb;obtain⟨b',jk,ao⟩:=vW.at_ n _ Ot;rw[hb] at jk;cases jk;cases ob with
  |ins c fs=>cases e3|wm=>cases e3|lst xs=>
   obtain⟨zs,hz,rz⟩:=ao;unfold Ay at e3;dsimp only at e3;split at e3;·rename_i j;obtain⟨q,hq,rfl⟩:=iw e3;cases (show vy=.int j from ry);obtain⟨zO,DW⟩:=vW.write (ho:=.lst (zs.set q vw)) (o':=.lst (xs.set q w)) Ot hb λH' e _ f=>⟨_,e,(rz.mono f).setAt (f _ _ W5) q⟩;refine .inl ⟨b,zs,j,q,rfl,rfl,hz,by rw[rz.length];exact hq,?_⟩;exact h4 m3 _ zO DW σ (W6.le zO)
   ·cases e3
  |dK kvs=>
   obtain⟨us,hu,rs⟩:=ao;have e4:(if ?Ql < aq then(keyOf y).map λk=>O.dK (mI kvs k w) else Θ)=Δ ob':=e3;split at e4;·rename_i fT;obtain⟨kk,E3,rfl⟩:=iw e4;rw[ry.key E3];obtain⟨zO,DW⟩:=vW.write (ho:=.dK (putK us kk vw)) (o':=.dK (mI kvs kk w)) Ot hb λH' e _ f=>⟨_,e,(rs.mono f).put (f _ _ W5)⟩;refine .inr ⟨b,_,rfl,z9.k hu (by rw[rs.length,<-dv];exact fT),?_⟩;exact h4 m3 _ zO DW σ (W6.le zO)
   ·cases e4
  |dT kvs=>
   obtain⟨us,hu,rs⟩:=ao;have e4:(if ?Ql < aq then(nu y).map λk=>O.dT (mI kvs k w) else Θ)=Δ ob':=e3;split at e4;·rename_i fT;obtain⟨kk,E3,rfl⟩:=iw e4;obtain⟨bk,rfl,hbk⟩:=ry.nu E3;obtain⟨zO,DW⟩:=vW.write (ho:=.dT (putK us kk vw)) (o':=.dT (mI kvs kk w)) Ot hb λH' e _ f=>⟨_,e,(rs.mono f).put (f _ _ W5)⟩;refine .inr ⟨b,_,rfl,z9.t hu hbk (by rw[rs.length,<-dv];exact fT),?_⟩;exact h4 m3 _ zO DW σ (W6.le zO)
   ·cases e4
 ·cases e2
theorem aO.wo{K:KB}{H:Hp}{m:List Addr}{f:Str}{p:P}{v:V}(rp:aj K H m Z p v):∀{fs:List (Str×P)} {us:List (Str×V)},aO K H m Z fs us->aO K H m Z (wo f p fs) (ke f v us)
 |[],us,h=>by cases ?QD;exact⟨v,[],rfl,rp,rfl⟩|(k,q)::fs,us,h=>by
  obtain⟨w,ws,rfl,r,rs⟩:=(show ∃v vs,us=(k,v)::vs/\aj K H m Z q v/\aO K H m Z fs vs from h);show aO K H m Z (if k=f then(k,p)::fs else(k,q)::Y.wo f p fs) (if k=f then(k,v)::ws else(k,w)::ke f v ws);by_cases hk:k=f;·rw[if_pos hk,if_pos hk];exact⟨v,ws,rfl,rp,rs⟩
  ·rw[if_neg hk,if_neg hk];exact⟨w,_,rfl,r,aO.wo rp rs⟩
theorem KR:abu v (Δ (.Attribute o f p)) line env=pure Ξ:=by cases v<;>rfl
theorem OK(T:Good X kt g C)(hf:g.zN c f=Λ)(h1:g.N[i]?=Δ x)(h2:g.yO x=Λ)(h3:aV x=Λ)(hv:PE X v (tE ?B Z (ae C e))):
  PS X (.Assign [.Attribute (.Name x p) f pos'] v pos) (tS ?B Z (aQ C (.mG c f i e))):=by
 refine PS.imp (Na (AK (Z:=Z) (kt:=kt) T h1 h2 h3) hv KR) ?_;rintro D σ H ⟨m,r,st,ar,as,h⟩;rw[uB] at h;refine⟨m,r,st,ar,as,(Ok.bind h).mono λw st1 m1 H1 bU bg h1 vw nh=>?_⟩;refine⟨m1,r,st1,ar.le bU,bg,?_⟩;rw[l9];refine(Ok.bind h1).mono λx st2 m2 H2 fj eZ h2 vx rx=>?_;obtain⟨st3,e2,h4,_⟩:=Ok.of (Ok.bind h2) eZ;obtain⟨⟨n,fs⟩,e3,e4⟩:=dc e2;split at e4
 ·rename_i fT;cases e4;obtain⟨a,A,dx,us,rfl,hm,rfl,hs,g1,g2,g3,g4⟩:=CV eZ rx e3;obtain⟨A',k1,k2,k3⟩:=T.fld c f hf;rw[show YJ X.K YB c=Δ (Δ (.ref A)) from g1] at k1;cases k1;have fm:dx≠a:=by rintro rfl;rw[g2] at g3;cases g3
  obtain⟨zO,DW⟩:=eZ.write (ho:=.ins A dx (ke f vw us)) (o':=.ins c (wo f w fs)) hs hm λH' e k f=>⟨A,dx,_,g1,e,k _ _ fm g3,(g4.mono f).wo (f _ _ (nh.le fj))⟩;refine⟨a,A,dx,us,rfl,g2,k2,k3,by rw[g4.length];exact fT,?_⟩;exact h4 m2 _ zO DW σ (((ar.le bU).le fj).le zO)
 ·cases e4
theorem OL:m8 X [] (tS ?B Z (ah C [])):=by refine m8.imp JD ?_;rintro D σ H ⟨m,r,st,ar,as,h⟩;rw[uC] at h;exact Ok.here h as σ ar
theorem KS(h1:PS X x (tS ?B Z (aQ C s)))(h2:m8 X xs (tS ?B Z (ah C ss))):m8 X (x::xs) (tS ?B Z (ah C (s::ss))):=by refine m8.imp (Gr h1 h2) ?_;rintro D σ H ⟨m,r,st,ar,as,h⟩;rw[jq] at h;refine⟨m,r,st,ar,as,(Ok.bind h).mono λf st1 m1 H1 bU bg h1=>?_⟩;cases f with|nx r1=>exact λc0 W7=>⟨m1,r1,st1,W7,bg,h1⟩|bk r1=>exact Ok.here h1 bg|ct r1=>exact Ok.here h1 bg|rt v=>exact Ok.here h1 bg
theorem W8(hc:PT X c (tT ?B Z (bY (ae C ec))))(ha:m8 X a (tS ?B Z (ah C ea)))(hb:m8 X b (tS ?B Z ?Zk)):PS X (.If c a b pos) (tS ?B Z (aQ C (.ifs ec ea eb))):=by refine PS.imp (QE hc ha hb) ?_;rintro D σ H ⟨m,r,st,ar,as,h⟩;rw[qj] at h;refine⟨m,r,st,ar,as,(Ok.bind h).mono λk st1 m1 H1 bU bg h1=>?_⟩;cases k with|true=>exact⟨m1,r,st1,ar.le bU,bg,h1⟩|false=>exact⟨m1,r,st1,ar.le bU,bg,h1⟩
theorem AY{K:KB}{D:Ends}{st:aK}{k:bS->aK->R Fl}(as:aA K H m Z st)(h:Ok K Z (match f with|.nx r2=>k r2 st|.ct r2=>k r2 st|.bk r2=>R.ok (.nx r2) st|.rt v=>R.ok (.rt v) st) m H (rH K Z D))(hN:∀r σ,cA K H m Z r σ->Ok K Z (k r st) m H (rH K Z D)->N σ H):rH K Z {D with nx:=N,ct:=N,bk:=D.nx} f st m H:=by cases f with|nx r2=>exact λσ ar=>hN r2 σ ar h|ct r2=>exact λσ ar=>hN r2 σ ar h|bk r2=>exact Ok.here h as|rt v=>exact Ok.here h as
theorem KU(T:fW X kt g C)(hc:PT X c (tT ?B Z (bY (ae C ec))))(hb:m8 X body (tS ?B Z ?Zk)):PS X (.While c body [] pos) (tS ?B Z (aQ C (.kq ec eb))):=by refine PS.imp (Gv T.own hc hb) ?_;rintro D σ H ⟨m,r,st,ar,as,h⟩;rw[oM] at h;refine⟨λn σ H=>∃m r st,cA ?B H m Z r σ/\aA ?B H m Z st/\Ok ?B Z (gT (bY (ae C ec)) ?Zk n r st) m H (rH ?B Z D),⟨cF,m,r,st,ar,as,h⟩,?_⟩;rintro n σ H ⟨m,r,st,ar,as,h⟩;cases n with|zero=>exact(show False from h).elim|succ n=>rw[lA] at h;refine⟨m,r,st,ar,as,(Ok.bind h).mono λk st1 m1 H1 bU bg h1=>?_⟩;cases k with|false=>exact Ok.here h1 bg σ (ar.le bU)|true=>refine⟨λc0 H'=>∃m r st,cA ?B H' m Z r c0/\aA ?B H' m Z st/\Ok ?B Z (gT (bY (ae C ec)) ?Zk n r st) m H' (rH ?B Z D),λc0 H' q=>⟨n,Z7 n,q⟩,?_⟩;refine⟨m1,r,st1,ar.le bU,bg,(Ok.bind (show Ok ?B Z ((ah C eb r st1).bind _) m1 H1 _ from h1)).mono λf st2 m2 H2 fj eZ h2=>?_⟩;exact AY (k:=λr2 st2=>gT (bY (ae C ec)) ?Zk n r2 st2) eZ h2 λr2 PY Jr q=>⟨m2,r2,st2,Jr,eZ,q⟩
theorem HQ(T:fW X kt g C)(hs:cB iter=Ξ)(hw:PI X tg iter (tW ?B Z (bM C w)))(hg:PG X tg gt)(OA:∀(p:P) (v:V) (m:List Addr) (H:Hp) (r r1:bS) (σ:L2.St) (Q:L2.St->Hp->Prop),aj ?B H m Z p v->cA ?B H m Z r σ->gf t p r=Δ r1->(∀c0,cA ?B H m Z r1 c0->Q c0 H)->gt v σ H Q)(hb:m8 X body (tS ?B Z ?Zk)):
  PS X (.For tg iter body [] pos) (tS ?B Z (aQ C (.eV t w eb))):=by
 refine PS.imp (yn T.own T.calm hw hg hb (λy=>?_)) ?_
 ·cases iter<;>first
   |rfl
   |exact absurd (show Λ=Ξ from hs) Zh.symm
 rintro D σ H ⟨m,r,st,ar,as,h⟩;rw[uv] at h;refine⟨m,r,st,ar,as,(Ok.bind h).mono λps st1 m1 H1 bU bg h1 J wk=>?_⟩;refine⟨λi k σ H=>k=?S - i/\i<=?S/\∃m r st,Le ?B m1 H1 m H/\cA ?B H m Z r σ/\aA ?B H m Z st/\Ok ?B Z (forL (gf t) ?Zk (ps.drop i) r st) m H (rH ?B Z D),⟨?S,by simp,Zr _,m1,r,st1,Le.refl,ar.le bU,bg,by rw[abt];exact h1⟩,?_⟩;rintro j k σ H ⟨rfl,hj,m,r,st,le,ar,as,h⟩;obtain⟨w1,w2⟩:=wk m H Z le (λa ha=>.inl ha) j;by_cases fT:j < ?S;·have Qc:j < ps.length:=fT;obtain⟨go,yl⟩:=w1 ps[j] (Yn Qc);have dX:ps.drop j=ps[j]::ps.drop (j+1):=Zi Qc;rw[dX,qk] at h;refine .inr ⟨go,λc0 H'=>∃m r st,Le ?B m1 H1 m H'/\cA ?B H' m Z r c0/\aA ?B H' m Z st/\Ok ?B Z (forL (gf t) ?Zk (ps.drop (j+1)) r st) m H' (rH ?B Z D),λc0 H' q=>⟨?S - (j+1),aaV _ _ fT,rfl,fT,q⟩,λy H' hy=>?_⟩;obtain⟨sm,ry'⟩:=yl y H' hy;have C0:Le ?B m H m H':=Le.same sm;replace le:=le.trans C0;replace as:=as.same sm;replace ar:=ar.le C0;cases hr:gf t ps[j] r with|none=>rw[hr] at h;exact(show False from h).elim|some r1=>rw[hr,au,aa] at h;refine OA _ _ m H' r r1 σ _ ry' ar hr λc0 W7=>⟨m,r1,st,W7,as,(Ok.bind (Ok.le h C0)).mono λf st2 m2 H2 fj eZ h3=>?_⟩;exact AY (k:=λr2 st2=>forL (gf t) ?Zk (ps.drop (j+1)) r2 st2) eZ h3 λr2 PY Jr q=>⟨m2,r2,st2,le.trans fj,Jr,eZ,q⟩
 ·have e:j=ps.length:=by lia
  subst e;rw[ac0,Hw] at h;exact .inl ⟨w2 rfl,Ok.here h as σ ar⟩
theorem SA(T:fW X kt g C)(hi:g.N[i]?=Δ x)(hl:iR g x=Λ)(hs:cB iter=Ξ)(hw:PI X (.Name x p) iter (tW ?B Z (bM C w)))(hb:m8 X body (tS ?B Z ?Zk)):
  PS X (.For (.Name x p) iter body [] pos) (tS ?B Z (aQ C (.eV (.nm i) w eb))):=
 HQ T hs hw ?Qn (λp v m H r r1 σ Q rp ar e q=>by cases e;exact q _ (ar.set rp)) hb
theorem OM(T:fW X kt g C){p p' p2 pos:Pos}(hi:g.N[i]?=Δ x)(hl:iR g x=Λ)(E4:g.N[j]?=Δ y)(xg:iR g y=Λ)(hs:cB iter=Ξ)(hw:PI X (.Tuple [.Name x p,.Name y p'] k p2) iter (tW ?B Z (bM C w)))(hb:m8 X body (tS ?B Z ?Zk)):
  PS X (.For (.Tuple [.Name x p,.Name y p'] k p2) iter body [] pos) (tS ?B Z (aQ C (.eV (.two i j) w eb))):=by
 have nm:∀{z:Str} {a:Nat} {q:Pos},g.N[a]?=Δ z->iR g z=Λ->PG X (.Name z q) (om a):=λ{z a q} h1 h2=>cM (i:=a) (by rw[T.N];exact T.nd) (by rw[T.N];exact h1) (T.wy h2) (T.Js h2);refine HQ T hs hw (tK (n:=2) T.calm (dW (nm hi hl) (dW (nm E4 xg) oo))) (λq v m H r r1 σ Q rp ar e hq=>?_) hb;unfold gf at e;dsimp only at e;split at e;·rename_i a b;cases e;obtain⟨c,us,rfl,hc,v1,vs1,e1,W0,v2,W1,e2,Sk,e3⟩:=rp;subst e3 e2 e1;exact⟨c,_,rfl,fS.of hc,rfl,v1,[v2],rfl,v2,[],rfl,rfl,hq _ ((ar.set (p:=.d a) (show aj ?B H m Z (.d a) v1 from W0)).set (p:=.d b) (show aj ?B H m Z (.d b) v2 from Sk))⟩
 ·cases e
theorem ON(T:fW X kt g C)(hi:g.N[i]?=Δ x)(hl:iR g x=Λ)(hs:cB iter=Ξ)(hw:PE X iter (tE ?B Z (ae C e)))(hb:m8 X body (tS ?B Z ?Zk)):
  PS X (.For (.Name x p) iter body [] pos) (tS ?B Z (aQ C (.gS (.nm i) e eb))):=by
 refine PS.imp (yn T.own T.calm (sM hw) ?Qn hb (λy=>?_)) ?_
 ·cases iter<;>first
   |rfl
   |exact absurd (show Λ=Ξ from hs) Zh.symm
 rintro D σ H ⟨m,r,st,ar,as,h⟩;rw[uw] at h;refine⟨m,r,st,ar,as,(Ok.bind h).mono λx0 st1 m1 H1 bU bg h1 v rv=>?_⟩;split at h1
 ·rename_i n;obtain⟨a,ha,rfl⟩:=rv;have Sl:∃us,H1 a=Δ ?QY:=by have h2:Ok ?B Z (gS n (gf (.nm i)) ?Zk (999999+1) 0 r st1) m1 H1 (rH ?B Z D):=h1;rw[qm] at h2;cases ho:xl n st1 0 with|none=>rw[ho] at h2;exact(show False from h2).elim|some o=>obtain⟨us,hu,_⟩:=qw bg ha ho;exact⟨us,hu⟩
  obtain⟨Sm,Sn⟩:=Sl;refine⟨a,rfl,⟨Sm,.inl (.inl Sn)⟩,?_⟩;refine⟨λj k σ H=>∃m r st,Le ?B m1 H1 m H/\cA ?B H m Z r σ/\aA ?B H m Z st/\Ok ?B Z (gS n (gf (.nm i)) ?Zk k j r st) m H (rH ?B Z D),⟨cF,m1,r,st1,Le.refl,ar.le bU,bg,h1⟩,?_⟩;rintro j k σ H ⟨m,r,st,le,ar,as,h⟩;have So:m[n]?=Δ a:=by obtain⟨t,et⟩:=le.pre;rw[et,Yq (qqz ha).1];exact ha
  cases k with|zero=>exact(show False from h).elim|succ k=>rw[qm] at h;cases ho:xl n st j with|none=>rw[ho] at h;exact(show False from h).elim|some o=>rw[ho] at h;obtain⟨us,hu,q0,q1⟩:=qw as So ho;cases o with|none=>exact .inl ⟨⟨us,.inl (.inl hu),q0 rfl⟩,Ok.here (show Ok ?B Z (R.ok (Fl.nx r) st) m H (rH ?B Z D) from h) as σ ar⟩|some q=>obtain⟨vx,Mv,rx⟩:=q1 q rfl;refine .inr ⟨⟨us,vx,.inl (.inl hu),Mv⟩,λc0 H'=>∃m r st,Le ?B m1 H1 m H'/\cA ?B H' m Z r c0/\aA ?B H' m Z st/\Ok ?B Z (gS n (gf (.nm i)) ?Zk k (j+1) r st) m H' (rH ?B Z D),λc0 H' z=>⟨k,Z7 k,z⟩,λy H' hy=>?_⟩;obtain⟨rfl,hx⟩:=hy;have sQ:=hx us (.inl (.inl hu));rw[Mv] at sQ;cases sQ;have h2:Ok ?B Z ((ah C eb (r.set i (Δ q)) st).bind _) m H' (rH ?B Z D):=h;refine⟨m,r.set i (Δ q),st,ar.set rx,as,(Ok.bind h2).mono λf st2 m2 H2 fj eZ h3=>?_⟩;exact AY (k:=λr2 st2=>gS n (gf (.nm i)) ?Zk k (j+1) r2 st2) eZ h3 λr2 PY Jr q=>⟨m2,r2,st2,le.trans fj,Jr,eZ,q⟩
 ·exact(show False from h1).elim
section
variable{K:KB}{H H':Hp}{m:List Addr}
mutual
theorem aH.chg(f:∀a u,H a=Δ u->(∀o us,u≠.dA o (.dK us))->H' a=Δ u):∀{x:D} {v:V},aH K H m Z x v->aH K H' m Z x v
 |.bC,_,h=>h|.bl _,_,h=>h|.int _,_,h=>h|.str _,_,h=>h|.tup xs,v,h=>by obtain⟨a,us,e,q,r⟩:=?Qw;exact⟨a,us,e,f _ _ q (λ_ _ z=>nomatch z),av.chg f r⟩
 |.pl xs,v,h=>by
  obtain⟨a,us,e,q,hm,hz,r⟩:=?Qj;refine⟨a,us,e,?_,hm,hz,av.chg f r⟩;rcases q with q|⟨o,q⟩;·exact .inl (f _ _ q (λ_ _ z=>nomatch z))
  ·exact .inr ⟨o,f _ _ q (λ_ _ z=>nomatch z)⟩
theorem av.chg(f:∀a u,H a=Δ u->(∀o us,u≠.dA o (.dK us))->H' a=Δ u):∀{xs:List D} {us:List V},av K H m Z xs us->av K H' m Z xs us
 |[],_,h=>h|x::xs,us,h=>by obtain⟨v,vs,e,r,rs⟩:=?Qd;exact⟨v,vs,e,aH.chg f r,av.chg f rs⟩
end
mutual
theorem aj.chg(f:∀a u,H a=Δ u->(∀o us,u≠.dA o (.dK us))->H' a=Δ u):∀{x:P} {v:V},aj K H m Z x v->aj K H' m Z x v
 |.d _,_,h=>by rw[aj] at h ⊢;exact aH.chg f h|.obj n,v,h=>by rw[aj] at h ⊢;exact h|.ik ns,v,h=>by
  rw[aj] at h ⊢;obtain⟨a,e,r⟩:=h;refine⟨a,e,?_⟩;rcases r with ⟨o,r⟩|r
  ·exact .inl ⟨o,f _ _ r (λ_ _ z=>nomatch z)⟩
  ·exact .inr r
 |.fn k bA,v,h=>by rw[aj] at h ⊢;obtain⟨a,c,b7,e,q,hc,r⟩:=h;exact⟨a,c,b7,e,q,f _ _ hc (λ_ _ z=>nomatch z),ai.chg f r⟩|.lf k,v,h=>by rw[aj] at h ⊢;obtain⟨a,c,ct,e,q,r⟩:=h;exact⟨a,c,ct,e,f _ _ q (λ_ _ z=>nomatch z),f _ _ r (λ_ _ z=>nomatch z)⟩
theorem ai.chg(f:∀a u,H a=Δ u->(∀o us,u≠.dA o (.dK us))->H' a=Δ u):∀{xs:List P} {us:List V},ai K H m Z xs us->ai K H' m Z xs us
 |[],_,h=>h|x::xs,us,h=>by obtain⟨v,vs,e,r,rs⟩:=(show ∃v vs,us=v::vs/\aj K H m Z x v/\ai K H m Z xs vs by rw[ai] at h;exact h);rw[ai];exact⟨v,vs,e,aj.chg f r,ai.chg f rs⟩
end
end
theorem OO{K:KB}(e1:H1 d=Δ (.dK us))(hm:m1[n]?=Δ d)(rs:aO K H1 m1 Z kvs us)(le:Le K m1 (upd H1 d (.dA o (.dK us))) m2 H2)(as:aA K H2 m2 Z st2):H2 d=Δ (.dA o (.dK us))/\Le K m1 H1 m2 (upd H2 d (.dK us))/\aA K (upd H2 d (.dK us)) m2 Z (st2.set n ?QA)/\∀p v,aj K H2 m2 Z p v->aj K (upd H2 d (.dK us)) m2 Z p v:=by
 have e2:H2 d=Δ (.dA o (.dK us)):=le.dA _ _ _ aD;have dm:d∈m1:=Yz hm;have f:∀a u,H2 a=Δ u->(∀o us,u≠.dA o (.dK us))->upd H2 d (.dK us) a=Δ u:=λa u q z=>by rw[ax (λw'=>by rw[w',e2] at q;exact z o us (Y0 q).symm)];exact q
 have up:∀{a:Addr} {u:HO},H1 a=Δ u->a≠d->upd H1 d (.dA o (.dK us)) a=Δ u:=λq z=>by rw[ax z];exact q
 have lf:Le K m1 H1 m2 (upd H2 d (.dK us)):=by
  refine⟨le.pre,λa xs q=>?_,λa u q ha hu=>?_,λa ha=>?_,λa q=>?_,λa q=>?_,λa ob u q=>?_,λa φ q=>?_,λa ps q=>?_⟩;·exact f _ _ (le.tup _ _ (up q (λz=>by rw[z,e1] at q;cases q))) (λ_ _ z=>nomatch z)
  ·have hd:a≠d:=λz=>ha (by rw[z];exact dm);rw[ax hd];exact le.keep _ _ (up q hd) ha hu
  ·rcases le.new a ha with z|z;·exact .inl z
   ·by_cases hd:a=d;·rw[hd];exact .inl dm
    ·rw[ax hd] at z;exact .inr z
  ·by_cases hd:a=d;·rw[hd,aD];exact λz=>nomatch z
   ·rw[ax hd];exact le.rU _ (by rw[ax hd];exact q)
  ·exact ma (λ_ z=>nomatch z) (le.DM _ (ma (λ_ z=>nomatch z) q))
  ·have hd:a≠d:=λz=>by rw[z,e1] at q;cases q
   rw[ax hd];exact le.dA _ _ _ (up q hd)
  ·exact f _ _ (le.ext _ _ (up q (λz=>by rw[z,e1] at q;cases q))) (λ_ _ z=>nomatch z)
  ·obtain⟨more,w'⟩:=le.fO _ _ (up q (λz=>by rw[z,e1] at q;cases q));exact⟨more,f _ _ w' (λ_ _ z=>nomatch z)⟩
 have KW:m2[n]?=Δ d:=by obtain⟨t,et⟩:=le.pre;rw[et,Yq (qqz hm).1];exact hm
 refine⟨e2,lf,⟨by rw[ZH];exact as.len,as.nd,λk ob hk=>?_,λb hb=>ma (λ_ z=>nomatch z) (as.zt b hb),as.zm,λt ht=>?_⟩,λp v z=>z.chg f⟩
 ·by_cases N2:n=k
  ·subst N2;have fT:n < st2.length:=by rw[<-as.len];exact(qqz KW).1
   rw[YL fT] at hk;cases hk;exact⟨d,KW,us,aD,rs.mono λp v z=>z.le lf⟩
  ·rw[Yp N2] at hk;obtain⟨b,q,rr⟩:=as.at_ k ob hk;have hbd:b≠d:=by rintro rfl;obtain⟨l1,e1⟩:=qqz KW;obtain⟨l2,e2⟩:=qqz q;exact N2 (kY as.nd l1 l2 (e1.trans e2.symm))
   refine⟨b,q,rr.mono (λb' u jk hu=>?_) λp v z=>z.chg f⟩;rw[ax (λz=>by
    rcases jk with w1|w1;·exact hbd (w1▸z)
    ·rw[z,e2] at w1;cases w1)]
   exact hu
 ·obtain⟨ps,h1,h2⟩:=as.tab t ht;exact⟨ps,f _ _ h1 (λ_ _ z=>nomatch z),fV.same (λa φ z=>f _ _ z (λ_ _ w'=>nomatch w')) h2⟩
theorem rH.E8{D:Ends}(e1:H1 d=Δ (.dK us))(hm:m1[n]?=Δ d)(rs:aO ?B H1 m1 Z kvs us)(nf:NF X d)(le:Le ?B m1 (upd H1 d (.dA o (.dK us))) m2 H2)(as:aA ?B H2 m2 Z st2)(h:∀m' H',Le ?B m1 H1 m' H'->aA ?B H' m' Z (st2.set n ?QA)->rH ?B Z D fl (st2.set n ?QA) m' H'):rH ?B Z (xj X D) fl st2 m2 H2:=by obtain⟨e2,lf,cj,f⟩:=OO e1 hm rs le as;have q:=h m2 _ lf cj;have ra:∀{r:bS} {σ:L2.St},cA ?B H2 m2 Z r σ->cA ?B (upd H2 d (.dK us)) m2 Z r σ:=λA=>⟨A.len,λi p w'=>let ⟨v,x1,x2⟩:=A.at_ i p w';⟨v,x1,f _ _ x2⟩⟩;cases fl with|nx r=>exact λσ A=>⟨d,o,_,e2,nf,q σ (ra A)⟩|bk r=>exact λσ A=>⟨d,o,_,e2,nf,q σ (ra A)⟩|ct r=>exact λσ A=>⟨d,o,_,e2,nf,q σ (ra A)⟩|rt p=>exact λv A=>⟨d,o,_,e2,nf,q v (f _ _ A)⟩
theorem aO.at_{κ:Type}{K:KB}{m:List Addr}:∀{kvs:List (κ×P)} {us:List (κ×V)} {i:Nat} {k:κ} {v:V},aO K H m Z kvs us->us[i]?=Δ (k,v)->∃p,kvs[i]?=Δ (k,p)/\aj K H m Z p v
 |[],us,i,k,v,h,e=>by cases ?QD;simp at e|(q,p)::kvs,us,i,k,v,h,e=>by obtain⟨v',vs,rfl,r,rs⟩:=(show ∃v vs,us=(q,v)::vs/\aj K H m Z p v/\aO K H m Z kvs vs from h);cases i with|zero=>simp at e;obtain⟨rfl,rfl⟩:=e;exact⟨p,rfl,r⟩|succ i=>simpa using aO.at_ rs (by simpa using e)
theorem OP(T:fW X kt g C){p p' p2 ap cp pos:Pos}(hi:g.N[i]?=Δ x)(hl:iR g x=Λ)(E4:g.N[j]?=Δ y)(xg:iR g y=Λ)(hc:isCall o=Ξ)(hln:?QU=Λ)(ho:PE X o (tE ?B Z (ae C a)))(hb:m8 X body (tS ?B Z ?Zk)):
  PS X (.For (.Tuple [.Name x p,.Name y p'] k p2) (.Call (.Attribute o "items" ap) [] [] cp) body [] pos) (tS ?B Z (aQ C (.CG i j a eb))):=by
 have nm:∀{z:Str} {a:Nat} {q:Pos},g.N[a]?=Δ z->iR g z=Λ->PG X (.Name z q) (om a):=λ{z a q} h1 h2=>cM (i:=a) (by rw[T.N];exact T.nd) (by rw[T.N];exact h1) (T.wy h2) (T.Js h2);refine PS.imp (Kh (yn T.own T.calm (Hl ho (uR hc) hln) (tK (n:=2) T.calm (dW (nm hi hl) (dW (nm E4 xg) oo))) hb (λ_=>rfl))) ?_;rintro D σ H ⟨m,r,st,ar,as,h⟩;rw[ux] at h;refine⟨m,r,st,ar,as,(Ok.bind h).mono λx0 st1 m1 H1 bU bg h1 v rv=>?_⟩;obtain⟨⟨n,kvs⟩,ek,h2,dX⟩:=Ok.of (Ok.bind h1) bg;clear dX h1;obtain⟨d,us,rfl,qV,hm,rfl,hu,rs⟩:=DY bg ek rv;dsimp only at h2 qV hm rs;refine⟨d,us,rfl,hu,λob nf=>?_⟩;obtain⟨lel,asl⟩:=bg.write (ho:=.dA ob (.dK us)) (o':=.wm) qV hm (λH' e _ f=>⟨ob,us,e⟩);have rsl:aO ?B (upd H1 d (.dA ob (.dK us))) m1 Z kvs us:=rs.mono λp v z=>z.le lel;cases hr:nz i j ?Zk kvs r (st1.set n .wm) with
 |ex z s=>rw[hr] at h2;exact(show False from h2).elim|no=>rw[hr] at h2;exact(show False from h2).elim|ok f0 bG=>
  rw[hr,aa] at h2;have W9:∀m2 H2,Le ?B m1 (upd H1 d (.dA ob (.dK us))) m2 H2->aA ?B H2 m2 Z bG->rH ?B Z (xj X D) f0 bG m2 H2:=λm2 H2 fj eZ=>rH.E8 hu hm rs nf fj eZ h2;have Xa:Ok ?B Z (nz i j ?Zk kvs r (st1.set n .wm)) m1 (upd H1 d (.dA ob (.dK us))) (rH ?B Z (xj X D)):=by rw[hr];exact λm2 H2 fj eZ=>W9 m2 H2 fj eZ
  refine⟨λq l σ H=>l=?Ql - q/\q<=?Ql/\∃m r st,Le ?B m1 (upd H1 d (.dA ob (.dK us))) m H/\cA ?B H m Z r σ/\aA ?B H m Z st/\Ok ?B Z (nz i j ?Zk (kvs.drop q) r st) m H (rH ?B Z (xj X D)),⟨?Ql,by simp,Zr _,m1,r,_,Le.refl,(ar.le bU).le lel,asl,by rw[abt];exact Xa⟩,?_⟩;rintro q l σ H ⟨rfl,hq,m,r,st,le,ar,as,h⟩;have hd:H d=Δ (.dA ob (.dK us)):=le.dA _ _ _ aD;have hlen:us.length=kvs.length:=rs.length.symm▸rfl;by_cases fT:q < ?Ql
  ·have dX:kvs.drop q=kvs[q]::kvs.drop (q+1):=Zi fT;rw[dX,xA] at h;refine .inr ⟨⟨hd,by lia⟩,λc0 H'=>∃m r st,Le ?B m1 (upd H1 d (.dA ob (.dK us))) m H'/\cA ?B H' m Z r c0/\aA ?B H' m Z st/\Ok ?B Z (nz i j ?Zk (kvs.drop (q+1)) r st) m H' (rH ?B Z (xj X D)),λc0 H' z=>⟨?Ql - (q+1),aaV _ _ fT,rfl,fT,z⟩,λw' H' hy=>?_⟩;obtain⟨t,kk,vv,rB,ht,rfl,rfl⟩:=hy;obtain⟨pp,hpp,rp⟩:=rsl.at_ rB;have epp:kvs[q]=(kk,pp):=by have:=Yn fT;rw[hpp] at this;exact(Y0 this).symm
   rw[epp] at h;have C0:Le ?B m H m (upd H t (.tup [kV kk,vv])):=Le.same (bp ht _);have cj:=as.same (bp ht (.tup [kV kk,vv]));have le':=le.trans C0;refine⟨t,[kV kk,vv],rfl,fS.of aD,rfl,kV kk,[vv],rfl,vv,[],rfl,rfl,?_⟩;have rk:aj ?B (upd H t (.tup [kV kk,vv])) m Z (yM kk) (kV kk):=by cases kk<;>rfl
   refine⟨m,_,st,((ar.le C0).set rk).set (rp.le le'),cj,(Ok.bind (Ok.le h C0)).mono λf st2 m2 H2 fj eZ h3=>?_⟩;exact AY (k:=λr2 st2=>nz i j ?Zk (kvs.drop (q+1)) r2 st2) eZ h3 λr2 PY Jr z=>⟨m2,r2,st2,le'.trans fj,Jr,eZ,z⟩
  ·have e:q=kvs.length:=by lia
   subst e;rw[ac0,Hx] at h;exact .inl ⟨⟨hd,by lia⟩,Ok.here h as σ ar⟩
theorem OQ(T:fW X kt g C){p p' p2 pe cp pos:Pos}(hi:g.N[i]?=Δ x)(hl:iR g x=Λ)(E4:g.N[j]?=Δ y)(xg:iR g y=Λ)(hg:g.gl "enumerate"=Λ)(hs:notStar o=Λ)(ho:PE X o (tE ?B Z (ae C a)))(hb:m8 X body (tS ?B Z ?Zk)):
  PS X (.For (.Tuple [.Name x p,.Name y p'] k p2) (.Call (.Name "enumerate" pe) [o] [] cp) body [] pos) (tS ?B Z (aQ C (.jB i j a eb))):=by
 have nm:∀{z:Str} {a:Nat} {q:Pos},g.N[a]?=Δ z->iR g z=Λ->PG X (.Name z q) (om a):=λ{z a q} h1 h2=>cM (i:=a) (by rw[T.N];exact T.nd) (by rw[T.N];exact h1) (T.wy h2) (T.Js h2);refine PS.imp (yn T.own T.calm (Hi (T.toGood.glob hg) (T.bl _ ?K) (lF ho uQ hs) (bI hs)) (tK (n:=2) T.calm (dW (nm hi hl) (dW (nm E4 xg) oo))) hb (λ_=>rfl)) ?_;rintro D σ H ⟨m,r,st,ar,as,h⟩;rw[uy] at h;refine⟨m,r,st,ar,as,?_⟩;show Ok ?B Z (aC C [a] r st) m H _;simp only[ak,az];cases hr:ae C a r st with
 |ex x s=>rw[hr] at h;exact h|no=>rw[hr] at h;exact h|ok y0 st1=>
  rw[hr] at h;simp only[aa] at h ⊢;intro m1 H1 bU bg vs jc;obtain⟨v,qv,rfl,rv,e⟩:=(show ∃v qv,vs=v::qv/\aj ?B H1 m1 Z y0 v/\qv=[] from jc);subst e;have h1:=Ok.le h bU;split at h1
  ·rename_i n;obtain⟨a,ha,rfl⟩:=rv;have Sl:∃us,H1 a=Δ ?QY:=by have h2:Ok ?B Z (jB n i j ?Zk (999999+1) 0 r st1) m1 H1 (rH ?B Z D):=h1;rw[qo] at h2;cases ho:xl n st1 0 with|none=>rw[ho] at h2;exact(show False from h2).elim|some o=>obtain⟨us,hu,_⟩:=qw bg ha ho;exact⟨us,hu⟩
   obtain⟨Sm,Sn⟩:=Sl;refine⟨a,rfl,⟨Sm,.inl (.inl Sn)⟩,?_⟩;refine⟨λq k σ H=>∃m r st,Le ?B m1 H1 m H/\cA ?B H m Z r σ/\aA ?B H m Z st/\Ok ?B Z (jB n i j ?Zk k q r st) m H (rH ?B Z D),⟨cF,m1,r,st1,Le.refl,ar.le bU,bg,h1⟩,?_⟩;rintro q k σ H ⟨m,r,st,le,ar,as,h⟩;have So:m[n]?=Δ a:=by obtain⟨t,et⟩:=le.pre;rw[et,Yq (qqz ha).1];exact ha
   cases k with|zero=>exact(show False from h).elim|succ k=>rw[qo] at h;cases ho:xl n st q with|none=>rw[ho] at h;exact(show False from h).elim|some o=>rw[ho] at h;obtain⟨us,hu,q0,q1⟩:=qw as So ho;cases o with|none=>exact .inl ⟨⟨us,.inl (.inl hu),q0 rfl⟩,Ok.here (show Ok ?B Z (R.ok (Fl.nx r) st) m H (rH ?B Z D) from h) as σ ar⟩|some pq=>obtain⟨vx,Mv,rx⟩:=q1 pq rfl;refine .inr ⟨⟨us,vx,.inl (.inl hu),Mv⟩,λc0 H'=>∃m r st,Le ?B m1 H1 m H'/\cA ?B H' m Z r c0/\aA ?B H' m Z st/\Ok ?B Z (jB n i j ?Zk k (q+1) r st) m H' (rH ?B Z D),λc0 H' z=>⟨k,Z7 k,z⟩,λw' H' hy=>?_⟩;obtain⟨t,vv,ht,rfl,rfl,hx⟩:=hy;have sQ:=hx us (.inl (.inl hu));rw[Mv] at sQ;cases sQ;have C0:Le ?B m H m (upd H t (.tup [.int q,vx])):=Le.same (bp ht _);have cj:=as.same (bp ht (.tup [.int q,vx]));have h2:Ok ?B Z ((ah C eb ((r.set i (Δ (.d (.int q)))).set j (Δ pq)) st).bind _) m H (rH ?B Z D):=h;refine⟨t,[.int q,vx],rfl,fS.of aD,rfl,.int q,[vx],rfl,vx,[],rfl,rfl,?_⟩;refine⟨m,_,st,((ar.le C0).set (p:=.d (.int q)) (v:=.int q) rfl).set (rx.le C0),cj,(Ok.bind (Ok.le h2 C0)).mono λf st2 m2 H2 fj eZ h3=>?_⟩;exact AY (k:=λr2 st2=>jB n i j ?Zk k (q+1) r2 st2) eZ h3 λr2 PY Jr z=>⟨m2,r2,st2,(le.trans C0).trans fj,Jr,eZ,z⟩
  ·exact(show False from h1).elim
theorem HR(h1:Su g (.two i j) tg=Λ):∃x y p p' k p2,tg=.Tuple [.Name x p,.Name y p'] k p2/\g.N[i]?=Δ x/\iR g x=Λ/\g.N[j]?=Δ y/\iR g y=Λ:=by refine jL h1 λ_ _ _ h1=>?_;refine aE h1 λ_ _ h1=>?_;refine aG h1 λ_ _ h1=>?_;refine aE h1 λ_ _ h1=>?_;refine aG h1 λ_ _ h1=>?_;simp only[Yj,qqq,Yy] at h1;obtain⟨⟨⟨⟨rfl,h6⟩,h7⟩,h8⟩,h9⟩:=h1;exact⟨_,_,_,_,_,_,rfl,h6,h7,h8,h9⟩
variable(C) in
def SSt(s:S):Prop:=∀(kt:KT) (X:Cx) (g:G) (x:Stmt) (Z:List Addr),fW X kt g C->pR g s x=Λ->PS X x (tS ?B Z (aQ C s))
variable(C) in
def Xb(s:List S):Prop:=∀(kt:KT) (X:Cx) (g:G) (x:List Stmt) (Z:List Addr),fW X kt g C->uU g s x=Λ->m8 X x (tS ?B Z (ah C s))
mutual
theorem OR:∀s:S,SSt C s
 |.ret e=>λkt X g x Z T h=>by refine rL h λ_ _ h=>?_;refine uJ h λ_ h=>?_;exact Sv (aI e kt X g _ Z T.toGood h).1|.Fd=>λkt X g x Z T h=>by refine rL h λ_ _ h=>?_;rw[aal] at h;subst h;exact OH|.set i e=>λkt X g x Z T h=>by refine lD h λ_ _ _ h=>?_;refine aE h λ_ _ h=>?_;refine aG h λ_ _ h=>?_;simp only[Yj,qqq,YV,Yy] at h;obtain⟨⟨⟨⟨rfl,h1⟩,h2⟩,h3⟩,h4⟩:=h;exact HP T h1 h2 h4 h3|.ifs c a b=>λkt X g x Z T h=>by refine Km h λ_ _ _ _ h=>?_;simp only[Yj] at h;exact W8 (aI c kt X g _ Z T.toGood h.1.1).2 (dM a kt X g _ Z T h.1.2) (dM b kt X g _ Z T h.2)|.eV t w b=>λkt X g x Z T h=>by
  refine oS h λ_ _ _ _ _ h=>?_;simp only[Yj,YV,Yy] at h;obtain⟨⟨⟨⟨⟨rfl,h1⟩,h2⟩,h3⟩,h4⟩,h5⟩:=h;cases t with
  |tup is=>cases h1|nm i=>refine aG h1 λ_ _ h1=>?_;·simp only[Yj,qqq] at h1;exact SA T h1.1 h1.2 h4 (qz w kt X g _ _ Z T.toGood h2 λz=>by rw[z] at h5;simp[HM] at h5) (dM b kt X g _ Z T h3)
  |two i j=>refine jL h1 λ_ _ _ h1=>?_;refine aE h1 λ_ _ h1=>?_;refine aG h1 λ_ _ h1=>?_;refine aE h1 λ_ _ h1=>?_;refine aG h1 λ_ _ h1=>?_;simp only[Yj,qqq,Yy] at h1;obtain⟨⟨⟨⟨rfl,h6⟩,h7⟩,h8⟩,h9⟩:=h1;exact OM T h6 h7 h8 h9 h4 (qz w kt X g _ _ Z T.toGood h2 λ_=>⟨_,_,_,rfl⟩) (dM b kt X g _ Z T h3)
 |.gS t e b=>λkt X g x Z T h=>by refine oS h λ_ _ _ _ _ h=>?_;simp only[Yj,YV,Yy] at h;obtain⟨⟨⟨⟨⟨rfl,h1⟩,h2⟩,h3⟩,h4⟩,h5⟩:=h;cases t with|tup is=>cases h1|two i j=>cases h5|nm i=>refine aG h1 λ_ _ h1=>?_;·simp only[Yj,qqq] at h1;exact ON T h1.1 h1.2 h4 (aI e kt X g _ Z T.toGood h2).1 (dM b kt X g _ Z T h3)
 |.CG i j a b=>λkt X g x Z T h=>by refine oS h λ_ _ _ _ _ h=>?_;refine aW h λ_ _ _ _ h=>?_;refine cg h λ_ _ _ h=>?_;simp only[Yj,qqq,YV,Yy] at h;obtain⟨⟨⟨⟨⟨⟨⟨⟨rfl,rfl⟩,rfl⟩,h1⟩,rfl⟩,h2⟩,h3⟩,h4⟩,h5⟩:=h;obtain⟨x,y,p,p',k,p2,rfl,h6,h7,h8,h9⟩:=HR h1;exact OP T h6 h7 h8 h9 h2 h3 (aI a kt X g _ Z T.toGood h4).1 (dM b kt X g _ Z T h5)|.jB i j a b=>λkt X g x Z T h=>by refine oS h λ_ _ _ _ _ h=>?_;refine aW h λ_ _ _ _ h=>?_;refine aG h λ_ _ h=>?_;refine aE h λ_ _ h=>?_;simp only[Yj,qqq,YV,Yy] at h;obtain⟨⟨⟨⟨⟨⟨⟨⟨rfl,rfl⟩,rfl⟩,h1⟩,rfl⟩,h2⟩,h3⟩,h4⟩,h5⟩:=h;obtain⟨x,y,p,p',k,p2,rfl,h6,h7,h8,h9⟩:=HR h1;exact OQ T h6 h7 h8 h9 h2 h3 (aI a kt X g _ Z T.toGood h4).1 (dM b kt X g _ Z T h5)|.kq c b=>λkt X g x Z T h=>by refine CQ h λ_ _ _ _ h=>?_;simp only[Yj,Yy] at h;obtain⟨⟨rfl,h1⟩,h2⟩:=h;exact KU T (aI c kt X g _ Z T.toGood h1).2 (dM b kt X g _ Z T h2)|.expr e=>λkt X g x Z T h=>by refine xF h λ_ _ h=>?_;simp only[Yj,YV] at h;exact OI h.2 (aI e kt X g _ Z T.toGood h.1).1|.app a e=>λkt X g x Z T h=>by refine xF h λ_ _ h=>?_;refine aW h λ_ _ _ _ h=>?_;refine cg h λ_ _ _ h=>?_;refine aE h λ_ _ h=>?_;simp only[Yj,qqq,YV,Yy] at h;obtain⟨⟨⟨⟨⟨⟨⟨rfl,rfl⟩,h0⟩,rfl⟩,h1⟩,h2⟩,h3⟩,h4⟩:=h;exact Sx h0 h1 (aI a kt X g _ Z T.toGood h2).1 (aI e kt X g _ Z T.toGood h3).1 h4|.put a i e=>λkt X g x Z T h=>by refine lD h λ_ _ _ h=>?_;refine aE h λ_ _ h=>?_;refine mR h λ_ _ _ h=>?_;simp only[Yj,YV,Yy] at h;obtain⟨⟨⟨⟨rfl,h1⟩,h2⟩,h3⟩,h4⟩:=h;exact Sz T.toGood h4 (aI a kt X g _ Z T.toGood h1).1 (aI i kt X g _ Z T.toGood h2).1 (aI e kt X g _ Z T.toGood h3).1|.nj i k=>λkt X g x Z T h=>by refine qt h λ_ _ _ _ _ _ _ _ _ _ h=>?_;simp only[Yj,qqq,Yy,aal] at h;obtain⟨⟨⟨⟨⟨rfl,rfl⟩,rfl⟩,rfl⟩,rfl⟩,h6⟩:=h;exact T.nj i k _ _ _ _ _ h6 Z|.mG c f i e=>λkt X g s Z T h=>by refine lD h λ_ _ _ h=>?_;refine aE h λ_ _ h=>?_;refine cg h λ_ _ _ h=>?_;refine aG h λ_ _ h=>?_;simp only[Yj,qqq,Yy] at h;obtain⟨⟨⟨⟨⟨⟨rfl,rfl⟩,h1⟩,h2⟩,h3⟩,h4⟩,h5⟩:=h;exact OK T.toGood h1 h2 h3 h4 (aI e kt X g _ Z T.toGood h5).1
theorem dM:∀s:List S,Xb C s
 |[]=>λkt X g x Z T h=>by have:x=[]:=Yy.mp h;rw[this];exact OL|s::ss=>λkt X g x Z T h=>by refine aE h λ_ _ h=>?_;simp only[Yj] at h;exact KS (OR s kt X g _ Z T h.1) (dM ss kt X g _ Z T h.2)
end
end
section
variable{K:KB}{H H':Hp}{m m1 m2 Z Z1 Z2:List Addr}
mutual
theorem aH.weak(hw:∀a,a∉m1->a∉Z1->a∉m2/\a∉Z2):∀{x:D} {v:V},aH K H m1 Z1 x v->aH K H m2 Z2 x v
 |.bC,_,h=>h|.bl _,_,h=>h|.int _,_,h=>h|.str _,_,h=>h|.tup xs,v,h=>by obtain⟨a,us,e,q,r⟩:=(show ∃a us,v=.ref a/\H a=Δ (.tup us)/\av K H m1 Z1 xs us from h);exact⟨a,us,e,q,av.weak hw r⟩
 |.pl xs,v,h=>by obtain⟨a,us,e,q,hm,hz,r⟩:=(show ∃a us,v=.ref a/\Rd H a ?QY/\a∉m1/\a∉Z1/\av K H m1 Z1 xs us from h);exact⟨a,us,e,q,(hw a hm hz).1,(hw a hm hz).2,av.weak hw r⟩
theorem av.weak(hw:∀a,a∉m1->a∉Z1->a∉m2/\a∉Z2):∀{xs:List D} {us:List V},av K H m1 Z1 xs us->av K H m2 Z2 xs us
 |[],_,h=>h|x::xs,us,h=>by obtain⟨v,vs,e,r,rs⟩:=(show ∃v vs,us=v::vs/\aH K H m1 Z1 x v/\av K H m1 Z1 xs vs from h);exact⟨v,vs,e,aH.weak hw r,av.weak hw rs⟩
end
mutual
theorem aH.oN:∀{x:D} {v:V},Y.oN x=Λ->aH K H m1 Z1 x v->aH K H m2 Z2 x v
 |.bC,_,_,h=>h|.bl _,_,_,h=>h|.int _,_,_,h=>h|.str _,_,_,h=>h|.tup xs,v,n,h=>by obtain⟨a,us,e,q,r⟩:=(show ∃a us,v=.ref a/\H a=Δ (.tup us)/\av K H m1 Z1 xs us from h);exact⟨a,us,e,q,av.oN (by simpa[Y.oN] using n) r⟩
 |.pl xs,v,n,h=>by simp[Y.oN] at n
theorem av.oN:∀{xs:List D} {us:List V},DL xs=Λ->av K H m1 Z1 xs us->av K H m2 Z2 xs us
 |[],_,_,h=>h|x::xs,us,n,h=>by obtain⟨v,vs,e,r,rs⟩:=(show ∃v vs,us=v::vs/\aH K H m1 Z1 x v/\av K H m1 Z1 xs vs from h);simp only[DL,Yj] at n;exact⟨v,vs,e,aH.oN n.1 r,av.oN n.2 rs⟩
end
mutual
theorem aj.weak(hw:∀a,a∉m1->a∉Z1->a∉m2/\a∉Z2):∀{x:P} {v:V},cz x=Λ->aj K H m1 Z1 x v->aj K H m2 Z2 x v
 |.d _,_,_,h=>by rw[aj] at h ⊢;exact aH.weak hw h|.obj _,_,n,_=>by simp[cz] at n|.ik _,_,n,_=>by simp[cz] at n|.fn k bA,v,n,h=>by rw[aj] at h ⊢;obtain⟨a,c,b7,e,q,hc,r⟩:=h;exact⟨a,c,b7,e,q,hc,ai.weak hw (by simpa[cz] using n) r⟩
 |.lf k,_,n,_=>by simp[cz] at n
theorem ai.weak(hw:∀a,a∉m1->a∉Z1->a∉m2/\a∉Z2):∀{xs:List P} {us:List V},cE xs=Λ->ai K H m1 Z1 xs us->ai K H m2 Z2 xs us
 |[],_,_,h=>h|x::xs,us,n,h=>by rw[ai] at h ⊢;obtain⟨v,vs,e,r,rs⟩:=h;simp only[cE,Yj] at n;exact⟨v,vs,e,aj.weak hw n.1 r,ai.weak hw n.2 rs⟩
end
theorem Xc{st:aK}(as:aA K H m Z st)(r:aj K H m Z p v)(e:yJ st p=Δ q):aj K H [] [] q v/\(isObj p=Ξ->aj K H [] (Z++m) q v):=by
 have hw:∀a,a∉m->a∉Z->a∉([]:List Addr)/\a∉Z++m:=λa h1 h2=>⟨by simp,λz=>by
  rcases abh.mp z with z|z;·exact h2 z
  ·exact h1 z⟩
 cases p with
 |ik ns=>cases e;rw[aj] at r;exact⟨by rw[aj];exact r,λ_=>by rw[aj];exact r⟩|d x=>cases e;rw[aj] at r;exact⟨by rw[aj];exact aH.bare r,λ_=>by rw[aj];exact aH.weak hw r⟩|obj n=>obtain⟨x,e1,rfl⟩:=iw (show(kr st (.obj n)).map P.d=Δ q from e);exact⟨by rw[aj];exact lE as e1 r,λz=>nomatch z⟩|fn k bA=>
  have e':(if cE bA=Λ then Δ (P.fn k bA) else Θ)=Δ q:=e;split at e'
  ·rename_i hp;cases e';have EY:cz (.fn k bA)=Λ:=by simpa[cz] using hp
   exact⟨aj.weak (m1:=m) (Z1:=Z) (λ_ _ _=>⟨by simp,by simp⟩) EY r,λ_=>aj.weak hw EY r⟩
  ·cases e'
 |lf k=>cases e
theorem AZ{st:aK}(as:aA K H m Z st):∀{ps qs} {vs},ai K H m Z ps vs->g9 st ps=Δ qs->ai K H [] [] qs vs/\(ps.any isObj=Ξ->ai K H [] (Z++m) qs vs)
 |[],qs,vs,r,e=>by cases e;exact⟨r,λ_=>r⟩|p::ps,qs,vs,r,e=>by rw[ai] at r;obtain⟨v,w',rfl,r1,r2⟩:=r;obtain⟨q,e1,e⟩:=dc (show((yJ st p).bind λx=>(g9 st ps).map λxs=>x::xs)=Δ qs from e);obtain⟨q2,e2,rfl⟩:=iw e;obtain⟨i1,i2⟩:=Xc as r1 e1;obtain⟨j1,j2⟩:=AZ as r2 e2;refine⟨by rw[ai];exact⟨v,w',rfl,i1,j1⟩,λh=>?_⟩;rw[aaF,Bool.or_eq_false_iff] at h;rw[ai];exact⟨v,w',rfl,i2 h.1,j2 h.2⟩
theorem xN(r:ai K H m Z qs vs):cA K H m Z (ay N.length qs) (L2.start N vs):=by
 have hl:=r.length;refine⟨by unfold ay L2.start;simp[hl],λi p h=>?_⟩;unfold ay at h;unfold L2.start;by_cases hi:i < qs.length
 ·rw[Yq ?Zl,Ys] at h;cases e:qs[i]? with
  |none=>rw[e] at h;cases h|some q=>
   rw[e] at h;have h':q=p:=by simpa using h
   subst h';obtain⟨v,e1,r1⟩:=r.get e;exact⟨v,by rw[Yq (by rw[Yr,hl];exact hi),Ys,e1];rfl,r1⟩
 ·rw[YH ?Zl,aba] at h;split at h<;>cases h
theorem aA.Xd{st:aK}(A:aA K H m Z st)(h:a∈m):gQ H a≠Θ:=by
 obtain⟨n,hn,e⟩:=List.mem_iff_getElem.mp h;have Gj:n < st.length:=by rw[<-A.len];exact hn
 obtain⟨a',e',r⟩:=A.at_ n st[n] (Yn Gj);rw[Yn hn,e] at e';cases e';cases q:H a with|none=>exact absurd q r.rU.1|some u=>rw[bz q λφ z=>r.rU.2.2.2.1 φ (by rw[q,z])];exact λz=>nomatch z
theorem mj(hz:∀a∈Z,gQ H a≠Θ)(ht:∀t∈K.tabs,∃ps,H t.1=Δ (.fO ps)/\fV H t.2 ps):aA K H [] Z []:=⟨rfl,by simp,λn o h=>by simp at h,hz,λa _=>by simp,ht⟩
theorem Le.outer(le:Le K [] H m' H'):Le K m H m H':=⟨⟨[],by simp⟩,le.tup,λa u h _=>le.keep a u h ?E,λa h=>.inl h,le.rU,le.DM,le.dA,le.ext,le.fO⟩
theorem aA.outer{st:aK}(as:aA K H m Z st)(le:Le K [] H m' H')(ht:∀t∈K.tabs,∃ps,H' t.1=Δ (.fO ps)/\fV H' t.2 ps):aA K H' m Z st:=by
 refine⟨as.len,as.nd,λn o h=>?_,λa h=>le.DM a (as.zt a h),as.zm,ht⟩;obtain⟨a,q,r⟩:=as.at_ n o h;exact⟨a,q,r.mono (λb u hb hu=>le.keep b u hu ?E (λps z=>by
  rcases hb with w1|w1;·subst w1;rw[z] at hu;exact r.rU.2.2.2.2.1 ps hu
  ·rw[w1] at hu;cases hu;cases z)) λp v z=>z.le le.outer⟩
end
structure Info where
 name:Str
 st:Stmt
 N:List Str
 ps:List Str
 F:Fn
section
variable{P:Zm}{w:World}{K:Yw}{mg:Str->Option Value}{base:Heap}{is:List Info}{cs:List (Str×Int)}{ts:List (Str×List (Str×Int))}{a:Nat->Addr}{fd:Nat->aao}
end
structure CI where
 lam:Bool
 qual:Str
 N:List Str
 ps:List Str
 fr:List Str
 F:Fn
structure KI where
 name:Str
 so:List Str
 HU:List (Str×Nat)
structure TX where
 is:List (Info×List (Nat×Pos))
 Xe:List CI
 cs:List (Str×Int)
 ts:List (Str×List (Str×Int))
 nf:Nat
 ks:List KI
def TX.Fs(S:TX):List Fn:=S.is.map (·.1.F)++S.Xe.map (·.F)
noncomputable def TX.ci(S:TX)(k:Nat):Option CI:=if k < S.is.length then Θ else S.Xe[k - S.is.length]?
def TX.fns(S:TX):List (Str×Nat):=(S.is.take S.nf).map λj=>(j.1.name,j.1.F.np)
theorem TX.HV{S:TX}(h:S.fns[k]?=Δ (x,n)):k < S.nf/\∃i,S.is[k]?=Δ i/\(i.1.name,i.1.F.np)=(x,n):=by
 unfold TX.fns at h;rw[Ys,List.getElem?_take] at h;split at h;·rename_i hk;refine⟨hk,?_⟩;cases ej:S.is[k]? with|none=>rw[ej] at h;cases h|some i2=>rw[ej] at h;exact⟨i2,rfl,by simpa using h⟩
 ·cases h
noncomputable def TX.np(S:TX)(k:Nat):Option Nat:=(S.is[k]?).map (·.1.F.np)
noncomputable def TX.zN(S:TX)(c f:Str):Bool:=S.ks.any λq=>decide (q.name=c)&&q.so.any (λx=>decide (x=f))
def TX.BW(S:TX)(k:Nat)(c m:Str)(n:Nat):Bool:=S.ks.any λq=>decide (q.name=c)&&decide (q.HU.lookup m=Δ k)&&decide (S.np k=Δ (n+1))
def TX.BX(S:TX)(k:Nat)(c:Str)(n:Nat):Bool:=S.ks.any λq=>decide (q.name=c)&&decide (q.HU.lookup ("__init__":Str)=Δ k)&&decide (S.np k=Δ (n+1))
def lv:Nat->Nat
 |0=>0|n+1=>lv n+2
def TX.q(S:TX)(k:Nat):Str:=((S.ci k).map (·.qual)).getD ""
theorem TX.OS{S:TX}{ci:CI}(h:S.ci k=Δ ci):S.Fs[k]?=Δ ci.F/\S.q k=ci.qual:=by
 unfold TX.ci at h;split at h;·cases h
 ·rename_i hk;refine⟨?_,by unfold TX.q TX.ci;rw[if_neg hk,h];rfl⟩;unfold TX.Fs;rw[YH (by rw[Yr];lia),Yr,Ys,h];rfl
theorem TX.Xf{S:TX}{k:Nat}(h:S.is[k]?=Δ i):S.Fs[k]?=Δ i.1.F:=by unfold TX.Fs;rw[Yq (by rw[Yr];exact(qqz h).1),Ys,h];rfl
def C1(ci:CI)(sc:Scope):Bool:=
 decide (sc.kind=.function)&&!sc.isCoroutine&&!sc.isGenerator&&decide ci.N.Nodup&&decide (ci.N.take (ci.ps.length+ci.fr.length)=ci.ps++ci.fr)&&
 ci.ps.all (λx=>decide (sc.names.lookup x=Δ .local))&&ci.fr.all (λx=>decide (sc.names.lookup x=Δ .free))&&
 sc.names.all (λy=>decide (y.2≠.cell)&&(decide (y.2≠.free)||decide (y.1∈ci.fr)))&&
 decide (ci.F.np=ci.ps.length+ci.fr.length)&&decide (ci.F.nn=ci.N.length)&&!ci.F.sh
theorem oV(h:C1 ci sc=Λ):lj ci.N ci.ps ci.fr sc/\ci.F.np=ci.ps.length+ci.fr.length/\ci.F.nn=ci.N.length/\ci.F.sh=Ξ:=by unfold C1 at h;simp only[Yj,qqq,YV,Zz,aaR] at h;obtain⟨⟨⟨⟨⟨⟨⟨⟨⟨⟨h1,h2⟩,h3⟩,h4⟩,h5⟩,h6⟩,h7⟩,h8⟩,h9⟩,h10⟩,h11⟩:=h;exact⟨⟨h1,h2,h3,h4,h5,h6,h7,λy hy=>(h8 y hy).1,λy hy hf=>(h8 y hy).2.resolve_left λz=>z hf⟩,h9,h10,h11⟩
def gC(S:TX)(ci:CI)(sc:Scope):G:={N:=ci.N,names:=sc.names,fns:=S.fns,iO:=S.cs,tabs:=S.ts,zN:=S.zN,BW:=S.BW,BX:=S.BX}
noncomputable def KY:List S->Option E
 |s::r=>match s with
  |.ret e=>match r with|[]=>Δ e|_::_=>Θ
  |_=>Θ
 |[]=>Θ
theorem KZ(h:KY b=Δ e):b=[.ret e]:=by
 unfold KY at h;split at h
 ·split at h
  ·split at h;·cases h;rfl
   ·cases h
  ·cases h
 ·cases h
def qA(S:TX)(ci:CI)(pa:aaS)(bo:Expr)(sc:Scope):Bool:=ci.lam&&fb pa ci.ps&&C1 ci sc&&(match KY ci.F.body with|some e=>ir (gC S ci sc) e bo|none=>Ξ)
def qB(S:TX)(ci:CI)(pa:aaS)(bo:List Stmt)(sc:Scope):Bool:=!ci.lam&&fb pa ci.ps&&C1 ci sc&&uU (gC S ci sc) ci.F.body bo
def HW(S:TX)(ci:CI)(o:Obj)(sc:Scope)(cl:List (Str×Addr))(c:Addr):Prop:=
 (∃pa bo pm ct,o=PySem.W.kla_obj "<lambda>" ci.qual pa bo sc cl pm c ct/\qA S ci pa bo sc=Λ)\/
 (∃nm pa bo doc pm ct,o=PySem.W.fnMade nm ci.qual pa bo sc cl doc pm c ct/\qB S ci pa bo sc=Λ)
def oW(S:TX)(B:Heap)(k:Nat)(a c:Addr)(b7:List V):Prop:=∃ci o sc cl,S.ci k=Δ ci/\B.get? a=Δ o/\HW S ci o sc cl c/\Jn B cl ci.fr b7
abbrev nI(S:TX)(K:Yw)(base:Heap)(tabs:List ?Qu):KB:=⟨K,base,tabs,oW S base,λ_ _ _ _ _=>False,S.q⟩
abbrev UM(S:TX)(base:Heap)(tabs:List ?Qu):KT:={tabs:=tabs,rG:=oW S base,Jq:=λ_ _ _ _ _=>False,AB:=S.q}
section
variable{K1 K2:KB}{H:Hp}{m Z:List Addr}
mutual
theorem aH.kb:∀{x:D} {v:V},aH K1 H m Z x v->aH K2 H m Z x v
 |.bC,_,h=>h|.bl _,_,h=>h|.int _,_,h=>h|.str _,_,h=>h|.tup xs,v,h=>by obtain⟨a,us,e,q,r⟩:=(show ∃a us,v=.ref a/\H a=Δ (.tup us)/\av K1 H m Z xs us from h);exact⟨a,us,e,q,av.kb r⟩
 |.pl xs,v,h=>by obtain⟨a,us,e,q,hm,hz,r⟩:=(show ∃a us,v=.ref a/\Rd H a ?QY/\a∉m/\a∉Z/\av K1 H m Z xs us from h);exact⟨a,us,e,q,hm,hz,av.kb r⟩
theorem av.kb:∀{xs:List D} {us:List V},av K1 H m Z xs us->av K2 H m Z xs us
 |[],_,h=>h|x::xs,us,h=>by obtain⟨v,vs,e,r,rs⟩:=(show ∃v vs,us=v::vs/\aH K1 H m Z x v/\av K1 H m Z xs vs from h);exact⟨v,vs,e,aH.kb r,av.kb rs⟩
end
mutual
theorem aj.kb(hk:K1.K=K2.K)(hq:K1.AB=K2.AB)(hc:∀k a c b7,K1.rG k a c b7->K2.rG k a c b7):∀{x:P} {v:V},cz x=Λ->aj K1 H m Z x v->aj K2 H m Z x v
 |.d _,_,_,h=>by rw[aj] at h ⊢;exact aH.kb h|.obj _,_,n,_=>by simp[cz] at n|.ik _,_,n,_=>by simp[cz] at n|.fn k bA,v,n,h=>by rw[aj] at h ⊢;obtain⟨a,c,b7,e,q,hx,r⟩:=h;exact⟨a,c,b7,e,hc _ _ _ _ q,by rw[<-hq];exact hx,ai.kb hk hq hc (by simpa[cz] using n) r⟩
 |.lf k,_,n,_=>by simp[cz] at n
theorem ai.kb(hk:K1.K=K2.K)(hq:K1.AB=K2.AB)(hc:∀k a c b7,K1.rG k a c b7->K2.rG k a c b7):∀{xs:List P} {us:List V},cE xs=Λ->ai K1 H m Z xs us->ai K2 H m Z xs us
 |[],_,_,h=>h|x::xs,us,n,h=>by rw[ai] at h ⊢;obtain⟨v,vs,e,r,rs⟩:=h;simp only[cE,Yj] at n;exact⟨v,vs,e,aj.kb hk hq hc n.1 r,ai.kb hk hq hc n.2 rs⟩
end
def K0:P->Bool
 |.ik _=>Λ|p=>cz p
theorem OT{st:aK}(h:yJ st p=Δ q):K0 q=Λ:=by
 cases p with
 |ik ns=>cases h;rfl|d x=>cases h;rfl|obj n=>obtain⟨x,e1,rfl⟩:=iw (show(kr st (.obj n)).map P.d=Δ q from h);rfl
 |fn k bA=>
  have e':(if cE bA=Λ then Δ (P.fn k bA) else Θ)=Δ q:=h;split at e';·rename_i hp;cases e';simpa[K0,cz] using hp
  ·cases e'
 |lf k=>cases h
theorem D5{st:aK}:∀{ps qs},g9 st ps=Δ qs->∀q∈qs,K0 q=Λ
 |[],qs,h=>by cases h;exact λq z=>by cases z|p::ps,qs,h=>by
  obtain⟨q,e1,e⟩:=dc (show((yJ st p).bind λx=>(g9 st ps).map λxs=>x::xs)=Δ qs from h);obtain⟨q2,e2,rfl⟩:=iw e;intro x hx;rcases aa2.mp hx with z|z;·rw[z];exact OT e1
  ·exact D5 e2 x z
theorem ai.kbA(hk:K1.K=K2.K)(hq:K1.AB=K2.AB)(hc:∀k a c b7,K1.rG k a c b7->K2.rG k a c b7):∀{xs} {us},(∀q∈xs,K0 q=Λ)->ai K1 H m Z xs us->ai K2 H m Z xs us
 |[],_,_,h=>h|x::xs,us,n,h=>by rw[ai] at h ⊢;obtain⟨v,vs,e,r,rs⟩:=h;refine⟨v,vs,e,?_,ai.kbA hk hq hc (λq hq=>n q (Yi _ hq)) rs⟩;have hx:=n x Yk;cases x with|ik ns=>rw[aj] at r ⊢;rw[<-hk];exact r|d y=>exact aj.kb hk hq hc rfl r|obj y=>cases hx|fn k c=>exact aj.kb hk hq hc hx r|lf k=>cases hx
end
theorem qC(SD:F.nn=N.length){st:aK}(rq:ai kb H m Z qs vs)(as:aA kb H m Z st)(hk:kb.K=X.K)(hq:kb.AB=kt.AB)(hc:∀k a c b7,kb.rG k a c b7->kt.rG k a c b7)(ht:kb.tabs=kt.tabs)(ea:g9 st qs=Δ q2)(er:wq C F q2=Δ d)(aL:Ok kb Z (uD qs d st) m H (λp _ m' H'=>∀v,aj kb H' m' Z p v->Q v H')):
  ∃Z0,tS ?B Z0 (ah C F.body) {nx:=λ_ H'=>Q .bC H',rt:=Q} (L2.start N vs) H:=by
 obtain⟨r1,r2⟩:=AZ as rq ea;have hb:=D5 ea;obtain⟨Z0,UB,rs0,hw⟩:∃Z0:List Addr,(∀b∈Z0,gQ H b≠Θ)/\ai kb H [] Z0 q2 vs/\((qs.any isObj=Ξ/\Z0=Z++m)\/qs.any isObj=Λ):=by
  cases ho:qs.any isObj with
  |false=>
   refine⟨Z++m,λb hb=>?_,r2 ho,.inl ⟨rfl,rfl⟩⟩;rcases abh.mp hb with z|z;·exact as.zt b z
   ·exact as.Xd z
  |true=>exact⟨[],(λb hb=>by cases hb),r1,.inr rfl⟩
 have tab:∀t∈(af X kt).tabs,∃ps,H t.1=Δ (.fO ps)/\fV H t.2 ps:=λt h=>as.tab t (by rw[ht];exact h);refine⟨Z0,[],ay F.nn q2,[],by rw[SD];exact xN (ai.kbA hk hq hc hb rs0),mj UB tab,?_⟩;unfold wq at er;split at er
 ·cases hx:ah C F.body (ay F.nn q2) [] with
  |ex x s=>rw[hx] at er;cases er|no=>rw[hx] at er;cases er|ok f aJ=>
   rw[hx] at er;intro m' H' le cj;have le0:Le kb [] H m' H':=⟨le.pre,le.tup,le.keep,le.new,le.rU,le.DM,le.dA,le.ext,le.fO⟩;have fin:∀v,aH kb H' m Z d v->Q v H':=λv rv=>by
    unfold uD at aL;split at aL;·exact(show False from aL).elim
    ·exact aL m H' le0.outer (as.outer le0 (λt h=>cj.tab t (by show t∈kt.tabs;rw[<-ht];exact h))) v rv
   have Xg:qs.any isObj=Λ->Y.oN d=Λ:=λz=>by
    unfold uD at aL;split at aL;·exact(show False from aL).elim
    ·rename_i hc;cases hp:Y.oN d with|true=>rfl|false=>rw[z,hp] at hc;exact absurd rfl hc
   cases f with
   |bk r=>cases er|ct r=>cases er|nx r=>cases er;exact λσ _=>fin .bC rfl
   |rt p=>
    have Jt:kr aJ p=Δ d:=er;intro v rv;apply fin;rcases hw with ⟨_,rfl⟩|ho
    ·have yq:∀b,b∉m'->b∉Z++m->b∉m/\b∉Z:=λb _ h=>⟨λz=>h (YS _ z),λz=>h (Zj _ z)⟩;cases p with
     |ik ns=>cases Jt|fn k c=>cases Jt|lf k=>cases Jt|d x=>cases Jt;exact aH.kb (aH.weak yq rv)|obj j=>
      obtain⟨b,e,rfl⟩:=rv;have h':(match aJ[j]? with|some (.lst xs)=>(br xs).map D.pl|_=>Θ)=Δ d:=Jt;split at h'
      ·rename_i xs hs;obtain⟨b',e',o⟩:=cj.at_ j _ hs;rw[e] at e';cases e';obtain⟨us,hu,rs⟩:=o;obtain⟨ys,hd,rfl⟩:=iw h';have hbn:H b=Θ:=by
        rcases le.new b (Yz e) with z|z;·cases z
        ·exact z
       exact⟨b,us,rfl,.inl hu,λz=>as.RV z hbn,λz=>as.zt b z (kl hbn),av.kb (av.weak yq (rs.br hd))⟩
      ·cases h'
    ·have np:=Xg ho;cases p with
     |ik ns=>cases Jt|fn k c=>cases Jt|lf k=>cases Jt|d x=>cases Jt;exact aH.kb (aH.oN np rv)|obj j=>
      have h':(match aJ[j]? with|some (.lst xs)=>(br xs).map D.pl|_=>Θ)=Δ d:=Jt;split at h';·obtain⟨ys,hd,rfl⟩:=iw h';simp[Y.oN] at np
      ·cases h'
 ·cases er
theorem K3{K:KB}(h:tS K Z (ah C [.ret e]) {nx:=N0,rt:=Q} σ H):tE K Z (ae C e) σ H Q:=by obtain⟨m,r,st,ar,as,h⟩:=h;refine⟨m,r,st,ar,as,?_⟩;rw[jq,qh] at h;cases hx:ae C e r st with|ex x s=>rw[hx] at h;exact h|no=>rw[hx] at h;exact h|ok p aJ=>rw[hx] at h;exact λm' H' le cj=>h m' H' le cj
theorem xO{st:aK}:∀{ps qs},g9 st ps=Δ qs->qs.length=?S
 |[],qs,h=>by cases h;rfl|p::ps,qs,h=>by obtain⟨q,e1,e⟩:=dc (show((yJ st p).bind λx=>(g9 st ps).map λxs=>x::xs)=Δ qs from h);obtain⟨q2,e2,rfl⟩:=iw e;rw[YA,YA,xO e2]
theorem mn{st:aK}(hF:Fs[k]?=Δ F)(hs:F.sh=Ξ)(h:Ok kb Z (callC Fs (n+1) k ps st) m H Q):
  ∃q2 d,g9 st ps=Δ q2/\wq ?L F q2=Δ d/\Ok kb Z (uD ps d st) m H Q/\?S=F.np:=by
 rw[iN,hF] at h;simp only[hs,Y7,if_false] at h;cases ea:g9 st ps with
 |none=>rw[ea] at h;exact(show False from h).elim|some q2=>
  rw[ea] at h;simp only at h;cases er:wq ?L F q2 with
  |none=>rw[er] at h;exact(show False from h).elim|some d=>
   rw[er] at h;refine⟨q2,d,rfl,er,h,?_⟩;unfold wq at er;split at er;·rename_i hl;rw[<-xO ea];exact hl
   ·cases er
def cN(S:TX)(i:Info×List (Nat×Pos)):List (Pos×Str):=i.2.map λp=>(p.2,S.q p.1)
def freeOk(names:List (Str×aaX))(sc:Scope):Bool:=sc.names.all λy=>decide (y.2≠.free)||decide (names.lookup y.1=Δ .cell)
def Fw(S:TX)(i:Info×List (Nat×Pos))(ls:List (Nat×List Nat)):Bool:=ls.all λp=>match S.ci p.1 with|some ci=>decide (p.2.map (λj=>i.1.N[j]?)=ci.fr.map Δ)&&ci.fr.all λx=>decide ((aF i.1.st).names.lookup x=Δ .cell)|none=>Ξ
def HX(S:TX)(i:Info×List (Nat×Pos))(k:Nat)(pa:aaS)(bo:Expr)(sc:Scope)(pos:Pos):Bool:=match S.ci k with|some ci=>decide ((k,pos)∈i.2)&&qA S ci pa bo sc&&freeOk (aF i.1.st).names sc&&decide (ci.qual=(i.1.name++".<locals>.")++"<lambda>")|none=>Ξ
def HY(S:TX)(i:Info×List (Nat×Pos))(j k:Nat)(nm:Str)(pa:aaS)(bo:List Stmt)(sc:Scope)(pos:Pos):Bool:=match S.ci k with|some ci=>decide ((k,pos)∈i.2)&&qB S ci pa bo sc&&freeOk (aF i.1.st).names sc&&decide (ci.qual=(i.1.name++".<locals>.")++nm)&&decide (i.1.N[j]?=Δ nm)&&(decide ((aF i.1.st).names.lookup nm=Δ .local)||decide ((aF i.1.st).names.lookup nm=Δ .cell))|none=>Ξ
def HZ(S:TX)(i:Info×List (Nat×Pos)):G:=match i.2 with|[]=>{N:=i.1.N,names:=(aF i.1.st).names,fns:=S.fns,iO:=S.cs,tabs:=S.ts,zN:=S.zN,BW:=S.BW,BX:=S.BX}|_::_=>{N:=i.1.N,names:=(aF i.1.st).names,fns:=[],iO:=S.cs,tabs:=S.ts,RY:=HX S i,RZ:=HY S i,Ms:=λf x n ls=>decide (S.fns[f]?=Δ (x,n))&&Fw S i ls,R0:=λ_ _ _=>Ξ,cv:=Ξ}
def Ia(S:TX)(i:Info×List (Nat×Pos)):Bool:=uU (HZ S i) i.1.F.body (l8 i.1.st)&&decide (i.1.F.np=i.1.ps.length)&&decide (i.1.F.nn=i.1.N.length)&&(i.2.isEmpty||!i.1.F.sh)
structure yW(K:Yw)(mg:Str->Option Value)(S:TX)(tabs:List ?Qu)(a:Nat->Addr)(fd:Nat->aao)(cP:Nat->Addr×Addr):Prop where
 fn:∀(k:Nat) (i:Info×List (Nat×Pos)),S.is[k]?=Δ i->(∃x,n4 K x i.1.name i.1.st (a k) (fd k))/\(k < S.nf->mg i.1.name=Δ (.ref (a k)))/\Binds K (fd k) i.1.ps []/\oq i.1.N i.1.ps (aF i.1.st)/\Ia S i=Λ
 bl:∀x∈uO,mg x=Θ
 cs:∀x i,S.cs.lookup x=Δ i->∃t,mg x=Δ (.int i t)
 tb:∀x t,S.ts.lookup x=Δ t->∃a,mg x=Δ ?QT/\Rm K a t
 cl:∀q∈S.ks,∃A,YJ K YB q.name=Δ (Δ (.ref A))/\mg q.name=Δ (.ref A)/\BU K A/\(∀f∈q.so,kf K A f)/\(∀m k,q.HU.lookup m=Δ k->B6 K A m (a k))/\∀k,q.HU.lookup ("__init__":Str)=Δ k->Mk K A (a k)
 mkr:∀(k:Nat) (i:Info×List (Nat×Pos)),S.is[k]?=Δ i->i.2≠[]->(fd k).code=.ref (cP k).1/\((cP k).2,cN S i)∈tabs/\Apart (cN S i)/\∀t∈tabs,t.1=(cP k).2->t.2=cN S i
section
variable{P:Zm}{w:World}{K:Yw}{mg:Str->Option Value}{S:TX}{tabs:List ?Qu}{a:Nat->Addr}{fd:Nat->aao}{cP:Nat->Addr×Addr}
structure ky(mg:Str->Option Value)(S:TX)(cP:Nat->Addr×Addr)(base:Heap):Prop where
 code:∀(k:Nat) (i:Info×List (Nat×Pos)),S.is[k]?=Δ i->i.2≠[]->aay base (cP k).1 (cP k).2
 bm:BMain mg base
def lH(P:Zm)(w:World)(K:Yw)(mg:Str->Option Value)(S:TX)(tabs:List ?Qu)(a:Nat->Addr)(fd:Nat->aao)(n:Nat)(base:Heap):Prop:=
 ∀(k:Nat) (i:Info×List (Nat×Pos)),S.is[k]?=Δ i->gR P w K mg base vU (lv n) (a k) (fd k) i.1.ps (CT (nI S K base tabs) (callC S.Fs n k) i.1.F.np)
def yX(P:Zm)(w:World)(K:Yw)(mg:Str->Option Value)(S:TX)(tabs:List ?Qu)(n:Nat)(base:Heap):Prop:=
 ∀(k:Nat) (b c:Addr) (b7:List V),oW S base k b c b7->∃fd ps,gR P w K mg base vU (lv n) b fd ps (R1 (nI S K base tabs) (callC S.Fs n k) c (S.q k) b7)/\Binds K fd ps []
theorem Ib(h:oW S base k b c b7):∃oc od fd sl,base.get? b=Δ ⟨oc,od,.func fd,sl⟩:=by obtain⟨ci,o,sc,cl,_,ho,hf,_⟩:=h;rcases hf with ⟨_,_,_,_,rfl,_⟩|⟨_,_,_,_,_,_,rfl,_⟩<;>exact⟨_,_,_,_,ho⟩
theorem A0(T:yW K mg S tabs a fd cP)(D:lH P w K mg S tabs a fd n base)(hX:X.prog=P/\X.w=w/\X.K=K/\X.mg=mg/\X.base=base)(hr:dj (lv n+1) X.A)(SF:af X kt=nI S K base tabs):∀(k) (x) (m),S.fns[k]?=Δ (x,m)->uN X kt (callC S.Fs n k) x m:=by obtain⟨rfl,rfl,rfl,rfl,rfl⟩:=hX;intro j x nn hj;obtain⟨hk,i2,ej,e2⟩:=TX.HV hj;cases e2;obtain⟨⟨x2,F2⟩,KW,xi,_⟩:=T.fn j i2 ej;exact⟨⟨lv n,a j,fd j,i2.1.ps,by rw[SF];exact D j i2 ej,hr.mono (aah _),KW hk,F2.kp,xi⟩⟩
theorem A1{X:Cx}(T:yW K mg S tabs a fd cP)(hK:X.K=K):∀c f,S.zN c f=Λ->∃A,YJ X.K YB c=Δ (Δ (.ref A))/\BU X.K A/\kf X.K A f:=by subst hK;intro c f h;unfold TX.zN at h;rw[ZK] at h;obtain⟨q,hq,h⟩:=h;simp only[Yj,qqq,ZK] at h;obtain⟨rfl,f',hf,rfl⟩:=h;obtain⟨A,k1,k2,k3,k4,_⟩:=T.cl q hq;exact⟨A,k1,k3,k4 _ hf⟩
theorem Mw(h:S.np k=Δ n):∃i,S.is[k]?=Δ i/\i.1.F.np=n:=by unfold TX.np at h;cases ej:S.is[k]? with|none=>rw[ej] at h;cases h|some i=>rw[ej] at h;exact⟨i,rfl,by simpa using h⟩
theorem A2(T:yW K mg S tabs a fd cP)(D:lH P w K mg S tabs a fd n base)(hX:X.prog=P/\X.w=w/\X.K=K/\X.mg=mg/\X.base=base)(hr:dj (lv n+1) X.A)(SF:af X kt=nI S K base tabs):∀k c m nn,S.BW k c m nn=Λ->∃A l fa fd ps,YJ X.K YB c=Δ (Δ (.ref A))/\BU X.K A/\B6 X.K A m fa/\gR X.prog X.w X.K X.mg X.base vU l fa fd ps (CT ?B (callC S.Fs n k) (nn+1))/\dj l X.A/\Binds X.K fd ps []:=by obtain⟨rfl,rfl,rfl,rfl,rfl⟩:=hX;intro k c m nn h;unfold TX.BW at h;rw[ZK] at h;obtain⟨q,hq,h⟩:=h;simp only[Yj,qqq] at h;obtain⟨⟨rfl,hm⟩,hn⟩:=h;obtain⟨i,ei,en⟩:=Mw hn;obtain⟨A,k1,k2,k3,k4,k5,_⟩:=T.cl q hq;obtain⟨_,_,xi,_⟩:=T.fn k i ei;refine⟨A,lv n,a k,fd k,i.1.ps,k1,k3,k5 _ _ hm,?_,hr.mono (aah _),xi⟩;have:=D k i ei;rw[SF,<-en];exact this
theorem A3(T:yW K mg S tabs a fd cP)(D:lH P w K mg S tabs a fd n base)(hX:X.prog=P/\X.w=w/\X.K=K/\X.mg=mg/\X.base=base)(hr:dj (lv n+1) X.A)(SF:af X kt=nI S K base tabs):∀k c nn,S.BX k c nn=Λ->∃A l fa fd ps,X.mg c=Δ (.ref A)/\YJ X.K YB c=Δ (Δ (.ref A))/\Mk X.K A fa/\gR X.prog X.w X.K X.mg X.base vU l fa fd ps (CT ?B (callC S.Fs n k) (nn+1))/\dj (l+1) X.A/\Binds X.K fd ps []:=by obtain⟨rfl,rfl,rfl,rfl,rfl⟩:=hX;intro k c nn h;unfold TX.BX at h;rw[ZK] at h;obtain⟨q,hq,h⟩:=h;simp only[Yj,qqq] at h;obtain⟨⟨rfl,hm⟩,hn⟩:=h;obtain⟨i,ei,en⟩:=Mw hn;obtain⟨A,k1,k2,k3,k4,k5,k6⟩:=T.cl q hq;obtain⟨_,_,xi,_⟩:=T.fn k i ei;refine⟨A,lv n,a k,fd k,i.1.ps,k2,k1,k6 _ hm,?_,hr,xi⟩;have:=D k i ei;rw[SF,<-en];exact this
theorem OU(T:yW K mg S tabs a fd cP)(D:lH P w K mg S tabs a fd n base)(L:yX P w K mg S tabs n base):yX P w K mg S tabs (n+1) base:=by
 intro k b c b7 hc;obtain⟨ci,o,sc,cl,Ju,ho,hf,yE⟩:=hc;obtain⟨eF,eq⟩:=TX.OS Ju;have good:∀(cl:List (Str×Addr)) (A:ZS) (outer:List Env) (s:YG) (H:Hp) (E:XK),lj ci.N ci.ps ci.fr sc->dj (lv n+1) (A.deeper (Ap ci.qual sc ?C b (.ref c) cl))->
   fW (Mp vU P w K mg base ci.N ci.qual sc b (.ref c) cl A outer s H E).Gd (UM S base tabs) (gC S ci sc) (callC S.Fs n):=λcl A outer s H E SC hr=>
  {N:=rfl,loc:=λx h=>h,Jo:=λx h=>h,gl:=λx h=>h,calm:=rfl,hu:=by have:=hr.un;show(A.deeper _).units+100 < cLine;lia,bl:=T.bl,
   fn:=A0 T D ⟨rfl,rfl,rfl,rfl,rfl⟩ hr rfl,cs:=T.cs,tb:=T.tb,
   rG:=λ_ k' a' c' OV h'=>⟨Ib h',by obtain⟨f,ps,F,B⟩:=L k' a' c' OV h';exact⟨lv n,f,ps,F,hr.mono (aah _),B⟩⟩,
   lam:=λ_ _ _ _ _ h=>absurd ?Qi ?T,fc:=λ_ _ _ _ h=>absurd ?Qi ?T,jA:=λ_ _ _ h=>absurd ?Qi ?T,fld:=A1 T rfl,P9:=A2 T D ⟨rfl,rfl,rfl,rfl,rfl⟩ hr rfl,Qa:=A3 T D ⟨rfl,rfl,rfl,rfl,rfl⟩ hr rfl,nj:=λ_ _ _ _ _ _ _ h=>absurd ?Qi ?T,
   cell:=λx h=>absurd rfl (SC.eR _ (Zd h)),nd:=SC.nd,UL:=λx h=>absurd rfl (SC.eR _ (Zd h)),own:=adj}
 have len:C1 ci sc=Λ->∀vs H Q E,R1 (nI S K base tabs) (callC S.Fs (n+1) k) c (S.q k) b7 vs H Q E->vs.length=ci.ps.length:=λhb vs H Q E h=>by
  obtain⟨_,m,Z,qs,bA,st,rq,rc,_,h⟩:=h;obtain⟨_,UN,_,DE⟩:=oV hb;obtain⟨_,_,_,_,_,hl⟩:=mn eF DE h;rw[YF,UN] at hl;have e1:=rq.length;have e2:=rc.length;have e3:=yE.len
  lia
 have core:∀{X:Cx},X.K=K->X.base=base->C1 ci sc=Λ->∀{vs:List V} {H:Hp} {Q:VK} {E:XK},R1 (nI S K base tabs) (callC S.Fs (n+1) k) c (S.q k) b7 vs H Q E->
   ∃Z0,tS (af X (UM S base tabs)) Z0 (ah (callC S.Fs n) ci.F.body) {nx:=λ_ H'=>Q .bC H',rt:=Q} (L2.start ci.N (vs++b7)) H:=λ{X} hK hB hb {vs H Q E} h=>by
  obtain⟨_,m,Z,qs,bA,st,rq,rc,as,h⟩:=h;obtain⟨_,_,hnn,DE⟩:=oV hb;obtain⟨q2,d,ea,er,h2,_⟩:=mn eF DE h;exact qC (kb:=nI S K base tabs) hnn (rq.append rc) as hK.symm rfl (λ_ _ _ _ z=>z) rfl ea er h2
 rcases hf with ⟨pa,bo,pm,ct,rfl,aL⟩|⟨nm,pa,bo,doc,pm,ct,rfl,aL⟩
 ·unfold qA at aL;simp only[Yj] at aL;obtain⟨⟨⟨_,Xh⟩,hb⟩,Qd⟩:=aL;obtain⟨SC,_⟩:=oV hb;refine⟨_,ci.ps,NH (k:=lv n+1) ho (λvs H Q E h=>⟨c,rfl,by rw[<-eq];exact h.1⟩) SC yE (len hb) (λA outer s H vs Q E hr h=>?_),Binds.all λus hl=>jm Xh rfl hl⟩;obtain⟨Z0,ht⟩:=core (X:=Mp vU P w K mg base ci.N ci.qual sc b (.ref c) cl A outer s H E) rfl rfl hb h;cases Xi:KY ci.F.body with|none=>rw[Xi] at Qd;cases Qd|some e=>rw[Xi] at Qd;rw[KZ Xi] at ht;exact⟨_,(aI e _ _ _ bo Z0 (good cl A outer s H E SC hr).toGood Qd).1.Gd,K3 ht⟩
 ·unfold qB at aL;simp only[Yj] at aL;obtain⟨⟨⟨_,Xh⟩,hb⟩,Qd⟩:=aL;obtain⟨SC,_⟩:=oV hb;refine⟨_,ci.ps,ND (k:=lv n+1) ho (λvs H Q E h=>⟨c,rfl,by rw[<-eq];exact h.1⟩) SC yE (len hb) (λA outer s H vs Q E hr h=>?_),Binds.all λus hl=>jm Xh rfl hl⟩;obtain⟨Z0,ht⟩:=core (X:=Mp vU P w K mg base ci.N ci.qual sc b (.ref c) cl A outer s H E) rfl rfl hb h;exact⟨_,(dM ci.F.body _ _ _ bo Z0 (good cl A outer s H E SC hr) Qd).Gd,ht⟩
end
section
variable{K:KB}{H H':Hp}{m Z:List Addr}{P f c:Addr}{bX:List (Pos×Str)}{q:Str}{φ:Heap->Prop}
theorem xP(md:Made H H' P f c bX q φ)(hP:∃ps,H P=Δ (.fO ps))(h:H b=Δ u)(hu:∀ps,u≠.fO ps):H' b=Δ u:=by refine md.keep b u h λz=>?_;obtain⟨ps,e⟩:=hP;rw[z,e] at h;cases h;exact hu ps rfl
theorem made_le(md:Made H H' P f c bX q φ)(hP:∃ps,H P=Δ (.fO ps)):Le K m H m H':=by
 have kp:=λ{b:Addr} {u:HO} (h:H b=Δ u) (hu:∀ps,u≠.fO ps)=>xP md hP h hu;have gr:∀b ps,H b=Δ (.fO ps)->∃more,H' b=Δ (.fO (ps++more)):=λb ps h=>by
  by_cases hb:b=P;·subst hb;exact md.grow ps h
  ·exact⟨#[],by rw[md.keep b _ h hb];simp⟩
 refine⟨⟨[],by simp⟩,λb xs h=>kp h (λ_ z=>nomatch z),λb u h _ hu=>kp h hu,λb h=>.inl h,λb h=>?_,λb h=>?_,λb o u h=>kp h (λ_ z=>nomatch z),λb ψ h=>kp h (λ_ z=>nomatch z),gr⟩
 ·cases e:H b with
  |none=>exact absurd e h|some u=>
   by_cases hu:∃ps,u=.fO ps;·obtain⟨ps,rfl⟩:=hu;obtain⟨more,e2⟩:=gr b ps e;rw[e2];exact λz=>nomatch z
   ·rw[kp e λps z=>hu ⟨ps,z⟩];exact λz=>nomatch z
 ·cases e:gQ H b with
  |none=>exact absurd e h|some u=>
   obtain⟨e1,e2⟩:=lp e;by_cases hu:∃ps,u=.fO ps;·obtain⟨ps,rfl⟩:=hu;obtain⟨more,e3⟩:=gr b ps e1;rw[bz e3 (λ_ z=>nomatch z)];exact λz=>nomatch z
   ·have e3:=kp e1 λps z=>hu ⟨ps,z⟩;by_cases hx:∃ψ,u=.ext ψ;·obtain⟨ψ,rfl⟩:=hx;have:∃q,ψ=dD b q:=YT λz=>e2 ψ rfl λq' e'=>z ⟨q',e'⟩;obtain⟨q',rfl⟩:=this;rw[gD e3];exact λz=>nomatch z
    ·rw[bz e3 λψ z=>hx ⟨ψ,z⟩];exact λz=>nomatch z
theorem D6{st:aK}(as:aA K H m Z st)(md:Made H H' P f c bX q φ)(hP:∃ps,H P=Δ (.fO ps))(un:∀t∈K.tabs,t.1=P->t.2=bX):aA K H' m Z st:=by
 have le:Le K m H m H':=made_le md hP;refine⟨as.len,as.nd,λn o h=>?_,λb h=>le.DM b (as.zt b h),as.zm,λt ht=>?_⟩
 ·obtain⟨a,e,r⟩:=as.at_ n o h;exact⟨a,e,r.mono (λb u hb hu=>xP md hP hu λps z=>by
   rcases hb with w1|w1;·subst w1;rw[z] at hu;exact r.rU.2.2.2.2.1 ps hu
   ·rw[w1] at hu;cases hu;cases z) λp v z=>z.le le⟩
 ·by_cases e:t.1=P;·obtain⟨ps,h1,h2⟩:=md.tab;exact⟨ps,by rw[e];exact h1,by rw[un t ht e];exact h2⟩
  ·obtain⟨ps,h1,h2⟩:=as.tab t ht;exact⟨ps,md.keep _ _ h1 e,fV.same le.ext h2⟩
end
abbrev tw(S:TX)(base:Heap)(tabs:List ?Qu)(cells:List (Str×Addr)):KT where
 tabs:=tabs
 rG:=oW S base
 Jq:=λk a c _ h=>∃ci o sc,S.ci k=Δ ci/\h.get? a=Δ o/\HW S ci o sc (jn cells sc.names []) c/\∀x,(x,YK)∈sc.names->∃c,cells.lookup x=Δ c
 AB:=S.q
theorem uV{S:TX}:∀(f c) (ct) (g1 g2),(tw S base tabs cells).Jq k f c ct g1->(∀o,g1.get? f=Δ o->g2.get? f=Δ o)->(tw S base tabs cells).Jq k f c ct g2:=
 λf c ct g1 g2 ⟨ci,o,sc,h1,h2,h3⟩ hk=>⟨ci,o,sc,h1,hk o h2,h3⟩
section
variable{X:Cx}{S:TX}{base:Heap}{tabs:List ?Qu}{C:Nat->List P->aK->R P}{i:Info×List (Nat×Pos)}{c P:Addr}{Z:List Addr}
theorem xQ(hc:∀x,(aF i.1.st).names.lookup x=Δ .cell->∃c,X.env.cells.lookup x=Δ c)(h:freeOk (aF i.1.st).names sc=Λ):∀x,(x,YK)∈sc.names->∃c,X.env.cells.lookup x=Δ c:=λx hx=>by
 unfold freeOk at h;rw[Zz] at h;have:=h _ hx;simp only[aaR,qqq] at this;rcases this with z|z;·exact absurd rfl z
 ·exact hc x z
theorem SG(hB:X.base=base)(M:Maker X c P (cN S i))(hP:(P,cN S i)∈tabs)(un:∀t∈tabs,t.1=P->t.2=cN S i)(hq:X.env.qual=i.1.name++".<locals>.")(hc:∀x,(aF i.1.st).names.lookup x=Δ .cell->∃c,X.env.cells.lookup x=Δ c)(h:HX S i k pa bo sc pos=Λ):PE X (.Lambda pa bo sc pos) (tE (af X ?Qa) Z (ae C (.lam k))):=by
 unfold HX at h;split at h
 ·rename_i ci Ju;simp only[Yj,qqq] at h;obtain⟨⟨⟨h1,h2⟩,h3⟩,h4⟩:=h;have eq:S.q k=X.env.qual++"<lambda>":=by rw[(TX.OS Ju).2,h4,hq]
  have hs:(pos,X.env.qual++"<lambda>")∈cN S i:=by rw[<-eq];exact aad.mpr ⟨(k,pos),h1,rfl⟩
  have sR:=h2;unfold qA at sR;simp only[Yj] at sR;have fr:=xQ (X:=X) hc h3;refine PE.imp (NO (φ:=λf c ct=>(tw S base tabs X.env.cells).Jq k f c ct) M hs (lq sR.1.1.2 X.env).1 (mQ fr) (λf c ct hh e=>⟨ci,_,sc,Ju,e,.inl ⟨pa,bo,_,ct,by rw[h4,<-hq],h2⟩,fr⟩) (λf c ct g1 g2=>uV f c ct g1 g2)) ?_;rintro σ H Q ⟨m,r,st,ar,as,h⟩;rw[qg] at h;obtain⟨ps,e1,e2⟩:=as.tab _ hP;refine⟨ps,e1,e2,λf c ct H' md=>?_⟩;refine h m H' (made_le md ⟨ps,e1⟩) (D6 as md ⟨ps,e1⟩ un) (.ref f) ?_;rw[aj];exact⟨f,c,ct,rfl,md.fn,by show H' c=Δ (.ext (dD c (S.q k)));rw[eq];exact md.code⟩
 ·cases h
theorem OW(hB:X.base=base)(M:Maker X c P (cN S i))(hP:(P,cN S i)∈tabs)(un:∀t∈tabs,t.1=P->t.2=cN S i)(hq:X.env.qual=i.1.name++".<locals>.")(hc:∀x,(aF i.1.st).names.lookup x=Δ .cell->∃c,X.env.cells.lookup x=Δ c)(hN:X.N=i.1.N)(nd:i.1.N.Nodup)(OX:X.env.scope=aF i.1.st)(Gb:∀x,X.fn x=Λ)(h:HY S i j k nm pa bo sc pos=Λ):PS X (.FunctionDef nm pa bo [] Θ [] sc Θ nm pos) (tS (af X ?Qa) Z (aQ C (.nj j k))):=by
 unfold HY at h;split at h
 ·rename_i ci Ju;simp only[Yj,qqq,aaR] at h;obtain⟨⟨⟨⟨⟨h1,h2⟩,h3⟩,h4⟩,h5⟩,h6⟩:=h;have G9:Loc X.env.scope nm:=by rw[OX];exact h6
  have qe:acb X.env nm nm=X.env.qual++nm:=by unfold acb;rw[if_neg];show ¬((X.env.scope.names.lookup nm==Δ aaX.globalExplicit)=Λ);rw[OX];rcases h6 with z|z<;>rw[z]<;>decide
  have eq:S.q k=acb X.env nm nm:=by rw[(TX.OS Ju).2,h4,qe,hq]
  have hs:(pos,acb X.env nm nm)∈cN S i:=by rw[<-eq];exact aad.mpr ⟨(k,pos),h1,rfl⟩
  have sR:=h2;unfold qB at sR;simp only[Yj] at sR;have fr:=xQ (X:=X) hc h3;have dp:=lq sR.1.1.2 X.env;refine PS.imp (NQ (φ:=λf c ct=>(tw S base tabs X.env.cells).Jq k f c ct) M hs dp.2.1 dp.2.2 (E7 sR.1.1.2 X.env) (mQ fr) (by rw[hN];exact nd) (by rw[hN];exact h5) G9 (.inl (Gb nm))
   (λf c ct doc hh e=>⟨ci,_,sc,Ju,e,.inr ⟨nm,pa,bo,doc,_,ct,by rw[h4,<-hq,<-qe],h2⟩,fr⟩) (λf c ct g1 g2=>uV f c ct g1 g2)) ?_
  rintro D σ H ⟨m,r,st,ar,as,h⟩;rw[uA] at h;obtain⟨ps,e1,e2⟩:=as.tab _ hP;refine⟨ps,e1,e2,λf c ct H' md=>?_⟩;have le:Le (af X ?Qa) m H m H':=made_le md ⟨ps,e1⟩;refine h m H' le (D6 as md ⟨ps,e1⟩ un) _ ((ar.le le).set ?_);rw[aj];exact⟨f,c,ct,rfl,md.fn,by show H' c=Δ (.ext (dD c (S.q k)));rw[eq];exact md.code⟩
 ·cases h
end
theorem Jn.keeps(C:Jn B cl F b7)(k:∀b o,B.get? b=Δ o->B'.get? b=Δ o):Jn B' cl F b7:=
 ⟨C.inj,C.only,λi x v h1 h2=>by obtain⟨c,u,a,b,d⟩:=C.at_ i x v h1 h2;exact⟨c,u,a,b.keeps k,d⟩,C.len⟩
theorem oW.keeps{S:TX}(h:oW S B k a c b7)(kp:∀b o,B.get? b=Δ o->B'.get? b=Δ o):oW S B' k a c b7:=by obtain⟨ci,o,sc,cl,h1,h2,h3,h4⟩:=h;exact⟨ci,o,sc,cl,h1,kp _ _ h2,h3,Jn.keeps h4 kp⟩
theorem Fx{S:TX}(h:HW S ci o sc cl c):C1 ci sc=Λ/\∃fd,o.data=.func fd:=by
 rcases h with ⟨pa,bo,pm,ct,rfl,aL⟩|⟨nm,pa,bo,doc,pm,ct,rfl,aL⟩
 ·unfold qA at aL;simp only[Yj] at aL;exact⟨aL.1.2,_,rfl⟩
 ·unfold qB at aL;simp only[Yj] at aL;exact⟨aL.1.2,_,rfl⟩
theorem D7{α:Type}{x:α}:∀{l:List (Nat×α)},l.lookup k=Δ x->(k,x)∈l
 |[],h=>by cases h|(j,y)::l,h=>by rw[YU] at h;cases hb:k==j with|true=>rw[hb] at h;cases h;rw[eq_of_beq hb];exact Yk|false=>rw[hb] at h;exact Yi _ (D7 h)
theorem OY(h:Rd H a ?QY):Rd (gQ H) a ?QY:=by
 rcases h with h|⟨o,h⟩;·exact .inl (bz h (λ_ z=>nomatch z))
 ·exact .inr ⟨o,bz h (λ_ z=>nomatch z)⟩
section
variable{X:Cx}{S:TX}{base:Heap}{tabs:List ?Qu}{C:Nat->List P->aK->R P}{i:Info×List (Nat×Pos)}{Z:List Addr}{η:List ?Qb}{σ:L2.St}{H:Hp}{s:YG}{ls:List (Nat×List Nat)}{r:bS}
theorem aj.SH(hk:K1.K=K2.K)(hq:K1.AB=K2.AB)(hc:∀k a c b7,K1.rG k a c b7->K2.rG k a c b7)(hp:cz x=Λ)(h:aj K1 H [] Z x v):aj K2 (L2.gQ H) [] Z x v:=by
 have h1:aj K2 H [] Z x v:=aj.kb hk hq hc hp h;have go:∀n:Nat,(∀(x:P) (v:V),sizeOf x<=n->cz x=Λ->aj K2 H [] Z x v->aj K2 (L2.gQ H) [] Z x v)/\(∀(xs:List P) (vs:List V),sizeOf xs<=n->cE xs=Λ->ai K2 H [] Z xs vs->ai K2 (L2.gQ H) [] Z xs vs):=λn=>by
  induction n with
  |zero=>
   refine⟨λx v hs=>?_,λxs vs hs=>?_⟩;·cases x<;>simp at hs
   ·cases xs<;>simp at hs
  |succ n ih=>
   refine⟨λx v hs hp h=>?_,λxs vs hs hp h=>?_⟩;·cases x with|d y=>rw[aj] at h ⊢;exact aH.congr (λa us e=>bz e (λ_ z=>nomatch z)) (λa us _ _ e=>OY e) h|obj y=>simp[cz] at hp|ik y=>simp[cz] at hp|lf y=>simp[cz] at hp|fn k bA=>rw[aj] at h ⊢;obtain⟨a,c,b7,e,q,hx,rr⟩:=h;exact⟨a,c,b7,e,q,gD hx,ih.2 bA b7 (by simp at hs;lia) (by simpa[cz] using hp) rr⟩
   ·cases xs with|nil=>exact h|cons x xs=>rw[ai] at h ⊢;obtain⟨v,qv,e,rr,rs⟩:=h;simp only[cE,Yj] at hp;simp at hs;exact⟨v,qv,e,ih.1 x v ?D hp.1 rr,ih.2 xs qv ?D hp.2 rs⟩
 exact(go (sizeOf x)).1 x v (Yt _) hp h1
theorem Ic(I:Inv X η σ H s)(hB:X.base=base)(Gb:∀x,X.fn x=Λ)(hN:X.N=i.1.N)(OX:X.env.scope=aF i.1.st)(Xj:Fw S i ls=Λ)(ar:cA (af X ?Qa) H [] Z r σ):
  ∀(n) (p q) (v),conv ls r n p=Δ q->aj (af X ?Qa) H [] Z p v->aj (nI S X.K ?QJ tabs) (L2.gQ H) [] Z q v:=by
 have kp:∀b o,base.get? b=Δ o->(r8 s.heap H (j0 X.stack)).get? b=Δ o:=λb o e=>I.Hc (by rw[hB];exact e);have SI:∀k a c b7,(af X ?Qa).rG k a c b7->(nI S X.K ?QJ tabs).rG k a c b7:=λk a c b7 h=>oW.keeps h kp;intro n;induction n with
 |zero=>intro p q v h;cases h|succ n ih=>
  intro p q v h hr;cases p with
  |d x=>cases h;exact aj.SH (K1:=af X ?Qa) (K2:=nI S X.K ?QJ tabs) rfl rfl SI rfl hr|ik ns=>
   cases h;rw[aj] at hr ⊢;obtain⟨a,e,hf⟩:=hr;refine⟨a,e,?_⟩;rcases hf with ⟨o,hf⟩|hf
   ·exact .inl ⟨o,bz hf (λ_ z=>nomatch z)⟩
   ·exact .inr hf
  |obj k=>cases h|fn k bA=>
   have h':(if cE bA=Λ then Δ (P.fn k bA) else Θ)=Δ q:=h;split at h';·rename_i hp;cases h';exact aj.SH (K1:=af X ?Qa) (K2:=nI S X.K ?QJ tabs) rfl rfl SI (by simpa[cz] using hp) hr
   ·cases h'
  |lf k=>
   have h':((ls.lookup k).bind λjs=>(js.mapM λj=>((r[j]?).join).bind (conv ls r n)).map λbA=>P.fn k bA)=Δ q:=h;obtain⟨js,e1,h2⟩:=dc h';obtain⟨bA,e2,rfl⟩:=iw h2;rw[aj] at hr;obtain⟨a,c,ct,rfl,ha,WS⟩:=hr;obtain⟨hφ,_,_⟩:=I.aL a _ ha;obtain⟨ci,o,sc,Ju,ho,EV,zU⟩:=hφ;obtain⟨hcb,fd0,hfd⟩:=Fx EV;obtain⟨SC,_⟩:=oV hcb;have hfx:CA a ((af X ?Qa).Jq k a c ct):=λq' e=>by have SJ:=(I.aL a _ ha).1;rw[e] at SJ;obtain⟨c2,o2,W1,t2,e2,Jl,hd2,_⟩:=SJ;cases e2;rw[ho] at Jl;cases Jl;rw[hfd] at hd2;cases hd2
   have anf:∀{b:Addr},H b≠Θ->b∉j0 X.stack:=λ{b} hb z=>hb (I.oa b z);have aL:=Zz.mp (show(ls.all _)=Λ from Xj) (k,js) (D7 e1);simp only[Ju,Yj,qqq,Zz] at aL;obtain⟨hjs,OZ⟩:=aL;have key:∀(js:List Nat) (fr:List Str) (bA:List P),js.map (λj=>i.1.N[j]?)=fr.map Δ->(∀x∈fr,(aF i.1.st).names.lookup x=Δ .cell)->(js.mapM λj=>((r[j]?).join).bind (conv ls r n))=Δ bA->
     ∃b7,ai (nI S X.K ?QJ tabs) (L2.gQ H) [] Z bA b7/\b7.length=fr.length/\∀(l:Nat) (x:Str) (v:V),fr[l]?=Δ x->b7[l]?=Δ v->∃c u,X.env.cells.lookup x=Δ c/\(r8 s.heap H (j0 X.stack)).IsCell c (Δ u)/\RelV v u:=by
    intro js;induction js with
    |nil=>intro fr bA hj _ hm;cases fr with|cons x fr=>simp at hj|nil=>simp at hm;subst hm;exact⟨[],by rw[ai],rfl,λl x v h=>by simp at h⟩
    |cons j js ihj=>
     intro fr bA hj yE hm;cases fr with
     |nil=>simp at hj|cons x fr=>
      rw[Yx,Yx] at hj;injection hj with hj1 Xk;rw[List.mapM_cons] at hm;obtain⟨q1,hq1,KW⟩:=dc (show(((r[j]?).join).bind (conv ls r n)).bind _=Δ bA from hm);obtain⟨qs,hqs,hm3⟩:=dc (show(js.mapM λj=>((r[j]?).join).bind (conv ls r n)).bind _=Δ bA from KW);cases (show Δ (q1::qs)=Δ bA from hm3);obtain⟨pj,SK,hcj⟩:=dc hq1;have e':r[j]?=Δ (Δ pj):=by cases z:r[j]? with|none=>rw[z] at SK;cases SK|some o=>rw[z] at SK;simp at SK;rw[SK]
      obtain⟨vj,ej,rj⟩:=ar.at_ j pj e';obtain⟨b7,r1,r2,r3⟩:=ihj fr qs Xk (λy hy=>yE y (Yi _ hy)) hqs;have oi:=yE x Yk;have GK:X.env.kindOf x=Δ .cell:=by show X.env.scope.names.lookup x=_;rw[OX];exact oi
      obtain⟨mm,hn,hl⟩:=I.loc;obtain⟨u,ru,lk⟩:=hl j x vj (by rw[hN];exact hj1) ej (.inr (.inl (by rw[OX];exact oi)));refine⟨vj::b7,by rw[ai];exact⟨vj,b7,rfl,ih pj q1 vj hcj rj,r1⟩,by simp[r2],λl y v hy hv=>?_⟩;cases l with
      |succ l=>exact r3 l y v (by simpa using hy) (by simpa using hv)|zero=>
       simp at hy hv;subst hy;subst hv;rcases lk with ⟨hk,_⟩|⟨_,c',Dw,O0⟩
       ·rw[GK] at hk;cases hk
       ·refine⟨c',u,Dw,?_,ru⟩;obtain⟨oc,MU,hdc⟩:=O0;refine⟨oc,yG MU (kl (I.kJ x c' Dw)) λz=>?_,hdc⟩;rcases aa2.mp (I.pW c' z) with w1|w1;·exact I.LW x c' Dw w1
        ·obtain⟨_,o3,ho3,_⟩:=I.ok.m7.mem w1;exact Z9 _ (YO (YE ho3) (I.ok.MT x c' (Gb x) Dw))
   obtain⟨b7,k1,k2,k3⟩:=key js ci.fr bA hjs OZ e2;rw[aj];refine⟨a,c,b7,rfl,⟨ci,o,sc,_,Ju,yG ho (yF ha hfx) (anf (by rw[ha];exact λz=>nomatch z)),EV,?_⟩,gD WS,k1⟩;have look:∀x,(x,YK)∈sc.names->(jn X.env.cells sc.names []).lookup x=X.env.cells.lookup x:=λx hx=>(kn (x:=x) (acc:=[]) zU).1 hx;have O1:∀x,(x,YK)∉sc.names->(jn X.env.cells sc.names []).lookup x=Θ:=λx hx=>(kn (x:=x) (acc:=[]) zU).2 hx;have Xl:∀x c,(jn X.env.cells sc.names []).lookup x=Δ c->(x,YK)∈sc.names:=λx c h=>YT λz=>by rw[O1 x z] at h;cases h
   refine⟨λx y c' h1 h2=>?_,λx c' h=>SC.RJ _ (Xl x c' h) rfl,λl x v h1 h2=>?_,k2⟩;·rw[look x (Xl x c' h1)] at h1;rw[look y (Xl y c' h2)] at h2;exact I.ok.inj x y c' h1 h2
   ·obtain⟨c',u,g1,g2,g3⟩:=k3 l x v h1 h2;exact⟨c',u,by rw[look x (Zd (SC.fre x (Yz h1)))];exact g1,g2,g3⟩
end
theorem Fy(h:H b=H' b):gQ H b=gQ H' b:=by unfold gQ;rw[h]
section
variable{K1 K2:KB}{H1 H2:Hp}{m Z:List Addr}
theorem mo(hn:∀b φ,H1 b=Δ ?QQ->CA b φ->H2 b=Θ)(h:H2 b=Δ u):Aq H1 H2 b=Δ u:=by rw[ue λφ z hf=>by rw[hn b φ z hf] at h;cases h];exact h
theorem Ie(hn:∀b φ,H1 b=Δ ?QQ->CA b φ->H2 b=Θ)(h:gQ H2 b≠Θ):gQ (Aq H1 H2) b≠Θ:=by have e:Aq H1 H2 b=H2 b:=ue λφ z hf=>h (kl (hn b φ z hf));rw[Fy e];exact h
theorem SN(hn:∀b φ,H1 b=Δ ?QQ->CA b φ->H2 b=Θ)(le:Le K1 [] (gQ H1) [] H2):Le K2 [] H1 [] (Aq H1 H2):=by
 have mono:=λ{b:Addr} {u:HO} (h:H2 b=Δ u)=>mo hn h;have ext:∀b φ,H1 b=Δ ?QQ->Aq H1 H2 b=Δ ?QQ:=λb φ e=>by
  by_cases hf:CA b φ;·exact DH e hf
  ·have:∃q,φ=dD b q:=YT λz=>hf λq' e'=>z ⟨q',e'⟩;obtain⟨q,rfl⟩:=this;exact mono (le.ext _ _ (gD e))
 have keep:∀b u,H1 b=Δ u->(∀ps,u≠.fO ps)->Aq H1 H2 b=Δ u:=λb u e hu=>by
  by_cases hx:∃φ,u=.ext φ;·obtain⟨φ,rfl⟩:=hx;exact ext b φ e
  ·exact mono (le.keep _ _ (bz e λφ z=>hx ⟨φ,z⟩) ?E hu)
 have fO:∀b ps,H1 b=Δ (.fO ps)->∃more,Aq H1 H2 b=Δ (.fO (ps++more)):=λb ps e=>by obtain⟨more,e2⟩:=le.fO b ps (bz e (λ_ z=>nomatch z));exact⟨more,mono e2⟩
 refine⟨⟨[],rfl⟩,λb xs e=>keep b _ e (λ_ z=>nomatch z),λb u e _ hu=>keep b u e hu,(λb h=>nomatch h),λb h=>?_,λb h=>?_,λb o u e=>keep b _ e (λ_ z=>nomatch z),ext,fO⟩
 ·cases e:H1 b with
  |none=>exact absurd e h|some u=>
   by_cases hu:∃ps,u=.fO ps;·obtain⟨ps,rfl⟩:=hu;obtain⟨more,e2⟩:=fO b ps e;rw[e2];exact λz=>nomatch z
   ·rw[keep b u e λps z=>hu ⟨ps,z⟩];exact λz=>nomatch z
 ·refine Ie hn (le.DM b ?_);cases e:gQ H1 b with
  |none=>exact absurd e h|some o=>
   obtain⟨_,e2⟩:=lp e;by_cases hx:∃φ,o=.ext φ;·obtain⟨φ,rfl⟩:=hx;have:∃q,φ=dD b q:=YT λz=>e2 φ rfl λq' e'=>z ⟨q',e'⟩;obtain⟨q,rfl⟩:=this;rw[gD e];exact λz=>nomatch z
   ·rw[bz e λφ z=>hx ⟨φ,z⟩];exact λz=>nomatch z
theorem SO(ht:K1.tabs=K2.tabs)(hn:∀b φ,H1 b=Δ ?QQ->CA b φ->H2 b=Θ)(as:aA K1 H2 [] Z []):aA K2 (Aq H1 H2) [] Z []:=
 mj (λb h=>Ie hn (as.zt b h)) λt h=>by obtain⟨ps,e1,e2⟩:=as.tab t (by rw[ht];exact h);exact⟨ps,mo hn e1,fV.same (λb φ e=>mo hn e) e2⟩
theorem O2(hn:∀b φ,H1 b=Δ ?QQ->CA b φ->H2 b=Θ)(h:aH K1 H2 [] Z x v):aH K2 (Aq H1 H2) [] Z x v:=
 aH.congr (λb us e=>mo hn e) (λb us _ _ e=>by
  rcases e with e|⟨o,e⟩;·exact .inl (mo hn e)
  ·exact .inr ⟨o,mo hn e⟩) (aH.kb h)
end
theorem Ig{st:aK}(h:Ok kb Z (iG c o st) m H Q):∃qs x,o=Δ qs/\st=[]/\c qs []=.ok (.d x) []/\Ok kb Z (R.ok (P.d x) []) m H Q:=by
 unfold iG at h;split at h
 ·rename_i qs;cases hx:c qs [] with
  |ex x s=>rw[hx] at h;exact(show False from h).elim|no=>rw[hx] at h;exact(show False from h).elim|ok p st2=>
   rw[hx,aa] at h;split at h;·rename_i x;exact⟨qs,x,rfl,rfl,hx,h⟩
   ·exact(show False from h).elim
 ·exact(show False from h).elim
section
variable{X:Cx}{S:TX}{base:Heap}{tabs:List ?Qu}{i:Info×List (Nat×Pos)}{Z:List Addr}{η:List ?Qb}{σ:L2.St}{H:Hp}{s:YG}{ls:List (Nat×List Nat)}{r:bS}
theorem xR(cr:∀(p q:P) (v:V),conv ls r 3 p=Δ q->aj (af X ?Qa) H [] Z p v->aj (nI S X.K ?QJ tabs) (L2.gQ H) [] Z q v):
  ∀{ps qs} {vs},ps.mapM (conv ls r 3)=Δ qs->ai (af X ?Qa) H [] Z ps vs->ai (nI S X.K ?QJ tabs) (L2.gQ H) [] Z qs vs
 |[],qs,vs,h,rr=>by simp at h;subst h;rw[ai] at rr ⊢;exact rr|p::ps,qs,vs,h,rr=>by rw[List.mapM_cons] at h;obtain⟨q1,e1,h2⟩:=dc (show(conv ls r 3 p).bind _=Δ qs from h);obtain⟨q2,e2,h3⟩:=dc (show(ps.mapM (conv ls r 3)).bind _=Δ qs from h2);cases (show Δ (q1::q2)=Δ qs from h3);rw[ai] at rr ⊢;obtain⟨v,qv,e,r1,r2⟩:=rr;exact⟨v,qv,e,cr p q1 v e1 r1,xR cr e2 r2⟩
variable{K:Yw}{mg:Str->Option Value}{a:Nat->Addr}{fd:Nat->aao}{cP:Nat->Addr×Addr}
theorem K4(T:yW X.K X.mg S tabs a fd cP)(hB:X.base=base)(Gb:∀x,X.fn x=Λ)(hN:X.N=i.1.N)(OX:X.env.scope=aF i.1.st)(hr:dj (lv n) X.A)(D:∀Ar,ky X.mg S cP Ar->lH X.prog X.w X.K X.mg S tabs a fd n Ar)(bo:ky X.mg S cP X.base)(hf:S.fns[f]?=Δ (x,nn))(Xj:Fw S i ls=Λ)(hl:cj.length=nn)(hg:Gl X x)(hp:aV x=Λ)(hs:∀y∈e::es,notStar y=Λ)(ha:PA X (e::es) (tA (af X ?Qa) Z (aC (callC S.Fs n) cj))):
  PE X ?QG (tE (af X ?Qa) Z (ae (callC S.Fs n) (.fc f cj ls))):=by
 obtain⟨hk,i2,ej,e2⟩:=TX.HV hf;cases e2;obtain⟨⟨x2,F2⟩,hm,hb,_⟩:=T.fn f i2 ej;have hm:=hm hk;intro η s σ H Q I h;obtain⟨m,r,st,ar,as,h⟩:=h;rw[fe] at h;refine ZN (oj I hg hm ?_ (pn hp).1);refine abL (h₀:=X.base) I.ok.mod.MS F2.kp (bW (ha pos η s σ H (λvs H1=>∃m1 st1 ps,cA (af X ?Qa) H1 m1 Z r σ/\aA (af X ?Qa) H1 m1 Z st1/\ai (af X ?Qa) H1 m1 Z ps vs/\?S=cj.length/\
   Ok (af X ?Qa) Z (iG (callC S.Fs n f) (ps.mapM (conv ls r 3)) st1) m1 H1 (λp _ m' H'=>∀v,aj (af X ?Qa) H' m' Z p v->Q v H')) I
  ⟨m,r,st,ar,as,(Ok.bind h).xD λps st1 m1 H1 hq bU bg h1 vs jc=>⟨m1,st1,ps,ar.le bU,bg,jc,gg hq,h1⟩⟩) λus s1 ⟨vs,H1,I1,rr,m1,st1,ps,ar1,bg,jc,zK,h1⟩=>⟨I1.n9,?_⟩) (bI (hs e Yk)) (gu λz hz=>hs z (Yi _ hz))
 obtain⟨qs,d,eq,rfl,hx,h2⟩:=Ig h1;have em:m1=[]:=List.eq_nil_of_length_eq_zero (by rw[bg.len];rfl);subst em;have cr:=λp q v=>Ic I1 hB Gb hN OX Xj ar1 3 p q v;have rq:=xR cr eq jc;have kp:∀b o,X.base.get? b=Δ o->(r8 s1.heap H1 (j0 X.stack)).get? b=Δ o:=λb o e=>I1.Hc e;have O3:ky X.mg S cP (r8 s1.heap H1 (j0 X.stack)):=⟨λk j hj hm=>(bo.code k j hj hm).keeps kp,by obtain⟨bm,ob,b1,b2,b3,r⟩:=bo.bm;exact⟨bm,ob,b1,b2,kp _ _ b3,r⟩⟩;have Fk:=D _ O3 f i2 ej;have vl:vs.length=i2.1.F.np:=by rw[jc.length,zK,hl]
 have usl:us.length=i2.1.ps.length:=by have ok:=(T.fn f i2 ej).2.2.2.2;unfold Ia at ok;simp only[Yj,qqq] at ok;rw[<-rr.length,vl,ok.1.1.2]
 have eZ:aA (nI S X.K (r8 s1.heap H1 (j0 X.stack)) tabs) (L2.gQ H1) [] Z []:=mj (λb hb=>by
   have:=bg.zt b hb;cases e:L2.gQ H1 b with
   |none=>exact absurd e this|some o=>
    obtain⟨_,e2⟩:=lp e;by_cases hx:∃φ,o=.ext φ;·obtain⟨φ,rfl⟩:=hx;have:∃q,φ=dD b q:=YT λz=>e2 φ rfl λq' e'=>z ⟨q',e'⟩;obtain⟨q,rfl⟩:=this;rw[gD e];exact λz=>nomatch z
    ·rw[bz e λφ z=>hx ⟨φ,z⟩];exact λz=>nomatch z) λt ht=>by
  obtain⟨ps,e1,e2⟩:=bg.tab t ht;exact⟨ps,bz e1 (λ_ z=>nomatch z),e2.1,λp hp cv BV=>by obtain⟨c,g1,g2⟩:=e2.2 p hp cv BV;exact⟨c,g1,gD g2⟩⟩
 have He:adb s1 (fd f) ⟨us,[]⟩ (i2.1.ps.zip us):=by have:=hb s1 us I1.n9 (by rw[Zo];exact usl);rw[Zo] at this;exact this
 refine Z5 (Kg (Q:=λv H2=>∃m',Le (nI S X.K (r8 s1.heap H1 (j0 X.stack)) tabs) [] (L2.gQ H1) m' H2/\aA (nI S X.K (r8 s1.heap H1 (j0 X.stack)) tabs) H2 m' Z []/\aH (nI S X.K (r8 s1.heap H1 (j0 X.stack)) tabs) H2 m' Z d v) I1 Fk hr He rr
  ⟨[],Z,qs,[],vl,rq,eZ,by rw[hx];exact λm' H' le cj v rv=>⟨m',le,cj,by rw[aj] at rv;exact rv⟩⟩) (λu s2 ⟨v,H3,I3,rv,H2,eH,hn,m',le,cj,rd⟩=>⟨v,H3,I3,rv,?_⟩) λ_ _ z=>z
 subst eH;have em2:m'=[]:=List.eq_nil_of_length_eq_zero (by rw[cj.len];rfl);subst em2;exact h2 [] _ (SN hn le) (SO (K1:=nI S X.K (r8 s1.heap H1 (j0 X.stack)) tabs) rfl hn cj) v (by rw[aj];exact O2 hn rd)
end
def xS{α:Type}(P:Nat->α->Prop):Nat->List α->Prop
 |_,[]=>True|j,x::xs=>P j x/\xS P (j+1) xs
theorem O4{α:Type}{P:Nat->α->Prop}:xS P j []:=trivial
theorem bb{α:Type}{P:Nat->α->Prop}{x:α}{xs:List α}(h:P j x)(t:xS P (j+1) xs):xS P j (x::xs):=⟨h,t⟩
theorem Mx{α:Type}{P:Nat->α->Prop}:∀{l} {j},xS P j l->∀k i,l[k]?=Δ i->P (j+k) i
 |[],j,_,k,i,e=>by simp at e|x::xs,j,h,0,i,e=>by simp at e;subst e;exact h.1
 |x::xs,j,h,k+1,i,e=>by have:=Mx h.2 k i (by simpa using e);rwa [Nat.add_assoc,adI 1 k] at this
theorem C2{α:Type}{P:Nat->α->Prop}{l:List α}(h:xS P 0 l)k(i:α)(e:l[k]?=Δ i):P k i:=by have:=Mx h k i e;rwa [Y2] at this
def scB(i:Info):Bool:=decide ((aF i.st).kind=.function)&&!(aF i.st).isCoroutine&&!(aF i.st).isGenerator&&decide i.N.Nodup&&decide (i.N.take i.ps.length=i.ps)&&
 decide (∀x∈i.ps,(aF i.st).names.lookup x=Δ .local\/(aF i.st).names.lookup x=Δ .cell)&&decide (∀y∈(aF i.st).names,y.2≠.free)
def My(S:TX):Bool:=S.is.all λi=>Ia S i&&scB i.1
theorem sr{S:TX}(h:My S=Λ){k:Nat}(e:S.is[k]?=Δ i):oq i.1.N i.1.ps (aF i.1.st)/\Ia S i=Λ:=by have q:=Zz.mp h i (Yz e);unfold scB at q;simp only[Yj,qqq,YV] at q;obtain⟨q1,⟨⟨⟨⟨⟨h1,h2⟩,h3⟩,h4⟩,h5⟩,h6⟩,h7⟩:=q;exact⟨⟨h1,h2,h3,h4,h5,h6,h7⟩,q1⟩
theorem SQ{α:Type}{P:α->Prop}:∀y∈([]:List α),P y:=λ_ h=>nomatch h
theorem memC{α:Type}{P:α->Prop}{x:α}{xs:List α}(h:P x)(t:∀y∈xs,P y):∀y∈x::xs,P y:=List.forall_mem_cons.mpr ⟨h,t⟩
theorem lkN{β:Type}{P:Str->β->Prop}:∀m k,([]:List (Str×β)).lookup m=Δ k->P m k:=λ_ _ h=>nomatch h
theorem SR{β:Type}{P:Str->β->Prop}{b:β}{xs:List (Str×β)}(h:P x b)(t:∀m k,xs.lookup m=Δ k->P m k):∀m k,((x,b)::xs).lookup m=Δ k->P m k:=λm k e=>by
 rw[YU] at e;split at e;·rename_i hq;cases e;rw[eq_of_beq hq];exact h
 ·exact t m k e
theorem D8{β:Type}{l:List (Addr×β)}(nd:ns.Nodup)(hn:l.map (·.1)=ns){b:β}(h:(a,b)∈l):∀t∈l,t.1=a->t.2=b:=by
 subst hn;induction l with
 |nil=>cases h|cons x l ih=>
  rw[Yx,ZT] at nd;intro t ht e;rcases aa2.mp h with z|z
  ·rcases aa2.mp ht with z2|z2;·rw[z2,<-z]
   ·exact absurd (aad.mpr ⟨t,z2,by rw[e,<-z]⟩) nd.1
  ·rcases aa2.mp ht with z2|z2;·exact absurd (aad.mpr ⟨_,z,by rw[<-z2,e]⟩) nd.1
   ·exact ih z nd.2 t z2 e
theorem A4{α:Type}{P:List α->Prop}(h:∀a,P [a]):∀us,us.length=1->P us
 |[a],_=>h a
theorem qD{α:Type}{P:List α->Prop}(h:∀a b,P [a,b]):∀us,us.length=2->P us
 |[a,b],_=>h a b
theorem Ih{α:Type}{P:List α->Prop}(h:∀a b c,P [a,b,c]):∀us,us.length=3->P us
 |[a,b,c],_=>h a b c
section
variable{P:Zm}{w:World}{K:Yw}{mg:Str->Option Value}{S:TX}{tabs:List ?Qu}{a:Nat->Addr}{fd:Nat->aao}{cP:Nat->Addr×Addr}
theorem K5{st:Stmt}{fd:aao}(F:n4 K x qual st f fd)(S:oq N ps (aF st))(len:∀vs H Q E,sp vs H Q E->vs.length=?S)(tU:∀(A:ZS) (outer:List Env) (s:YG) (H:Hp) (vs:List V) (Q:VK) (E:XK),dj k (A.deeper (ac6 qual (aF st) ?C f fd.code))->sp vs H Q E->
   ∃t,m8 (yp vU P w K mg base N qual (aF st) f fd.code A outer s H E).Gd (l8 st) t/\t {nx:=λ_ H'=>Q .bC H',rt:=Q} (L2.start N vs) H):gR P w K mg base vU (k+1) f fd ps sp:=by
 obtain⟨oc,od,kV,doc,pm,an,kU,ct,JP,rfl,lk,pX⟩:=F.ex;refine QY lk pX S len λA outer s H vs Q E hr yq=>?_;obtain⟨t,h,q⟩:=tU A outer s H vs Q E hr yq;exact⟨t,h.Gd,q⟩
theorem O5(T:yW K mg S tabs a fd cP)(D:∀base,ky mg S cP base->lH P w K mg S tabs a fd n base)(L:∀base,ky mg S cP base->yX P w K mg S tabs n base)(bo:ky mg S cP base):lH P w K mg S tabs a fd (n+1) base:=by
 intro k i hi;obtain⟨⟨x1,F⟩,hm,hb,sc,ok⟩:=T.fn k i hi;unfold Ia at ok;simp only[Yj,qqq,aaR,YV] at ok;obtain⟨⟨⟨SS,ok2⟩,SD⟩,ok4⟩:=ok;have ek:=TX.Xf hi;refine K5 (k:=lv n+1) F sc (λvs H Q E h=>?_) (λA outer s H vs Q E hr h=>?_);·obtain⟨m,Z,qs,st,hl,_⟩:=h;rw[hl,ok2]
 obtain⟨m,Z,qs,st,hl,rq,as,aL⟩:=h;have hu:(A.deeper (ac6 i.1.name (aF i.1.st) ?C (a k) (fd k).code)).units+100 < cLine:=by have:=hr.un;lia
 by_cases Mz:i.2=[]
 ·have eg:HZ S i={N:=i.1.N,names:=(aF i.1.st).names,fns:=S.fns,iO:=S.cs,tabs:=S.ts,zN:=S.zN,BW:=S.BW,BX:=S.BX}:=by unfold HZ;rw[Mz]
  rw[eg] at SS;have G:fW (yp vU P w K mg base i.1.N i.1.name (aF i.1.st) (a k) (fd k).code A outer s H E).Gd (UM S base tabs) {N:=i.1.N,names:=(aF i.1.st).names,fns:=S.fns,iO:=S.cs,tabs:=S.ts,zN:=S.zN,BW:=S.BW,BX:=S.BX} (callC S.Fs n):=
   {N:=rfl,loc:=λx h=>h,Jo:=λx h=>h,gl:=λx h=>h,calm:=rfl,hu:=hu,bl:=T.bl,
    fn:=A0 T (D base bo) ⟨rfl,rfl,rfl,rfl,rfl⟩ hr rfl,cs:=T.cs,tb:=T.tb,
    rG:=λ_ k' a' c' OV h'=>⟨Ib h',by obtain⟨f,ps,F,B⟩:=L base bo k' a' c' OV h';exact⟨lv n,f,ps,F,hr.mono (aah _),B⟩⟩,
    lam:=λ_ _ _ _ _ h=>absurd ?Qi ?T,fc:=λ_ _ _ _ h=>absurd ?Qi ?T,jA:=λ_ _ _ h=>absurd ?Qi ?T,fld:=A1 T rfl,P9:=A2 T (D base bo) ⟨rfl,rfl,rfl,rfl,rfl⟩ hr rfl,Qa:=A3 T (D base bo) ⟨rfl,rfl,rfl,rfl,rfl⟩ hr rfl,nj:=λ_ _ _ _ _ _ _ h=>absurd ?Qi ?T,
    cell:=λx h=>h,nd:=sc.nd,UL:=λx _=>rfl,own:=adj}
  by_cases DE:i.1.F.sh=Λ
  ·rw[iN,ek] at aL;simp only[DE,if_true] at aL;by_cases UN:qs.length=i.1.F.np;·rw[if_pos UN] at aL;refine⟨_,dM i.1.F.body _ _ _ _ Z G SS,m,ay i.1.F.nn qs,st,by rw[SD];exact xN rq,as,?_⟩;show Ok (nI S K base tabs) Z (ah (callC S.Fs n) i.1.F.body (ay i.1.F.nn qs) st) m H _;cases hx:ah (callC S.Fs n) i.1.F.body (ay i.1.F.nn qs) st with|ex x s=>rw[hx] at aL;exact(show False from aL).elim|no=>rw[hx] at aL;exact(show False from aL).elim|ok f aJ=>rw[hx] at aL;cases f with|bk r=>exact(show False from aL).elim|ct r=>exact(show False from aL).elim|nx r=>exact λm' H' le cj σ _=>(show Ok (nI S K base tabs) Z (R.ok (Y.P.d .bC) aJ) m H _ from aL) m' H' le cj .bC rfl|rt p=>exact λm' H' le cj v rv=>(show Ok (nI S K base tabs) Z (R.ok p aJ) m H _ from aL) m' H' le cj v rv
   ·rw[if_neg UN] at aL;exact(show False from aL).elim
  ·have tM:i.1.F.sh=Ξ:=by cases q:i.1.F.sh with|false=>rfl|true=>exact absurd q DE
   obtain⟨q2,d,ea,er,h2,_⟩:=mn ek tM aL;obtain⟨Z0,ht⟩:=qC (X:=(yp vU P w K mg base i.1.N i.1.name (aF i.1.st) (a k) (fd k).code A outer s H E).Gd) (kt:=UM S base tabs) (kb:=nI S K base tabs) SD rq as rfl rfl (λ_ _ _ _ z=>z) rfl ea er h2;exact⟨_,dM i.1.F.body _ _ _ _ Z0 G SS,ht⟩
 ·obtain⟨mk1,mk2,mk3,mk4⟩:=T.mkr k i hi Mz;have tM:i.1.F.sh=Ξ:=ok4.resolve_left λz=>Mz (Yy.mp z);obtain⟨q2,d,ea,er,h2,_⟩:=mn ek tM aL
  let X:=(yp vU P w K mg base i.1.N i.1.name (aF i.1.st) (a k) (fd k).code A outer s H E).Gd
  have M:Maker X (cP k).1 (cP k).2 (cN S i):=⟨mk1,bo.code k i hi Mz,bo.bm,mk3⟩;have hc:∀x,(aF i.1.st).names.lookup x=Δ .cell->∃c,X.env.cells.lookup x=Δ c:=λx h=>tR h;have eg:HZ S i={N:=i.1.N,names:=(aF i.1.st).names,fns:=[],iO:=S.cs,tabs:=S.ts,RY:=HX S i,RZ:=HY S i,Ms:=λf x n ls=>decide (S.fns[f]?=Δ (x,n))&&Fw S i ls,R0:=λ_ _ _=>Ξ,cv:=Ξ}:=by
   unfold HZ;split;·exact absurd ‹i.2=[]› Mz
   ·rfl
  rw[eg] at SS;have G:fW X ?Qa {N:=i.1.N,names:=(aF i.1.st).names,fns:=[],iO:=S.cs,tabs:=S.ts,RY:=HX S i,RZ:=HY S i,Ms:=λf x n ls=>decide (S.fns[f]?=Δ (x,n))&&Fw S i ls,R0:=λ_ _ _=>Ξ,cv:=Ξ} (callC S.Fs n):=
   {N:=rfl,loc:=λx h=>h,Jo:=λx h=>h,gl:=λx h=>h,calm:=rfl,hu:=hu,bl:=T.bl,
    fn:=λj x nn h=>by simp at h,cs:=T.cs,tb:=T.tb,
    rG:=λh=>absurd ?Qi ?T,
    lam:=λk' pa O3 sc' pos h Z=>SG rfl M mk2 mk4 rfl hc h,
    fc:=λf x nn ls h Z e es cj p pos h1 h2 h3 h4 h5=>by have h':(decide (S.fns[f]?=Δ (x,nn))&&Fw S i ls)=Λ:=h;simp only[Yj,qqq] at h';have Xm:(aF i.1.st).names.lookup x=Δ aaX.globalImplicit:=of_decide_eq_true (show decide ((aF i.1.st).names.lookup x=Δ aaX.globalImplicit)=Λ from h2);exact K4 (X:=X) (cP:=cP) (i:=i) T rfl (λ_=>rfl) rfl rfl (hr.mono (aah _)) D bo h'.1 h'.2 h1 Xm h3 h4 h5
    jA:=λ_ _ _ h=>absurd ?Qi ?T,fld:=λ_ _ h=>absurd ?Qi ?T,P9:=λ_ _ _ _ h=>absurd ?Qi ?T,Qa:=λ_ _ _ h=>absurd ?Qi ?T
    nj:=λj k' nm pa O3 sc' pos h Z=>OW rfl M mk2 mk4 rfl hc rfl sc.nd rfl (λ_=>rfl) h
    cell:=λx h=>h,nd:=sc.nd,UL:=λx _=>rfl,own:=adj}
  obtain⟨Z0,ht⟩:=qC (X:=X) (kt:=tw S base tabs X.env.cells) (kb:=nI S K base tabs) SD rq as rfl rfl (λ_ _ _ _ z=>z) rfl ea er h2;exact⟨_,dM i.1.F.body _ _ _ _ Z0 G SS,ht⟩
theorem D9(T:yW K mg S tabs a fd cP):∀n,(∀base,ky mg S cP base->lH P w K mg S tabs a fd n base)/\(∀base,ky mg S cP base->yX P w K mg S tabs n base)
 |0=>by
  refine⟨λbase bo k i hi=>?_,λbase bo k b c b7 hc=>?_⟩
  ·have no:∀vs H Q E,¬CT (nI S K base tabs) (callC S.Fs 0 k) i.1.F.np vs H Q E:=λvs H Q E ⟨m,Z,qs,st,_,_,_,h⟩=>by rw[uE] at h;exact h
   exact⟨λvs H Q E h=>absurd h (no vs H Q E),λA outer s H args us vs Q E _ _ _ _ h=>absurd h (no vs H Q E)⟩
  ·have no:∀vs H Q E,¬R1 (nI S K base tabs) (callC S.Fs 0 k) c (S.q k) b7 vs H Q E:=λvs H Q E ⟨_,m,Z,qs,bA,st,_,_,_,h⟩=>by rw[uE] at h;exact h
   obtain⟨Xn,Xo,h1,h2⟩:∃(Xn:aao) (Xo:List Str),Binds K Xn Xo []/\True:=by
    obtain⟨ci,o,sc,cl,_,_,hf,_⟩:=hc;rcases hf with ⟨pa,O3,pm,ct,rfl,aL⟩|⟨nm,pa,O3,doc,pm,ct,rfl,aL⟩
    ·unfold qA at aL;simp only[Yj] at aL;exact⟨adm "<lambda>" ci.qual pa O3 sc cl pm (.ref c) ct,ci.ps,Binds.all λus hl=>jm aL.1.1.2 rfl hl,trivial⟩
    ·unfold qB at aL;simp only[Yj] at aL;exact⟨adT nm ci.qual pa O3 sc cl .none .none doc pm Θ (.ref c) ct,ci.ps,Binds.all λus hl=>jm aL.1.1.2 rfl hl,trivial⟩
   exact⟨Xn,Xo,⟨λvs H Q E h=>absurd h (no vs H Q E),λA outer s H args us vs Q E _ _ _ _ h=>absurd h (no vs H Q E)⟩,h1⟩
 |n+1=>by obtain⟨i1,i2⟩:=D9 T n;exact⟨λbase bo=>O5 T i1 i2 bo,λbase bo=>OU T (i1 base bo) (i2 base bo)⟩
theorem K6(ht:∀t∈tabs,t.1∈SU.map (·.2))(hc:c [.ik ns] []=.ok (.d ?QV) [])(ho:DI SU H)(hs:mB K H b (ns.map V.int)){E:XK}:
  CT (nI S K base tabs) c 1 [.ref b] H (λv _=>v=.bl Λ) E:=by
 refine⟨[],[],[.ik ns],[],rfl,⟨_,_,rfl,⟨b,rfl,?_⟩,rfl⟩,mj (λ_ h=>by cases h) (λt h=>?_),?_⟩
 ·rcases hs with (h|h)|h
  ·rcases ho.1 b with z|⟨o,xs,z⟩|⟨z,_⟩;·rw[h] at z;cases z
   ·rw[h] at z;cases z
   ·rw[h] at z;cases z
  ·exact .inl h
  ·exact .inr h
 ·obtain⟨q,hq,e⟩:=aad.mp (ht t h);exact⟨#[],by rw[<-e];exact ho.2 q hq,trivial,λp hp cv BV=>by cases (show(Θ:Option Value)=Δ cv from BV)⟩
 ·rw[hc];exact λm' H' le as v rv=>rv
end
end Y
namespace Y
open PySem
variable{Fs:List Fn}
@[simp] theorem SV st x:bF st (.d x)=Θ:=rfl
@[simp] theorem O6 st x:bF st (.ik x)=Θ:=rfl
theorem A5:bF st (.obj n)=(st[n]?).bind λo=>if jI o then Δ o else Θ:=rfl
@[simp] theorem UO xs:jI ?QX=Ξ:=rfl
@[simp] theorem Xp kvs:jI ?QA=Λ:=rfl
theorem kz(h:st[n]?=Δ ?QX):bF st (.obj n)=Θ:=by rw[A5,h];rfl
theorem mq(h:st[n]?=Δ ?QA):bF st (.obj n)=Δ ?QA:=by rw[A5,h];rfl
theorem MA:dg st (.obj n)=cT st (.obj n):=rfl
theorem gv(h:st[n]?=Δ ?QX):cT st (.obj n)=Δ xs:=by show(match st[n]? with|some (.lst xs)=>Δ xs|_=>Θ)=_;rw[h]
@[simp] theorem cD{α:Type}(f:α->D):∀xs:List α,br (xs.map λx=>P.d (f x))=Δ (xs.map f)
 |[]=>rfl|x::xs=>by simp[br,Ho,cD f xs]
@[simp] theorem gi:∀xs,br (xs.map P.d)=Δ xs
 |[]=>rfl|x::xs=>by simp[br,Ho,gi xs]
@[simp] theorem xT{α:Type}(f:α->Bool):∀xs:List α,boolsOf (xs.map λx=>P.d (.bl (f x)))=Δ (xs.map f)
 |[]=>rfl|x::xs=>by simp[boolsOf,xT f xs]
theorem oX{G:P->bS}{f:D->D}:∀{xs:List D},(∀x∈xs,c (G (.d x)) st=.ok (p x) st)->(∀x∈xs,e (G (.d x)) st=.ok (.d (f x)) st)->
  cn G c e (xs.map .d) st=.ok ((xs.filter p).map λx=>.d (f x)) st
 |[],_,_=>rfl|x::xs,h,k=>by have ih:=oX (G:=G) (c:=c) (e:=e) (st:=st) (f:=f) (p:=p) (xs:=xs) (λy hy=>h y (Yi _ hy)) λy hy=>k y (Yi _ hy);simp only[Yx];rw[eY,h x Yk,aa];cases hp:p x with|true=>rw[if_pos rfl,k x Yk,aa,ih,aa,YY hp,Yx]|false=>rw[if_neg ?E,ih,Y4 (by simp[hp])]
theorem kA{α:Type}{G:P->bS}{g:α->P}{f:α->D}:∀{xs:List α},(∀x∈xs,c (G (g x)) st=.ok Λ st)->(∀x∈xs,e (G (g x)) st=.ok (.d (f x)) st)->cn G c e (xs.map g) st=.ok (xs.map λx=>.d (f x)) st
 |[],_,_=>rfl|x::xs,h,k=>by have ih:=kA (G:=G) (c:=c) (e:=e) (st:=st) (g:=g) (f:=f) (xs:=xs) (λy hy=>h y (Yi _ hy)) λy hy=>k y (Yi _ hy);simp only[Yx];rw[eY,h x Yk,aa,if_pos rfl,k x Yk,aa,ih,aa]
theorem dh{α:Type}{xs:List α}{g:α->P}{f:α->D}(hw:bM C w r st=.ok (xs.map g) st1)(hl:?Q<=aq)(he:∀x∈xs,ae C e (Δ (g x)::bu js r) st1=.ok (.d (f x)) st1):aS C (.comp w 1 js Θ e) r st=.ok (xs.map λx=>.d (f x)) st1:=by rw[iK,hw,aa,if_pos ⟨rfl,by simpa using hl⟩];exact kA (λx _=>rfl) he
theorem yY{xs:List D}{f:D->D}(hw:bM C w r st=.ok (xs.map .d) st1)(hl:?Q<=aq)(hc:∀x∈xs,ae C c (Δ (.d x)::bu js r) st1=.ok (.d (.bl (p x))) st1)(he:∀x∈xs,ae C e (Δ (.d x)::bu js r) st1=.ok (.d (f x)) st1):aS C (.comp w 1 js (Δ c) e) r st=.ok ((xs.filter p).map λx=>.d (f x)) st1:=by rw[iK,hw,aa,if_pos ⟨rfl,by simpa using hl⟩];exact oX (λx hx=>by rw[ku,hc x hx];rfl) he
def C3:P->Bool
 |.obj _=>Ξ|.lf _=>Ξ|.fn _ bA=>cE bA|_=>Λ
theorem uW:∀{ps},ps.all C3=Λ->g9 st ps=Δ ps/\ps.any isObj=Ξ
 |[],_=>⟨rfl,rfl⟩|p::ps,h=>by rw[aaG,Yj] at h;obtain⟨i1,i2⟩:=uW (st:=st) h.2;cases p with|obj n=>cases h.1|lf n=>cases h.1|d x=>exact⟨by simp[g9,yJ,kr,i1],by simp[isObj,i2]⟩|ik ns=>exact⟨by simp[g9,yJ,i1],by simp[isObj,i2]⟩|fn k bA=>exact⟨by simp[g9,yJ,i1,show cE bA=Λ from h.1],by simp[isObj,i2]⟩
theorem call_of(hF:Fs[k]?=Δ F)(hp:ps.all C3=Λ)(hr:wq ?L F ps=Δ d)(DE:F.sh=Ξ:=by rfl):callC Fs (n+1) k ps st=.ok (.d d) st:=by obtain⟨a1,a2⟩:=uW (st:=st) hp;rw[iN,hF];simp only[DE,a1,hr,uD,a2,ab4,Y7,if_false]
theorem yZ(hF:Fs[k]?=Δ F)(DE:F.sh=Λ)(hl:?S=F.np)(hr:ah ?L F.body (ay F.nn ps) st=.ok (.rt p) aJ):callC Fs (n+1) k ps st=.ok p aJ:=by rw[iN,hF];simp only[DE,hl,hr,if_true,Kk]
theorem cC(hl:?S=F.np)(he:ah C F.body (ay F.nn ps) []=.ok (.rt p) st)(hf:kr st p=Δ d):wq C F ps=Δ d:=by unfold wq;rw[if_pos hl,he];exact hf
theorem Ea{r:bS}:∀{xs:List D} {u},(∀x∈xs,b (r.set i (Δ (.d x))) st=if f x=Λ then .ok (.nx (r.set i (Δ (.d x)))) st else .ok (.rt v) st)->
  ∃u2,forL (gf (.nm i)) b (xs.map .d) (r.set i u) st=if xs.all f=Λ then .ok (.nx (r.set i u2)) st else .ok (.rt v) st
 |[],u,_=>⟨u,rfl⟩|x::xs,u,h=>by obtain⟨u2,ih⟩:=Ea (i:=i) (r:=r) (st:=st) (f:=f) (v:=v) (b:=b) (xs:=xs) (u:=Δ (.d x)) λy hy=>h y (Yi _ hy);refine⟨u2,?_⟩;rw[Yx,qk,gf,au,aa,adJ,h x Yk];cases hf:f x with|true=>rw[if_pos rfl,aa,aaG,hf,adB];exact ih|false=>rw[if_neg ?E,aa,aaG,hf,ab4,if_neg ?E]
class Kf (α β:Type) where
 f:α->aK->R β
def bE{α β:Type}(a:R α)[k:Kf α β]:R β:=a.bind k.f
@[simp] theorem SX{α β:Type}(a:α)st(f:α->aK->R β):bE (.ok a st) (k:=⟨f⟩)=f a st:=rfl
section
variable{C:Nat->List P->aK->R P}{r:bS}{st:aK}
@[simp] theorem aR i:ae C (.var i) r st=R.of (r[i]?).join st:=rfl
@[simp] theorem UP o a b:ae C (.op o a b) r st=bE (ae C a r st) (k:=⟨λx st1=>bE (ae C b r st1) (k:=⟨λy st2=>R.of (Jp o x y st2) st2⟩)⟩):=rfl
@[simp] theorem SY a:ae C (.not a) r st=bE (ae C a r st) (k:=⟨λx st1=>bE (R.of (yK st1 x) st1) (k:=⟨λb st2=>.ok (.d (.bl (!b))) st2⟩)⟩):=rfl
@[simp] theorem S0 o a b:ae C (.cmp o a b) r st=bE (ae C a r st) (k:=⟨λx st1=>bE (ae C b r st1) (k:=⟨λy st2=>bE (R.of (jf o x y st2) st2) (k:=⟨λb st3=>.ok (.d (.bl b)) st3⟩)⟩)⟩):=rfl
@[simp] theorem O7 o o' a b c:ae C (.chain o o' a b c) r st=bE (ae C a r st) (k:=⟨λx st1=>bE (ae C b r st1) (k:=⟨λy st2=>bE (R.of (jf o x y st2) st2) (k:=⟨λk st3=>if k then bE (ae C c r st3) (k:=⟨λz mN=>bE (R.of (jf o' y z mN) mN) (k:=⟨λb B1=>.ok (.d (.bl b)) B1⟩)⟩) else .ok (.d ?Zj) st3⟩)⟩)⟩):=rfl
@[simp] theorem S2 es:ae C (.tup es) r st=bE (aC C es r st) (k:=⟨λps st1=>if ?S<=aq then bE (R.of (br ps) st1) (k:=⟨λxs st2=>.ok (.d ?QE) st2⟩) else .no⟩):=rfl
theorem cH l:ae C (.lst Ξ l) r st=(aS C l r st).bind λps st1=>(R.of (br ps) st1).bind λxs st2=>.ok (.d (.pl xs)) st2:=rfl
@[simp] theorem Qe l:ae C (.lst Ξ l) r st=bE (aS C l r st) (k:=⟨λps st1=>bE (R.of (br ps) st1) (k:=⟨λxs st2=>.ok (.d (.pl xs)) st2⟩)⟩):=cH l
theorem fw l:ae C (.lst Λ l) r st=(aS C l r st).bind λps st1=>.ok (.obj st1.length) (st1++[.lst ps]):=rfl
@[simp] theorem Qf l:ae C (.lst Λ l) r st=bE (aS C l r st) (k:=⟨λps st1=>.ok (.obj st1.length) (st1++[.lst ps])⟩):=fw l
@[simp] theorem Qg f es:ae C (.call f es) r st=bE (aC C es r st) (k:=⟨λps st1=>C f ps st1⟩):=rfl
@[simp] theorem S3 a T:ae C (.Hn a T) r st=bE (ae C a r st) (k:=⟨λx st1=>bE (R.of (Ki x st1) st1) (k:=⟨λt st2=>.ok (.d (.bl (fk t T))) st2⟩)⟩):=rfl
@[simp] theorem UQ f es:ae C (.bf f es) r st=bE (aC C es r st) (k:=⟨λps st1=>R.of (sf f ps st1) st1⟩):=rfl
@[simp] theorem UR a b:ae C (.ix a b) r st=bE (ae C a r st) (k:=⟨λx st1=>bE (ae C b r st1) (k:=⟨λy st2=>R.of (Ax x y st2) st2⟩)⟩):=rfl
@[simp] theorem Qh es:aS C (.fR es) r st=bE (aC C es r st) (k:=⟨λps st1=>bE (R.of (si ps) st1) (k:=⟨λqs st2=>if qs.length<=aq then .ok qs st2 else .no⟩)⟩):=rfl
@[simp] theorem Qi a b:aS C (.zip a b) r st=bE (ae C a r st) (k:=⟨λx st1=>bE (ae C b r st1) (k:=⟨λy st2=>bE (R.of (Fg x y) st2) (k:=⟨λzs st3=>.ok (zs.map .d) st3⟩)⟩)⟩):=rfl
@[simp] theorem MB e js c ee:aS C (.cx e js c ee) r st=bE (ae C e r st) (k:=⟨λx st1=>match x with|.obj n=>cx n (λp=>Δ p::bu js r) (be C c) (λr' aJ=>ae C ee r' aJ) aq 0 st1|_=>.no⟩):=rfl
@[simp] theorem O8 e:xm C (Δ e) r st=bE (ae C e r st) (k:=⟨λx st1=>.ok (Δ x) st1⟩):=rfl
@[simp] theorem O9 e es:aC C (e::es) r st=bE (ae C e r st) (k:=⟨λx st1=>bE (aC C es r st1) (k:=⟨λxs st2=>.ok (x::xs) st2⟩)⟩):=rfl
@[simp] theorem Qj e e' es:gE C (e::e'::es) r st=bE (ae C e r st) (k:=⟨λx st1=>match x with|.d (.bl b)=>if b then gE C (e'::es) r st1 else .ok (.d ?Zj) st1|_=>.no⟩):=rfl
@[simp] theorem Qk e e' es:gF C (e::e'::es) r st=bE (ae C e r st) (k:=⟨λx st1=>match x with|.d (.bl b)=>if b then .ok (.d ?QV) st1 else gF C (e'::es) r st1|_=>.no⟩):=rfl
@[simp] theorem Pa es:aS C (.fQ es) r st=bE (aC C es r st) (k:=⟨λps st1=>if ?S<=aq then .ok ps st1 else .no⟩):=rfl
@[simp] theorem Pb e:aS C (.list e) r st=bE (ae C e r st) (k:=⟨λx st1=>R.of (dg st1 x) st1⟩):=rfl
@[simp] theorem S4 e:bM C (.ex e) r st=bE (ae C e r st) (k:=⟨λx st1=>R.of (ny x) st1⟩):=rfl
@[simp] theorem Ql es:bM C (.fR es) r st=bE (aC C es r st) (k:=⟨λps st1=>R.of (si ps) st1⟩):=rfl
@[simp] theorem Pc e:bM C (.enum e) r st=bE (ae C e r st) (k:=⟨λx st1=>match x with|.d (.tup xs)=>.ok (dS 0 xs) st1|_=>.no⟩):=rfl
@[simp] theorem Ii o i j:Jp o (.d (.int i)) (.d (.int j)) st=(nY o i j).map λk=>.d (.int k):=by cases o<;>rfl
@[simp] theorem op_tt xs ys:Jp .add (.d ?QE) (.d (.tup ys)) st=if ?Q+?Zd<=aq then Δ (.d (.tup (xs++ys))) else Θ:=rfl
@[simp] theorem op_ss x y:Jp .add (.d (.str x)) (.d (.str y)) st=if x.length+y.length<=aq then Δ (.d (.str (x++y))) else Θ:=rfl
@[simp] theorem Ij xs ys:Jp .add (.d (.pl xs)) (.d (.pl ys)) st=if ?Q+?Zd<=aq then Δ (.d (.pl (xs++ys))) else Θ:=by
 have e:br (xs.map P.d++ys.map P.d)=Δ (xs++ys):=by rw[<-Y1,gi]
 show(br (xs.map P.d++ys.map P.d)).bind _=_;rw[e,<-YF];rfl
@[simp] theorem K7 i j:nY .add i j=Δ (i+j):=rfl
@[simp] theorem K8 i j:nY .sub i j=Δ (i - j):=rfl
theorem fz(h:(-nq < i/\i < nq)\/(-nq < j/\j < nq)):nY .mul i j=Δ (i*j):=by unfold nY;simp only[if_pos h]
theorem fA(h:0 < j):nY .mod i j=Δ (i % j):=by unfold nY;simp only[if_pos h]
@[simp] theorem Pd b:yK st (.d (.bl b))=Δ b:=rfl
@[simp] theorem Xq:Ki (.d .bC) st=Δ "NoneType":=rfl
@[simp] theorem ty_bl b:Ki (.d (.bl b)) st=Δ "bool":=rfl
@[simp] theorem ty_int b:Ki (.d (.int b)) st=Δ "int":=rfl
@[simp] theorem ty_str b:Ki (.d (.str b)) st=Δ "str":=rfl
@[simp] theorem Xr b:Ki (.d (.tup b)) st=Δ "tuple":=rfl
@[simp] theorem ty_pl b:Ki (.d (.pl b)) st=Δ "list":=rfl
@[simp] theorem Pe i j:jf .lt (.d (.int i)) (.d (.int j)) st=Δ (decide (i < j)):=rfl
@[simp] theorem Xs i j:jf .le (.d (.int i)) (.d (.int j)) st=Δ (decide (i<=j)):=rfl
@[simp] theorem cmp_gt i j:jf .gt (.d (.int i)) (.d (.int j)) st=Δ (decide (j < i)):=rfl
@[simp] theorem Xt i j:jf .ge (.d (.int i)) (.d (.int j)) st=Δ (decide (j<=i)):=rfl
@[simp] theorem Pf x y:jf .eq (.d x) (.d y) st=se x y:=rfl
@[simp] theorem Ik x y:jf .ne (.d x) (.d y) st=(se x y).map not:=rfl
@[simp] theorem US x y:se (.str x) (.str y)=Δ (x==y):=rfl
@[simp] theorem zc x y:se (.int x) (.int y)=Δ (x==y):=rfl
@[simp] theorem Xu x y:se (.bl x) (.bl y)=Δ (x==y):=rfl
@[simp] theorem Xv y:se .bC (.int y)=Δ Ξ:=rfl
@[simp] theorem Xw xs:se ?QE (.tup [])=Δ xs.isEmpty:=by have h:min (mH ?QE) (mH (.tup []))<=100:=Zc (abx _ _) ?T;unfold se;rw[if_pos h];cases xs<;>rfl
@[simp] theorem Xx xs:se (.pl xs) (.pl [])=Δ xs.isEmpty:=by have h:min (mH (.pl xs)) (mH (.pl []))<=100:=Zc (abx _ _) ?T;unfold se;rw[if_pos h];cases xs<;>rfl
@[simp] theorem K9 xs:sf .len [.d ?QE] st=Δ (.d (.int ?Q)):=congrArg (λn:Nat=>Δ (P.d (.int n))) (Yr ..)
@[simp] theorem UT ns:sf .len [.ik ns] st=Δ (.d (.int ns.length)):=congrArg (λn:Nat=>Δ (P.d (.int n))) (Yr ..)
@[simp] theorem UU xs:sf .tuple [.d (.pl xs)] st=Δ (.d ?QE):=congrArg (λo:Option (List D)=>o.map λys=>P.d (.tup ys)) (gi xs)
theorem zd:nZ (xs.map f) i=(nZ xs i).map f:=by unfold nZ;rw[Yr];cases Ce ?Q i with|none=>rfl|some k=>exact Ys ..
@[simp] theorem Xy xs i:Ax (.d ?QE) (.d (.int i)) st=(nZ xs i).map .d:=by exact zd
@[simp] theorem S5 xs i:Ax (.d (.pl xs)) (.d (.int i)) st=(nZ xs i).map .d:=by exact zd
@[simp] theorem ix_s ns i:Ax (.ik ns) (.d (.int i)) st=(nZ ns i).map λk=>.d (.int k):=by exact zd
@[simp] theorem dit_t xs:ny (.d ?QE)=Δ (xs.map .d):=rfl
@[simp] theorem dit_l xs:ny (.d (.pl xs))=Δ (xs.map .d):=rfl
@[simp] theorem sit_t xs:dg st (.d ?QE)=Δ (xs.map .d):=rfl
@[simp] theorem S6 xs:dg st (.d (.pl xs))=Δ (xs.map .d):=rfl
@[simp] theorem Qm:Hs Θ=Δ Θ:=rfl
@[simp] theorem S7 i:Hs (Δ (.d (.int i)))=Δ (Δ i):=rfl
@[simp] theorem UW x ps:br (.d x::ps)=(br ps).map λxs=>x::xs:=rfl
@[simp] theorem Xz:br []=Δ []:=rfl
theorem dy{α:Type}{xs:List α}{k:Nat}{a:α}(h:xs[k]?=Δ a):nZ xs (k:Int)=Δ a:=by have hk:=(qqz h).1;unfold nZ Ce;rw[if_pos ?D,if_pos ?D];simpa using h
@[simp] theorem atI0{α:Type}(a:α)xs:nZ (a::xs) 0=Δ a:=dy (k:=0) rfl
@[simp] theorem atI1{α:Type}(a b:α)xs:nZ (a::b::xs) 1=Δ b:=dy (k:=1) rfl
theorem ag(h:aQ C s r st=.ok (.nx r1) st1)(k:ah C rest r1 st1=res):ah C (s::rest) r st=res:=by rw[jq,h,aa];exact k
theorem aM(h:aQ C s r st=.ok (.rt v) st1):ah C (s::rest) r st=.ok (.rt v) st1:=by rw[jq,h,aa]
theorem aw:ah C [] r st=.ok (.nx r) st:=by rw[uC]
theorem cy(h:ae C e r st=.ok v st1):aQ C (.ret e) r st=.ok (.rt v) st1:=by rw[qh,h,aa]
theorem aZ(h:ae C e r st=.ok v st1):aQ C (.set i e) r st=.ok (.nx (r.set i (Δ v))) st1:=by rw[qi,h,aa]
theorem jP(hc:ae C c r st=.ok (.d ?QV) st1)(h:ah C a r st1=res):aQ C (.ifs c a b) r st=res:=by rw[qj,bY,hc];simpa using h
theorem gH(hc:ae C c r st=.ok (.d ?Zj) st1)(h:ah C b r st1=res):aQ C (.ifs c a b) r st=res:=by rw[qj,bY,hc];simpa using h
theorem de(hw:bM C w r st=.ok ps st1)(h:forL (gf t) (ah C b) ps r st1=res):aQ C (.eV t w b) r st=res:=by rw[uv,hw,aa];exact h
theorem ze(h:n - i < k+1)(hi:i < n):n - (i+1) < k:=YO (aaV _ _ hi) (Nat.le_of_lt_succ h)
theorem uX(hc:∀r st f aJ,st[n]?=Δ ?QX->c r st=.ok f aJ->aJ[n]?=Δ ?QX)(he:∀r st f aJ,st[n]?=Δ ?QX->e r st=.ok f aJ->aJ[n]?=Δ ?QX):
  ∀(k i) (st),st[n]?=Δ ?QX->?Q - i < k->cx n g c e k i st=cn g c e (xs.drop i) st
 |0,i,st,_,hk=>absurd hk (aaP _)|k+1,i,st,hs,hk=>by
  have ha:xl n st i=Δ xs[i]?:=by unfold xl;rw[hs]
  rw[nC,ha];by_cases hi:i < ?Q;·rw[Yn hi,Zi hi,eY];dsimp only;cases hx:c (g xs[i]) st with|ex x s=>rfl|no=>rfl|ok b st1=>rw[aa,aa];have h1:=hc _ st b st1 hs hx;cases b with|false=>exact uX hc he k (i+1) st1 h1 (ze hk hi)|true=>simp only[if_true];cases hy:e (g xs[i]) st1 with|ex x s=>rfl|no=>rfl|ok y st2=>rw[aa,aa,uX hc he k (i+1) st2 (he _ st1 y st2 h1 hy) (ze hk hi)]
  ·rw[YR ?D,ab2 ?D,xB]
theorem zf(he:ae C e r st=.ok (.obj n) st1)(h:gS n (gf t) (ah C b) cF 0 r st1=res):aQ C (.gS t e b) r st=res:=by rw[uw,he,aa];exact h
theorem mT(ha:ae C a r st=.ok x st1)(hl:cT st1 x=Δ its)(he:ae C e r st1=.ok v st2)(hp:yL x v st2=Δ st3):aQ C (.app a e) r st=.ok (.nx r) st3:=by rw[xx,ha,aa,hl,au,aa,he,aa,hp,au,aa]
theorem mU(he:ae C e r st=.ok v st1)(ha:ae C a r st1=.ok x st2)(hi:ae C i r st2=.ok k st3)(hp:nv x k v st3=Δ mN):aQ C (.put a i e) r st=.ok (.nx r) mN:=by rw[xy,he,aa,ha,aa,hi,aa,hp,au,aa]
end
end Y
namespace Y
open PySem
section
variable{C:Nat->List P->aK->R P}{r:bS}{st:aK}
theorem A6 i es:ae C (.oI i es) r st=(R.of (r[i]?).join st).bind λp bG=>(aC C es r bG).bind λps st1=>match p with|.fn k bA=>C k (ps++bA) st1|_=>.no:=rfl
theorem Eb c f i:ae C (.attr c f i) r st=(R.of (r[i]?).join st).bind λx st1=>R.of ((qf c st1 x).bind λq=>q.2.lookup f) st1:=rfl
theorem La k c m i es:ae C (.qd k c m i es) r st=(R.of (r[i]?).join st).bind λx bG=>(R.of ((qf c bG x).bind λq=>if(q.2.lookup m).isNone then Δ () else Θ) bG).bind λ_ bG=>(aC C es r bG).bind λps st1=>C k (x::ps) st1:=rfl
theorem uY w js c e:aS C (.comp w 1 js c e) r st=(bM C w r st).bind λps st1=>if ?S<=aq then cn (λp=>Δ p::bu js r) (be C c) (λr' aJ=>ae C e r' aJ) ps st1 else .no:=by rw[iK];simp
theorem nJ(h:ae C e r st=.ok v st1):aQ C (.expr e) r st=.ok (.nx r) st1:=by rw[uz,h,aa]
theorem Il i k:aQ C (.nj i k) r st=.ok (.nx (r.set i (Δ (.lf k)))) st:=by rw[uA]
theorem uZ(he:ae C e r st=.ok v st1)(hi:(r[i]?).join=Δ x)(hq:qf c st1 x=Δ (n,fs))(hl:fs.length < 1000):aQ C (.mG c f i e) r st=.ok (.nx r) (st1.set n (.ins c (wo f v fs))):=by have xf:kR r i=Δ x:=hi;rw[uB,he,aa,xf,au,aa,hq];simp[hl]
theorem Pg(he:ae C e r st=.ok (.obj n) st1)(hs:st1[n]?=Δ ?QA)(h:nz i j (ah C b) kvs r (st1.set n .wm)=.ok f st2):aQ C (.CG i j e b) r st=.ok f (st2.set n ?QA):=by
 rw[ux,he,aa];have:uh st1 (.obj n)=Δ (n,kvs):=by simp[uh,hs]
 rw[this,au,aa];dsimp only;rw[h,aa]
theorem Ph(he:ae C e r st=.ok (.obj n) st1)(h:jB n i j (ah C b) cF 0 r st1=res):aQ C (.jB i j e b) r st=res:=by rw[uy,he,aa];exact h
theorem zg(h:gT (bY (ae C c)) (ah C b) cF r st=res):aQ C (.kq c b) r st=res:=by rw[oM];exact h
theorem dY{I:Nat->bS->aK->Prop}:∀{ps} {k} {r} {st},(∀i p r st,I (k+i) r st->ps[i]?=Δ p->∃r1 r2 st1,g p r=Δ r1/\b r1 st=.ok (.nx r2) st1/\I (k+i+1) r2 st1)->I k r st->
  ∃r' aJ,forL g b ps r st=.ok (.nx r') aJ/\I (k+?S) r' aJ
 |[],k,r,st,_,h=>⟨r,st,rfl,h⟩|p::ps,k,r,st,hs,h=>by obtain⟨r1,r2,st1,h1,h2,h3⟩:=hs 0 p r st h rfl;obtain⟨r',aJ,e,q⟩:=dY (g:=g) (b:=b) (I:=I) (ps:=ps) (k:=k+1) (r:=r2) (st:=st1) (λi p r st hi hp=>by have:=hs (i+1) p r st (by rw[show k+(i+1)=k+1+i from ZC k i 1];exact hi) (by simpa using hp);rw[show k+(i+1)+1=k+1+i+1 from congrArg (·+1) (ZC k i 1)] at this;exact this) h3;refine⟨r',aJ,?_,by rw[YA,show k+(?S+1)=k+1+?S from ZC k ?S 1];exact q⟩;rw[qk,h1,au,aa,h2,aa];exact e
theorem A7{I:Nat->bS->aK->Prop}:∀{ps} {k} {r} {st},(∀i kv r st,I (k+i) r st->ps[i]?=Δ kv->∃r2 st1,b ((r.set x (Δ (yM kv.1))).set y (Δ kv.2)) st=.ok (.nx r2) st1/\I (k+i+1) r2 st1)->I k r st->
  ∃r' aJ,nz x y b ps r st=.ok (.nx r') aJ/\I (k+?S) r' aJ
 |[],k,r,st,_,h=>⟨r,st,rfl,h⟩|p::ps,k,r,st,hs,h=>by obtain⟨r2,st1,h2,h3⟩:=hs 0 p r st h rfl;obtain⟨r',aJ,e,q⟩:=A7 (x:=x) (y:=y) (b:=b) (I:=I) (ps:=ps) (k:=k+1) (r:=r2) (st:=st1) (λi p r st hi hp=>by have:=hs (i+1) p r st (by rw[show k+(i+1)=k+1+i from ZC k i 1];exact hi) (by simpa using hp);rw[show k+(i+1)+1=k+1+i+1 from congrArg (·+1) (ZC k i 1)] at this;exact this) h3;refine⟨r',aJ,?_,by rw[YA,show k+(?S+1)=k+1+?S from ZC k ?S 1];exact q⟩;rw[xA,h2,aa];exact e
theorem lI{I:Nat->bS->aK->Prop}(hI:∀i r st,I i r st->st[n]?=Δ ?QX)(hs:∀i p r st,I i r st->xs[i]?=Δ p->∃r1 r2 st1,g p r=Δ r1/\b r1 st=.ok (.nx r2) st1/\I (i+1) r2 st1):
  ∀(k) {i} {r} {st},I i r st->i<=?Q->?Q - i < k->∃r' aJ,gS n g b k i r st=.ok (.nx r') aJ/\I ?Q r' aJ
 |0,i,r,st,_,_,hk=>absurd hk (aaP _)|k+1,i,r,st,h,hi,hk=>by
  have ha:xl n st i=Δ xs[i]?:=by unfold xl;rw[hI i r st h]
  rw[qm,ha];by_cases fT:i < ?Q;·obtain⟨r1,r2,st1,h1,h2,h3⟩:=hs i xs[i] r st h (Yn fT);obtain⟨r',aJ,e,q⟩:=lI hI hs k h3 fT (ze hk fT);refine⟨r',aJ,?_,q⟩;rw[Yn fT];dsimp only;rw[h1,au,aa,h2,aa];exact e
  ·have e:i=xs.length:=by lia
   subst e;refine⟨r,st,?_,h⟩;rw[YR ?D]
theorem A8{I:Nat->bS->aK->Prop}(hI:∀i r st,I i r st->st[n]?=Δ ?QX)(hs:∀i p r st,I i r st->xs[i]?=Δ p->∃r2 st1,b ((r.set x (Δ (.d (.int i)))).set y (Δ p)) st=.ok (.nx r2) st1/\I (i+1) r2 st1):
  ∀(k) {i} {r} {st},I i r st->i<=?Q->?Q - i < k->∃r' aJ,jB n x y b k i r st=.ok (.nx r') aJ/\I ?Q r' aJ
 |0,i,r,st,_,_,hk=>absurd hk (aaP _)|k+1,i,r,st,h,hi,hk=>by
  have ha:xl n st i=Δ xs[i]?:=by unfold xl;rw[hI i r st h]
  rw[qo,ha];by_cases fT:i < ?Q;·obtain⟨r2,st1,h2,h3⟩:=hs i xs[i] r st h (Yn fT);obtain⟨r',aJ,e,q⟩:=A8 hI hs k h3 fT (ze hk fT);refine⟨r',aJ,?_,q⟩;rw[Yn fT];dsimp only;rw[h2,aa];exact e
  ·have e:i=xs.length:=by lia
   subst e;refine⟨r,st,?_,h⟩;rw[YR ?D]
theorem mr{I:Nat->bS->aK->Prop}{E:bS->aK->Prop}(hs:∀k r st,I k r st->(c r st=.ok Ξ st/\E r st)\/(∃j,k=j+1/\c r st=.ok Λ st/\∃r2 st1,b r st=.ok (.nx r2) st1/\I j r2 st1)):
  ∀(n) {k} {r} {st},I k r st->k < n->∃r' aJ,gT c b n r st=.ok (.nx r') aJ/\E r' aJ
 |0,k,r,st,_,hk=>absurd hk (aaP _)|n+1,k,r,st,h,hk=>by
  rcases hs k r st h with ⟨h1,h2⟩|⟨j,rfl,h1,r2,st1,h2,h3⟩
  ·exact⟨r,st,by rw[lA,h1,aa];rfl,h2⟩
  ·obtain⟨r',aJ,e,q⟩:=mr hs n h3 ?D;refine⟨r',aJ,?_,q⟩;rw[lA,h1,aa];simp only[if_true];rw[h2,aa];exact e
theorem mv{I:Nat->List P->aK->Prop}:∀{ps} {k} {ys} {st},(∀i p ys st,I (k+i) ys st->ps[i]?=Δ p->∃y st1,c (g p) st=.ok Λ st/\e (g p) st=.ok y st1/\I (k+i+1) (ys++[y]) st1)->I k ys st->
  ∃zs aJ,cn g c e ps st=.ok zs aJ/\I (k+?S) (ys++zs) aJ
 |[],k,ys,st,_,h=>⟨[],st,rfl,by simpa using h⟩|p::ps,k,ys,st,hs,h=>by obtain⟨y,st1,h1,h2,h3⟩:=hs 0 p ys st h rfl;obtain⟨zs,aJ,e',q⟩:=mv (g:=g) (c:=c) (e:=e) (I:=I) (ps:=ps) (k:=k+1) (ys:=ys++[y]) (st:=st1) (λi p ys st hi hp=>by have:=hs (i+1) p ys st (by rw[show k+(i+1)=k+1+i from ZC k i 1];exact hi) (by simpa using hp);rw[show k+(i+1)+1=k+1+i+1 from congrArg (·+1) (ZC k i 1)] at this;exact this) h3;refine⟨y::zs,aJ,?_,by rw[YA,show k+(?S+1)=k+1+?S from ZC k ?S 1];simpa using q⟩;rw[eY,h1,aa];simp only[if_true];rw[h2,aa,e',aa]
end
theorem lJ(hF:Fs[k]?=Δ F)(DE:F.sh=Λ)(hl:?S=F.np)(hr:ah ?L F.body (ay F.nn ps) st=.ok (.nx r) aJ):callC Fs (n+1) k ps st=.ok (.d .bC) aJ:=by rw[iN,hF];simp only[DE,if_true,hl,hr,Kk]
theorem Lb{A L B:aK}(h:t < L.length):(A++L++B).set (A.length+t) x=A++L.set t x++B:=by rw[Zf,abk _ _ ?D,Zf];congr 1;rw[Nat.add_sub_cancel_left,List.set_append_left _ _ h]
theorem Lc{A L B:aK}(h:t < L.length):(A++L++B)[A.length+t]?=L[t]?:=by rw[Zf,YH ?D,Nat.add_sub_cancel_left,Yq h]
theorem mw:∀(xs) (k i:Nat),(dS k xs)[i]?=(xs[i]?).map λx=>.d (.tup [.int ((k+i:Nat):Int),x])
 |[],k,i=>by simp[dS]|x::xs,k,0=>by simp[dS]|x::xs,k,i+1=>by rw[dS,Yv,mw xs (k+1) i,Yv,show k+1+i=k+(i+1) from ZC k 1 i]
theorem qE:∀(xs) (k),(dS k xs).length=?Q
 |[],k=>rfl|x::xs,k=>by rw[dS,YA,YA,qE xs (k+1)]
theorem gj{i:Nat}(h:st[n]?=Δ ?QX)(hp:xs[i]?=Δ p):Ax (.obj n) ?Qf st=Δ p:=by unfold Ax;rw[kz h];show(dg st (.obj n)).bind (λxs=>nZ xs (i:Int))=_;rw[MA,gv h];exact dy hp
theorem iy(h:st[n]?=Δ ?QX)(hl:?Q < aq):yL (.obj n) v st=Δ (st.set n (.lst (xs++[v]))):=by unfold yL;simp[h,hl]
theorem gy(h:st[n]?=Δ ?QX):sf .len [.obj n] st=Δ (.d (.int ?Q)):=by show(match bF st (.obj n) with|some o=>Δ (P.d (.int (Hr o)))|none=>(dg st (.obj n)).map λxs:List P=>P.d (.int ?Q))=_;rw[kz h,MA,gv h];rfl
theorem Im(h:st[n]?=Δ ?QA):sf .len [.obj n] st=Δ (.d (.int ?Ql)):=by show(match bF st (.obj n) with|some o=>Δ (P.d (.int (Hr o)))|none=>(dg st (.obj n)).map λxs:List P=>P.d (.int ?Q))=_;rw[mq h];rfl
theorem tz{n i:Nat}{xs:List P}{v:P}(h:st[n]?=Δ ?QX)(hi:i < ?Q):nv (.obj n) ?Qf v st=Δ (st.set n (.lst (xs.set i v))):=by
 have:Ce ?Q (i:Int)=Δ i:=by unfold Ce;simp;lia
 unfold nv;simp[h,Ay,this]
theorem Ld:sf .tuple [.obj n] st=(cT st (.obj n)).bind λxs=>(br xs).map λys=>.d (.tup ys):=rfl
theorem Ec:sf .any [.d (.pl xs)] st=(boolsOf (xs.map .d)).map λbs=>.d (.bl (bs.any id)):=rfl
theorem S8:cT (.lst xs::st) ?V=Δ xs:=rfl
theorem XA(h:n+1<=f+j)(h1:j < l)(h2:l<=n):∃f',f=f'+1:=⟨f - 1,by lia⟩
theorem XB(h:k=n - j)(h1:l<=n)(h2:j < l):k=n - (j+1)+1:=by lia
theorem Lf{α:Type}{l:List α}i(h:l.length < 1000000):(l.take i).length < aq:=Nat.lt_of_le_of_lt (List.length_take_le' ..) (ab0 h ?T)
noncomputable def cell(ns:List Int)(k:Nat):Int:=ns.getD k 0
def A9(ns:List Int)(k:Nat):Int:=(cell ns k+7919*k+1)*48271 % 2147483647
def mixed(ns:List Int)(k:Nat):Int:=(A9 ns k*A9 ns k+7*A9 ns k+k) % 2147483629
theorem bP i{j:Int}(h:0 < j):0<=i % j/\i % j < j:=⟨Int.emod_nonneg _ ?D,Int.emod_lt_of_pos _ h⟩
noncomputable def Ba(x:Int)(k:Nat):Int:=(x+104729*k+17)*69621 % 2147483647
def drawn(x:Int)(k:Nat):Int:=(Ba x k*Ba x k+3*Ba x k+k) % 2147483629
abbrev cq:=List (Nat×List Nat)
noncomputable def nD(n:Nat):D:=.int (n:Int)
def wD(u:List Nat):D:=.tup (u.map nD)
def e8(s:Nat×List Nat):D:=.tup [nD s.1,wD s.2]
def mD(m:cq):D:=.tup (m.map e8)
structure cL(w:Nat)(m:cq):Prop where
 ne:0 < ?A
 good:∀s∈m,s.1<=1
 len:∀s∈m,s.2.length=w
 lt:∀s∈m,∀t∈s.2,t < ?A
noncomputable def row(m:cq)(s:Nat):Nat×List Nat:=m.getD s (0,[])
def bc(m:cq)(s a:Nat):Nat:=(row m s).2.getD a 0
def gd(m:cq)(s:Nat):Nat:=(row m s).1
def walk(m:cq)(s:Nat)(u:List Nat):Nat:=u.foldl (bc m) s
def wz(m:cq)(u:List Nat):Bool:=gd m (walk m 0 u)==1
theorem aY(h:s < ?A):row m s∈m:=by unfold row;rw[Ym,Yn h];exact Zl h
theorem zh(h:s < ?A):m[s]?=Δ (row m s):=by unfold row;rw[Ym,Yn h];rfl
theorem cL.bc{w:Nat}{m:cq}(k:cL w m){s a:Nat}(hs:s < ?A)(ha:a < w):bc m s a < m.length:=by have hr:=aY hs;have hl:=k.len _ hr;unfold Y.bc;rw[Ym,Yn ?D];exact k.lt _ hr _ (Zl _)
theorem cL.walk{w:Nat}{m:cq}(k:cL w m):∀{u:List Nat} {s:Nat},s < ?A->(∀a∈u,a < w)->walk m s u < ?A
 |[],s,hs,_=>hs|a::u,s,hs,hu=>cL.walk (u:=u) k (k.bc hs (hu a Yk)) λb hb=>hu b (Yi _ hb)
theorem lK m s u v:walk m s (u++v)=walk m (walk m s u) v:=aag ..
theorem zi{s:Nat}(h:s < ?A):nZ (m.map e8) (s:Int)=Δ (e8 (row m s)):=dy (by rw[Ys,zh h];rfl)
theorem S9(k:cL w m)(h:s < ?A)(ha:a < w):nZ ((row m s).2.map nD) (a:Int)=Δ (nD (bc m s a)):=by have hl:=k.len _ (aY h);refine dy ?_;rw[Ys,Yn ?D];unfold bc;rw[Ym,Yn ?D];rfl
theorem Lg(k:cL w m)(h:s < ?A)(ha:a < w)(e1:ae C em r st=.ok ?N st)(e2:ae C es r st=.ok (.d (.int (s:Int))) st)(e3:ae C ea r st=.ok (.d (.int (a:Int))) st):
  ae C (.ix (.ix (.ix em es) ?R) ea) r st=.ok (.d (.int (bc m s a:Nat))) st:=by
 simp[e1,e2,e3,mD,zi h,e8,wD,S9 k h ha,nD]
theorem mx{r:bS}{st:aK}{m:cq}{em es:E}{s:Nat}(h:s < ?A)(e1:ae C em r st=.ok ?N st)(e2:ae C es r st=.ok (.d (.int (s:Int))) st):
  ae C (.ix (.ix em es) ?Y) r st=.ok (.d (.int (gd m s:Nat))) st:=by
 simp[e1,e2,mD,zi h,e8,nD,gd]
theorem my{r:bS}{iM iS iL w:Nat}(k:cL w m)(hM:r[iM]?=Δ (Δ ?N))(h1:iM≠iS)(h2:iM≠iL)(h3:iS≠iL)(hS:iS < r.length)(hL:iL < r.length):
  ∀(u) (s) (x),s < ?A->(∀a∈u,a < w)->
  ∃y,forL (gf (.nm iL)) (ah C [.set iS (.ix (.ix (.ix (.var iM) (.var iS)) ?R) (.var iL))]) ((u.map nD).map P.d) ((r.set iS (Δ (.d (.int (s:Int))))).set iL x) st
   =.ok (.nx ((r.set iS (Δ (.d (.int (walk m s u:Nat))))).set iL y)) st
 |[],s,x,_,_=>⟨x,rfl⟩|a::u,s,x,hs,hu=>by
  have ha:=hu a Yk;obtain⟨y,ih⟩:=my (C:=C) (st:=st) k hM h1 h2 h3 hS hL u (bc m s a) (Δ (.d (.int (a:Int)))) (k.bc hs ha) λb hb=>hu b (Yi _ hb);refine⟨y,?_⟩;rw[Yx,Yx,forL,gf,au,aa,adJ];have e:ah C [.set iS (.ix (.ix (.ix (.var iM) (.var iS)) ?R) (.var iL))] ((r.set iS (Δ (.d (.int (s:Int))))).set iL (Δ ?Qx)) st
    =.ok (.nx ((r.set iS (Δ (.d (.int (bc m s a:Nat))))).set iL (Δ (.d (.int (a:Int)))))) st:=by
   refine ag (aZ (st1:=st) (Lg k hs ha ?_ ?_ ?_)) ?_;·rw[aR,Yp (λz=>h2 z.symm),Yp (λz=>h1 z.symm),hM];rfl
   ·rw[aR,Yp (λz=>h3 z.symm),YL hS];rfl
   ·rw[aR,YL (by simpa using hL)];rfl
   ·rw[aw,List.set_comm _ _ (λz=>h3 z.symm),adJ];rfl
  rw[e,aa];exact ih
def Jv(x:Int)(w c:Nat):cq:=(Yh c).map λk=>?Qc
theorem Pj x w(hc:0 < c):cL w (Jv x w c):=by
 refine⟨by simp[Jv];exact hc,λs hs=>?_,λs hs=>?_,λs hs t ht=>?_⟩<;>
  (simp only[Jv,aad,Zp] at hs;obtain⟨k,hk,rfl⟩:=hs)
 ·have:=bP (drawn x (7*k+5) % 3) (show(0:Int) < 2 by decide);dsimp only;lia
 ·simp
 ·simp only[aad,Zp] at ht;obtain⟨l,hl,rfl⟩:=ht;have:=bP (drawn x (7*k+l)) (show(0:Int) < (c:Int) by lia);simp only[Jv,Yr,YN];lia
theorem Lh x w c:(Jv x w c).length=c:=by simp[Jv]
theorem Ta{j:Nat}(h:j < 1000000):si [.d (.int (j:Int))]=Δ ((Yh j).map λk=>.d ?W):=by
 have c1: -nr<=(j:Int)/\(j:Int) < nr:=by unfold nr;lia
 unfold si;simp only[if_pos c1,Hu];congr 1;simp
theorem bV{j:Nat}(h:ae C e r st=.ok (.d (.int (j:Int))) st)(hj:j < 1000000):bM C (.fR [e]) r st=.ok ((Yh j).map λk:Nat=>.d ?W) st:=by rw[xw,ak,h,aa,az,aa,aa,Ta hj,au]
theorem Pk(n:Nat):((n:Int)==1)=(n==1):=by rw[aak];simp;lia
end Y
namespace Y
abbrev Wd(w:Nat)(u:List Nat):Prop:=∀a∈u,a < w
theorem Wd.nil:Wd w []:=λa h=>by cases h
theorem Wd.cons(ha:a < w)(h:Wd w u):Wd w (a::u):=λb hb=>by
 rcases aa2.mp hb with z|z;·rw[z];exact ha
 ·exact h b z
theorem Wd.tail(h:Wd w (a::u)):Wd w u:=λb hb=>h b (Yi _ hb)
theorem Wd.head(h:Wd w (a::u)):a < w:=h a Yk
theorem Wd.app(h:Wd w u)(h':Wd w v):Wd w (u++v):=λb hb=>by
 rcases abh.mp hb with z|z;·exact h b z
 ·exact h' b z
def gI(w:Nat)(m:cq)(s:Nat)(m':cq)(s':Nat):Prop:=∀u,Wd w u->gd m (walk m s u)=gd m' (walk m' s' u)
theorem gI.refl:gI w m s m s:=λ_ _=>rfl
theorem gI.symm(h:gI w m s m' s'):gI w m' s' m s:=λu hu=>(h u hu).symm
theorem gI.trans(h:gI w m s m' s')(h':gI w m' s' m2 s2):gI w m s m2 s2:=λu hu=>(h u hu).trans (h' u hu)
theorem gI.step(h:gI w m s m' s')(ha:a < w):gI w m (bc m s a) m' (bc m' s' a):=λu hu=>h (a::u) (hu.cons ha)
theorem gI.good(h:gI w m s m' s'):gd m s=gd m' s':=h [] Wd.nil
def Red(w:Nat)(m:cq):Prop:=∀s t,s < ?A->t < ?A->gI w m s m t->s=t
noncomputable def hZ:List Nat->Nat->Option Nat
 |[],c=>Δ c|s::ss,c=>if s < c then hZ ss c else if s=c then hZ ss (c+1) else Θ
def gJ:cq->Nat->Nat->Option Nat
 |[],_,c=>Δ c|q::qs,k,c=>if k < c then(hZ q.2 c).bind λc'=>gJ qs (k+1) c' else Θ
structure jQ(w:Nat)(m:cq):Prop where
 ok:cL w m
 red:Red w m
 ord:gJ m 0 1=Δ ?A
theorem Ed:∀{m} {k c d},gJ m k c=Δ d->m=[]\/k < c
 |[],k,c,d,h=>.inl rfl|q::qs,k,c,d,h=>by
  simp only[gJ] at h;split at h;·exact .inr ‹_›
  ·cases h
theorem u5(hr:Red w m)(Qn:Red w m'):∀{ss Li} {c d d'},ss.length=Li.length->(∀(i s s':Nat),ss[i]?=Δ s->Li[i]?=Δ s'->gI w m s m' s'/\s < ?A/\s' < m'.length)->
  (∀s,s < c->gI w m s m' s/\s < ?A/\s < m'.length)->hZ ss c=Δ d->hZ Li c=Δ d'->ss=Li/\d=d'/\∀s,s < d->gI w m s m' s/\s < ?A/\s < m'.length
 |[],[],c,d,d',_,_,hc,h,h'=>by simp[hZ] at h h';subst h;subst h';exact⟨rfl,rfl,hc⟩|s::ss,s'::Li,c,d,d',hl,hs,hc,h,h'=>by
  obtain⟨q,q1,q2⟩:=hs 0 s s' rfl rfl;have tM:∀(i t t':Nat),ss[i]?=Δ t->Li[i]?=Δ t'->gI w m t m' t'/\t < ?A/\t' < m'.length:=λi t t' e e'=>hs (i+1) t t' (by simpa using e) (by simpa using e');have xg:ss.length=Li.length:=by simpa using hl
  have eq1:s < c->s=s':=λh1=>by obtain⟨a,b,c1⟩:=hc s h1;exact Qn s s' c1 q2 (a.symm.trans q)
  have eq2:s' < c->s=s':=λh1=>by obtain⟨a,b,c1⟩:=hc s' h1;exact hr s s' q1 b (q.trans a.symm)
  simp only[hZ] at h h';by_cases h1:s < c;·have e:=eq1 h1;subst e;rw[if_pos h1] at h h';obtain⟨a,b,c1⟩:=u5 hr Qn xg tM hc h h';exact⟨by rw[a],b,c1⟩
  ·have h2:¬s' < c:=λz=>h1 (by rw[eq2 z];exact z);rw[if_neg h1] at h;rw[if_neg h2] at h';split at h
   ·split at h'
    ·rename_i e e';subst e;subst e';have Nh:∀t,t < s'+1->gI w m t m' t/\t < ?A/\t < m'.length:=λt ht=>by
      by_cases z:t < s';·exact hc t z
      ·have:t=s':=by lia
       subst this;exact⟨q,q1,q2⟩
     obtain⟨a,b,c1⟩:=u5 hr Qn xg tM Nh h h';exact⟨by rw[a],b,c1⟩
    ·cases h'
   ·cases h
theorem oY(h:m.drop k=q::qs):k < ?A/\row m k=q/\m.drop (k+1)=qs:=by
 have hk:k < m.length:=by
  by_cases z:k < ?A;·exact z
  ·rw[ab2 ?D] at h;cases h
 rw[Zi hk] at h;injection h with h1 h2;refine⟨hk,?_,h2⟩;unfold row;rw[Ym,Yn hk];exact h1
theorem Bb(k:cL w m)(k':cL w m')(hr:Red w m)(Qn:Red w m'):∀{qs qs'} {j c d d'},m.drop j=qs->m'.drop j=qs'->(∀s,s < c->gI w m s m' s/\s < ?A/\s < m'.length)->
  gJ qs j c=Δ d->gJ qs' j c=Δ d'->?A=d->m'.length=d'->qs=qs'
 |[],[],j,c,d,d',_,_,_,_,_,_,_=>rfl|[],q'::qs',j,c,d,d',e,e',hc,h,h',hd,Du=>by
  have hj:j < m'.length:=(oY e').1;have Xk:?A<=j:=by
   by_cases z:j < ?A;·rw[Zi z] at e;cases e
   ·lia
  rcases Ed h' with z|z;·cases z
  ·have:=(hc j z).2.1;lia
 |q::qs,[],j,c,d,d',e,e',hc,h,h',hd,Du=>by
  have hj:j < m.length:=(oY e).1;have Xk:m'.length<=j:=by
   by_cases z:j < m'.length;·rw[Zi z] at e';cases e'
   ·lia
  rcases Ed h with z|z;·cases z
  ·have:=(hc j z).2.2;lia
 |q::qs,q'::qs',j,c,d,d',e,e',hc,h,h',hd,Du=>by
  obtain⟨g1,g2,g3⟩:=oY e;obtain⟨g1',XC,g3'⟩:=oY e';simp only[gJ] at h h';split at h
  ·rename_i hj;rw[if_pos hj] at h';obtain⟨sj,_,_⟩:=hc j hj;have l1:q.2.length=w:=by rw[<-g2];exact k.len _ (aY g1)
   have l2:q'.2.length=w:=by rw[<-XC];exact k'.len _ (aY g1')
   cases e1:hZ q.2 c with
   |none=>rw[e1] at h;cases h|some c1=>
    cases e2:hZ q'.2 c with
    |none=>rw[e2] at h';cases h'|some c2=>
     rw[e1] at h;rw[e2] at h';obtain⟨a,b,c3⟩:=u5 hr Qn (l1.trans l2.symm) (λi s s' hs t8=>by
      have hi:i < w:=by rw[<-l1];exact(qqz hs).1
      have z1:bc m j i=s:=by unfold bc;rw[g2,Ym,hs];rfl
      have z2:bc m' j i=s':=by unfold bc;rw[XC,Ym,t8];rfl
      rw[<-z1,<-z2];exact⟨sj.step hi,k.bc g1 hi,k'.bc g1' hi⟩) hc e1 e2
     subst b;have e3:=Bb k k' hr Qn g3 g3' c3 h h' hd Du;have e4:q.1=q'.1:=by have:=sj.good;unfold gd at this;rw[g2,XC] at this;exact this
     rw[e3,Prod.ext e4 a]
  ·cases h
theorem jQ.one(h:jQ w m)(h':jQ w m')(hs:gI w m 0 m' 0):m=m':=
 Bb h.ok h'.ok h.red h'.red (j:=0) (qs:=m) (qs':=m') rfl rfl (λs hc=>by
  have:s=0:=by lia
  subst this;exact⟨hs,h.ok.ne,h'.ok.ne⟩) h.ord h'.ord rfl rfl
end Y
namespace Y
open Classical
theorem filter_le(h:∀x,p x=Λ->q x=Λ):∀l:List Nat,(l.filter p).length<=(l.filter q).length
 |[]=>Yt _|x::l=>by have ih:=filter_le h l;cases hp:p x with|true=>rw[YY hp,YY (h x hp)];simp;exact ih|false=>rw[Y4 (by simp[hp])];cases hq:q x with|true=>rw[YY hq];simp;lia|false=>rw[Y4 (by simp[hq])];exact ih
theorem filter_lt(h:∀x,p x=Λ->q x=Λ)(h1:p y=Ξ)(h2:q y=Λ):∀l:List Nat,y∈l->(l.filter p).length < (l.filter q).length
 |[],z=>by cases z|x::l,z=>by
  have il:=filter_le h l;rcases aa2.mp z with e|e;·subst e;rw[Y4 (by simp[h1]),YY h2];simp;lia
  ·have ih:=filter_lt h h1 h2 l e;cases hp:p x with|true=>rw[YY hp,YY (h x hp)];simp;exact ih|false=>rw[Y4 (by simp[hp])];cases hq:q x with|true=>rw[YY hq];simp;lia|false=>rw[Y4 (by simp[hq])];exact ih
def iz(w:Nat)(m:cq)(k s t:Nat):Prop:=∀u,Wd w u->u.length<=k->gd m (walk m s u)=gd m (walk m t u)
variable{w:Nat}{m:cq}
theorem iz.refl:iz w m k s s:=λ_ _ _=>rfl
theorem iz.symm(h:iz w m k s t):iz w m k t s:=λu hu hl=>(h u hu hl).symm
theorem iz.trans(h:iz w m k s t)(h':iz w m k t r):iz w m k s r:=λu hu hl=>(h u hu hl).trans (h' u hu hl)
theorem iz.mono(h:iz w m k s t)(hj:j<=k):iz w m j s t:=λu hu hl=>h u hu (Zc hl hj)
theorem iz.step(h:iz w m (k+1) s t)(ha:a < w):iz w m k (bc m s a) (bc m t a):=λu hu hl=>h (a::u) (hu.cons ha) (by simp;lia)
theorem iz.Ee(h0:gd m s=gd m t)(h:∀a,a < w->iz w m k (bc m s a) (bc m t a)):iz w m (k+1) s t:=λu hu hl=>by cases u with|nil=>exact h0|cons a u=>exact h a hu.head u hu.tail (by simpa using hl)
theorem iz.Io(ok:cL w m)(hk:∀s t,s < ?A->t < ?A->iz w m k s t->iz w m (k+1) s t):∀(j) {s t},s < ?A->t < ?A->iz w m k s t->iz w m (k+j) s t
 |0,s,t,_,_,h=>h|j+1,s,t,hs,ht,h=>by have h1:=hk s t hs ht h;exact iz.Ee (h [] Wd.nil (Zr _)) λa ha=>iz.Io ok hk j (ok.bc hs ha) (ok.bc ht ha) (h1.step ha)
theorem iz.Pl(ok:cL w m)(hk:∀s t,s < ?A->t < ?A->iz w m k s t->iz w m (k+1) s t)(hs:s < ?A)(ht:t < ?A)(h:iz w m k s t):gI w m s m t:=λu hu=>iz.Io ok hk u.length hs ht h u hu ?D
noncomputable def rep(w:Nat)(m:cq)(k s:Nat):Bool:=decide (∀t,t < s->¬iz w m k t s)
noncomputable def u6(w:Nat)(m:cq)(k:Nat):Nat:=((Yh ?A).filter (rep w m k)).length
theorem Bc(p:Nat->Prop):∀n,p n->∃r,r<=n/\p r/\∀t,t < r->¬p t:=λn=>by
 induction n using Nat.strongRecOn with
 |_ n ih=>
  intro h;by_cases z:∃t,t < n/\p t;·obtain⟨t,ht,hp⟩:=z;obtain⟨r,h1,h2,h3⟩:=ih t ht hp;exact⟨r,by lia,h2,h3⟩
  ·exact⟨n,Yt _,h,λt ht hp=>z ⟨t,ht,hp⟩⟩
theorem Lj(hs:s < ?A)(ht:t < ?A)(h:iz w m k s t)(hn:¬iz w m (k+1) s t):u6 w m k < u6 w m (k+1):=by
 obtain⟨r,r1,r2,r3⟩:=Bc (λx=>iz w m k x s) s iz.refl;have go:∀y,y < ?A->iz w m k y s->¬iz w m (k+1) y r->u6 w m k < u6 w m (k+1):=λy hy e n=>by
  obtain⟨z,z1,z2,z3⟩:=Bc (λx=>iz w m (k+1) x y) y iz.refl;have e2:iz w m k r z:=r2.trans (e.symm.trans (z2.mono (aah _)).symm);have hz:r≠z:=λc=>by subst c;exact n z2.symm
  have fT:r < z:=by
   rcases Nat.lt_or_ge r z with c|c;·exact c
   ·exact absurd ((z2.mono (aah k)).trans e) (r3 z ?D)
  refine filter_lt (y:=z) (λx hx=>?_) ?_ ?_ _ (by simp;lia);·simp only[rep,qqq] at hx ⊢;exact λt' h1 h2=>hx t' h1 (h2.mono (aah _))
  ·simp only[rep,decide_eq_false_iff_not];exact λc=>c r fT e2
  ·simp only[rep,qqq];exact λt' h1 h2=>z3 t' h1 (h2.trans z2)
 by_cases c:iz w m (k+1) s r;·exact go t ht h.symm λd=>hn (c.trans d.symm)
 ·exact go s hs iz.refl c
theorem Lk k:u6 w m k<=m.length:=by unfold u6;exact Zc (Zv _ _) ?E
theorem Ip(ok:cL w m)k:0 < u6 w m k:=by unfold u6;refine aaf (a:=0) ?_;rw[Zg];exact⟨by simpa using ok.ne,by simp[rep]⟩
theorem Fz(ok:cL w m):∃k,k < ?A/\∀s t,s < ?A->t < ?A->iz w m k s t->iz w m (k+1) s t:=by
 apply YT;intro hn;have Ck:∀k,k < ?A->u6 w m k < u6 w m (k+1):=λk hk=>by apply YT;intro hc;refine hn ⟨k,hk,λs t hs ht h=>?_⟩;apply YT;intro he;exact hc (Lj hs ht h he)
 have grow:∀k,k<=?A->k < u6 w m k:=λk=>by
  induction k with
  |zero=>intro _;exact Ip ok 0|succ k ih=>
   intro hk;have h1:=ih ?D;have h2:=Ck k ?D
   lia
 have h1:=grow ?A (Yt _);have h2:=Lk (w:=w) (m:=m) ?A
 lia
theorem zj(ok:cL w m)(hs:s < ?A)(ht:t < ?A)(h:iz w m ?A s t):gI w m s m t:=by obtain⟨k,hk,qV⟩:=Fz ok;exact iz.Pl ok qV hs ht (h.mono (aby hk))
end Y
namespace Y
open PySem
noncomputable def mJ(x:D)(h:Int):Bool:=match x with|.int i=>decide (0<=i)&&decide (i<=h)|_=>Ξ
def zk(x:D)(w:Int)(h:Int):Bool:=match x with|.tup ss=>decide ((ss.length:Int)=w)&&ss.all λs=>mJ s h|_=>Ξ
def iU(w h:Int):D->Bool
 |.tup [g,ss]=>mJ g 1&&zk ss w h|_=>Ξ
def rM(x:D)(w:Int):Bool:=match x with|.tup xs=>!xs.isEmpty&&xs.all λs=>iU w ?QN s|_=>Ξ
theorem Iq(k:cL w m):rM (mD m) (w:Int)=Λ:=by
 unfold rM mD;dsimp only;rw[Yj];refine⟨?_,?_⟩;·have:=k.ne;cases m with|nil=>simp at this|cons a b=>rfl
 ·rw[Zz];intro x hx;rw[aad] at hx;obtain⟨s,hs,rfl⟩:=hx;have h1:=k.good s hs;have h2:=k.len s hs;unfold iU e8;simp only[Yj];refine⟨?_,?_⟩;·simp[mJ,nD];lia
  ·unfold zk wD;simp only[Yj,qqq,Yr,Zz,aad,forall_exists_index,and_imp];refine⟨by lia,?_⟩;rintro y t ht rfl;have:=k.lt s hs t ht;simp[mJ,nD]
   lia
section
section
variable{α:Type}[DecidableEq α]
theorem fB{ss xs:List α}(hn:ss.Nodup)(hs:∀s∈ss,s∈xs):ss.length<=xs.length:=by
 induction ss generalizing xs with
 |nil=>simp|cons s ss ih=>
  rw[ZT] at hn;have h1:s∈xs:=hs s Yk;have:=ih (xs:=xs.erase s) hn.2 λt ht=>by have:t≠s:=λz=>hn.1 (z▸ht);exact(abq this).mpr (hs t (Yi _ ht))
  rw[aa3 h1] at this;have:=aaf h1;simp
  lia
theorem Pm{ss xs:List α}(hn:ss.Nodup)(hs:∀s∈ss,s∈xs)(hl:?Q<=ss.length):∀x∈xs,x∈ss:=by
 intro x Ll;apply YT;intro hc;have:=fB (ss:=ss) (xs:=xs.erase x) hn λt ht=>by have:t≠x:=λz=>hc (z▸ht);exact(abq this).mpr (hs t ht)
 rw[aa3 Ll] at this;have:=aaf Ll
 lia
end
abbrev qF:=List (Nat×Nat)
def wA(ps:qF)(q:Nat×Nat):qF:=if q∈ps then ps else ps++[q]
theorem jR:x∈wA ps q↔x∈ps\/x=q:=by
 unfold wA;split;·rename_i h;exact⟨.inl,λz=>by rcases z with z|z;exact z;rw[z];exact h⟩
 ·simp
theorem Lm(h:ps.Nodup):(wA ps q).Nodup:=by
 unfold wA;split;·exact h
 ·rename_i hq;rw[Ze];exact⟨h,by simp,λa ha b hb=>by simp at hb;subst hb;exact λz=>hq (z▸ha)⟩
noncomputable def Bd(n:Nat):qF:=(Yh n).flatMap λi=>((Yh n).filter λj=>decide (j≠i)).map λj=>(i,j)
theorem oZ:q∈Bd n↔q.1 < n/\q.2 < n/\q.1≠q.2:=by
 unfold Bd;simp only[abz,Zp,aad,Zg,qqq];constructor;·rintro⟨i,hi,j,⟨hj,fm⟩,rfl⟩;exact⟨hi,hj,λz=>fm z.symm⟩
 ·rintro⟨h1,h2,h3⟩;exact⟨q.1,h1,q.2,⟨h2,λz=>h3 z.symm⟩,rfl⟩
theorem u7{α β:Type}{f:α->List β}:∀{l:List α},l.Nodup->(∀x∈l,(f x).Nodup)->(∀x∈l,∀y∈l,∀z,z∈f x->z∈f y->x=y)->(l.flatMap f).Nodup
 |[],_,_,_=>by simp|a::l,hn,h1,h2=>by rw[ZT] at hn;rw[abn,Ze];refine⟨h1 a Yk,u7 hn.2 (λx hx=>h1 x (Yi _ hx)) (λx hx y hy=>h2 x (Yi _ hx) y (Yi _ hy)),λx hx y hy e=>?_⟩;subst e;rw[abz] at hy;obtain⟨b,hb,hy⟩:=hy;have:=h2 a Yk b (Yi _ hb) x hx hy;exact hn.1 (this▸hb)
theorem Lo n:(Bd n).Nodup:=by
 unfold Bd;refine u7 aas (λi _=>?_) (λx _ y _ z hz Rl=>?_);·rw[List.nodup_iff_pairwise_ne,List.pairwise_map];refine List.Pairwise.imp (λ{a b} h=>?_) ((aas).filter _);intro e;injection e with _ e2;exact h e2
 ·simp only[aad] at hz Rl;obtain⟨_,_,rfl⟩:=hz;obtain⟨_,_,e⟩:=Rl;injection e with e1 _;exact e1.symm
theorem mW:∀{l:List Nat} {i},l.Nodup->i∈l->(l.filter λj=>decide (j≠i)).length+1=l.length
 |[],i,_,h=>by cases h|x::l,i,hn,h=>by
  rw[ZT] at hn;by_cases e:x=i
  ·subst e;rw[Y4 ?E];have:(l.filter λj=>decide (j≠x))=l:=by rw[List.filter_eq_self];intro a ha;rw[qqq];exact λz=>hn.1 (z▸ha)
   rw[this];rfl
  ·rw[YY (by simp[e])];have:=mW hn.2 (by rcases aa2.mp h with z|z;exact absurd z.symm e;exact z);simp;simpa using this
theorem Be n:(Bd n).length+n=n*n:=by
 have key:∀l:List Nat,(∀i∈l,i < n)->(l.flatMap λi=>((Yh n).filter λj=>decide (j≠i)).map λj=>(i,j)).length+l.length=l.length*n:=by
  intro l;induction l with
  |nil=>intro _;simp|cons i l ih=>
   intro h;have h1:=ih λj hj=>h j (Yi _ hj);have h2:=mW (l:=Yh n) (i:=i) aas (by simpa using h i Yk);rw[YN] at h2;rw[abn,YF,Yr,YA,aaU]
   lia
 have:=key (Yh n) (λi hi=>by simpa using hi);simpa[Bd] using this
variable{w:Nat}{m:cq}
def p1(m:cq)(i:Nat)(ps:qF)(j:Nat):qF:=if gd m i≠gd m j then wA ps (i,j) else ps
def hit(m:cq)(ps:qF)(i j:Nat):Bool:=((row m i).2.zip (row m j).2).any λq=>decide (q∈ps)
def p2(m:cq)(i:Nat)(ps:qF)(j:Nat):qF:=if hit m ps i j=Λ then wA ps (i,j) else ps
noncomputable def kN(f:Nat->qF->Nat->qF)(n:Nat)(ps:qF):qF:=(Yh n).foldl (λps i=>(Yh n).foldl (f i) ps) ps
def cO(m:cq):qF:=(Yh ?A).foldl (λps _=>kN (p2 m) ?A ps) (kN (p1 m) ?A [])
structure bQ(w:Nat)(m:cq)(ps:qF):Prop where
 nd:ps.Nodup
 lt:∀q∈ps,q.1 < ?A/\q.2 < ?A
 sd:∀q∈ps,¬gI w m q.1 m q.2
theorem bQ.add(h:bQ w m ps)(hi:i < ?A)(hj:j < ?A)(hn:¬gI w m i m j):bQ w m (wA ps (i,j)):=by
 refine⟨Lm h.nd,λq hq=>?_,λq hq=>?_⟩
 ·rcases jR.mp hq with z|z;·exact h.lt q z
  ·rw[z];exact⟨hi,hj⟩
 ·rcases jR.mp hq with z|z;·exact h.sd q z
  ·rw[z];exact hn
theorem zip_get{a b:List Nat}(h:(x,y)∈a.zip b):∃i,i < a.length/\i < b.length/\a.getD i 0=x/\b.getD i 0=y:=by
 obtain⟨i,hi,e⟩:=List.mem_iff_getElem.mp h;rw[acr] at hi;refine⟨i,by lia,by lia,?_,?_⟩;·rw[acY] at e;injection e with e1 e2;rw[Ym,Yn ?D];exact e1
 ·rw[acY] at e;injection e with e1 e2;rw[Ym,Yn ?D];exact e2
theorem Ef(ok:cL w m)(hi:i < ?A)(hj:j < ?A):hit m ps i j=Λ↔∃a,a < w/\(bc m i a,bc m j a)∈ps:=by
 have l1:=ok.len _ (aY hi);have l2:=ok.len _ (aY hj);unfold hit;rw[ZK];constructor;·rintro⟨⟨x,y⟩,hq,hp⟩;rw[qqq] at hp;obtain⟨a,h1,h2,e1,e2⟩:=zip_get hq;refine⟨a,by lia,?_⟩;unfold bc;rw[e1,e2];exact hp
 ·rintro⟨a,ha,hp⟩;refine⟨(bc m i a,bc m j a),?_,by simpa using hp⟩;refine List.mem_iff_getElem.mpr ⟨a,by rw[acr];lia,?_⟩;rw[acY];unfold bc;rw[Ym,Ym,Yn ?D,Yn ?D];rfl
theorem Ir(h:bQ w m ps)(hi:i < ?A)(hj:j < ?A):bQ w m (p1 m i ps j):=by
 unfold p1;split;·rename_i hg;exact h.add hi hj λsm=>hg sm.good
 ·exact h
theorem Eg(ok:cL w m)(h:bQ w m ps)(hi:i < ?A)(hj:j < ?A):bQ w m (p2 m i ps j):=by
 unfold p2;split;·rename_i hg;obtain⟨a,ha,hp⟩:=(Ef ok hi hj).mp hg;exact h.add hi hj λsm=>h.sd _ hp (sm.step ha)
 ·exact h
theorem dq{σ α:Type}{f:σ->α->σ}{J:σ->Prop}:∀{l:List α} {s},J s->(∀s,∀x∈l,J s->J (f s x))->J (l.foldl f s)
 |[],s,h,_=>h|x::l,s,h,hf=>dq (l:=l) (hf s x Yk h) λs y hy=>hf s y (Yi _ hy)
theorem u9{J:qF->Prop}(hf:∀ps i j,i < n->j < n->J ps->J (f i ps j))(h:J ps):J (kN f n ps):=
 dq h λs i hi hs=>dq hs λs j hj hs=>hf s i j ?Zl ?Zm hs
theorem vc{σ α:Type}{f:σ->α->σ}{G:σ->Prop}{J:σ->Prop}{x:α}(hG:∀s y,J s->G s->G (f s y))(hJ:∀s y,J s->J (f s y))(hx:∀s,J s->G (f s x)):∀{l:List α} {s},x∈l->J s->G (l.foldl f s)
 |y::l,s,h,js=>by
  rcases aa2.mp h with e|e;·subst e;exact(dq (J:=λs=>J s/\G s) (l:=l) ⟨hJ s x js,hx s js⟩ λs y _ ⟨a,b⟩=>⟨hJ s y a,hG s y a b⟩).2
  ·exact vc hG hJ hx (l:=l) e (hJ s y js)
theorem xU{J:qF->Prop}(hi:i < n)(hj:j < n)(mono:∀ps i j,∀q∈ps,q∈f i ps j)(hJ:∀ps i j,J ps->J (f i ps j))(hx:∀ps,J ps->(i,j)∈f i ps j)(h:J ps):(i,j)∈kN f n ps:=by have inner:∀(s:qF) (k:Nat),J s->J ((Yh n).foldl (f k) s):=λs k hs=>dq hs λs j _ hs=>hJ s k j hs;have keep:∀(s:qF) (k:Nat),(i,j)∈s->(i,j)∈(Yh n).foldl (f k) s:=λs k hs=>dq (J:=λs=>(i,j)∈s) hs λs j' _ hs=>mono s k j' _ hs;exact vc (G:=λs=>(i,j)∈s) (J:=J) (x:=i) (λs k _ hs=>keep s k hs) (λs k hs=>inner s k hs) (λs hs=>vc (G:=λs=>(i,j)∈s) (J:=J) (x:=j) (λs k _ hs=>mono s i k _ hs) (λs k hs=>hJ s i k hs) (λs hs=>hx s hs) ?Zm hs) ?Zl h
theorem Lp ps i j:∀q∈ps,q∈p1 m i ps j:=λq hq=>by
 unfold p1;split;·exact jR.mpr (.inl hq)
 ·exact hq
theorem zl ps i j:∀q∈ps,q∈p2 m i ps j:=λq hq=>by
 unfold p2;split;·exact jR.mpr (.inl hq)
 ·exact hq
def xV(w:Nat)(m:cq)(k:Nat)(ps:qF):Prop:=∀i j,i < ?A->j < ?A->¬iz w m k i j->(i,j)∈ps
theorem Tb:xV w m 0 (kN (p1 m) ?A []):=λi j hi hj hn=>by
 refine xU (J:=λ_=>True) hi hj Lp (λ_ _ _ _=>trivial) (λps _=>?_) trivial;unfold p1;have:gd m i≠gd m j:=λe=>hn λu hu hl=>by cases u with|nil=>exact e|cons a u=>simp at hl
 rw[if_pos this];exact jR.mpr (.inr rfl)
theorem Tc(ok:cL w m)(h:xV w m k ps):xV w m (k+1) (kN (p2 m) ?A ps):=λi j hi hj hn=>by
 refine xU (J:=λs=>xV w m k s) hi hj zl (λps i j hs i' j' h1 h2 h3=>zl ps i j _ (hs i' j' h1 h2 h3)) (λs hs=>?_) h;by_cases hg:gd m i=gd m j
 ·have:∃a,a < w/\¬iz w m k (bc m i a) (bc m j a):=by apply YT;intro hc;exact hn (iz.Ee hg λa ha=>YT λz=>hc ⟨a,ha,z⟩)
  obtain⟨a,ha,hk⟩:=this;unfold p2;rw[if_pos ((Ef ok hi hj).mpr ⟨a,ha,hs _ _ (ok.bc hi ha) (ok.bc hj ha) hk⟩)];exact jR.mpr (.inr rfl)
 ·exact zl s i j _ (hs i j hi hj λe=>hg (e [] Wd.nil (Zr _)))
theorem o4(ok:cL w m):bQ w m (cO m):=by have h0:bQ w m (kN (p1 m) ?A []):=u9 (J:=bQ w m) (λps i j hi hj h=>Ir h hi hj) ⟨by simp,(λ_ h=>nomatch h),(λ_ h=>nomatch h)⟩;exact dq (J:=bQ w m) h0 λs _ _ h=>u9 (J:=bQ w m) (λps i j hi hj h=>Eg ok h hi hj) h
theorem Bg(ok:cL w m):xV w m ?A (cO m):=by
 have key:∀n,xV w m n ((Yh n).foldl (λps _=>kN (p2 m) ?A ps) (kN (p1 m) ?A [])):=λn=>by induction n with|zero=>exact Tb|succ n ih=>rw[Zn,aag];exact Tc ok ih
 exact key ?A
theorem C4(ok:cL w m)(hi:i < ?A)(hj:j < ?A):(i,j)∈cO m↔¬gI w m i m j:=
 ⟨λh=>(o4 ok).sd _ h,λh=>Bg ok i j hi hj λe=>h (zj ok hi hj e)⟩
theorem C5(ok:cL w m):(cO m).length+?A=?A*?A↔Red w m:=by
 have sd:=o4 ok;have sub:∀q∈cO m,q∈Bd m.length:=λq hq=>oZ.mpr ⟨(sd.lt q hq).1,(sd.lt q hq).2,λe=>sd.sd q hq (e▸gI.refl)⟩;have l1:=fB sd.nd sub;have l2:=Be ?A;constructor;·intro h s t hs ht sm;apply YT;intro fm;have:=Pm sd.nd sub ?D (s,t) (oZ.mpr ⟨hs,ht,fm⟩);exact sd.sd _ this sm
 ·intro hr;have:=fB (Lo ?A) (xs:=cO m) λq hq=>by obtain⟨h1,h2,h3⟩:=oZ.mp hq;exact(C4 ok h1 h2).mpr λsm=>h3 (hr _ _ h1 h2 sm)
  lia
theorem bQ.len(h:bQ w m ps):?S<=?A*m.length:=by
 have:=fB h.nd (xs:=Bd ?A) λq hq=>oZ.mpr ⟨(h.lt q hq).1,(h.lt q hq).2,λe=>h.sd q hq (e▸gI.refl)⟩;have:=Be ?A
 lia
end
noncomputable def jg(o:List Nat)(ss:List Nat):List Nat:=ss.foldl (λo s=>if s∈o then o else o++[s]) o
def wB(m:cq):List Nat->List Nat->Option (List Nat)
 |[],o=>Δ o|k::ks,o=>if o.length<=k then Θ else wB m ks (jg o (row m (o.getD k 0)).2)
def UX(o:List Nat):Prop:=∃i s:Nat,o[i]?=Δ s/\s≠i
theorem vd:∀{ss o} {i s:Nat},o[i]?=Δ s->(jg o ss)[i]?=Δ s
 |[],o,i,s,h=>h|x::ss,o,i,s,h=>by
  unfold jg;rw[Z3];refine vd (ss:=ss) ?_;split;·exact h
  ·rw[Yq (qqz h).1];exact h
theorem Bh:∀{ks o o'},UX o->wB m ks o=Δ o'->UX o'
 |[],o,o',hb,h=>by cases h;exact hb|k::ks,o,o',⟨i,s,h1,h2⟩,h=>by
  simp only[wB] at h;split at h;·cases h
  ·exact Bh ⟨i,s,vd h1,h2⟩ h
theorem Lq n:¬UX (Yh n):=λ⟨i,s,h1,h2⟩=>by have hi:=(qqz h1).1;rw[Zb ?Zl] at h1;injection h1 with h1;exact h2 h1.symm
theorem nK:∀{ss} {c},match hZ ss c with|some d=>jg (Yh c) ss=Yh d|none=>UX (jg (Yh c) ss)
 |[],c=>rfl|s::ss,c=>by
  have e:jg (Yh c) (s::ss)=if s < c then jg (Yh c) ss else jg (Yh c++[s]) ss:=by
   unfold jg;rw[Z3];by_cases h:s < c;·rw[if_pos h,if_pos (by simpa using h)]
   ·rw[if_neg h,if_neg (by simpa using h)]
  rw[e];simp only[hZ];by_cases h:s < c;·rw[if_pos h,if_pos h];exact nK
  ·rw[if_neg h,if_neg h];by_cases h2:s=c;·subst h2;rw[if_pos rfl,<-Zn];exact nK
   ·rw[if_neg h2];refine⟨c,s,vd ?_,h2⟩;rw[YH ?E];simp
theorem Bi:∀{qs} {j c},m.drop j=qs->(wB m (List.range' j qs.length) (Yh c)=Δ (Yh ?A)↔gJ qs j c=Δ ?A)
 |[],j,c,h=>by
  simp only[aaj,List.range'_zero,wB,gJ,acH];constructor;·intro e;have:=congrArg acI e;simpa using this
  ·intro e;rw[e]
 |q::qs,j,c,h=>by
  obtain⟨h1,h2,h3⟩:=oY h;rw[YA,List.range'_succ];simp only[wB,gJ,YN];by_cases hj:j < c
  ·rw[if_neg ?D,if_pos hj];have e:(Yh c).getD j 0=j:=by rw[Ym,Zb hj];rfl
   rw[e,h2];have key:=nK (ss:=q.2) (c:=c);cases hs:hZ q.2 c with
   |some d=>rw[hs] at key;dsimp only at key;rw[key];exact Bi h3|none=>
    rw[hs] at key;dsimp only at key;constructor;·intro z;exact absurd (Bh key z) (Lq _)
    ·intro z;cases z
  ·rw[if_pos ?D,if_neg hj];exact⟨(λz=>nomatch z),(λz=>nomatch z)⟩
theorem zo:wB m (Yh ?A) [0]=Δ (Yh ?A)↔gJ m 0 1=Δ m.length:=by have:=Bi (m:=m) (qs:=m) (j:=0) (c:=1) rfl;rw[<-List.range_eq_range'] at this;exact this
theorem Eh:∀{a b:List Nat},iq (a.map nD) (b.map nD)=decide (a=b)
 |[],[]=>rfl|[],_::_=>rfl|_::_,[]=>rfl|x::a,y::b=>by
  simp only[Yx,DJ,nD,Hq];rw[show iq (acm nD a) (acm nD b)=decide (a=b) from Eh];rw[aak];simp
  lia
theorem Iu:∀a:List Nat,kL (a.map nD)=0
 |[]=>rfl|x::a=>by rw[Yx,yI,Iu a];rfl
theorem Iv(a:List Nat):br (a.map λn=>P.d (nD n))=Δ (a.map nD):=by simp
theorem Lr{o:List Nat}(h:st[k]?=Δ (.lst (o.map λn=>P.d (nD n)))):jf .jo (.d (nD s)) (.obj k) st=Δ (!decide (s∈o)):=by
 have e1:bF st (.obj k)=Θ:=kz h;have e2:dg st (.obj k)=Δ (o.map λn=>P.d (nD n)):=gv h;have e3:(o.map nD).all lr=Λ:=by rw[Zz];intro x hx;rw[aad] at hx;obtain⟨n,_,rfl⟩:=hx;rfl
 have e4:((o.map nD).any λy=>sV y (nD s))=decide (s∈o):=by
  rw[aak,ZK,qqq];constructor
  ·rintro⟨x,hx,he⟩;rw[aad] at hx;obtain⟨n,hn,rfl⟩:=hx;simp[nD,Hq] at he;have:n=s:=by lia
   exact this▸hn
  ·intro hs;exact⟨nD s,aad.mpr ⟨s,hs,rfl⟩,beq_self_eq_true _⟩
 show(Ff (.d (nD s)) (.obj k) st).map not=_;unfold Ff;rw[e1];simp only[Ho,Zk,e2,Iv,e3,e4];rw[if_pos (by rfl)];rfl
theorem jS{α σ:Type}{enc:α->P}{f:σ->α->σ}{S:σ->aK}{I:bS->Prop}{J:σ->Prop}:∀{xs:List α},
  (∀x∈xs,∀s r,J s->I r->∃r1 r2,g (enc x) r=Δ r1/\b r1 (S s)=.ok (.nx r2) (S (f s x))/\I r2/\J (f s x))->∀{s} {r},J s->I r->∃r',forL g b (xs.map enc) r (S s)=.ok (.nx r') (S (xs.foldl f s))/\I r'/\J (xs.foldl f s)
 |[],_,s,r,hj,hi=>⟨r,rfl,hi,hj⟩|x::xs,h,s,r,hj,hi=>by obtain⟨r1,r2,e1,e2,i2,j2⟩:=h x Yk s r hj hi;obtain⟨r',e,i',j'⟩:=jS (xs:=xs) (λy hy=>h y (Yi _ hy)) j2 i2;refine⟨r',?_,i',j'⟩;rw[Yx,forL,e1,au,aa,e2,aa];exact e
noncomputable def C6(q:Nat×Nat):List (Sum Int Str):=[.inl (q.1:Int),.inl (q.2:Int)]
def bN(ps:qF):O:=.dT (ps.map λq=>(C6 q,.d ?QV))
theorem Iw(h:C6 q=C6 p):q=p:=by unfold C6 at h;simp only[List.cons.injEq,adw.injEq,and_true] at h;exact Prod.ext ?D ?D
theorem xW i j:nu (.d (.tup [nD i,nD j]))=Δ (C6 (i,j)):=rfl
theorem Bj(ps:qF)q:((ps.map λq=>(C6 q,(P.d ?QV))).any λkv=>decide (kv.1=C6 q))=decide (q∈ps):=by
 rw[aak,ZK,qqq];constructor;·rintro⟨x,hx,he⟩;rw[aad] at hx;obtain⟨p,hp,rfl⟩:=hx;rw[qqq] at he;exact Iw he▸hp
 ·intro h;exact⟨_,aad.mpr ⟨q,h,rfl⟩,by simp⟩
theorem Bk(h:st[k]?=Δ (bN ps))(hl:?S < aq)i j:nv (.obj k) (.d (.tup [nD i,nD j])) (.d ?QV) st=Δ (st.set k (bN (wA ps (i,j)))):=by
 have e:Ay (bN ps) (.d (.tup [nD i,nD j])) (.d ?QV)=Δ (bN (wA ps (i,j))):=by
  unfold Ay bN DK;simp only[Yr,if_pos hl,xW,Y5];congr 2;unfold mI;rw[Bj];unfold wA;by_cases hq:(i,j)∈ps
  ·rw[if_pos (by simpa using hq),if_pos hq,aae];refine List.map_congr_left λq _=>?_;simp only[Function.comp_apply];split;·rfl
   ·rfl
  ·rw[if_neg (by simpa using hq),if_neg hq,Y1];rfl
 unfold nv;simp only[h,Zk,e,Y5]
theorem Ls(h:st[k]?=Δ (bN ps))i j:jf .isin (.d (.tup [nD i,nD j])) (.obj k) st=Δ (decide ((i,j)∈ps)):=by
 show Ff _ _ _=_;unfold Ff;have e1:bF st (.obj k)=Δ (bN ps):=by simp[bF,Fe,h,bN,jI]
 rw[e1];simp only[bN,oJ,xW,Y5];congr 1;unfold fu;rw[abm,<-Bj,aak,List.find?_isSome,ZK]
theorem Pn a b:Fg (.d (wD a)) (.d (wD b))=Δ ((a.zip b).map λq=>D.tup [nD q.1,nD q.2]):=by unfold Fg wD;simp only[List.zip_map,aae];rfl
theorem Po(h:st[k]?=Δ (bN ps)):sf .len [.obj k] st=Δ (.d (.int ?S)):=by
 have e1:bF st (.obj k)=Δ (bN ps):=by simp[bF,Fe,h,bN,jI]
 unfold sf;simp only[e1,bN,Hr,Yr]
theorem Iy bG(o:O):(bG++[o])[bG.length]?=Δ o:=by simp
theorem Iz bG(o o':O):(bG++[o]).set bG.length o'=bG++[o']:=by simp
end Y
namespace Y
structure n6 where
 grp:List Nat
 mem:List (List Nat)
 wait:List Nat
 jd:List Bool
noncomputable def putAll(fresh:Nat)(ss:List Nat)(g:List Nat):List Nat:=ss.foldl (λg s=>g.set s fresh) g
def aB(h:n6)(g:Nat)(ss:List Nat):n6:=
 if ss.length=(h.mem.getD g []).length then h else
  let rest:=(h.mem.getD g []).filter λs=>decide (s∉ss)
  let mem:=h.mem.set g rest++[ss]
  let grp:=putAll ?P ss h.grp
  if h.jd.getD g Ξ=Λ\/ss.length<=rest.length then⟨grp,mem,h.wait++[?P],(h.jd++[Ξ]).set ?P Λ⟩
  else⟨grp,mem,h.wait++[g],(h.jd++[Ξ]).set g Λ⟩
noncomputable def dF:List (Nat×List Nat)->Nat->Nat->List (Nat×List Nat)
 |[],g,s=>[(g,[s])]|(k,ss)::d,g,s=>if k=g then(k,ss++[s])::d else(k,ss)::dF d g s
def cI(grp:List Nat)(l:List Nat):List (Nat×List Nat):=l.foldl (λd s=>dF d (grp.getD s 0) s) []
def dN(m:cq)(a t:Nat):List Nat:=(Yh ?A).filter λs=>decide (bc m s a=t)
def eI(m:cq)(h:n6)(T:List Nat)(a:Nat):n6:=(cI h.grp (T.flatMap (dN m a))).foldl (λh e=>aB h e.1 e.2) h
theorem nL:∀{ss g},(putAll fresh ss g).length=g.length
 |[],g=>rfl|s::ss,g=>by unfold putAll;rw[Z3];exact(nL (ss:=ss)).trans (ZH ..)
theorem ve:∀{ss g} {x},x < g.length->(putAll fresh ss g).getD x 0=if x∈ss then fresh else g.getD x 0
 |[],g,x,h=>by simp[putAll]|s::ss,g,x,h=>by
  have ih:=ve (fresh:=fresh) (ss:=ss) (g:=g.set s fresh) (x:=x) (by simpa using h);unfold putAll at ih ⊢;rw[Z3,ih];by_cases hx:x∈ss;·rw[if_pos hx,if_pos (Yi _ hx)]
  ·rw[if_neg hx];by_cases e:x=s;·subst e;rw[if_pos Yk,Ym,YL h];rfl
   ·rw[if_neg (λz=>by rcases aa2.mp z with z|z;exact e z;exact hx z),Ym,Yp (λz=>e z.symm),<-Ym]
theorem xX:∀{d} {k} {ss},(d.map (·.1)).Nodup->((k,ss)∈dF d g s↔(k≠g/\(k,ss)∈d)\/(k=g/\((∃r,(g,r)∈d/\ss=r++[s])\/((∀r,(g,r)∉d)/\ss=[s]))))
 |[],k,ss,_=>by simp only[dF,Zt,Prod.mk.injEq,aa9,and_false,false_or,not_false_eq_true,implies_true,true_and,false_and,exists_false]|(j,rs)::d,k,ss,nd=>by
  simp only[Yx,ZT] at nd;have hj:∀r,(j,r)∉d:=λr hr=>nd.1 (aad.mpr ⟨_,hr,rfl⟩);simp only[dF];split
  ·rename_i e;subst e;constructor
   ·intro h;rcases aa2.mp h with h|h;·injection h with h1 h2;exact .inr ⟨h1,.inl ⟨rs,Yk,h2⟩⟩
    ·exact .inl ⟨λz=>hj ss (by rw[z] at h;exact h),Yi _ h⟩
   ·rintro(⟨h1,h2⟩|⟨h1,h2⟩)
    ·rcases aa2.mp h2 with h|h;·injection h with h3 h4;exact absurd h3 h1
     ·exact Yi _ h
    ·subst h1;rcases h2 with ⟨r,hr,e⟩|⟨hn,e⟩
     ·rcases aa2.mp hr with h|h;·injection h with h3 h4;rw[e,h4];exact Yk
      ·exact absurd h (hj r)
     ·exact absurd Yk (hn rs)
  ·rename_i e;have ih:=xX (g:=g) (s:=s) (d:=d) (k:=k) (ss:=ss) nd.2;constructor
   ·intro h;rcases aa2.mp h with h|h;·injection h with h1 h2;subst h1;subst h2;exact .inl ⟨e,Yk⟩
    ·rcases ih.mp h with ⟨h1,h2⟩|⟨h1,h2⟩
     ·exact .inl ⟨h1,Yi _ h2⟩
     ·refine .inr ⟨h1,?_⟩;rcases h2 with ⟨r,hr,e2⟩|⟨hn,e2⟩
      ·exact .inl ⟨r,Yi _ hr,e2⟩
      ·refine .inr ⟨λr hr=>?_,e2⟩;rcases aa2.mp hr with z|z;·injection z with z1 z2;exact e z1.symm
       ·exact hn r z
   ·rintro(⟨h1,h2⟩|⟨h1,h2⟩)
    ·rcases aa2.mp h2 with h|h;·rw[h];exact Yk
     ·exact Yi _ (ih.mpr (.inl ⟨h1,h⟩))
    ·refine Yi _ (ih.mpr (.inr ⟨h1,?_⟩));rcases h2 with ⟨r,hr,e2⟩|⟨hn,e2⟩
     ·rcases aa2.mp hr with z|z;·injection z with z1 z2;exact absurd z1.symm e
      ·exact .inl ⟨r,z,e2⟩
     ·exact .inr ⟨λr hr=>hn r (Yi _ hr),e2⟩
theorem kB:∀{d},(dF d g s).map (·.1)=if g∈d.map (·.1) then d.map (·.1) else d.map (·.1)++[g]
 |[]=>by simp[dF]|(j,rs)::d=>by
  have ih:=kB (g:=g) (s:=s) (d:=d);simp only[dF];split;·rename_i e;subst e;simp
  ·rename_i e;rw[Yx,ih];have e':¬g=j:=λz=>e z.symm;by_cases h:g∈d.map (·.1);·rw[if_pos h,if_pos (by rw[Yx];exact Yi _ h)];rfl
   ·rw[if_neg h,if_neg (by rw[Yx];intro z;rcases aa2.mp z with z|z;exact e' z;exact h z)];rfl
theorem IA(h:(d.map (·.1)).Nodup):((dF d g s).map (·.1)).Nodup:=by
 rw[kB];split;·exact h
 ·rename_i hg;rw[Ze];exact⟨h,by simp,λa ha b hb=>by simp at hb;subst hb;exact λz=>hg (z▸ha)⟩
theorem vf{grp:List Nat}:∀{l done:List Nat} {d},(d.map (·.1)).Nodup->(∀k ss,(k,ss)∈d->ss=done.filter (λs=>decide (grp.getD s 0=k))/\ss≠[])->(∀s∈done,∃ss,(grp.getD s 0,ss)∈d)->
  ((l.foldl (λd s=>dF d (grp.getD s 0) s) d).map (·.1)).Nodup/\(∀k ss,(k,ss)∈l.foldl (λd s=>dF d (grp.getD s 0) s) d->ss=(done++l).filter (λs=>decide (grp.getD s 0=k))/\ss≠[])/\(∀s∈done++l,∃ss,(grp.getD s 0,ss)∈l.foldl (λd s=>dF d (grp.getD s 0) s) d)
 |[],done,d,nd,h1,h2=>by simpa using⟨nd,h1,h2⟩|x::l,done,d,nd,h1,h2=>by
  have key:=vf (grp:=grp) (l:=l) (done:=done++[x]) (d:=dF d (grp.getD x 0) x) (IA nd) (λk ss h=>by
   rcases(xX nd).mp h with ⟨a,b⟩|⟨a,b⟩
   ·obtain⟨c1,c2⟩:=h1 k ss b;refine⟨?_,c2⟩;rw[abe,<-c1,Y4 (by simp;exact λz=>a z.symm)];simp
   ·subst a;rcases b with ⟨r,hr,e⟩|⟨hn,e⟩
    ·obtain⟨c1,c2⟩:=h1 _ r hr;refine⟨?_,by rw[e];simp⟩;rw[abe,<-c1,YY ?E,e];simp
    ·refine⟨?_,by rw[e];simp⟩;have:done.filter (λs=>decide (grp.getD s 0=grp.getD x 0))=[]:=by rw[aaC];intro s hs hd;obtain⟨ss,vg⟩:=h2 s hs;rw[qqq] at hd;rw[hd] at vg;exact hn ss vg
     rw[abe,this,YY ?E,e];simp) (λs hs=>by
   have e:(grp.getD x 0)∈(dF d (grp.getD x 0) x).map (·.1):=by
    rw[kB];split;·assumption
    ·simp
   have ex:∀k,k∈d.map (·.1)\/k=grp.getD x 0->∃ss,(k,ss)∈dF d (grp.getD x 0) x:=λk hk=>by
    have:k∈(dF d (grp.getD x 0) x).map (·.1):=by
     rcases hk with hk|hk
     ·rw[kB];split;·exact hk
      ·exact Zj _ hk
     ·rw[hk];exact e
    obtain⟨p,hp,e2⟩:=aad.mp this;exact⟨p.2,by rw[<-e2];exact hp⟩
   rcases abh.mp hs with z|z;·obtain⟨ss,vg⟩:=h2 s z;exact ex _ (.inl (aad.mpr ⟨_,vg,rfl⟩))
   ·rw[Zt] at z;subst z;exact ex _ (.inr rfl))
  rw[Zf] at key;exact key
theorem dZ grp l:((cI grp l).map (·.1)).Nodup/\(∀k ss,(k,ss)∈cI grp l->ss=l.filter (λs=>decide (grp.getD s 0=k))/\ss≠[])/\∀s∈l,∃ss,(grp.getD s 0,ss)∈cI grp l:=by have:=vf (grp:=grp) (l:=l) (done:=[]) (d:=[]) ?E (λ_ _ h=>by cases h) (λ_ h=>by cases h);simpa[cI] using this
section
abbrev n6.cQ(h:n6)(s:Nat):Nat:=h.grp.getD s 0
structure kC(w:Nat)(m:cq)(T:List Nat)(R:Nat->Prop)(h:n6):Prop where
 su:h.grp.length=?A
 nM:h.jd.length=?P
 blt:∀s,s < ?A->h.cQ s < ?P
 mem:∀g,g < ?P->(h.mem.getD g []).Nodup/\∀s,s∈h.mem.getD g []↔s < ?A/\h.cQ s=g
 MC:h.wait.Nodup
 wt:∀g,g∈h.wait↔g < ?P/\h.jd.getD g Ξ=Λ
 snd:∀s t,s < ?A->t < ?A->h.cQ s≠h.cQ t->¬gI w m s m t
 good:∀s t,s < ?A->t < ?A->h.cQ s=h.cQ t->gd m s=gd m t
 sep:∀s t a,s < ?A->t < ?A->a < w->h.cQ s=h.cQ t->h.cQ (bc m s a)≠h.cQ (bc m t a)->h.cQ (bc m s a)∈h.wait\/h.cQ (bc m t a)∈h.wait\/(R a/\¬(bc m s a∈T↔bc m t a∈T))
noncomputable def lL(m:cq)(h h':n6):Prop:=∀s t,s < ?A->t < ?A->h'.cQ s=h'.cQ t->h.cQ s=h.cQ t
theorem lL.refl:lL m h h:=λ_ _ _ _ e=>e
theorem lL.trans(a:lL m h h1)(b:lL m h1 h2):lL m h h2:=λs t hs ht e=>a s t hs ht (b s t hs ht e)
theorem iV{α:Type}{l r:List α}{d:α}(h:i < l.length):(l++r).getD i d=l.getD i d:=by rw[Ym,Ym,Yq h]
theorem jt{α:Type}{l:List α}{x d:α}:(l++[x]).getD l.length d=x:=by rw[Ym];simp
theorem fg{α:Type}{l:List α}{x d:α}(h:i < l.length):(l.set i x).getD i d=x:=by rw[Ym,YL h];rfl
theorem dG{α:Type}{l:List α}{x d:α}(h:i≠j):(l.set i x).getD j d=l.getD j d:=by rw[Ym,Yp h,<-Ym]
variable{w:Nat}{m:cq}{T:List Nat}{R:Nat->Prop}{h:n6}
theorem sub_len{ss xs:List Nat}(hn:ss.Nodup)(hs:∀s∈ss,s∈xs):ss.length<=xs.length:=by
 induction ss generalizing xs with
 |nil=>simp|cons s ss ih=>
  rw[ZT] at hn;have h1:s∈xs:=hs s Yk;have:=ih (xs:=xs.erase s) hn.2 λt ht=>by have:t≠s:=λz=>hn.1 (z▸ht);exact(abq this).mpr (hs t (Yi _ ht))
  rw[aa3 h1] at this;have:=aaf h1;simp
  lia
theorem Lu{ss xs:List Nat}(hn:ss.Nodup)(hx:xs.Nodup)(hs:∀s∈ss,s∈xs)(hl:ss.length=?Q):∀x∈xs,x∈ss:=by
 intro x Ll;apply YT;intro hc;have:=sub_len (ss:=ss) (xs:=xs.erase x) hn λt ht=>by have:t≠x:=λz=>hc (z▸ht);exact(abq this).mpr (hs t ht)
 rw[aa3 Ll] at this;have:=aaf Ll
 lia
theorem zp(hi:kC w m T R h)(hc:ss.length≠(h.mem.getD g []).length)(hx:x < ?A):(aB h g ss).cQ x=if x∈ss then ?P else h.cQ x:=by
 have e:(aB h g ss).grp=putAll ?P ss h.grp:=by unfold aB;rw[if_neg hc];dsimp only;split<;>rfl
 show(aB h g ss).grp.getD x 0=_;rw[e];exact ve (by rw[hi.su];exact hx)
theorem o5(hc:ss.length≠(h.mem.getD g []).length):(aB h g ss).mem=h.mem.set g ?Qt++[ss]:=by unfold aB;rw[if_neg hc];dsimp only;split<;>rfl
noncomputable def lM(h:n6)(g:Nat)(ss:List Nat):Nat:=if h.jd.getD g Ξ=Λ\/ss.length<=((h.mem.getD g []).filter λs=>decide (s∉ss)).length then ?P else g
theorem wC(hc:ss.length≠(h.mem.getD g []).length):(aB h g ss).wait=h.wait++[lM h g ss]/\(aB h g ss).jd=(h.jd++[Ξ]).set (lM h g ss) Λ:=by unfold aB lM;rw[if_neg hc];dsimp only;split<;>exact⟨rfl,rfl⟩
theorem o6(hi:kC w m T R h)(hg:g < ?P)(ha:a < w)(vg:∀s,s∈ss↔s∈h.mem.getD g []/\bc m s a∈T)(FA:ss.Nodup)(fm:ss≠[])(hT:∀x y,x < ?A->y < ?A->x∈T->y∉T->¬gI w m x m y)(ok:cL w m):
  kC w m T R (aB h g ss)/\lL m h (aB h g ss)/\(∀s t,s < ?A->t < ?A->h.cQ s=g->h.cQ t=g->(aB h g ss).cQ s=(aB h g ss).cQ t->(bc m s a∈T↔bc m t a∈T))/\
   (∀s,s < ?A->h.cQ s≠g->(aB h g ss).cQ s=h.cQ s)/\(∀k,k < ?P->k≠g->(aB h g ss).mem.getD k []=h.mem.getD k [])/\?P<=(aB h g ss).mem.length/\
   (aB h g ss).wait.length+?P=h.wait.length+(aB h g ss).mem.length:=by
 obtain⟨gn,gm⟩:=hi.mem g hg;have sub:∀s∈ss,s∈h.mem.getD g []:=λs hs=>((vg s).mp hs).1;by_cases hc:ss.length=(h.mem.getD g []).length
 ·have e:aB h g ss=h:=by unfold aB;rw[if_pos hc]
  rw[e];refine⟨hi,lL.refl,λs t hs ht es et _=>?_,λ_ _ _=>rfl,λ_ _ _=>rfl,Yt _,rfl⟩;have all:=Lu FA gn sub hc;exact⟨λ_=>((vg t).mp (all t ((gm t).mpr ⟨ht,et⟩))).2,λ_=>((vg s).mp (all s ((gm s).mpr ⟨hs,es⟩))).2⟩
 ·have B:=λ{x:Nat} (hx:x < m.length)=>zp hi hc hx (g:=g);have M:=o5 (h:=h) hc;obtain⟨Wt,Ws⟩:=wC (h:=h) hc;have ml:(aB h g ss).mem.length=?P+1:=by rw[M];simp
  have Lv:∀x,x∈ss->x < ?A/\h.cQ x=g:=λx hx=>(gm x).mp (sub x hx);have nx:lM h g ss=?P\/(lM h g ss=g/\h.jd.getD g Ξ=Ξ):=by
   unfold lM;split;·exact .inl rfl
   ·rename_i q;refine .inr ⟨rfl,?_⟩;cases z:h.jd.getD g Ξ with|false=>rfl|true=>exact absurd (.inl z) q
  have same:∀s t,s < ?A->t < ?A->(aB h g ss).cQ s=(aB h g ss).cQ t->h.cQ s=h.cQ t/\(s∈ss↔t∈ss):=λs t hs ht e=>by
   rw[B hs,B ht] at e;have b1:=hi.blt s hs;have b2:=hi.blt t ht;by_cases z1:s∈ss<;>by_cases z2:t∈ss;·exact⟨(Lv s z1).2.trans (Lv t z2).2.symm,by simp[z1,z2]⟩
   ·rw[if_pos z1,if_neg z2] at e;lia
   ·rw[if_neg z1,if_pos z2] at e;lia
   ·rw[if_neg z1,if_neg z2] at e;exact⟨e,by simp[z1,z2]⟩
  refine⟨⟨?_,?_,?_,?_,?_,?_,?_,?_,?_⟩,λs t hs ht e=>(same s t hs ht e).1,?_,?_,?_,by lia,?_⟩
  ·have:(aB h g ss).grp=putAll ?P ss h.grp:=by unfold aB;rw[if_neg hc];dsimp only;split<;>rfl
   rw[this,nL,hi.su]
  ·rw[ml,Ws];simp[hi.nM]
  ·intro s hs;rw[B hs,ml];have:=hi.blt s hs;split<;>lia
  ·intro k hk;rw[ml] at hk;rw[M];by_cases e1:k=?P
   ·subst e1;have e2:(h.mem.set g ?Qt++[ss]).getD ?P []=ss:=by have:=jt (l:=h.mem.set g ?Qt) (x:=ss) (d:=[]);rw[ZH] at this;exact this
    rw[e2];refine⟨FA,λs=>⟨λhs=>⟨(Lv s hs).1,by rw[B (Lv s hs).1,if_pos hs]⟩,λ⟨hs,e⟩=>?_⟩⟩;rw[B hs] at e;by_cases z:s∈ss;·exact z
    ·rw[if_neg z] at e;have:=hi.blt s hs;lia
   ·have wc:k < h.mem.length:=by lia
    rw[iV (by simpa using wc)];by_cases e2:k=g
    ·subst e2;rw[fg wc];refine⟨gn.filter _,λs=>?_⟩;rw[Zg,gm,qqq];constructor;·rintro⟨⟨hs,e⟩,hn⟩;exact⟨hs,by rw[B hs,if_neg hn];exact e⟩
     ·rintro⟨hs,e⟩;rw[B hs] at e;by_cases z:s∈ss;·rw[if_pos z] at e;lia
      ·rw[if_neg z] at e;exact⟨⟨hs,e⟩,z⟩
    ·rw[dG (λz=>e2 z.symm)];obtain⟨q1,q2⟩:=hi.mem k wc;refine⟨q1,λs=>?_⟩;rw[q2];constructor
     ·rintro⟨hs,e⟩;refine⟨hs,?_⟩;rw[B hs];split;·rename_i z;exact absurd (e.symm.trans (Lv s z).2) e2
      ·exact e
     ·rintro⟨hs,e⟩;refine⟨hs,?_⟩;rw[B hs] at e;split at e
      ·lia
      ·exact e
  ·rw[Wt,Ze];refine⟨hi.MC,by simp,λx hx y hy=>?_⟩;rw[Zt] at hy;subst hy;intro z;subst z;obtain⟨p,q⟩:=(hi.wt _).mp hx;rcases nx with e|⟨e,f⟩
   ·lia
   ·rw[e,f] at q;cases q
  ·intro k;rw[Wt,Ws,ml,abh,Zt];by_cases e:k=lM h g ss
   ·subst e;have l1:lM h g ss < (h.jd++[Ξ]).length:=by rw[YF,hi.nM];rcases nx with e|⟨e,_⟩<;>simp<;>lia
    rw[fg l1];refine⟨λ_=>⟨?_,rfl⟩,λ_=>.inr rfl⟩;rcases nx with e|⟨e,_⟩<;>lia
   ·rw[dG (λz=>e z.symm)];constructor
    ·rintro(hk|hk);·obtain⟨p,q⟩:=(hi.wt k).mp hk;exact⟨by lia,by rw[iV (by rw[hi.nM];exact p)];exact q⟩
     ·exact absurd hk e
    ·rintro⟨p,q⟩;by_cases z:k=?P
     ·subst z;have:(h.jd++[Ξ]).getD ?P Ξ=Ξ:=by rw[<-hi.nM];exact jt
      rw[this] at q;cases q
     ·rw[iV (by rw[hi.nM];lia)] at q;exact .inl ((hi.wt k).mpr ⟨by lia,q⟩)
  ·intro s t hs ht hb;by_cases e:h.cQ s=h.cQ t
   ·rw[B hs,B ht] at hb;have go:∀x y,x < ?A->y < ?A->x∈ss->y∉ss->h.cQ x=h.cQ y->¬gI w m x m y:=λx y hx hy z1 z2 e sm=>by have e1:y∈h.mem.getD g []:=(gm y).mpr ⟨hy,e▸(Lv x z1).2⟩;have e2:bc m y a∉T:=λz=>z2 ((vg y).mpr ⟨e1,z⟩);exact hT _ _ (ok.bc hx ha) (ok.bc hy ha) ((vg x).mp z1).2 e2 (sm.step ha)
    by_cases z1:s∈ss<;>by_cases z2:t∈ss;·simp[z1,z2] at hb
    ·exact go s t hs ht z1 z2 e
    ·exact λsm=>go t s ht hs z2 z1 e.symm sm.symm
    ·rw[if_neg z1,if_neg z2] at hb;exact absurd e hb
   ·exact hi.snd s t hs ht e
  ·intro s t hs ht e;exact hi.good s t hs ht (same s t hs ht e).1
  ·intro s t b hs ht hb e Lw;have p1:=ok.bc hs hb;have p2:=ok.bc ht hb;have e0:=(same s t hs ht e).1;rw[Wt];by_cases c:h.cQ (bc m s b)=h.cQ (bc m t b)
   ·
    rw[B p1,B p2] at Lw ⊢;have go:∀x y,x∈ss->y∉ss->h.cQ x=h.cQ y->h.cQ y=g:=λx y z1 z2 e=>e▸(Lv x z1).2;by_cases z1:bc m s b∈ss<;>by_cases z2:bc m t b∈ss;·simp[z1,z2] at Lw
    ·rw[if_pos z1,if_neg z2,go _ _ z1 z2 c];rcases nx with q|⟨q,_⟩;·exact .inl (by rw[q];simp)
     ·exact .inr (.inl (by rw[q];simp))
    ·rw[if_neg z1,if_pos z2,go _ _ z2 z1 c.symm];rcases nx with q|⟨q,_⟩;·exact .inr (.inl (by rw[q];simp))
     ·exact .inl (by rw[q];simp)
    ·rw[if_neg z1,if_neg z2] at Lw;exact absurd c Lw
   ·
    have keep:∀x,x < ?A->h.cQ x∈h.wait->(aB h g ss).cQ x∈h.wait++[lM h g ss]:=λx hx hw=>by
     rw[B hx];split
     ·rename_i z;have e1:=(Lv x z).2;rw[e1] at hw;have:lM h g ss=h.mem.length:=by unfold lM;rw[if_pos (.inl ((hi.wt g).mp hw).2)]
      rw[this];simp
     ·exact Zj _ hw
    rcases hi.sep s t b hs ht hb e0 c with q|q|q;·exact .inl (keep _ p1 q)
    ·exact .inr (.inl (keep _ p2 q))
    ·exact .inr (.inr q)
  ·intro s t hs ht es et e;have e2:=(same s t hs ht e).2;have i1:s∈ss↔bc m s a∈T:=by rw[vg];exact⟨λz=>z.2,λz=>⟨(gm s).mpr ⟨hs,es⟩,z⟩⟩
   have i2:t∈ss↔bc m t a∈T:=by rw[vg];exact⟨λz=>z.2,λz=>⟨(gm t).mpr ⟨ht,et⟩,z⟩⟩
   rw[<-i1,<-i2];exact e2
  ·intro s hs hn;rw[B hs,if_neg λz=>hn (Lv s z).2]
  ·intro k hk hn;rw[M,iV (by simpa using hk),dG λz=>hn z.symm]
  ·rw[Wt,ml];simp;lia
end
section
variable{w:Nat}{m:cq}{T:List Nat}{R:Nat->Prop}{h h0:n6}
noncomputable def wF(h:n6):Prop:=∀g,2<=g->g < ?P->h.mem.getD g []≠[]
theorem rN(hi:kC w m T R h)(hn:wF h)(hg:g < ?P)(vg:∀s∈ss,s∈h.mem.getD g [])(FA:ss.Nodup)(fm:ss≠[]):wF (aB h g ss):=by
 obtain⟨gn,gm⟩:=hi.mem g hg;by_cases hc:ss.length=(h.mem.getD g []).length
 ·have e:aB h g ss=h:=by unfold aB;rw[if_pos hc]
  rw[e];exact hn
 ·have M:=o5 (h:=h) hc;have ml:(aB h g ss).mem.length=?P+1:=by rw[M];simp
  intro k wb hk;rw[ml] at hk;rw[M];by_cases e1:k=?P
  ·subst e1;have e2:(h.mem.set g ?Qt++[ss]).getD ?P []=ss:=by have:=jt (l:=h.mem.set g ?Qt) (x:=ss) (d:=[]);rw[ZH] at this;exact this
   rw[e2];exact fm
  ·have wc:k < h.mem.length:=by lia
   rw[iV (by simpa using wc)];by_cases e2:k=g
   ·subst e2;rw[fg wc];intro z;rw[aaC] at z;have:∀x∈h.mem.getD k [],x∈ss:=λx hx=>by have:=z x hx;simpa using this
    have l1:=sub_len gn this;have l2:=sub_len FA vg
    lia
   ·rw[dG (λz=>e2 z.symm)];exact hn k wb wc
theorem wF.bound(hi:kC w m T R h)(hn:wF h):?P<=?A+2:=by
 have key:=sub_len (ss:=(Yh (?P - 2)).map λg=>(h.mem.getD (g+2) []).headD 0) (xs:=Yh ?A) ?_ ?_;·simp at key;lia
 ·rw[List.nodup_iff_pairwise_ne,List.pairwise_map];refine List.Pairwise.imp_of_mem ?_ (aas);intro a b ha hb N3 e;simp only[Zp] at ha hb;have hd:∀g,g < ?P - 2->(h.mem.getD (g+2) []).headD 0∈h.mem.getD (g+2) []:=λg hg=>by have:=hn (g+2) ?D ?D;cases q:h.mem.getD (g+2) [] with|nil=>exact absurd q this|cons x r=>simp
  have m1:=((hi.mem (a+2) ?D).2 _).mp (hd a ha);have m2:=((hi.mem (b+2) ?D).2 _).mp (hd b hb);rw[e] at m1;have:=m1.2.symm.trans m2.2
  lia
 ·intro s hs;rw[aad] at hs;obtain⟨g,hg,e⟩:=hs;rw[Zp] at hg;have:=hn (g+2) ?D ?D;cases q:h.mem.getD (g+2) [] with|nil=>exact absurd q this|cons x r=>rw[q] at e;have m1:=((hi.mem (g+2) ?D).2 x).mp (by rw[q];simp);simp at e;rw[<-e,Zp];exact m1.1
theorem Bl(ok:cL w m)(ha:a < w)(hT:∀x y,x < ?A->y < ?A->x∈T->y∉T->¬gI w m x m y):∀{es:List (Nat×List Nat)} {h} {Dn:Nat->Prop},kC w m T R h->wF h->lL m h0 h->(es.map (·.1)).Nodup->
  (∀k ss,(k,ss)∈es->k < ?P/\(∀s,s < ?A->(h.cQ s=k↔h0.cQ s=k))/\(∀s,s∈ss↔s∈h.mem.getD k []/\bc m s a∈T)/\ss.Nodup/\ss≠[])->
  (∀s t,s < ?A->t < ?A->h.cQ s=h.cQ t->Dn (h0.cQ s)->(bc m s a∈T↔bc m t a∈T))->
  kC w m T R (es.foldl (λh e=>aB h e.1 e.2) h)/\wF (es.foldl (λh e=>aB h e.1 e.2) h)/\lL m h0 (es.foldl (λh e=>aB h e.1 e.2) h)/\
  (∀s t,s < ?A->t < ?A->(es.foldl (λh e=>aB h e.1 e.2) h).cQ s=(es.foldl (λh e=>aB h e.1 e.2) h).cQ t->(Dn (h0.cQ s)\/h0.cQ s∈es.map (·.1))->(bc m s a∈T↔bc m t a∈T))/\
  (es.foldl (λh e=>aB h e.1 e.2) h).wait.length+?P=h.wait.length+(es.foldl (λh e=>aB h e.1 e.2) h).mem.length/\?P<=(es.foldl (λh e=>aB h e.1 e.2) h).mem.length
 |[],h,Dn,hi,hn,hf,_,_,hd=>⟨hi,hn,hf,λs t hs ht e d=>hd s t hs ht e (by rcases d with d|d;exact d;simp at d),rfl,Yt _⟩|(k,ss)::es,h,Dn,hi,hn,hf,nd,hes,hd=>by
  obtain⟨k1,k2,k3,k4,k5⟩:=hes k ss Yk;obtain⟨i1,i2,i3,i4,i5,i6,i7⟩:=o6 hi k1 ha k3 k4 k5 hT ok;have n1:=rN hi hn k1 (λs hs=>((k3 s).mp hs).1) k4 k5;rw[Yx,ZT] at nd;obtain⟨f1,f2,f3,f4,f5,f6⟩:=Bl ok ha hT (h:=aB h k ss) (Dn:=λj=>Dn j\/j=k) i1 n1 (hf.trans i2) nd.2 (λj rs hj=>by
   obtain⟨j1,j2,j3,j4,j5⟩:=hes j rs (Yi _ hj);have hjk:j≠k:=λz=>nd.1 (aad.mpr ⟨_,hj,z⟩);refine⟨by lia,λs hs=>?_,λs=>by rw[j3,i5 j j1 hjk],j4,j5⟩;rw[<-j2 s hs];have q1:=(i1.mem j ?D).2 s;have q2:=(hi.mem j j1).2 s;rw[i5 j j1 hjk,q2] at q1;exact⟨λz=>(q1.mpr ⟨hs,z⟩).2,λz=>(q1.mp ⟨hs,z⟩).2⟩) (λs t hs ht e d=>by
   rcases d with d|d;·exact hd s t hs ht (i2 s t hs ht e) d
   ·have e1:h.cQ s=k:=(k2 s hs).mpr d;have e2:h.cQ t=k:=(i2 s t hs ht e)▸e1;exact i3 s t hs ht e1 e2 e)
  refine⟨f1,f2,f3,λs t hs ht e d=>f4 s t hs ht e ?_,?_,by rw[Z3];dsimp only;lia⟩
  ·rcases d with d|d;·exact .inl (.inl d)
   ·rw[Yx] at d;rcases aa2.mp d with d|d;·exact .inl (.inr d)
    ·exact .inr d
  ·rw[Z3];dsimp only
   lia
theorem lN:s∈dN m a t↔s < ?A/\bc m s a=t:=by unfold dN;rw[Zg,Zp,qqq]
theorem o7:s∈T.flatMap (dN m a)↔s < ?A/\bc m s a∈T:=by
 rw[abz];constructor;·rintro⟨t,ht,hs⟩;obtain⟨p,q⟩:=lN.mp hs;exact⟨p,q▸ht⟩
 ·rintro⟨p,q⟩;exact⟨_,q,lN.mpr ⟨p,rfl⟩⟩
theorem tB:∀{T:List Nat},T.Nodup->(T.flatMap (dN m a)).Nodup
 |[],_=>by simp|t::T,hn=>by rw[ZT] at hn;rw[abn,Ze];refine⟨(aas).filter _,tB hn.2,λx hx y hy=>?_⟩;rintro rfl;have e1:=(lN.mp hx).2;have e2:=(o7.mp hy).2;rw[e1] at e2;exact hn.1 e2
theorem rO(ok:cL w m)(ha:a < w)(hT:∀x y,x < ?A->y < ?A->x∈T->y∉T->¬gI w m x m y)(Lx:T.Nodup)(hi:kC w m T R h)(hn:wF h):
  kC w m T (λb=>R b/\b≠a) (eI m h T a)/\wF (eI m h T a)/\(eI m h T a).wait.length+?P=h.wait.length+(eI m h T a).mem.length/\?P<=(eI m h T a).mem.length:=by
 obtain⟨s1,s2,s3⟩:=dZ h.grp (T.flatMap (dN m a));have L:=λs=>o7 (m:=m) (T:=T) (a:=a) (s:=s);have Ln:=tB (m:=m) (a:=a) Lx;have key:=Bl (h0:=h) (Dn:=λ_=>False) ok ha hT hi hn lL.refl s1 (λk ss hk=>by
  obtain⟨e,fm⟩:=s2 k ss hk;have wb:k < h.mem.length:=by
   cases q:ss with
   |nil=>exact absurd q fm|cons x r=>
    have hx:x∈ss:=by rw[q];simp
    rw[e,Zg,qqq] at hx;rw[<-hx.2];exact hi.blt x ((L x).mp hx.1).1
  refine⟨wb,λ_ _=>Iff.rfl,λs=>?_,by rw[e];exact Ln.filter _,fm⟩;rw[e,Zg,qqq,L,(hi.mem k wb).2];constructor;·rintro⟨⟨p,q⟩,r⟩;exact⟨⟨p,r⟩,q⟩
  ·rintro⟨⟨p,r⟩,q⟩;exact⟨⟨p,q⟩,r⟩) (λ_ _ _ _ _ d=>d.elim)
 obtain⟨f1,f2,f3,f4,f5,f6⟩:=key;refine⟨⟨f1.su,f1.nM,f1.blt,f1.mem,f1.MC,f1.wt,f1.snd,f1.good,λs t b hs ht hb e fm=>?_⟩,f2,f5,f6⟩;rcases f1.sep s t b hs ht hb e fm with q|q|⟨q1,q2⟩;·exact .inl q
 ·exact .inr (.inl q)
 ·refine .inr (.inr ⟨⟨q1,λz=>q2 ?_⟩,q2⟩);subst z;by_cases c:h.cQ s∈(cI h.grp (T.flatMap (dN m b))).map (·.1);·exact f4 s t hs ht e (.inr c)
  ·have e0:h.cQ s=h.cQ t:=f3 s t hs ht e;have no:∀x,x < ?A->h.cQ x=h.cQ s->bc m x b∉T:=λx hx ex hc=>by obtain⟨ss,vg⟩:=s3 x ((L x).mpr ⟨hx,hc⟩);exact c (aad.mpr ⟨_,vg,ex⟩)
   exact⟨λz=>absurd z (no s hs rfl),λz=>absurd z (no t ht e0.symm)⟩
noncomputable def lO(h:n6)(g:Nat):n6:=⟨h.grp,h.mem,h.wait.dropLast,h.jd.set g Ξ⟩
def eJ(m:cq)(T:List Nat)(as:List Nat)(h:n6):n6:=as.foldl (λh a=>eI m h T a) h
def o8(m:cq)(w:Nat)(h:n6):n6:=eJ m (h.mem.getD (h.wait.getLast?.getD 0) []) (Yh w) (lO h (h.wait.getLast?.getD 0))
def settle(m:cq)(w:Nat):Nat->n6->n6
 |0,h=>h|n+1,h=>if h.wait=[] then h else settle m w n (o8 m w h)
def vh(w:Nat)(m:cq)(h:n6):Prop:=kC w m [] (λ_=>False) h/\wF h
theorem Bm(ok:cL w m)(hT:∀x y,x < ?A->y < ?A->x∈T->y∉T->¬gI w m x m y)(Lx:T.Nodup):∀{as} {R} {h},(∀a∈as,a < w)->kC w m T R h->wF h->
  kC w m T (λb=>R b/\b∉as) (eJ m T as h)/\wF (eJ m T as h)/\(eJ m T as h).wait.length+?P=h.wait.length+(eJ m T as h).mem.length/\?P<=(eJ m T as h).mem.length
 |[],R,h,_,hi,hn=>⟨⟨hi.su,hi.nM,hi.blt,hi.mem,hi.MC,hi.wt,hi.snd,hi.good,λs t b hs ht hb e fm=>by
   rcases hi.sep s t b hs ht hb e fm with q|q|⟨q1,q2⟩;·exact .inl q
   ·exact .inr (.inl q)
   ·exact .inr (.inr ⟨⟨q1,by simp⟩,q2⟩)⟩,hn,rfl,Yt _⟩
 |a::as,R,h,hw,hi,hn=>by
  obtain⟨i1,i2,i3,i4⟩:=rO ok (hw a Yk) hT Lx hi hn;obtain⟨j1,j2,j3,j4⟩:=Bm ok hT Lx (as:=as) (λb hb=>hw b (Yi _ hb)) i1 i2;refine⟨⟨j1.su,j1.nM,j1.blt,j1.mem,j1.MC,j1.wt,j1.snd,j1.good,λs t b hs ht hb e fm=>?_⟩,j2,?_,?_⟩
  ·rcases j1.sep s t b hs ht hb e fm with q|q|⟨⟨⟨q1,q3⟩,q4⟩,q2⟩;·exact .inl q
   ·exact .inr (.inl q)
   ·exact .inr (.inr ⟨⟨q1,λz=>by rcases aa2.mp z with z|z;exact q3 z;exact q4 z⟩,q2⟩)
  ·show(eJ m T as (eI m h T a)).wait.length+_=_+(eJ m T as (eI m h T a)).mem.length
   lia
  ·show _<=(eJ m T as (eI m h T a)).mem.length
   lia
theorem Bn(ok:cL w m)(hc:vh w m h)(hw:h.wait≠[]):vh w m (o8 m w h)/\(o8 m w h).wait.length+?P+1=h.wait.length+(o8 m w h).mem.length/\?P<=(o8 m w h).mem.length:=by
 obtain⟨hi,hn⟩:=hc;obtain⟨g,hg⟩:∃g,h.wait.getLast?=Δ g:=by cases q:h.wait.getLast? with|none=>rw[List.getLast?_eq_none_iff] at q;exact absurd q hw|some g=>exact⟨g,rfl⟩
 have eg:h.wait.getLast?.getD 0=g:=by rw[hg];rfl
 have ew:h.wait=h.wait.dropLast++[g]:=by rw[List.getLast?_eq_some_iff] at hg;obtain⟨ys,e⟩:=hg;rw[e];simp
 have gm:g∈h.wait:=by rw[ew];simp
 obtain⟨g1,g2⟩:=(hi.wt g).mp gm;obtain⟨T1,T2⟩:=hi.mem g g1;have nd:(h.wait.dropLast++[g]).Nodup:=by rw[<-ew];exact hi.MC
 rw[Ze] at nd;have Pp:g∉h.wait.dropLast:=λz=>nd.2.2 g z g ?E rfl;have Pq:∀k,k∈h.wait->k≠g->k∈h.wait.dropLast:=λk hk XD=>by
  rw[ew,abh,Zt] at hk;rcases hk with z|z;·exact z
  ·exact absurd z XD
 have hT:∀x y,x < ?A->y < ?A->x∈h.mem.getD g []->y∉h.mem.getD g []->¬gI w m x m y:=λx y hx hy z1 z2=>by refine hi.snd x y hx hy λe=>z2 ((T2 y).mpr ⟨hy,?_⟩);rw[<-e];exact((T2 x).mp z1).2
 have ip:kC w m (h.mem.getD g []) (λa=>a < w) (lO h g):=by
  refine⟨hi.su,by unfold lO;simp[hi.nM],hi.blt,hi.mem,nd.1,λk=>?_,hi.snd,hi.good,λs t b hs ht hb e fm=>?_⟩
  ·unfold lO;dsimp only;by_cases e:k=g;·subst e;refine⟨λz=>absurd z Pp,λ⟨_,z⟩=>?_⟩;rw[fg (by rw[hi.nM];exact g1)] at z;cases z
   ·rw[dG λz=>e z.symm];constructor;·intro z;exact(hi.wt k).mp (by rw[ew];exact Zj _ z)
    ·intro z;exact Pq k ((hi.wt k).mpr z) e
  ·have e':h.cQ s=h.cQ t:=e;have yy:h.cQ (bc m s b)≠h.cQ (bc m t b):=fm;have p1:=ok.bc hs hb;have p2:=ok.bc ht hb;have i1:bc m s b∈h.mem.getD g []↔h.cQ (bc m s b)=g:=by rw[T2];exact⟨λz=>z.2,λz=>⟨p1,z⟩⟩
   have i2:bc m t b∈h.mem.getD g []↔h.cQ (bc m t b)=g:=by rw[T2];exact⟨λz=>z.2,λz=>⟨p2,z⟩⟩
   show h.cQ (bc m s b)∈h.wait.dropLast\/h.cQ (bc m t b)∈h.wait.dropLast\/_;by_cases c1:h.cQ (bc m s b)=g;·refine .inr (.inr ⟨hb,λz=>?_⟩);rw[i1,i2] at z;exact yy (c1.trans (z.mp c1).symm)
   ·by_cases c2:h.cQ (bc m t b)=g;·refine .inr (.inr ⟨hb,λz=>?_⟩);rw[i1,i2] at z;exact c1 (z.mpr c2)
    ·rcases hi.sep s t b hs ht hb e' yy with q|q|⟨q,_⟩;·exact .inl (Pq _ q c1)
     ·exact .inr (.inl (Pq _ q c2))
     ·exact q.elim
 have wl:(lO h g).wait.length+1=h.wait.length:=by
  unfold lO;have:=congrArg acI ew;simp at this;dsimp only;rw[List.length_dropLast];have:=aaf gm
  lia
 obtain⟨j1,j2,j3,j4⟩:=Bm ok hT T1 (as:=Yh w) (λa ha=>by simpa using ha) ip (show wF (lO h g) from hn);unfold o8;rw[eg];refine⟨⟨⟨j1.su,j1.nM,j1.blt,j1.mem,j1.MC,j1.wt,j1.snd,j1.good,λs t b hs ht hb e fm=>?_⟩,j2⟩,?_,j4⟩
 ·rcases j1.sep s t b hs ht hb e fm with q|q|⟨⟨q1,q3⟩,q2⟩;·exact .inl q
  ·exact .inr (.inl q)
  ·exact absurd (by simpa using hb) q3
 ·have:(lO h g).mem.length=h.mem.length:=rfl
  lia
theorem IC{a b c d m j:Nat}(h:a+(m+2 - b)<=j+1)(h1:c+b+1=a+d)(h2:d<=m+2):c+(m+2 - d)<=j:=by lia
theorem vi(ok:cL w m):∀{n} {h},vh w m h->h.wait.length+(?A+2 - ?P)<=n->vh w m (settle m w n h)/\(settle m w n h).wait=[]
 |0,h,hc,hl=>by
  have:h.wait=[]:=by cases q:h.wait with|nil=>rfl|cons x r=>rw[q] at hl;simp at hl
  exact⟨hc,this⟩
 |n+1,h,hc,hl=>by
  unfold Y.settle;by_cases hw:h.wait=[];·rw[if_pos hw];exact⟨hc,hw⟩
  ·rw[if_neg hw];obtain⟨c1,c2,c3⟩:=Bn ok hc hw;have b1:=wF.bound c1.1 c1.2;exact vi ok c1 (IC hl c2 b1)
theorem Bo(ok:cL w m)(hc:vh w m h)(hw:h.wait=[])(hs:s < ?A)(ht:t < ?A):h.cQ s=h.cQ t↔gI w m s m t:=by
 constructor
 ·intro e u;induction u generalizing s t with
  |nil=>intro _;exact hc.1.good s t hs ht e|cons a u ih=>
   intro hu;have ha:=hu.head;refine ih (ok.bc hs ha) (ok.bc ht ha) ?_ hu.tail;apply YT;intro fm;rcases hc.1.sep s t a hs ht ha e fm with q|q|⟨q,_⟩;·rw[hw] at q;cases q
   ·rw[hw] at q;cases q
   ·exact q
 ·intro XE;apply YT;intro fm;exact hc.1.snd s t hs ht fm XE
def jD(m:cq):n6:=⟨m.map (·.1),[(Yh ?A).filter λs=>decide (gd m s=0),(Yh ?A).filter λs=>decide (gd m s=1)],[0,1],[Λ,Λ]⟩
theorem dt(hs:s < ?A):(jD m).cQ s=gd m s:=by show(m.map (·.1)).getD s 0=_;unfold gd row;rw[Ym,Ys,Yn hs,Ym,Yn hs];rfl
theorem vk(ok:cL w m):vh w m (jD m):=by
 have g01:∀s,s < ?A->gd m s=0\/gd m s=1:=λs hs=>by
  have:=ok.good _ (aY hs);unfold gd
  lia
 refine⟨⟨by simp[jD],rfl,λs hs=>?_,λg hg=>?_,by simp[jD],λg=>?_,λs t hs ht hb=>?_,λs t hs ht hb=>?_,λs t a hs ht ha e fm=>?_⟩,λg h1 h2=>?_⟩;·rw[dt hs];show _ < 2;rcases g01 s hs with q|q<;>lia
 ·have Ky:g=0\/g=1:=by
   have:g < 2:=hg
   lia
  rcases Ky with e|e<;>subst e
  ·refine⟨(aas).filter _,λs=>?_⟩;show s∈(Yh ?A).filter _↔_;rw[Zg,Zp,qqq];constructor;·rintro⟨p,q⟩;exact⟨p,by rw[dt p];exact q⟩
   ·rintro⟨p,q⟩;rw[dt p] at q;exact⟨p,q⟩
  ·refine⟨(aas).filter _,λs=>?_⟩;show s∈(Yh ?A).filter _↔_;rw[Zg,Zp,qqq];constructor;·rintro⟨p,q⟩;exact⟨p,by rw[dt p];exact q⟩
   ·rintro⟨p,q⟩;rw[dt p] at q;exact⟨p,q⟩
 ·show g∈[0,1]↔g < 2/\[Λ,Λ].getD g Ξ=Λ;constructor;·intro z;simp at z;rcases z with z|z<;>subst z<;>exact⟨by lia,rfl⟩
  ·rintro⟨p,_⟩;simp;lia
 ·rw[dt hs,dt ht] at hb;exact λsm=>hb sm.good
 ·rw[dt hs,dt ht] at hb;exact hb
 ·refine .inl ?_;rw[dt (ok.bc hs ha)];show _∈[0,1];rcases g01 _ (ok.bc hs ha) with q|q<;>rw[q]<;>simp
 ·have:g < 2:=h2
  lia
end
section
variable{w:Nat}{m:cq}{h:n6}
theorem Ly(ok:cL w m)(hc:vh w m h)(hw:h.wait≠[]):∃g,h.wait=h.wait.dropLast++[g]/\h.wait.getLast?.getD 0=g/\g < ?P/\(h.mem.getD g []).Nodup/\(∀t∈h.mem.getD g [],t < ?A)/\
  (∀x y,x < ?A->y < ?A->x∈h.mem.getD g []->y∉h.mem.getD g []->¬gI w m x m y)/\kC w m (h.mem.getD g []) (λa=>a < w) (lO h g)/\wF (lO h g):=by
 obtain⟨hi,hn⟩:=hc;obtain⟨g,hg⟩:∃g,h.wait.getLast?=Δ g:=by cases q:h.wait.getLast? with|none=>rw[List.getLast?_eq_none_iff] at q;exact absurd q hw|some g=>exact⟨g,rfl⟩
 have eg:h.wait.getLast?.getD 0=g:=by rw[hg];rfl
 have ew:h.wait=h.wait.dropLast++[g]:=by rw[List.getLast?_eq_some_iff] at hg;obtain⟨ys,e⟩:=hg;rw[e];simp
 have gm:g∈h.wait:=by rw[ew];simp
 obtain⟨g1,g2⟩:=(hi.wt g).mp gm;obtain⟨T1,T2⟩:=hi.mem g g1;have nd:(h.wait.dropLast++[g]).Nodup:=by rw[<-ew];exact hi.MC
 rw[Ze] at nd;have Pp:g∉h.wait.dropLast:=λz=>nd.2.2 g z g ?E rfl;have Pq:∀k,k∈h.wait->k≠g->k∈h.wait.dropLast:=λk hk XD=>by
  rw[ew,abh,Zt] at hk;rcases hk with z|z;·exact z
  ·exact absurd z XD
 have hT:∀x y,x < ?A->y < ?A->x∈h.mem.getD g []->y∉h.mem.getD g []->¬gI w m x m y:=λx y hx hy z1 z2=>by refine hi.snd x y hx hy λe=>z2 ((T2 y).mpr ⟨hy,?_⟩);rw[<-e];exact((T2 x).mp z1).2
 have ip:kC w m (h.mem.getD g []) (λa=>a < w) (lO h g):=by
  refine⟨hi.su,by unfold lO;simp[hi.nM],hi.blt,hi.mem,nd.1,λk=>?_,hi.snd,hi.good,λs t b hs ht hb e fm=>?_⟩
  ·unfold lO;dsimp only;by_cases e:k=g;·subst e;refine⟨λz=>absurd z Pp,λ⟨_,z⟩=>?_⟩;rw[fg (by rw[hi.nM];exact g1)] at z;cases z
   ·rw[dG λz=>e z.symm];constructor;·intro z;exact(hi.wt k).mp (by rw[ew];exact Zj _ z)
    ·intro z;exact Pq k ((hi.wt k).mpr z) e
  ·have e':h.cQ s=h.cQ t:=e;have yy:h.cQ (bc m s b)≠h.cQ (bc m t b):=fm;have p1:=ok.bc hs hb;have p2:=ok.bc ht hb;have i1:bc m s b∈h.mem.getD g []↔h.cQ (bc m s b)=g:=by rw[T2];exact⟨λz=>z.2,λz=>⟨p1,z⟩⟩
   have i2:bc m t b∈h.mem.getD g []↔h.cQ (bc m t b)=g:=by rw[T2];exact⟨λz=>z.2,λz=>⟨p2,z⟩⟩
   show h.cQ (bc m s b)∈h.wait.dropLast\/h.cQ (bc m t b)∈h.wait.dropLast\/_;by_cases c1:h.cQ (bc m s b)=g;·refine .inr (.inr ⟨hb,λz=>?_⟩);rw[i1,i2] at z;exact yy (c1.trans (z.mp c1).symm)
   ·by_cases c2:h.cQ (bc m t b)=g;·refine .inr (.inr ⟨hb,λz=>?_⟩);rw[i1,i2] at z;exact c1 (z.mpr c2)
    ·rcases hi.sep s t b hs ht hb e' yy with q|q|⟨q,_⟩;·exact .inl (Pq _ q c1)
     ·exact .inr (.inl (Pq _ q c2))
     ·exact q.elim
 exact⟨g,ew,eg,g1,T1,λt ht=>((T2 t).mp ht).1,hT,ip,hn⟩
end
section
variable{α:Type}[DecidableEq α]
noncomputable def bR(ps ss:List α):List α:=ss.foldl (λps s=>if s∈ps then ps else ps++[s]) ps
noncomputable def zP(step:α->List α):Nat->List α->Nat->List α
 |0,ps,_=>ps|n+1,ps,k=>match ps[k]? with|none=>ps|some p=>zP step n ?Zb (k+1)
def Bp(step:α->List α)(good:α->Nat)(F:List α)(p:α):Nat×List Nat:=(good p,(step p).map λq=>F.idxOf q)
def gK(step:α->List α)(good:α->Nat)(F:List α):cq:=F.map (Bp step good F)
noncomputable def C7(step:α->List α)(p:α)(u:List Nat):α:=u.foldl (λp a=>((step p)[a]?).getD p) p
theorem jT ps(s:α)ss:bR ps (s::ss)=bR (if s∈ps then ps else ps++[s]) ss:=rfl
theorem gL:∀(ss ps:List α),∃t,bR ps ss=ps++t
 |[],ps=>⟨[],by simp[bR]⟩|s::ss,ps=>by
  rw[jT];split;·exact gL ss ps
  ·obtain⟨t,e⟩:=gL ss (ps++[s]);exact⟨s::t,by rw[e];simp⟩
theorem dH:∀{ss ps} {x:α},x∈bR ps ss↔x∈ps\/x∈ss
 |[],ps,x=>by simp[bR]|s::ss,ps,x=>by
  rw[jT];split
  ·rename_i h;rw[dH,aa2];constructor
   ·rintro(z|z);·exact .inl z
    ·exact .inr (.inr z)
   ·rintro(z|z|z);·exact .inl z
    ·exact .inl (z▸h)
    ·exact .inr z
  ·rw[dH,abh,Zt,aa2,or_assoc]
theorem tD:∀{ss ps:List α},ps.Nodup->(bR ps ss).Nodup
 |[],ps,h=>h|s::ss,ps,h=>by
  rw[jT];split;·exact tD h
  ·rename_i hs;exact tD (by rw[Ze];exact⟨h,by simp,λa ha b hb=>by simp at hb;subst hb;exact λz=>hs (z▸ha)⟩)
theorem tF(step:α->List α):∀(n) (ps) (k),∃t,zP step n ps k=ps++t
 |0,ps,k=>⟨[],by simp[zP]⟩|n+1,ps,k=>by
  rw[zP];split;·exact⟨[],by simp⟩
  ·rename_i p hp;obtain⟨t,e⟩:=tF step n ?Zb (k+1);obtain⟨t',e'⟩:=gL (step p) ps;exact⟨t'++t,by rw[e,e'];simp⟩
theorem zq{ps t:List α}(h:q∈ps):(ps++t).idxOf q=ps.idxOf q:=by rw[List.idxOf_append,if_pos h]
theorem zr{l:List α}(h:l.Nodup):∀{i j} (hi) (hj:j < l.length),l[i]=l[j]->i=j:=by
 induction l with
 |nil=>intro i j hi;simp at hi|cons x l ih=>
  rw[ZT] at h;intro i j hi hj e;cases i with
  |zero=>cases j with|zero=>rfl|succ j=>simp at e;exact absurd (e▸Zl _) h.1
  |succ i=>cases j with|zero=>simp at e;exact absurd (e▸Zl _) h.1|succ j=>simp at e;rw[ih h.2 _ _ e]
theorem Ei{q:α}(h:q∉ps):(ps++[q]++t).idxOf q=ps.length:=by rw[zq ?E,List.idxOf_append,if_neg h];simp
structure vm(step:α->List α)(S ps:List α)(k:Nat):Prop where
 nd:ps.Nodup
 sub:∀p∈ps,p∈S
 le:k<=?S
 cl:∀(i:Nat) (p:α),i < k->ps[i]?=Δ p->∀q∈step p,q∈ps
variable{step:α->List α}{S:List α}
theorem vm.len(h:vm step S ps k):?S<=S.length:=fB h.nd h.sub
theorem vm.next(hS:∀p∈S,∀q∈step p,q∈S)(h:vm step S ps k)(hp:ps[k]?=Δ p):vm step S ?Zb (k+1):=by
 have hk:=(qqz hp).1;obtain⟨t,et⟩:=gL (step p) ps;refine⟨tD h.nd,λq hq=>?_,by rw[et,YF];lia,λi p' hi EY q hq=>?_⟩
 ·rcases dH.mp hq with z|z;·exact h.sub q z
  ·exact hS p (h.sub p (Yz hp)) q z
 ·have xf:i < ps.length:=by lia
  have e:ps[i]?=Δ p':=by rw[et,Yq xf] at EY;exact EY
  by_cases wc:i < k;·exact dH.mpr (.inl (h.cl i p' wc e q hq))
  ·have:i=k:=by lia
   subst this;rw[hp] at e;cases e;exact dH.mpr (.inr hq)
theorem Ej(hS:∀p∈S,∀q∈step p,q∈S):∀{n} {ps} {k},vm step S ps k->S.length+1<=n+k->vm step S (zP step n ps k) (zP step n ps k).length
 |0,ps,k,h,hn=>by
  have h1:=h.len;have h2:=h.le
  lia
 |n+1,ps,k,h,hn=>by
  rw[zP];split
  ·rename_i hp;have h2:=List.getElem?_eq_none_iff.mp hp;have h1:=h.le;have:k=ps.length:=by lia
   subst this;exact h
  ·rename_i p hp;exact Ej hS (h.next hS hp) ?D
theorem nN F:∀(ss ps t:List α),F=bR ps ss++t->hZ (ss.map λq=>F.idxOf q) ?S=Δ (bR ps ss).length
 |[],ps,t,_=>by simp[hZ,bR]|s::ss,ps,t,e=>by
  rw[jT] at e ⊢;rw[Yx,hZ];by_cases h:s∈ps
  ·rw[if_pos h] at e ⊢;obtain⟨t',e'⟩:=gL ss ps;have:F.idxOf s < ps.length:=by rw[e,e',Zf,zq h];exact Z8 h
   rw[if_pos this];exact nN F ss ps t e
  ·rw[if_neg h] at e ⊢;obtain⟨t',e'⟩:=gL ss (ps++[s]);have:F.idxOf s=ps.length:=by rw[e,e',Zf,Ei h]
   rw[this,if_neg ?D,if_pos rfl];have:=nN F ss (ps++[s]) t e;simpa using this
theorem Bq(hS:∀p∈S,∀q∈step p,q∈S):∀{n} {ps} {k},vm step S ps k->S.length+1<=n+k->zP step n ps k=F->gJ ((F.drop k).map (Bp step good F)) k ?S=Δ F.length
 |0,ps,k,h,hn,e=>by
  have h1:=h.len;have h2:=h.le
  lia
 |n+1,ps,k,h,hn,e=>by
  rw[zP] at e;split at e;·rename_i hp;have h2:=List.getElem?_eq_none_iff.mp hp;have h1:=h.le;subst e;rw[ab2 h2];simp[gJ]
  ·rename_i p hp;have hk:=(qqz hp).1;obtain⟨t,et⟩:=tF step n ?Zb (k+1);obtain⟨t',et'⟩:=gL (step p) ps;have eF:F=bR ps (step p)++t:=by rw[<-e,et]
   have ek:F[k]?=Δ p:=by rw[eF,et',Zf,Yq hk];exact hp
   have hkF:=(qqz ek);have ed:F.drop k=p::F.drop (k+1):=by rw[Zi hkF.1,hkF.2]
   rw[ed,Yx,gJ,if_pos hk];have:hZ (Bp step good F p).2 ?S=Δ (bR ps (step p)).length:=nN F (step p) ps t eF;rw[this];exact Bq hS (h.next hS hp) ?D e
def places(step:α->List α)(N:Nat)(start:α):List α:=zP step N [start] 0
structure Places(w:Nat)(step:α->List α)(good:α->Nat)(S:List α)(start:α)(F:List α):Prop where
 nd:F.Nodup
 sub:∀p∈F,p∈S
 cl:∀p∈F,∀q∈step p,q∈F
 zero:F[0]?=Δ start
 ok:cL w (gK step good F)
 ord:gJ (gK step good F) 0 1=Δ (gK step good F).length
theorem xY(hs:start∈S)(hS:∀p∈S,∀q∈step p,q∈S)(hl:∀p∈S,(step p).length=w)(hg:∀p∈S,good p<=1)(hN:S.length+1<=N):Places w step good S start (places step N start):=by
 have b0:vm step S [start] 0:=⟨by simp,λp hp=>by simp at hp;rw[hp];exact hs,by simp,λi p hi=>by lia⟩;have b:=Ej hS b0 (n:=N) ?D;have sc:=Bq (good:=good) hS b0 (n:=N) ?D (F:=places step N start) rfl;obtain⟨t,et⟩:=tF step N [start] 0;have yE:∀p∈places step N start,∀q∈step p,q∈places step N start:=λp hp q hq=>by obtain⟨i,hi⟩:=acn hp;exact b.cl i p (qqz hi).1 hi q hq
 refine⟨b.nd,b.sub,yE,by show(zP step N [start] 0)[0]?=_;rw[et];rfl,⟨?_,λs t8=>?_,λs t8=>?_,λs t8 t ht=>?_⟩,?_⟩;·show 0 < (acm _ (zP step N [start] 0)).length;rw[et];simp
 ·obtain⟨p,hp,rfl⟩:=aad.mp t8;exact hg p (b.sub p hp)
 ·obtain⟨p,hp,rfl⟩:=aad.mp t8;show(acm _ _).length=w;rw[Yr];exact hl p (b.sub p hp)
 ·obtain⟨p,hp,rfl⟩:=aad.mp t8;obtain⟨q,hq,rfl⟩:=aad.mp (show t∈(step p).map λq=>(places step N start).idxOf q from ht);show _ < (acm _ _).length;rw[Yr];exact Z8 (yE p hp q hq)
 ·rw[abt] at sc;show gJ ((places step N start).map _) 0 1=Δ ((places step N start).map _).length;rw[Yr];exact sc
theorem Ek(h:F[i]?=Δ p):row (gK step good F) i=Bp step good F p:=by unfold row gK;rw[Ym,Ys,h];rfl
theorem zu(h:Places w step good S start F)(hl:∀p∈S,(step p).length=w):∀{u} {i} {p},F[i]?=Δ p->Wd w u->gd (gK step good F) (walk (gK step good F) i u)=good (C7 step p u)
 |[],i,p,hp,_=>by show(row _ i).1=good p;rw[Ek hp];rfl|a::u,i,p,hp,hu=>by
  have ha:=hu.head;have hpF:=Yz hp;have hlp:=hl p (h.sub p hpF);have hq:(step p)[a]?=Δ ((step p)[a]' ?D):=Yn ?D;have hqF:=h.cl p hpF _ (Zl (by lia:a < (step p).length));have es:bc (gK step good F) i a=F.idxOf ((step p)[a]' ?D):=by unfold bc;rw[Ek hp];show((step p).map _).getD a 0=_;rw[Ym,Ys,hq];rfl
  show gd _ (walk _ (bc _ i a) u)=good (C7 step (((step p)[a]?).getD p) u);rw[es,hq];exact zu h hl (by rw[Yn (Z8 hqF),List.getElem_idxOf];rfl) hu.tail
end
section
variable{w:Nat}{m:cq}
def Td(grp:List Nat)(s:Nat):Nat:=grp.idxOf (grp.getD s 0)
noncomputable def jh(w:Nat)(m:cq):n6:=settle m w (?A+2) (jD m)
theorem xZ(ok:cL w m):vh w m (jh w m)/\(jh w m).wait=[]:=vi ok (vk ok) (by simp[jD];have:=ok.ne;lia)
noncomputable def fst(w:Nat)(m:cq)(s:Nat):Nat:=Td (jh w m).grp s
theorem gM(ok:cL w m)(hs:s < ?A):fst w m s < ?A/\gI w m (fst w m s) m s/\∀t,t < ?A->gI w m s m t->fst w m t=fst w m s:=by
 obtain⟨c,hw⟩:=xZ ok;have gl:=c.1.su;have e:(jh w m).grp.getD s 0=(jh w m).grp[s]' ?D:=by rw[Ym,Yn ?D];rfl
 have mem:(jh w m).grp.getD s 0∈(jh w m).grp:=by rw[e];exact Zl _
 have lt:fst w m s < m.length:=by
  have:=Z8 mem;show List.idxOf _ _ < _
  lia
 have at_:(jh w m).cQ (fst w m s)=(jh w m).cQ s:=by show(jh w m).grp.getD (fst w m s) 0=(jh w m).grp.getD s 0;have h1:=Z8 mem;rw[Ym,Yn (show fst w m s < _ from h1)];show(jh w m).grp[(jh w m).grp.idxOf ((jh w m).grp.getD s 0)]=_;exact List.getElem_idxOf h1
 refine⟨lt,(Bo ok c hw lt hs).mp at_,λt ht q=>?_⟩;have:=(Bo ok c hw hs ht).mpr q;show(jh w m).grp.idxOf ((jh w m).cQ t)=(jh w m).grp.idxOf ((jh w m).cQ s);rw[this]
noncomputable def eh(w:Nat)(m:cq)(s:Nat):List Nat:=(row m s).2.map (fst w m)
noncomputable def eK(w:Nat)(m:cq):List Nat:=places (eh w m) 1000000 (fst w m 0)
theorem ya w m:∃M,M=gK (eh w m) (gd m) (eK w m):=⟨_,rfl⟩
noncomputable def ba(w:Nat)(m:cq):cq:=ac2 (ya w m)
theorem gk w m:ba w m=gK (eh w m) (gd m) (eK w m):=ab8 (ya w m)
theorem Br(ok:cL w m):∀p∈Yh ?A,∀q∈eh w m p,q∈Yh m.length:=λp hp q hq=>by rw[Zp] at hp ⊢;obtain⟨t,ht,rfl⟩:=aad.mp hq;exact(gM ok (ok.lt _ (aY hp) t ht)).1
theorem qG(ok:cL w m):∀p∈Yh ?A,(eh w m p).length=w:=λp hp=>by rw[Zp] at hp;unfold eh;rw[Yr];exact ok.len _ (aY hp)
theorem nO(ok:cL w m)(hm:?A < 1000000):Places w (eh w m) (gd m) (Yh ?A) (fst w m 0) (eK w m):=
 xY (Zp.mpr (gM ok ok.ne).1) (Br ok) (qG ok) (λp hp=>ok.good _ (aY (Zp.mp hp))) (by rw[YN];lia)
theorem Te(ok:cL w m):∀{u} {s p},s < ?A->p < ?A->gI w m p m s->Wd w u->gd m (C7 (eh w m) p u)=gd m (walk m s u)
 |[],s,p,hs,hp,q,_=>q.good|a::u,s,p,hs,hp,q,hu=>by
  have ha:=hu.head;have hl:=ok.len _ (aY hp);have e:(eh w m p)[a]?=Δ (fst w m (bc m p a)):=by unfold eh bc;rw[Ys,Ym,Yn ?D];rfl
  show gd m (C7 _ (((eh w m p)[a]?).getD p) u)=gd m (walk m (bc m s a) u);rw[e];obtain⟨f1,f2,_⟩:=gM ok (ok.bc hp ha);exact Te ok (ok.bc hs ha) f1 (f2.trans (q.step ha)) hu.tail
theorem nP(ok:cL w m)(hm:?A < 1000000)(h:(eK w m)[i]?=Δ p):gI w (ba w m) i m p:=λu hu=>by have P:=nO ok hm;have hp:p < m.length:=Zp.mp (P.sub p (Yz h));rw[gk,show gd (gK (eh w m) (gd m) (eK w m)) (walk (gK (eh w m) (gd m) (eK w m)) i u)=gd m (C7 (eh w m) p u) from zu P (qG ok) h hu];exact Te ok hp hp gI.refl hu
theorem nQ(ok:cL w m)(hm:?A < 1000000):(ba w m).length<=m.length:=by have P:=nO ok hm;rw[gk];show(acm _ _).length<=_;rw[Yr];have:=fB P.nd P.sub;rw[YN] at this;exact this
theorem fD(ok:cL w m)(hm:?A < 1000000):jQ w (ba w m)/\gI w (ba w m) 0 m 0:=by
 have P:=nO ok hm;have rep:∀p∈eK w m,fst w m p=p:=by
  have all:∀(n:Nat) (ps:List Nat) (k:Nat),(∀p∈ps,p < ?A/\fst w m p=p)->∀p∈zP (eh w m) n ps k,p < ?A/\fst w m p=p:=by
   intro n;induction n with
   |zero=>intro ps k h;exact h|succ n ih=>
    intro ps k h;rw[zP];split;·exact h
    ·rename_i p hp;refine ih _ _ λq hq=>?_;rcases dH.mp hq with z|z;·exact h q z
     ·obtain⟨t,ht,rfl⟩:=aad.mp z;have EY:=(h p (Yz hp)).1;have xE:=ok.lt _ (aY EY) t ht;obtain⟨f1,f2,f3⟩:=gM ok xE;exact⟨f1,f3 _ f1 f2.symm⟩
  intro p hp;obtain⟨f1,f2,f3⟩:=gM ok ok.ne;exact(all 1000000 [fst w m 0] 0 (λq hq=>by simp at hq;rw[hq];exact⟨f1,f3 _ f1 f2.symm⟩) p hp).2
 have XF:(ba w m).length=(eK w m).length:=by rw[gk];exact Yr ..
 refine⟨⟨by rw[gk];exact P.ok,λs t hs ht q=>?_,by rw[gk];exact P.ord⟩,?_⟩
 ·have t8:s < (eK w m).length:=by lia
  have xE:t < (eK w m).length:=by lia
  have es:=Yn t8;have et:=Yn xE;have q1:gI w m (eK w m)[s] m (eK w m)[t]:=((nP ok hm es).symm.trans q).trans (nP ok hm et);have ps:=Zp.mp (P.sub _ (Zl t8));have pt:=Zp.mp (P.sub _ (Zl xE));have:=(gM ok ps).2.2 _ pt q1;rw[rep _ (Zl t8),rep _ (Zl xE)] at this;exact zr P.nd t8 xE this.symm
 ·obtain⟨f1,f2,f3⟩:=gM ok ok.ne;exact(nP ok hm P.zero).trans f2
theorem FC(ok:cL w m)(XG:cL w m')(hm:?A < 1000000)(UI:m'.length < 1000000)(h:gI w m 0 m' 0):ba w m=ba w m':=by obtain⟨l1,s1⟩:=fD ok hm;obtain⟨l2,s2⟩:=fD XG UI;exact l1.one l2 ((s1.trans h).trans s2.symm)
end
end Y
namespace Y
open PySem
def encM(ss:List Nat):O:=.dK (ss.map λ(s:Nat)=>(.inl (s:Int),P.d ?QV))
def encL(ss:List Nat):O:=.lst (ss.map λs=>P.d (nD s))
def jU(bs:List Bool):O:=.lst (bs.map λb=>P.d (.bl b))
noncomputable def so(b:Nat):List (Str×P):=[("sources",.obj b),("group_of",.obj (b+1)),("members",.obj (b+4)),("waiting",.obj (b+5)),("waits",.obj (b+6))]
def iW(b:Nat):O:=.ins "Groups" (so b)
def Mad(b a:Nat):Prop:=a=b+2\/a=b+3\/b+7<=a
def Ge(b:Nat)(mb:List Nat)(l:Nat):Prop:=b+7<=l/\l∉mb
structure HS(m:cq)(w b:Nat)(mb:List Nat)(st:aK)(h:n6):Prop where
 len:b+7<=?O
 b0:0 < b
 self:st[0]?=Δ (iW b)
 src:∃outer:List Nat,st[b]?=Δ (.lst (outer.map P.obj))/\outer.length=w/\∀a,a < w->∃(o:Nat) (rows:List Nat),outer[a]?=Δ o/\0 < o/\o < b/\st[o]?=Δ (.lst (rows.map P.obj))/\∀t,t < ?A->∃l,rows[t]?=Δ l/\0 < l/\l < b/\st[l]?=Δ (encL (dN m a t))
 grp:st[b+1]?=Δ (encL h.grp)
 MD:st[b+4]?=Δ (.lst (mb.map P.obj))
 sv:mb.length=?P
 mem:∀g,g < ?P->∃a,mb[g]?=Δ a/\Mad b a/\a < ?O/\st[a]?=Δ (encM (h.mem.getD g []))
 Tf:mb.Nodup
 Qo:st[b+5]?=Δ (encL h.wait)
 jd:st[b+6]?=Δ (jU h.jd)
section
variable{m:cq}{w b:Nat}{mb:List Nat}{st aJ:aK}{h:n6}
theorem HS.mad(hs:HS m w b mb st h)(ha:a∈mb):Mad b a/\a < st.length:=by obtain⟨g,hg⟩:=acn ha;have hl:=(qqz hg).1;obtain⟨a',e,q,q2,_⟩:=hs.mem g (by rw[<-hs.sv];exact hl);rw[hg] at e;cases e;exact⟨q,q2⟩
theorem HS.keep(hs:HS m w b mb st h)(hl:?O<=aJ.length)(k:∀i,i < ?O->¬Ge b mb i->aJ[i]?=st[i]?):HS m w b mb aJ h:=by
 have kk:∀i,i < b+7->aJ[i]?=st[i]?:=λi hi=>k i (by have:=hs.len;lia) (λz=>by have:=z.1;lia);refine⟨by have:=hs.len;lia,hs.b0,by rw[kk 0 ?D];exact hs.self,?_,by rw[kk _ ?D];exact hs.grp,by rw[kk _ ?D];exact hs.MD,hs.sv,λg hg=>?_,hs.Tf,by rw[kk _ ?D];exact hs.Qo,by rw[kk _ ?D];exact hs.jd⟩;·obtain⟨outer,e1,e2,e3⟩:=hs.src;refine⟨outer,by rw[kk _ ?D];exact e1,e2,λa ha=>?_⟩;obtain⟨o,rows,f1,f2,f3,f4,f5⟩:=e3 a ha;refine⟨o,rows,f1,f2,f3,by rw[kk _ ?D];exact f4,λt ht=>?_⟩;obtain⟨l,g1,g2,g3,g4⟩:=f5 t ht;exact⟨l,g1,g2,g3,by rw[kk _ ?D];exact g4⟩
 ·obtain⟨a,e1,e2,e3,e4⟩:=hs.mem g hg;exact⟨a,e1,e2,by lia,by rw[k a e3 (λz=>z.2 (Yz e1))];exact e4⟩
theorem HS.put(hs:HS m w b mb st h)(hl:Ge b mb l)o:HS m w b mb (st.set l o) h:=hs.keep ?E λi hi ho=>Yp (λ(z:l=i)=>ho (z▸hl))
theorem Bs(hs:st[0]?=Δ (iW b)):qf "Groups" st ?V=Δ (0,so b):=by unfold qf;simp[hs,iW]
theorem di(hi:(r[i]?).join=Δ ?V)(hs:st[0]?=Δ (iW b))(hf:(so b).lookup f=Δ x):ae C (.attr "Groups" f i) r st=.ok x st:=by rw[Eb,hi,au,aa,Bs hs,Zk,hf,au]
theorem o9(hi:(r[i]?).join=Δ ?V)(hs:st[0]?=Δ (iW b))(hf:(so b).lookup f=Θ)(he:aC C es r st=.ok ps st1)(hc:C k (.obj 0::ps) st1=res):ae C (.qd k "Groups" f i es) r st=res:=by rw[La,hi,au,aa,Bs hs,Zk,hf];simp[he,hc]
theorem HS.Th(hs:HS m w b mb st h)g:HS m w b mb ((st.set (b+5) ?Zh).set (b+6) (jU (h.jd.set g Λ))) ⟨h.grp,h.mem,h.wait++[g],h.jd.set g Λ⟩:=by
 have hl:=hs.len;have g0:∀i,i≠b+5->i≠b+6->((st.set (b+5) ?Zh).set (b+6) (jU (h.jd.set g Λ)))[i]?=st[i]?:=λi h1 h2=>by rw[Yp (Zq h2),Yp (Zq h1)]
 refine⟨by simpa using hl,hs.b0,by rw[g0 0 ?D ?D];exact hs.self,?_,by rw[g0 _ ?D ?D];exact hs.grp,by rw[g0 _ ?D ?D];exact hs.MD,hs.sv,λk hk=>?_,hs.Tf,?_,?_⟩;·obtain⟨outer,e1,e2,e3⟩:=hs.src;refine⟨outer,by rw[g0 _ ?D ?D];exact e1,e2,λa ha=>?_⟩;obtain⟨o,rows,f1,f2,f3,f4,f5⟩:=e3 a ha;refine⟨o,rows,f1,f2,f3,by rw[g0 _ ?D ?D];exact f4,λt ht=>?_⟩;obtain⟨l,q1,q2,q3,q4⟩:=f5 t ht;exact⟨l,q1,q2,q3,by rw[g0 _ ?D ?D];exact q4⟩
 ·obtain⟨a,e1,e2,e3,e4⟩:=hs.mem k hk;refine⟨a,e1,e2,by simpa using e3,?_⟩;rw[g0 _ (by rcases e2 with z|z|z<;>lia) (by rcases e2 with z|z|z<;>lia)];exact e4
 ·rw[Yp ?D,YL ?D]
 ·rw[YL (by simp;lia)]
end
theorem ID{ss:List Nat}(h:s∈ss):fu (ss.map λ(s:Nat)=>?Qr) (.inl (s:Int))=Δ (.d ?QV):=by
 unfold fu;induction ss with
 |nil=>cases h|cons x ss ih=>
  rw[Yx,ZJ];by_cases e:x=s;·subst e;simp
  ·have:decide ((.inl (x:Int):Sum Int Str)=.inl (s:Int))=Ξ:=by rw[decide_eq_false_iff_not];intro z;injection z with z;exact e ?D
   simp only[this];exact ih ((aa2.mp h).resolve_left λz=>e z.symm)
theorem FD(ss:List Nat)(s:Nat):xk (ss.map λ(s:Nat)=>?Qr) (.inl (s:Int))=(ss.filter λx=>decide (x≠s)).map λ(s:Nat)=>?Qr:=by
 unfold xk;induction ss with
 |nil=>rfl|cons x ss ih=>
  rw[Yx];by_cases e:x=s;·subst e;rw[Y4 ?E,Y4 ?E];exact ih
  ·rw[YY (by simp;lia),YY (by simp;exact e),Yx,ih]
theorem tG{κ:Type}[DecidableEq κ]{kvs:List (κ×P)}{k:κ}(h:∀kv∈kvs,kv.1≠k):mI kvs k v=kvs++[(k,v)]:=by
 unfold mI;have:?QL=Ξ:=by rw[acJ];intro kv rB;simpa using h kv rB
 rw[this];simp
theorem IE(h:st[a]?=Δ (encM ss)):bF st (.obj a)=Δ (encM ss):=by unfold bF Fe;simp[h,encM,jI]
theorem IF(h:st[a]?=Δ (encM ss))(hs:s∈ss):Ht (.obj a) (.d (nD s)) st=Δ (.d ?QV,st.set a (encM (ss.filter λx=>decide (x≠s)))):=by have hk:keyOf (.d (nD s))=Δ (.inl (s:Int)):=rfl;unfold Ht;simp only[h,encM,hk,Zk,ID hs,FD,Y5]
theorem vn(h:st[a]?=Δ (encM ss))(hs:s∉ss)(hl:ss.length < aq):nv (.obj a) (.d (nD s)) (.d ?QV) st=Δ (st.set a (encM (ss++[s]))):=by
 have hk:keyOf (.d (nD s))=Δ (.inl (s:Int)):=rfl;have hp:mI (ss.map λ(s:Nat)=>?Qr) (.inl (s:Int)) (P.d ?QV)=(ss++[s]).map λ(s:Nat)=>?Qr:=by
  rw[tG,Y1];·rfl
  ·intro kv rB;obtain⟨x,hx,rfl⟩:=aad.mp rB;intro z;injection z with z;exact hs ((show x=s by lia)▸hx)
 unfold nv;simp only[h,Zk,encM,Ay,DK,Yr,hl,if_true,hk,Y5,hp]
theorem Bt{l:List Nat}{ss:List Nat}(h:ss[i]?=Δ s):((l.filter λx=>decide (x∉ss.take i)).filter λx=>decide (x≠s))=l.filter λx=>decide (x∉ss.take (i+1)):=by
 rw[List.filter_filter];congr 1;funext x;have e:ss.take (i+1)=ss.take i++[s]:=by rw[ZA,h];rfl
 rw[e];by_cases h1:x=s<;>by_cases h2:x∈ss.take i<;>simp[abh,h1,h2]
theorem Bu{fresh:Nat}{ss g:List Nat}(h:ss[i]?=Δ s):(putAll fresh (ss.take i) g).set s fresh=putAll fresh (ss.take (i+1)) g:=by
 have e:ss.take (i+1)=ss.take i++[s]:=by rw[ZA,h];rfl
 rw[e];unfold putAll;rw[aag];rfl
theorem Bv{ss:List Nat}(hn:ss.Nodup)(h:ss[i]?=Δ s):s∉ss.take i:=by
 obtain⟨hi,e⟩:=qqz h;intro hm;obtain⟨j,hj,e2⟩:=List.getElem_of_mem hm;rw[List.getElem_take] at e2;have Uw:j < i:=by simp at hj;lia
 have:=zr hn (i:=j) (j:=i) ?D hi (e2.trans e.symm)
 lia
abbrev ME:=Nat×List Nat×Nat
noncomputable def vX(dl:List ME):List (Sum Int Str×P):=dl.map λt=>(.inl (t.1:Int),P.obj t.2.2)
structure GS(grp:List Nat)(D0:Nat)(st s:aK)(done:List Nat)(dl:List ME):Prop where
 proj:dl.map (λt=>(t.1,t.2.1))=cI grp done
 rP:s[D0]?=Δ (.dK (vX dl))
 at_:∀t∈dl,D0 < t.2.2/\t.2.2 < s.length/\s[t.2.2]?=Δ (encL t.2.1)
 nd:(dl.map λt=>t.2.2).Nodup
 pre:∀i,i < D0->s[i]?=st[i]?
 len:D0 < s.length
theorem yb:∀{dl:List ME},g∈dl.map (·.1)->∃l1 ss a l2,dl=l1++(g,ss,a)::l2/\∀t∈l1,t.1≠g
 |[],h=>by cases h|(k,ss,a)::dl,h=>by
  by_cases e:k=g;·subst e;exact⟨[],ss,a,dl,rfl,λ_ z=>nomatch z⟩
  ·rw[Yx] at h;obtain⟨l1,Li,a',l2,e2,h2⟩:=yb ((aa2.mp h).resolve_left λz=>e z.symm);refine⟨(k,ss,a)::l1,Li,a',l2,by rw[e2];rfl,λt ht=>?_⟩;rcases aa2.mp ht with z|z;·rw[z];exact e
   ·exact h2 t z
theorem rQ:∀{l1 l2},(∀t∈l1,t.1≠g)->dF (l1++(g,ss)::l2) g x=l1++(g,ss++[x])::l2
 |[],l2,_=>by simp[dF]|(k,r)::l1,l2,h=>by have hk:k≠g:=h (k,r) Yk;rw[aat,dF,if_neg hk,rQ λt ht=>h t (Yi _ ht)];rfl
theorem vo:∀{l},(∀t∈l,t.1≠g)->dF l g x=l++[(g,[x])]
 |[],_=>by simp[dF]|(k,r)::l,h=>by have hk:k≠g:=h (k,r) Yk;rw[dF,if_neg hk,vo λt ht=>h t (Yi _ ht)];rfl
theorem FE{ss:List Nat}{l1 l2:List ME}(h:∀t∈l1,t.1≠g):fu (vX (l1++(g,ss,a)::l2)) (.inl (g:Int))=Δ (.obj a):=by
 unfold fu vX;rw[Y1,List.find?_append];have:(l1.map λt:ME=>((.inl (t.1:Int):Sum Int Str),P.obj t.2.2)).find? (λkv=>decide (kv.1=.inl (g:Int)))=Θ:=by
  rw[acC];intro kv rB;obtain⟨t,ht,rfl⟩:=aad.mp rB;have:=h t ht;simp
  lia
 rw[this];simp
theorem IG{g:Nat}(h:g∉dl.map (·.1)):fu (vX dl) (.inl (g:Int))=Θ:=by
 unfold fu vX;have:(dl.map λt:ME=>((.inl (t.1:Int):Sum Int Str),P.obj t.2.2)).find? (λkv=>decide (kv.1=.inl (g:Int)))=Θ:=by
  rw[acC];intro kv rB;obtain⟨t,ht,rfl⟩:=aad.mp rB;have:t.1≠g:=λz=>h (aad.mpr ⟨t,ht,z⟩);simp
  lia
 rw[this];rfl
theorem GS.next(G:GS grp D0 st s done dl)(hl:dl.length < aq)(hd:done.length < aq):
  ∃v its s1 s2 Pr,rD (.obj D0) (.d (nD (grp.getD x 0))) (.obj s.length) (s++[O.lst []])=Δ (v,s1)/\cT s1 v=Δ its/\yL v (.d (nD x)) s1=Δ s2/\GS grp D0 st s2 (done++[x]) Pr:=by
 have qV:cI grp (done++[x])=dF (cI grp done) (grp.getD x 0) x:=by unfold cI;rw[aag];rfl
 have hk:keyOf (.d (nD (grp.getD x 0)))=Δ (.inl ((grp.getD x 0:Nat):Int)):=rfl;have hlen:=G.len;have hD:(s++[O.lst []])[D0]?=Δ (.dK (vX dl)):=by rw[Yq hlen];exact G.rP
 have hkl:(vX dl).length < aq:=by unfold vX;simpa using hl
 generalize hg:grp.getD x 0=g at*;by_cases vp:g∈dl.map (·.1)
 ·obtain⟨l1,ss,a,l2,rfl,h1⟩:=yb vp;obtain⟨a1,a2,a3⟩:=G.at_ (g,ss,a) ?E;dsimp only at a1 a2 a3;have ssl:ss.length<=done.length:=by
   have:(g,ss)∈cI grp done:=by rw[<-G.proj];exact aad.mpr ⟨(g,ss,a),by simp,rfl⟩
   have:=((dZ grp done).2.1 g ss this).1;rw[this];exact Zv _ _
  have ha:(s++[O.lst []])[a]?=Δ (encL ss):=by rw[Yq a2];exact a3
  refine⟨.obj a,ss.map λs=>P.d (nD s),s++[O.lst []],(s++[O.lst []]).set a (encL (ss++[x])),l1++(g,ss++[x],a)::l2,?_,gv ha,?_,?_⟩;·unfold rD;simp only[hD,hkl,if_true,hk,Y5,FE h1]
  ·rw[iy ha (by simp;lia)];simp[encL]
  ·have FA:=G.nd;rw[Y1,Yx,Ze] at FA;refine⟨?_,?_,λt ht=>?_,by rw[Y1,Yx,Ze];exact FA,λi hi=>?_,by simp;lia⟩;·rw[qV,<-G.proj,Y1,Yx,Y1,Yx,rQ];intro t ht;obtain⟨t',xE,rfl⟩:=aad.mp ht;exact h1 t' xE
   ·rw[Yp ?D,hD];unfold vX;simp
   ·by_cases ta:t.2.2=a
    ·have:t=(g,ss++[x],a):=by
      rcases abh.mp ht with z|z;·exact absurd ta (FA.2.2 _ (aad.mpr ⟨t,z,rfl⟩) _ Yk)
      ·rcases aa2.mp z with z|z;·exact z
       ·rw[ZT] at FA;exact absurd (aad.mpr ⟨t,z,ta⟩) FA.2.1.1
     subst this;refine⟨a1,by simp;lia,?_⟩;rw[YL (by simp;lia)]
    ·have xE:t∈l1++(g,ss,a)::l2:=by
      rcases abh.mp ht with z|z;·exact Zj _ z
      ·rcases aa2.mp z with z|z;·rw[z] at ta;exact absurd rfl ta
       ·exact YS _ (Yi _ z)
     obtain⟨b1,b2,b3⟩:=G.at_ t xE;exact⟨b1,by simp;lia,by rw[Yp (Zq ta),Yq b2];exact b3⟩
   ·rw[Yp ?D,Yq ?D];exact G.pre i hi
 ·have hm:∀t∈cI grp done,t.1≠g:=λt ht z=>vp (by rw[<-G.proj] at ht;obtain⟨t',xE,rfl⟩:=aad.mp ht;exact aad.mpr ⟨t',xE,z⟩);have XH:mI (vX dl) (.inl (g:Int)) (.obj s.length)=vX (dl++[(g,[x],s.length)]):=by
   rw[tG];·unfold vX;simp
   ·intro kv rB;obtain⟨t,ht,rfl⟩:=aad.mp rB;intro z;injection z with z;exact vp (aad.mpr ⟨t,ht,by lia⟩)
  have MF:((s++[O.lst []]).set D0 (.dK (vX (dl++[(g,[x],s.length)]))))[s.length]?=Δ (.lst []):=by rw[Yp ?D];simp
  refine⟨.obj s.length,[],(s++[O.lst []]).set D0 (.dK (vX (dl++[(g,[x],s.length)]))),((s++[O.lst []]).set D0 (.dK (vX (dl++[(g,[x],s.length)])))).set s.length (encL [x]),dl++[(g,[x],s.length)],?_,gv MF,?_,?_⟩;·unfold rD;simp only[hD,hkl,if_true,hk,Y5,IG vp,XH]
  ·rw[iy MF (by simp[aq])];simp[encL]
  ·refine⟨?_,?_,λt ht=>?_,?_,λi hi=>?_,by simp;lia⟩;·rw[qV,<-G.proj,vo (by rw[G.proj];exact hm),Y1];rfl
   ·rw[Yp ?D,YL (by simp;lia)]
   ·rcases abh.mp ht with z|z;·obtain⟨b1,b2,b3⟩:=G.at_ t z;exact⟨b1,by simp;lia,by rw[Yp ?D,Yp ?D,Yq b2];exact b3⟩
    ·rw[Zt] at z;subst z;exact⟨hlen,by simp,by rw[YL ?E]⟩
   ·rw[Y1,Ze];refine⟨G.nd,by simp,λp hp q hq=>?_⟩;simp at hq;subst hq;obtain⟨t,ht,rfl⟩:=aad.mp hp;have:=(G.at_ t ht).2.1
    lia
   ·rw[Yp ?D,Yp ?D,Yq ?D];exact G.pre i hi
structure Ti(α:Type)[DecidableEq α] where
 enc:α->D
 rP:List α->O
 UY:∀ps,jI (rP ps)=Λ
 lit:∀a,Kj (.d (enc a)) (.d (.int 0))=Δ (rP [a])
 get:∀ps a,ps.Nodup->oJ (rP ps) (.d (enc a))=Δ (if a∈ps then Δ (.d (nD (ps.idxOf a))) else Θ)
 put:∀ps a,a∉ps->?S < aq->DK (rP ps) (.d (enc a)) (.d (nD ?S))=Δ (rP (ps++[a]))
theorem Bw{α κ:Type}[DecidableEq α][DecidableEq κ]{f:α->κ}(hf:∀a b,f a=f b->a=b):∀(ps:List α) (k) (a),fu (ps.zipIdx k |>.map λq=>(f q.1,P.d (nD q.2))) (f a)=if a∈ps then Δ (.d (nD (k+ps.idxOf a))) else Θ
 |[],k,a=>by simp[fu]|x::ps,k,a=>by
  have ih:=Bw hf ps (k+1) a;unfold fu at ih ⊢;rw[acX,Yx,ZJ];by_cases e:x=a;·subst e;simp
  ·have h1:decide (f x=f a)=Ξ:=decide_eq_false λz=>e (hf _ _ z);simp only[h1];rw[ih];have h2:(x==a)=Ξ:=by simpa using e
   have h3:a≠x:=λz=>e z.symm;by_cases vp:a∈ps;·rw[if_pos vp,if_pos (Yi _ vp),List.idxOf_cons,h2];simp only[cond_false];congr 3;lia
   ·rw[if_neg vp,if_neg (λz=>(aa2.mp z).elim h3 vp)]
theorem Lz{α κ:Type}[DecidableEq α][DecidableEq κ]{f:α->κ}(hf:∀a b,f a=f b->a=b){ps:List α}{a:α}(h:a∉ps):mI (ps.zipIdx.map λq=>(f q.1,P.d (nD q.2))) (f a) (.d (nD ?S))=(ps++[a]).zipIdx.map λq=>(f q.1,P.d (nD q.2)):=by
 rw[tG];·rw[List.zipIdx_append,Y1];simp
 ·intro kv rB;obtain⟨q,hq,rfl⟩:=aad.mp rB;intro z;have:=hf _ _ z;have zX:q.1∈ps:=by obtain⟨x,i⟩:=q;have:=List.mem_zipIdx' hq;rw[this.2];exact Zl _
  exact h (this▸zX)
def C8(n:Nat):Sum Int Str:=.inl (n:Int)
theorem Bx a b(h:C8 a=C8 b):a=b:=by unfold C8 at h;injection h with h;lia
def Tj:Ti Nat where
 enc:=nD
 rP:=λps=>.dK (ps.zipIdx.map λq=>(C8 q.1,P.d (nD q.2)))
 UY:=λ_=>rfl
 lit:=λa=>rfl
 get:=λps a _=>by show(keyOf ?Qx).map _=_;have:keyOf ?Qx=Δ (C8 a):=rfl;rw[this,Y5];congr 1;have:=Bw Bx ps 0 a;simpa using this
 put:=λps a h hl=>by show(if(ps.zipIdx.map λq=>(C8 q.1,P.d (nD q.2))).length < aq then(keyOf ?Qx).map _ else Θ)=_;have:keyOf ?Qx=Δ (C8 a):=rfl;rw[if_pos (by simpa using hl),this,Y5,Lz Bx h]
end Y
namespace Y
section
variable{α:Type}[DecidableEq α]{step:α->List α}{good:α->Nat}
end
noncomputable def Tn(l:List Nat)(a x:Nat):List Nat:=l.take a++[x]++l.drop a
def mvP(x:Int):Nat->List Nat
 |0=>[0]|k+1=>Tn (mvP x k) (1+(drawn x (k+1) % ((k+1:Nat):Int)).toNat) (k+1)
noncomputable def fE(w:Nat):Nat->List (List Nat)
 |0=>[[]]|k+1=>(fE w k).flatMap λu=>(Yh w).map λa=>u++[a]
def b9(w N:Nat):List (List Nat):=(Yh (N+1)).flatMap (fE w)
theorem jV:∀{k} {u},u∈fE w k↔Wd w u/\u.length=k
 |0,u=>by
  simp only[fE,Zt];constructor;·rintro rfl;exact⟨Wd.nil,rfl⟩
  ·rintro⟨_,h⟩;exact List.length_eq_zero_iff.mp h
 |k+1,u=>by
  simp only[fE,abz,aad,Zp];constructor;·rintro⟨v,hv,a,ha,rfl⟩;obtain⟨h1,h2⟩:=jV.mp hv;exact⟨h1.app (Wd.nil.cons ha),by simp[h2]⟩
  ·rintro⟨h1,h2⟩;have fm:u≠[]:=λz=>by rw[z] at h2;simp at h2
   refine⟨u.dropLast,jV.mpr ⟨λb hb=>h1 b (List.dropLast_subset u hb),by simp[h2]⟩,u.getLast fm,h1 _ (List.getLast_mem fm),List.dropLast_concat_getLast fm⟩
theorem C9(h:u∈b9 w N):Wd w u:=by obtain⟨k,_,hk⟩:=abz.mp h;exact(jV.mp hk).1
theorem yc w:∀k,(fE w k).length=w ^ k
 |0=>rfl|k+1=>by
  rw[fE];have:∀l:List (List Nat),(l.flatMap λu=>(Yh w).map λa=>u++[a]).length=l.length*w:=λl=>by induction l with|nil=>simp|cons u l ih=>rw[abn,YF,ih];simp[aaU,adI]
  rw[this,yc w k,Nat.pow_succ]
end Y
namespace Y
open PySem
mutual
theorem By:∀x:D,sV x x=Λ
 |.bC=>rfl|.bl b=>beq_self_eq_true b|.int i=>beq_self_eq_true i|.str s=>beq_self_eq_true s|.tup xs=>qH xs|.pl xs=>qH xs
theorem qH:∀xs:List D,iq xs xs=Λ
 |[]=>rfl|x::xs=>by rw[DJ,By x,qH xs];rfl
end
theorem Pt u:mH (wD u)<=1:=by
 have:∀u:List Nat,kL (u.map nD)=0:=λu=>by induction u with|nil=>rfl|cons x u ih=>rw[Yx,yI,ih];rfl
 unfold wD;rw[NW,this];exact Yt _
theorem Pu m:mH (mD m)<=3:=by
 have:∀m:cq,kL (m.map e8)<=2:=λm=>by
  induction m with
  |nil=>exact Zr _|cons s m ih=>
   rw[Yx,yI];have h:=Pt s.2;have h2:mH (e8 s)<=2:=by unfold e8;exact Nat.succ_le_succ (Nat.max_le.mpr ⟨Zr _,Nat.max_le.mpr ⟨h,Zr _⟩⟩)
   exact Nat.max_le.mpr ⟨h2,ih⟩
 exact Nat.succ_le_succ (this m)
theorem IH m:se (mD m) (mD m)=Δ Λ:=by unfold se;rw[if_pos (by have:=Pu m;lia),By]
end Y
namespace Y
section
variable{w:Nat}{m n:cq}
variable(ok:cL w m)(XG:cL w n)
include ok XG
end
theorem Bz(ok:cL w m)(hs:s < ?A):(row m s).2=(Yh w).map (bc m s):=by have hl:=ok.len _ (aY hs);refine acZ (by rw[hl];simp) λi h1 h2=>?_;simp[bc,Ym,h1]
theorem yd m s a u:walk m s (a::u)=walk m (bc m s a) u:=rfl
theorem ye m s u a:walk m s (u++[a])=bc m (walk m s u) a:=by rw[lK];rfl
def wG(w:Nat)(m:cq)(s:Nat):Prop:=∃u,Wd w u/\gd m (walk m s u)=1
open Classical in
noncomputable def fF(w:Nat)(m:cq)(s:Nat):Nat:=if wG w m s then 1 else 0
theorem El w m s:fF w m s<=1:=by unfold fF;split<;>decide
theorem iX:fF w m s=1↔wG w m s:=by
 unfold fF;split;·rename_i h;exact⟨λ_=>h,λ_=>rfl⟩
 ·rename_i h;exact⟨λz=>(nomatch z),λz=>absurd z h⟩
theorem wG.good(h:gd m s=1):wG w m s:=⟨[],Wd.nil,h⟩
theorem wG.back(ha:a < w)(h:wG w m (bc m s a)):wG w m s:=by obtain⟨u,hu,e⟩:=h;exact⟨a::u,hu.cons ha,e⟩
theorem wG.of(hu:Wd w u)(h:wG w m (walk m s u)):wG w m s:=by obtain⟨v,hv,e⟩:=h;exact⟨u++v,hu.app hv,by rw[lK];exact e⟩
theorem wG.all(ok:cL w m){F:Nat->Prop}(h0:∀s,s < ?A->gd m s=1->F s)(hb:∀s a,s < ?A->a < w->F (bc m s a)->F s):∀(u) {s},s < ?A->Wd w u->gd m (walk m s u)=1->F s
 |[],s,hs,_,e=>h0 s hs e|a::u,s,hs,hu,e=>hb s a hs hu.head (wG.all ok h0 hb u (ok.bc hs hu.head) hu.tail e)
noncomputable def dU(w:Nat)(m:cq):cq:=(Yh ?A).map λs=>(fF w m s,(row m s).2)
theorem mz w m:(dU w m).length=m.length:=by simp[dU]
theorem yf(hs:s < ?A):row (dU w m) s=(fF w m s,(row m s).2):=by unfold row dU;rw[Ym,Ys,Zb hs];rfl
theorem BA{w:Nat}{m:cq}(ok:cL w m):cL w (dU w m) where
 ne:=by rw[mz];exact ok.ne
 len:=λq hq=>by obtain⟨s,hs,rfl⟩:=aad.mp hq;exact ok.len (row m s) (aY (Zp.mp hs))
 good:=λq hq=>by obtain⟨s,hs,rfl⟩:=aad.mp hq;exact El w m s
 lt:=λq hq t ht=>by obtain⟨s,hs,rfl⟩:=aad.mp hq;rw[mz];exact ok.lt (row m s) (aY (Zp.mp hs)) t ht
theorem vq(ok:cL w m):∀(u) {s},s < ?A->Wd w u->walk (dU w m) s u=walk m s u
 |[],_,_,_=>rfl|a::u,s,hs,hu=>by
  have e:bc (dU w m) s a=bc m s a:=by unfold bc;rw[yf hs]
  rw[yd,yd,e];exact vq ok u (ok.bc hs hu.head) hu.tail
theorem II(ok:cL w m)(hs:s < ?A)(hu:Wd w u):gd (dU w m) (walk (dU w m) s u)=fF w m (walk m s u):=by rw[vq ok u hs hu];unfold gd;rw[yf (ok.walk hs hu)]
def iY(m:cq)(p:Nat):List Nat:=(row m p).2
theorem Em m s:∃M,M=gK (iY m) (gd m) (places (iY m) 1000000 s):=⟨_,rfl⟩
noncomputable def lQ(m:cq)(s:Nat):cq:=ac2 (Em m s)
theorem BB m s:lQ m s=gK (iY m) (gd m) (places (iY m) 1000000 s):=ab8 (Em m s)
section
variable{w:Nat}{m:cq}(ok:cL w m)(hm:?A<=100000)
include ok
theorem BC:∀p∈Yh ?A,∀q∈iY m p,q∈Yh m.length:=λp hp q hq=>Zp.mpr (ok.lt _ (aY (Zp.mp hp)) q hq)
theorem qI:∀p∈Yh ?A,(iY m p).length=w:=λp hp=>ok.len _ (aY (Zp.mp hp))
theorem To:∀(u:List Nat) {s:Nat},s < ?A->Wd w u->C7 (iY m) s u=walk m s u
 |[],_,_,_=>rfl|a::u,s,hs,hu=>by
  have hl:=ok.len _ (aY hs);have e:((iY m s)[a]?).getD s=bc m s a:=by unfold iY bc;rw[Ym,Yn (by rw[hl];exact hu.head)];rfl
  show C7 (iY m) (((iY m s)[a]?).getD s) u=_;rw[e];exact To u (ok.bc hs hu.head) hu.tail
include hm
theorem zv{s:Nat}(hs:s < ?A):cL w (lQ m s)/\(lQ m s).length<=?A/\gI w (lQ m s) 0 m s:=by
 have h:=xY (w:=w) (good:=gd m) (N:=1000000) (Zp.mpr hs) (BC ok) (qI ok) (λp hp=>ok.good _ (aY (Zp.mp hp))) (by rw[YN];lia);rw[BB];refine⟨h.ok,?_,λu hu=>?_⟩;·have:=fB h.nd h.sub;rw[YN] at this;show(acm _ _).length<=_;rw[Yr];exact this
 ·rw[zu h (qI ok) h.zero hu,To ok u hs hu]
end
def pd(m:cq)(met:List Nat)(a:Nat):List Nat:=met++(row m a).2.filter λt=>!decide (t∈met)
def vt(m:cq)(met:List Nat):List Nat:=met.foldl (pd m) met
def du(m:cq)(s:Nat):Nat->List Nat
 |0=>[s]|k+1=>vt m (du m s k)
theorem IJ:t∈pd m met a↔t∈met\/t∈(row m a).2:=by unfold pd;rw[abh,Zg];by_cases h:t∈met<;>simp[h]
theorem BD:∀{l met:List Nat},t∈l.foldl (pd m) met↔t∈met\/∃a∈l,t∈(row m a).2
 |[],met=>by simp|a::l,met=>by
  rw[Z3,BD,IJ];constructor
  ·rintro((h|h)|⟨b,hb,h⟩);·exact .inl h
   ·exact .inr ⟨a,Yk,h⟩
   ·exact .inr ⟨b,Yi _ hb,h⟩
  ·rintro(h|⟨b,hb,h⟩);·exact .inl (.inl h)
   ·rcases aa2.mp hb with rfl|hb;·exact .inl (.inr h)
    ·exact .inr ⟨b,hb,h⟩
theorem iC:t∈vt m met↔t∈met\/∃a∈met,t∈(row m a).2:=BD
theorem lR(ok:cL w m)(hs:s < ?A):∀(k) {t},t∈du m s k->∃u,Wd w u/\walk m s u=t
 |0,t,h=>⟨[],Wd.nil,(Zt.mp h).symm⟩|k+1,t,h=>by
  rcases iC.mp h with h|⟨a,ha,h⟩;·exact lR ok hs k h
  ·obtain⟨u,hu,rfl⟩:=lR ok hs k ha;rw[Bz ok (ok.walk hs hu)] at h;obtain⟨b,hb,rfl⟩:=aad.mp h;exact⟨u++[b],hu.app (Wd.nil.cons (Zp.mp hb)),ye m s u b⟩
def Dc(m:cq)(l:List Nat):Prop:=∀a∈l,∀t∈(row m a).2,t∈l
noncomputable def IK(n:Nat)(l:List Nat):Nat:=((Yh n).filter λt=>decide (t∈l)).length
theorem IL(h:∀t∈l,t∈l')(ht:t < n)(h1:t∉l)(h2:t∈l'):IK n l < IK n l':=by
 have go:∀r:List Nat,(r.filter λt=>decide (t∈l)).length<=(r.filter λt=>decide (t∈l')).length/\(t∈r->(r.filter λt=>decide (t∈l)).length < (r.filter λt=>decide (t∈l')).length):=by
  intro r;induction r with
  |nil=>exact⟨Yt _,λz=>by cases z⟩|cons x r ih=>
   obtain⟨i1,i2⟩:=ih;rw[abA,abA];by_cases hx:x∈l
   ·have sQ:=h x hx;simp only[hx,sQ,decide_true,if_true,YA];refine⟨by lia,λz=>?_⟩;rcases aa2.mp z with rfl|z;·exact absurd hx h1
    ·have:=i2 z;lia
   ·by_cases sQ:x∈l';·simp only[hx,sQ,decide_true,decide_false,if_true,YA];exact⟨by simp;lia,λ_=>by simp;lia⟩
    ·simp only[hx,sQ,decide_false];refine⟨by simpa using i1,λz=>?_⟩;rcases aa2.mp z with rfl|z;·exact absurd h2 sQ
     ·simpa using i2 z
 exact(go _).2 (Zp.mpr ht)
theorem vz(ok:cL w m)(hs:s < ?A):∀k,Dc m (du m s k)\/k+1<=IK ?A (du m s k)
 |0=>.inr (by
  have:=IL (n:=?A) (l:=[]) (l':=[s]) (λ_ z=>by cases z) hs (λz=>by cases z) Yk;show 1<=IK ?A [s]
  lia)
 |k+1=>by
  by_cases c:Dc m (du m s k)
  ·refine .inl λa ha t ht=>?_;have sub:∀x∈vt m (du m s k),x∈du m s k:=λx hx=>by
    rcases iC.mp hx with h|⟨b,hb,h⟩;·exact h
    ·exact c b hb x h
   exact iC.mpr (.inl (c a (sub a ha) t ht))
  ·rcases vz ok hs k with h|h;·exact absurd h c
   ·obtain⟨a,ha⟩:=Classical.not_forall.mp c;obtain⟨ha,h2⟩:=Classical.not_imp.mp ha;obtain⟨t,h3⟩:=Classical.not_forall.mp h2;obtain⟨ht,h4⟩:=Classical.not_imp.mp h3;obtain⟨u,hu,rfl⟩:=lR ok hs k ha;have:=IL (n:=?A) (l:=du m s k) (l':=du m s (k+1)) (λx hx=>iC.mpr (.inl hx)) (ok.lt _ (aY (ok.walk hs hu)) t ht) h4 (iC.mpr (.inr ⟨_,ha,ht⟩));exact .inr ?D
theorem En(ok:cL w m)(hs:s < ?A):∀(u) {a},a∈du m s ?A->a < ?A->Wd w u->walk m a u∈du m s ?A
 |[],a,h,_,_=>h|b::u,a,h,ha,hu=>by
  have c:Dc m (du m s ?A):=by
   rcases vz ok hs ?A with h|h;·exact h
   ·have:=Zv (λt=>decide (t∈du m s ?A)) (Yh ?A);rw[YN] at this;unfold IK at h
    lia
  refine En ok hs u (c a h _ ?_) (ok.bc ha hu.head) hu.tail;rw[Bz ok ha];exact aad.mpr ⟨b,Zp.mpr hu.head,rfl⟩
theorem yg m s:∀k,s∈du m s k
 |0=>Yk|k+1=>iC.mpr (.inl (yg m s k))
theorem FF(ok:cL w m)(hs:s < ?A):((du m s ?A).any λa=>gd m a==1)=(fF w m s==1):=by
 rw[aak,ZK,beq_iff_eq,iX];constructor;·rintro⟨a,ha,e⟩;obtain⟨u,hu,rfl⟩:=lR ok hs _ ha;exact⟨u,hu,by simpa using e⟩
 ·rintro⟨u,hu,e⟩;exact⟨_,En ok hs u (yg m s _) hs hu,by simpa using e⟩
theorem Eo(ok:cL w m)(ha:a < ?A):(pd m met a).length<=met.length+w:=by
 unfold pd;rw[YF];have:=Zv (λt=>!decide (t∈met)) (row m a).2;rw[ok.len _ (aY ha)] at this
 lia
theorem BE(ok:cL w m):∀{l met:List Nat},(∀a∈l,a < ?A)->(l.foldl (pd m) met).length<=met.length+l.length*w
 |[],met,_=>by simp|a::l,met,h=>by
  have h1:=BE ok (l:=l) (met:=pd m met a) λb hb=>h b (Yi _ hb);have h2:=Eo ok (met:=met) (h a Yk);rw[Z3,YA,aaU]
  lia
theorem Dd(ok:cL w m)(hs:s < ?A)k:∀a∈du m s k,a < m.length:=λa ha=>by obtain⟨u,hu,rfl⟩:=lR ok hs k ha;exact ok.walk hs hu
theorem Ep(ok:cL w m)(hs:s < ?A):∀k,(du m s k).length<=(1+w) ^ k
 |0=>by simp[du]|k+1=>by
  have h1:=Ep ok hs k;have h2:=BE ok (l:=du m s k) (met:=du m s k) (Dd ok hs k);show(vt m (du m s k)).length<=_;unfold vt;rw[Nat.pow_succ,Nat.mul_add,Nat.mul_one];have:=aaW w h1
  lia
abbrev FW:=List Nat×List Nat
def Pw(q:FW)(x:Nat):FW:=if q.1.getD x 0=0 then(q.1.set x 1,q.2++[x]) else q
def fX(xs:List Nat)(q:FW):FW:=xs.foldl Pw q
structure vA(n:Nat)(l:List Nat):Prop where
 len:l.length=n
 bit:∀x,x < n->l.getD x 0=0\/l.getD x 0=1
theorem vB{l:List Nat}(hx:x < l.length):(l.set x v).getD y 0=if x=y then v else l.getD y 0:=by
 rw[Ym,Ym];by_cases h:x=y;·subst h;rw[if_pos rfl,YL hx];rfl
 ·rw[if_neg h,Yp h]
structure IM(n:Nat)(xs:List Nat)(q q':FW):Prop where
 b:vA n q'.1
 iff:∀x,x < n->(q'.1.getD x 0=1↔q.1.getD x 0=1\/x∈xs)
 sub:∀x∈q.2,x∈q'.2
 IP:∀x∈q'.2,x∈q.2\/x∈xs
 new:∀x,x < n->q'.1.getD x 0=1->q.1.getD x 0=1\/x∈q'.2
 Tp:q'.2.length+q'.1.count 0=q.2.length+q.1.count 0
theorem IQ(b:vA n q.1)(hx:x < n):IM n [x] q (Pw q x):=by
 unfold Pw;by_cases h:q.1.getD x 0=0
 ·rw[if_pos h];have hl:x < q.1.length:=by rw[b.len];exact hx
  have hg:q.1[x]=0:=by rw[Ym,Yn hl] at h;exact h
  refine⟨⟨by rw[ZH];exact b.len,λy hy=>?_⟩,λy hy=>?_,λy hy=>Zj _ hy,λy hy=>?_,λy hy e=>?_,?_⟩
  ·rw[vB hl];split;·exact .inr rfl
   ·exact b.bit y hy
  ·rw[vB hl];by_cases e:x=y;·subst e;simp
   ·rw[if_neg e];exact⟨.inl,λz=>z.elim id λz=>absurd (Zt.mp z).symm e⟩
  ·rcases abh.mp hy with z|z;·exact .inl z
   ·exact .inr z
  ·rw[vB hl] at e;by_cases z:x=y;·exact .inr (YS _ (by rw[z];exact Yk))
   ·rw[if_neg z] at e;exact .inl e
  ·show(q.2++[x]).length+(q.1.set x 1).count 0=_;have hc:0 < q.1.count 0:=List.count_pos_iff.mpr (by rw[<-hg];exact Zl hl);rw[List.count_set hl,hg,YF];simp
   lia
 ·rw[if_neg h];have h1:q.1.getD x 0=1:=(b.bit x hx).resolve_left h;refine⟨b,λy hy=>⟨.inl,λz=>?_⟩,λy hy=>hy,λy hy=>.inl hy,λy hy e=>.inl e,rfl⟩;rcases z with z|z;·exact z
  ·rw[Zt.mp z];exact h1
theorem kD:∀{xs} {q},vA n q.1->(∀x∈xs,x < n)->IM n xs q (fX xs q)
 |[],q,b,_=>⟨b,λx _=>by simp[fX],λx h=>h,λx h=>.inl h,λx _ e=>.inl e,rfl⟩|x::xs,q,b,h=>by
  have s1:=IQ b (h x Yk);have s2:=kD (xs:=xs) (q:=Pw q x) s1.b λy hy=>h y (Yi _ hy);show IM n (x::xs) q (fX xs (Pw q x));refine⟨s2.b,λy hy=>?_,λy hy=>s2.sub y (s1.sub y hy),λy hy=>?_,λy hy e=>?_,s2.Tp.trans s1.Tp⟩;·rw[s2.iff y hy,s1.iff y hy,Zt,aa2,or_assoc]
  ·rcases s2.IP y hy with z|z
   ·rcases s1.IP y z with z|z;·exact .inl z
    ·exact .inr (by rw[Zt.mp z];exact Yk)
   ·exact .inr (Yi _ z)
  ·rcases s2.new y hy e with z|z
   ·rcases s1.new y hy z with z|z;·exact .inl z
    ·exact .inr (s2.sub y z)
   ·exact .inr z
theorem yh xs ys q:fX (xs++ys) q=fX ys (fX xs q):=aag ..
def nR(m:cq)(a t:Nat):List Nat:=(Yh ?A).filter λs=>decide (bc m s a=t)
def lS(m:cq)(w t:Nat):List Nat:=(Yh w).flatMap λa=>nR m a t
theorem qJ:x∈lS m w t↔x < ?A/\∃a,a < w/\bc m x a=t:=by
 unfold lS nR;simp only[abz,Zp,Zg,qqq];constructor;·rintro⟨a,ha,hx,e⟩;exact⟨hx,a,ha,e⟩
 ·rintro⟨hx,a,ha,e⟩;exact⟨a,ha,hx,e⟩
structure De(w:Nat)(m:cq)(q:FW):Prop where
 b:vA ?A q.1
 snd:∀x,x < ?A->q.1.getD x 0=1->wG w m x
 gd:∀x,x < ?A->gd m x=1->q.1.getD x 0=1
 wt:∀x∈q.2,x < ?A/\q.1.getD x 0=1
 cl:∀x a,x < ?A->a < w->q.1.getD (bc m x a) 0=1->bc m x a∈q.2\/q.1.getD x 0=1
theorem De.turn(ok:cL w m)(h:De w m (fd,ws++[t])):De w m (fX (lS m w t) (fd,ws))/\(fX (lS m w t) (fd,ws)).2.length+(fX (lS m w t) (fd,ws)).1.count 0+1=(ws++[t]).length+fd.count 0:=by
 have hp:∀x∈lS m w t,x < m.length:=λx hx=>(qJ.mp hx).1;have s:=kD (q:=(fd,ws)) h.b hp;obtain⟨ht,ft⟩:=h.wt t (YS _ Yk);refine⟨⟨s.b,λx hx e=>?_,λx hx e=>(s.iff x hx).mpr (.inl (h.gd x hx e)),λx hx=>?_,λx a hx ha e=>?_⟩,?_⟩
 ·rcases(s.iff x hx).mp e with z|z;·exact h.snd x hx z
  ·obtain⟨_,a,ha,e2⟩:=qJ.mp z;exact wG.back ha (by rw[e2];exact h.snd t ht ft)
 ·rcases s.IP x hx with z|z;·have:=h.wt x (Zj _ z);exact⟨this.1,(s.iff x this.1).mpr (.inl this.2)⟩
  ·exact⟨hp x z,(s.iff x (hp x z)).mpr (.inr z)⟩
 ·rcases s.new _ (ok.bc hx ha) e with z|z
  ·rcases h.cl x a hx ha z with y|y
   ·rcases abh.mp y with y|y;·exact .inl (s.sub _ y)
    ·exact .inr ((s.iff x hx).mpr (.inr (qJ.mpr ⟨hx,a,ha,Zt.mp y⟩)))
   ·exact .inr ((s.iff x hx).mpr (.inl y))
  ·exact .inl z
 ·have:=s.Tp;rw[YF];simp only[YA,aaj];have e:(fd,ws).2.length+(fd,ws).1.count 0=ws.length+fd.count 0:=rfl
  lia
theorem De.fin(ok:cL w m)(h:De w m (fd,[])):fd=(Yh ?A).map (fF w m):=by
 refine acZ (by rw[h.b.len];simp) λx h1 h2=>?_;have hx:x < m.length:=by rw[<-h.b.len];exact h1
 have e:fd.getD x 0=fd[x]:=by rw[Ym,Yn h1];rfl
 rw[List.getElem_map,List.getElem_range,<-e];have i:fd.getD x 0=1↔wG w m x:=⟨h.snd x hx,λ⟨u,hu,eu⟩=>wG.all ok (F:=λs=>fd.getD s 0=1) h.gd (λs a hs ha z=>by
  rcases h.cl s a hs ha z with y|y;·cases y
  ·exact y) u hx hu eu⟩
 rcases h.b.bit x hx with z|z
 ·have:fF w m x≠1:=λy=>by rw[i.mpr (iX.mp y)] at z;cases z
  have:=El w m x;rw[show fd.getD x 0=0 from z]
  lia
 ·rw[show fd.getD x 0=1 from z,iX.mpr (i.mp z)]
def cU(m:cq):FW:=((Yh ?A).map (gd m),(Yh ?A).filter λs=>gd m s==1)
theorem Df(ok:cL w m):De w m (cU m):=by
 have g:∀x,x < ?A->(cU m).1.getD x 0=gd m x:=λx hx=>by show((Yh ?A).map (gd m)).getD x 0=_;rw[Ym,Ys,Zb hx];rfl
 have mem:∀x,x∈(cU m).2↔x < ?A/\gd m x=1:=λx=>by show x∈(Yh ?A).filter _↔_;rw[Zg,Zp,beq_iff_eq]
 refine⟨⟨by simp[cU],λx hx=>?_⟩,λx hx e=>?_,λx hx e=>?_,λx hx=>?_,λx a hx ha e=>?_⟩;·rw[g x hx];have:=ok.good _ (aY hx);unfold gd;lia
 ·rw[g x hx] at e;exact wG.good e
 ·rw[g x hx];exact e
 ·obtain⟨h1,h2⟩:=(mem x).mp hx;exact⟨h1,by rw[g x h1];exact h2⟩
 ·rw[g _ (ok.bc hx ha)] at e;exact .inl ((mem _).mpr ⟨ok.bc hx ha,e⟩)
end Y
namespace Tq
open PySem Y
def lT:List S:=[.app (.ix ?QC (.ix (.ix (.var 4) ?R) ?Qk)) (.var 3)]
def iA:Fn:={np:=2,nn:=5,sh:=Λ,body:=[.set 2 (.lst Λ (.comp (.ex ?X) 1 [] Θ (.lst Λ (.fQ [])))),
  .eV (.two 3 4) (.enum ?X) lT,
  .ret ?QC]}
def jW:List S:=[.expr (.ug ?QC (.var 4) (.var 3))]
def fG:Fn:={np:=1,nn:=5,body:=[.set 1 (.make 20 "Groups" [.var 0]),
  .expr (.qd 24 "Groups" "settle" 1 []),
  .set 2 (.qc Ξ),
  .jB 3 4 (.attr "Groups" "group_of" 1) jW,
  .ret (.lst Ξ (.cx (.attr "Groups" "group_of" 1) [2] Θ (.ix ?Qk ?X)))]}
noncomputable def Dg:List S:=[.set 1 (.ix (.ix (.ix ?X ?Qk) ?R) (.var 3))]
def pf:Fn:={np:=3,nn:=4,body:=[.eV (.nm 3) (.ex ?QC) Dg,
  .ret ?Qk]}
noncomputable def dO:List S:=[.ifs (.cmp .jo (.var 8) (.var 3)) [.put (.var 3) (.var 8) (.bf .len [.var 4]),
  .app (.var 4) (.var 8)] []]
def jX:List S:=[.set 6 (.ix (.var 4) (.bf .len [.var 5])),
  .set 7 (.oI 1 [.var 6]),
  .eV (.nm 8) (.ex (.var 7)) dO,
  .app (.var 5) (.tup [.oI 2 [.var 6],.bf .tuple [.lst Ξ (.comp (.ex (.var 7)) 1 [3] Θ (.ix ?Qk ?X))]])]
def cV:Fn:={np:=3,nn:=9,body:=[.set 3 (.Fc ?X (.int 0)),
  .set 4 (.lst Λ (.fQ [.var 0])),
  .set 5 (.lst Λ (.fQ [])),
  .kq (.cmp .lt (.bf .len [.var 5]) (.bf .len [.var 4])) jX,
  .ret (.bf .tuple [.var 5])]}
def ph:Fn:={np:=1,nn:=3,body:=[.set 1 (.fc 1 [.var 0] [(25,[1,0]),(26,[0])]),
  .nj 2 25,
  .ret (.fc 3 [.ix ?Qk ?Y,.var 2,.lam 26] [(25,[1,0]),(26,[0])])]}
def iZ:List S:=[.ifs (.cmp .eq (.ix ?QC (.var 6)) ?Y) [.put ?QC (.var 6) ?R,
  .app (.var 3) (.var 6)] []]
def fH:List S:=[.gS (.nm 6) (.ix (.var 5) (.var 4)) iZ]
def lU:List S:=[.set 4 (.CF (.var 3)),
  .gS (.nm 5) ?Qk fH]
def kE:Fn:={np:=1,nn:=7,body:=[.set 1 (.lst Λ (.comp (.fR [.bf .len [.ix (.ix ?X ?Y) ?R]]) 1 [0] Θ ?Ze)),
  .set 2 (.lst Λ (.comp (.ex ?X) 1 [] Θ (.ix ?X ?Y))),
  .set 3 (.lst Λ (.iE (.enum ?X) [] (Δ (.cmp .eq (.ix ?Qk ?Y) ?R)) ?X)),
  .kq (.cmp .gt (.bf .len [.var 3]) ?Y) lU,
  .ret ?QC]}
def IS:Fn:={np:=2,nn:=3,body:=[.nj 2 27,
  .ret (.fc 4 [.fc 3 [.fc 2 [.var 0,.cst (.int 0),.var 1] [(27,[0]),(28,[0])],.var 2,.lam 28] [(27,[0]),(28,[0])]] [(27,[0]),(28,[0])])]}
def tH:Fn:={np:=1,nn:=2,body:=[.set 1 (.call 5 [.var 0]),
  .ret (.call 4 [.bf .tuple [.lst Ξ (.iE (.enum ?X) [1] Θ (.tup [.ix ?QC ?X,.ix ?Qk ?R]))]])]}
def cW:Fn:={np:=2,nn:=2,body:=[.ifs (.cmp .lt ?Qk (.bf .len [.var 0])) [.ret (.ix ?X ?Qk)] [],
  .ret ?Y]}
def fI:Fn:={np:=2,nn:=3,body:=[.set 2 (.op .mod (.op .mul (.op .add (.op .add (.call 8 [.var 0,.var 1]) (.op .mul (.cst (.int 7919)) ?Qk)) ?R) (.cst (.int 48271))) (.cst (.int 2147483647))),
  .ret (.op .mod (.op .add (.op .add (.op .mul ?QC ?QC) (.op .mul (.cst (.int 7)) ?QC)) ?Qk) (.cst (.int 2147483629)))]}
def fJ:Fn:={np:=2,nn:=3,body:=[.set 2 (.op .mod (.op .mul (.op .add (.op .add ?X (.op .mul (.cst (.int 104729)) ?Qk)) (.cst (.int 17))) (.cst (.int 69621))) (.cst (.int 2147483647))),
  .ret (.op .mod (.op .add (.op .add (.op .mul ?QC ?QC) (.op .mul (.cst (.int 3)) ?QC)) ?Qk) (.cst (.int 2147483629)))]}
noncomputable def i0:List S:=[.set 4 (.op .add (.var 4) (.lst Ξ (.comp (.fR [.var 0]) 1 [5] Θ (.op .add ?Qk (.tup [.var 0])))))]
def lV:List S:=[.set 4 (.lst Ξ (.fQ [])),
  .eV (.nm 5) (.ex ?QC) i0,
  .set 2 (.var 4),
  .set 1 (.op .add ?Qk ?QC)]
def dP:Fn:={np:=1,nn:=6,body:=[.set 1 (.lst Ξ (.fQ [.tup []])),
  .set 2 (.lst Ξ (.fQ [.tup []])),
  .eV (.nm 3) (.fR [.ix (.lst Ξ (.fQ [.cst (.int 0),.cst (.int 8),.cst (.int 5),.cst (.int 4)])) ?X]) lV,
  .ret ?Qk]}
noncomputable def gp:List S:=[.set 6 (.bf .tuple [.lst Ξ (.comp (.fR [.var 1]) 1 [3,0,5] Θ (.op .mod (.call 10 [.var 2,.op .add (.op .mul (.cst (.int 7)) (.var 3)) ?X]) ?Qk))]),
  .app (.var 4) (.tup [.op .mod (.op .mod (.call 10 [.var 0,.op .add (.op .mul (.cst (.int 7)) (.var 5)) (.cst (.int 5))]) (.cst (.int 3))) (.cst (.int 2)),.var 6])]
def cX:Fn:={np:=3,nn:=7,body:=[.set 3 (.op .add ?R (.op .mod ?X ?QC)),
  .set 4 (.lst Λ (.fQ [])),
  .eV (.nm 5) (.fR [.var 3]) gp,
  .ret (.bf .tuple [.var 4])]}
def zw:List S:=[.set 2 (.ix (.ix (.ix ?X ?QC) ?R) (.var 3))]
def kF:Fn:={np:=2,nn:=4,body:=[.set 2 ?Y,
  .eV (.nm 3) (.ex ?Qk) zw,
  .ret (.cmp .eq (.ix (.ix ?X ?QC) ?Y) ?R)]}
def eB:Fn:={np:=2,nn:=2,body:=[.ret (.and [.Hn ?X "int",.not (.Hn ?X "bool"),.chain .le .le ?Y ?X ?Qk])]}
def cR:List S:=[.ifs (.or [.not (.Hn ?QC "tuple"),.cmp .ne (.bf .len [.var 2]) (.cst (.int 2)),.not (.call 14 [.ix ?QC ?Y,.cst (.int 1)])]) [.ret (.cst ?Zj)] [],
  .ifs (.or [.not (.Hn (.ix ?QC ?R) "tuple"),.cmp .ne (.bf .len [.ix ?QC ?R]) ?Qk]) [.ret (.cst ?Zj)] [],
  .ifs (.cmp .ne (.lst Ξ (.comp (.ex (.ix ?QC ?R)) 1 [0] (Δ (.not (.call 14 [.var 0,.op .sub (.bf .len [.var 1]) ?R]))) ?X)) (.lst Ξ (.fQ []))) [.ret (.cst ?Zj)] []]
def bw:Fn:={np:=2,nn:=3,body:=[.ifs (.or [.not (.Hn ?X "tuple"),.cmp .eq ?X (.tup [])]) [.ret (.cst ?Zj)] [],
  .eV (.nm 2) (.ex ?X) cR,
  .ret (.cst ?QV)]}
def gU:List S:=[.ifs (.cmp .ne (.ix (.ix ?X (.var 3)) ?Y) (.ix (.ix ?X (.var 4)) ?Y)) [.put ?QC (.tup [.var 3,.var 4]) (.cst ?QV)] []]
def gW:List S:=[.eV (.nm 4) (.fR [.var 1]) gU]
def gX:List S:=[.set 6 (.lst Ξ (.zip (.ix (.ix ?X (.var 3)) ?R) (.ix (.ix ?X (.var 4)) ?R))),
  .ifs (.bf .any [.lst Ξ (.comp (.ex (.var 6)) 1 [2] Θ (.cmp .isin ?X ?Qk))]) [.put ?QC (.tup [.var 3,.var 4]) (.cst ?QV)] []]
def gY:List S:=[.eV (.nm 4) (.fR [.var 1]) gX]
def gZ:List S:=[.eV (.nm 3) (.fR [.var 1]) gY]
def eD:Fn:={np:=1,nn:=7,sh:=Λ,body:=[.set 1 (.bf .len [.var 0]),
  .set 2 (.qc Λ),
  .eV (.nm 3) (.fR [.var 1]) gW,
  .eV (.nm 5) (.fR [.var 1]) gZ,
  .ret ?QC]}
def dz:List S:=[.ifs (.cmp .jo (.var 4) ?QC) [.app ?QC (.var 4)] []]
def bJ:List S:=[.ifs (.cmp .ge (.var 3) (.bf .len [.var 2])) [.ret (.cst ?Zj)] [],
  .eV (.nm 4) (.ex (.ix (.ix ?X (.ix ?QC (.var 3))) ?R)) dz]
def eO:Fn:={np:=2,nn:=6,body:=[.ifs (.not (.call 15 [.var 0,.var 1])) [.ret (.cst ?Zj)] [],
  .set 2 (.lst Λ (.fQ [.cst (.int 0)])),
  .eV (.nm 3) (.fR [.bf .len [.var 0]]) bJ,
  .ifs (.cmp .ne ?QC (.lst Ξ (.fR [.bf .len [.var 0]]))) [.ret (.cst ?Zj)] [],
  .set 5 (.call 16 [.var 0]),
  .ret (.cmp .eq (.bf .len [.var 5]) (.op .sub (.op .mul (.bf .len [.var 0]) (.bf .len [.var 0])) (.bf .len [.var 0])))]}
def i8:List S:=[.set 2 (.op .add ?QC (.lst Ξ (.comp (.ex (.ix (.ix ?X (.var 4)) ?R)) 1 [2] (Δ (.cmp .jo ?X ?Qk)) ?X)))]
def lW:List S:=[.eV (.nm 4) (.ex (.lst Ξ (.list ?QC))) i8]
def fK:Fn:={np:=2,nn:=5,body:=[.set 2 (.lst Ξ (.fQ [.var 1])),
  .eV (.nm 3) (.fR [.bf .len [.var 0]]) lW,
  .ret (.bf .any [.lst Ξ (.comp (.ex ?QC) 1 [0] Θ (.cmp .eq (.ix (.ix ?Qk ?X) ?Y) ?R))])]}
def LA:List S:=[.set 8 (.ix (.ix (.ix ?QC (.var 8)) ?R) (.var 9))]
def Er:List S:=[.set 8 ?Y,
  .eV (.nm 9) (.ex (.var 7)) LA,
  .ifs (.or [.cmp .ne (.call 13 [.var 5,.var 7]) (.call 13 [.var 2,.op .add (.var 4) (.var 7)]),.cmp .ne (.call 13 [.var 6,.var 7]) (.call 18 [.var 2,.var 8])]) [.ret (.cst ?Zj)] []]
def Es:List S:=[.set 10 (.call 6 [.var 10,.tup [.var 9]])]
def mX:Fn:={np:=1,nn:=11,body:=[.set 1 (.op .add ?R (.op .mod (.call 9 [.var 0,.cst (.int 0)]) (.cst (.int 3)))),
  .set 2 (.call 12 [.call 9 [.var 0,.cst (.int 1)],.var 1,.cst (.int 5)]),
  .set 3 (.call 9 [.var 0,.cst (.int 2)]),
  .set 4 (.bf .tuple [.lst Ξ (.comp (.fR [.op .mod (.var 3) (.cst (.int 31))]) 1 [1,3] Θ (.op .mod (.call 10 [.var 2,.var 0]) ?Qk))]),
  .set 5 (.call 6 [.var 2,.var 4]),
  .set 6 (.call 7 [.var 2]),
  .ifs (.or [.not (.call 17 [.var 5,.var 1]),.not (.call 17 [.var 6,.var 1])]) [.ret (.cst ?Zj)] [],
  .eV (.nm 7) (.ex (.call 11 [.var 1])) Er,
  .set 10 (.call 4 [.var 2]),
  .eV (.nm 9) (.ex (.var 4)) Es,
  .ret (.and [.cmp .eq (.var 10) (.var 5),.cmp .eq (.call 7 [.var 6]) (.var 6),.cmp .eq (.call 6 [.var 2,.tup []]) (.call 4 [.var 2])])]}
def ic:List S:=[.put (.ix (.attr "Groups" "members" 0) (.ix (.var 3) ?Y)) ?QC (.cst ?QV)]
def fL:Fn:={np:=2,nn:=4,sh:=Λ,body:=[.mG "Groups" "sources" 0 (.lst Λ (.comp (.fR [.bf .len [.ix (.ix ?Qk ?Y) ?R]]) 1 [1] Θ ?Ze)),
  .mG "Groups" "group_of" 0 (.lst Λ (.comp (.ex ?Qk) 1 [] Θ (.ix ?X ?Y))),
  .mG "Groups" "members" 0 (.lst Λ (.fQ [.qc Ξ,.qc Ξ])),
  .eV (.two 2 3) (.enum ?Qk) ic,
  .mG "Groups" "waiting" 0 (.lst Λ (.fQ [.cst (.int 0),.cst (.int 1)])),
  .mG "Groups" "waits" 0 (.lst Λ (.fQ [.cst ?QV,.cst ?QV]))]}
def cJ:Fn:={np:=2,nn:=2,sh:=Λ,body:=[.app (.attr "Groups" "waiting" 0) ?Qk,
  .put (.attr "Groups" "waits" 0) ?Qk (.cst ?QV)]}
def gN:List S:=[.expr (.Fb (.var 3) (.var 5)),
  .put (.ix (.attr "Groups" "members" 0) (.var 4)) (.var 5) (.cst ?QV),
  .put (.attr "Groups" "group_of" 0) (.var 5) (.var 4)]
def bB:Fn:={np:=3,nn:=6,sh:=Λ,body:=[.set 3 (.ix (.attr "Groups" "members" 0) ?Qk),
  .ifs (.cmp .eq (.bf .len [.var 2]) (.bf .len [.var 3])) [.Fd] [],
  .set 4 (.bf .len [.attr "Groups" "members" 0]),
  .app (.attr "Groups" "members" 0) (.qc Ξ),
  .app (.attr "Groups" "waits" 0) (.cst ?Zj),
  .gS (.nm 5) ?QC gN,
  .ifs (.or [.ix (.attr "Groups" "waits" 0) ?Qk,.cmp .le (.bf .len [.var 2]) (.bf .len [.var 3])]) [.expr (.qd 21 "Groups" "let_wait" 0 [.var 4])] [.expr (.qd 21 "Groups" "let_wait" 0 [.var 1])]]}
noncomputable def cY:List S:=[.app (.ug (.var 3) (.ix (.attr "Groups" "group_of" 0) (.var 5)) (.lst Λ (.fQ []))) (.var 5)]
def cZ:List S:=[.gS (.nm 5) (.ix (.ix (.attr "Groups" "sources" 0) ?QC) (.var 4)) cY]
noncomputable def fh:List S:=[.expr (.qd 22 "Groups" "set_apart" 0 [.var 6,.var 7])]
def cu:Fn:={np:=3,nn:=8,sh:=Λ,body:=[.set 3 (.qc Ξ),
  .eV (.nm 4) (.ex ?Qk) cZ,
  .CG 6 7 (.var 3) fh]}
noncomputable def ju:List S:=[.expr (.qd 23 "Groups" "set_apart_by" 0 [.var 2,.var 3])]
def fM:List S:=[.set 1 (.CF (.attr "Groups" "waiting" 0)),
  .put (.attr "Groups" "waits" 0) ?Qk (.cst ?Zj),
  .set 2 (.lst Ξ (.keys (.ix (.attr "Groups" "members" 0) ?Qk))),
  .eV (.nm 3) (.fR [.bf .len [.attr "Groups" "sources" 0]]) ju]
def g6:Fn:={np:=1,nn:=4,sh:=Λ,body:=[.kq (.cmp .gt (.bf .len [.attr "Groups" "waiting" 0]) ?Y) fM]}
def gq:Fn:={np:=3,nn:=3,body:=[.ret (.lst Ξ (.comp (.ex (.ix (.ix ?QC ?X) ?R)) 1 [1] Θ (.ix ?Qk ?X)))]}
def dk:Fn:={np:=2,nn:=2,body:=[.ret (.ix (.ix ?Qk ?X) ?Y)]}
def fN:Fn:={np:=2,nn:=2,body:=[.ret (.ix (.ix ?Qk ?X) ?R)]}
def eE:Fn:={np:=2,nn:=2,body:=[.ret (.ix (.ix ?Qk ?X) ?Y)]}
def Fs:List Fn:=[iA,fG,pf,cV,ph,kE,IS,tH,cW,fI,fJ,dP,cX,kF,eB,bw,eD,eO,fK,mX,fL,cJ,bB,cu,g6,gq,dk,fN,eE]
theorem wH:Fs[0]?=Δ iA:=rfl
theorem sx:Fs[1]?=Δ fG:=rfl
theorem FG:Fs[2]?=Δ pf:=rfl
theorem sA:Fs[3]?=Δ cV:=rfl
theorem IT:Fs[4]?=Δ ph:=rfl
theorem wI:Fs[5]?=Δ kE:=rfl
theorem Px:Fs[6]?=Δ IS:=rfl
theorem IU:Fs[7]?=Δ tH:=rfl
theorem sC:Fs[8]?=Δ cW:=rfl
theorem wJ:Fs[9]?=Δ fI:=rfl
theorem wK:Fs[10]?=Δ fJ:=rfl
theorem wL:Fs[11]?=Δ dP:=rfl
theorem sD:Fs[12]?=Δ cX:=rfl
theorem BF:Fs[13]?=Δ kF:=rfl
theorem vC:Fs[14]?=Δ eB:=rfl
theorem nS:Fs[15]?=Δ bw:=rfl
theorem vD:Fs[16]?=Δ eD:=rfl
theorem qK:Fs[17]?=Δ eO:=rfl
theorem wM:Fs[18]?=Δ fK:=rfl
theorem Py:Fs[19]?=Δ mX:=rfl
theorem nT:Fs[20]?=Δ fL:=rfl
theorem nU:Fs[21]?=Δ cJ:=rfl
theorem ie:Fs[22]?=Δ bB:=rfl
theorem kH:Fs[23]?=Δ cu:=rfl
theorem qL:Fs[24]?=Δ g6:=rfl
theorem pw:Fs[25]?=Δ gq:=rfl
theorem qM:Fs[26]?=Δ dk:=rfl
theorem sE:Fs[27]?=Δ fN:=rfl
theorem vE:Fs[28]?=Δ eE:=rfl
section
variable{w:Nat}{m:cq}(ok:cL w m)(hm:?A<=100000)
def i9(m:cq)(a k:Nat):aK:=(Yh ?A).map λt=>O.lst (((Yh k).filter λs=>decide (bc m s a=t)).map λx=>P.d (nD x))
def kI(b n:Nat):O:=.lst ((Yh n).map λt=>P.obj (b+t))
theorem b8 a k:(i9 m a k).length=m.length:=by simp[i9]
theorem jY(ht:t < ?A):(i9 m a k)[t]?=Δ (O.lst (((Yh k).filter λs=>decide (bc m s a=t)).map λx=>P.d (nD x))):=by simp[i9,ht]
theorem FH:(i9 m a k).set (bc m k a) (O.lst ((((Yh k).filter λs=>decide (bc m s a=bc m k a)).map λx=>P.d (nD x))++[P.d (nD k)]))=i9 m a (k+1):=by
 apply ab1;intro t;by_cases ht:t < ?A
 ·rw[jY ht,Zn,abe,Y1];by_cases e:bc m k a=t;·subst e;rw[YL (by rw[b8];exact ht)];simp
  ·rw[Yp e,jY ht];simp[e]
 ·rw[YR (by rw[ZH,b8];lia),YR (by rw[b8];lia)]
include ok hm
theorem pA(n:Nat)(a:Nat)(ha:a < w)(st:aK):callC Fs (n+1) 0 [.d (mD m),.d (nD a)] st=.ok (.obj (?O+?A)) (st++i9 m a ?A++[kI ?O ?A]):=by
 refine yZ wH rfl rfl ?_;have e1:aS ?L (.comp (.ex ?X) 1 [] Θ (.lst Λ (.fQ []))) (ay 5 [.d (mD m),.d (nD a)]) st=.ok ((Yh ?A).map λt=>P.obj (?O+t)) (st++i9 m a 0):=by
  rw[uY];have ew:bM ?L (.ex ?X) (ay 5 [.d (mD m),.d (nD a)]) st=.ok ((m.map e8).map .d) st:=by simp[ay,mD]
  rw[ew,aa,if_pos (by simp[aq];lia)];obtain⟨zs,aJ,e,q⟩:=mv (g:=λp=>Δ p::bu [] (ay 5 [.d (mD m),.d (nD a)])) (c:=be ?L Θ) (e:=λr' aJ=>ae ?L (.lst Λ (.fQ [])) r' aJ) (I:=λk ys s=>ys=(Yh k).map (λt=>P.obj (?O+t))/\s=st++ZO k (O.lst [])) (ps:=(m.map e8).map .d) (k:=0) (ys:=[]) (st:=st)
   (λi p ys s ⟨h1,h2⟩ hp=>⟨.obj s.length,s++[.lst []],by simp,by simp[aq],by
    rw[Y2] at h1 h2 ⊢;subst h1 h2;refine⟨?_,?_⟩;·rw[Zn,Y1];simp
    ·rw[Zf,List.replicate_succ']⟩) ⟨by simp,by simp⟩
  obtain⟨q1,q2⟩:=q;rw[e];simp only[aaA,Y2,Yr] at q1 q2;rw[q1,q2];congr 2;apply ab1;intro t;by_cases ht:t < ?A;·rw[jY ht];simp[ht]
  ·rw[YR (by simp;lia),YR (by rw[b8];lia)]
 refine ag (aZ (v:=.obj (?O+?A)) (st1:=st++i9 m a 0++[kI ?O ?A]) ?_) ?_;·show ae ?L (.lst Λ (.comp (.ex ?X) 1 [] Θ (.lst Λ (.fQ [])))) (ay 5 [.d (mD m),.d (nD a)]) st=_;rw[fw,e1,aa];simp[b8,kI]
 obtain⟨r',s',e,⟨y3,y4,q1⟩,q2⟩:=dY (g:=gf (.two 3 4)) (b:=ah ?L lT) (ps:=dS 0 (m.map e8)) (k:=0) (r:=[Δ ?N,Δ ?Qx,Δ (.obj (?O+?A)),Θ,Θ]) (st:=st++i9 m a 0++[kI ?O ?A])
  (I:=λk r s=>(∃y3 y4,r=[Δ ?N,Δ ?Qx,Δ (.obj (?O+?A)),y3,y4])/\s=st++i9 m a k++[kI ?O ?A])
  (λi p r s ⟨⟨y3,y4,h1⟩,h2⟩ hp=>by
   rw[Y2] at h2 ⊢;subst h1 h2;rw[mw,Ys] at hp;have hi:i < m.length:=by
    by_cases z:i < ?A;·exact z
    ·rw[YR ?D] at hp;simp at hp
   rw[zh hi] at hp;simp only[Y5,acH,Y2] at hp;subst hp;have ht:=ok.bc hi ha;have hl:=ok.len _ (aY hi);have g1:(st++i9 m a i++[kI ?O ?A])[?O+?A]?=Δ (kI ?O ?A):=by rw[show ?O+?A=(st++i9 m a i).length by simp[b8]];simp
   have g2:(st++i9 m a i++[kI ?O ?A])[?O+bc m i a]?=Δ (O.lst (((Yh i).filter λs=>decide (bc m s a=bc m i a)).map λx=>P.d (nD x))):=by rw[Lc (by rw[b8];exact ht),jY ht]
   refine⟨_,[Δ ?N,Δ ?Qx,Δ (.obj (?O+?A)),Δ (.d (nD i)),Δ (.d (e8 (row m i)))],st++i9 m a (i+1)++[kI ?O ?A],rfl,?_,⟨⟨_,_,rfl⟩,rfl⟩⟩;refine ag (mT (x:=.obj (?O+bc m i a)) (v:=.d (nD i)) (its:=((Yh i).filter λs=>decide (bc m s a=bc m i a)).map λx=>P.d (nD x)) (st1:=st++i9 m a i++[kI ?O ?A]) (st2:=st++i9 m a i++[kI ?O ?A]) ?_ (gv g2) (by simp[nD]) ?_) aw;·generalize st++i9 m a i++[kI ?O ?A]=S at g1 g2;have e1:nZ ((row m i).2.map nD) (a:Int)=Δ (nD (bc m i a)):=S9 ok hi ha;simp[e8,wD,e1,nD,gj g1 (show((Yh ?A).map λt=>P.obj (?O+t))[bc m i a]?=Δ (.obj (?O+bc m i a)) by simp[ht])]
   ·rw[iy g2 (by
     have:((Yh i).filter λs=>decide (bc m s a=bc m i a)).length<=i:=by have:=Zv (λs=>decide (bc m s a=bc m i a)) (Yh i);simpa using this
     unfold aq;simp only[Yr]
     lia),Lb (by rw[b8];exact ht),FH]) ⟨⟨Θ,Θ,rfl⟩,rfl⟩
 rw[qE,Yr,Y2] at q2;subst q1 q2;refine ag (de (ps:=dS 0 (m.map e8)) (st1:=st++i9 m a 0++[kI ?O ?A]) (by simp[ay,iA,mD]) e) ?_;exact aM (cy ?E)
end
section
variable{m:cq}{w b:Nat}{mb:List Nat}{st aJ:aK}{h:n6}
theorem mY n(hs:HS m w b mb st h)(hg:g < h.jd.length)(hw:h.wait.length < aq):
  callC Fs (n+1) 21 [.obj 0,.d (nD g)] st=.ok (.d .bC) ((st.set (b+5) ?Zh).set (b+6) (jU (h.jd.set g Λ))):=by
 refine lJ nU rfl rfl (r:=[Δ ?V,Δ (.d (nD g))]) ?_;have hl:=hs.len;have e1:(st.set (b+5) ?Zh)[b+6]?=Δ (jU h.jd):=by rw[Yp ?D];exact hs.jd
 have s1:(st.set (b+5) ?Zh)[0]?=Δ (iW b):=by rw[Yp ?D];exact hs.self
 refine ag (mT (x:=.obj (b+5)) (v:=.d (nD g)) (its:=h.wait.map λs=>P.d (nD s)) (st1:=st) (st2:=st) (di rfl hs.self rfl) (gv hs.Qo) (by simp[ay,cJ]) (st3:=st.set (b+5) ?Zh) ?_) ?_;·rw[iy hs.Qo (by simpa using hw)];simp[encL]
 ·refine ag (mU (x:=.obj (b+6)) (k:=.d (nD g)) (v:=.d ?QV) (st1:=st.set (b+5) ?Zh) (st2:=st.set (b+5) ?Zh) (st3:=st.set (b+5) ?Zh) ?E (di rfl s1 rfl) (by simp[ay,cJ]) ?_) (st1:=(st.set (b+5) ?Zh).set (b+6) (jU (h.jd.set g Λ))) aw;·rw[show nD g=.int (g:Int) from rfl,tz e1 (by simpa using hg)];simp[jU,ac9]
end
section
variable{m:cq}{w b:Nat}{mb:List Nat}{st aJ:aK}{h:n6}
theorem vF n(hs:HS m w b mb st h)(hl:st[l]?=Δ (encL ss))(ho:Ge b mb l)(hg:g < ?P)(NB:∀s∈ss,s∈h.mem.getD g [])(FA:ss.Nodup)(Xm:∀s∈ss,s < h.grp.length)(Uo:h.jd.length=?P)(hw:h.wait.length < aq)(hml:?P < 1000000)(hsl:ss.length < 1000000):
  ∃vY aJ,callC Fs (n+2) 22 [.obj 0,.d (nD g),.obj l] st=.ok (.d .bC) aJ/\HS m w b vY aJ (aB h g ss)/\?O<=aJ.length/\∀i,i < ?O->Ge b mb i->aJ[i]?=st[i]?/\Ge b vY i:=by
 obtain⟨a,Tr,Ow,ha3,ha4⟩:=hs.mem g hg;have hlen:=hs.len;have UZ:a≠l:=λz=>ho.2 (z▸Yz Tr);have U0:l < st.length:=(qqz hl).1;have hll2:=ho.1;have eN:ss.length=(ss.map λs=>P.d (nD s)).length:=by simp
 have e1:ae ?M (.ix (.attr "Groups" "members" 0) ?Qk) (ay 6 [.obj 0,.d (nD g),.obj l]) st=.ok (.obj a) st:=by rw[bH,di rfl hs.self rfl,aa];simp only[ay,aR,nD];simp[gj hs.MD (show(mb.map P.obj)[g]?=Δ (.obj a) by rw[Ys,Tr];rfl)]
 have el:sf .len [.obj l] st=Δ (.d (.int (ss.length:Nat))):=by rw[gy hl];simp
 have ea:sf .len [.obj a] st=Δ (.d (.int ((h.mem.getD g []).length:Nat))):=by have:=Im (show st[a]?=Δ (.dK _) from ha4);rw[this];simp
 by_cases hc:ss.length=(h.mem.getD g []).length
 ·refine⟨mb,st,?_,?_,Yt _,λi _ hi=>⟨rfl,hi⟩⟩
  ·refine yZ ie rfl rfl (ag (aZ e1) (aM (jP (st1:=st) ?_ (aM uu))));simp[ay,bB,el,ea];rw[Ym] at hc
   lia
  ·unfold aB;rw[if_pos hc];exact hs
 ·
  let fr:=?P
  let nw:=?O
  let J:Nat->aK->Prop:=λi s=>s.length=?O+1/\(∀k,k < ?O->k≠a->k≠b+1->k≠b+4->k≠b+6->s[k]?=st[k]?)/\s[a]?=Δ (encM ((h.mem.getD g []).filter λx=>decide (x∉ss.take i)))/\s[?O]?=Δ (encM (ss.take i))/\
   s[b+1]?=Δ (encL (putAll ?P (ss.take i) h.grp))/\s[b+4]?=Δ (.lst ((mb++[?O]).map P.obj))/\s[b+6]?=Δ (jU (h.jd++[Ξ]))
  have ab:a≠b+1/\a≠b+4/\a≠b+5/\a≠b+6/\a≠b/\0 < a:=by rcases Ow with z|z|z<;>lia
  have J0:J 0 (((st++[O.dK []]).set (b+4) (.lst ((mb++[?O]).map P.obj))).set (b+6) (jU (h.jd++[Ξ]))):=by
   refine⟨by simp,λk hk k1 k2 k3 k4=>?_,?_,?_,?_,?_,?_⟩;·rw[Yp (Zq k4),Yp (Zq k3),Yq hk]
   ·rw[Yp ?D,Yp ?D,Yq ha3,ha4,List.take_zero];congr 2;exact(List.filter_eq_self.mpr λx _=>by simp).symm
   ·rw[Yp ?D,Yp ?D];simp[encM]
   ·rw[Yp ?D,Yp ?D,Yq ?D,hs.grp];simp[putAll]
   ·rw[Yp ?D,YL (by simp;lia)]
   ·rw[YL (by simp;lia)]
  obtain⟨r',s',e,⟨y5,q1⟩,q2⟩:=lI (n:=l) (g:=gf (.nm 5)) (b:=ah ?M gN) (xs:=ss.map λs=>P.d (nD s)) (I:=λi r s=>(∃y5,r=[Δ ?V,Δ (.d (nD g)),Δ (.obj l),Δ (.obj a),Δ (.d (nD ?P)),y5])/\J i s)
   (λi r s hi=>by rw[hi.2.2.1 l U0 (Zq UZ) ?D ?D ?D,hl];rfl)
   (λi p r s ⟨⟨y5,h1⟩,j1,j2,j3,j4,j5,j6,j7⟩ hp=>by
    subst h1;rw[Ys] at hp;cases MG:ss[i]? with
    |none=>rw[MG] at hp;cases hp|some x=>
     rw[MG] at hp;cases hp;have hx:=Yz MG;have s0:s[0]?=Δ (iW b):=by rw[j2 0 ?D ?D ?D ?D ?D];exact hs.self
     have xr:x∈(h.mem.getD g []).filter λy=>decide (y∉ss.take i):=by rw[Zg];exact⟨NB x hx,by simpa using Bv FA MG⟩
     have tl:(ss.take i).length < aq:=Lf i hsl;have p1:=IF j3 xr;have k4:(s.set a ?Qg)[?O]?=Δ (encM (ss.take i)):=by rw[Yp ?D];exact j4
     have k6:(s.set a ?Qg)[b+4]?=Δ (.lst ((mb++[?O]).map P.obj)):=by rw[Yp ?D];exact j6
     have k0:(s.set a ?Qg)[0]?=Δ (iW b):=by rw[Yp ?D];exact s0
     have k5:(s.set a ?Qg)[b+1]?=Δ (encL (putAll ?P (ss.take i) h.grp)):=by rw[Yp ?D];exact j5
     have p2:=vn k4 (Bv FA MG) tl;generalize U1:s.set a ?Qg=S1 at*;have S1l:S1.length=?O+1:=by rw[<-U1];simpa using j1
     have l5:(S1.set ?O (encM (ss.take i++[x])))[b+1]?=Δ (encL (putAll ?P (ss.take i) h.grp)):=by rw[Yp ?D];exact k5
     have l0:(S1.set ?O (encM (ss.take i++[x])))[0]?=Δ (iW b):=by rw[Yp ?D];exact k0
     have p3:=tz (v:=P.d (nD ?P)) l5 (i:=x) (by simp only[Yr,nL];exact Xm x hx);refine⟨_,[Δ ?V,Δ (.d (nD g)),Δ (.obj l),Δ (.obj a),Δ (.d (nD ?P)),Δ (.d (nD x))],(S1.set ?O (encM (ss.take i++[x]))).set (b+1) (encL (putAll ?P (ss.take (i+1)) h.grp)),rfl,?_,⟨_,rfl⟩,?_,λk hk k1 k2 k3 k4=>?_,?_,?_,?_,?_,?_⟩
     ·refine ag (nJ (v:=.d ?QV) (st1:=S1) ?_) ?_;·rw[ui];simp[IE j3,p1]
      refine ag (mU (x:=.obj ?O) (k:=.d (nD x)) (v:=.d ?QV) (st1:=S1) (st2:=S1) (st3:=S1) ?E ?_ ?E p2) ?_;·rw[bH,di rfl k0 rfl,aa];have:=gj k6 (i:=?P) (p:=.obj ?O) (by rw[Ys,YH (by rw[hs.sv];exact Yt _),hs.sv];simp);simp[nD,this]
      refine ag (mU (x:=.obj (b+1)) (k:=.d (nD x)) (v:=.d (nD ?P)) (st1:=S1.set ?O (encM (ss.take i++[x]))) (st2:=S1.set ?O (encM (ss.take i++[x]))) (st3:=S1.set ?O (encM (ss.take i++[x]))) ?E (di rfl l0 rfl) ?E (show nv _ (.d (.int (x:Int))) _ _=_ from p3)) ?_;rw[aw];simp only[encL,<-ac9,Bu MG];rfl
     ·simpa using S1l
     ·rw[Yp ?D,Yp ?D,<-U1,Yp ?D];exact j2 k hk k1 k2 k3 k4
     ·rw[Yp ?D,Yp ?D,<-U1,YL ?D,Bt MG]
     ·rw[Yp ?D,YL ?D];have e:ss.take (i+1)=ss.take i++[x]:=by rw[ZA,MG];rfl
      rw[e]
     ·rw[YL (by simp;lia)]
     ·rw[Yp ?D,Yp ?D];exact k6
     ·rw[Yp ?D,Yp ?D,<-U1,Yp ?D];exact j7)
   cF (i:=0) ⟨⟨Θ,rfl⟩,J0⟩ (Zr _) (by simp[cF];lia)
  subst q1;rw[Yr] at q2;obtain⟨j1,j2,j3,j4,j5,j6,j7⟩:=q2;rw[Zs (Yt _)] at j3 j4 j5;have s0:s'[0]?=Δ (iW b):=by rw[j2 0 ?D ?D ?D ?D ?D];exact hs.self
  have hS:HS m w b (mb++[?O]) s' ⟨putAll ?P ss h.grp,h.mem.set g ?Qt++[ss],h.wait,h.jd++[Ξ]⟩:=by
   refine⟨by lia,hs.b0,s0,?_,j5,j6,by simp[hs.sv],λk hk=>?_,?_,?_,j7⟩
   ·obtain⟨outer,o1,o2,o3⟩:=hs.src;have hb0:=hs.b0;refine⟨outer,by rw[j2 b ?D ?D ?D ?D ?D];exact o1,o2,λa' UE=>?_⟩;have ab':b+2<=a:=by rcases Ow with z|z|z<;>lia
    obtain⟨o,rows,f1,f2,f3,f4,f5⟩:=o3 a' UE;refine⟨o,rows,f1,f2,f3,by rw[j2 o ?D ?D ?D ?D ?D];exact f4,λt ht=>?_⟩;obtain⟨l',g1,g2,g3,g4⟩:=f5 t ht;exact⟨l',g1,g2,g3,by rw[j2 l' ?D ?D ?D ?D ?D];exact g4⟩
   ·by_cases wb:k < ?P
    ·by_cases wc:k=g;·subst wc;refine⟨a,by rw[Yq (by rw[hs.sv];exact wb)];exact Tr,Ow,by lia,?_⟩;rw[j3];show _=Δ (encM ((h.mem.set k _++[ss]).getD k []));rw[iV (by simpa using wb),fg wb]
     ·obtain⟨a',c1,c2,c3,c4⟩:=hs.mem k wb;have:a'≠a:=λz=>wc (by rw[z] at c1;obtain⟨x1,y1⟩:=qqz c1;obtain⟨x2,y2⟩:=qqz Tr;exact zr hs.Tf x1 x2 (y1.trans y2.symm));refine⟨a',by rw[Yq (by rw[hs.sv];exact wb)];exact c1,c2,by lia,?_⟩;rw[j2 a' c3 this (by rcases c2 with z|z|z<;>lia) (by rcases c2 with z|z|z<;>lia) (by rcases c2 with z|z|z<;>lia),c4];show _=Δ (encM ((h.mem.set g _++[ss]).getD k []));rw[iV (by simpa using wb),dG (Zq wc)]
    ·have e2:k=h.mem.length:=by simp at hk;lia
     subst e2;refine⟨?O,by rw[<-hs.sv];simp,.inr (.inr hlen),by lia,?_⟩;rw[j4];show _=Δ (encM ((h.mem.set g _++[ss]).getD ?P []));congr 2;have:=jt (l:=h.mem.set g ?Qt) (x:=ss) (d:=[]);rw[ZH] at this;exact this.symm
   ·rw[Ze];refine⟨hs.Tf,by simp,λx hx y hy=>?_⟩;simp at hy;subst hy;have:=(hs.mad hx).2
    lia
   ·rw[j2 (b+5) ?D ?D ?D ?D ?D];exact hs.Qo
  have sl:s'[l]?=Δ (encL ss):=by rw[j2 l U0 (Zq UZ) ?D ?D ?D];exact hl
  have ll:sf .len [.obj l] s'=Δ (.d (.int (ss.length:Nat))):=by rw[gy sl];simp
  have la:sf .len [.obj a] s'=Δ (.d (.int (((h.mem.getD g []).filter λx=>decide (x∉ss)).length:Nat))):=by have:=Im (show s'[a]?=Δ (.dK _) from j3);rw[this];simp
  have gw:g < h.jd.length:=by lia
  have wg:(h.jd++[Ξ])[g]?=Δ (h.jd.getD g Ξ):=by rw[Yq gw,Ym,Yn gw];rfl
  have wx:=gj j7 (i:=g) (p:=.d (.bl (h.jd.getD g Ξ))) (by rw[Ys,wg];rfl);have fr2:∀(s2:aK) (x y:O),s2=(s'.set (b+5) x).set (b+6) y->?O<=s2.length/\∀i,i < ?O->Ge b mb i->s2[i]?=st[i]?/\Ge b (mb++[?O]) i:=λs2 x y e2=>by
   subst e2;refine⟨by simp;lia,λi hi U2=>?_⟩;have:=U2.1;have hia:i≠a:=λz=>U2.2 (z▸Yz Tr);refine⟨by rw[Yp ?D,Yp ?D];exact j2 i hi hia ?D ?D ?D,U2.1,λz=>?_⟩;rcases abh.mp z with z|z;·exact U2.2 z
   ·simp at z;lia
  have fin:∃r2 s2,ah ?M (bB.body.drop 6) [Δ ?V,Δ (.d (nD g)),Δ (.obj l),Δ (.obj a),Δ (.d (nD ?P)),y5] s'=.ok (.nx r2) s2/\HS m w b (mb++[?O]) s2 (aB h g ss)/\?O<=s2.length/\∀i,i < ?O->Ge b mb i->s2[i]?=st[i]?/\Ge b (mb++[?O]) i:=by
   by_cases Gc:h.jd.getD g Ξ=Λ\/ss.length<=((h.mem.getD g []).filter λx=>decide (x∉ss)).length
   ·have lw:=mY n hS (g:=?P) (by simp;lia) hw;have hq:=hS.Th ?P;obtain⟨f1,f2⟩:=fr2 _ _ _ rfl;refine⟨_,_,ag (jP (st1:=s') ?_ (ag (nJ (v:=.d .bC) (o9 rfl s0 rfl (ps:=[.d (nD ?P)]) (st1:=s') ?E lw)) aw)) aw,?_,f1,f2⟩;·rw[oK,jJ,bH,di rfl s0 rfl];simp only[aa,aR,Yv,Yu,YM,au,nD,wx];cases XI:h.jd.getD g Ξ with|true=>simp|false=>rw[XI] at Gc;have Ts:=Gc.resolve_left ?T;simp[ll,la];rw[Ym] at Ts;simpa using Ts
    ·unfold aB;rw[if_neg hc];dsimp only;rw[if_pos Gc];exact hq
   ·have lw:=mY n hS (g:=g) (by simp;lia) hw;have hq:=hS.Th g;obtain⟨f1,f2⟩:=fr2 _ _ _ rfl;refine⟨_,_,ag (gH (st1:=s') ?_ (ag (nJ (v:=.d .bC) (o9 rfl s0 rfl (ps:=[.d (nD g)]) (st1:=s') ?E lw)) aw)) aw,?_,f1,f2⟩
    ·rw[oK,jJ,bH,di rfl s0 rfl];simp only[aa,aR,Yv,Yu,YM,au,nD,wx];have h1:h.jd.getD g Ξ=Ξ:=by cases XI:h.jd.getD g Ξ with|true=>exact absurd (.inl XI) Gc|false=>rfl
     rw[h1];have h2:¬ss.length<=((h.mem.getD g []).filter λx=>decide (x∉ss)).length:=λz=>Gc (.inr z);simp[ll,la];rw[Ym] at h2;simpa using h2
    ·unfold aB;rw[if_neg hc];dsimp only;rw[if_neg Gc];exact hq
  obtain⟨r2,s2,f0,f1,f2,f3⟩:=fin;refine⟨mb++[?O],s2,lJ ie rfl rfl (r:=r2) ?_,f1,f2,f3⟩;refine ag (aZ e1) (ag (gH (st1:=st) ?_ aw) (ag (aZ (v:=.d (nD ?P)) (st1:=st) ?_) ?_))
  ·have:((ss.length:Int)==((h.mem.getD g []).length:Int))=Ξ:=by rw[beq_eq_false_iff_ne];lia
   simp[ay,bB,el,ea];rw[Ym] at hc
   lia
  ·rw[bT,ak,di rfl hs.self rfl];simp[gy hs.MD,nD,hs.sv]
  refine ag (mT (x:=.obj (b+4)) (v:=.obj ?O) (its:=mb.map P.obj) (st1:=st) (st2:=st++[O.dK []]) (di rfl hs.self rfl) (gv hs.MD) ?E (st3:=(st++[O.dK []]).set (b+4) (.lst ((mb++[?O]).map P.obj))) ?_) ?_;·rw[iy (xs:=mb.map P.obj) (by rw[Yq ?D];exact hs.MD) (by simp[aq,hs.sv];lia)];simp
  have t0:((st++[O.dK []]).set (b+4) (.lst ((mb++[?O]).map P.obj)))[0]?=Δ (iW b):=by rw[Yp ?D,Yq ?D];exact hs.self
  have t6:((st++[O.dK []]).set (b+4) (.lst ((mb++[?O]).map P.obj)))[b+6]?=Δ (jU h.jd):=by rw[Yp ?D,Yq ?D];exact hs.jd
  refine ag (mT (x:=.obj (b+6)) (v:=.d ?Zj) (its:=h.jd.map λb=>P.d (.bl b)) (st1:=(st++[O.dK []]).set (b+4) (.lst ((mb++[?O]).map P.obj))) (st2:=(st++[O.dK []]).set (b+4) (.lst ((mb++[?O]).map P.obj))) (di rfl t0 rfl) (gv t6) ?E (st3:=((st++[O.dK []]).set (b+4) (.lst ((mb++[?O]).map P.obj))).set (b+6) (jU (h.jd++[Ξ]))) ?_) ?_;·rw[iy t6 (by simp[aq];lia)];simp[jU]
  refine ag (zf (n:=l) (st1:=((st++[O.dK []]).set (b+4) (.lst ((mb++[?O]).map P.obj))).set (b+6) (jU (h.jd++[Ξ]))) (by simp[ay,bB]) e) f0
end
section
variable{m:cq}{w b:Nat}{mb:List Nat}{st aJ:aK}{h:n6}{T:List Nat}{R:Nat->Prop}{a:Nat}
theorem BG n(ok:cL w m)(hm:?A<=100000)(hs:HS m w b mb st h)(hi:kC w m T R h)(ha:a < w)(Lx:T.Nodup)(XJ:∀t∈T,t < ?A)(hml:?P < 1000000):
  ∃y4 y5 s dl,forL (gf (.nm 4)) (ah ?L cZ) ((T.map nD).map .d) [Δ ?V,Δ ?Qs,Δ ?Qx,Δ (.obj ?O),Θ,Θ,Θ,Θ] (st++[O.dK []])
   =.ok (.nx [Δ ?V,Δ ?Qs,Δ ?Qx,Δ (.obj ?O),y4,y5,Θ,Θ]) s/\GS h.grp ?O st s (T.flatMap (dN m a)) dl:=by
 have hlen:=hs.len;have MH:∀(l:List Nat),l.Nodup->(∀x∈l,x < ?A)->l.length<=m.length:=λl h1 h2=>by
  have:=fB h1 (xs:=Yh ?A) λs hs=>by simpa using h2 s hs
  simpa using this
 have FN:=tB (m:=m) (a:=a) Lx;have FL:∀x∈T.flatMap (dN m a),x < m.length:=λx hx=>(o7.mp hx).1;have flen:=MH _ FN FL;have one:∀(s:aK) (done:List Nat) (dl:List ME) (x:Nat) (y4 y5:Option P),GS h.grp ?O st s done dl->done.length < 1000000->(∀t∈dl,t.1 < ?P)->x < ?A->
   ∃s2 Pr,ah ?L cY [Δ ?V,Δ ?Qs,Δ ?Qx,Δ (.obj ?O),y4,Δ (.d (nD x)),Θ,Θ] s=.ok (.nx [Δ ?V,Δ ?Qs,Δ ?Qx,Δ (.obj ?O),y4,Δ (.d (nD x)),Θ,Θ]) s2/\GS h.grp ?O st s2 (done++[x]) Pr:=by
  intro s done dl x y4 y5 G hd hk hx;have s0:s[0]?=Δ (iW b):=by rw[G.pre 0 ?D];exact hs.self
  have s1:s[b+1]?=Δ (encL h.grp):=by rw[G.pre (b+1) ?D];exact hs.grp
  have knd:(dl.map (·.1)).Nodup:=by have:=(dZ h.grp done).1;rw[<-G.proj,aae] at this;exact this
  have Ro:dl.length < aq:=by
   have:=fB knd (xs:=Yh ?P) λg hg=>by obtain⟨t,ht,rfl⟩:=aad.mp hg;simpa using hk t ht
   simp at this;unfold aq
   lia
  obtain⟨v,its,s1',s2,Pr,e1,e2,e3,G'⟩:=G.next (x:=x) Ro (by unfold aq;lia);refine⟨s2,Pr,?_,G'⟩;have hD:bF s (.obj ?O)=Δ (.dK (vX dl)):=by exact mq G.rP
  have gx:(h.grp.map λs=>P.d (nD s))[x]?=Δ (.d (nD (h.grp.getD x 0))):=by
   have:x < h.grp.length:=by rw[hi.su];exact hx
   rw[Ys,Yn this,Ym,Yn this];rfl
  refine ag (mT (x:=v) (v:=.d (nD x)) (its:=its) (st1:=s1') (st2:=s1') (st3:=s2) ?_ e2 ?E e3) aw;rw[lx];simp only[aR,Yu,Yv,YM,au,aa,hD];rw[bH,di rfl s0 rfl,aa];simp only[aR,Yu,Yv,YM,au,aa];rw[show nD x=.int (x:Int) from rfl,gj s1 gx,au,aa,fw,iJ,az,aa];simp only[aaj,Zr,if_true,aa];rw[e1,au,aa]
 obtain⟨outer,o1,o2,o3⟩:=hs.src;obtain⟨o,rows,f1,f2,f3,f4,f5⟩:=o3 a ha;have XM:∀{s:aK} {done:List Nat} {dl:List ME},GS h.grp ?O st s done dl->(∀x∈done,x < ?A)->∀t∈dl,t.1 < h.mem.length:=λ{s done dl} G hd t ht=>by
  have:(t.1,t.2.1)∈cI h.grp done:=by rw[<-G.proj];exact aad.mpr ⟨t,ht,rfl⟩
  obtain⟨q1,q2⟩:=(dZ h.grp done).2.1 _ _ this;cases z:t.2.1 with
  |nil=>exact absurd z q2|cons x r=>
   have hx:x∈t.2.1:=by rw[z];simp
   rw[q1,Zg,qqq] at hx;rw[<-hx.2];exact hi.blt x (hd x hx.1)
 obtain⟨r',s',e,⟨y4,y5,q1⟩,dl,q2⟩:=dY (g:=gf (.nm 4)) (b:=ah ?L cZ) (ps:=(T.map nD).map .d) (k:=0) (r:=[Δ ?V,Δ ?Qs,Δ ?Qx,Δ (.obj ?O),Θ,Θ,Θ,Θ]) (st:=st++[O.dK []])
  (I:=λk r s=>(∃y4 y5,r=[Δ ?V,Δ ?Qs,Δ ?Qx,Δ (.obj ?O),y4,y5,Θ,Θ])/\∃dl,GS h.grp ?O st s ((T.take k).flatMap (dN m a)) dl)
  (λi p r s ⟨⟨y4,y5,h1⟩,dl,G⟩ hp=>by
   rw[Y2] at G ⊢;subst h1;rw[aae,Ys] at hp;cases Jw:T[i]? with
   |none=>rw[Jw] at hp;cases hp|some t=>
    rw[Jw] at hp;cases hp;have htT:=Yz Jw;obtain⟨l,g1,g2,g3,g4⟩:=f5 t (XJ t htT);have LB:(T.take (i+1)).flatMap (dN m a)=(T.take i).flatMap (dN m a)++dN m a t:=by rw[ZA,Jw,Zy];simp
    have XN:∀j,∃rest,T.flatMap (dN m a)=(T.take i).flatMap (dN m a)++(dN m a t).take j++rest:=λj=>by
     refine⟨(dN m a t).drop j++(T.drop (i+1)).flatMap (dN m a),?_⟩;have h1:T.flatMap (dN m a)=(T.take (i+1)).flatMap (dN m a)++(T.drop (i+1)).flatMap (dN m a):=by rw[<-Zy,ab7]
     rw[h1,LB];simp only[Zf];rw[<-Zf ((dN m a t).take j),ab7]
    obtain⟨r2,s2,e2,⟨FI,z1⟩,dl2,G2⟩:=lI (n:=l) (g:=gf (.nm 5)) (b:=ah ?L cY) (xs:=(dN m a t).map λs=>P.d (nD s)) (I:=λj r s=>(∃y5,r=[Δ ?V,Δ ?Qs,Δ ?Qx,Δ (.obj ?O),Δ ?Zf,y5,Θ,Θ])/\∃dl,GS h.grp ?O st s ((T.take i).flatMap (dN m a)++(dN m a t).take j) dl)
     (λj r s ⟨_,dl,G⟩=>by rw[G.pre l ?D];exact g4)
     (λj p r s ⟨⟨y5,h1⟩,dl,G⟩ hp=>by
      subst h1;rw[Ys] at hp;cases hx:(dN m a t)[j]? with
      |none=>rw[hx] at hp;cases hp|some x=>
       rw[hx] at hp;cases hp;obtain⟨rest,hr⟩:=XN j;have XO:∀y∈(T.take i).flatMap (dN m a)++(dN m a t).take j,y < m.length:=λy hy=>FL y (by rw[hr];exact Zj _ hy);have XQ:((T.take i).flatMap (dN m a)++(dN m a t).take j).length < 1000000:=by
        have:=congrArg acI hr;simp only[YF] at this ⊢
        lia
       have hxm:x < m.length:=(lN.mp (Yz hx)).1;obtain⟨s2,Pr,e2,G2⟩:=one s _ dl x (Δ ?Zf) Θ G XQ (XM G XO) hxm;refine⟨_,_,s2,rfl,e2,⟨_,rfl⟩,Pr,?_⟩;rw[ZA,hx];simpa using G2)
     cF (i:=0) (r:=[Δ ?V,Δ ?Qs,Δ ?Qx,Δ (.obj ?O),Δ ?Zf,y5,Θ,Θ]) (st:=s) ⟨⟨y5,rfl⟩,dl,by simpa using G⟩ (Zr _) (by have:(dN m a t).length<=m.length:=MH _ ((aas).filter _) λx hx=>(lN.mp hx).1;simp[cF];lia)
    subst z1;rw[Yr,Zs (Yt _),<-LB] at G2;refine⟨_,[Δ ?V,Δ ?Qs,Δ ?Qx,Δ (.obj ?O),Δ ?Zf,FI,Θ,Θ],s2,rfl,?_,⟨_,_,rfl⟩,dl2,G2⟩;have s0:s[0]?=Δ (iW b):=by rw[G.pre 0 ?D];exact hs.self
    refine ag (zf (n:=l) (st1:=s) ?_ e2) aw;rw[bH,bH,di rfl s0 rfl,aa];have h1:=gj (st:=s) (n:=b) (by rw[G.pre b ?D];exact o1) (i:=a) (p:=.obj o) (by rw[Ys,f1];rfl);have h2:=gj (st:=s) (n:=o) (by rw[G.pre o ?D];exact f4) (i:=t) (p:=.obj l) (by rw[Ys,g1];rfl);simp only[aR,abp,Yu,Yv,YM,au,aa,nD,Function.comp,h1,h2]) ⟨⟨Θ,Θ,rfl⟩,[],by
   refine⟨rfl,by simp[vX],(λt h=>nomatch h),by simp,λi hi=>Yq hi,by simp⟩⟩
 subst q1;rw[Yr,Yr,Y2,Zs (Yt _)] at q2;exact⟨y4,y5,s',dl,e,q2⟩
theorem pB n(ok:cL w m)(hm:?A<=100000)(hs:HS m w b mb st h)(hi:kC w m T R h)(hn:wF h)(ha:a < w)(hT:∀x y,x < ?A->y < ?A->x∈T->y∉T->¬gI w m x m y)(Lx:T.Nodup)(XJ:∀t∈T,t < ?A):
  ∃vY aJ,callC Fs (n+3) 23 [.obj 0,.d (.pl (T.map nD)),.d (nD a)] st=.ok (.d .bC) aJ/\HS m w b vY aJ (eI m h T a):=by
 have hlen:=hs.len;have bd:=wF.bound hi hn;obtain⟨y4,y5,s,dl,eg,G⟩:=BG (n+2) ok hm hs hi ha Lx XJ ?D;have FN:=tB (m:=m) (a:=a) Lx;have L:=λs=>o7 (m:=m) (T:=T) (a:=a) (s:=s);obtain⟨s1,s2,s3⟩:=dZ h.grp (T.flatMap (dN m a));have knd:(dl.map (·.1)).Nodup:=by rw[<-G.proj,aae] at s1;exact s1
 have tM:HS m w b mb s h:=hs.keep (by have:=G.len;lia) λi hi _=>G.pre i hi;have Kb:∀i,?O<=i->Ge b mb i:=λi hi=>⟨by lia,λz=>by have:=(hs.mad z).2;lia⟩;have J5:HS m w b mb (s.set ?O .wm) h:=tM.put (Kb _ (Yt _)) _;have MI:∀t∈dl,t.1 < ?P/\(∀x,x∈t.2.1↔x∈h.mem.getD t.1 []/\bc m x a∈T)/\t.2.1.Nodup/\t.2.1≠[]:=λt ht=>by
  have hp:(t.1,t.2.1)∈cI h.grp (T.flatMap (dN m a)):=by rw[<-G.proj];exact aad.mpr ⟨t,ht,rfl⟩
  obtain⟨e,fm⟩:=s2 _ _ hp;have wb:t.1 < h.mem.length:=by
   cases q:t.2.1 with
   |nil=>exact absurd q fm|cons x r=>
    have hx:x∈t.2.1:=by rw[q];simp
    rw[e,Zg,qqq] at hx;rw[<-hx.2];exact hi.blt x ((L x).mp hx.1).1
  refine⟨wb,λx=>?_,by rw[e];exact FN.filter _,fm⟩;rw[e,Zg,qqq,L,(hi.mem t.1 wb).2];constructor;·rintro⟨⟨p,q⟩,r⟩;exact⟨⟨p,r⟩,q⟩
  ·rintro⟨⟨p,r⟩,q⟩;exact⟨⟨p,q⟩,r⟩
 obtain⟨r',sF,eF,⟨y6,y7,z1⟩,Tu,hF,z2,z3,z4,z5,z6⟩:=A7 (x:=6) (y:=7) (b:=ah (callC Fs (n+2)) fh) (ps:=vX dl) (k:=0) (r:=[Δ ?V,Δ ?Qs,Δ ?Qx,Δ (.obj ?O),y4,y5,Θ,Θ]) (st:=s.set ?O .wm)
  (I:=λk r s'=>(∃y6 y7,r=[Δ ?V,Δ ?Qs,Δ ?Qx,Δ (.obj ?O),y4,y5,y6,y7])/\∃vY h',h'=((dl.take k).map (λt=>(t.1,t.2.1))).foldl (λh e=>aB h e.1 e.2) h/\HS m w b vY s' h'/\kC w m T R h'/\wF h'/\
   (?O < s'.length/\Ge b vY ?O/\∀t∈dl.drop k,Ge b vY t.2.2/\s'[t.2.2]?=Δ (encL t.2.1)/\t.1 < h'.mem.length/\(∀x,x∈t.2.1↔x∈h'.mem.getD t.1 []/\bc m x a∈T)))
  (λi kv r s' ⟨⟨y6,y7,h1⟩,vY,h',c1,c2,c3,c4,c5,c6,c7⟩ hp=>by
   rw[Y2] at c1 c7 ⊢;subst h1;unfold vX at hp;rw[Ys] at hp;cases Jw:dl[i]? with
   |none=>rw[Jw] at hp;cases hp|some t=>
    rw[Jw] at hp;cases hp;have htd:=Yz Jw;obtain⟨U3,XR⟩:=qqz Jw;have edr:dl.drop i=t::dl.drop (i+1):=by rw[Zi U3,XR]
    obtain⟨d1,d2,d3,d4⟩:=c7 t (by rw[edr];exact Yk);obtain⟨_,_,d5,d6⟩:=MI t htd;have bd':=wF.bound c3 c4;have wl:h'.wait.length<=h'.mem.length:=by
     have:=fB c3.MC (xs:=Yh h'.mem.length) λg hg=>by simpa using((c3.wt g).mp hg).1
     simpa using this
    have tl:t.2.1.length<=m.length:=by
     have:=fB d5 (xs:=Yh ?A) λx hx=>by simpa using(((c3.mem t.1 d3).2 x).mp ((d4 x).mp hx).1).1
     simpa using this
    obtain⟨Tv,st2,g1,g2,g3,g4⟩:=vF n c2 (g:=t.1) (l:=t.2.2) (ss:=t.2.1) d2 d1 d3 (λx hx=>((d4 x).mp hx).1) d5 (λx hx=>by rw[c3.su];exact(((c3.mem t.1 d3).2 x).mp ((d4 x).mp hx).1).1) c3.nM (by unfold aq;lia) ?D ?D;obtain⟨i1,i2,i3,i4,i5,i6,i7⟩:=o6 c3 d3 ha d4 d5 d6 hT ok;have n1:=rN c3 c4 d3 (λx hx=>((d4 x).mp hx).1) d5 d6;have s0:=c2.self;refine⟨_,st2,ag (nJ (v:=.d .bC) (o9 rfl c2.self rfl (ps:=[.d (nD t.1),.obj t.2.2]) (st1:=s') (by simp[abp,yM,nD]) g1)) aw,⟨_,_,rfl⟩,Tv,_,?_,g2,i1,n1,by lia,(g4 ?O c5 c6).2,λu hu=>?_⟩;·rw[ZA,Jw,Y1,aag,<-c1];rfl
    ·obtain⟨u1,u2,u3,u4⟩:=c7 u (by rw[edr];exact Yi _ hu);have hul:u.2.2 < s'.length:=(qqz u2).1;obtain⟨v1,v2⟩:=g4 u.2.2 hul u1;have hut:u.1≠t.1:=λz=>by
      obtain⟨j,hj⟩:=acn hu;rw[List.getElem?_drop] at hj;obtain⟨Uv,hje⟩:=qqz hj;have:=zr knd (i:=i) (j:=i+1+j) (by simpa using U3) (by simpa using Uv) (by simp only[List.getElem_map,XR,hje];exact z.symm)
      lia
     exact⟨v2,by rw[v1];exact u2,by lia,λx=>by rw[u4,i5 u.1 u3 hut]⟩)
  ⟨⟨Θ,Θ,rfl⟩,mb,h,by simp,J5,hi,hn,by have:=G.len;simpa using this,Kb _ (Yt _),λt ht=>by rw[abt] at ht;obtain⟨q1,q2,q3⟩:=G.at_ t ht;obtain⟨p1,p2,_⟩:=MI t ht;exact⟨Kb _ ?D,by rw[Yp ?D];exact q3,p1,p2⟩⟩
 subst z1;obtain⟨z6,z7,_⟩:=z6;refine⟨Tu,sF.set ?O (.dK (vX dl)),lJ kH rfl rfl (r:=[Δ ?V,Δ ?Qs,Δ ?Qx,Δ (.obj ?O),y4,y5,y6,y7]) ?_,?_⟩;·refine ag (aZ (v:=.obj ?O) (st1:=st++[O.dK []]) ?E) ?_;refine ag (de (ps:=(T.map nD).map .d) (st1:=st++[O.dK []]) (by simp[ay,cu]) eg) ?_;exact ag (Pg (n:=?O) (kvs:=vX dl) (st1:=s) ?E G.rP eF) aw
 ·have e:hF=eI m h T a:=by rw[z2];unfold eI;rw[<-G.proj,Y2];unfold vX;rw[Yr,Zs (Yt _)]
  rw[<-e];exact z3.put z7 _
end
section
variable{m:cq}{w b:Nat}{mb:List Nat}{st aJ:aK}{h:n6}
theorem Pz(hs:HS m w b mb st h)g:HS m w b mb ((st.set (b+5) (encL h.wait.dropLast)).set (b+6) (jU (h.jd.set g Ξ))) (lO h g):=by
 have hl:=hs.len;have g0:∀i,i≠b+5->i≠b+6->((st.set (b+5) (encL h.wait.dropLast)).set (b+6) (jU (h.jd.set g Ξ)))[i]?=st[i]?:=λi h1 h2=>by rw[Yp (Zq h2),Yp (Zq h1)]
 refine⟨by simpa using hl,hs.b0,by rw[g0 0 ?D ?D];exact hs.self,?_,by rw[g0 _ ?D ?D];exact hs.grp,by rw[g0 _ ?D ?D];exact hs.MD,hs.sv,λk hk=>?_,hs.Tf,?_,?_⟩;·obtain⟨outer,e1,e2,e3⟩:=hs.src;refine⟨outer,by rw[g0 _ ?D ?D];exact e1,e2,λa ha=>?_⟩;obtain⟨o,rows,f1,f2,f3,f4,f5⟩:=e3 a ha;refine⟨o,rows,f1,f2,f3,by rw[g0 _ ?D ?D];exact f4,λt ht=>?_⟩;obtain⟨l,q1,q2,q3,q4⟩:=f5 t ht;exact⟨l,q1,q2,q3,by rw[g0 _ ?D ?D];exact q4⟩
 ·obtain⟨a,e1,e2,e3,e4⟩:=hs.mem k hk;refine⟨a,e1,e2,by simpa using e3,?_⟩;rw[g0 _ (by rcases e2 with z|z|z<;>lia) (by rcases e2 with z|z|z<;>lia)];exact e4
 ·rw[Yp ?D,YL ?D];rfl
 ·rw[YL (by simp;lia)];rfl
theorem FJ n(ok:cL w m)(hm:?A<=100000)(hw:w<=1000)(hs:HS m w b mb st h)(hc:vh w m h)(fm:h.wait≠[])y1 y2 y3:
  ∃y1' y2' U4 vY aJ,ah (callC Fs (n+3)) fM [Δ ?V,y1,y2,y3] st=.ok (.nx [Δ ?V,y1',y2',U4]) aJ/\HS m w b vY aJ (o8 m w h):=by
 obtain⟨g,ew,eg,gl,gnd,glt,hT,ip,hn⟩:=Ly ok hc fm;have hlen:=hs.len;obtain⟨a,a1,a2,a3,a4⟩:=hs.mem g gl;have wl:=hc.1.nM
 let s1:=st.set (b+5) (encL h.wait.dropLast)
 let s2:=s1.set (b+6) (jU (h.jd.set g Ξ))
 have tM:HS m w b mb s2 (lO h g):=Pz hs g;have p1:CH (.obj (b+5)) st=Δ (.d (nD g),s1):=by
  have hw5:st[b+5]?=Δ (.lst (h.wait.map λs=>P.d (nD s))):=hs.Qo;have hx:(h.wait.map λs=>P.d (nD s))[(h.wait.map λs=>P.d (nD s)).length - 1]?=Δ (.d (nD g)):=by rw[ew];simp
  unfold CH;simp only[hw5,hx,Y5];congr 2;show st.set _ (O.lst _)=st.set _ (encL _);unfold encL;rw[List.map_dropLast]
 have Rj:s1[0]?=Δ (iW b):=by show(st.set _ _)[0]?=_;rw[Yp ?D];exact hs.self
 have s16:s1[b+6]?=Δ (jU h.jd):=by show(st.set _ _)[b+6]?=_;rw[Yp ?D];exact hs.jd
 have p2:nv (.obj (b+6)) (.d (nD g)) (.d ?Zj) s1=Δ s2:=by rw[show nD g=.int (g:Int) from rfl,tz s16 (by simp;lia)];simp[s2,jU,ac9]
 obtain⟨a',c1,c2,c3,c4⟩:=tM.mem g gl;have p3:ae (callC Fs (n+3)) (.lst Ξ (.keys (.ix (.attr "Groups" "members" 0) ?Qk))) [Δ ?V,Δ (.d (nD g)),y2,y3] s2=.ok (.d (.pl ((h.mem.getD g []).map nD))) s2:=by
  rw[cH,uq,bH,di rfl tM.self rfl,aa];have h1:=gj tM.MD (i:=g) (p:=.obj a') (by rw[Ys,c1];rfl);have h2:uh s2 (.obj a')=Δ (a',(h.mem.getD g []).map λ(s:Nat)=>?Qr):=by have:s2[a']?=Δ (.dK ((h.mem.getD g []).map λ(s:Nat)=>?Qr)):=c4;unfold uh;simp only[this]
  simp only[aR,Yu,Yv,YM,au,aa,nD,h1,h2];have h3:(((h.mem.getD g []).map λ(s:Nat)=>?Qr).map λkv=>yM kv.1)=(h.mem.getD g []).map λs=>P.d (nD s):=by rw[aae];rfl
  rw[h3,cD];rfl
 let T:=h.mem.getD g []
 obtain⟨outer,o1,o2,o3⟩:=tM.src;obtain⟨r',sF,eF,⟨U4,z1⟩,Tu,hF,RF,z2,z3,z4,z5⟩:=dY (g:=gf (.nm 3)) (b:=ah (callC Fs (n+3)) ju) (ps:=(Yh w).map λk:Nat=>P.d ?W) (k:=0) (r:=[Δ ?V,Δ (.d (nD g)),Δ ?Qs,y3]) (st:=s2)
  (I:=λk r s=>(∃y3,r=[Δ ?V,Δ (.d (nD g)),Δ ?Qs,y3])/\∃vY h' R',h'=eJ m T (Yh k) (lO h g)/\HS m w b vY s h'/\kC w m T R' h'/\wF h')
  (λi p r s ⟨⟨y3,h1⟩,vY,h',R',c1,c2,c3,c4⟩ hp=>by
   rw[Y2] at c1 ⊢;subst h1;have hi:i < w:=by
    rw[Ys] at hp;by_cases z:i < w;·exact z
    ·rw[YR (by simpa using z)] at hp;cases hp
   have EY:p=.d (.int (i:Int)):=by rw[Ys,Zb hi] at hp;cases hp;rfl
   subst EY;obtain⟨Tv,st2,e1,e2⟩:=pB n ok hm c2 c3 c4 hi hT gnd glt;obtain⟨j1,j2,_,_⟩:=rO ok hi hT gnd c3 c4;refine⟨_,[Δ ?V,Δ (.d (nD g)),Δ ?Qs,Δ ?Qf],st2,rfl,ag (nJ (v:=.d .bC) (o9 rfl c2.self rfl (ps:=[.d (.pl (T.map nD)),.d (nD i)]) (st1:=s) (by simp[nD]) e1)) aw,⟨_,rfl⟩,Tv,_,_,?_,e2,j1,j2⟩;rw[Zn];unfold eJ at c1 ⊢;rw[aag,<-c1];rfl)
  ⟨⟨y3,rfl⟩,mb,lO h g,_,by simp[eJ],tM,ip,hn⟩
 subst z1;rw[Yr,YN,Y2] at z2;refine⟨Δ (.d (nD g)),Δ ?Qs,U4,Tu,sF,?_,by
  have:hF=o8 m w h:=by rw[z2];unfold o8;rw[eg]
  rw[<-this];exact z3⟩
 refine ag (aZ (v:=.d (nD g)) (st1:=s1) ?_) ?_;·rw[nA,di rfl hs.self rfl,aa,p1,au,aa]
 refine ag (mU (x:=.obj (b+6)) (k:=.d (nD g)) (v:=.d ?Zj) (st1:=s1) (st2:=s1) (st3:=s1) ?E (di rfl Rj rfl) ?E p2) ?_;refine ag (aZ (v:=.d (.pl (T.map nD))) (st1:=s2) p3) ?_;refine ag (de (ps:=(Yh w).map λk:Nat=>P.d ?W) (st1:=s2) (bV ?_ ?D) eF) aw;rw[bT,ak,di rfl tM.self rfl,aa,az,aa,aa,gy o1,au];simp[o2]
theorem BH n(ok:cL w m)(hm:?A<=100000)(hw:w<=1000)(hs:HS m w b mb st h)(hc:vh w m h)(hK:h.wait.length+(?A+2 - ?P)<=K)(hK2:K < 1000000):
  ∃vY aJ,callC Fs (n+4) 24 [.obj 0] st=.ok (.d .bC) aJ/\HS m w b vY aJ (settle m w K h):=by
 obtain⟨r',sF,eF,Tu,zF⟩:=mr (c:=bY (ae (callC Fs (n+3)) (.cmp .gt (.bf .len [.attr "Groups" "waiting" 0]) ?Y))) (b:=ah (callC Fs (n+3)) fM)
  (I:=λk r s=>(∃y1 y2 y3,r=[Δ ?V,y1,y2,y3])/\∃vY h',HS m w b vY s h'/\vh w m h'/\h'.wait.length+(?A+2 - h'.mem.length)<=k/\settle m w k h'=settle m w K h)
  (E:=λr s=>∃vY,HS m w b vY s (settle m w K h))
  (λk r s ⟨⟨y1,y2,y3,h1⟩,vY,h',c1,c2,c3,c4⟩=>by
   subst h1;have ec:bY (ae (callC Fs (n+3)) (.cmp .gt (.bf .len [.attr "Groups" "waiting" 0]) ?Y)) [Δ ?V,y1,y2,y3] s=.ok (decide (0 < h'.wait.length)) s:=by unfold bY;rw[bx,bT,ak,di rfl c1.self rfl];simp[gy c1.Qo]
   by_cases Qp:h'.wait=[]
   ·refine .inl ⟨by rw[ec,Qp];rfl,vY,?_⟩;have:settle m w k h'=h':=by cases k with|zero=>rfl|succ k=>unfold Y.settle;rw[if_pos Qp]
    rw[<-c4,this];exact c1
   ·have KL:0 < h'.wait.length:=List.length_pos_iff.mpr Qp;obtain⟨j,rfl⟩:∃j,k=j+1:=Nat.exists_eq_succ_of_ne_zero (Zx (YO KL (Zc (aaH ..) c3)));obtain⟨y1',y2',U4,Tv,st2,e1,e2⟩:=FJ n ok hm hw c1 c2 Qp y1 y2 y3;obtain⟨t1,t2,t3⟩:=Bn ok c2 Qp;have b1:=wF.bound t1.1 t1.2;have b2:=wF.bound c2.1 c2.2;refine .inr ⟨j,rfl,by rw[ec,decide_eq_true KL],_,st2,e1,⟨_,_,_,rfl⟩,Tv,_,e2,t1,IC c3 t2 b1,?_⟩;rw[<-c4]
    conv=>rhs;unfold Y.settle
    rw[if_neg Qp])
  cF (k:=K) (r:=[Δ ?V,Θ,Θ,Θ]) (st:=st) ⟨⟨_,_,_,rfl⟩,mb,h,hs,hc,hK,rfl⟩ (by unfold cF;lia)
 exact⟨Tu,sF,lJ qL rfl rfl (r:=r') (ag (zg eF) aw),zF⟩
end
theorem jZ{α:Type}{f:Nat->List α}{L:Nat}(hL:∀a,(f a).length=L):∀w,((Yh w).flatMap f).length=w*L
 |0=>by simp|w+1=>by rw[Zn,Zy,YF,jZ hL w];simp[hL,aaU]
theorem pD{α:Type}{f:Nat->List α}{L:Nat}(hL:∀a,(f a).length=L):∀(w a t),a < w->t < L->((Yh w).flatMap f)[a*L+t]?=(f a)[t]?
 |0,a,t,h,_=>absurd h (aaP _)|w+1,a,t,h,ht=>by
  rw[Zn,Zy];by_cases e:a < w;·have:(a+1)*L<=w*L:=aaW L e;rw[aaU] at this;rw[Yq (by rw[jZ hL];lia)];exact pD hL w a t e ht
  ·have e':a=w:=by lia
   subst e';rw[YH (by rw[jZ hL];lia),jZ hL,show a*L+t - a*L=t by lia];simp
section
variable{m:cq}{w:Nat}
def Dh(m:cq)(a:Nat):aK:=i9 m a ?A++[kI (1+a*(?A+1)) ?A]
theorem BI a:(Dh m a).length=?A+1:=by simp[Dh,b8]
def zx(m:cq)(w:Nat):aK:=(Yh w).flatMap (Dh m)
theorem ja:(zx m w).length=w*(?A+1):=jZ BI w
noncomputable def outs(m:cq)(w:Nat):List Nat:=(Yh w).map λa=>1+a*(?A+1)+?A
abbrev stI(m:cq)(w:Nat)(fs:List (Str×P))(L:aK):aK:=O.ins "Groups" fs::(zx m w++L)
theorem gz{L:aK}(hb:b=1+w*(?A+1)):(stI m w fs L)[b+k]?=L[k]?:=by
 subst hb;rw[show 1+w*(?A+1)+k=w*(?A+1)+k+1 by lia,Yv,YH (by rw[ja];lia),ja];congr 1
 lia
theorem Et{L:aK}(hb:b=1+w*(?A+1)):(stI m w fs L).set (b+k) o=stI m w fs (L.set k o):=by subst hb;rw[show 1+w*(?A+1)+k=w*(?A+1)+k+1 by lia,List.set_cons_succ,abk _ _ (by rw[ja];lia),ja,show w*(?A+1)+k - w*(?A+1)=k by lia]
theorem jv{L:aK}(hb:b=1+w*(?A+1)):(stI m w fs L).length=b+L.length:=by subst hb;rw[YA,YF,ja];lia
theorem FK n(ok:cL w m)(hm:?A<=100000)(hw:w<=1000):∃aJ,callC Fs (n+2) 20 [.obj 0,.d (mD m)] [.ins "Groups" []]=.ok (.d .bC) aJ/\HS m w (1+w*(?A+1)) [1+w*(?A+1)+2,1+w*(?A+1)+3] aJ (jD m):=by
 obtain⟨b,hb⟩:∃b,b=1+w*(?A+1):=⟨_,rfl⟩;rw[<-hb];have eS:aS ?M (.comp (.fR [.bf .len [.ix (.ix ?Qk ?Y) ?R]]) 1 [1] Θ ?Ze) [Δ ?V,Δ ?N,Θ,Θ] [.ins "Groups" []]
   =.ok ((outs m w).map P.obj) (stI m w [] []):=by
  rw[uY];have ew:bM ?M (.fR [.bf .len [.ix (.ix ?Qk ?Y) ?R]]) [Δ ?V,Δ ?N,Θ,Θ] [.ins "Groups" []]=.ok ((Yh w).map λk:Nat=>P.d ?W) [.ins "Groups" []]:=by refine bV ?_ ?D;have h0:nZ (m.map e8) 0=Δ (e8 (row m 0)):=zi ok.ne;have hl:=ok.len _ (aY ok.ne);simp[mD,h0,e8,wD,hl]
  rw[ew,aa,if_pos (by simp[aq];lia)];obtain⟨zs,aJ,e,q1,q2⟩:=mv (g:=λp=>Δ p::bu [1] [Δ ?V,Δ ?N,Θ,Θ]) (c:=be ?M Θ) (e:=λr' aJ=>ae ?M ?Ze r' aJ)
   (I:=λk ys s=>ys=((Yh k).map λa=>1+a*(?A+1)+?A).map P.obj/\s=O.ins "Groups" []::zx m k) (ps:=(Yh w).map λk:Nat=>P.d ?W) (k:=0) (ys:=[]) (st:=[.ins "Groups" []])
   (λi p ys s ⟨h1,h2⟩ hp=>by
    rw[Y2] at h1 h2 ⊢;subst h1 h2;have hi:i < w:=by
     rw[Ys] at hp;by_cases z:i < w;·exact z
     ·rw[YR (by simpa using z)] at hp;cases hp
    rw[Ys,Zb hi] at hp;cases hp;have sl:(O.ins "Groups" []::zx m i).length=1+i*(?A+1):=by rw[YA,ja];lia
    have e1:=pA ok hm n i hi (O.ins "Groups" []::zx m i);rw[sl] at e1;refine⟨.obj (1+i*(?A+1)+?A),O.ins "Groups" []::zx m i++i9 m i ?A++[kI (1+i*(?A+1)) ?A],by simp,?_,?_⟩;·show ae _ (.call _ [.var 1,.var 0]) [Δ ?Qf,Δ ?N] _=_;simp only[dE,ak,az,aR,Yu,Yv,YM,au,aa];exact e1
    ·refine⟨by rw[Zn,Y1,Y1];rfl,?_⟩;unfold zx;rw[Zn,Zy];simp[Dh]) ⟨by simp,by simp[zx]⟩
  rw[e];simp only[aaA,Y2,Yr,YN] at q1 q2;rw[q1,q2];show R.ok _ _=R.ok _ (O.ins "Groups" []::(zx m w++[]));rw[Zo];rfl
 let L1:aK:=[.lst ((outs m w).map P.obj)]
 let L2:aK:=L1++[encL (m.map (·.1))]
 let L3 (x y:List Nat):aK:=L2++[encM x,encM y,.lst [.obj (b+2),.obj (b+3)]]
 have f1:aQ ?M (.mG "Groups" "sources" 0 (.lst Λ (.comp (.fR [.bf .len [.ix (.ix ?Qk ?Y) ?R]]) 1 [1] Θ ?Ze))) [Δ ?V,Δ ?N,Θ,Θ] [.ins "Groups" []]
   =.ok (.nx [Δ ?V,Δ ?N,Θ,Θ]) (stI m w [("sources",.obj b)] L1):=by
  refine(uZ (v:=.obj b) (x:=.obj 0) (st1:=stI m w [] L1) (n:=0) (fs:=[]) ?_ rfl rfl ?E).trans rfl;rw[fw,eS,aa,jv hb];simp[L1]
 have eG:aS ?M (.comp (.ex ?Qk) 1 [] Θ (.ix ?X ?Y)) [Δ ?V,Δ ?N,Θ,Θ] (stI m w [("sources",.obj b)] L1)=.ok (m.map λs=>P.d (nD s.1)) (stI m w [("sources",.obj b)] L1):=by
  refine dh (g:=λs=>P.d (e8 s)) (f:=λs=>nD s.1) (xs:=m) ?_ (by unfold aq;lia) λs hs=>?_;·simp[mD]
  ·simp[e8,bu]
 have f2:aQ ?M (.mG "Groups" "group_of" 0 (.lst Λ (.comp (.ex ?Qk) 1 [] Θ (.ix ?X ?Y)))) [Δ ?V,Δ ?N,Θ,Θ] (stI m w [("sources",.obj b)] L1)
   =.ok (.nx [Δ ?V,Δ ?N,Θ,Θ]) (stI m w [("sources",.obj b),("group_of",.obj (b+1))] L2):=by
  refine(uZ (v:=.obj (b+1)) (x:=.obj 0) (st1:=stI m w [("sources",.obj b)] L2) (n:=0) (fs:=[("sources",.obj b)]) ?_ rfl rfl ?E).trans rfl;rw[fw,eG,aa,jv hb];simp[L1,L2,encL,Y8]
 have f3:aQ ?M (.mG "Groups" "members" 0 (.lst Λ (.fQ [.qc Ξ,.qc Ξ]))) [Δ ?V,Δ ?N,Θ,Θ] (stI m w [("sources",.obj b),("group_of",.obj (b+1))] L2)
   =.ok (.nx [Δ ?V,Δ ?N,Θ,Θ]) (stI m w [("sources",.obj b),("group_of",.obj (b+1)),("members",.obj (b+4))] (L3 [] [])):=by
  refine(uZ (v:=.obj (b+4)) (x:=.obj 0) (st1:=stI m w [("sources",.obj b),("group_of",.obj (b+1))] (L3 [] [])) (n:=0) (fs:=[("sources",.obj b),("group_of",.obj (b+1))]) ?_ rfl rfl ?E).trans rfl;have l1:=jv (fs:=[("sources",P.obj b),("group_of",.obj (b+1))]) (L:=L2) hb;have l2:L2.length=2:=rfl;rw[fw,iJ,ak,iI,aa,ak,iI,aa,az,aa,aa];simp only[Y7,if_false,YF,l1,l2,YA,aaj,aa,aq,Nat.reduceAdd,Nat.reduceLeDiff,if_true];show R.ok (P.obj (b+2+1+1)) _=_;congr 1;·show _=stI m w _ (L3 [] []);simp[L3,encM,stI]
 obtain⟨r',sF,eF,⟨y2,y3,z1⟩,z2⟩:=dY (g:=gf (.two 2 3)) (b:=ah ?M ic) (ps:=dS 0 (m.map e8)) (k:=0) (r:=[Δ ?V,Δ ?N,Θ,Θ]) (st:=stI m w [("sources",.obj b),("group_of",.obj (b+1)),("members",.obj (b+4))] (L3 [] []))
  (I:=λk r s=>(∃y2 y3,r=[Δ ?V,Δ ?N,y2,y3])/\s=stI m w [("sources",.obj b),("group_of",.obj (b+1)),("members",.obj (b+4))] (L3 ((Yh k).filter λs=>decide (gd m s=0)) ((Yh k).filter λs=>decide (gd m s=1))))
  (λi p r s ⟨⟨y2,y3,h1⟩,h2⟩ hp=>by
   rw[Y2] at h2 ⊢;subst h1 h2;rw[mw,Ys] at hp;have hi:i < m.length:=by
    by_cases z:i < ?A;·exact z
    ·rw[YR ?D] at hp;simp at hp
   rw[zh hi] at hp;simp only[Y5,acH,Y2] at hp;subst hp;have hg:gd m i=0\/gd m i=1:=by
    have:gd m i<=1:=ok.good _ (aY hi)
    lia
   have nin:∀g,i∉(Yh i).filter λs=>decide (gd m s=g):=λg z=>by rw[Zg,Zp] at z;lia
   have fl:∀g,((Yh i).filter λs=>decide (gd m s=g)).length < aq:=λg=>by have:=Zv (λs=>decide (gd m s=g)) (Yh i);rw[YN] at this;unfold aq;lia
   have nx:∀g,(Yh (i+1)).filter (λs=>decide (gd m s=g))=(Yh i).filter (λs=>decide (gd m s=g))++if gd m i=g then[i] else[]:=λg=>by rw[Zn,abe];congr 1;by_cases e:gd m i=g<;>simp[e]
   generalize XS:(Yh i).filter (λs=>decide (gd m s=0))=X0 at*;generalize Ll:(Yh i).filter (λs=>decide (gd m s=1))=X1 at*;have n0:=nin 0;rw[XS] at n0;have n1:=nin 1;rw[Ll] at n1;have l0:=fl 0;rw[XS] at l0;have l1:=fl 1;rw[Ll] at l1;have x0:=nx 0;rw[XS] at x0;have x1:=nx 1;rw[Ll] at x1;have g2:(stI m w [("sources",.obj b),("group_of",.obj (b+1)),("members",.obj (b+4))] (L3 X0 X1))[b+2]?=Δ (encM X0):=by rw[gz hb];rfl
   have g3:(stI m w [("sources",.obj b),("group_of",.obj (b+1)),("members",.obj (b+4))] (L3 X0 X1))[b+3]?=Δ (encM X1):=by rw[gz hb];rfl
   have g4:(stI m w [("sources",.obj b),("group_of",.obj (b+1)),("members",.obj (b+4))] (L3 X0 X1))[b+4]?=Δ (.lst [.obj (b+2),.obj (b+3)]):=by rw[gz hb];rfl
   have ea:∀(r:bS),(r[0]?).join=Δ ?V->ae ?M (.attr "Groups" "members" 0) r (stI m w [("sources",.obj b),("group_of",.obj (b+1)),("members",.obj (b+4))] (L3 X0 X1))=.ok (.obj (b+4)) (stI m w [("sources",.obj b),("group_of",.obj (b+1)),("members",.obj (b+4))] (L3 X0 X1)):=λr hr=>by rw[Eb,hr,au,aa];rfl
   have ss0:∀o,(stI m w [("sources",.obj b),("group_of",.obj (b+1)),("members",.obj (b+4))] (L3 X0 X1)).set (b+2) (encM o)=stI m w [("sources",.obj b),("group_of",.obj (b+1)),("members",.obj (b+4))] (L3 o X1):=λo=>by rw[Et hb];rfl
   have ss1:∀o,(stI m w [("sources",.obj b),("group_of",.obj (b+1)),("members",.obj (b+4))] (L3 X0 X1)).set (b+3) (encM o)=stI m w [("sources",.obj b),("group_of",.obj (b+1)),("members",.obj (b+4))] (L3 X0 o):=λo=>by rw[Et hb];rfl
   have er:e8 (row m i)=.tup [nD (gd m i),wD (row m i).2]:=rfl;generalize hS:stI m w [("sources",.obj b),("group_of",.obj (b+1)),("members",.obj (b+4))] (L3 X0 X1)=S at*;refine⟨_,[Δ ?V,Δ ?N,Δ (.d (nD i)),Δ (.d (e8 (row m i)))],_,rfl,?_,⟨_,_,rfl⟩,rfl⟩;rcases hg with hg|hg
   ·have p:=vn g2 n0 l0;refine ag (mU (x:=.obj (b+2)) (k:=.d (nD i)) (v:=.d ?QV) (st1:=S) (st2:=S) (st3:=S) ?E ?_ (by simp[nD]) p) ?_;·rw[bH,ea _ rfl,aa];have hx:=gj g4 (i:=0) (p:=.obj (b+2)) rfl;simp[er,hg,nD];exact congrArg (λo=>R.of o S) hx
    ·rw[aw,ss0,x0,x1,if_pos hg,if_neg ?D,Zo];rfl
   ·have p:=vn g3 n1 l1;refine ag (mU (x:=.obj (b+3)) (k:=.d (nD i)) (v:=.d ?QV) (st1:=S) (st2:=S) (st3:=S) ?E ?_ (by simp[nD]) p) ?_;·rw[bH,ea _ rfl,aa];have hx:=gj g4 (i:=1) (p:=.obj (b+3)) rfl;simp[er,hg,nD];exact congrArg (λo=>R.of o S) hx
    ·rw[aw,ss1,x0,x1,if_neg ?D,if_pos hg,Zo];rfl)
  ⟨⟨Θ,Θ,rfl⟩,by simp⟩
 subst z1;rw[qE,Yr,Y2] at z2;generalize hX0:(Yh ?A).filter (λs=>decide (gd m s=0))=X0 at*;generalize XT:(Yh ?A).filter (λs=>decide (gd m s=1))=X1 at*;subst z2
 let L4:aK:=L3 X0 X1++[encL [0,1]]
 let L5:aK:=L4++[jU [Λ,Λ]]
 have f4:aQ ?M (.mG "Groups" "waiting" 0 (.lst Λ (.fQ [.cst (.int 0),.cst (.int 1)]))) [Δ ?V,Δ ?N,y2,y3] (stI m w [("sources",.obj b),("group_of",.obj (b+1)),("members",.obj (b+4))] (L3 X0 X1))
   =.ok (.nx [Δ ?V,Δ ?N,y2,y3]) (stI m w [("sources",.obj b),("group_of",.obj (b+1)),("members",.obj (b+4)),("waiting",.obj (b+5))] L4):=by
  refine(uZ (v:=.obj (b+5)) (x:=.obj 0) (st1:=stI m w [("sources",.obj b),("group_of",.obj (b+1)),("members",.obj (b+4))] L4) (n:=0) (fs:=[("sources",.obj b),("group_of",.obj (b+1)),("members",.obj (b+4))]) ?_ rfl rfl ?E).trans rfl;rw[fw,iJ,ak,dn,aa,ak,dn,aa,az,aa,aa,aa,if_pos ?T,aa,jv hb];show R.ok (P.obj (b+5)) _=_;congr 1;simp[L4,stI,encL,nD]
 have f5:aQ ?M (.mG "Groups" "waits" 0 (.lst Λ (.fQ [.cst ?QV,.cst ?QV]))) [Δ ?V,Δ ?N,y2,y3] (stI m w [("sources",.obj b),("group_of",.obj (b+1)),("members",.obj (b+4)),("waiting",.obj (b+5))] L4)
   =.ok (.nx [Δ ?V,Δ ?N,y2,y3]) (stI m w (so b) L5):=by
  refine(uZ (v:=.obj (b+6)) (x:=.obj 0) (st1:=stI m w [("sources",.obj b),("group_of",.obj (b+1)),("members",.obj (b+4)),("waiting",.obj (b+5))] L5) (n:=0) (fs:=[("sources",.obj b),("group_of",.obj (b+1)),("members",.obj (b+4)),("waiting",.obj (b+5))]) ?_ rfl rfl ?E).trans rfl;rw[fw,iJ,ak,dn,aa,ak,dn,aa,az,aa,aa,aa,if_pos ?T,aa,jv hb];show R.ok (P.obj (b+6)) _=_;congr 1;simp[L5,stI,jU]
 refine⟨stI m w (so b) L5,lJ nT rfl rfl (r:=[Δ ?V,Δ ?N,y2,y3]) ?_,?_⟩;·refine ag f1 (ag f2 (ag f3 (ag (de (ps:=dS 0 (m.map e8)) (st1:=stI m w [("sources",.obj b),("group_of",.obj (b+1)),("members",.obj (b+4))] (L3 [] [])) ?_ eF) (ag f4 (ag f5 aw)))));simp[mD]
 ·refine⟨by rw[jv hb];simp[L5,L4,L3,L2,L1],by lia,rfl,?_,by rw[gz hb];rfl,by rw[gz hb];rfl,rfl,λg hg=>?_,by simp,by rw[gz hb];rfl,by rw[gz hb];rfl⟩
  ·refine⟨outs m w,by have:=gz (fs:=so b) (L:=L5) (k:=0) hb;rw[Nat.add_zero] at this;rw[this];rfl,by simp[outs],λa ha=>?_⟩;have UZ:(a+1)*(?A+1)<=w*(?A+1):=aaW _ ha;rw[aaU] at UZ;have gA:∀t,t < ?A+1->(stI m w (so b) L5)[1+a*(?A+1)+t]?=(Dh m a)[t]?:=λt ht=>by rw[show 1+a*(?A+1)+t=a*(?A+1)+t+1 by lia,Yv,Yq (by rw[ja];lia)];exact pD BI w a t ha ht
   refine⟨1+a*(?A+1)+?A,(Yh ?A).map λt=>1+a*(?A+1)+t,by simp[outs,ha],by lia,by lia,?_,λt ht=>⟨1+a*(?A+1)+t,by simp[ht],by lia,by lia,?_⟩⟩;·rw[gA _ ?D];unfold Dh;rw[YH (by rw[b8];exact Yt _),b8];simp[kI,Y8]
   ·rw[gA _ ?D];unfold Dh;rw[Yq (by rw[b8];exact ht),jY ht];rfl
  ·have Ky:g=0\/g=1:=by
    have:g < 2:=hg
    lia
   rcases Ky with e|e<;>subst e;·refine⟨b+2,rfl,.inl rfl,by rw[jv hb];simp[L5,L4,L3,L2,L1],?_⟩;rw[gz hb];show Δ (encM X0)=Δ (encM ((Yh ?A).filter _));rw[hX0]
   ·refine⟨b+3,rfl,.inr ?QO,by rw[jv hb];simp[L5,L4,L3,L2,L1],?_⟩;rw[gz hb];show Δ (encM X1)=Δ (encM ((Yh ?A).filter _));rw[XT]
end
def sG(grp:List Nat)(gs:List Nat):List (Sum Int Str×P):=gs.map λ(g:Nat)=>(.inl (g:Int),P.d (nD (grp.idxOf g)))
theorem IV{g:Nat}(h:g∈gs):fu (sG grp gs) (.inl (g:Int))=Δ (.d (nD (grp.idxOf g))):=by
 unfold fu sG;induction gs with
 |nil=>cases h|cons x gs ih=>
  rw[Yx,ZJ];by_cases e:x=g;·subst e;simp
  ·have:decide ((.inl (x:Int):Sum Int Str)=.inl (g:Int))=Ξ:=by rw[decide_eq_false_iff_not];intro z;injection z with z;exact e ?D
   simp only[this];exact ih ((aa2.mp h).resolve_left λz=>e z.symm)
theorem fd_none{g:Nat}(h:g∉gs):fu (sG grp gs) (.inl (g:Int))=Θ:=by
 unfold fu sG;have:(gs.map λ(g:Nat)=>((.inl (g:Int):Sum Int Str),P.d (nD (grp.idxOf g)))).find? (λkv=>decide (kv.1=.inl (g:Int)))=Θ:=by
  rw[acC];intro kv rB;obtain⟨x,hx,rfl⟩:=aad.mp rB;have:x≠g:=λz=>h (z▸hx);simp
  lia
 rw[this];rfl
theorem BJ n(ok:cL w m)(hm:?A<=100000)(hw:w<=1000)st:callC Fs (n+5) 1 [.d (mD m)] st=.ok (.d (.pl ((Yh ?A).map λs=>nD (fst w m s)))) st:=by
 obtain⟨st1,e1,h1⟩:=FK (n+2) ok hm hw;have bK:(jD m).wait.length+(?A+2 - (jD m).mem.length)<=?A+2:=by simp[jD];have:=ok.ne;lia
 obtain⟨mb,st2,e2,h2⟩:=BH n ok hm hw h1 (vk ok) (K:=?A+2) bK ?D;obtain⟨calm,_⟩:=xZ ok;have sR:HS m w (1+w*(?A+1)) mb st2 (jh w m):=h2;generalize hb:1+w*(?A+1)=b at*;have gl:(jh w m).grp.length=m.length:=calm.1.su;have XF:=sR.len
 let grp:=(jh w m).grp
 have Tw:∀k,(bR [] (grp.take k)).length < aq:=λk=>by
  have h1:(bR ([]:List Nat) (grp.take k)).Nodup:=tD ?E;have h2:=fB h1 (xs:=grp.take k) λx hx=>by
   rcases dH.mp hx with z|z;·cases z
   ·exact z
  have h3:(grp.take k).length<=grp.length:=by rw[aaI];lia
  have h4:grp.length=m.length:=gl;unfold aq
  lia
 obtain⟨r',sF,eF,⟨y3,y4,z1⟩,z2⟩:=A8 (n:=b+1) (x:=3) (y:=4) (b:=ah (callC Fs (n+4)) jW) (xs:=grp.map λs=>P.d (nD s))
  (I:=λk r s=>(∃y3 y4,r=[Δ ?N,Δ ?V,Δ (.obj st2.length),y3,y4])/\s=st2++[O.dK (sG grp (bR [] (grp.take k)))])
  (λi r s ⟨_,hs⟩=>by subst hs;rw[Yq ?D];exact sR.grp)
  (λi p r s ⟨⟨y3,y4,er⟩,hs⟩ hp=>by
   subst er hs;rw[Ys] at hp;cases U5:grp[i]? with
   |none=>rw[U5] at hp;cases hp|some g=>
    rw[U5] at hp;cases hp;have LB:grp.take (i+1)=grp.take i++[g]:=by rw[ZA,U5];rfl
    have Tx:bR ([]:List Nat) (grp.take (i+1))=if g∈bR [] (grp.take i) then bR [] (grp.take i) else bR [] (grp.take i)++[g]:=by rw[LB];unfold bR;rw[aag];rfl
    have hD:(st2++[O.dK (sG grp (bR [] (grp.take i)))])[st2.length]?=Δ (.dK (sG grp (bR [] (grp.take i)))):=by simp
    have PB:bF (st2++[O.dK (sG grp (bR [] (grp.take i)))]) (.obj st2.length)=Δ (.dK (sG grp (bR [] (grp.take i)))):=by exact mq ?E
    have hl:(sG grp (bR [] (grp.take i))).length < aq:=by unfold sG;rw[Yr];exact Tw i
    have hk:keyOf (.d (nD g))=Δ (.inl (g:Int)):=rfl;have PC:∃v,rD (.obj st2.length) (.d (nD g)) ?Qf (st2++[O.dK (sG grp (bR [] (grp.take i)))])=Δ (v,st2++[O.dK (sG grp (bR [] (grp.take (i+1))))]):=by
     unfold rD;simp only[hD,hl,if_true,hk,Y5];by_cases vp:g∈bR [] (grp.take i);·rw[Tx,if_pos vp,IV vp];exact⟨_,rfl⟩
     ·rw[Tx,if_neg vp,fd_none vp];have hni:g∉grp.take i:=λz=>vp (dH.mpr (.inr z));have hix:grp.idxOf g=i:=by
       obtain⟨U3,XR⟩:=qqz U5;have e:grp=grp.take i++[g]++grp.drop (i+1):=by rw[<-LB,ab7]
       conv=>lhs;rw[e]
       rw[Ei hni,aaI];lia
      refine⟨.d (.int (i:Int)),?_⟩;dsimp only;rw[tG (λkv rB=>by obtain⟨x,hx,rfl⟩:=aad.mp rB;intro z;injection z with z;exact vp ((show x=g by lia)▸hx))];congr 2;rw[abk _ _ ?D];simp[sG,hix,nD]
    obtain⟨v,PC⟩:=PC;refine⟨[Δ ?N,Δ ?V,Δ (.obj st2.length),Δ ?Qf,Δ (.d (nD g))],st2++[O.dK (sG grp (bR [] (grp.take (i+1))))],?_,⟨_,_,rfl⟩,rfl⟩;refine ag (nJ (v:=v) (st1:=st2++[O.dK (sG grp (bR [] (grp.take (i+1))))]) ?_) aw;rw[lx];simp only[abp,aR,Yu,Yv,YM,au,aa,PB,PC])
  cF (i:=0) (r:=[Δ ?N,Δ ?V,Δ (.obj st2.length),Θ,Θ]) (st:=st2++[O.dK []]) ⟨⟨_,_,rfl⟩,by simp[sG,bR]⟩ (Zr _) (by have:grp.length=m.length:=gl;rw[Yr];unfold cF;lia)
 subst z1;rw[Yr,Zs (Yt _)] at z2;subst z2
 let G:=bR ([]:List Nat) grp
 have s0:(st2++[O.dK (sG grp G)])[0]?=Δ (iW b):=by rw[Yq ?D];exact sR.self
 have sg:(st2++[O.dK (sG grp G)])[b+1]?=Δ (.lst (grp.map λs=>P.d (nD s))):=by rw[Yq ?D];exact sR.grp
 have Tz:∀(r:bS) (s:aK) (f:P) (s':aK),ae (callC Fs (n+4)) (.ix ?Qk ?X) r s=.ok f s'->s'=s:=λr s f s' h=>by rw[bH,aR] at h;cases h1:(r[1]?).join with|none=>rw[h1] at h;cases h|some x=>rw[h1,au,aa,aR] at h;cases h2:(r[0]?).join with|none=>rw[h2] at h;cases h|some y=>rw[h2,au,aa] at h;cases h3:Ax x y s with|none=>rw[h3] at h;cases h|some z=>rw[h3] at h;cases h;rfl
 have eC:aS (callC Fs (n+4)) (.cx (.attr "Groups" "group_of" 1) [2] Θ (.ix ?Qk ?X)) [Δ ?N,Δ ?V,Δ (.obj st2.length),y3,y4] (st2++[O.dK (sG grp G)])=.ok (grp.map λg=>P.d (nD (grp.idxOf g))) (st2++[O.dK (sG grp G)]):=by
  rw[rF,di rfl s0 rfl,aa];dsimp only;rw[uX (xs:=grp.map λs=>P.d (nD s)) (λr s f s' h1 h2=>by rw[nB] at h2;cases h2;exact h1) (λr s f s' h1 h2=>by rw[Tz r s f s' h2];exact h1) aq 0 _ sg (by have:grp.length=m.length:=gl;rw[Yr];unfold aq;lia),abt];refine kA (g:=λs=>P.d (nD s)) (f:=λg=>nD (grp.idxOf g)) (λx hx=>by simp) λx hx=>?_;have sQ:x∈G:=dH.mpr (.inr hx);have hD:Ax (.obj st2.length) (.d (.int (x:Int))) (st2++[O.dK (sG grp G)])=Δ (.d (nD (grp.idxOf x))):=by
   have PB:bF (st2++[O.dK (sG grp G)]) (.obj st2.length)=Δ (.dK (sG grp G)):=by exact mq ?E
   unfold Ax;rw[PB];show((keyOf (.d (.int (x:Int)))).map _).bind id=_;simp only[keyOf,Y5,Zk,id];exact IV sQ
  show ae _ (.ix ?Qk ?X) [Δ (.d (nD x)),Δ (.obj st2.length)] _=_;simp only[bH,aR,Yu,Yv,YM,au,aa,nD,hD]
 refine call_of sx rfl (cC (p:=.d (.pl ((Yh ?A).map λs=>nD (fst w m s)))) (st:=st2++[O.dK (sG grp G)]) rfl ?_ rfl);refine ag (aZ (v:=.obj 0) (st1:=st1) ?_) ?_;·rw[uk];simp only[ay,fG,ak,az,aR,Yx,aaY,aat,Yu,YM,au,aa,aaj,aaA];rw[e1,aa]
 refine ag (nJ (v:=.d .bC) (st1:=st2) (o9 rfl h1.self rfl (ps:=[]) (st1:=st1) ?E e2)) ?_;refine ag (aZ (v:=.obj st2.length) (st1:=st2++[O.dK []]) ?E) ?_;refine ag (Ph (n:=b+1) (st1:=st2++[O.dK []]) (di rfl (by rw[Yq ?D];exact sR.self) rfl) eF) ?_;refine aM (cy ?_);rw[cH,eC,aa,cD,au,aa];congr 3;apply ab1;intro i;by_cases hi:i < ?A
 ·have xf:i < grp.length:=by
   have:grp.length=m.length:=gl
   lia
  rw[Ys,Yn xf,Ys,Zb hi];show Δ (nD (grp.idxOf grp[i]))=Δ (nD (fst w m i));unfold fst Td;rw[Ym,Yn (show i < (jh w m).grp.length from xf)];rfl
 ·rw[YR (by have:grp.length=m.length:=gl;simp;lia),YR (by simp;lia)]
section
variable{α:Type}[DecidableEq α](K:Ti α){step:α->List α}{good:α->Nat}{S:List α}{start:α}
abbrev aP(ps:List α)(rows:cq):aK:=[K.rP ps,.lst (ps.map λp=>P.d (K.enc p)),.lst ((rows.map e8).map .d)]
theorem PD(hn:ps.Nodup):jf .jo (.d (K.enc a)) ?V (aP K ps rows)=Δ (!decide (a∈ps)):=by
 have h1:bF (aP K ps rows) ?V=Δ (K.rP ps):=by show(if jI (K.rP ps) then Δ (K.rP ps) else Θ)=_;rw[K.UY];rfl
 show(Ff (.d (K.enc a)) ?V (aP K ps rows)).map not=_;unfold Ff;rw[h1];simp only[K.get ps a hn,Y5];by_cases h:a∈ps<;>simp[h]
theorem CY(hn:ps.Nodup)(ha:a∈ps):Ax ?V (.d (K.enc a)) (aP K ps rows)=Δ (.d (nD (ps.idxOf a))):=by
 have h1:bF (aP K ps rows) ?V=Δ (K.rP ps):=by show(if jI (K.rP ps) then Δ (K.rP ps) else Θ)=_;rw[K.UY];rfl
 unfold Ax;rw[h1];simp[K.get ps a hn,ha]
theorem LC(ha:a∉ps)(hl:?S < aq):nv ?V (.d (K.enc a)) (.d (nD ?S)) (aP K ps rows)=Δ ([K.rP (ps++[a]),.lst (ps.map λp=>P.d (K.enc p)),.lst ((rows.map e8).map .d)]):=by
 have h1:Ay (K.rP ps) (.d (K.enc a)) (.d (nD ?S))=Δ (K.rP (ps++[a])):=by have hp:=K.put ps a ha hl;have hd:=K.UY ps;unfold Ay;cases e:K.rP ps with|lst xs=>rw[e] at hd;cases hd|_=>rw[e] at hp;exact hp
 unfold nv;simp[h1]
theorem yi n{mk:List D->D}(Mz:∀xs,ny (.d (mk xs))=Δ (xs.map .d))(pS:cE cS=Λ)(pG:cE cG=Λ)(hs:start∈S)(hS:∀p∈S,∀q∈step p,q∈S)(hSl:S.length<=900000)(hlen:∀p∈S,(step p).length<=1000)(eS:∀p∈S,∀st,callC Fs n kS (.d (K.enc p)::cS) st=.ok (.d (mk ((step p).map K.enc))) st)(eG:∀p∈S,∀st,callC Fs n kG (.d (K.enc p)::cG) st=.ok (.d (nD (good p))) st)st:
  callC Fs (n+1) 3 [.d (K.enc start),.fn kS cS,.fn kG cG] st=.ok (.d (mD (gK step good (places step 1000000 start)))) st:=by
 let F:=places step 1000000 start
 let rw_:=Bp step good F
 have b0:vm step S [start] 0:=⟨by simp,λp hp=>by simp at hp;rw[hp];exact hs,by simp,λi p hi=>by lia⟩
 let r0 (y6 y7 y8:Option P):bS:=[Δ (.d (K.enc start)),Δ (.fn kS cS),Δ (.fn kG cG),Δ ?V,Δ (.obj 1),Δ (.obj 2),y6,y7,y8]
 obtain⟨r',sF,eF,⟨y6,y7,y8,z1⟩,z2⟩:=mr (c:=bY (ae ?L (.cmp .lt (.bf .len [.var 5]) (.bf .len [.var 4])))) (b:=ah ?L jX)
  (I:=λk r s=>(∃y6 y7 y8,r=r0 y6 y7 y8)/\∃ps j f,vm step S ps j/\zP step f ps j=F/\S.length+1<=f+j/\k=S.length - j/\s=aP K ps ?U)
  (E:=λr s=>(∃y6 y7 y8,r=r0 y6 y7 y8)/\s=aP K F (F.map rw_))
  (λk r s ⟨⟨y6,y7,y8,h1⟩,ps,j,f,bi,TB,hf,hk,qV⟩=>by
   subst h1 qV;have bl:=bi.len;have jl:=bi.le;have tl:((ps.take j).map rw_).length=j:=by rw[Yr,aaI];lia
   have l2:(aP K ps ?U)[2]?=Δ (.lst ((((ps.take j).map rw_).map e8).map .d)):=rfl;have l1:(aP K ps ?U)[1]?=Δ (.lst (ps.map λp=>P.d (K.enc p))):=rfl;have n2:sf .len [.obj 2] (aP K ps ?U)=Δ (.d (.int (j:Int))):=by rw[gy l2];simp;lia
   have n1:sf .len [.obj 1] (aP K ps ?U)=Δ (.d (.int (ps.length:Int))):=by rw[gy l1];simp
   have ec:bY (ae ?L (.cmp .lt (.bf .len [.var 5]) (.bf .len [.var 4]))) (r0 y6 y7 y8) (aP K ps ?U)=.ok (decide (j < ?S)) (aP K ps ?U):=by
    unfold bY;simp only[bx,bT,ak,az,aR,r0,Yu,Yv,YM,au,aa,n1,n2,Pe,Pd];congr 1;by_cases h:j < ?S;·rw[decide_eq_true h,decide_eq_true ?D]
    ·rw[decide_eq_false h,decide_eq_false ?D]
   by_cases hj:j < ?S
   ·
    obtain⟨p,hp⟩:∃p,ps[j]?=Δ p:=⟨ps[j],Yn hj⟩;have U6:=bi.sub p (Yz hp);obtain⟨f',rfl⟩:∃f',f=f'+1:=XA hf hj bl;have TC:zP step f' ?Zb (j+1)=F:=by rw[zP,hp] at TB;exact TB
    have bn:=bi.next hS hp;obtain⟨t1,et1⟩:=tF step f' ?Zb (j+1);obtain⟨t2,et2⟩:=gL (step p) ps;have bnl:=bn.len;have loop:∀(ss qs:List α) (y8:Option P),qs.Nodup->(∀q∈qs,q∈S)->(∀q∈ss,q∈S)->∃LD,forL (gf (.nm 8)) (ah ?L dO) ((ss.map K.enc).map .d) (r0 (Δ (.d (K.enc p))) ?Qv y8) (aP K qs ?U)
      =.ok (.nx (r0 (Δ (.d (K.enc p))) ?Qv LD)) (aP K (bR qs ss) ?U):=by
     intro ss;induction ss with
     |nil=>intro qs y8 _ _ _;exact⟨y8,rfl⟩|cons s ss ih=>
      intro qs y8 hq XU vg;have ql:=fB hq XU;rw[Yx,Yx,forL,gf,au,aa,jT];have en:=PD K (rows:=(ps.take j).map rw_) (a:=s) hq;by_cases vp:s∈qs
      ·rw[if_pos vp];obtain⟨LD,e⟩:=ih qs (Δ (.d (K.enc s))) hq XU λq zX=>vg q (Yi _ zX);refine⟨LD,?_⟩;have eb:ah ?L dO ((r0 (Δ (.d (K.enc p))) ?Qv y8).set 8 (Δ (.d (K.enc s)))) (aP K qs ?U)=.ok (.nx (r0 (Δ (.d (K.enc p))) ?Qv (Δ (.d (K.enc s))))) (aP K qs ?U):=by refine ag (gH (st1:=aP K qs ?U) ?_ aw) aw;simp only[bx,aR,r0,abp,Yu,Yv,YM,au,aa,en];simp[vp]
       rw[eb,aa];exact e
      ·rw[if_neg vp];have sS:=vg s Yk;have zX:(qs++[s]).Nodup:=by rw[Ze];exact⟨hq,by simp,λa ha b hb=>by simp at hb;subst hb;exact λz=>vp (z▸ha)⟩
       obtain⟨LD,e⟩:=ih (qs++[s]) (Δ (.d (K.enc s))) zX (λq hq2=>by
        rcases abh.mp hq2 with z|z;·exact XU q z
        ·simp at z;rw[z];exact sS) λq zX=>vg q (Yi _ zX)
       refine⟨LD,?_⟩;have hp1:=LC K (ps:=qs) (rows:=(ps.take j).map rw_) vp (by unfold aq;lia);have nl:sf .len [.obj 1] (aP K qs ?U)=Δ (.d (nD qs.length)):=by rw[gy (show(aP K qs ?U)[1]?=Δ (.lst (qs.map λp=>P.d (K.enc p))) from rfl)];simp[nD]
       have eb:ah ?L dO ((r0 (Δ (.d (K.enc p))) ?Qv y8).set 8 (Δ (.d (K.enc s)))) (aP K qs ?U)=.ok (.nx (r0 (Δ (.d (K.enc p))) ?Qv (Δ (.d (K.enc s))))) (aP K (qs++[s]) ?U):=by
        refine ag (jP (st1:=aP K qs ?U) ?_ (ag (mU (x:=.obj 0) (k:=.d (K.enc s)) (v:=.d (nD qs.length)) (st1:=aP K qs ?U) (st2:=aP K qs ?U) (st3:=aP K qs ?U) ?_ ?_ ?_ hp1) (ag (mT (x:=.obj 1) (v:=.d (K.enc s)) (its:=qs.map λp=>P.d (K.enc p)) (st1:=[K.rP (qs++[s]),.lst (qs.map λp=>P.d (K.enc p)),.lst ((((ps.take j).map rw_).map e8).map .d)]) (st2:=[K.rP (qs++[s]),.lst (qs.map λp=>P.d (K.enc p)),.lst ((((ps.take j).map rw_).map e8).map .d)]) (st3:=aP K (qs++[s]) ?U) ?_ rfl ?_ ?_) aw))) aw;·simp only[bx,aR,r0,abp,Yu,Yv,YM,au,aa,en];simp[vp]
        ·simp only[bT,ak,az,aR,r0,abp,Yu,Yv,YM,au,aa,nl]
        ·simp[r0]
        ·simp[r0]
        ·simp[r0]
        ·simp[r0]
        ·rw[iy (n:=1) (xs:=qs.map λp=>P.d (K.enc p)) rfl (by rw[Yr];unfold aq;lia)];simp[aP]
       rw[eb,aa];exact e
    obtain⟨LD,el⟩:=loop (step p) ps y8 bi.nd bi.sub (hS p U6);have XW:e8 (rw_ p)=.tup [nD (good p),.tup ((step p).map λq=>nD ((bR ps (step p)).idxOf q))]:=by show D.tup [nD (good p),wD ((step p).map λq=>F.idxOf q)]=_;unfold wD;rw[aae];congr 4;apply List.map_congr_left;intro q hq;have zX:q∈bR ps (step p):=dH.mpr (.inr hq);show nD (F.idxOf q)=_;rw[<-TC,et1,zq zX]
    have LB:(bR ps (step p)).take (j+1)=ps.take j++[p]:=by rw[et2,List.take_append_of_le_length ?D,ZA,hp];rfl
    refine .inr ⟨S.length - (j+1),XB hk bl hj,by rw[ec,decide_eq_true hj],r0 (Δ (.d (K.enc p))) ?Qv LD,aP K ?Zb (((bR ps (step p)).take (j+1)).map rw_),?_,⟨_,_,_,rfl⟩,bR ps (step p),j+1,f',bn,TC,by lia,rfl,rfl⟩;have hpx:=gj l1 (i:=j) (p:=.d (K.enc p)) (by rw[Ys,hp];rfl);refine ag (aZ (v:=.d (K.enc p)) (st1:=aP K ps ?U) ?_) ?_;·simp only[bH,bT,ak,az,aR,r0,Yu,Yv,YM,au,aa,n2,hpx]
    refine ag (aZ (v:=.d (mk ((step p).map K.enc))) (st1:=aP K ps ?U) ?_) ?_;·rw[A6];simp only[r0,abp,ak,az,aR,Yu,Yv,YM,au,aa,aat,aaA];exact eS p U6 _
    refine ag (de (ps:=((step p).map K.enc).map .d) (st1:=aP K ps ?U) (by simp[r0,Mz]) el) ?_;refine ag (mT (x:=.obj 2) (v:=.d (e8 (rw_ p))) (its:=(((ps.take j).map rw_).map e8).map .d) (st1:=aP K ?Zb ?U) (st2:=aP K ?Zb ?U) (st3:=aP K ?Zb (((bR ps (step p)).take (j+1)).map rw_)) (by simp[r0]) rfl ?_ ?_) aw
    ·have e1:ae ?L (.oI 2 [.var 6]) (r0 (Δ (.d (K.enc p))) ?Qv LD) (aP K ?Zb ?U)=.ok (.d (nD (good p))) (aP K ?Zb ?U):=by rw[A6];simp only[r0,ak,az,aR,Yu,Yv,YM,au,aa,aat,aaA];exact eG p U6 _
     have e2:aS ?L (.comp (.ex (.var 7)) 1 [3] Θ (.ix ?Qk ?X)) (r0 (Δ (.d (K.enc p))) ?Qv LD) (aP K ?Zb ?U)=.ok ((step p).map λq=>P.d (nD ((bR ps (step p)).idxOf q))) (aP K ?Zb ?U):=by
      have zK:=hlen p U6;refine dh (g:=λq=>P.d (K.enc q)) (f:=λq=>nD ((bR ps (step p)).idxOf q)) (xs:=step p) ?_ (by unfold aq;lia) λq hq=>?_;·simp[r0,Mz]
      ·have:=CY K (rows:=(ps.take j).map rw_) (a:=q) bn.nd (dH.mpr (.inr hq));show ae _ (.ix ?Qk ?X) [Δ (.d (K.enc q)),Δ ?V] _=_;simp only[bH,aR,Yu,Yv,YM,au,aa,this]
     rw[XW,xo,ak,e1,aa,ak,bT,ak,cH,e2,aa,cD];simp[aq]
    ·rw[LB,Y1];have hl3:((((ps.take j).map rw_).map e8).map P.d).length < aq:=by rw[Yr,Yr,tl];unfold aq;lia
     rw[iy (n:=2) (xs:=(((ps.take j).map rw_).map e8).map .d) rfl hl3];simp[aP]
   ·have ej:j=ps.length:=by lia
    refine .inl ⟨by rw[ec,decide_eq_false hj],⟨_,_,_,rfl⟩,?_⟩;have:F=ps:=by cases f with|zero=>exact TB.symm|succ f=>rw[zP,YR ?D] at TB;exact TB.symm
    rw[this,ej,Zs (Yt _)])
  cF (k:=S.length - 0) (r:=r0 Θ Θ Θ) (st:=aP K [start] []) ⟨⟨_,_,_,rfl⟩,[start],0,1000000,b0,rfl,by lia,rfl,by simp⟩ (by unfold cF;lia)
 subst z1 z2;refine call_of sA (by simp[C3,pS,pG]) (cC (p:=.d (mD (gK step good F))) (st:=aP K F (F.map rw_)) rfl ?_ rfl);refine ag (aZ (v:=.obj 0) (st1:=[K.rP [start]]) ?_) ?_;·rw[uj];simp only[ay,cV,aR,Yx,aaY,aat,Yu,YM,au,aa,K.lit];rfl
 refine ag (aZ (v:=.obj 1) (st1:=[K.rP [start],.lst [.d (K.enc start)]]) (by simp[ay,cV,aq])) ?_;refine ag (aZ (v:=.obj 2) (st1:=[K.rP [start],.lst [.d (K.enc start)],.lst []]) (by simp[ay,cV,aq])) ?_;refine ag (zg eF) ?_;refine aM (cy ?_);have l2:dg (aP K F (F.map rw_)) (.obj 2)=Δ (((F.map rw_).map e8).map .d):=rfl;simp only[bT,ak,az,aR,r0,Yu,Yv,YM,au,aa,sf,l2,Zk,gi,Y5];rfl
end
section
variable{w:Nat}{m:cq}(ok:cL w m)(hm:?A<=100000)(hw:w<=1000)
include ok hm hw
theorem wN(n:Nat){p:Nat}(hp:p < ?A)(st:aK):callC Fs (n+1) 25 [.d (nD p),.d (.pl ((Yh ?A).map λs=>nD (fst w m s))),.d (mD m)] st=.ok (.d (.pl ((eh w m p).map nD))) st:=by
 refine call_of pw rfl (cC (p:=.d (.pl ((eh w m p).map nD))) (st:=[]) rfl (aM (cy ?_)) rfl);have hl:=ok.len _ (aY hp);have eL:aS ?L (.comp (.ex (.ix (.ix ?QC ?X) ?R)) 1 [1] Θ (.ix ?Qk ?X)) (ay 3 [.d (nD p),.d (.pl ((Yh ?A).map λs=>nD (fst w m s))),.d (mD m)]) []=.ok ((row m p).2.map λq=>P.d (nD (fst w m q))) []:=by
  refine dh (g:=λq=>P.d (nD q)) (f:=λq=>nD (fst w m q)) (xs:=(row m p).2) ?_ (by unfold aq;lia) λq hq=>?_;·have h0:nZ (m.map e8) (p:Int)=Δ (e8 (row m p)):=zi hp;simp[ay,mD,nD,h0,e8,wD]
  ·have zX:=ok.lt _ (aY hp) q hq;have h1:nZ ((Yh ?A).map λs=>nD (fst w m s)) (q:Int)=Δ (nD (fst w m q)):=dy (by simp[zX]);show ae _ (.ix ?Qk ?X) [Δ (.d (nD q)),Δ (.d (.pl ((Yh ?A).map λs=>nD (fst w m s))))] _=_;simp only[bH,aR,Yu,Yv,YM,au,aa,nD,S5];simp only[nD] at h1;rw[h1];rfl
 rw[cH];show(aS ?L _ (ay 3 _) []).bind _=_;rw[eL,aa,cD];simp[eh,Y8]
theorem zy(n:Nat){p:Nat}(hp:p < ?A)(st:aK):callC Fs (n+1) 26 [.d (nD p),.d (mD m)] st=.ok (.d (nD (gd m p))) st:=by refine call_of qM rfl (cC (p:=.d (nD (gd m p))) (st:=[]) rfl (aM (cy ?_)) rfl);exact mx hp (by simp[ay,dk]) (by simp[ay,dk,nD])
theorem nW(n:Nat)(st:aK):callC Fs (n+6) 4 [.d (mD m)] st=.ok (.d (mD (ba w m))) st:=by
 refine call_of IT rfl (cC (p:=.d (mD (ba w m))) (st:=[]) rfl ?_ rfl);have e1:=BJ n ok hm hw [];refine ag (aZ (v:=.d (.pl ((Yh ?A).map λs=>nD (fst w m s)))) (st1:=[]) ?_) ?_;·rw[fe];simp only[ay,ph,ak,az,aR,Yx,aaY,aat,Yu,YM,au,aa];show iG (callC Fs (n+5) 1) (Δ [.d (mD m)]) []=_;unfold iG;simp only[e1,aa]
 refine ag (Il _ _) ?_;refine aM (cy ?_);have f0:nZ ((Yh ?A).map λs=>nD (fst w m s)) (0:Int)=Δ (nD (fst w m 0)):=dy (k:=0) (by simp[ok.ne]);have e2:=yi Tj (n+4) (mk:=.pl) (λ_=>rfl) (step:=eh w m) (good:=gd m) (S:=Yh ?A) (start:=fst w m 0) (kS:=25) (kG:=26) (cS:=[.d (.pl ((Yh ?A).map λs=>nD (fst w m s))),.d (mD m)]) (cG:=[.d (mD m)]) rfl rfl
  (Zp.mpr (gM ok ok.ne).1) (Br ok) (by rw[YN];lia) (λp hp=>by rw[qG ok p hp];exact hw)
  (λp hp st=>wN ok hm hw (n+3) (Zp.mp hp) st) (λp hp st=>zy ok hm hw (n+3) (Zp.mp hp) st) []
 rw[fe];simp only[ak,az,bH,aR,dn,qg,ay,ph,abp,Yx,aaY,aat,aaA,YA,aaj,Nat.reduceAdd,Nat.reduceSub,ZO,Yu,Yv,YM,au,aa,S5,f0,Y5];show iG (callC Fs (n+5) 3) (ad0 _ [P.d (nD (fst w m 0)),P.lf 25,P.lf 26]) []=_;rw[show ad0 (conv [(25,[1,0]),(26,[0])] [Δ (P.d (mD m)),Δ (P.d (.pl ((Yh ?A).map λs=>nD (fst w m s)))),Δ (P.lf 25)] 3) [P.d (nD (fst w m 0)),P.lf 25,P.lf 26]
  =Δ [.d (nD (fst w m 0)),.fn 25 [.d (.pl ((Yh ?A).map λs=>nD (fst w m s))),.d (mD m)],.fn 26 [.d (mD m)]] from rfl]
 unfold iG;have e2':callC Fs (n+5) 3 [.d (nD (fst w m 0)),.fn 25 [.d (.pl ((Yh ?A).map λs=>nD (fst w m s))),.d (mD m)],.fn 26 [.d (mD m)]] []=.ok (.d (mD (gK (eh w m) (gd m) (places (eh w m) 1000000 (fst w m 0))))) []:=e2;simp only[e2',aa];rw[gk];rfl
end
theorem FO n ns(k:Nat)st:callC Fs (n+1) 8 [.ik ns,.d (.int k)] st=.ok (.d (.int (cell ns k))) st:=by
 refine call_of sC rfl (cC (p:=.d (.int (cell ns k))) (st:=[]) rfl ?_ rfl);by_cases h:k < ns.length
 ·have h1:(k:Int) < (ns.length:Int):=by lia
  have h2:nZ ns (k:Int)=Δ (cell ns k):=dy (by unfold cell;rw[Ym,Yn h];rfl);exact aM (jP (st1:=[]) (by simp[ay,cW,h]) (aM (cy (by simp[ay,cW,h2]))))
 ·have h1:cell ns k=0:=by unfold cell;rw[Ym,YR ?D];rfl
  rw[h1];exact ag (gH (st1:=[]) (by simp[ay,cW];lia) aw) (aM (cy ?E))
theorem Di n ns(k:Nat)st:callC Fs (n+2) 9 [.ik ns,.d (.int k)] st=.ok (.d (.int (mixed ns k))) st:=by
 refine call_of wJ rfl (cC (p:=.d (.int (mixed ns k))) (st:=[]) rfl ?_ rfl);obtain⟨m1,m2⟩:=bP ((cell ns k+7919*k+1)*48271) (show(0:Int) < 2147483647 by decide);have c1:∀z:Int,nY .mul 7919 z=Δ (7919*z):=λz=>fz (.inl ?T);have c2:∀z:Int,nY .mul z 48271=Δ (z*48271):=λz=>fz (.inr ?T);have c3:∀z:Int,nY .mul 7 z=Δ (7*z):=λz=>fz (.inl ?T);refine ag (aZ (v:=.d (.int (A9 ns k))) (st1:=[]) (by simp[ay,fI,FO,c1,c2,fA,A9])) ?_;have b: -nq < A9 ns k/\A9 ns k < nq:=by unfold nq A9;lia
 exact aM (cy (by simp[ay,fI,fz,c3,fA,b,mixed]))
theorem vG n x(k:Nat)st:callC Fs (n+1) 10 [.d (.int x),.d (.int k)] st=.ok (.d (.int (drawn x k))) st:=by
 refine call_of wK rfl (cC (p:=.d (.int (drawn x k))) (st:=[]) rfl ?_ rfl);obtain⟨m1,m2⟩:=bP ((x+104729*k+17)*69621) (show(0:Int) < 2147483647 by decide);have c1:∀z:Int,nY .mul 104729 z=Δ (104729*z):=λz=>fz (.inl ?T);have c2:∀z:Int,nY .mul z 69621=Δ (z*69621):=λz=>fz (.inr ?T);have c3:∀z:Int,nY .mul 3 z=Δ (3*z):=λz=>fz (.inl ?T);refine ag (aZ (v:=.d (.int (Ba x k))) (st1:=[]) (by simp[ay,fJ,c1,c2,fA,Ba])) ?_;have b: -nq < Ba x k/\Ba x k < nq:=by unfold nq Ba;lia
 exact aM (cy (by simp[ay,fJ,fz,c3,fA,b,drawn]))
theorem rR n x(k:Nat)(hz:z=(k:Int))st:callC Fs (n+1) 10 [.d (.int x),.d (.int z)] st=.ok (.d (.int (drawn x k))) st:=by rw[hz];exact vG n x k st
theorem lX n ns(k:Nat)(hz:z=(k:Int))st:callC Fs (n+2) 9 [.ik ns,.d (.int z)] st=.ok (.d (.int (mixed ns k))) st:=by rw[hz];exact Di n ns k st
theorem Dj n x(w c:Nat)(hw:w<=3)(hc:0 < c)(k:Nat)(h1:kR r 1=Δ ?Qm)(hb:bu [3,0,5] r=[Δ (.d (.int (c:Int))),Δ (.d (.int x)),Δ (.d ?W)]):
  aS ?M (.comp (.fR [.var 1]) 1 [3,0,5] Θ (.op .mod (.call 10 [.var 2,.op .add (.op .mul (.cst (.int 7)) (.var 3)) ?X]) ?Qk)) r st
   =.ok ((Yh w).map λl=>.d (nD (drawn x (7*k+l) % (c:Int)).toNat)) st:=by
 have c1:∀z:Int,nY .mul 7 z=Δ (7*z):=λz=>fz (.inl ?T);have c2:∀z:Int,nY .mod z (c:Int)=Δ (z % (c:Int)):=λz=>fA ?D;refine dh (g:=λk:Nat=>P.d ?W) (f:=λl=>nD (drawn x (7*k+l) % (c:Int)).toNat) ?_ (by rw[YN];unfold aq;lia) λl hl=>?_;·have h1':(r[1]?).join=Δ ?Qm:=h1;exact bV (by rw[aR,h1',au]) ?D
 ·rw[hb];have:=bP (drawn x (7*k+l)) (show(0:Int) < (c:Int) by lia);have e:=rR n x (z:=7*(k:Int)+(l:Int)) (7*k+l) ?E st;have e2:((drawn x (7*k+l) % (c:Int)).toNat:Int)=drawn x (7*k+l) % (c:Int):=acu this.1;simp only[iH,dE,ak,az,aR,dn,Yu,Yv,YM,au,aa,Ii,c1,K7,Y5,e,c2,nD,e2]
theorem yj n x(w c:Nat)(hw:w<=3)(hc:0 < c)a:∀(ks:List Nat) (ys) (u v),?Zd+ks.length<=1000->
  ∃u' v',forL (gf (.nm 5)) (ah ?M gp) (ks.map λk:Nat=>.d ?W) [Δ (.d (.int x)),Δ ?Qm,a,Δ (.d (.int (c:Int))),Δ ?V,u,v] [.lst (ys.map .d)]
   =.ok (.nx [Δ (.d (.int x)),Δ ?Qm,a,Δ (.d (.int (c:Int))),Δ ?V,u',v'])
    [.lst ((ys++ks.map λk=>e8 ?Qc).map .d)]
 |[],ys,u,v,_=>⟨u,v,by simp[forL]⟩|k::ks,ys,u,v,hl=>by
  obtain⟨u',v',ih⟩:=yj n x w c hw hc a ks (ys++[e8 ?Qc]) (Δ (.d ?W)) (Δ (.d (wD ((Yh w).map λl=>(drawn x (7*k+l) % (c:Int)).toNat)))) (by simp at hl ⊢;lia);refine⟨u',v',?_⟩;have c1:∀z:Int,nY .mul 7 z=Δ (7*z):=λz=>fz (.inl ?T);have c2:∀z:Int,nY .mod z 3=Δ (z % 3):=λz=>fA ?D;have c3:∀z:Int,nY .mod z 2=Δ (z % 2):=λz=>fA ?D;have e5:=λst=>rR n x (z:=7*(k:Int)+5) (7*k+5) ?E st;have r5:=bP (drawn x (7*k+5) % 3) (show(0:Int) < 2 by decide);have es:aS ?M (.comp (.fR [.var 1]) 1 [3,0,5] Θ (.op .mod (.call 10 [.var 2,.op .add (.op .mul (.cst (.int 7)) (.var 3)) ?X]) ?Qk)) [Δ (.d (.int x)),Δ ?Qm,a,Δ (.d (.int (c:Int))),Δ ?V,Δ (.d ?W),v] [.lst (ys.map .d)]
    =.ok ((Yh w).map λl=>.d (nD (drawn x (7*k+l) % (c:Int)).toNat)) [.lst (ys.map .d)]:=Dj n x w c hw hc k rfl rfl
  have U0:?Zd < aq:=by unfold aq;simp at hl;lia
  rw[Yx,forL,gf,au,aa];have e:ah ?M gp [Δ (.d (.int x)),Δ ?Qm,a,Δ (.d (.int (c:Int))),Δ ?V,Δ (.d ?W),v] [.lst (ys.map .d)]
    =.ok (.nx [Δ (.d (.int x)),Δ ?Qm,a,Δ (.d (.int (c:Int))),Δ ?V,Δ (.d ?W),Δ (.d (wD ((Yh w).map λl=>(drawn x (7*k+l) % (c:Int)).toNat)))])
     [.lst ((ys++[e8 ?Qc]).map .d)]:=by
   refine ag (aZ (v:=.d (wD ((Yh w).map λl=>(drawn x (7*k+l) % (c:Int)).toNat))) (st1:=[.lst (ys.map .d)]) ?_) ?_;·rw[bT,ak,cH,es];simp[wD,Y8]
   ·refine ag (mT (x:=.obj 0) (v:=.d (e8 ?Qc)) (its:=ys.map .d) (st1:=[.lst (ys.map .d)]) (st2:=[.lst (ys.map .d)]) ?_ rfl ?_ ?_) aw;·simp
    ·simp[c1,c2,c3,e5,e8,nD,acu r5.1,aq]
    ·simp[yL,U0]
  rw[show([Δ (.d (.int x)),Δ ?Qm,a,Δ (.d (.int (c:Int))),Δ ?V,u,v]:bS).set 5 (Δ (.d ?W))=[Δ (.d (.int x)),Δ ?Qm,a,Δ (.d (.int (c:Int))),Δ ?V,Δ (.d ?W),v] from rfl,e,aa];dsimp only;rw[ih];simp
theorem FP n x(w:Nat)most(c:Nat)(hw:w<=3)(hm:0 < most)(hc:1+x % most=(c:Int))(hc1:c<=900)st:
  callC Fs (n+2) 12 [.d (.int x),.d (.int (w:Int)),.d (.int most)] st=.ok (.d (mD (Jv x w c))) st:=by
 have hx:=bP x hm;have c1:∀z:Int,nY .mod z most=Δ (z % most):=λz=>fA hm;obtain⟨u',v',e⟩:=yj n x w c hw ?D (Δ (.d (.int most))) (Yh c) [] Θ Θ (by simp;lia);refine call_of sD rfl (cC (p:=.d (mD (Jv x w c))) (st:=[.lst (([]++(Yh c).map λk=>e8 ?Qc).map .d)]) rfl ?_ rfl);refine ag (aZ (v:=.d (.int (c:Int))) (st1:=[]) (by simp[ay,cX,c1,hc])) ?_;refine ag (aZ (v:=.obj 0) (st1:=[.lst []]) (by simp[ay,cX,aq])) ?_;refine ag (de (ps:=(Yh c).map λk:Nat=>.d ?W) (st1:=[.lst []]) (bV (by simp[ay,cX]) ?D) e) ?_;refine aM (cy ?_);simp[Ld,S8,mD,Jv,Y8]
theorem qN n(k:cL w m)u(hu:∀a∈u,a < w)st:callC Fs (n+1) 13 [.d (mD m),.d (wD u)] st=.ok (.d (.bl (wz m u))) st:=by refine call_of BF rfl (cC (p:=.d (.bl (wz m u))) (st:=[]) rfl ?_ rfl);obtain⟨y,e⟩:=my (C:=callC Fs n) (st:=[]) (r:=[Δ ?N,Δ (.d (wD u)),Θ,Θ]) (iM:=0) (iS:=2) (iL:=3) k rfl ?T ?T ?T ?E ?E u 0 Θ k.ne hu;refine ag (aZ (v:=.d (.int 0)) (st1:=[]) ?E) ?_;refine ag (de (ps:=(u.map nD).map .d) (st1:=[]) (by simp[ay,kF,wD]) e) ?_;refine aM (cy ?_);rw[bx,mx (m:=m) (s:=walk m 0 u) (k.walk k.ne hu) ?E ?E];simp[wz,Pk]
theorem qO n x h st:callC Fs (n+1) 14 [.d x,.d (.int h)] st=.ok (.d (.bl (mJ x h))) st:=by refine call_of vC rfl (cC (p:=.d (.bl (mJ x h))) (st:=[]) rfl (aM (cy ?_)) rfl);cases x with|int i=>by_cases hi:0<=i<;>simp[eB,ay,fk,mJ,hi]|_=>simp[eB,ay,fk,mJ]
theorem Dk n x w(hx:∀xs,x=.tup xs->?Q<=100000/\∀y∈xs,∀ys,y=.tup ys->∀z∈ys,∀zs,z=.tup zs->zs.length<=100000)st:callC Fs (n+2) 15 [.d x,.d (.int w)] st=.ok (.d (.bl (rM x w))) st:=by
 refine call_of nS rfl (cC (p:=.d (.bl (rM x w))) (st:=[]) rfl ?_ rfl);cases x with
 |tup xs=>
  obtain⟨hl,hy⟩:=hx xs rfl;have body:∀y∈xs,ah ?M cR (([Δ (.d ?QE),Δ (.d (.int w)),Θ]:bS).set 2 (Δ (.d y))) []=if iU w ?QN y=Λ then .ok (.nx (([Δ (.d ?QE),Δ (.d (.int w)),Θ]:bS).set 2 (Δ (.d y)))) [] else .ok (.rt (.d ?Zj)) []:=by
   intro y hyx;have ret:∀{c:E} {rest:List S} {r:bS},ae ?M c r []=.ok (.d ?QV) []->ah ?M (.ifs c [.ret (.cst ?Zj)] []::rest) r []=.ok (.rt (.d ?Zj)) []:=λh=>aM (jP h (aM (cy ?E)));have go:∀{c:E} {rest:List S} {r:bS} {res:R Fl},ae ?M c r []=.ok (.d ?Zj) []->ah ?M rest r []=res->ah ?M (.ifs c [.ret (.cst ?Zj)] []::rest) r []=res:=λh h2=>ag (gH h aw) h2;unfold cR;cases y with
   |tup ys=>
    match ys,hy _ hyx with
    |[],_=>simp only[iU,Y7,if_false];exact ret (by simp[fk])|[a],_=>simp only[iU,Y7,if_false];exact ret (by simp[fk])|a::b::c::r,_=>
     simp only[iU,Y7,if_false];refine ret ?_;have:((r.length:Int)+1+1+1==2)=Ξ:=by rw[beq_eq_false_iff_ne];lia
     simp[fk,this]
    |[a,b],hb=>
     simp only[iU];rcases abG (mJ a 1) with h1|h1
     case inr=>simp only[h1,ab4,Y7,if_false];exact ret (by simp[fk,qO,h1])
     case inl=>
      simp only[h1,adB];refine go (by simp[fk,qO,h1]) ?_;cases b with
      |tup ss=>
       have vg:=hb _ rfl (.tup ss) ?E ss rfl;unfold zk;dsimp only;by_cases h2:(ss.length:Int)=w
       ·refine go (by simp[fk,h2]) ?_;simp only[h2,decide_true,adB];have hc:aS ?M (.comp (.ex (.ix ?QC ?R)) 1 [0] (Δ (.not (.call 14 [.var 0,.op .sub (.bf .len [.var 1]) ?R]))) ?X) [Δ (.d ?QE),Δ (.d (.int w)),Δ (.d (.tup [a,.tup ss]))] []
          =.ok ((ss.filter λs=>!mJ s ?QN).map λs=>.d s) []:=
         yY (f:=λs=>s) (p:=λs=>!mJ s ?QN) ?E (by unfold aq;lia) (λs _=>by simp[bu,qO]) (λs _=>by simp)
        rcases abG (ss.all λs=>mJ s ?QN) with h3|h3
        case inl=>
         have e:(ss.filter λs=>!mJ s ?QN)=[]:=by rw[aaC];intro s hs;rw[Zz] at h3;simp[h3 s hs]
         rw[e] at hc;simp only[h3,if_true];refine go ?_ aw;have Dw:aS ?M (.comp (.ex (.ix ?QC ?R)) 1 [0] (Δ (.not (.call 14 [.var 0,.op .sub (.bf .len [.var 1]) ?R]))) ?X) (([Δ (.d ?QE),Δ (.d (.int w)),Θ]:bS).set 2 (Δ (.d (.tup [a,.tup ss])))) []=.ok [] []:=hc;rw[bx,cH,Dw];simp[aq]
        case inr=>
         have e:(ss.filter λs=>!mJ s ?QN)≠[]:=by intro z;rw[aaC] at z;rw[List.all_eq_false] at h3;obtain⟨s,hs,hf⟩:=h3;exact z s hs (by simpa using hf)
         obtain⟨f0,fr,ef⟩:∃f0 fr,(ss.filter λs=>!mJ s ?QN)=f0::fr:=by cases q:(ss.filter λs=>!mJ s ?QN) with|nil=>exact absurd q e|cons a b=>exact⟨a,b,rfl⟩
         rw[ef] at hc;simp only[h3,Y7,if_false];refine ret ?_;have Dw:aS ?M (.comp (.ex (.ix ?QC ?R)) 1 [0] (Δ (.not (.call 14 [.var 0,.op .sub (.bf .len [.var 1]) ?R]))) ?X) (([Δ (.d ?QE),Δ (.d (.int w)),Θ]:bS).set 2 (Δ (.d (.tup [a,.tup ss])))) []=.ok ((f0::fr).map λs=>.d s) []:=hc;rw[bx,cH,Dw];simp[aq]
       ·simp only[h2,decide_false,ab4,Y7,if_false];exact ret (by simp[fk,h2])
      |_=>simp only[zk,Y7,if_false];exact ret (by simp[fk])
   |_=>simp only[iU,Y7,if_false];exact ret (by simp[fk])
  by_cases he:xs=[];·subst he;exact aM (jP (st1:=[]) (by simp[ay,bw,fk,aq]) (aM (cy (by simp[rM]))))
  ·have Mo:xs.isEmpty=Ξ:=by cases xs with|nil=>exact absurd rfl he|cons a b=>rfl
   refine ag (gH (st1:=[]) (by simp[ay,bw,fk,aq,Mo]) aw) ?_;obtain⟨u2,e2⟩:=Ea (i:=2) (r:=[Δ (.d ?QE),Δ (.d (.int w)),Θ]) (st:=[]) (f:=λy=>iU w ?QN y) (v:=.d ?Zj) (b:=ah ?M cR) (xs:=xs) (u:=Θ) body;have em:rM ?QE w=xs.all λy=>iU w ?QN y:=by unfold rM;simp[Mo]
   rw[em];cases h3:xs.all λy=>iU w ?QN y with|true=>rw[h3,if_pos rfl] at e2;exact ag (de (ps:=xs.map .d) (st1:=[]) (by simp[ay,bw]) e2) (aM (cy ?E))|false=>rw[h3,if_neg ?E] at e2;exact aM (de (ps:=xs.map .d) (st1:=[]) (by simp[ay,bw]) e2)
 |_=>exact aM (jP (st1:=[]) (by simp[ay,bw,fk]) (aM (cy (by simp[rM]))))
section
variable{w:Nat}{m:cq}(ok:cL w m)(hn:?A<=4000)(n:Nat)(bG:aK)
include ok hn
theorem IW{ps:qF}(h:bQ w m ps):?S < aq:=by have:=h.len;have:?A*?A<=4000*4000:=adp hn hn;unfold aq;lia
theorem LF{i j:Nat}(hi:i < ?A)(hj:j < ?A){ps:qF}(hs:bQ w m ps)(nV x5 x6:Option P):
  ah ?L gU [Δ ?N,nV,Δ ?Qy,Δ ?Qf,Δ (.d (.int (j:Int))),x5,x6] (bG++[bN ps])
   =.ok (.nx [Δ ?N,nV,Δ ?Qy,Δ ?Qf,Δ (.d (.int (j:Int))),x5,x6]) (bG++[bN (p1 m i ps j)]):=by
 have e1:=mx (C:=callC Fs n) (r:=[Δ ?N,nV,Δ ?Qy,Δ ?Qf,Δ (.d (.int (j:Int))),x5,x6]) (st:=bG++[bN ps]) (em:=.var 0) (es:=.var 3) hi ?E ?E;have e2:=mx (C:=callC Fs n) (r:=[Δ ?N,nV,Δ ?Qy,Δ ?Qf,Δ (.d (.int (j:Int))),x5,x6]) (st:=bG++[bN ps]) (em:=.var 0) (es:=.var 4) hj ?E ?E;unfold p1;by_cases h:gd m i=gd m j;·rw[if_neg (by simpa using h)];refine ag (gH (st1:=bG++[bN ps]) ?_ aw) aw;rw[bx,e1,aa,e2,aa,Ik,zc,h];simp
 ·rw[if_pos h];refine ag (jP (st1:=bG++[bN ps]) ?_ (ag (mU (v:=.d ?QV) (x:=.obj bG.length) (k:=.d (.tup [nD i,nD j])) (st1:=bG++[bN ps]) (st2:=bG++[bN ps]) (st3:=bG++[bN ps]) ?E ?E (by simp[nD,aq]) ?_) aw)) aw
  ·rw[bx,e1,aa,e2,aa,Ik,zc];have:((gd m i:Int)==(gd m j:Int))=Ξ:=by rw[beq_eq_false_iff_ne];lia
   simp[this]
  ·rw[Bk (Iy bG _) (IW ok hn hs),Iz]
theorem LG{i j:Nat}(hi:i < ?A)(hj:j < ?A){ps:qF}(hs:bQ w m ps)(hw:w<=1000)(nV x5 x6:Option P):
  ∃y6,ah ?L gX [Δ ?N,nV,Δ ?Qy,Δ ?Qf,Δ (.d (.int (j:Int))),x5,x6] (bG++[bN ps])
   =.ok (.nx [Δ ?N,nV,Δ ?Qy,Δ ?Qf,Δ (.d (.int (j:Int))),x5,y6]) (bG++[bN (p2 m i ps j)]):=by
 have r1:∀(s:Nat) (v:Nat) (rr:bS) (hs:s < ?A),(rr[0]?).join=Δ ?N->(rr[v]?).join=Δ (.d (.int (s:Int)))->ae ?L (.ix (.ix ?X (.var v)) ?R) rr (bG++[bN ps])=.ok (.d (wD (row m s).2)) (bG++[bN ps]):=λs v rr hs h1 h2=>by simp[h1,h2,mD,zi hs,e8]
 refine⟨Δ (.d ?QK),?_⟩;refine ag (aZ (v:=.d ?QK) (st1:=bG++[bN ps]) ?_) ?_;·rw[cH,xu,r1 i 3 _ hi rfl rfl,aa,r1 j 4 _ hj rfl rfl,aa,Pn];simp[Y8]
 have lz:((row m i).2.zip (row m j).2).length<=aq:=by rw[acr,ok.len _ (aY hi)];unfold aq;lia
 have hc:aS ?L (.comp (.ex (.var 6)) 1 [2] Θ (.cmp .isin ?X ?Qk)) (([Δ ?N,nV,Δ ?Qy,Δ ?Qf,Δ (.d (.int (j:Int))),x5,x6]:bS).set 6 (Δ (.d ?QK))) (bG++[bN ps])
   =.ok (((row m i).2.zip (row m j).2).map λq=>.d (.bl (decide (q∈ps)))) (bG++[bN ps]):=
  dh (g:=λq:Nat×Nat=>P.d (D.tup [nD q.1,nD q.2])) (f:=λq=>.bl (decide (q∈ps))) (by simp[Y8]) lz λq _=>by have:=Ls (Iy bG (bN ps)) q.1 q.2;simp[bu,this]
 have ha:ae ?L (.bf .any [.lst Ξ (.comp (.ex (.var 6)) 1 [2] Θ (.cmp .isin ?X ?Qk))]) (([Δ ?N,nV,Δ ?Qy,Δ ?Qf,Δ (.d (.int (j:Int))),x5,x6]:bS).set 6 (Δ (.d ?QK))) (bG++[bN ps])
   =.ok (.d (.bl (hit m ps i j))) (bG++[bN ps]):=by
  rw[bT,ak,cH,hc];simp[Ec,hit,Y8]
 unfold p2;rcases abG (hit m ps i j) with h|h;·rw[if_pos h];rw[h] at ha;refine ag (jP (st1:=bG++[bN ps]) ha (ag (mU (v:=.d ?QV) (x:=.obj bG.length) (k:=.d (.tup [nD i,nD j])) (st1:=bG++[bN ps]) (st2:=bG++[bN ps]) (st3:=bG++[bN ps]) ?E ?E (by simp[nD,aq]) ?_) aw)) aw;rw[Bk (Iy bG _) (IW ok hn hs),Iz]
 ·rw[if_neg (by simp[h])];rw[h] at ha;exact ag (gH (st1:=bG++[bN ps]) ha aw) aw
theorem LH{i:Nat}(hi:i < ?A){ps:qF}(hs:bQ w m ps)(x4 x5 x6:Option P):
  ∃y4,ah ?L gW [Δ ?N,Δ ?Qo,Δ ?Qy,Δ ?Qf,x4,x5,x6] (bG++[bN ps])
   =.ok (.nx [Δ ?N,Δ ?Qo,Δ ?Qy,Δ ?Qf,y4,x5,x6]) (bG++[bN ((Yh ?A).foldl (p1 m i) ps)]):=by
 obtain⟨r',e,⟨y4,i'⟩,j'⟩:=jS (g:=gf (.nm 4)) (b:=ah ?L gU) (enc:=λk:Nat=>P.d ?W) (f:=p1 m i) (S:=λps=>bG++[bN ps]) (I:=λr=>∃y4,r=[Δ ?N,Δ ?Qo,Δ ?Qy,Δ ?Qf,y4,x5,x6]) (J:=bQ w m) (xs:=Yh ?A)
  (λj hj s r js ⟨y4,er⟩=>by subst er;exact⟨_,_,rfl,LF ok hn n bG hi ?Zm js _ x5 x6,⟨_,rfl⟩,Ir js hi ?Zm⟩) hs ⟨x4,rfl⟩
 subst i';exact⟨y4,ag (de (bV ?E ?D) e) aw⟩
theorem LI{i:Nat}(hi:i < ?A){ps:qF}(hs:bQ w m ps)(hw:w<=1000)(x4 x5 x6:Option P):
  ∃y4 y6,ah ?L gY [Δ ?N,Δ ?Qo,Δ ?Qy,Δ ?Qf,x4,x5,x6] (bG++[bN ps])
   =.ok (.nx [Δ ?N,Δ ?Qo,Δ ?Qy,Δ ?Qf,y4,x5,y6]) (bG++[bN ((Yh ?A).foldl (p2 m i) ps)]):=by
 obtain⟨r',e,⟨y4,y6,i'⟩,j'⟩:=jS (g:=gf (.nm 4)) (b:=ah ?L gX) (enc:=λk:Nat=>P.d ?W) (f:=p2 m i) (S:=λps=>bG++[bN ps]) (I:=λr=>∃y4 y6,r=[Δ ?N,Δ ?Qo,Δ ?Qy,Δ ?Qf,y4,x5,y6]) (J:=bQ w m) (xs:=Yh ?A)
  (λj hj s r js ⟨y4,y6,er⟩=>by subst er;obtain⟨z6,ez⟩:=LG ok hn n bG hi (j:=j) ?Zm js hw (Δ ?Qo) x5 y6;exact⟨_,_,rfl,ez,⟨_,_,rfl⟩,Eg ok js hi ?Zm⟩) hs ⟨x4,x6,rfl⟩
 subst i';exact⟨y4,y6,ag (de (bV ?E ?D) e) aw⟩
theorem LJ{ps:qF}(hs:bQ w m ps)(hw:w<=1000)(x3 x4 x5 x6:Option P):
  ∃y3 y4 y6,ah ?L gZ [Δ ?N,Δ ?Qo,Δ ?Qy,x3,x4,x5,x6] (bG++[bN ps])
   =.ok (.nx [Δ ?N,Δ ?Qo,Δ ?Qy,y3,y4,x5,y6]) (bG++[bN (kN (p2 m) ?A ps)]):=by
 obtain⟨r',e,⟨y3,y4,y6,i'⟩,j'⟩:=jS (g:=gf (.nm 3)) (b:=ah ?L gY) (enc:=λk:Nat=>P.d ?W) (f:=λps i=>(Yh ?A).foldl (p2 m i) ps) (S:=λps=>bG++[bN ps]) (I:=λr=>∃y3 y4 y6,r=[Δ ?N,Δ ?Qo,Δ ?Qy,y3,y4,x5,y6]) (J:=bQ w m) (xs:=Yh ?A)
  (λi hi s r js ⟨y3,y4,y6,er⟩=>by
   have xf:i < m.length:=by simpa using hi
   subst er;obtain⟨z4,z6,ez⟩:=LI ok hn n bG xf js hw y4 x5 y6;exact⟨_,_,rfl,ez,⟨_,_,_,rfl⟩,dq js λs j hj hs=>Eg ok hs xf ?Zm⟩) hs ⟨x3,x4,x6,rfl⟩
 subst i';exact⟨y3,y4,y6,ag (de (bV ?E ?D) e) aw⟩
theorem BK(hw:w<=1000):callC Fs (n+1) 16 [.d (mD m)] bG=.ok ?Qy (bG++[bN (cO m)]):=by
 have s0:bQ w m []:=⟨by simp,(λ_ h=>nomatch h),(λ_ h=>nomatch h)⟩;refine yZ vD rfl rfl ?_;refine ag (aZ (v:=.d (.int (m.length:Nat))) (st1:=bG) (by simp[ay,eD,mD])) ?_;refine ag (aZ (v:=.obj bG.length) (st1:=bG++[bN []]) (by simp[bN])) ?_;obtain⟨r1,e1,⟨y3,y4,i1⟩,j1⟩:=jS (g:=gf (.nm 3)) (b:=ah ?L gW) (enc:=λk:Nat=>P.d ?W) (f:=λps i=>(Yh ?A).foldl (p1 m i) ps) (S:=λps=>bG++[bN ps]) (I:=λr=>∃y3 y4,r=[Δ ?N,Δ ?Qo,Δ ?Qy,y3,y4,Θ,Θ]) (J:=bQ w m) (xs:=Yh ?A)
  (λi hi s r js ⟨y3,y4,er⟩=>by
   have xf:i < m.length:=by simpa using hi
   subst er;obtain⟨z4,ez⟩:=LH ok hn n bG xf js y4 Θ Θ;exact⟨_,_,rfl,ez,⟨_,_,rfl⟩,dq js λs j hj hs=>Ir hs xf ?Zm⟩) (s:=[]) s0 ⟨Θ,Θ,rfl⟩
 subst i1;refine ag (de (bV (j:=?A) (by simp[ay,eD]) ?D) e1) ?_;obtain⟨r2,e2,⟨z3,z4,z5,z6,i2⟩,j2⟩:=jS (g:=gf (.nm 5)) (b:=ah ?L gZ) (enc:=λk:Nat=>P.d ?W) (f:=λps _=>kN (p2 m) ?A ps) (S:=λps=>bG++[bN ps]) (I:=λr=>∃y3 y4 y5 y6,r=[Δ ?N,Δ ?Qo,Δ ?Qy,y3,y4,y5,y6]) (J:=bQ w m) (xs:=Yh ?A)
  (λi hi s r js ⟨y3,y4,y5,y6,er⟩=>by subst er;obtain⟨z3,z4,z6,ez⟩:=LJ ok hn n bG js hw y3 y4 (Δ ?Qf) y6;exact⟨_,_,rfl,ez,⟨_,_,_,_,rfl⟩,u9 (J:=bQ w m) (λps i j hi hj h=>Eg ok h hi hj) js⟩) (s:=kN (p1 m) ?A []) j1 ⟨y3,y4,Θ,Θ,rfl⟩
 subst i2;refine ag (de (bV (j:=?A) ?E ?D) e2) ?_;exact aM (cy (by simp[cO]))
end
section
variable{w:Nat}{m:cq}(ok:cL w m)(hn:?A<=4000)(n:Nat)
abbrev fY(o:List Nat):aK:=[.lst (o.map λk=>P.d (nD k))]
theorem qP(hl:∀s∈([]:List Nat),True)mV wV kV x5:∀(ss o) (x4),o.length+ss.length<=100000000->o.length+ss.length < aq->
  ∃y4,forL (gf (.nm 4)) (ah ?L dz) ((ss.map nD).map .d) [mV,wV,Δ ?V,kV,x4,x5] (fY o)=.ok (.nx [mV,wV,Δ ?V,kV,y4,x5]) (fY (jg o ss))
 |[],o,x4,_,_=>⟨x4,rfl⟩|s::ss,o,x4,hb,xi=>by
  have e1:=Lr (o:=o) (s:=s) (st:=fY o) (k:=0) rfl;rw[Yx,Yx,forL,gf,au,aa];simp only[abp];by_cases h:s∈o
  ·obtain⟨y4,ih⟩:=qP hl mV wV kV x5 ss o (Δ (.d (nD s))) (by simp at hb ⊢;lia) (by simp at xi ⊢;lia);refine⟨y4,?_⟩;have e:ah ?L dz [mV,wV,Δ ?V,kV,Δ (.d (nD s)),x5] (fY o)=.ok (.nx [mV,wV,Δ ?V,kV,Δ (.d (nD s)),x5]) (fY o):=
    ag (gH (st1:=fY o) (by simp[e1,h]) aw) aw
   rw[e,aa];have eo:jg o (s::ss)=jg o ss:=by unfold jg;rw[Z3,if_pos h]
   rw[eo];exact ih
  ·obtain⟨y4,ih⟩:=qP hl mV wV kV x5 ss (o++[s]) (Δ (.d (nD s))) (by simp at hb ⊢;lia) (by simp at xi ⊢;lia);refine⟨y4,?_⟩;have e:ah ?L dz [mV,wV,Δ ?V,kV,Δ (.d (nD s)),x5] (fY o)=.ok (.nx [mV,wV,Δ ?V,kV,Δ (.d (nD s)),x5]) (fY (o++[s])):=by
    refine ag (jP (st1:=fY o) (by simp[e1,h]) (ag (mT (x:=.obj 0) (v:=.d (nD s)) (its:=o.map λk=>P.d (nD k)) (st1:=fY o) (st2:=fY o) ?E rfl ?E ?_) aw)) aw;have:o.length < aq:=by simp at xi;lia
    simp[yL,fY,this]
   rw[e,aa];have eo:jg o (s::ss)=jg (o++[s]) ss:=by unfold jg;rw[Z3,if_neg h]
   rw[eo];exact ih
include ok hn
theorem IX{o ss:List Nat}(ho:∀s∈o,s < ?A)(vg:∀s∈ss,s < ?A)(hd:o.Nodup):(∀s∈jg o ss,s < ?A)/\(jg o ss).Nodup:=by
 unfold jg;refine dq (J:=λo=>(∀s∈o,s < ?A)/\o.Nodup) ⟨ho,hd⟩ λo s hs ⟨h1,h2⟩=>?_;split;·exact⟨h1,h2⟩
 ·rename_i h;refine⟨λt ht=>?_,?_⟩
  ·rcases abh.mp ht with z|z;·exact h1 t z
   ·rw[Zt] at z;rw[z];exact vg s hs
  ·rw[Ze];exact⟨h2,by simp,λa ha b hb=>by simp at hb;subst hb;exact λz=>h (z▸ha)⟩
theorem LK{o:List Nat}(ho:∀s∈o,s < ?A)(hd:o.Nodup):o.length<=m.length:=by
 have:=fB hd (xs:=Yh ?A) λs hs=>by simpa using ho s hs
 simpa using this
theorem yk(hw:w<=1000)(wV x5:Option P):∀(ks o:List Nat) (x3 x4:Option P),(∀s∈o,s < ?A)->o.Nodup->
  match wB m ks o with|some o'=>(∀s∈o',s < ?A)/\o'.Nodup/\∃y3 y4,forL (gf (.nm 3)) (ah ?L bJ) (ks.map λk:Nat=>.d ?W) [Δ ?N,wV,Δ ?V,x3,x4,x5] (fY o)=.ok (.nx [Δ ?N,wV,Δ ?V,y3,y4,x5]) (fY o')|none=>∃aJ,forL (gf (.nm 3)) (ah ?L bJ) (ks.map λk:Nat=>.d ?W) [Δ ?N,wV,Δ ?V,x3,x4,x5] (fY o)=.ok (.rt (.d ?Zj)) aJ
 |[],o,x3,x4,ho,hd=>⟨ho,hd,x3,x4,rfl⟩|k::ks,o,x3,x4,ho,hd=>by
  have ol:=LK ok hn ho hd;have el:sf .len [.obj 0] (fY o)=Δ (.d (.int (o.length:Nat))):=by rw[gy (st:=fY o) (n:=0) rfl,Yr]
  simp only[wB];by_cases h:o.length<=k
  ·rw[if_pos h];refine⟨fY o,?_⟩;have e:ah ?L bJ [Δ ?N,wV,Δ ?V,Δ (.d ?W),x4,x5] (fY o)=.ok (.rt (.d ?Zj)) (fY o):=
    aM (jP (st1:=fY o) (by simp[el];lia) (aM (cy ?E)))
   rw[Yx,forL,gf,au,aa];simp only[abp];rw[e,aa]
  ·rw[if_neg h];have hk:o[k]?=Δ (o.getD k 0):=by rw[Ym,Yn ?D];rfl
   have hs:o.getD k 0 < m.length:=ho _ (Yz hk);have hr:=aY hs;have hlen:=ok.len _ hr;obtain⟨y4,e1⟩:=qP n (λ_ _=>trivial) (Δ ?N) wV (Δ (.d ?W)) x5 (row m (o.getD k 0)).2 o x4 ?D (by unfold aq;lia);have eix:Ax ?V (.d ?W) (fY o)=Δ (.d (nD (o.getD k 0))):=by have:bF (fY o) ?V=Θ:=kz rfl;unfold Ax;rw[this];dsimp only[WJ];show(dg (fY o) ?V).bind _=_;have e2:dg (fY o) ?V=Δ (o.map λk=>P.d (nD k)):=rfl;rw[e2,Zk];exact dy (by rw[Ys,hk];rfl)
   have e:ah ?L bJ [Δ ?N,wV,Δ ?V,Δ (.d ?W),x4,x5] (fY o)=.ok (.nx [Δ ?N,wV,Δ ?V,Δ (.d ?W),y4,x5]) (fY (jg o (row m (o.getD k 0)).2)):=by refine ag (gH (st1:=fY o) (by simp[el];lia) aw) ?_;refine ag (de (ps:=((row m (o.getD k 0)).2.map nD).map .d) (st1:=fY o) ?_ e1) aw;rw[ur];simp only[bH,aR,dn,Yu,Yv,YM,au,aa,eix,nD];rw[mD,Xy,zi hs];simp[e8,wD,nD]
   have a:=IX ok hn (o:=o) (ss:=(row m (o.getD k 0)).2) ho (λs h=>ok.lt _ hr s h) hd;have ih:=yk hw wV x5 ks (jg o (row m (o.getD k 0)).2) (Δ (.d ?W)) y4 a.1 a.2;have step:forL (gf (.nm 3)) (ah ?L bJ) ((k::ks).map λk:Nat=>.d ?W) [Δ ?N,wV,Δ ?V,x3,x4,x5] (fY o)
     =forL (gf (.nm 3)) (ah ?L bJ) (ks.map λk:Nat=>.d ?W) [Δ ?N,wV,Δ ?V,Δ (.d ?W),y4,x5] (fY (jg o (row m (o.getD k 0)).2)):=by
    rw[Yx,forL,gf,au,aa];simp only[abp];rw[e,aa]
   rw[step];exact ih
end
theorem PF n{w:Nat}(hn:?A<=4000)o y3 y4:ae (callC Fs (n+2)) (.lst Ξ (.fR [.bf .len [.var 0]])) [Δ ?N,Δ ?Qm,Δ ?V,y3,y4,Θ] (fY o)=.ok (.d (.pl ((Yh ?A).map nD))) (fY o):=by
 have e2:si [.d (.int (m.length:Nat))]=Δ ((Yh ?A).map λk:Nat=>.d ?W):=Ta ?D;have e1:aC (callC Fs (n+2)) [.bf .len [.var 0]] [Δ ?N,Δ ?Qm,Δ ?V,y3,y4,Θ] (fY o)=.ok [.d (.int (m.length:Nat))] (fY o):=by simp[mD]
 have hl:((Yh ?A).map λk:Nat=>(P.d ?W)).length<=aq:=by rw[Yr,YN];unfold aq;lia
 rw[cH,xt,e1,aa,e2,au,aa,if_pos hl,aa];have:br ((Yh ?A).map λk:Nat=>(P.d ?W))=Δ ((Yh ?A).map nD):=cD nD _;rw[this];rfl
theorem PH{m:cq}o:jf .ne ?V (.d (.pl ((Yh ?A).map nD))) (fY o)=Δ (!decide (o=Yh ?A)):=by
 have f1:kr (fY o) ?V=Δ (.pl (o.map nD)):=by simp[kr,fY]
 show(kr (fY o) ?V).bind _=_;rw[f1,Zk];show(Δ (D.pl ((Yh ?A).map nD))).bind _=_;rw[Zk];have:se (.pl (o.map nD)) (.pl ((Yh ?A).map nD))=Δ (decide (o=Yh ?A)):=by unfold se;rw[if_pos (Zc (abH ..) (by show kL (o.map nD)+1<=100;rw[Iu];decide))];exact congrArg Δ Eh
 rw[this];rfl
open Classical in
theorem rS n(ok:cL w m)(hn:?A<=4000)(hw:w<=1000)st:callC Fs (n+3) 17 [.d (mD m),.d (.int (w:Int))] st=.ok (.d (.bl (decide (jQ w m)))) st:=by
 have em:∀st,callC Fs (n+2) 15 [.d (mD m),.d (.int (w:Int))] st=.ok (.d ?QV) st:=λst=>by
  rw[Dk n (mD m) w (λxs e=>by
   injection e with e;refine⟨by rw[<-e,Yr];lia,λy hy ys e2 z hz zs e3=>?_⟩;rw[<-e,aad] at hy;obtain⟨s,hs,rfl⟩:=hy;injection e2 with e2;rw[<-e2] at hz;simp only[aa2,aa9,or_false] at hz;rcases hz with z1|z1;·rw[z1] at e3;cases e3
   ·rw[z1] at e3;injection e3 with e3;rw[<-e3,Yr,ok.len s hs];lia) st,Iq ok]
 have body:∃st1,ah (callC Fs (n+2)) eO.body (ay 6 [.d (mD m),.d (.int (w:Int))]) []=.ok (.rt (.d (.bl (decide (jQ w m))))) st1:=by
  have out:=yk ok hn (n+2) hw (Δ ?Qm) Θ (Yh ?A) [0] Θ Θ (by simpa using ok.ne) ?E;cases ho:wB m (Yh ?A) [0] with
  |none=>
   rw[ho] at out;obtain⟨aJ,e⟩:=out;have hf:decide (jQ w m)=Ξ:=decide_eq_false λL=>by have:=zo.mpr L.ord;rw[ho] at this;cases this
   refine⟨aJ,?_⟩;rw[hf];refine ag (gH (st1:=[]) (by simp[ay,em]) aw) ?_;refine ag (aZ (v:=.obj 0) (st1:=fY [0]) (by simp[aq,nD])) ?_;exact aM (de (bV (j:=?A) (by simp[mD,ay]) ?D) e)
  |some o=>
   rw[ho] at out;obtain⟨o1,o2,y3,y4,e⟩:=out;have er:=PF n (w:=w) hn o y3 y4;have ec:=PH (m:=m) o;by_cases hr:o=Yh ?A
   ·have sc:gJ m 0 1=Δ m.length:=zo.mp (by rw[ho,hr]);have ep:callC Fs (n+2) 16 [.d (mD m)] (fY o)=.ok (.obj 1) (fY o++[bN (cO m)]):=BK ok hn (n+1) (fY o) hw;have hd:decide (jQ w m)=decide (Red w m):=by rw[decide_eq_decide];exact⟨λL=>L.red,λR=>⟨ok,R,sc⟩⟩
    refine⟨fY o++[bN (cO m)],?_⟩;rw[hd];refine ag (gH (st1:=[]) (by simp[ay,em]) aw) ?_;refine ag (aZ (v:=.obj 0) (st1:=fY [0]) (by simp[aq,nD])) ?_;refine ag (de (bV (j:=?A) (by simp[mD,ay]) ?D) e) ?_;refine ag (gH (st1:=fY o) (by rw[bx,show ae (callC Fs (n+2)) ?QC [Δ ?N,Δ ?Qm,Δ ?V,y3,y4,Θ] (fY o)=.ok ?V (fY o) by simp,aa,er,aa,ec];simp[hr]) aw) ?_;refine ag (aZ (v:=.obj 1) (st1:=fY o++[bN (cO m)]) (by simp only[dE,ak,az,aR,Yu,YM,au,aa,ep])) ?_;refine aM (cy ?_);have el:=Po (st:=fY o++[bN (cO m)]) (k:=1) (ps:=cO m) rfl;have cm:nY .mul (m.length:Int) (m.length:Int)=Δ ((m.length:Int)*(m.length:Int)):=fz (.inl (by unfold nq;lia));have lm:∀st,sf .len [.d (mD m)] st=Δ ?Qo:=λst=>by rw[mD,K9,Yr]
    generalize hR:([Δ ?N,Δ ?Qm,Δ ?V,y3,y4,Θ]:bS).set 5 (Δ (.obj 1))=r5;generalize hS:fY o++[bN (cO m)]=s5 at el;have r0:(r5[0]?).join=Δ ?N:=by rw[<-hR];rfl
    have r1:(r5[5]?).join=Δ (.obj 1):=by rw[<-hR];rfl
    have h1:ae (callC Fs (n+2)) (.bf .len [.var 5]) r5 s5=.ok (.d (.int ((cO m).length:Nat))) s5:=by rw[bT,ak,aR,r1,au,aa,az,aa,aa,el,au]
    have h2:ae (callC Fs (n+2)) (.bf .len [.var 0]) r5 s5=.ok ?Qo s5:=by rw[bT,ak,aR,r0,au,aa,az,aa,aa,lm,au]
    have XX:(((cO m).length:Int)==(m.length:Int)*(m.length:Int) - (m.length:Int))=decide (Red w m):=by
     rw[aak,beq_iff_eq,qqq,<-C5 ok];have:((?A*m.length:Nat):Int)=(m.length:Int)*(m.length:Int):=by simp
     lia
    rw[bx,h1,aa,iH,iH,h2,aa,h2,aa,Ii,cm,Y5,au,aa,h2,aa,Ii,K8,Y5,au,aa,Pf,zc,XX,au,aa]
   ·have hf:decide (jQ w m)=Ξ:=decide_eq_false λL=>by have:=zo.mpr L.ord;rw[ho] at this;injection this with this;exact hr this
    refine⟨fY o,?_⟩;rw[hf];refine ag (gH (st1:=[]) (by simp[ay,em]) aw) ?_;refine ag (aZ (v:=.obj 0) (st1:=fY [0]) (by simp[aq,nD])) ?_;refine ag (de (bV (j:=?A) (by simp[mD,ay]) ?D) e) ?_;exact aM (jP (st1:=fY o) (by rw[bx,show ae (callC Fs (n+2)) ?QC [Δ ?N,Δ ?Qm,Δ ?V,y3,y4,Θ] (fY o)=.ok ?V (fY o) by simp,aa,er,aa,ec];simp[hr]) (aM (cy ?E)))
 obtain⟨st1,e⟩:=body;exact call_of qK rfl (cC rfl e rfl)
def sH(w:Nat):Nat:=[0,8,5,4].getD w 0
theorem Eu w:sH w<=8:=by
 match w with|0=>decide|1=>decide|2=>decide|3=>decide|w+4=>simp[sH]
theorem lY(hw:w<=3)(hk:k<=8):(fE w k).length<=6561:=by
 rw[yc]
 calc w ^ k<=3 ^ k:=Nat.pow_le_pow_left hw k
  _<=3 ^ 8:=Nat.pow_le_pow_right ?T hk
  _=6561:=by decide
theorem mZ(hw:w<=3):∀{k},k<=8->(b9 w k).length<=(k+1)*6561
 |0,_=>by simp[b9,fE]|k+1,hk=>by
  have ih:=mZ hw (k:=k) ?D;have e:b9 w (k+1)=b9 w k++fE w (k+1):=by unfold b9;rw[Zn (n:=k+1),Zy];simp
  rw[e,YF];have:=lY hw hk
  lia
theorem PJ{w:Nat}(hw:w<=3):nZ [D.int 0,.int 8,.int 5,.int 4] (w:Int)=Δ (.int (sH w:Nat)):=by
 rcases(by lia:w=0\/w=1\/w=2\/w=3) with h|h|h|h<;>subst h;·exact dy (k:=0) rfl
 ·exact dy (k:=1) rfl
 ·exact dy (k:=2) rfl
 ·exact dy (k:=3) rfl
theorem BL n{w:Nat}(hw:w<=3)st:callC Fs (n+1) 11 [.d (.int (w:Int))] st=.ok (.d (.pl ((b9 w (sH w)).map wD))) st:=by
 let r0 (F R:List (List Nat)) (y3 y4 y5:Option P):bS:=[Δ ?Qm,Δ (.d (.pl (F.map wD))),Δ (.d (.pl (R.map wD))),y3,y4,y5]
 have top8:=Eu w;have fl:∀(l:List (List Nat)),(l.flatMap λu=>(Yh w).map λa=>u++[a]).length=l.length*w:=λl=>by induction l with|nil=>simp|cons u l ih=>rw[abn,YF,ih];simp[aaU,adI]
 have XY:∀(F R:List (List Nat)) (y3 y5:Option P),R.length<=6561->(∀u∈R,u.length<=100)->∃FI,forL (gf (.nm 5)) (ah ?L i0) ((R.map wD).map .d) (r0 F R y3 (Δ (.d (.pl []))) y5) []=.ok (.nx (r0 F R y3 (Δ (.d (.pl ((R.flatMap λu=>(Yh w).map λa=>u++[a]).map wD)))) FI)) []:=by
  intro F R y3 y5 hR hu;obtain⟨r',s',e,⟨FI,z1⟩,z2⟩:=dY (g:=gf (.nm 5)) (b:=ah ?L i0) (ps:=(R.map wD).map .d) (k:=0) (r:=r0 F R y3 (Δ (.d (.pl []))) y5) (st:=[])
   (I:=λk r s=>(∃y5,r=r0 F R y3 (Δ (.d (.pl (((R.take k).flatMap λu=>(Yh w).map λa=>u++[a]).map wD)))) y5)/\s=[])
   (λi p r s ⟨⟨y5,h1⟩,h2⟩ hp=>by
    rw[Y2] at h1 ⊢;subst h1 h2;rw[aae,Ys] at hp;cases Jx:R[i]? with
    |none=>rw[Jx] at hp;cases hp|some u=>
     rw[Jx] at hp;cases hp;obtain⟨U3,_⟩:=qqz Jx;have hul:=hu u (Yz Jx);have LB:R.take (i+1)=R.take i++[u]:=by rw[ZA,Jx];rfl
     refine⟨_,r0 F R y3 (Δ (.d (.pl (((R.take (i+1)).flatMap λu=>(Yh w).map λa=>u++[a]).map wD)))) (Δ (.d (wD u))),[],rfl,?_,⟨_,rfl⟩,rfl⟩;refine ag (aZ (v:=.d (.pl (((R.take (i+1)).flatMap λu=>(Yh w).map λa=>u++[a]).map wD))) (st1:=[]) ?_) aw;have eL:aS ?L (.comp (.fR [.var 0]) 1 [5] Θ (.op .add ?Qk (.tup [.var 0]))) (r0 F R y3 (Δ (.d (.pl (((R.take i).flatMap λu=>(Yh w).map λa=>u++[a]).map wD)))) (Δ (.d (wD u)))) []=.ok ((Yh w).map λa=>P.d (wD (u++[a]))) []:=by
      refine dh (g:=λk:Nat=>P.d ?W) (f:=λa=>wD (u++[a])) (bV (by simp[r0]) ?D) (by rw[YN];unfold aq;lia) λa ha=>?_;show ae _ (.op .add ?Qk (.tup [.var 0])) [Δ (.d (.int (a:Int))),Δ (.d (wD u))] []=_;have h3:u.length<=16777215:=by lia
      simp[wD,nD,aq,h3]
     show ae _ (.op .add (.var 4) (.lst Ξ _)) (r0 F R y3 _ (Δ (.d (wD u)))) []=_;have e4:ae ?L (.var 4) (r0 F R y3 (Δ (.d (.pl (((R.take i).flatMap λu=>(Yh w).map λa=>u++[a]).map wD)))) (Δ (.d (wD u)))) []=.ok (.d (.pl (((R.take i).flatMap λu=>(Yh w).map λa=>u++[a]).map wD))) []:=by simp[r0]
     rw[iH,e4,aa,cH,eL,aa,cD];have h4:((R.take i).flatMap λu=>(Yh w).map λa=>u++[a]).length+w<=aq:=by
      rw[fl,aaI];have:min i R.length*w<=6561*3:=adp ?D hw;unfold aq
      lia
     simp only[aR,r0,Yu,Yv,YM,au,aa,Ij,Yr,YN];rw[if_pos h4,LB,Zy];simp[Y8]) ⟨⟨y5,by simp⟩,rfl⟩
  subst z1 z2;rw[Yr,Yr,Y2,Zs (Yt _)] at e;exact⟨FI,e⟩
 obtain⟨r',s',e,⟨y3,y4,y5,z1⟩,z2⟩:=dY (g:=gf (.nm 3)) (b:=ah ?L lV) (ps:=(Yh (sH w)).map λk:Nat=>P.d ?W) (k:=0) (r:=r0 [[]] [[]] Θ Θ Θ) (st:=[])
  (I:=λk r s=>(∃y3 y4 y5,r=r0 (b9 w k) (fE w k) y3 y4 y5)/\s=[])
  (λi p r s ⟨⟨y3,y4,y5,h1⟩,h2⟩ hp=>by
   rw[Y2] at h1 ⊢;subst h1 h2;have hi:i < sH w:=by
    rw[Ys] at hp;by_cases z:i < sH w;·exact z
    ·rw[YR (by simpa using z)] at hp;cases hp
   rw[Ys,Zb hi] at hp;cases hp;have e1:b9 w (i+1)=b9 w i++fE w (i+1):=by unfold b9;rw[Zn (n:=i+1),Zy];simp
   obtain⟨FI,el⟩:=XY (b9 w i) (fE w i) (Δ ?Qf) y5 (lY hw ?D) (λu hu=>by rw[(jV.mp hu).2];lia);refine⟨_,r0 (b9 w (i+1)) (fE w (i+1)) (Δ ?Qf) (Δ (.d (.pl ((fE w (i+1)).map wD)))) FI,[],rfl,?_,⟨_,_,_,rfl⟩,rfl⟩;refine ag (aZ (v:=.d (.pl [])) (st1:=[]) ?E) ?_;refine ag (de (ps:=((fE w i).map wD).map .d) (st1:=[]) (by simp[r0]) el) ?_;refine ag (aZ (v:=.d (.pl ((fE w (i+1)).map wD))) (st1:=[]) (by simp[r0,fE])) ?_;refine ag (aZ (v:=.d (.pl ((b9 w (i+1)).map wD))) (st1:=[]) ?_) aw;have l1:=lY (k:=i+1) hw ?D;have l2:=mZ (k:=i) hw ?D;have l3:(b9 w i).length+(fE w (i+1)).length<=aq:=by have:(i+1)*6561<=8*6561:=aaW _ ?D;unfold aq;lia
   simp only[iH,aR,r0,abp,Yu,Yv,YM,au,aa,Ij,Yr];rw[if_pos l3,e1,Y1];rfl) ⟨⟨Θ,Θ,Θ,rfl⟩,rfl⟩
 subst z1 z2;rw[Yr,YN,Y2] at e;refine call_of wL rfl (cC (p:=.d (.pl ((b9 w (sH w)).map wD))) (st:=[]) rfl ?_ rfl);refine ag (aZ (v:=.d (.pl [wD []])) (st1:=[]) (by simp[ay,dP,aq,wD])) ?_;refine ag (aZ (v:=.d (.pl [wD []])) (st1:=[]) (by simp[ay,dP,aq,wD])) ?_;refine ag (de (ps:=(Yh (sH w)).map λk:Nat=>P.d ?W) (st1:=[]) (bV ?_ ?D) e) ?_;·have:=PJ hw;simp[ay,dP,aq,this]
 ·exact aM (cy (by simp[r0]))
theorem BM(n:Nat){w:Nat}{m:cq}(k:cL w m){s:Nat}(hs:s < ?A)(u:List Nat)(hu:∀a∈u,a < w)(st:aK):callC Fs (n+1) 2 [.d (mD m),.d (.int (s:Int)),.d (wD u)] st=.ok (.d (.int (walk m s u:Nat))) st:=by refine call_of FG rfl (cC (p:=.d (.int (walk m s u:Nat))) (st:=[]) rfl ?_ rfl);obtain⟨y,e⟩:=my (C:=callC Fs n) (st:=[]) (r:=[Δ ?N,Θ,Δ (.d (wD u)),Θ]) (iM:=0) (iS:=1) (iL:=3) k rfl ?T ?T ?T ?E ?E u s Θ hs hu;refine ag (de (ps:=(u.map nD).map .d) (st1:=[]) (by simp[ay,pf,wD]) e) ?_;exact aM (cy ?E)
section
variable{w:Nat}{m:cq}(ok:cL w m)(hm:?A<=100000)(hw:w<=1000)
include ok
theorem FQ(n:Nat){p:Nat}(hp:p < ?A)(st:aK):callC Fs (n+1) 27 [.d (nD p),.d (mD m)] st=.ok (.d (.tup ((iY m p).map nD))) st:=by refine call_of sE rfl (cC (p:=.d (.tup ((iY m p).map nD))) (st:=[]) rfl (aM (cy ?_)) rfl);have h0:nZ (m.map e8) (p:Int)=Δ (e8 (row m p)):=zi hp;simp[ay,fN,mD,nD,h0,e8,wD,iY]
theorem IY(n:Nat){p:Nat}(hp:p < ?A)(st:aK):callC Fs (n+1) 28 [.d (nD p),.d (mD m)] st=.ok (.d (nD (gd m p))) st:=by refine call_of vE rfl (cC (p:=.d (nD (gd m p))) (st:=[]) rfl (aM (cy ?_)) rfl);exact mx hp (by simp[ay,eE]) (by simp[ay,eE,nD])
include hm hw
theorem vH(n:Nat){u:List Nat}(hu:Wd w u)(st:aK):callC Fs (n+7) 6 [.d (mD m),.d (wD u)] st=.ok (.d (mD (ba w (lQ m (walk m 0 u))))) st:=by
 have hs:=ok.walk ok.ne hu;obtain⟨k1,k2,_⟩:=zv ok hm hs;have e1:callC Fs (n+6) 2 [.d (mD m),.d (.int 0),.d (wD u)] []=.ok (.d (nD (walk m 0 u))) []:=BM (n+5) ok ok.ne u hu [];have e2:callC Fs (n+6) 3 [.d (nD (walk m 0 u)),.fn 27 [.d (mD m)],.fn 28 [.d (mD m)]] []=.ok (.d (mD (lQ m (walk m 0 u)))) []:=by
  rw[BB];exact yi Tj (n+5) (mk:=.tup) (λ_=>rfl) (step:=iY m) (good:=gd m) (S:=Yh ?A) (start:=walk m 0 u) (kS:=27) (kG:=28) (cS:=[.d (mD m)]) (cG:=[.d (mD m)]) rfl rfl
   (Zp.mpr hs) (BC ok) (by rw[YN];lia) (λp hp=>by rw[qI ok p hp];exact hw)
   (λp hp st=>FQ ok (n+4) (Zp.mp hp) st) (λp hp st=>IY ok (n+4) (Zp.mp hp) st) []
 have e3:=nW k1 ?D hw n [];refine call_of Px rfl (cC (p:=.d (mD (ba w (lQ m (walk m 0 u))))) (st:=[]) rfl ?_ rfl);refine ag (Il _ _) (aM (cy ?_))
 let r:bS:=[Δ ?N,Δ (.d (wD u)),Δ (.lf 27)]
 have f1:ae (callC Fs (n+6)) (.fc 2 [.var 0,.cst (.int 0),.var 1] [(27,[0]),(28,[0])]) r []=.ok (.d (nD (walk m 0 u))) []:=by rw[fe,show aC (callC Fs (n+6)) [.var 0,.cst (.int 0),.var 1] r []=.ok [.d (mD m),.d (.int 0),.d (wD u)] [] by simp[r],aa];show iG (callC Fs (n+6) 2) (Δ [.d (mD m),.d (.int 0),.d (wD u)]) []=_;unfold iG;simp only[e1,aa]
 have f2:ae (callC Fs (n+6)) (.fc 3 [.fc 2 [.var 0,.cst (.int 0),.var 1] [(27,[0]),(28,[0])],.var 2,.lam 28] [(27,[0]),(28,[0])]) r []=.ok (.d (mD (lQ m (walk m 0 u)))) []:=by rw[fe,ak,f1,aa,show aC (callC Fs (n+6)) [.var 2,.lam 28] r []=.ok [.lf 27,.lf 28] [] by simp[r],aa,aa];rw[show ad0 (conv [(27,[0]),(28,[0])] r 3) [P.d (nD (walk m 0 u)),P.lf 27,P.lf 28]=Δ [.d (nD (walk m 0 u)),.fn 27 [.d (mD m)],.fn 28 [.d (mD m)]] from rfl];unfold iG;simp only[e2,aa]
 show ae (callC Fs (n+6)) _ r []=_;rw[fe,ak,f2,aa,az,aa,aa];show iG (callC Fs (n+6) 4) (Δ [.d (mD (lQ m (walk m 0 u)))]) []=_;unfold iG;simp only[e3,aa]
end
theorem IZ t(l:List Nat):jf .jo ?Zf (.d (.pl (l.map nD))) st=Δ (!decide (t∈l)):=by
 have h1:(l.map nD).all lr=Λ:=by rw[ada,Zz];exact λ_ _=>rfl
 have h2:((l.map nD).any λy=>sV y (nD t))=decide (t∈l):=by
  rw[List.any_map,aak,ZK,qqq];constructor
  ·rintro⟨x,hx,e⟩;have e':((x:Int)==(t:Int))=Λ:=e;have:x=t:=by have:=eq_of_beq e';lia
   rw[<-this];exact hx
  ·intro h;exact⟨t,h,by show((t:Int)==(t:Int))=Λ;simp⟩
 show(Ff ?Zf (.d (.pl (l.map nD))) st).map not=_;have h3:Ff ?Zf (.d (.pl (l.map nD))) st=Δ ((l.map nD).any λy=>sV y (nD t)):=by show(br ((l.map nD).map P.d)).bind (λys=>if(lr (nD t)&&ys.all lr)=Λ then Δ (ys.any λy=>sV y (nD t)) else Θ)=_;rw[gi,Zk,if_pos (by rw[h1];rfl)]
 rw[h3,h2];rfl
theorem Dl n(ok:cL w m)(hw:w<=3)(hm:?A<=5)(hs:s < ?A)st:callC Fs (n+1) 18 [.d (mD m),.d (nD s)] st=.ok (.d (.bl (fF w m s==1))) st:=by
 let r0 (met:List Nat) (y3 y4:Option P):bS:=[Δ ?N,Δ (.d (nD s)),Δ (.d (.pl (met.map nD))),y3,y4]
 have inner:∀(l met:List Nat) (y3 y4:Option P),(∀a∈l,a < ?A)->met.length+l.length*w<=1000000->∃TF,forL (gf (.nm 4)) (ah ?L i8) ((l.map nD).map .d) (r0 met y3 y4) []=.ok (.nx (r0 (l.foldl (pd m) met) y3 TF)) []:=by
  intro l;induction l with
  |nil=>intro met y3 y4 _ _;exact⟨y4,rfl⟩|cons a l ih=>
   intro met y3 y4 hl hb;have ha:=hl a Yk;have hlen:=ok.len _ (aY ha);have TH:=Eo ok (met:=met) ha;rw[YA,aaU] at hb;obtain⟨TF,e⟩:=ih (pd m met a) y3 (Δ ?Qx) (λb hb=>hl b (Yi _ hb)) ?D;refine⟨TF,?_⟩;rw[Yx,Yx,forL,gf,au,aa];have eL:aS ?L (.comp (.ex (.ix (.ix ?X (.var 4)) ?R)) 1 [2] (Δ (.cmp .jo ?X ?Qk)) ?X) (r0 met y3 (Δ ?Qx)) []=.ok (((row m a).2.filter λt=>!decide (t∈met)).map λt=>P.d (nD t)) []:=by
    have h0:=zi ha;rw[iK,show bM ?L (.ex (.ix (.ix ?X (.var 4)) ?R)) (r0 met y3 (Δ ?Qx)) []=.ok ((row m a).2.map λt=>P.d (nD t)) [] by simp[r0,mD,nD,h0,e8,wD,Y8],aa,if_pos ⟨rfl,by rw[Yr,hlen];unfold aq;lia⟩];have go:∀xs:List Nat,cn (λp=>Δ p::bu [2] (r0 met y3 (Δ ?Qx))) (be ?L (Δ (.cmp .jo ?X ?Qk))) (λr' aJ=>ae ?L ?X r' aJ) (xs.map λt=>P.d (nD t)) []=.ok ((xs.filter λt=>!decide (t∈met)).map λt=>P.d (nD t)) []:=by
     intro xs;induction xs with
     |nil=>rfl|cons t xs ih2=>
      rw[Yx,eY,abA];have hc:be ?L (Δ (.cmp .jo ?X ?Qk)) (Δ ?Zf::bu [2] (r0 met y3 (Δ ?Qx))) []=.ok (!decide (t∈met)) []:=by rw[ku];show(ae ?L _ [Δ ?Zf,Δ (.d (.pl (met.map nD)))] []).bind _=_;simp[IZ]
      rw[hc,aa];by_cases h:t∈met;·rw[if_neg (by simp[h]),if_neg (by simp[h])];exact ih2
      ·rw[if_pos (by simp[h]),if_pos (by simp[h])];rw[show ae ?L ?X (Δ ?Zf::bu [2] (r0 met y3 (Δ ?Qx))) []=.ok ?Zf [] by simp,aa,ih2,aa,Yx]
    exact go _
   have eb:ah ?L i8 (r0 met y3 (Δ ?Qx)) []=.ok (.nx (r0 (pd m met a) y3 (Δ ?Qx))) []:=by
    refine ag (aZ (v:=.d (.pl ((pd m met a).map nD))) (st1:=[]) ?_) aw;rw[iH,show ae ?L ?QC (r0 met y3 (Δ ?Qx)) []=.ok (.d (.pl (met.map nD))) [] by simp[r0],aa,cH,eL,aa,cD nD];have h4:(met.map nD).length+(((row m a).2.filter λt=>!decide (t∈met)).map nD).length<=aq:=by
     unfold pd at TH;rw[YF] at TH;rw[Yr,Yr];unfold aq
     lia
    simp only[au,aa,Ij];rw[if_pos h4,au];unfold pd;rw[Y1]
   rw[show(r0 met y3 y4).set 4 (Δ ?Qx)=r0 met y3 (Δ ?Qx) from rfl,eb,aa];exact e
 have small:∀k,k<=?A->(du m s k).length<=1024:=λk hk=>by
  have h1:=Ep ok hs k;have h2:(1+w) ^ k<=4 ^ k:=Nat.pow_le_pow_left ?D k;have h3:4 ^ k<=4 ^ 5:=Nat.pow_le_pow_right ?T ?D;have h4:4 ^ 5=1024:=by decide
  lia
 obtain⟨r',s',e,⟨y3,y4,z1⟩,z2⟩:=dY (g:=gf (.nm 3)) (b:=ah ?L lW) (ps:=(Yh ?A).map λk:Nat=>P.d ?W) (k:=0) (r:=r0 [s] Θ Θ) (st:=[])
  (I:=λk r s'=>(∃y3 y4,r=r0 (du m s k) y3 y4)/\s'=[])
  (λi p r s' ⟨⟨y3,y4,h1⟩,h2⟩ hp=>by
   rw[Y2] at h1 ⊢;subst h1 h2;have hi:i < m.length:=by
    rw[Ys] at hp;by_cases z:i < ?A;·exact z
    ·rw[YR (by simpa using z)] at hp;cases hp
   have RS:=small i ?D;have hb:(du m s i).length+(du m s i).length*w<=1000000:=by
    have:=adp RS hw
    lia
   obtain⟨TF,el⟩:=inner (du m s i) (du m s i) (Δ p) y4 (Dd ok hs i) hb;refine⟨_,r0 (du m s (i+1)) (Δ p) TF,[],rfl,?_,⟨_,_,rfl⟩,rfl⟩;have ew:bM ?L (.ex (.lst Ξ (.list ?QC))) (r0 (du m s i) (Δ p) y4) []=.ok (((du m s i).map nD).map .d) []:=by rw[ur,cH,uo,show ae ?L ?QC (r0 (du m s i) (Δ p) y4) []=.ok (.d (.pl ((du m s i).map nD))) [] by simp[r0],aa,S6,au,aa,gi];rfl
   exact ag (de (ps:=((du m s i).map nD).map .d) (st1:=[]) ew el) aw) ⟨⟨Θ,Θ,rfl⟩,rfl⟩
 subst z1 z2;rw[Yr,YN,Y2] at e;refine call_of wM rfl (cC (p:=.d (.bl (fF w m s==1))) (st:=[]) rfl ?_ rfl);refine ag (aZ (v:=.d (.pl [nD s])) (st1:=[]) (by simp[ay,fK,aq])) ?_;refine ag (de (ps:=(Yh ?A).map λk:Nat=>P.d ?W) (st1:=[]) (bV (by simp[ay,fK,mD]) ?D) e) ?_;refine aM (cy ?_);have eA:aS ?L (.comp (.ex ?QC) 1 [0] Θ (.cmp .eq (.ix (.ix ?Qk ?X) ?Y) ?R)) (r0 (du m s ?A) y3 y4) []=.ok ((du m s ?A).map λa=>P.d (.bl (gd m a==1))) []:=by refine dh (g:=λa=>P.d (nD a)) (f:=λa=>.bl (gd m a==1)) (xs:=du m s ?A) (by simp[r0,Y8]) (by have:=small ?A (Yt _);unfold aq;lia) λa ha=>?_;show ae ?L _ [Δ ?Qx,Δ ?N] []=_;rw[bx,mx (m:=m) (s:=a) (Dd ok hs _ a ha) ?E (by simp[nD])];simp[Pk]
 show ae ?L _ (r0 (du m s ?A) y3 y4) []=_;rw[bT,ak,cH,eA,aa,cD (λa=>D.bl (gd m a==1)),au];simp only[aa,az,Ec,aae];rw[show(P.d∘λa=>D.bl (gd m a==1))=λa=>P.d (.bl (gd m a==1)) from rfl,xT,<-FF ok hs];simp[List.any_map,Y8]
section
variable{m:cq}{w:Nat}
def FR(m:cq)(a:Nat):aK:=i9 m a ?A++[kI (a*(?A+1)) ?A]
theorem vI a:(FR m a).length=?A+1:=by simp[FR,b8]
def vJ(m:cq)(w:Nat):aK:=(Yh w).flatMap (FR m)
theorem gO:(vJ m w).length=w*(?A+1):=jZ vI w
def gP(m:cq)(w:Nat):List Nat:=(Yh w).map λa=>a*(?A+1)+?A
abbrev Dm(m:cq)(w:Nat)(L:aK):aK:=vJ m w++L
theorem zA{L:aK}(hb:b=w*(?A+1)):(Dm m w L)[b+k]?=L[k]?:=by
 subst hb;rw[YH (by rw[gO];lia),gO];congr 1
 lia
theorem Ew{L:aK}(hb:b=w*(?A+1)):(Dm m w L).set (b+k) o=Dm m w (L.set k o):=by subst hb;rw[abk _ _ (by rw[gO];lia),gO,show w*(?A+1)+k - w*(?A+1)=k by lia]
theorem Ex{L:aK}(hb:b=w*(?A+1)):(Dm m w L).length=b+L.length:=by subst hb;rw[YF,gO]
theorem Ja(ha:a < w)(ht:t < ?A+1):a*(?A+1)+t < (vJ m w).length:=by
 rw[gO];have:(a+1)*(?A+1)<=w*(?A+1):=aaW _ ha;rw[aaU] at this
 lia
theorem LL{L:aK}(ha:a < w)(ht:t < ?A):(Dm m w L)[a*(?A+1)+t]?=Δ (encL (nR m a t)):=by rw[Yq (Ja ha ?D)];unfold vJ;rw[pD vI w a t ha ?D];unfold FR;rw[Yq (by rw[b8];exact ht),jY ht];rfl
theorem LM{L:aK}(ha:a < w):(Dm m w L)[a*(?A+1)+?A]?=Δ (kI (a*(?A+1)) ?A):=by rw[Yq (Ja ha ?D)];unfold vJ;rw[pD vI w a ?A ha ?D];unfold FR;rw[YH (by rw[b8];exact Yt _),b8];simp
abbrev g7(m:cq)(w:Nat)(q:FW):aK:=Dm m w [.lst ?QS,encL q.1,encL q.2]
theorem enum_rows m:dS 0 (m.map e8)=(Yh ?A).map λs:Nat=>P.d (.tup [.int (s:Int),e8 (row m s)]):=by
 apply ab1;intro i;rw[mw,Ys,Ys];by_cases h:i < ?A;·rw[zh h,Zb h];simp
 ·rw[YR ?D,YR (by simpa using h)];rfl
theorem vK{α:Type}{G:P->bS}{g:α->P}{f:α->D}{p:α->Bool}:∀{xs:List α},(∀x∈xs,c (G (g x)) st=.ok (p x) st)->(∀x∈xs,e (G (g x)) st=.ok (.d (f x)) st)->
  cn G c e (xs.map g) st=.ok ((xs.filter p).map λx=>.d (f x)) st
 |[],_,_=>rfl|x::xs,h,k=>by have ih:=vK (G:=G) (c:=c) (e:=e) (st:=st) (g:=g) (f:=f) (p:=p) (xs:=xs) (λy hy=>h y (Yi _ hy)) λy hy=>k y (Yi _ hy);simp only[Yx];rw[eY,h x Yk,aa];cases hp:p x with|true=>rw[if_pos rfl,k x Yk,aa,ih,aa,YY hp,Yx]|false=>rw[if_neg ?E,ih,Y4 (by simp[hp])]
theorem Dp:∀x∈nR m a t,x < m.length:=λx hx=>Zp.mp (Zg.mp hx).1
variable(ok:cL w m)(hm:?A<=100000)(hw:w<=1000)
include ok hm hw
theorem Dq(n:Nat):aS ?M (.comp (.fR [.bf .len [.ix (.ix ?X ?Y) ?R]]) 1 [0] Θ ?Ze) (ay 7 [.d (mD m)]) []
  =.ok ?QS (vJ m w):=by
 rw[uY];have ew:bM ?M (.fR [.bf .len [.ix (.ix ?X ?Y) ?R]]) (ay 7 [.d (mD m)]) []=.ok ((Yh w).map λk:Nat=>P.d ?W) []:=by refine bV ?_ ?D;have h0:nZ (m.map e8) 0=Δ (e8 (row m 0)):=zi ok.ne;have hl:=ok.len _ (aY ok.ne);simp[ay,mD,h0,e8,wD,hl]
 rw[ew,aa,if_pos (by simp[aq];lia)];obtain⟨zs,aJ,e,q1,q2⟩:=mv (g:=λp=>Δ p::bu [0] (ay 7 [.d (mD m)])) (c:=be ?M Θ) (e:=λr' aJ=>ae ?M ?Ze r' aJ)
  (I:=λk ys s=>ys=((Yh k).map λa=>a*(?A+1)+?A).map P.obj/\s=vJ m k) (ps:=(Yh w).map λk:Nat=>P.d ?W) (k:=0) (ys:=[]) (st:=[])
  (λi p ys s ⟨h1,h2⟩ hp=>by
   rw[Y2] at h1 h2 ⊢;subst h1 h2;have hi:i < w:=by
    rw[Ys] at hp;by_cases z:i < w;·exact z
    ·rw[YR (by simpa using z)] at hp;cases hp
   rw[Ys,Zb hi] at hp;cases hp;have e1:=pA ok hm n i hi (vJ m i);rw[gO] at e1;refine⟨.obj (i*(?A+1)+?A),vJ m i++i9 m i ?A++[kI (i*(?A+1)) ?A],by simp,?_,?_⟩;·show ae _ (.call _ [.var 1,.var 0]) [Δ ?Qf,Δ ?N] _=_;simp only[dE,ak,az,aR,Yu,Yv,YM,au,aa];exact e1
   ·refine⟨by rw[Zn,Y1,Y1];rfl,?_⟩;unfold vJ;rw[Zn,Zy];simp[FR]) ⟨by simp,by simp[vJ]⟩
 rw[e];simp only[aaA,Y2,Yr,YN] at q1 q2;rw[q1,q2];rfl
theorem LN(n:Nat)(st:aK):callC Fs (n+2) 5 [.d (mD m)] st=.ok (.d (.pl (((Yh ?A).map (fF w m)).map nD))) st:=by
 obtain⟨b,hb⟩:∃b,b=w*(?A+1):=⟨_,rfl⟩
 let r0 (y4 y5 y6:Option P):bS:=[Δ ?N,Δ (.obj b),Δ (.obj (b+1)),Δ (.obj (b+2)),y4,y5,y6]
 have g0:∀q,(g7 m w q)[b]?=Δ (.lst ?QS):=λq=>zA (k:=0) hb;have g1:∀q:FW,(g7 m w q)[b+1]?=Δ (encL q.1):=λq=>zA (k:=1) hb;have g2:∀q:FW,(g7 m w q)[b+2]?=Δ (encL q.2):=λq=>zA (k:=2) hb;have s1:∀(q:FW) l,(g7 m w q).set (b+1) (encL l)=g7 m w (l,q.2):=λq l=>Ew (k:=1) hb;have s2:∀(q:FW) l,(g7 m w q).set (b+2) (encL l)=g7 m w (q.1,l):=λq l=>Ew (k:=2) hb;have one:∀(q:FW) (x:Nat) (y4 y5:Option P),vA ?A q.1->x < ?A->q.2.length+q.1.count 0<=1000000->ah ?M iZ (r0 y4 y5 (Δ (.d (nD x)))) (g7 m w q)=.ok (.nx (r0 y4 y5 (Δ (.d (nD x))))) (g7 m w (Pw q x)):=by
  intro q x y4 y5 bq hx U7;have hl:x < q.1.length:=by rw[bq.len];exact hx
  have hg:q.1[x]?=Δ (q.1.getD x 0):=by rw[Ym,Yn hl];rfl
  have e1:Ax (.obj (b+1)) (.d (nD x)) (g7 m w q)=Δ (.d (nD (q.1.getD x 0))):=gj (g1 q) (by rw[Ys,hg];rfl);have ec:ae ?M (.cmp .eq (.ix ?QC (.var 6)) ?Y) (r0 y4 y5 (Δ (.d (nD x)))) (g7 m w q)=.ok (.d (.bl (decide (q.1.getD x 0=0)))) (g7 m w q):=by simp only[bx,bH,aR,dn,r0,Yu,Yv,YM,au,aa,e1];rcases bq.bit x hx with z|z<;>rw[z]<;>rfl
  unfold Pw;rcases bq.bit x hx with z|z
  ·rw[if_pos z];rw[z] at ec;have p1:nv (.obj (b+1)) (.d (nD x)) (.d (.int 1)) (g7 m w q)=Δ (g7 m w (q.1.set x 1,q.2)):=by rw[show nD x=.int (x:Int) from rfl,tz (g1 q) (by simpa using hl)];rw[<-s1 q (q.1.set x 1)];simp[encL,ac9,nD]
   refine ag (jP (st1:=g7 m w q) ec (ag (mU (x:=.obj (b+1)) (k:=.d (nD x)) (v:=.d (.int 1)) (st1:=g7 m w q) (st2:=g7 m w q) (st3:=g7 m w q) ?E (by simp[r0]) (by simp[r0]) p1) (ag (mT (x:=.obj (b+2)) (v:=.d (nD x)) (its:=q.2.map λs=>P.d (nD s)) (st1:=g7 m w (q.1.set x 1,q.2)) (st2:=g7 m w (q.1.set x 1,q.2)) (by simp[r0]) (gv (g2 (q.1.set x 1,q.2))) (by simp[r0]) (iy (g2 (q.1.set x 1,q.2)) (by rw[Yr];unfold aq;dsimp only;lia))) aw))) ?_;rw[aw,<-s2 (q.1.set x 1,q.2) (q.2++[x])];simp[encL]
  ·rw[if_neg (by rw[z];decide)];rw[z] at ec;exact ag (gH (st1:=g7 m w q) ec aw) aw
 have PK:∀(q:FW) (t a:Nat) (y5 y6:Option P),vA ?A q.1->t < ?A->a < w->q.2.length+q.1.count 0<=1000000->∃Jy,ah ?M fH (r0 (Δ ?Zf) (Δ (.obj (a*(?A+1)+?A))) y6) (g7 m w q)=.ok (.nx (r0 (Δ ?Zf) (Δ (.obj (a*(?A+1)+?A))) Jy)) (g7 m w (fX (nR m a t) q)):=by
  intro q t a y5 y6 bq ht ha U7;have qD:((nR m a t).map λs=>P.d (nD s)).length<=m.length:=by rw[Yr];have:=Zv (λs=>decide (bc m s a=t)) (Yh ?A);rwa [YN] at this
  obtain⟨r',s',e,⟨Jy,z1⟩,z2⟩:=lI (n:=a*(?A+1)+t) (g:=gf (.nm 6)) (b:=ah ?M iZ) (xs:=(nR m a t).map λs=>P.d (nD s))
   (I:=λi r s=>(∃y6,r=r0 (Δ ?Zf) (Δ (.obj (a*(?A+1)+?A))) y6)/\s=g7 m w (fX ((nR m a t).take i) q))
   (λi r s hi=>by rw[hi.2];exact LL ha ht)
   (λi p r s ⟨⟨y6,h1⟩,h2⟩ hp=>by
    subst h1 h2;rw[Ys] at hp;cases hx:(nR m a t)[i]? with
    |none=>rw[hx] at hp;cases hp|some x=>rw[hx] at hp;cases hp;have sp:=kD (xs:=(nR m a t).take i) bq λy hy=>Dp y (List.mem_of_mem_take hy);have ho:=one (fX ((nR m a t).take i) q) x (Δ ?Zf) (Δ (.obj (a*(?A+1)+?A))) sp.b (Dp x (Yz hx)) (by rw[sp.Tp];exact U7);refine⟨_,_,_,rfl,ho,⟨_,rfl⟩,?_⟩;rw[ZA,hx,yh];rfl)
   cF (i:=0) (r:=r0 (Δ ?Zf) (Δ (.obj (a*(?A+1)+?A))) y6) (st:=g7 m w q) ⟨⟨_,rfl⟩,rfl⟩ (Zr _) (by unfold cF;lia)
  subst z1 z2;rw[Yr,Zs (Yt _)] at e;refine⟨Jy,ag (zf (n:=a*(?A+1)+t) (st1:=g7 m w q) ?_ e) aw⟩;have e2:=gj (LM (m:=m) (L:=[.lst ?QS,encL q.1,encL q.2]) ha) (i:=t) (p:=.obj (a*(?A+1)+t)) (by rw[Ys,Zb ht];rfl);simp only[bH,aR,r0,Yu,Yv,YM,au,aa,nD];rw[e2];rfl
 have turn:∀(q:FW) (t:Nat) (y5 y6:Option P),vA ?A q.1->t < ?A->q.2.length+q.1.count 0<=1000000->∃FI Jy,gS b (gf (.nm 5)) (ah ?M fH) cF 0 (r0 (Δ ?Zf) y5 y6) (g7 m w q)=.ok (.nx (r0 (Δ ?Zf) FI Jy)) (g7 m w (fX (lS m w t) q)):=by
  intro q t y5 y6 bq ht U7;have pl:∀i,∀y∈(Yh i).flatMap λa=>nR m a t,y < m.length:=λi y hy=>by obtain⟨a,_,h⟩:=abz.mp hy;exact Dp y h
  obtain⟨r',s',e,⟨FI,Jy,z1⟩,z2⟩:=lI (n:=b) (g:=gf (.nm 5)) (b:=ah ?M fH) (xs:=(gP m w).map P.obj)
   (I:=λi r s=>(∃y5 y6,r=r0 (Δ ?Zf) y5 y6)/\s=g7 m w (fX ((Yh i).flatMap λa=>nR m a t) q))
   (λi r s hi=>by rw[hi.2];exact g0 _)
   (λi p r s ⟨⟨y5,y6,h1⟩,h2⟩ hp=>by
    subst h1 h2;have hi:i < w:=by
     by_cases z:i < w;·exact z
     ·rw[YR (by simp[gP];lia)] at hp;cases hp
    have EY:P.obj (i*(?A+1)+?A)=p:=by rw[gP,Ys,Ys,Zb hi] at hp;exact Y0 hp
    subst EY;have sp:=kD (xs:=(Yh i).flatMap λa=>nR m a t) bq (pl i);obtain⟨Jy,el⟩:=PK (fX ((Yh i).flatMap λa=>nR m a t) q) t i y5 y6 sp.b ht hi (by rw[sp.Tp];exact U7);refine⟨_,_,_,rfl,el,⟨_,_,rfl⟩,?_⟩;rw[Zn,Zy,yh];simp)
   cF (i:=0) (r:=r0 (Δ ?Zf) y5 y6) (st:=g7 m w q) ⟨⟨_,_,rfl⟩,rfl⟩ (Zr _) (by simp[gP,cF];lia)
  subst z1 z2;refine⟨FI,Jy,?_⟩;rw[e];simp[gP,lS]
 have bG:=Df ok;have len0:(cU m).2.length+(cU m).1.count 0<=200000:=by
  have h1:=Zv (λs=>gd m s==1) (Yh ?A);have h2:(cU m).1.count 0<=(cU m).1.length:=List.count_le_length;have h3:=bG.b.len;rw[YN] at h1;have h4:(cU m).2.length<=m.length:=h1
  lia
 obtain⟨r',sF,eF,⟨y4,y5,y6,z1⟩,z2⟩:=mr (c:=bY (ae ?M (.cmp .gt (.bf .len [.var 3]) ?Y))) (b:=ah ?M lU)
  (I:=λk r s=>(∃y4 y5 y6,r=r0 y4 y5 y6)/\∃q,De w m q/\k=q.2.length+q.1.count 0/\k<=200000/\s=g7 m w q)
  (E:=λr s=>(∃y4 y5 y6,r=r0 y4 y5 y6)/\s=g7 m w ((Yh ?A).map (fF w m),[]))
  (λk r s ⟨⟨y4,y5,y6,h1⟩,q,hq,hk,wc,hs⟩=>by
   subst h1 hs;have nl:sf .len [.obj (b+2)] (g7 m w q)=Δ (.d (.int (q.2.length:Int))):=by rw[gy (g2 q)];simp
   have ec:bY (ae ?M (.cmp .gt (.bf .len [.var 3]) ?Y)) (r0 y4 y5 y6) (g7 m w q)=.ok (decide (0 < q.2.length)) (g7 m w q):=by unfold bY;simp only[bx,bT,ak,az,aR,dn,r0,Yu,Yv,YM,au,aa,nl];show(R.of (Δ (decide ((0:Int) < (q.2.length:Int)))) _).bind _=_;simp
   obtain⟨fd,wt⟩:=q;cases hg:wt.getLast? with
   |none=>have:wt=[]:=List.getLast?_eq_none_iff.mp hg;subst this;refine .inl ⟨by rw[ec];rfl,⟨_,_,_,rfl⟩,?_⟩;rw[hq.fin ok]|some t=>
    obtain⟨ws,rfl⟩:=List.getLast?_eq_some_iff.mp hg;obtain⟨i1,i2⟩:=hq.turn ok;have ht:=(hq.wt t (YS _ Yk)).1;have kk:k=(fX (lS m w t) (fd,ws)).2.length+(fX (lS m w t) (fd,ws)).1.count 0+1:=by rw[hk,i2]
    obtain⟨FI,Jy,el⟩:=turn (fd,ws) t y5 y6 hq.b ht (by
     have:(ws++[t]).length=ws.length+1:=by simp
     have P0:k=(ws++[t]).length+fd.count 0:=hk;dsimp only
     lia)
    refine .inr ⟨_,kk,by rw[ec,decide_eq_true ?E],r0 (Δ ?Zf) FI Jy,g7 m w (fX (lS m w t) (fd,ws)),?_,⟨_,_,_,rfl⟩,_,i1,rfl,by lia,rfl⟩;have pp:CH (.obj (b+2)) (g7 m w (fd,ws++[t]))=Δ (.d (nD t),g7 m w (fd,ws)):=by
     have h0:(g7 m w (fd,ws++[t]))[b+2]?=Δ (.lst ((ws++[t]).map λs=>P.d (nD s))):=g2 (fd,ws++[t]);have h1:CH (.obj (b+2)) (g7 m w (fd,ws++[t]))=(((ws++[t]).map λs=>P.d (nD s))[((ws++[t]).map λs=>P.d (nD s)).length - 1]?).map λv=>(v,(g7 m w (fd,ws++[t])).set (b+2) (.lst ((ws++[t]).map λs=>P.d (nD s)).dropLast)):=by show(match (g7 m w (fd,ws++[t]))[b+2]? with|some (.lst xs)=>(xs[?Q - 1]?).map λv=>(v,(g7 m w (fd,ws++[t])).set (b+2) (.lst xs.dropLast))|_=>Θ)=_;rw[h0]
     rw[h1,<-s2 (fd,ws++[t]) ws];simp[encL]
    refine ag (aZ (v:=.d (nD t)) (st1:=g7 m w (fd,ws)) ?_) (ag (zf (n:=b) (st1:=g7 m w (fd,ws)) (by simp[r0]) el) aw);rw[nA,show ae ?M (.var 3) (r0 y4 y5 y6) (g7 m w (fd,ws++[t]))=.ok (.obj (b+2)) (g7 m w (fd,ws++[t])) by simp[r0],aa,pp,au,aa])
  cF (k:=(cU m).2.length+(cU m).1.count 0) (r:=r0 Θ Θ Θ) (st:=g7 m w (cU m)) ⟨⟨_,_,_,rfl⟩,_,bG,rfl,len0,rfl⟩ (by unfold cF;lia)
 subst z1 z2;refine call_of wI rfl (cC (p:=.obj (b+1)) (st:=g7 m w ((Yh ?A).map (fF w m),[])) rfl ?_ ?_)
 ·refine ag (aZ (v:=.obj b) (st1:=Dm m w [.lst ?QS]) ?_) ?_;·show ae ?M (.lst Λ (.comp (.fR [.bf .len [.ix (.ix ?X ?Y) ?R]]) 1 [0] Θ ?Ze)) (ay 7 [.d (mD m)]) []=_;rw[fw,Dq ok hm hw n,aa,gO,<-hb]
  let r1 (y2 y3:Option P):bS:=[Δ ?N,Δ (.obj b),y2,y3,Θ,Θ,Θ]
  refine ag (aZ (v:=.obj (b+1)) (st1:=Dm m w [.lst ?QS,encL (cU m).1]) ?_) ?_
  ·show ae ?M (.lst Λ (.comp (.ex ?X) 1 [] Θ (.ix ?X ?Y))) (r1 Θ Θ) _=_;have eG:aS ?M (.comp (.ex ?X) 1 [] Θ (.ix ?X ?Y)) (r1 Θ Θ) (Dm m w [.lst ?QS])=.ok (m.map λs=>P.d (nD s.1)) (Dm m w [.lst ?QS]):=by
    refine dh (g:=λs=>P.d (e8 s)) (f:=λs=>nD s.1) (xs:=m) ?_ (by unfold aq;lia) λs hs=>?_;·simp[r1,mD]
    ·simp[e8,bu]
   have em:(m.map λs=>P.d (nD s.1))=(cU m).1.map λs=>P.d (nD s):=by
    show _=((Yh ?A).map (gd m)).map λs=>P.d (nD s);apply acZ ?E;intro i h1 h2;have hi:i < m.length:=by simpa using h1
    simp[gd,row,Ym,hi]
   rw[fw,eG,aa,Ex hb,em];simp[encL]
  refine ag (aZ (v:=.obj (b+2)) (st1:=g7 m w (cU m)) ?_) ?_
  ·show ae ?M (.lst Λ (.iE (.enum ?X) [] (Δ (.cmp .eq (.ix ?Qk ?Y) ?R)) ?X)) (r1 (Δ (.obj (b+1))) Θ) _=_;have eW:aS ?M (.iE (.enum ?X) [] (Δ (.cmp .eq (.ix ?Qk ?Y) ?R)) ?X) (r1 (Δ (.obj (b+1))) Θ) (Dm m w [.lst ?QS,encL (cU m).1])=.ok ((cU m).2.map λs=>P.d (nD s)) (Dm m w [.lst ?QS,encL (cU m).1]):=by
    rw[ly,show bM ?M (.enum ?X) (r1 (Δ (.obj (b+1))) Θ) (Dm m w [.lst ?QS,encL (cU m).1])=.ok ((Yh ?A).map λs:Nat=>P.d (.tup [.int (s:Int),e8 (row m s)])) (Dm m w [.lst ?QS,encL (cU m).1]) by rw[<-enum_rows];simp[r1,mD],aa,if_pos]
    ·refine vK (p:=λs=>gd m s==1) (f:=nD) (λs hs=>?_) λs hs=>by simp[NY,nD]
     rw[ku];simp[NY,e8,nD,gd,Pk]
    ·refine⟨?_,by rw[Yr,YN];unfold aq;lia⟩;rw[ada,Zz];exact λ_ _=>rfl
   rw[fw,eW,aa,Ex hb];simp[encL]
  exact ag (zg eF) (aM (cy (by simp[r0])))
 ·have h:=g1 ((Yh ?A).map (fF w m),[]);show(match (g7 m w ((Yh ?A).map (fF w m),[]))[b+1]? with|some (.lst xs)=>(br xs).map D.pl|_=>Θ)=_;rw[h];show(br (((Yh ?A).map (fF w m)).map λs=>P.d (nD s))).map D.pl=_;rw[cD nD];rfl
end
section
variable{m:cq}{w:Nat}(ok:cL w m)(hm:?A<=100000)(hw:w<=1000)
include ok hm hw
theorem vL(n:Nat)(st:aK):callC Fs (n+7) 7 [.d (mD m)] st=.ok (.d (mD (ba w (dU w m)))) st:=by
 have e1:=LN ok hm hw (n+4) [];have e3:=nW (BA ok) (by rw[mz];exact hm) hw n [];refine call_of IU rfl (cC (p:=.d (mD (ba w (dU w m)))) (st:=[]) rfl ?_ rfl);refine ag (aZ (v:=.d (.pl (((Yh ?A).map (fF w m)).map nD))) (st1:=[]) (by simp[ay,tH,e1])) (aM (cy ?_))
 let r:bS:=[Δ ?N,Δ (.d (.pl (((Yh ?A).map (fF w m)).map nD)))]
 have eL:aS (callC Fs (n+6)) (.iE (.enum ?X) [1] Θ (.tup [.ix ?QC ?X,.ix ?Qk ?R])) r []=.ok ((Yh ?A).map λs=>P.d (e8 (fF w m s,(row m s).2))) []:=by
  rw[ly,show bM (callC Fs (n+6)) (.enum ?X) r []=.ok ((Yh ?A).map λs:Nat=>P.d (.tup [.int (s:Int),e8 (row m s)])) [] by rw[<-enum_rows];simp[r,mD],aa,if_pos]
  ·refine kA (λs _=>rfl) λs hs=>?_;have h1:nZ (((Yh ?A).map (fF w m)).map nD) (s:Int)=Δ (nD (fF w m s)):=dy (by rw[Ys,Ys,Zb (Zp.mp hs)];rfl);rw[aae] at h1;have h2:2<=aq:=by decide
   simp[Y8] at h1;simp[NY,bu,r,e8,Y8,h1,h2]
  ·refine⟨?_,by rw[Yr,YN];unfold aq;lia⟩;rw[ada,Zz];exact λ_ _=>rfl
 have e2:ae (callC Fs (n+6)) (.bf .tuple [.lst Ξ (.iE (.enum ?X) [1] Θ (.tup [.ix ?QC ?X,.ix ?Qk ?R]))]) r []=.ok (.d (mD (dU w m))) []:=by rw[bT,ak,cH,eL,aa,cD (λs=>e8 (fF w m s,(row m s).2))];simp[mD,dU,Y8]
 show ae (callC Fs (n+6)) _ r []=_;rw[dE,ak,e2,aa,az];simp only[aa];exact e3
end
section
variable{m:cq}{w:Nat}(ok:cL w m)(hm:?A<=1000)
include ok hm
theorem BN{s:Nat}(hs:s < ?A):jQ w (ba w (lQ m s))/\gI w (ba w (lQ m s)) 0 m s/\(ba w (lQ m s)).length<=m.length:=by obtain⟨k1,k2,k3⟩:=zv ok ?D hs;have h:=fD k1 ?D;have:=nQ k1 ?D;exact⟨h.1,h.2.trans k3,by lia⟩
theorem qQ:jQ w (ba w (dU w m))/\(ba w (dU w m)).length<=?A/\∀u,Wd w u->gd (ba w (dU w m)) (walk (ba w (dU w m)) 0 u)=fF w m (walk m 0 u):=by have k1:=BA ok;have hl:=mz w m;have h:=fD k1 ?D;have:=nQ k1 ?D;exact⟨h.1,by lia,λu hu=>(h.2 u hu).trans (II ok ok.ne hu)⟩
theorem BO:ba w (dU w (ba w (dU w m)))=ba w (dU w m):=by
 obtain⟨f1,f2,f3⟩:=qQ ok hm;generalize ba w (dU w m)=F at f1 f2 f3;obtain⟨g1,g2,g3⟩:=qQ f1.ok ?D;refine g1.one f1 λu hu=>?_;rw[g3 u hu,f3 u hu];have c:wG w F (walk F 0 u)↔wG w m (walk m 0 u):=by
  constructor;·rintro⟨v,hv,e⟩;rw[<-lK,f3 _ (hu.app hv),iX,lK] at e;exact e.of hv
  ·intro h;refine⟨[],Wd.nil,?_⟩;show gd F (walk F 0 u)=1;rw[f3 u hu,iX];exact h
 by_cases z:wG w m (walk m 0 u);·rw[iX.mpr z,iX.mpr (c.mpr z)]
 ·have z':¬wG w F (walk F 0 u):=λy=>z (c.mp y);unfold fF;rw[if_neg z,if_neg z']
theorem Jb:ba w (lQ m 0)=ba w m:=by obtain⟨k1,k2,k3⟩:=zv ok ?D ok.ne;exact FC k1 ok ?D ?D k3
end
def LO(x:Int)(w n:Nat):List Nat:=(Yh n).map λk=>(drawn x k % (w:Int)).toNat
theorem LP x(hw:1<=w)n:Wd w (LO x w n):=λa ha=>by
 obtain⟨k,_,rfl⟩:=aad.mp ha;have:=bP (drawn x k) (show(0:Int) < (w:Int) by lia)
 lia
theorem TJ:se (mD m) (mD m)=Δ Λ:=IH m
theorem Jc ns(hl:ns.length<=63):callC Fs 60 19 [.ik ns] []=.ok (.d ?QV) []:=by
 obtain⟨w,hw⟩:∃w:Nat,1+mixed ns 0 % 3=(w:Int):=⟨(1+mixed ns 0 % 3).toNat,by have:=bP (mixed ns 0) (show(0:Int) < 3 by decide);lia⟩;have w1:1<=w/\w<=3:=by have:=bP (mixed ns 0) (show(0:Int) < 3 by decide);lia
 obtain⟨c,hc⟩:∃c:Nat,1+mixed ns 1 % 5=(c:Int):=⟨(1+mixed ns 1 % 5).toNat,by have:=bP (mixed ns 1) (show(0:Int) < 5 by decide);lia⟩;have c1:1<=c/\c<=5:=by have:=bP (mixed ns 1) (show(0:Int) < 5 by decide);lia
 obtain⟨z,hz⟩:∃z:Nat,mixed ns 2 % 31=(z:Int):=⟨(mixed ns 2 % 31).toNat,by have:=bP (mixed ns 2) (show(0:Int) < 31 by decide);lia⟩;have z1:z<=30:=by have:=bP (mixed ns 2) (show(0:Int) < 31 by decide);lia
 obtain⟨m,em⟩:∃m,m=Jv (mixed ns 1) w c:=⟨_,rfl⟩;have ok:cL w m:=em▸Pj _ _ ?D;have ml:?A=c:=em▸Lh _ _ _;have eM:∀st,callC Fs 59 12 [.d (.int (mixed ns 1)),.d (.int (w:Int)),.d (.int 5)] st=.ok ?N st:=λst=>em▸FP 57 (mixed ns 1) w 5 c w1.2 ?T hc ?D st;have eX0:∀st,callC Fs 59 9 [.ik ns,.d (.int 0)] st=.ok (.d (.int (mixed ns 0))) st:=λst=>lX 57 ns 0 rfl st;have eX1:∀st,callC Fs 59 9 [.ik ns,.d (.int 1)] st=.ok (.d (.int (mixed ns 1))) st:=λst=>lX 57 ns 1 rfl st;have eX2:∀st,callC Fs 59 9 [.ik ns,.d (.int 2)] st=.ok (.d (.int (mixed ns 2))) st:=λst=>lX 57 ns 2 rfl st;obtain⟨x,ex⟩:∃x,x=mixed ns 2:=⟨_,rfl⟩;rw[<-ex] at eX2 hz;clear ex;obtain⟨u0,eu⟩:∃u0,u0=LO x w z:=⟨_,rfl⟩;have U8:Wd w u0:=eu▸LP x w1.1 z;have ul:u0.length=z:=by rw[eu];simp[LO]
 obtain⟨T,eT⟩:∃T,T=ba w (lQ m (walk m 0 u0)):=⟨_,rfl⟩;obtain⟨F,eF⟩:∃F,F=ba w (dU w m):=⟨_,rfl⟩;obtain⟨t1,t2,t3⟩:=BN ok ?D (ok.walk ok.ne U8);obtain⟨f1,f2,f3⟩:=qQ ok ?D;have hh:=BO ok ?D;rw[<-eT] at t1 t2 t3;rw[<-eF] at f1 f2 f3 hh;have pT:∀st,callC Fs 59 6 [.d (mD m),.d (wD u0)] st=.ok (.d (mD T)) st:=λst=>eT▸vH ok ?D ?D 52 U8 st;have pF:∀st,callC Fs 59 7 [.d (mD m)] st=.ok (.d (mD F)) st:=λst=>eF▸vL ok ?D ?D 52 st;have pFF:∀st,callC Fs 59 7 [.d (mD F)] st=.ok (.d (mD F)) st:=λst=>by have:=vL f1.ok ?D ?D 52 st;rwa [hh] at this
 have pL:∀st,callC Fs 59 4 [.d (mD m)] st=.ok (.d (mD (ba w m))) st:=λst=>nW ok ?D ?D 53 st;have pC:∀st,callC Fs 59 6 [.d (mD m),.d (.tup [])] st=.ok (.d (mD (ba w m))) st:=λst=>by have:=vH ok ?D ?D 52 (u:=[]) Wd.nil st;rw[show walk m 0 []=0 from rfl,Jb ok ?D] at this;exact this
 have iT:∀st,callC Fs 59 17 [.d (mD T),.d (.int (w:Int))] st=.ok (.d ?QV) st:=λst=>by rw[rS 56 t1.ok ?D ?D st];simp only[t1,decide_true]
 have iF:∀st,callC Fs 59 17 [.d (mD F),.d (.int (w:Int))] st=.ok (.d ?QV) st:=λst=>by rw[rS 56 f1.ok ?D ?D st];simp only[f1,decide_true]
 have eW:=BL 58 w1.2 [];have eU:∀y4 y5 y6 y7 y8 y9 U9,aS (callC Fs 59) (.comp (.fR [.op .mod (.var 3) (.cst (.int 31))]) 1 [1,3] Θ (.op .mod (.call 10 [.var 2,.var 0]) ?Qk)) [Δ (.ik ns),Δ ?Qm,Δ ?N,Δ (.d (.int x)),y4,y5,y6,y7,y8,y9,U9] []=.ok ((Yh z).map λk=>P.d (nD (drawn x k % (w:Int)).toNat)) []:=λy4 y5 y6 y7 y8 y9 U9=>by
  have c31:nY .mod x 31=Δ (z:Int):=by rw[fA ?T,hz]
  refine dh (g:=λk:Nat=>P.d ?W) (f:=λk=>nD (drawn x k % (w:Int)).toNat) (bV (by simp[c31]) ?D) (by rw[YN];unfold aq;lia) λk hk=>?_;have e:=vG 58 x k [];have hr:=bP (drawn x k) (show(0:Int) < (w:Int) by lia);have cw:nY .mod (drawn x k) (w:Int)=Δ (drawn x k % (w:Int)):=fA ?D;show ae (callC Fs 59) _ [Δ (.d ?W),Δ ?Qm,Δ (.d (.int x))] []=_;simp[e,cw,nD,acu hr.1]
 let r0 (y7 y8 y9 U9:Option P):bS:=[Δ (.ik ns),Δ ?Qm,Δ ?N,Δ (.d (.int x)),Δ (.d (wD u0)),Δ (.d (mD T)),Δ (.d (mD F)),y7,y8,y9,U9]
 obtain⟨r7,s7,e7,⟨y7,y8,y9,q7⟩,q8⟩:=dY (g:=gf (.nm 7)) (b:=ah (callC Fs 59) Er) (ps:=((b9 w (sH w)).map wD).map .d) (k:=0) (r:=r0 Θ Θ Θ Θ) (st:=[])
  (I:=λk r s=>(∃y7 y8 y9,r=r0 y7 y8 y9 Θ)/\s=[])
  (λi p r s ⟨⟨y7,y8,y9,h1⟩,h2⟩ hp=>by
   subst h1 h2;rw[aae,Ys] at hp;cases Jx:(b9 w (sH w))[i]? with
   |none=>rw[Jx] at hp;cases hp|some u=>
    rw[Jx] at hp;cases hp;have hu:=C9 (Yz Jx);have ulen:u.length<=8:=by
     obtain⟨k,hk,UI⟩:=abz.mp (Yz Jx);rw[(jV.mp UI).2];have:=Eu w;have:=Zp.mp hk
     lia
    have hs:=ok.walk ok.ne hu;have e1:=qN 58 t1.ok u hu [];have e2:=qN 58 ok (u0++u) (U8.app hu) [];have e3:=qN 58 f1.ok u hu [];have e4:=Dl 58 ok w1.2 ?D hs [];have h12:wz T u=wz m (u0++u):=by unfold wz;rw[t2 u hu,lK]
    have h34:wz F u=(fF w m (walk m 0 u)==1):=by unfold wz;rw[f3 u hu]
    obtain⟨Qq,el⟩:=my (C:=callC Fs 59) (st:=[]) (r:=r0 (Δ (.d (wD u))) Θ Θ Θ) (iM:=2) (iS:=8) (iL:=9) ok rfl ?T ?T ?T (by simp[r0]) (by simp[r0]) u 0 y9 ok.ne hu;refine⟨r0 (Δ (.d (wD u))) y8 y9 Θ,r0 (Δ (.d (wD u))) (Δ (.d (.int (walk m 0 u:Nat)))) Qq Θ,[],rfl,?_,⟨_,_,_,rfl⟩,rfl⟩;refine ag (aZ (v:=.d (.int 0)) (st1:=[]) ?E) ?_;refine ag (de (ps:=(u.map nD).map .d) (st1:=[]) (by simp[r0,wD]) el) ?_;refine ag (gH (st1:=[]) ?_ aw) aw;have ea:Jp .add (.d (wD u0)) (.d (wD u)) []=Δ (.d (wD (u0++u))):=by
     have h5:(u0.map nD).length+(u.map nD).length<=aq:=by rw[Yr,Yr];unfold aq;lia
     show(if(u0.map nD).length+(u.map nD).length<=aq then Δ (P.d (.tup (u0.map nD++u.map nD))) else Θ)=_;rw[if_pos h5,<-Y1];rfl
    have b1:ae (callC Fs 59) (.call 13 [.var 5,.var 7]) ?QB []=.ok (.d (.bl (wz m (u0++u)))) []:=by simp[r0,e1,h12]
    have b2:ae (callC Fs 59) (.call 13 [.var 2,.op .add (.var 4) (.var 7)]) ?QB []=.ok (.d (.bl (wz m (u0++u)))) []:=by simp only[dE,ak,az,iH,r0,aR,Yu,Yv,YM,au,aa,ea];exact e2
    have b3:ae (callC Fs 59) (.call 13 [.var 6,.var 7]) ?QB []=.ok (.d (.bl (fF w m (walk m 0 u)==1))) []:=by simp[r0,e3,h34]
    have b4:ae (callC Fs 59) (.call 18 [.var 2,.var 8]) ?QB []=.ok (.d (.bl (fF w m (walk m 0 u)==1))) []:=by simp only[dE,ak,az,r0,aR,Yu,Yv,YM,au,aa];exact e4
    show ae (callC Fs 59) _ ?QB []=_;have q1:∀b:Bool,jf .ne (.d (.bl b)) (.d (.bl b)) []=Δ Ξ:=λb=>by cases b<;>rfl
    rw[oK,jJ,bx,b1,aa,b2,aa,q1,au,aa,aa];dsimp only;rw[if_neg ?E,xq,bx,b3,aa,b4,aa,q1,au,aa]) ⟨⟨Θ,Θ,Θ,rfl⟩,rfl⟩
 subst q7 q8;have l0:jQ w (ba w m)/\gI w (ba w m) 0 m 0:=fD ok ?D;have ll0:=nQ ok ?D;obtain⟨rX,sX,eX,⟨y9b,X,XT,hX2,hX3,qX⟩,qX2⟩:=dY (g:=gf (.nm 9)) (b:=ah (callC Fs 59) Es) (ps:=(u0.map nD).map .d) (k:=0) (r:=r0 y7 y8 y9 (Δ (.d (mD (ba w m))))) (st:=[])
  (I:=λk r s=>(∃y9 X,jQ w X/\gI w X 0 m (walk m 0 (u0.take k))/\X.length<=?A/\r=r0 y7 y8 y9 (Δ (.d (mD X))))/\s=[])
  (λi p r s ⟨⟨y9,X,h1,h2,h3,h4⟩,h5⟩ hp=>by
   rw[Y2] at h2 ⊢;subst h4 h5;rw[aae,Ys] at hp;cases P6:u0[i]? with
   |none=>rw[P6] at hp;cases hp|some a=>
    rw[P6] at hp;cases hp;have ha:a < w:=U8 a (Yz P6);have hd:Wd w [a]:=Wd.nil.cons ha;obtain⟨k1,k2,k3⟩:=BN h1.ok ?D (h1.ok.walk h1.ok.ne hd);have e:=vH h1.ok ?D ?D 52 hd [];refine⟨_,r0 y7 y8 (Δ ?Qx) (Δ (.d (mD (ba w (lQ X (walk X 0 [a])))))),[],rfl,?_,⟨_,_,k1,?_,by lia,rfl⟩,rfl⟩
    ·have e':callC Fs 59 6 [.d (mD X),.d (.tup [nD a])] []=.ok (.d (mD (ba w (lQ X (walk X 0 [a]))))) []:=e;have h2l:1<=aq:=by decide
     exact ag (aZ (v:=.d (mD (ba w (lQ X (walk X 0 [a]))))) (st1:=[]) (by simp[r0,e',h2l])) aw
    ·rw[ZA,P6];show gI w _ 0 m (walk m 0 (u0.take i++[a]));rw[ye];exact k2.trans (h2.step ha)) ⟨⟨_,_,l0.1,l0.2,ll0,rfl⟩,rfl⟩
 subst qX qX2;rw[Yr,Yr,Y2,Zs (Yt _)] at hX2;have hXT:X=T:=XT.one t1 (hX2.trans t2.symm);subst hXT;refine call_of Py rfl (cC (p:=.d ?QV) (st:=[]) rfl ?_ rfl);have c3:nY .mod (mixed ns 0) 3=Δ (mixed ns 0 % 3):=fA ?T;refine ag (aZ (v:=.d (.int (w:Int))) (st1:=[]) (by simp[ay,mX,eX0,c3,hw])) ?_;refine ag (aZ (v:=.d (mD m)) (st1:=[]) (by simp[ay,mX,eX1,eM])) ?_;refine ag (aZ (v:=.d (.int x)) (st1:=[]) (by simp[ay,mX,eX2])) ?_;refine ag (aZ (v:=.d (wD u0)) (st1:=[]) ?_) ?_;·show ae (callC Fs 59) _ [Δ (.ik ns),Δ ?Qm,Δ ?N,Δ (.d (.int x)),Θ,Θ,Θ,Θ,Θ,Θ,Θ] []=_;rw[bT,ak,cH,eU,aa,cD (λk=>nD (drawn x k % (w:Int)).toNat),eu];simp[wD,LO,Y8]
 refine ag (aZ (v:=.d (mD X)) (st1:=[]) (by simp[ay,mX,pT])) ?_;refine ag (aZ (v:=.d (mD F)) (st1:=[]) (by simp[ay,mX,pF])) ?_;refine ag (gH (st1:=[]) (by simp[ay,mX,iT,iF]) aw) ?_;refine ag (de (ps:=((b9 w (sH w)).map wD).map .d) (st1:=[]) (by simp[ay,mX,eW]) e7) ?_;refine ag (aZ (v:=.d (mD (ba w m))) (st1:=[]) (by simp[r0,pL])) ?_;refine ag (de (ps:=(u0.map nD).map .d) (st1:=[]) (by simp[r0,wD]) eX) ?_;refine aM (cy ?_);simp[r0,pFF,pC,pL,IH,aq]
end Tq
namespace Tq
open PySem L2 Y
noncomputable def top(i:Nat):Stmt:=PySem.Challenge.pw_wordyard_k25_cut_and_heads.main.body.getD i (.Pass ⟨0,0,0,0⟩)
noncomputable def BP(j:Nat):Stmt->Stmt
 |.ClassDef _ _ _ body _ _ _ _ _ _ _=>body.getD j (.Pass ⟨0,0,0,0⟩)|_=>.Pass ⟨0,0,0,0⟩
abbrev pE:Stmt:=top 1
def zB:Info:=⟨"sources_by",pE,["machine","letter","sources","number","state"],["machine","letter"],iA⟩
abbrev lZ:Stmt:=top 3
def vM:Info:=⟨"firsts_alike",lZ,["machine","groups","firsts","state","group"],["machine"],fG⟩
abbrev BQ:Stmt:=top 5
def Jd:Info:=⟨"behind",BQ,["machine","state","word","letter"],["machine","state","word"],pf⟩
abbrev l4:Stmt:=top 6
def vN:Info:=⟨"machine_from",l4,["start","steps_of","good_of","numbers","places","states","place","steps","step"],["start","steps_of","good_of"],cV⟩
abbrev Ey:Stmt:=top 7
def zC:Info:=⟨"least",Ey,["machine","firsts","steps_of"],["machine"],ph⟩
abbrev pH:Stmt:=top 9
def zD:Info:=⟨"with_words",pH,["machine","sources","found","waiting","target","by_letter","number"],["machine"],kE⟩
abbrev MJ:Stmt:=top 10
def Je:Info:=⟨"cut",MJ,["machine","word","steps_of"],["machine","word"],IS⟩
abbrev Ez:Stmt:=top 11
def LR:Info:=⟨"heads",Ez,["machine","found"],["machine"],tH⟩
abbrev l6:Stmt:=top 13
def vO:Info:=⟨"_law_cell_at",l6,["_law_script","_law_k"],["_law_script","_law_k"],cW⟩
abbrev pI:Stmt:=top 14
def zE:Info:=⟨"_law_mixed",pI,["_law_script","_law_k","_law_drawn_here"],["_law_script","_law_k"],fI⟩
abbrev pJ:Stmt:=top 15
def zG:Info:=⟨"_law_drawn",pJ,["_law_number_here","_law_k","_law_drawn_here"],["_law_number_here","_law_k"],fJ⟩
abbrev pK:Stmt:=top 16
def zH:Info:=⟨"_law_words",pK,["_law_wide","_law_found","_law_rows","_law_k","_law_longer","_law_row"],["_law_wide"],dP⟩
abbrev l7:Stmt:=top 17
def vP:Info:=⟨"_law_machine",l7,["_law_number_here","_law_wide","_law_most","_law_count","_law_states","_law_k","_law_steps"],["_law_number_here","_law_wide","_law_most"],cX⟩
abbrev vQ:Stmt:=top 18
def Dr:Info:=⟨"_law_has",vQ,["_law_machine_here","_law_word","_law_at","_law_letter"],["_law_machine_here","_law_word"],kF⟩
abbrev m5:Stmt:=top 19
def wO:Info:=⟨"_law_number",m5,["_law_thing","_law_high"],["_law_thing","_law_high"],eB⟩
abbrev jw:Stmt:=top 20
def pM:Info:=⟨"_law_is_machine",jw,["_law_thing","_law_wide","_law_state"],["_law_thing","_law_wide"],bw⟩
abbrev m6:Stmt:=top 21
def wQ:Info:=⟨"_law_parted",m6,["_law_machine_here","_law_count","_law_apart_ones","_law_one","_law_other","_law_k","_law_pairs"],["_law_machine_here"],eD⟩
abbrev kO:Stmt:=top 22
def sI:Info:=⟨"_law_is_least",kO,["_law_machine_here","_law_wide","_law_order","_law_k","_law_step","_law_apart_ones"],["_law_machine_here","_law_wide"],eO⟩
abbrev pN:Stmt:=top 23
def zI:Info:=⟨"_law_leads",pN,["_law_machine_here","_law_start","_law_met","_law_k","_law_at"],["_law_machine_here","_law_start"],fK⟩
abbrev MK:Stmt:=top 24
def TK:Info:=⟨"law",MK,["_law_script","_law_wide","_law_machine_here","_law_number_here","_law_word","_law_tail","_law_front","_law_more","_law_at","_law_letter","_law_step_by_step"],["_law_script"],mX⟩
abbrev jx:Stmt:=BP 0 (top 2)
def pO:Info:=⟨"Groups.__init__",jx,["self","machine","number","state"],["self","machine"],fL⟩
abbrev jy:Stmt:=BP 1 (top 2)
def pP:Info:=⟨"Groups.let_wait",jy,["self","group"],["self","group"],cJ⟩
abbrev jb:Stmt:=BP 2 (top 2)
def nX:Info:=⟨"Groups.set_apart",jb,["self","group","states","rest","fresh","state"],["self","group","states"],bB⟩
abbrev fZ:Stmt:=BP 3 (top 2)
def kT:Info:=⟨"Groups.set_apart_by",fZ,["self","targets","letter","stepping","target","state","group","states"],["self","targets","letter"],cu⟩
abbrev kP:Stmt:=BP 4 (top 2)
def sJ:Info:=⟨"Groups.settle",kP,["self","group","targets","letter"],["self"],g6⟩
def qR:CI:=⟨Ξ,"least.<locals>.steps_of",["state","firsts","machine"],["state"],["firsts","machine"],gq⟩
def sL:CI:=⟨Λ,"least.<locals>.<lambda>",["state","machine"],["state"],["machine"],dk⟩
def vR:CI:=⟨Ξ,"cut.<locals>.steps_of",["state","machine"],["state"],["machine"],fN⟩
def wR:CI:=⟨Λ,"cut.<locals>.<lambda>",["state","machine"],["state"],["machine"],eE⟩
def tx:TX:={is:=[(zB,[]),(vM,[]),(Jd,[]),(vN,[]),(zC,[(25,⟨81,4,82,59⟩),(26,⟨83,45,83,76⟩)]),(zD,[]),(Je,[(27,⟨99,4,100,32⟩),(28,⟨101,66,101,97⟩)]),(LR,[]),(vO,[]),(zE,[]),(zG,[]),(zH,[]),(vP,[]),(Dr,[]),(wO,[]),(pM,[]),(wQ,[]),(sI,[]),(zI,[]),(TK,[]),(pO,[]),(pP,[]),(nX,[]),(kT,[]),(sJ,[])],Xe:=[qR,sL,vR,wR],cs:=[],ts:=[],nf:=20,ks:=[{name:="Groups",so:=["sources","group_of","members","waiting","waits"],HU:=[("__init__",20),("let_wait",21),("set_apart",22),("set_apart_by",23),("settle",24)]}]}
theorem is_Fs:tx.Fs=Fs:=rfl
theorem pR:My tx=Λ:=by decide+kernel
def Qr(K:Yw)(x:Str):Addr:=((aau K x).map (·.2)).getD 0
theorem Jf(h:(aau K x).map (·.1)=Δ c):aau K x=Δ (c,Qr K x):=by unfold Qr;cases e:aau K x with|none=>rw[e] at h;cases h|some p=>rw[e] at h;cases h;rfl
noncomputable def xs:List Str:=["least","cut"]
def XZ:List (List (Pos×Str)):=[cN tx (zC,[(25,⟨81,4,82,59⟩),(26,⟨83,45,83,76⟩)]),cN tx (Je,[(27,⟨99,4,100,32⟩),(28,⟨101,66,101,97⟩)])]
def vS(pt:List (Addr×Addr)):List ?Qu:=(pt.zip XZ).map λp=>(p.1.2,p.2)
theorem Jg:L2.Apart (cN tx (zC,[(25,⟨81,4,82,59⟩),(26,⟨83,45,83,76⟩)])):=by unfold L2.Apart;decide+kernel
theorem PL:L2.Apart (cN tx (Je,[(27,⟨99,4,100,32⟩),(28,⟨101,66,101,97⟩)])):=by unfold L2.Apart;decide+kernel
set_option maxHeartbeats 0 in
theorem all_mk{l:adi}{w:World}{K:Yw}{h:Heap}{mg:Str->Option Value}{fa f0 f1 f2 f3 f4 f5 f6 f7 f8 f9 X2 X3 X4 X5 X6 X7 X8 X9 Ya f19 Va Vb Vc Vd Ve bO PM PN:Addr}{d0 d1 d2 d3 d4 d5 d6 d7 d8 d9 d10 d11 d12 d13 d14 d15 d16 d17 d18 Vf d20 d21 d22 d23 d24:aao}(X:K.In h)(G:h.Ns YB mg)(hfa:mg "law"=Δ (.ref fa))
  (BR:YJ K YB "Groups"=Δ (Δ (.ref bO)))
  (FT:abw K bO Str.empty=Λ)
  (FU:abV K bO=Λ)
  (FV:acF K bO=Λ)
  (FX:Y9 K (.ref bO) "__setattr__"=Δ (Δ (.builtin "object.__setattr__")))
  (FY:adh K bO=Λ)
  (FZ:aaL K (.ref bO)=Λ)
  (qS:Y9 K (.ref bO) "sources"=Δ Θ)
  (pQ:Y9 K (.ref bO) "group_of"=Δ Θ)
  (qT:Y9 K (.ref bO) "members"=Δ Θ)
  (qU:Y9 K (.ref bO) "waiting"=Δ Θ)
  (vT:Y9 K (.ref bO) "waits"=Δ Θ)
  (a0:YJ K YB "sources_by"=Δ (Δ (.ref f0)))
  (F0:n4 K "sources_by" "sources_by" pE f0 d0)
  (a1:YJ K YB "firsts_alike"=Δ (Δ (.ref f1)))
  (F1:n4 K "firsts_alike" "firsts_alike" lZ f1 d1)
  (a2:YJ K YB "behind"=Δ (Δ (.ref f2)))
  (F2:n4 K "behind" "behind" BQ f2 d2)
  (a3:YJ K YB "machine_from"=Δ (Δ (.ref f3)))
  (F3:n4 K "machine_from" "machine_from" l4 f3 d3)
  (a4:YJ K YB "least"=Δ (Δ (.ref f4)))
  (F4:n4 K "least" "least" Ey f4 d4)
  (q4:d4.code=.ref PM)
  (t4:(aau K "least").map (·.1)=Δ PM)
  (a5:YJ K YB "with_words"=Δ (Δ (.ref f5)))
  (F5:n4 K "with_words" "with_words" pH f5 d5)
  (a6:YJ K YB "cut"=Δ (Δ (.ref f6)))
  (F6:n4 K "cut" "cut" MJ f6 d6)
  (q6:d6.code=.ref PN)
  (t6:(aau K "cut").map (·.1)=Δ PN)
  (a7:YJ K YB "heads"=Δ (Δ (.ref f7)))
  (F7:n4 K "heads" "heads" Ez f7 d7)
  (a8:YJ K YB "_law_cell_at"=Δ (Δ (.ref f8)))
  (F8:n4 K "_law_cell_at" "_law_cell_at" l6 f8 d8)
  (a9:YJ K YB "_law_mixed"=Δ (Δ (.ref f9)))
  (F9:n4 K "_law_mixed" "_law_mixed" pI f9 d9)
  (a10:YJ K YB "_law_drawn"=Δ (Δ (.ref X2)))
  (F10:n4 K "_law_drawn" "_law_drawn" pJ X2 d10)
  (a11:YJ K YB "_law_words"=Δ (Δ (.ref X3)))
  (F11:n4 K "_law_words" "_law_words" pK X3 d11)
  (a12:YJ K YB "_law_machine"=Δ (Δ (.ref X4)))
  (F12:n4 K "_law_machine" "_law_machine" l7 X4 d12)
  (a13:YJ K YB "_law_has"=Δ (Δ (.ref X5)))
  (F13:n4 K "_law_has" "_law_has" vQ X5 d13)
  (a14:YJ K YB "_law_number"=Δ (Δ (.ref X6)))
  (F14:n4 K "_law_number" "_law_number" m5 X6 d14)
  (a15:YJ K YB "_law_is_machine"=Δ (Δ (.ref X7)))
  (F15:n4 K "_law_is_machine" "_law_is_machine" jw X7 d15)
  (a16:YJ K YB "_law_parted"=Δ (Δ (.ref X8)))
  (F16:n4 K "_law_parted" "_law_parted" m6 X8 d16)
  (a17:YJ K YB "_law_is_least"=Δ (Δ (.ref X9)))
  (F17:n4 K "_law_is_least" "_law_is_least" kO X9 d17)
  (a18:YJ K YB "_law_leads"=Δ (Δ (.ref Ya)))
  (F18:n4 K "_law_leads" "_law_leads" pN Ya d18)
  (a19:YJ K YB "law"=Δ (Δ (.ref f19)))
  (Yb:n4 K "law" "law" MK f19 Vf)
  (a20:Y9 K (.ref bO) "__init__"=Δ (Δ (.ref Va)))
  (Yc:n4 K "__init__" "Groups.__init__" jx Va d20)
  (n20:abd K (.ref Va)=Λ)
  (a21:Y9 K (.ref bO) "let_wait"=Δ (Δ (.ref Vb)))
  (Yd:n4 K "let_wait" "Groups.let_wait" jy Vb d21)
  (n21:abd K (.ref Vb)=Λ)
  (a22:Y9 K (.ref bO) "set_apart"=Δ (Δ (.ref Vc)))
  (Ye:n4 K "set_apart" "Groups.set_apart" jb Vc d22)
  (n22:abd K (.ref Vc)=Λ)
  (a23:Y9 K (.ref bO) "set_apart_by"=Δ (Δ (.ref Vd)))
  (Yf:n4 K "set_apart_by" "Groups.set_apart_by" fZ Vd d23)
  (n23:abd K (.ref Vd)=Λ)
  (a24:Y9 K (.ref bO) "settle"=Δ (Δ (.ref Ve)))
  (Yg:n4 K "settle" "Groups.settle" kP Ve d24)
  (n24:abd K (.ref Ve)=Λ)
  (nt:abU K=Λ)
  (nd:decide [Qr K "least",Qr K "cut"].Nodup=Λ)
  (TL:YJ K YB "len"=Δ Θ)
  (TM:YJ K YB "min"=Δ Θ)
  (TN:YJ K YB "max"=Δ Θ)
  (TQ:YJ K YB "all"=Δ Θ)
  (TR:YJ K YB "any"=Δ Θ)
  (TU:YJ K YB "sum"=Δ Θ)
  (TV:YJ K YB "str"=Δ Θ)
  (LS:YJ K YB "tuple"=Δ Θ)
  (PQ:YJ K YB "list"=Δ Θ)
  (TY:YJ K YB "int"=Δ Θ)
  (PR:YJ K YB "bool"=Δ Θ)
  (zJ:YJ K YB "isinstance"=Δ Θ)
  (LU:YJ K YB "range"=Δ Θ)
  (TZ:YJ K YB "zip"=Δ Θ)
  (BS:YJ K YB "enumerate"=Δ Θ)
  (Jh:YJ K YB "sorted"=Δ Θ)
  :(xs≠[]->abU K=Λ)/\∃(tabs:List (Addr×Addr)) (fd:aao),xs.map (aau K)=tabs.map Δ/\(∀(s:YG) (v:Value),adb s fd ⟨[v],[]⟩ [("_law_script",v)])/\
   (∀base:Heap,K.In base->base.Ns YB mg->(∀q∈tabs,aay base q.1 q.2)->BMain mg base->gR l.prog w K mg base vU (lv 60) fa fd ["_law_script"] (CT (nI tx K base (vS tabs)) (callC Fs 60 19) 1))/\tabs.length=XZ.length:=by
 have e:=hfa.symm.trans (Za X G a19);cases e;replace nd:=of_decide_eq_true nd;replace t4:=Jf t4;replace t6:=Jf t6;generalize Qr K "least"=T3 at*;generalize Qr K "cut"=T4 at*;have T:yW K mg tx (vS [(PM,T3),(PN,T4)]) (λk=>[f0,f1,f2,f3,f4,f5,f6,f7,f8,f9,X2,X3,X4,X5,X6,X7,X8,X9,Ya,fa,Va,Vb,Vc,Vd,Ve].getD k 0) (λk=>[d0,d1,d2,d3,d4,d5,d6,d7,d8,d9,d10,d11,d12,d13,d14,d15,d16,d17,d18,Vf,d20,d21,d22,d23,d24].getD k Vf) (λk=>[(0,0),(0,0),(0,0),(0,0),(PM,T3),(0,0),(PN,T4)].getD k (0,0)):=by
  refine⟨C2 ?_,?_,λx i hx=>?_,λx t hx=>?_,λq hq=>?_,C2 ?_⟩;·exact(bb ⟨⟨_,F0⟩,λ_=>Za X G a0,F0.binds λ_ _ _ _ _ _=>qD λ_ _=>rfl,sr pR (k:=0) rfl⟩ (bb ⟨⟨_,F1⟩,λ_=>Za X G a1,F1.binds λ_ _ _ _ _ _=>A4 λ_=>rfl,sr pR (k:=1) rfl⟩ (bb ⟨⟨_,F2⟩,λ_=>Za X G a2,F2.binds λ_ _ _ _ _ _=>Ih λ_ _ _=>rfl,sr pR (k:=2) rfl⟩ (bb ⟨⟨_,F3⟩,λ_=>Za X G a3,F3.binds λ_ _ _ _ _ _=>Ih λ_ _ _=>rfl,sr pR (k:=3) rfl⟩ (bb ⟨⟨_,F4⟩,λ_=>Za X G a4,F4.binds λ_ _ _ _ _ _=>A4 λ_=>rfl,sr pR (k:=4) rfl⟩ (bb ⟨⟨_,F5⟩,λ_=>Za X G a5,F5.binds λ_ _ _ _ _ _=>A4 λ_=>rfl,sr pR (k:=5) rfl⟩ (bb ⟨⟨_,F6⟩,λ_=>Za X G a6,F6.binds λ_ _ _ _ _ _=>qD λ_ _=>rfl,sr pR (k:=6) rfl⟩ (bb ⟨⟨_,F7⟩,λ_=>Za X G a7,F7.binds λ_ _ _ _ _ _=>A4 λ_=>rfl,sr pR (k:=7) rfl⟩ (bb ⟨⟨_,F8⟩,λ_=>Za X G a8,F8.binds λ_ _ _ _ _ _=>qD λ_ _=>rfl,sr pR (k:=8) rfl⟩ (bb ⟨⟨_,F9⟩,λ_=>Za X G a9,F9.binds λ_ _ _ _ _ _=>qD λ_ _=>rfl,sr pR (k:=9) rfl⟩ (bb ⟨⟨_,F10⟩,λ_=>Za X G a10,F10.binds λ_ _ _ _ _ _=>qD λ_ _=>rfl,sr pR (k:=10) rfl⟩ (bb ⟨⟨_,F11⟩,λ_=>Za X G a11,F11.binds λ_ _ _ _ _ _=>A4 λ_=>rfl,sr pR (k:=11) rfl⟩ (bb ⟨⟨_,F12⟩,λ_=>Za X G a12,F12.binds λ_ _ _ _ _ _=>Ih λ_ _ _=>rfl,sr pR (k:=12) rfl⟩ (bb ⟨⟨_,F13⟩,λ_=>Za X G a13,F13.binds λ_ _ _ _ _ _=>qD λ_ _=>rfl,sr pR (k:=13) rfl⟩ (bb ⟨⟨_,F14⟩,λ_=>Za X G a14,F14.binds λ_ _ _ _ _ _=>qD λ_ _=>rfl,sr pR (k:=14) rfl⟩ (bb ⟨⟨_,F15⟩,λ_=>Za X G a15,F15.binds λ_ _ _ _ _ _=>qD λ_ _=>rfl,sr pR (k:=15) rfl⟩ (bb ⟨⟨_,F16⟩,λ_=>Za X G a16,F16.binds λ_ _ _ _ _ _=>A4 λ_=>rfl,sr pR (k:=16) rfl⟩ (bb ⟨⟨_,F17⟩,λ_=>Za X G a17,F17.binds λ_ _ _ _ _ _=>qD λ_ _=>rfl,sr pR (k:=17) rfl⟩ (bb ⟨⟨_,F18⟩,λ_=>Za X G a18,F18.binds λ_ _ _ _ _ _=>qD λ_ _=>rfl,sr pR (k:=18) rfl⟩ (bb ⟨⟨_,Yb⟩,λ_=>Za X G a19,Yb.binds λ_ _ _ _ _ _=>A4 λ_=>rfl,sr pR (k:=19) rfl⟩ (bb ⟨⟨_,Yc⟩,λz=>absurd z ?T,Yc.binds λ_ _ _ _ _ _=>qD λ_ _=>rfl,sr pR (k:=20) rfl⟩ (bb ⟨⟨_,Yd⟩,λz=>absurd z ?T,Yd.binds λ_ _ _ _ _ _=>qD λ_ _=>rfl,sr pR (k:=21) rfl⟩ (bb ⟨⟨_,Ye⟩,λz=>absurd z ?T,Ye.binds λ_ _ _ _ _ _=>Ih λ_ _ _=>rfl,sr pR (k:=22) rfl⟩ (bb ⟨⟨_,Yf⟩,λz=>absurd z ?T,Yf.binds λ_ _ _ _ _ _=>Ih λ_ _ _=>rfl,sr pR (k:=23) rfl⟩ (bb ⟨⟨_,Yg⟩,λz=>absurd z ?T,Yg.binds λ_ _ _ _ _ _=>A4 λ_=>rfl,sr pR (k:=24) rfl⟩ O4)))))))))))))))))))))))))
  ·exact(memC (Y6 X G TL) (memC (Y6 X G TM) (memC (Y6 X G TN) (memC (Y6 X G TQ) (memC (Y6 X G TR) (memC (Y6 X G TU) (memC (Y6 X G TV) (memC (Y6 X G LS) (memC (Y6 X G PQ) (memC (Y6 X G TY) (memC (Y6 X G PR) (memC (Y6 X G zJ) (memC (Y6 X G LU) (memC (Y6 X G TZ) (memC (Y6 X G BS) (memC (Y6 X G Jh) SQ))))))))))))))))
  ·exact absurd hx (by simp[tx])
  ·exact absurd hx (by simp[tx])
  ·simp only[tx,aa2,aa9,or_false] at hq;rcases hq with rfl;·refine⟨bO,BR,Za X G BR,⟨FT,FU,FV,FX⟩,memC qS (memC pQ (memC qT (memC qU (memC vT SQ)))),SR ⟨a20,n20,Yc.kp⟩ (SR ⟨a21,n21,Yd.kp⟩ (SR ⟨a22,n22,Ye.kp⟩ (SR ⟨a23,n23,Yf.kp⟩ (SR ⟨a24,n24,Yg.kp⟩ lkN)))),λk hm=>?_⟩;have KW:(20:Nat)=k:=Y0 ((by rfl:aai ("__init__":Str) _=Δ 20).symm.trans hm);subst KW;exact⟨FY,a20,n20,FZ⟩
  ·exact(bb (λhi=>absurd rfl hi) (bb (λhi=>absurd rfl hi) (bb (λhi=>absurd rfl hi) (bb (λhi=>absurd rfl hi) (bb (λ_=>⟨q4,Yz (i:=0) rfl,Jg,D8 nd rfl (Yz (i:=0) rfl)⟩) (bb (λhi=>absurd rfl hi) (bb (λ_=>⟨q6,Yz (i:=1) rfl,PL,D8 nd rfl (Yz (i:=1) rfl)⟩) (bb (λhi=>absurd rfl hi) (bb (λhi=>absurd rfl hi) (bb (λhi=>absurd rfl hi) (bb (λhi=>absurd rfl hi) (bb (λhi=>absurd rfl hi) (bb (λhi=>absurd rfl hi) (bb (λhi=>absurd rfl hi) (bb (λhi=>absurd rfl hi) (bb (λhi=>absurd rfl hi) (bb (λhi=>absurd rfl hi) (bb (λhi=>absurd rfl hi) (bb (λhi=>absurd rfl hi) (bb (λhi=>absurd rfl hi) (bb (λhi=>absurd rfl hi) (bb (λhi=>absurd rfl hi) (bb (λhi=>absurd rfl hi) (bb (λhi=>absurd rfl hi) (bb (λhi=>absurd rfl hi) O4)))))))))))))))))))))))))
 refine⟨λ_=>nt,[(PM,T3),(PN,T4)],Vf,by simp only[xs,Yx,aaY,t4,t6],λs v=>?_,λbase kb nb pX bm=>?_,rfl⟩;·obtain⟨_,_,_,_,_,_,_,_,_,rfl,_⟩:=Yb.ex;exact .of_eq rfl
 have bo:ky mg tx (λk=>[(0,0),(0,0),(0,0),(0,0),(PM,T3),(0,0),(PN,T4)].getD k (0,0)) base:=⟨C2 (bb (λhi=>absurd rfl hi) (bb (λhi=>absurd rfl hi) (bb (λhi=>absurd rfl hi) (bb (λhi=>absurd rfl hi) (bb (λ_=>pX (PM,T3) (Yz (i:=0) rfl)) (bb (λhi=>absurd rfl hi) (bb (λ_=>pX (PN,T4) (Yz (i:=1) rfl)) (bb (λhi=>absurd rfl hi) (bb (λhi=>absurd rfl hi) (bb (λhi=>absurd rfl hi) (bb (λhi=>absurd rfl hi) (bb (λhi=>absurd rfl hi) (bb (λhi=>absurd rfl hi) (bb (λhi=>absurd rfl hi) (bb (λhi=>absurd rfl hi) (bb (λhi=>absurd rfl hi) (bb (λhi=>absurd rfl hi) (bb (λhi=>absurd rfl hi) (bb (λhi=>absurd rfl hi) (bb (λhi=>absurd rfl hi) (bb (λhi=>absurd rfl hi) (bb (λhi=>absurd rfl hi) (bb (λhi=>absurd rfl hi) (bb (λhi=>absurd rfl hi) (bb (λhi=>absurd rfl hi) O4))))))))))))))))))))))))),bm⟩;exact(D9 (P:=l.prog) (w:=w) T 60).1 base bo 19 _ rfl
theorem walk{l:adi}{K:Params->Yw}(hn:l.most=Δ 63)(Ra:d.params.defaults=[])(hY:∀(w:World) (h:Heap),YP w h->(K w.params).In h)(yH:∀y∈xs,((PyProof.Rows.recsOf q).find? (λe=>e.name==y)).isSome=Λ)(F:∀(w:World) (mg:Str->Option Value) (fa:Addr) (h:Heap),(K w.params).In h->h.Ns YB mg->mg d.name=Δ (.ref fa)->
   (xs≠[]->abU (K w.params)=Λ)/\∃(tabs:List (Addr×Addr)) (fd:aao),xs.map (aau (K w.params))=tabs.map Δ/\(∀(s:YG) (u:Value),adb s fd ⟨[u],[]⟩ [("_law_script",u)])/\
    (∀base:Heap,(K w.params).In base->base.Ns YB mg->(∀q∈tabs,aay base q.1 q.2)->BMain mg base->gR l.prog w (K w.params) mg base vU (lv 60) fa fd ["_law_script"] (CT (nI tx (K w.params) base (vS tabs)) (callC Fs 60 19) 1))/\tabs.length=XZ.length):
  PySem.W.WalkO q loose XP YP l.row.toRowW d [] (λf vs=>adZ f vs):=
 L2.Hf (n:=63) (k:=lv 60) (x:="_law_script") (CX:=λ_=>vU) (sp:=λw _ pt base=>CT (nI tx (K w.params) base (vS pt)) (callC Fs 60 19) 1) xs hn ?T Ra ⟨rfl,by decide,by decide⟩ hY (λy hy=>by obtain⟨dr,h⟩:=Option.isSome_iff_exists.mp (yH y hy);exact⟨dr,h⟩) (λw mg fa h X N m=>by obtain⟨h1,tabs,fd,h2,h3,h4,h5⟩:=F w mg fa h X N m;refine⟨h1,tabs,fd,h2,h3,h4,λbase H a ns hl _ _ ho hS=>K6 (λt ht=>?_) (Jc ns hl) ho hS⟩;unfold vS at ht;obtain⟨p,hp,rfl⟩:=aad.mp ht;exact aad.mpr ⟨p.1,(abg hp).1,rfl⟩) λ_ _ _ _ _ z=>z
end Tq
open PySem PySem.W PyProof.Rows
set_option maxRecDepth 100000 in
set_option maxHeartbeats 0 in
theorem PySem.Challenge.cw_wordyard_k25_cut_and_heads_holds : PySem.Challenge.rw_wordyard_k25_cut_and_heads.Holds := by
 w_on;o_law;k_head;(case hw=>w_witness2)
 k_fill
 refine Tq.walk (l:=PySem.Challenge.rw_wordyard_k25_cut_and_heads) rfl rfl (λw h Y=>by first|exact PySem.W.kIn_of Y|exact PySem.W.km_in_of Y) ?K ?F
 case F=>intro w mg fa h KX G Rb;refine' Tq.all_mk KX G Rb ?_ ?_ ?_ ?_ ?_ ?_ ?_ ?_ ?_ ?_ ?_ ?_ ?_ ?_ ?_ ?_ ?_ ?_ ?_ ?_ ?_ ?_ ?_ ?_ ?_ ?_ ?_ ?_ ?_ ?_ ?_ ?_ ?_ ?_ ?_ ?_ ?_ ?_ ?_ ?_ ?_ ?_ ?_ ?_ ?_ ?_ ?_ ?_ ?_ ?_ ?_ ?_ ?_ ?_ ?_ ?_ ?_ ?_ ?_ ?_ ?_ ?_ ?_ ?_ ?_ ?_ ?_ ?_ ?_ ?_ ?_ ?_ ?_ ?_ ?_ ?_ ?_ ?_ ?_ ?_ ?_ ?_ ?_ ?_ ?_ ?_ ?_ ?_ ?_;all_goals try first|k_is|(refine' L2.Nu ?l ?c ?k;(case l=>k_is);(case c=>k_is);(case k=>k_is))|rfl|kernel_rfl
