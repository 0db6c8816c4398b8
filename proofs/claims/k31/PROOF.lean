import PyProof.Rows.All
import Wide.All
import OpenK.AllK
import Wide.FinOn
import Lean
import PyProof.EqAt
import PyProof.EqKinds
import PyProof.TupleCall
import PyProof.NeKinds
import PySem.Challenge.RW_wordyard_k31_whole_counts
set_option Elab.async false
set_option linter.all false
set_option maxRecDepth 100000
set_option maxHeartbeats 4000000
noncomputable section
open Option renaming some->Δ,none->Θ
open Bool renaming true->Λ,false->Ξ
open PySem.Heap renaming get?_push_of_some->WA,get?_push_size->WR,lt_size->WV,get?_update_other->XS,size_push->X9,get?_update_self->YC,size_update->YI,SameBut->Zl,get?_update_ne->Zq,get?_push_ne->aat,IsTuple->ab6
open List renaming range->WB,mem_cons_of_mem->WE,mem_cons_self->WG,getElem?_set_ne->WH,getElem?_eq_getElem->WI,length_map->WJ,getElem?_append_left->WK,getElem?_map->WL,getD_eq_getElem?_getD->WN,map_cons->WQ,isEmpty_iff->WS,getElem?_cons_succ->WT,getElem?_cons_zero->WW,size_toArray->WX,length_cons->WZ,length_append->W1,getElem?_set_self->W4,getElem?_append_right->W5,mem_of_getElem?->W6,length_range->Xa,getElem?_eq_none->Xb,lookup_cons->Xd,mem_append_right->Xi,map_append->Xn,getElem?_range->Xr,append_assoc->Xt,append_nil->Xv,getElem_mem->Xz,toArray->XD,take_of_length_le->XE,length_filter_le->XG,flatMap_append->XJ,range_succ->XM,nodup_append->XN,mem_append_left->XO,map_map->XR,replicate->XW,mem_range->XX,find?_cons->XY,take_add_one->X2,filter_cons_of_pos->X5,mem_singleton->X7,filter_append->X8,mem_filter->Yd,length_set->Ye,drop_eq_getElem_cons->Yg,filter_cons_of_neg->Yr,cons_append->Ys,idxOf_lt_length_of_mem->Yt,nodup_cons->Yy,lookup->Yz,length_take->YH,nil_append->YQ,foldl_cons->YR,map_nil->YU,length_pos_of_mem->YV,filter_eq_nil_iff->YW,any_cons->Y0,filter_cons->Y2,length_nil->Zb,forIn_cons->Zc,foldl_append->Zj,flatMap_cons->Zk,filterMap_cons->Zp,getElem?_replicate->Zu,all_eq_true->Zv,zip_cons_cons->Zz,of_mem_zip->ZC,all_cons->ZE,length_replicate->ZJ,forIn_nil->ZL,drop_zero->ZM,not_mem_nil->ZT,nodup_range->ZU,any_eq_true->ZV,mem_map_of_mem->ZX,mem_cons->Z3,length_erase_of_mem->Z4,mem_append->Z5,set->aar,flatMap_singleton->aas,take_append_drop->aax,set_append_right->aay,foldl->aaE,mem_erase_of_ne->aaI,getElem?_of_mem->aaJ,getElem_of_mem->aaP,find?_eq_none->aaW,pairwise_map->aa1,ext_getElem?->aa2,any_eq_false->aa3,zipIdx_cons->abh,drop_length->abi,mem_map->abq,range'->abH,map->abI,length->abJ,map_set->ab5
open Bool renaming and_eq_true->WC,not_eq_true'->Xe,false_ne_true->Xw,false_eq_true->Yb,or_eq_true->YS,eq_iff_iff->abA
open PySem renaming wpAny_bind->WD,Shared->WU,mainGlobals->WY,wpAny_pure->W0,sizeLine->W8,starEach->Xf,mem_of_lookup->Xq,Program->Xy,sizeLine_eq->XF,wpAny_callSpecial?_slot->X3,compareOp->X4,wpAny_Call_Name_kw->X6,Around->Yc,wpAny_mono->Yh,wpAny_loadPart'->Ym,wpAny_field->Yo,wpAny_call_entry->Yp,wpAny_truthy_bool->Yv,sysModules->Yw,FuncData->YD,wpAny_setField_rec->YE,wpAny_seqItems->YJ,rawInt->YK,backTo->YL,wpAny_pyIter_tuple->Y3,binaryOp->Y4,IsPair->Y7,wpAny_passesOwn->Y9,Arguments->Zd,wpAny_newObj_type->Ze,NameKind->Zi,wpAny_holding->Zm,attributeBase->Zn,codeAmong->Zs,keywordEach->Zx,wpAny_newFunctionEnv->ZK,swapsWith->ZN,bootBuiltins->ZO,wpAny_binaryOp_repeat_ref->ZW,Builtin->Z6,tupleKind_room_in1->Z7,call_meets->Z8,Spec->aab,sliceBounds->aac,wpAny_pyIter_enum->aah,typeIs_int->aaA,qualnameIn->aaB,codeAny->aaF,wpAny_updateSeq_pair->aaG,backToKw->aaH,wpAny_updateSeq->aaL,letOwnedTupleGo->aaM,codeAny_mono->aaQ,call_meetsIn->aaR,TriplesOk->aaT,closureFor->aaU,wpAny_letGo->aaX,foldedSetIterable->aaY,Keyword->aa4,wpAny_onRaise->aa6,wpAny_attempt->aa7,pyNext->aa8,annotationsOf->aa9,Comprehension->abb,wpAny_isInstance->abc,tupleKind->abd,noFill_tuple_add->abe,getMethod->abf,valueAt->abl,standAt->abm,builtinsNs->abo,assignEach->abp,BindsTo->abr,wpAny_specialOf->abt,wpAny_execs_nil->abu,wpAny_newTuple->abB,subscripted->abC,isSubtype_stop->abD,IsRangeIter->abK,holding->abM,getItem->abN,callerA->abO,wpAny_standAt->abR,seq_tuple_add->abT,behindInMarks->abU,wpAny_rule->abV,Paired->abY,seqIndex_neg->abZ,concat_meets->ab0,callWith->ab1,Within->ab2,updateSeq->ab9,isTrue->aca,cellOf->acb,seqIndex_of->acd,wpAny_call->ach,wpAny_Name->aci,typeLookup->acj,bindArgs->ack,assign->acm,call->acn,pyIter->aco
open Nat renaming le_refl->WM,lt_of_lt_of_le->W7,ne_of_lt->W9,zero_add->Xh,le_trans->Xo,ne_of_gt->XI,add_right_comm->XQ,zero_le->XZ,lt_succ_self->Yq,lt_irrefl->Yu,le_succ->YN,le_add_right->Y1,not_lt_zero->Za,sub_succ_lt_self->Zf,mul_le_mul_right->Zg,lt_succ_of_lt->Zh,lt_of_sub_eq_succ->ZH,succ_mul->ZR,min_le_right->ZS,lt_trans->aap,le_of_lt->aaq,min_le_left->aaN,le_of_eq->aaS,add_zero->ab3,add_comm->ab4
open PySem.W renaming Frag->WO,nsIn->W3,mg_none_of->Xl,findIn->Xm,mg_of->Xs,kia_one->XU,emptyDict->Yj,CodeHd->YM,instObj->YO,tabIn->YZ,keepIn->Y6,tabObj->Zt,isFn->Zy,plainGet->ZQ,callWith_K->aaa,noTabs->aai,hasDictIn->aaj,fnOf->aak,methodCall_KW->aav,plainGet_of->aaO,lookIn->aaV,plainOver->aaZ,methodObj->aa0,takerIn->abw,makesIn->abx,OpenLaw->aby,kla_fn->abE,kitOne->abF,codeIn->abG,fnX->acg
open PySem.NameKind renaming free->W2,cell->Yk
open Option renaming join_some->Xc,map_some->XA,bind_some->Yf,isNone_iff_eq_none->YA,isSome_map->aao,getD_none->abg
open PySem.Value renaming ref->Xg,none->YG,type->Y5,int->ZD,bool->Z9,str->aaD,float->ace
open Option.some renaming inj->Xj
open PySem.Builtin.SmallTypes renaming nextOf->Xk,ownedTupleIsFree->Yl
open Classical renaming byContradiction->Xp
open Function renaming comp_def->Xu
open PyProof.Rows renaming callWith_type1->Xx,seqObj->YF,kindOf->aaC,AllBare->aa5,envOfC->abn,get?_update_seq->abv,sortedAll->abL,subscriptTail->abS,boot_range->abW
open PySem.Obj renaming mapSeq->XB
open Ne renaming symm->XC
open PySem.Str renaming ofString->XH
open False renaming elim->XT
open PySem.Builtin.Tuple renaming tupleTooMany->Ya,tupleExact->Zo
open True renaming intro->Yi
open ForInStep renaming yield->Yn
open PySem.F renaming slot_tuple_iterator_next->Yx,slot_int_rmul->YB,slot_enumerate_next->YT,plain_extend_loop->Y8,slot_zip_next->ZG,args_tuple_mul_2->ZY,args_tuple_add_2->ZZ,plainAttrs_dict->aad,entry_tuple_mul->aae,entry_tuple_add->aaf,args_int_rmul_2->aag,slot_tuple_mul->aal,slot_tuple_add->aam,entry_int_rmul->aan,fills_int_mul->aaw
open PySem.Calls renaming callWith_builtin->YX,spliced_cons->ZA,spliced_nil->aau,evalArgs_plain->aaK
open PySem.Builtin.List renaming listExtendWith->YY
open Array renaming length_toList->Zr,getElem?_toList->aaz
open PySem.Builtin.Range renaming rangeSize->Zw
open PySem.Paired renaming length->aba
open Int renaming toNat->abj
open PySem.AutoSeq1 renaming idx_int->abk
open PySem.PassesOwn renaming never->abz
open Sum renaming inr->abP,inl->abQ
open PyProof.Rows.SortSt renaming mk'->abX
open PySem.Code renaming isFrame->ab7
open PySem.Around renaming under->ab8
open PySem.Shared renaming heap->acf
namespace PySem.W.Fast
def tw12885247045148786384:=0
def tw16352721410692657844:=0
def tw17612227466208368227:=0
def tw15805473420033003189:=0
def tw17421479117936456592:=0
def tw12053669388346960521:=0
def tw2862305187391174290:=0
def tw17233074384302000332:=0
def tw5919066309103648185:=0
def tw17606247970315539055:=0
def tw4709922826688147389:=0
def tw15480635649962364024:=0
def tw5264576038130683516:=0
def tw219266924091267212:=0
def tw7012904527685987345:=0
def tw13002404995198722584:=0
def tw3069944595661028494:=0
def tw8790874300260662030:=0
def tw11837776914310125984:=0
def tw13536926957473234435:=0
def tw14831987610168840246:=0
def tw7054393116042805028:=0
def tw2826727497693106782:=0
def tw2470887456999595685:=0
def tw5212255849909756000:=0
def tw9639536007392427229:=0
def tw13459305280217073693:=0
def tw6352796139538832771:=0
def tw16363696250170964301:=0
def tw12241809947970719116:=0
def tw5519741657158317091:=0
def tw15777847587135610687:=0
def tw12694948009323657146:=0
def tw18229798157594359426:=0
def tw5575665584649296124:=0
def tw7350323445455213779:=0
def tw15832898525858816206:=0
def tw10707193396319404601:=0
def tw1218442309836279414:=0
def tw12878432768939403348:=0
def tw18397146705367622861:=0
def tw11167818954243275600:=0
def tw9374515400955663350:=0
def tw2747781309494497129:=0
def tw11719490130102817720:=0
def tw17875064176516064942:=0
def tw14448681161653683608:=0
def tw3579534523611181265:=0
def tw10147582395357614592:=0
def tw12724894713006106903:=0
def tw1024094949512251013:=0
def tw18333345267477991332:=0
def tw2810134726813898110:=0
def tw17816140037499659626:=0
def tw16726335266481441083:=0
def tw13537029305864055807:=0
def tw3766319685455847043:=0
def tw13205708656410787126:=0
def tw10573674594937233848:=0
def tw9917109445059007691:=0
def tw17726309110378913881:=0
def tw5172472797500122850:=0
def tw432044111588398410:=0
def tw10428130583560158830:=0
end PySem.W.Fast
theorem qqq{p:Prop}[Decidable p]:(decide p=Bool.true)=p:=decide_eq_true_eq
theorem qqz{A:Type u}{l:List A}{i:Nat}{a:A}(h:l[i]?=Option.some a):∃h:i<l.length,l[i]=a:=List.getElem?_eq_some_iff.mp h
theorem ft{g:Prop}(h:Ξ=Λ):g:=Bool.noConfusion h
namespace L2
open PySem PySem.Spec PyProof.Rows
abbrev Key:=Sum Int Str
noncomputable def vR:Key->Value->Bool
 |.inl k,v=>Value.isInt k v|.inr x,v=>Value.isStrOf x v
noncomputable def Ti(w:World):Key->Int
 |.inl k=>hashInt k|.inr x=>hashStr w x
theorem bX:∀{k} {v},vR k v=Λ->(∃i t,k=abQ i/\v=ZD i t)\/(∃x t,k=abP x/\v=aaD x t)
 |.inl i,v,h=>by obtain⟨t,e⟩:=Value.isInt_shape (k:=i) (v:=v) h;exact .inl ⟨i,t,rfl,e⟩|.inr x,v,h=>by obtain⟨t,e⟩:=Value.isStrOf_shape (x:=x) (v:=v) h;exact .inr ⟨x,t,rfl,e⟩
theorem Df i t:vR (.inl i) (.int i t)=Λ:=by simp[vR,Value.isInt]
theorem Dg x t:vR (.inr x) (.str x t)=Λ:=by simp[vR,Value.isStrOf]
theorem K6 a b:decide ((abQ a:Key)=abQ b)=(a==b):=by
 by_cases e:a=b;·subst e;simp
 ·have h:¬(abQ a:Key)=abQ b:=λq=>e (abQ.inj q);rw[decide_eq_false h];exact(beq_eq_false_iff_ne.mpr e).symm
theorem K7 a b:decide ((abP a:Key)=abP b)=decide (a=b):=by
 by_cases e:a=b;·subst e;simp
 ·have h:¬(abP a:Key)=abP b:=λq=>e (abP.inj q);rw[decide_eq_false h,decide_eq_false e]
theorem K8 a b:decide ((abQ a:Key)=abP b)=Ξ:=decide_eq_false (λq=>nomatch q)
theorem K9 a b:decide ((abP a:Key)=abQ b)=Ξ:=decide_eq_false (λq=>nomatch q)
def aZ(prog:Xy)(w:World):PySem.KeyKind prog w Key where
 is:=vR
 hash:=Ti w
 inj:=λv a b ha hb=>by
  rcases bX ha with ⟨i,t,rfl,rfl⟩|⟨x,t,rfl,rfl⟩
  ·rcases bX hb with ⟨j,u,rfl,e⟩|⟨y,u,rfl,e⟩
   ·injection e with e1 _;rw[e1]
   ·exact nomatch e
  ·rcases bX hb with ⟨j,u,rfl,e⟩|⟨y,u,rfl,e⟩
   ·exact nomatch e
   ·injection e with e1 _;rw[e1]
 byValue:=λk v h=>by rcases bX h with ⟨i,t,rfl,rfl⟩|⟨x,t,rfl,rfl⟩<;>rfl
 pyHash:=λhv h=>by
  rcases bX hv with ⟨i,t,rfl,rfl⟩|⟨x,t,rfl,rfl⟩
  ·exact wpAny_pyHash_int h
  ·exact wpAny_pyHash_str h
 eqBool:=λhu hv h=>by
  rcases bX hu with ⟨i,t,rfl,rfl⟩|⟨x,t,rfl,rfl⟩
  ·rcases bX hv with ⟨j,u,rfl,rfl⟩|⟨y,u,rfl,rfl⟩
   ·rw[K6] at h;exact wpAny_eqBool_int h
   ·rw[K8] at h;exact SeqAt.EqAt.int_str i t y u _ _ _ _ h
  ·rcases bX hv with ⟨j,u,rfl,rfl⟩|⟨y,u,rfl,rfl⟩
   ·rw[K9] at h;exact SeqAt.EqAt.str_int x t j u _ _ _ _ h
   ·rw[K7] at h;exact wpAny_eqBool_str h
 «strs»:=λk x t v h=>by
  rcases bX h with ⟨i,u,rfl,e⟩|⟨y,u,rfl,e⟩
  ·exact nomatch e
  ·injection e with e1 _;subst e1;cases v<;>rfl
theorem yy prog w i t:(aZ prog w).is (.inl i) (.int i t)=Λ:=Df i t
theorem yz prog w x t:(aZ prog w).is (.inr x) (.str x t)=Λ:=Dg x t
inductive V where
 |bz|bl (b:Bool)|int (i:Int)|str (x:Str)|N2 (b:Array UInt8)|La (b:UInt64)|ref (a:Addr)|ty (n:String)
 deriving DecidableEq
noncomputable def RelV:V->Value->Prop
 |.bz,u=>u=YG|.bl b,u=>u=Z9 b|.int i,u=>∃t,u=ZD i t|.str x,u=>∃t,u=aaD x t|.N2 b,u=>∃t,u=Value.bytes b t|.La b,u=>∃t,u=ace b t|.ref a,u=>u=Xg a|.ty n,u=>u=Y5 n
abbrev aO:List V->List Value->Prop:=abY RelV
theorem aO.length(r:aO xs us):xs.length=us.length:=aba r
theorem aO.get:∀{xs} {us} {i:Nat} {x},aO xs us->xs[i]?=Δ x->∃u,us[i]?=Δ u/\RelV x u
 |_,_,_,_,.nil,e=>by simp at e|_,_,0,_,.cons r _,e=>by simp at e;subst e;exact⟨_,rfl,r⟩|_,_,i+1,x,.cons _ t,e=>by obtain⟨u,h1,h2⟩:=aO.get (i:=i) (x:=x) t (by simpa using e);exact⟨u,by simpa using h1,h2⟩
theorem aO.set(r:RelV x u):∀{xs} {us} (i),aO xs us->aO (xs.set i x) (us.set i u)
 |_,_,_,.nil=>.nil|_,_,0,.cons _ t=>.cons r t|_,_,i+1,.cons q t=>.cons q (aO.set r i t)
theorem aO.append:∀{xs ys} {us ws},aO xs us->aO ys ws->aO (xs++ys) (us++ws)
 |_,_,_,_,.nil,s=>s|_,_,_,_,.cons r t,s=>.cons r (aO.append t s)
theorem aO.take:∀{xs} {us} (n),aO xs us->aO (xs.take n) (us.take n)
 |_,_,0,_=>.nil|_,_,_+1,.nil=>.nil|_,_,n+1,.cons r t=>.cons r (aO.take n t)
theorem aO.drop:∀{xs} {us} (n),aO xs us->aO (xs.drop n) (us.drop n)
 |_,_,0,r=>r|_,_,_+1,.nil=>.nil|_,_,n+1,.cons _ t=>aO.drop n t
def ki:Option V->Option Value->Prop
 |some v,Δ u=>RelV v u|none,Θ=>True|_,_=>False
def KV{κ:Type}:List (κ×V)->List (κ×Value)->Prop:=abY λ(p:κ×V) (q:κ×Value)=>p.1=q.1/\RelV p.2 q.2
def kV:Key->V
 |.inl i=>.int i|.inr x=>.str x
inductive HO where
 |lst (xs:List V)
 |tup (xs:List V)
 |dK (kvs:List (Key×V))|dT (kvs:List (List Key×V))
 |set (S:Int->Bool) (n:Nat)
 |ins (C dx:Addr) (fs:List (Str×V))
 |own (x:Addr)
 |xd (fs:List (Str×V))
 |met (f x:Addr)
 |iJ (lo hi:Int)
 |dt (o:Obj) (u:HO)
 |fE (ps:Array Value)
 |ext (φ:Heap->Prop)
abbrev Hp:=Addr->Option HO
noncomputable def upd(H:Hp)(a:Addr)(o:HO):Hp:=λb=>if b=a then Δ o else H b
theorem aD:upd H a o a=Δ o:=by unfold upd;rw[if_pos rfl]
theorem au(h:b≠a):upd H a o b=H b:=by unfold upd;rw[if_neg h]
theorem Cb:upd (upd H a o) a u=upd H a u:=by funext b;unfold upd;split<;>rfl
theorem Kb{H:Hp}(h:H a=Δ o)(h':H b=Δ u)(d:o≠u):a≠b:=by intro e;subst e;rw[h] at h';exact d (Xj h')
theorem aM{H:Hp}(h:H a=Δ o)(h':H b=Θ):a≠b:=by intro e;subst e;rw[h] at h';cases h'
section
variable(P:Xy)(w:World)
def bG(H:Hp)(h:Heap)(a:Addr):HO->Prop
 |.lst xs=>xs.length<=W8/\∃(its:List Value) (n:Nat),aO xs its/\h.get? a=Δ {cls:=.type "list",data:=.seq its.toArray n}|.tup xs=>xs.length<=W8/\∃its:List Value,aO xs its/\IsTup h a its.toArray|.dK kvs=>kvs.length<=W8/\(a==Yw)=Ξ/\∃vs,KV kvs vs/\h.DictOf (aZ P w) a vs
 |.dT kvs=>kvs.length<=W8/\(a==Yw)=Ξ/\∃xs:List (List Key×Addr×Value),
   abY (λ(p:List Key×V) (q:List Key×Addr×Value)=>p.1=q.1/\H q.2.1=Δ (.tup (p.1.map kV))/\RelV p.2 q.2.2) kvs xs/\
   ∃o es ep,h.get? a=Δ o/\o.ExactDict/\o.data=.dict es ep/\es.toList=xs.map (entryOfKey (abd (aZ P w)))/\(xs.map (·.1)).Nodup
 |.set S n=>h.SetOf (intKind P w) a S n
 |.ins C dx fs=>H dx=Δ (.own a)/\fs.length<=1000/\dx≠a/\h.get? a=Δ (YO C dx)/\
   ∃mA,h.Ns1 dx mA/\(∀f,ki (fs.lookup f) (mA f))/\ab2 mA (fs.map (·.1))
 |.own _=>∃o,h.get? a=Δ o|.xd fs=>∃mA,h.Ns1 a mA/\∀f,ki (fs.lookup f) (mA f)|.iJ lo hi=>∃t u v,h.get? a=Δ {cls:=.type "range",data:=.fields #[.int lo t,.int hi u,.int 1 v]}|.dt o u=>h.get? a=Δ o/\bG H h a u|.fE ps=>h.get? a=Δ {cls:=.none,data:=.fields ps}|.met f x=>h.get? a=Δ (aa0 (.ref f) (.ref x))|.ext φ=>φ h/\(∃o,h.get? a=Δ o)/\∀h1 h2:Heap,φ h1->(∀o,h1.get? a=Δ o->h2.get? a=Δ o)->φ h2
def kj(H:Hp)(h:Heap):Prop:=∀a o,H a=Δ o->bG P w H h a o
end
section
variable{P:Xy}{w:World}{H H':Hp}{h h':Heap}{a:Addr}{o:HO}
theorem bG.lt(x:bG P w H h a o):a < h.objs.size:=by cases o with|lst xs=>obtain⟨_,_,_,_,e⟩:=x;exact WV e|tup xs=>obtain⟨_,_,_,p⟩:=x;exact p.lt|dK kvs=>obtain⟨_,_,_,_,o,_,_,e,_⟩:=x;exact WV e|dT kvs=>obtain⟨_,_,_,_,o,_,_,e,_⟩:=x;exact WV e|set S n=>obtain⟨o,_,_,_,e,_⟩:=x;exact WV e|ins C dx fs=>obtain⟨_,_,_,e,_⟩:=x;exact WV e|own y=>obtain⟨_,e⟩:=x;exact WV e|xd fs=>obtain⟨_,⟨_,_,_,e,_⟩,_⟩:=x;exact WV e|iJ lo hi=>obtain⟨_,_,_,e⟩:=x;exact WV e|dt ob u=>obtain⟨e,_⟩:=x;exact WV e|fE ps=>exact WV (show h.get? a=Δ _ from x)|met f y=>exact WV (show h.get? a=Δ _ from x)|ext φ=>obtain⟨_,⟨_,e⟩,_⟩:=x;exact WV e
theorem abY.Lb:∀{EJ} {EK},abY F EJ EK->(∀a b,F a b->G a b)->abY G EJ EK
 |_,_,.nil,_=>.nil|_,_,.cons r t,f=>.cons (f _ _ r) (abY.Lb t f)
theorem bG.nu(x:bG P w H h a o)(k:∀b u,(b=a\/H b=Δ (.own a))->h.get? b=Δ u->h'.get? b=Δ u)
  (ho:∀b,H b=Δ (.own a)->H' b=Δ (.own a)) (ht:∀b xs,H b=Δ (.tup xs)->H' b=Δ (.tup xs)):bG P w H' h' a o:=by
 induction o with
 |lst xs=>obtain⟨z,its,n,r,e⟩:=x;exact⟨z,its,n,r,k _ _ (.inl rfl) e⟩|tup xs=>obtain⟨z,its,r,ob,e,c⟩:=x;exact⟨z,its,r,ob,k _ _ (.inl rfl) e,c⟩|dK kvs=>obtain⟨z,y,vs,r,ob,es,ep,e,c⟩:=x;exact⟨z,y,vs,r,ob,es,ep,k _ _ (.inl rfl) e,c⟩|dT kvs=>obtain⟨z,y,xs,r,ob,es,ep,e,c⟩:=x;exact⟨z,y,xs,abY.Lb r λp q z=>⟨z.1,ht _ _ z.2.1,z.2.2⟩,ob,es,ep,k _ _ (.inl rfl) e,c⟩
 |set S n=>obtain⟨ob,es,ep,t,e,c⟩:=x;exact⟨ob,es,ep,t,k _ _ (.inl rfl) e,c⟩|ins C dx fs=>obtain⟨d,z,ne,e,mA,⟨od,es,ep,e2,c⟩,r⟩:=x;exact⟨ho _ d,z,ne,k _ _ (.inl rfl) e,mA,⟨od,es,ep,k _ _ (.inr d) e2,c⟩,r⟩
 |own y=>obtain⟨ob,e⟩:=x;exact⟨ob,k _ _ (.inl rfl) e⟩|xd fs=>obtain⟨mA,⟨od,es,ep,e,c⟩,r⟩:=x;exact⟨mA,⟨od,es,ep,k _ _ (.inl rfl) e,c⟩,r⟩|iJ lo hi=>obtain⟨t,u,v,e⟩:=x;exact⟨t,u,v,k _ _ (.inl rfl) e⟩|dt ob u ih=>obtain⟨e,q⟩:=x;exact⟨k _ _ (.inl rfl) e,ih q⟩|fE ps=>have e:h.get? a=Δ {cls:=.none,data:=.fields ps}:=x;show h'.get? a=Δ {cls:=.none,data:=.fields ps};exact k a _ (.inl rfl) e
 |met f y=>have e:h.get? a=Δ (aa0 (.ref f) (.ref y)):=x;show h'.get? a=Δ (aa0 (.ref f) (.ref y));exact k a _ (.inl rfl) e|ext φ=>obtain⟨p,⟨o,e⟩,st⟩:=x;exact⟨st _ _ p λo q=>k _ _ (.inl rfl) q,⟨o,k _ _ (.inl rfl) e⟩,st⟩
theorem kj.lt(x:kj P w H h)(e:H a=Δ o):a < h.objs.size:=(x a o e).lt
theorem kj.fresh(x:kj P w H h)(e:h.objs.size<=a):H a=Θ:=by cases q:H a with|none=>rfl|some u=>exact absurd (W7 (x.lt q) e) (Yu _)
theorem kj.kept(x:kj P w H h)(k:∀b u,h.get? b=Δ u->h'.get? b=Δ u):kj P w H h':=λa o e=>(x a o e).nu (λb u _ q=>k b u q) (λ_ q=>q) λ_ _ q=>q
theorem kj.laid(x:kj P w H h)(k:∀b u,h.get? b=Δ u->h'.get? b=Δ u)(hp:h.objs.size<=a)(new:bG P w (upd H a o) h' a o):kj P w (upd H a o) h':=λb u e=>by
 have hn:=x.fresh hp;by_cases hb:b=a;·subst hb;rw[aD] at e;cases e;exact new
 ·rw[au hb] at e;exact(x b u e).nu (λc v _ q=>k c v q) (λc q=>by rw[au (aM q hn)];exact q) λc xs q=>by rw[au (aM q hn)];exact q
end
noncomputable def Rd(H:Hp)(a:Addr)(u:HO):Prop:=H a=Δ u\/∃o,H a=Δ (.dt o u)
theorem Rd.ok(r:Rd H a u)(x:kj P w H h):bG P w H h a u:=by
 rcases r with r|⟨o,r⟩;·exact x a u r
 ·obtain⟨_,q⟩:=x a _ r;exact q
noncomputable def OA:Option HO->Prop
 |some (.lst _)=>True|some (.dK _)=>True|some (.dT _)=>True|some (.set _ _)=>True|some (.ins _ _ _)=>True|some (.ext _)=>True|_=>False
section
variable{P:Xy}{w:World}{H:Hp}{h h':Heap}{x e:Addr}{o':HO}
theorem kj.write(ok:kj P w H h)(mu:OA (H x))(he:e=x\/H e=Δ (.own x))(k:∀b u,b≠e->h.get? b=Δ u->h'.get? b=Δ u)(N3:∃u,h'.get? e=Δ u)
  (new:bG P w (upd H x o') h' x o'):kj P w (upd H x o') h':=λb u q=>by
 have OB:∀c y,H c=Δ (.own y)->c≠x:=λc y r z=>by subst z;rw[r] at mu;exact mu
 have Tj:∀c xs,H c=Δ (.tup xs)->c≠x:=λc xs r z=>by subst z;rw[r] at mu;exact mu
 by_cases hb:b=x;·subst hb;rw[aD] at q;cases q;exact new
 ·rw[au hb] at q;by_cases Lc:b=e
  ·have q':H b=Δ (.own x):=by
    rcases he with z|z;·exact absurd (Lc.trans z) hb
    ·rw[Lc];exact z
   rw[q] at q';cases q';obtain⟨v,hv⟩:=N3;exact⟨v,by rw[Lc];exact hv⟩
  ·refine(ok b u q).nu (λc v hc r=>k c v ?_ r) (λc r=>by rw[au (OB c b r)];exact r) λc xs r=>by rw[au (Tj c xs r)];exact r
   rcases hc with rfl|hc;·exact Lc
   ·rintro rfl;rcases he with z|z;·exact OB c b hc z
    ·rw[hc] at z;cases z;exact hb rfl
end
structure Un(fs ex:List Addr)(H H':Hp)(h h':Heap):Prop where
 keep:∀b o,h.get? b=Δ o->H b=Θ->b∉fs->b∉ex->h'.get? b=Δ o
 slot:∀b o,h.get? b=Δ o->H b=Θ->b∈fs->b∉ex->∃sl,h'.get? b=Δ {o with slots:=sl}
 free:∀b o,h.get? b=Δ o->H b=Θ->b∉ex->H' b=Θ
 there:∀b o,h.get? b=Δ o->b∉ex->∃o',h'.get? b=Δ o'
 sj:∀b xs,H b=Δ (.tup xs)->H' b=Δ (.tup xs)
 oO:∀b o u,H b=Δ (.dt o u)->H' b=Δ (.dt o u)
 qK:∀b ps,H b=Δ (.fE ps)->∃more,H' b=Δ (.fE (ps++more))
section
variable{fs fs' ex ex':List Addr}{H H1 H2:Hp}{h h1 h2 h':Heap}{a x e:Addr}{o:HO}
theorem Un.any(u:Un fs ex H H1 h h1)(q:h.get? b=Δ ob)(n:H b=Θ)(hx:b∉ex):∃sl,h1.get? b=Δ {ob with slots:=sl}:=by
 by_cases hb:b∈fs;·exact u.slot b ob q n hb hx
 ·exact⟨ob.slots,u.keep b ob q n hb hx⟩
theorem Un.kept(k:∀b u,h.get? b=Δ u->h'.get? b=Δ u):Un fs ex H H h h':=
 ⟨λb ob q _ _ _=>k b ob q,λb ob q _ _ _=>⟨ob.slots,k b ob q⟩,λ_ _ _ n _=>n,λb ob q _=>⟨ob,k b ob q⟩,λ_ _ q=>q,λ_ _ _ q=>q,λ_ ps q=>⟨#[],by rw[q];simp⟩⟩
theorem Un.refl:Un fs ex H H h h:=Un.kept λ_ _ q=>q
theorem Un.laid(k:∀b u,h.get? b=Δ u->h'.get? b=Δ u)(hp:h.objs.size<=a)(hn:H a=Θ):Un fs ex H (upd H a o) h h' where
 keep:=λb u q _ _ _=>k b u q
 slot:=λb u q _ _ _=>⟨u.slots,k b u q⟩
 free:=λb u q n _=>by rw[au (W9 (W7 (WV q) hp))];exact n
 there:=λb u q _=>⟨u,k b u q⟩
 sj:=λb xs q=>by rw[au (aM q hn)];exact q
 oO:=λb u xs q=>by rw[au (aM q hn)];exact q
 qK:=λb ps q=>⟨#[],by rw[au (aM q hn),q];simp⟩
theorem Un.write(mu:OA (H x))(he:e=x\/H e=Δ (.own x))(k:∀b u,b≠e->h.get? b=Δ u->h'.get? b=Δ u)(N3:∃u,h'.get? e=Δ u):Un fs ex H (upd H x o) h h':=by
 have hx:∀b,H b=Θ->b≠x:=λb n z=>by subst z;rw[n] at mu;exact mu
 have hb:∀b,H b=Θ->b≠e:=λb n z=>by
  subst z;rcases he with r|r;·exact hx b n r
  ·rw[n] at r;cases r
 have hm:∀b u,H b=Δ u->¬OA (Δ u)->b≠x:=λb u q nm z=>by subst z;rw[q] at mu;exact nm mu
 refine⟨λb u q n _ _=>k b u (hb b n) q,λb u q n _ _=>⟨u.slots,k b u (hb b n) q⟩,λb u q n _=>by rw[au (hx b n)];exact n,λb u q _=>?_,
  λb xs q=>by rw[au (hm b _ q λz=>z)];exact q,λb u xs q=>by rw[au (hm b _ q λz=>z)];exact q,λb ps q=>⟨#[],by rw[au (hm b _ q λz=>z),q];simp⟩⟩
 by_cases Lc:b=e;·subst Lc;exact N3
 ·exact⟨u,k b u Lc q⟩
end
noncomputable def qL(h:Heap)(H:Hp):List Addr:=(WB h.objs.size).filter λa=>(H a).isSome
def qM(h:Heap)(H:Hp):Heap:=PySem.W.hideAll h (qL h H)
theorem vS h H:(qM h H).objs.size=h.objs.size:=PySem.W.hideAll_size _ _
theorem yA(e:h.get? b=Δ o)(n:H b=Θ):(qM h H).get? b=Δ o:=
 PySem.W.hideAll_get _ e λhm=>by have q:(H b).isSome=Λ:=(Yd.mp hm).2;rw[n] at q;simp at q
theorem Cd(e:(qM h H).get? b=Δ o):h.get? b=Δ o/\H b=Θ:=by have e':h.get? b=Δ o:=PySem.W.of_hideAll (qL h H) e;refine⟨e',?_⟩;cases q:H b with|none=>rfl|some x=>have hm:b∈qL h H:=Yd.mpr ⟨XX.mpr (WV e'),by simp[q]⟩;have z:(qM h H).get? b=Θ:=PySem.W.hideAll_none (qL h H) hm;rw[z] at e;cases e
structure Mod(K:WO)(mg:Str->Option Value)(base:Heap):Prop where
 Ld:K.In base
 glob:base.Ns WY mg
 blt:∃mb,base.Ns abo mb/\∀x:Str,x≠"__name__"->mb x=ZO x
 nolimit:base.NoLimit
structure Cx where
 prog:Xy
 w:World
 K:WO
 mg:Str->Option Value
 base:Heap
 A:Yc
 N:List Str
 gO:WU
 yB:Hp
 env:Env
 outer:List Env
 stack:List Env
 ex:List Addr
 fn:Str->Bool
 calm:Bool
 pn:List (Addr×Obj)
 xe:Value->WU->Prop
def jA(l:List Env):List Addr:=l.filterMap (·.frame)
abbrev Cx.fs(X:Cx):List Addr:=jA X.outer
def OC(sc:Scope)(x:Str):Prop:=sc.names.lookup x=Δ .local\/sc.names.lookup x=Δ .cell\/sc.names.lookup x=Δ .free
def Loc(sc:Scope)(x:Str):Prop:=sc.names.lookup x=Δ .local\/sc.names.lookup x=Δ .cell
def Look(env:Env)(h:Heap)(m:Str->Option Value)(x:Str)(u:Value):Prop:=
 (env.kindOf x=Δ .local/\m x=Δ u)\/((env.kindOf x=Δ .cell\/env.kindOf x=Δ .free)/\∃c,env.cells.lookup x=Δ c/\h.IsCell c (Δ u))
structure Cx.Ok(X:Cx):Prop where
 mod:Mod X.K X.mg X.base
 kind:X.env.scope.kind=.function
 glob:X.env.globals=WY
 blt:X.env.builtins=abo
 above:X.gO.heap.objs.size<=X.env.locals
 inj:∀x y c,X.env.cells.lookup x=Δ c->X.env.cells.lookup y=Δ c->x=y
 has:∀x,(X.env.kindOf x=Δ .cell\/X.env.kindOf x=Δ .free)->∃c,X.env.cells.lookup x=Δ c
 Lf:∀x c,X.fn x=Λ->X.env.cells.lookup x=Δ c->X.gO.heap.objs.size<=c
 hd:X.calm=Λ->X.A.handled=Θ
 frames:X.A.frames=Δ X.stack
 OD:X.stack=X.outer\/(X.stack=X.env::X.outer/\X.env.frame=Δ X.env.locals)
 Tn:∀b∈X.ex,b≠X.env.locals/\∀x c,X.env.cells.lookup x=Δ c->c≠b
 bs:∀b o,X.base.get? b=Δ o->X.gO.heap.get? b=Δ o/\X.yB b=Θ
 EE:X.base.objs.size<=X.gO.heap.objs.size
 Dh:∀b o,X.base.get? b=Δ o->b∉X.ex
 EL:∀b∈X.ex,b∉X.fs
 mB:X.gO.heap.FunFrames X.base X.outer
 HJ:∀b∈X.fs,X.yB b=Θ
structure Inv(X:Cx)(η:List (Addr×Obj))(σ:List (Option V))(H:Hp)(s:WU):Prop where
 ok:X.Ok
 os:s.os=X.gO.os
 bare:aa5 s.gens
 base:Un X.fs X.ex X.yB H X.gO.heap s.heap
 loc:∃m,s.heap.Ns X.env.locals m/\∀(i:Nat) (x:Str) (v:V),X.N[i]?=Δ x->σ[i]?=Δ (Δ v)->OC X.env.scope x->∃u,RelV v u/\Look X.env s.heap m x u
 cell:∀x c,X.env.cells.lookup x=Δ c->∃v,s.heap.IsCell c v
 free:H X.env.locals=Θ
 jY:∀x c,X.env.cells.lookup x=Δ c->H c=Θ
 pin:∀p∈X.pn++η,s.heap.get? p.1=Δ p.2/\H p.1=Θ/\p.1≠X.env.locals/\p.1∉X.fs/\∀v,p.2.data≠.cell v
 aK:kj X.prog X.w H s.heap
 len:σ.length=X.N.length
section
variable{X:Cx}{η:List (Addr×Obj)}{σ:List (Option V)}{H H':Hp}{s:WU}{h':Heap}
theorem Cx.Ok.HK(ok:X.Ok)(e:X.base.get? b=Δ o):b∉X.fs:=λhb=>by have:=(ok.mB.mem hb).1;rw[e] at this;cases this
theorem Inv.bs(I:Inv X η σ H s):∀b o,X.base.get? b=Δ o->s.heap.get? b=Δ o/\H b=Θ:=λb o e=>⟨I.base.keep b o (I.ok.bs b o e).1 (I.ok.bs b o e).2 (I.ok.HK e) (I.ok.Dh b o e),I.base.free b o (I.ok.bs b o e).1 (I.ok.bs b o e).2 (I.ok.Dh b o e)⟩
theorem Inv.bk(I:Inv X η σ H s):∀b o,X.base.get? b=Δ o->s.heap.get? b=Δ o:=λb o e=>(I.bs b o e).1
theorem Inv.mod(I:Inv X η σ H s):Mod X.K X.mg X.base:=I.ok.mod
theorem Inv.nv(I:Inv X η σ H s):X.K.In s.heap:=I.ok.mod.Ld.keeps I.bk
theorem Inv.lt(I:Inv X η σ H s):X.env.locals < s.heap.objs.size:=let ⟨_,hn,_⟩:=I.loc;hn.lt
theorem Inv.sz(I:Inv X η σ H s):X.gO.heap.objs.size<=s.heap.objs.size:=Xo I.ok.above (aaq I.lt)
theorem Inv.To(I:Inv X η σ H s)(h:s.heap.objs.size<=a):a∉X.fs:=λhb=>by obtain⟨_,o,ho,_⟩:=I.ok.mB.mem hb;exact absurd (W7 (WV ho) (Xo I.sz h)) (Yu _)
theorem Inv.Kc(I:Inv X η σ H s):∀x c,X.env.cells.lookup x=Δ c->c≠X.env.locals:=λx c e z=>by obtain⟨v,o,ho,hd⟩:=I.cell x c e;obtain⟨m,⟨o',es,ep,oP,Hs,_⟩,_⟩:=I.loc;rw[z,oP] at ho;cases ho;rw[Hs] at hd;cases hd
theorem Inv.mB(I:Inv X η σ H s):s.heap.FunFrames X.base X.outer:=by
 have all:∀(l:List Env),(∀b∈jA l,b∈X.fs)->X.gO.heap.FunFrames X.base l->s.heap.FunFrames X.base l:=by intro l;induction l with|nil=>intro _ _;trivial|cons env r ih=>intro hs hl;obtain⟨hk,⟨L,o,hf,hn,ho,hd⟩,hr⟩:=hl;have hL:L∈X.fs:=hs L (by unfold jA;rw[Zp,hf];exact WG);obtain⟨sl,e⟩:=I.base.slot L o ho (I.ok.HJ L hL) hL λz=>I.ok.EL L z hL;exact⟨hk,⟨L,_,hf,hn,e,hd⟩,ih (λb hb=>hs b (by unfold jA;rw[Zp,hf];exact WE _ hb)) hr⟩
 exact all X.outer (λ_ hb=>hb) I.ok.mB
theorem Inv.stack(I:Inv X η σ H s):s.heap.FunFrames X.base X.stack:=by
 rcases I.ok.OD with e|⟨e,hf⟩;·rw[e];exact I.mB
 ·rw[e];obtain⟨m,hn,_⟩:=I.loc;refine .cons (by rw[I.ok.kind];decide) hf hn ?_ I.mB;exact Heap.get?_none_of_le (Xo I.ok.EE I.ok.above)
theorem Inv.oQ(I:Inv X η σ H s):∀b∈jA X.stack,b∈X.env.locals::X.fs:=λb hb=>by
 rcases I.ok.OD with e|⟨e,hf⟩;·rw[e] at hb;exact WE _ hb
 ·rw[e] at hb;unfold jA at hb;rw[Zp,hf] at hb;exact hb
theorem Inv.ny(I:Inv X η σ H s):∀b∈jA X.stack,H b=Θ:=λb hb=>by
 rcases Z3.mp (I.oQ b hb) with e|hb;·rw[e];exact I.free
 ·obtain⟨_,o,ho,_⟩:=I.ok.mB.mem hb;exact I.base.free b o ho (I.ok.HJ b hb) λz=>I.ok.EL b z hb
theorem Inv.step{ch:List Addr}(I:Inv X η σ H s)(Ht:∀b∈ch,(b∈X.ex\/X.gO.heap.objs.size<=b)/\b≠X.env.locals/\(∀x c,X.env.cells.lookup x=Δ c->c≠b)/\∀p∈X.pn++η,p.1≠b)(keep:∀b o,b≠X.env.locals->b∉X.fs->b∉ch->s.heap.get? b=Δ o->H b=Θ->h'.get? b=Δ o)(slot:∀b o,b≠X.env.locals->b∈X.fs->b∉ch->s.heap.get? b=Δ o->H b=Θ->∃sl,h'.get? b=Δ {o with slots:=sl})(free:∀b o,b∉ch->s.heap.get? b=Δ o->H b=Θ->H' b=Θ)(there:∀b o,b∉ch->s.heap.get? b=Δ o->∃o',h'.get? b=Δ o')(sj:∀b xs,H b=Δ (.tup xs)->H' b=Δ (.tup xs))(oO:∀b o u,H b=Δ (.dt o u)->H' b=Δ (.dt o u))(qK:∀b ps,H b=Δ (.fE ps)->∃more,H' b=Δ (.fE (ps++more)))(ns:∀m,s.heap.Ns X.env.locals m->h'.Ns X.env.locals m)(aK:kj X.prog X.w H' h')(hg:aa5 g'):
  Inv X η σ H' {s with heap:=h',gens:=g',drawn:=d',toks:=t'}:=by
 have neL:∀b o,X.gO.heap.get? b=Δ o->b≠X.env.locals:=λb o e=>W9 (W7 (WV e) I.ok.above);have R0:∀b o,X.gO.heap.get? b=Δ o->b∉X.ex->b∉ch:=λb o e hx hb=>by
  rcases(Ht b hb).1 with z|z;·exact hx z
  ·exact absurd (W7 (WV e) z) (Yu _)
 have cellK:∀x c,X.env.cells.lookup x=Δ c->∀v,s.heap.IsCell c v->h'.IsCell c v:=λx c e v ⟨o,ho,hd⟩=>by
  have OE:c∉ch:=λz=>(Ht c z).2.2.1 x c e rfl;by_cases hc:c∈X.fs;·obtain⟨sl,q⟩:=slot c o (I.Kc x c e) hc OE ho (I.jY x c e);exact⟨_,q,hd⟩
  ·exact⟨o,keep c o (I.Kc x c e) hc OE ho (I.jY x c e),hd⟩
 refine⟨I.ok,I.os,hg,⟨λb o e n hb hx=>?_,λb o e n hb hx=>?_,λb o e n hx=>?_,λb o e hx=>?_,λb xs e=>sj b xs (I.base.sj b xs e),λb o xs e=>oO b o xs (I.base.oO b o xs e),λb ps e=>?_⟩,?_,λx c e=>?_,?_,λx c e=>?_,λp hp=>?_,aK,I.len⟩;·exact keep b o (neL b o e) hb (R0 b o e hx) (I.base.keep b o e n hb hx) (I.base.free b o e n hx)
 ·obtain⟨sl,e1⟩:=I.base.slot b o e n hb hx;obtain⟨sl',e2⟩:=slot b _ (neL b o e) hb (R0 b o e hx) e1 (I.base.free b o e n hx);exact⟨sl',e2⟩
 ·obtain⟨o',e1⟩:=I.base.there b o e hx;exact free b o' (R0 b o e hx) e1 (I.base.free b o e n hx)
 ·obtain⟨o',e1⟩:=I.base.there b o e hx;exact there b o' (R0 b o e hx) e1
 ·obtain⟨m1,e1⟩:=I.base.qK b ps e;obtain⟨m2,e2⟩:=qK b _ e1;exact⟨m1++m2,by rw[e2,Array.append_assoc]⟩
 ·obtain⟨m,hn,hl⟩:=I.loc;refine⟨m,ns m hn,λi x v e1 e2 e3=>?_⟩;obtain⟨u,r,l⟩:=hl i x v e1 e2 e3;refine⟨u,r,?_⟩;rcases l with l|⟨k,c,e,z⟩;·exact .inl l
  ·exact .inr ⟨k,c,e,cellK x c e _ z⟩
 ·obtain⟨v,z⟩:=I.cell x c e;exact⟨v,cellK x c e v z⟩
 ·obtain⟨m,⟨o,_,_,ho,_⟩,_⟩:=I.loc;exact free _ o (λz=>(Ht _ z).2.1 rfl) ho I.free
 ·obtain⟨v,o,ho,hd⟩:=I.cell x c e;exact free c o (λz=>(Ht c z).2.2.1 x c e rfl) ho (I.jY x c e)
 ·obtain⟨e,n,ne,nf,d⟩:=I.pin p hp;have OE:p.1∉ch:=λz=>(Ht p.1 z).2.2.2 p hp rfl;exact⟨keep p.1 p.2 ne nf OE e n,free p.1 p.2 OE e n,ne,nf,d⟩
theorem Inv.un(I:Inv X η σ H s)(u:Un X.fs [] H H' s.heap h')(aK:kj X.prog X.w H' h'):Inv X η σ H' {s with heap:=h',toks:=t'}:=by obtain⟨m,⟨o,es,ep,ho,r⟩,_⟩:=id I.loc;obtain⟨sl,hL⟩:=u.any ho I.free (by simp);exact I.step (g':=s.gens) (d':=s.drawn) (ch:=[]) (λ_ z=>nomatch z) (λb o _ hb _ e n=>u.keep b o e n hb (by simp)) (λb o _ hb _ e n=>u.slot b o e n hb (by simp)) (λb o _ e n=>u.free b o e n (by simp)) (λb o _ e=>u.there b o e (by simp)) u.sj u.oO u.qK (λm' hm=>by obtain⟨o',R1,R3,oP,r'⟩:=hm;rw[ho] at oP;cases oP;exact⟨_,R1,R3,hL,r'⟩) aK I.bare
theorem Inv.call(I:Inv X η σ H s)(u:Un (jA X.stack) ch H H' s.heap h')(aK:kj X.prog X.w H' h')(hg:aa5 g')(Ht:∀b∈ch,(b∈X.ex\/X.gO.heap.objs.size<=b)/\b≠X.env.locals/\(∀x c,X.env.cells.lookup x=Δ c->c≠b)/\∀p∈X.pn++η,p.1≠b):
  Inv X η σ H' {s with heap:=h',gens:=g',drawn:=d',toks:=t'}:=by
 obtain⟨m,⟨o,es,ep,ho,r⟩,_⟩:=id I.loc;obtain⟨sl,hL⟩:=u.any ho I.free λz=>(Ht _ z).2.1 rfl;exact I.step (ch:=ch) Ht (λb o hL hb hc e n=>u.keep b o e n (λz=>(Z3.mp (I.oQ b z)).elim hL hb) hc) (λb o _ _ hc e n=>u.any e n hc) (λb o hc e n=>u.free b o e n hc) (λb o hc e=>u.there b o e hc) u.sj u.oO u.qK (λm' hm=>by obtain⟨o',R1,R3,oP,r'⟩:=hm;rw[ho] at oP;cases oP;exact⟨_,R1,R3,hL,r'⟩) aK hg
theorem Inv.turned(I:Inv X η σ H s)(k:∀b o,b≠it->s.heap.get? b=Δ o->h'.get? b=Δ o)(hn:H it=Θ)(hL:it≠X.env.locals)(h1:it∈X.ex\/X.gO.heap.objs.size<=it)(h2:∀x c,X.env.cells.lookup x=Δ c->c≠it)(h3:∀p∈X.pn++η,p.1≠it):Inv X η σ H {s with heap:=h',toks:=t'}:=by
 have EM:∀b u,H b=Δ u->b≠it:=λb u e z=>by rw[z,hn] at e;cases e
 refine I.step (g':=s.gens) (d':=s.drawn) (ch:=[it]) (λb hb=>?_) (λb o _ _ hc e _=>k b o (λz=>hc (by simp[z])) e) (λb o _ _ hc e _=>⟨o.slots,k b o (λz=>hc (by simp[z])) e⟩) (λ_ _ _ _ n=>n)
  (λb o hc e=>⟨o,k b o (λz=>hc (by simp[z])) e⟩) (λ_ _ e=>e) (λ_ _ _ e=>e) (λb ps e=>⟨#[],by rw[e];simp⟩) (λm hm=>?_) (λb u e=>?_) I.bare
 ·have e:b=it:=by simpa using hb
  subst e;exact⟨h1,hL,h2,h3⟩
 ·obtain⟨o,es,ep,ho,r⟩:=hm;exact⟨o,es,ep,k _ o (XC hL) ho,r⟩
 ·refine(I.aK b u e).nu (λc v hc q=>k c v ?_ q) (λ_ q=>q) λ_ _ q=>q;rcases hc with z|z;·rw[z];exact EM b u e
  ·exact EM c _ z
theorem Inv.tok(I:Inv X η σ H s)t:Inv X η σ H {s with toks:=t}:=I.un (h':=s.heap) (t':=t) Un.refl I.aK
theorem Inv.kept(I:Inv X η σ H s)(k:∀b u,s.heap.get? b=Δ u->h'.get? b=Δ u):Inv X η σ H {s with heap:=h',toks:=t'}:=I.un (Un.kept k) (I.aK.kept k)
theorem Inv.laid(I:Inv X η σ H s)(k:∀b u,s.heap.get? b=Δ u->h'.get? b=Δ u)(hp:s.heap.objs.size<=a)(new:bG X.prog X.w (upd H a o) h' a o):
  Inv X η σ (upd H a o) {s with heap:=h',toks:=t'}:=I.un (Un.laid k hp (I.aK.fresh hp)) (I.aK.laid k hp new)
theorem Inv.write(I:Inv X η σ H s)(mu:OA (H x))(he:e=x\/H e=Δ (.own x))(k:∀b u,b≠e->s.heap.get? b=Δ u->h'.get? b=Δ u)(N3:∃u,h'.get? e=Δ u)(new:bG X.prog X.w (upd H x o) h' x o):Inv X η σ (upd H x o) {s with heap:=h',toks:=t'}:=I.un (Un.write mu he k N3) (I.aK.write mu he k N3 new)
theorem Inv.Ce(I:Inv X η σ H s)(h:∀p∈OF,s.heap.get? p.1=Δ p.2/\H p.1=Θ/\p.1≠X.env.locals/\p.1∉X.fs/\∀v,p.2.data≠.cell v):Inv X OF σ H s:=
 ⟨I.ok,I.os,I.bare,I.base,I.loc,I.cell,I.free,I.jY,λp hp=>(Z5.mp hp).elim (λz=>I.pin p (XO _ z)) (h p),I.aK,I.len⟩
theorem kl{N:List Str}(hN:N.Nodup){i j:Nat}(a:N[i]?=Δ x)(b:N[j]?=Δ x):i=j:=by obtain⟨h1,e1⟩:=qqz a;obtain⟨h2,e2⟩:=qqz b;exact(List.getElem_inj hN).mp (e1.trans e2.symm)
theorem Di(I:Inv X η σ H s)(hN:X.N.Nodup)(hi:X.N[i]?=Δ x)(hx:Loc X.env.scope x)(r:RelV v u)(h:∀s',Inv X η (σ.set i (Δ v)) H s'->(∃a,Zl a s.heap s'.heap/\(a=X.env.locals\/X.env.cells.lookup x=Δ a))->Q () s')(hf:X.fn x=Λ\/X.env.scope.names.lookup x=Δ .local:=by first|exact .inl rfl|exact .inr rfl|assumption):wpAny M A (storeName X.env x u) Q E s:=by
 obtain⟨m,hn,hl⟩:=id I.loc;have Tp:(X.env.scope.kind==.class||(X.env.scope.kind==.module&&X.env.locals !=X.env.globals))=Ξ:=by rw[I.ok.kind];rfl
 have OG:i < σ.length:=by rw[I.len];exact(qqz hi).1
 have Kc:=I.Kc;have tracked:∀{a:Addr} {h':Heap},(∃o,s.heap.get? a=Δ o/\H a=Θ)->Zl a s.heap h'->kj X.prog X.w H h':=λ{a h'} ha hs b ob e=>by
  obtain⟨_,_,yC⟩:=ha;refine(I.aK b ob e).nu (λc w' hc q=>(hs.2 c ?_).trans q) (λ_ q=>q) λ_ _ q=>q;rintro rfl;rcases hc with rfl|hc;·rw[yC] at e;cases e
  ·rw[yC] at hc;cases hc
 rcases hx with hk|hk
 ·refine wpAny_storeName_local hk hn (λh' EN hs=>?_) Tp;obtain⟨oL,_,_,R4,_⟩:=id hn;refine h _ ⟨I.ok,I.os,I.bare,⟨λb o e n hb hx=>?_,λb o e n hb hx=>?_,I.base.free,λb o e hx=>?_,I.base.sj,I.base.oO,I.base.qK⟩,⟨_,EN,λj y v' e1 e2 e3=>?_⟩,λy c e=>?_,I.free,I.jY,λp hp=>?_,tracked ⟨oL,R4,I.free⟩ hs,by simpa using I.len⟩ ⟨_,hs,.inl rfl⟩;·exact(hs.2 b (W9 (W7 (WV e) I.ok.above))).trans (I.base.keep b o e n hb hx)
  ·obtain⟨sl,e1⟩:=I.base.slot b o e n hb hx;exact⟨sl,(hs.2 b (W9 (W7 (WV e) I.ok.above))).trans e1⟩
  ·obtain⟨o',e1⟩:=I.base.there b o e hx;exact⟨o',(hs.2 b (W9 (W7 (WV e) I.ok.above))).trans e1⟩
  ·by_cases hj:j=i;·subst hj;rw[hi] at e1;cases e1;rw[W4 OG] at e2;cases e2;exact⟨u,r,.inl ⟨hk,by simp⟩⟩
   ·rw[WH (XC hj)] at e2;obtain⟨u',r',q⟩:=hl j y v' e1 e2 e3;refine⟨u',r',?_⟩;rcases q with ⟨k,e⟩|⟨k,c,e,z⟩
    ·refine .inl ⟨k,?_⟩;have:y≠x:=λe=>hj (kl hN e1 (e▸hi));simp[this,e]
    ·exact .inr ⟨k,c,e,z.sameBut hs (Kc y c e)⟩
  ·obtain⟨w',z⟩:=I.cell y c e;exact⟨w',z.sameBut hs (Kc y c e)⟩
  ·obtain⟨e,n,ne,nf,d⟩:=I.pin p hp;exact⟨(hs.2 p.1 ne).trans e,n,ne,nf,d⟩
 ·have EF:X.fn x=Λ:=by
   rcases hf with z|z;·exact z
   ·rw[z] at hk;cases hk
  obtain⟨c,hc⟩:=I.ok.has x (.inl hk);obtain⟨w',z⟩:=I.cell x c hc;refine wpAny_storeName_cell I.ok.kind hk hc z (λh' Hu hs=>?_);obtain⟨oc,Lg,Tq⟩:=id z;refine h {s with heap:=h'} ⟨I.ok,I.os,I.bare,⟨λb o e n hb hx=>?_,λb o e n hb hx=>?_,I.base.free,λb o e hx=>?_,I.base.sj,I.base.oO,I.base.qK⟩,⟨m,hn.sameBut hs (XC (Kc x c hc)),λj y v' e1 e2 e3=>?_⟩,λy c' e=>?_,I.free,I.jY,λp hp=>?_,tracked ⟨oc,Lg,I.jY x c hc⟩ hs,by simpa using I.len⟩ ⟨c,hs,.inr hc⟩;·exact(hs.2 b (W9 (W7 (WV e) (I.ok.Lf x c EF hc)))).trans (I.base.keep b o e n hb hx)
  ·obtain⟨sl,e1⟩:=I.base.slot b o e n hb hx;exact⟨sl,(hs.2 b (W9 (W7 (WV e) (I.ok.Lf x c EF hc)))).trans e1⟩
  ·obtain⟨o',e1⟩:=I.base.there b o e hx;exact⟨o',(hs.2 b (W9 (W7 (WV e) (I.ok.Lf x c EF hc)))).trans e1⟩
  ·by_cases hj:j=i;·subst hj;rw[hi] at e1;cases e1;rw[W4 OG] at e2;cases e2;exact⟨u,r,.inr ⟨.inl hk,c,hc,Hu⟩⟩
   ·rw[WH (XC hj)] at e2;obtain⟨u',r',q⟩:=hl j y v' e1 e2 e3;refine⟨u',r',?_⟩;rcases q with q|⟨k,c',e,z'⟩;·exact .inl q
    ·refine .inr ⟨k,c',e,z'.sameBut hs ?_⟩;rintro rfl;exact hj (kl hN e1 (I.ok.inj _ _ _ e hc▸hi))
  ·by_cases EG:c'=c;·subst EG;exact⟨_,Hu⟩
   ·obtain⟨w2,z2⟩:=I.cell y c' e;exact⟨w2,z2.sameBut hs EG⟩
  ·obtain⟨e,n,ne,nf,d⟩:=I.pin p hp;refine⟨(hs.2 p.1 ?_).trans e,n,ne,nf,d⟩;intro q;rw[q,Lg] at e;have q':oc=p.2:=Xj e;exact d w' (by rw[<-q'];exact Tq)
theorem nz(I:Inv X η σ H s)(hN:X.N.Nodup)(hi:X.N[i]?=Δ x)(hx:Loc X.env.scope x)(r:RelV v u)(h:∀s',Inv X η (σ.set i (Δ v)) H s'->Q () s')(hf:X.fn x=Λ\/X.env.scope.names.lookup x=Δ .local:=by first|exact .inl rfl|exact .inr rfl|assumption):wpAny M A (storeName X.env x u) Q E s:=
 Di I hN hi hx r (λs' I' _=>h s' I') hf
theorem Inv.EO(I:Inv X η σ H s)(ho:s'.os=s.os)(u:Un (jA X.stack) ch H H' s.heap s'.heap)(aK:kj X.prog X.w H' s'.heap)(hg:aa5 s'.gens)(Ht:∀b∈ch,(b∈X.ex\/X.gO.heap.objs.size<=b)/\b≠X.env.locals/\(∀x c,X.env.cells.lookup x=Δ c->c≠b)/\∀p∈X.pn++η,p.1≠b):Inv X η σ H' s':=by obtain⟨h',g',d',t',o'⟩:=s';have e:o'=s.os:=ho;subst e;exact I.call (g':=g') (t':=t') (d':=d') u aK hg Ht
end
abbrev XK:=Value->Option Addr->Hp->Prop
abbrev St:=List (Option V)
abbrev VK:=V->Hp->Prop
abbrev TE:=St->Hp->VK->Prop
abbrev TT:=St->Hp->(Bool->Hp->Prop)->Prop
abbrev TA:=St->Hp->(List V->Hp->Prop)->Prop
structure Ends where
 nx:St->Hp->Prop
 rt:VK
 bk:St->Hp->Prop:=λ_ _=>False
 ct:St->Hp->Prop:=λ_ _=>False
abbrev TS:=Ends->St->Hp->Prop
inductive EP (X:Cx) (η:List (Addr×Obj)) (σ:St) (Q:VK) (u:Value) (s':WU):Prop
 |mk (v:V) (H':Hp) (a:Inv X η σ H' s') (b:RelV v u) (c:Q v H'):EP X η σ Q u s'
inductive TP (X:Cx) (η:List (Addr×Obj)) (σ:St) (Q:Bool->Hp->Prop) (b:Bool) (s':WU):Prop
 |mk (H':Hp) (a:Inv X η σ H' s') (c:Q b H'):TP X η σ Q b s'
inductive AP (X:Cx) (η:List (Addr×Obj)) (σ:St) (Q:List V->Hp->Prop) (us:List Value) (s':WU):Prop
 |mk (vs:List V) (H':Hp) (a:Inv X η σ H' s') (b:aO vs us) (c:Q vs H'):AP X η σ Q us s'
def SP(X:Cx)(η:List (Addr×Obj))(D:Ends)(f:Flow)(s':WU):Prop:=
 match f with|.next=>∃cT H',Inv X η cT H' s'/\D.nx cT H'|.brk=>∃cT H',Inv X η cT H' s'/\D.bk cT H'|.cont=>∃cT H',Inv X η cT H' s'/\D.ct cT H'|.ret u=>∃v cT H',Inv X η cT H' s'/\RelV v u/\D.rt v H'
noncomputable def PE(X:Cx)(e:Expr)(t:TE):Prop:=
 ∀(η:List (Addr×Obj)) (s:WU) (σ:St) (H:Hp) (Q:VK),Inv X η σ H s->t σ H Q->wpAny (model X.prog X.w) X.A (eval e X.env) (EP X η σ Q) X.xe s
noncomputable def PT(X:Cx)(e:Expr)(t:TT):Prop:=
 ∀(η:List (Addr×Obj)) (s:WU) (σ:St) (H:Hp) (Q:Bool->Hp->Prop),Inv X η σ H s->t σ H Q->wpAny (model X.prog X.w) X.A (aca e X.env (eval e X.env)) (TP X η σ Q) X.xe s
noncomputable def PW(X:Cx)(e:Expr)(t:TT):Prop:=
 ∀(whole:Sem Value) (η:List (Addr×Obj)) (s:WU) (σ:St) (H:Hp) (Q:Bool->Hp->Prop),Inv X η σ H s->t σ H Q->wpAny (model X.prog X.w) X.A (aca e X.env whole) (TP X η σ Q) X.xe s
theorem PW.pt(h:PW X e t):PT X e t:=h _
noncomputable def PA(X:Cx)(es:List Expr)(t:TA):Prop:=
 ∀(pos:Pos) (η:List (Addr×Obj)) (s:WU) (σ:St) (H:Hp) (Q:List V->Hp->Prop),Inv X η σ H s->t σ H Q->wpAny (model X.prog X.w) X.A (spliced (YL pos (Xf es X.env))) (AP X η σ Q) X.xe s
def PS(X:Cx)(st:Stmt)(t:TS):Prop:=
 ∀(η:List (Addr×Obj)) (s:WU) (σ:St) (H:Hp) (D:Ends),Inv X η σ H s->t D σ H->wpAny (model X.prog X.w) X.A (exec st X.env) (SP X η D) X.xe s
def mC(X:Cx)(st:List Stmt)(t:TS):Prop:=
 ∀(η:List (Addr×Obj)) (s:WU) (σ:St) (H:Hp) (D:Ends),Inv X η σ H s->t D σ H->wpAny (model X.prog X.w) X.A (execs st X.env) (SP X η D) X.xe s
theorem bQ(h:wpAny M A t Q E s)(hQ:∀a s,Q a s->Q' a s):wpAny M A t Q' E s:=Yh h hQ λ_ _ x=>x
section
variable{X:Cx}
theorem bin(ha:PE X a ta)(hb:PE X b tb){R:V->V->Hp->Prop}(I:Inv X η σ H s)(h:ta σ H λx H1=>tb σ H1 λy H2=>R x y H2){α:Type}{Q:α->WU->Prop}{f:Value->Value->Sem α}(hf:∀v u s2 x y H2,Inv X η σ H2 s2->RelV x v->RelV y u->R x y H2->wpAny (model X.prog X.w) X.A (f v u) Q X.xe s2):
  wpAny (model X.prog X.w) X.A (eval a X.env) (λv bB=>wpAny (model X.prog X.w) X.A (eval b X.env) (λu u5=>wpAny (model X.prog X.w) X.A (f v u) Q X.xe u5) X.xe bB) X.xe s:=by
 refine bQ (ha η s σ H _ I h) λv s1 ⟨x,H1,I1,r1,q1⟩=>?_;refine bQ (hb η s1 σ H1 _ I1 q1) λu s2 ⟨y,H2,I2,r2,q2⟩=>?_;exact hf v u s2 x y H2 I2 r1 r2 q2
def Tr(i:Nat):TE:=λσ H Q=>∃v,σ[i]?=Δ (Δ v)/\Q v H
def tC(v:V):TE:=λ_ H Q=>Q v H
theorem AX(hN:X.N[i]?=Δ x)(hv:OC X.env.scope x)(hd:(x==("__debug__":Str))=Ξ:=by decide)(qf:(x==("__classdict__":Str))=Ξ:=by decide):PE X (.Name x pos) (Tr i):=by
 intro η s σ H Q I h;obtain⟨v,e,h⟩:=h;obtain⟨m,hn,hl⟩:=I.loc;obtain⟨u,r,l⟩:=hl i x v hN e hv;have fin:EP X η σ Q u s:=⟨v,H,I,r,h⟩;rcases l with ⟨hk,hm⟩|⟨hk,c,hc,nA⟩
 ·exact aci (wpAny_loadName_local I.ok.kind hk hn hm fin) hd
 ·rcases hk with hk|hk;·exact aci (wpAny_loadName_cell I.ok.kind hk hc nA fin) hd
  ·exact aci (wpAny_loadName_free I.ok.kind hk hc nA fin qf) hd
theorem ER{i j pos}:PE X (.Constant (.int i) j pos) (tC (.int i)):=λ_ _ _ H _ I h=>wpAny_Constant_int ⟨.int i,H,I.tok _,⟨_,rfl⟩,h⟩
theorem Kd{b j pos}:PE X (.Constant (.bool b) j pos) (tC (.bl b)):=λ_ _ _ H _ I h=>Constant_bool ⟨.bl b,H,I,rfl,h⟩
theorem ES{j pos}:PE X (.Constant .none j pos) (tC .bz):=λ_ _ _ H _ I h=>Constant_none ⟨.bz,H,I,rfl,h⟩
theorem ET{x j pos}:PE X (.Constant (.str x) j pos) (tC (.str x)):=λ_ _ _ H _ I h=>Calls.Constant_str ⟨.str x,H,I.tok _,⟨_,rfl⟩,h⟩
def Gl(X:Cx)(x:Str):Prop:=X.env.kindOf x=Δ .globalImplicit
theorem nB(I:Inv X η σ H s)(hg:Gl X x)(hm:X.mg x=Δ u)(h:Q u s)(hd:(x==("__debug__":Str))=Ξ:=by decide):wpAny (model X.prog X.w) X.A (eval (.Name x pos) X.env) Q E s:=
 Calls.Name_function_global I.ok.kind hg (Calls.loadGlobal_global (by rw[I.ok.glob];exact I.mod.glob.keeps I.bk) hm h) hd
theorem ja(I:Inv X η σ H s)(hg:Gl X x)(hm:X.mg x=Θ)(hv:ZO x=Δ u)(h:Q u s)(hn:x≠"__name__":=by decide)(hd:(x==("__debug__":Str))=Ξ:=by decide):wpAny (model X.prog X.w) X.A (eval (.Name x pos) X.env) Q E s:=by obtain⟨mb,h1,h2⟩:=I.mod.blt;exact Calls.Name_function_global I.ok.kind hg (Calls.loadGlobal_builtin (by rw[I.ok.glob];exact I.mod.glob.keeps I.bk) hm (by rw[I.ok.blt];exact h1.keeps I.bk) ((h2 x hn).trans hv) h) hd
theorem HL(hg:Gl X x)(hm:X.mg x=Δ u)(r:RelV v u)(hd:(x==("__debug__":Str))=Ξ:=by decide):PE X (.Name x pos) (tC v):=
 λ_ _ _ H _ I h=>nB I hg hm ⟨v,H,I,r,h⟩ hd
theorem HM(hg:Gl X x)(hm:X.mg x=Θ)(hv:ZO x=Δ u)(r:RelV v u)(hn:x≠"__name__":=by decide)(hd:(x==("__debug__":Str))=Ξ:=by decide):PE X (.Name x pos) (tC v):=
 λ_ _ _ H _ I h=>ja I hg hm hv ⟨v,H,I,r,h⟩ hn hd
variable{a b:Expr}{ta tb:TE}{pos:Pos}
variable{tA R5:TT}{rest:List Expr}
noncomputable def Ts(t u:TT):TT:=λσ H Q=>t σ H λc H1=>if c=Λ then u σ H1 Q else Q Ξ H1
noncomputable def tOr(t u:TT):TT:=λσ H Q=>t σ H λc H1=>if c=Λ then Q Λ H1 else u σ H1 Q
def Tu(t:TT):TT:=λσ H Q=>t σ H λc H1=>Q (!c) H1
theorem pw_and1(ha:PT X a tA):PW X (.BoolOp .And [a] pos) tA:=by intro wh η s σ H Q I h;refine isTrue_and (bQ (ha η s σ H Q I h) λc s1 e=>?_);cases c with|true=>exact isTrue_and_nil e|false=>exact e
theorem pw_or1(ha:PT X a tA):PW X (.BoolOp .Or [a] pos) tA:=by intro wh η s σ H Q I h;refine isTrue_or (bQ (ha η s σ H Q I h) λc s1 e=>?_);cases c with|false=>exact isTrue_or_nil e|true=>exact e
theorem pw_and(ha:PT X a tA)(hb:PW X (.BoolOp .And (b::rest) pos) R5):PW X (.BoolOp .And (a::b::rest) pos) (Ts tA R5):=by intro wh η s σ H Q I h;refine isTrue_and (bQ (ha η s σ H _ I h) λc s1 ⟨H1,I1,q1⟩=>?_);cases c with|true=>exact hb wh η s1 σ H1 Q I1 q1|false=>exact⟨H1,I1,q1⟩
theorem pw_or(ha:PT X a tA)(hb:PW X (.BoolOp .Or (b::rest) pos) R5):PW X (.BoolOp .Or (a::b::rest) pos) (tOr tA R5):=by intro wh η s σ H Q I h;refine isTrue_or (bQ (ha η s σ H _ I h) λc s1 ⟨H1,I1,q1⟩=>?_);cases c with|true=>exact⟨H1,I1,q1⟩|false=>exact hb wh η s1 σ H1 Q I1 q1
theorem Lh(ha:PT X a tA):PT X (.UnaryOp .Not a pos) (Tu tA):=by intro η s σ H Q I h;exact isTrue_not (bQ (ha η s σ H (λc H1=>Q (!c) H1) I h) λc s1 ⟨H1,I1,q⟩=>⟨H1,I1,q⟩)
noncomputable def OH(ta tb:TE):TE:=λσ H Q=>ta σ H λx H1=>∃c,x=.bl c/\if c=Λ then tb σ H1 Q else Q (.bl Ξ) H1
noncomputable def Tv(ta tb:TE):TE:=λσ H Q=>ta σ H λx H1=>∃c,x=.bl c/\if c=Λ then Q (.bl Λ) H1 else tb σ H1 Q
theorem EU{op}(h:PE X a t):PE X (.BoolOp op [a] pos) t:=λη s σ H Q I hw=>BoolOp_one (h η s σ H Q I hw)
theorem Li(ha:PE X a ta)(hb:PE X (.BoolOp .And (b::rest) pos) tb):PE X (.BoolOp .And (a::b::rest) pos) (OH ta tb):=by intro η s σ H Q I h;refine BoolOp_and (bQ (ha η s σ H _ I h) λv s1 ⟨x,H1,I1,r1,q1⟩=>?_);obtain⟨c,rfl,q1⟩:=q1;cases r1;refine Yv ?_;cases c with|true=>exact hb η s1 σ H1 Q I1 q1|false=>exact⟨.bl Ξ,H1,I1,rfl,q1⟩
theorem OI(ha:PE X a ta)(hb:PE X (.BoolOp .Or (b::rest) pos) tb):PE X (.BoolOp .Or (a::b::rest) pos) (Tv ta tb):=by intro η s σ H Q I h;refine BoolOp_or (bQ (ha η s σ H _ I h) λv s1 ⟨x,H1,I1,r1,q1⟩=>?_);obtain⟨c,rfl,q1⟩:=q1;cases r1;refine Yv ?_;cases c with|false=>exact hb η s1 σ H1 Q I1 q1|true=>exact⟨.bl Λ,H1,I1,rfl,q1⟩
noncomputable def tIf(t:TT)(ta tb:TE):TE:=λσ H Q=>t σ H λc H1=>if c=Λ then ta σ H1 Q else tb σ H1 Q
theorem EV(hc:PT X c tA)(ha:PE X a ta)(hb:PE X b tb):PE X (.IfExp c a b pos) (tIf tA ta tb):=by intro η s σ H Q I h;refine wpAny_IfExp (bQ (hc η s σ H _ I h) λd s1 ⟨H1,I1,q1⟩=>?_);cases d with|true=>exact ha η s1 σ H1 Q I1 q1|false=>exact hb η s1 σ H1 Q I1 q1
end
def ke(K:WO)(H:Hp)(a:Addr)(xs:List V):Prop:=
 Rd H a (.lst xs)\/
  ∃(o:Obj) (its:Array Value) (n:Nat),K.lookup a=Δ o/\o.cls=.type "list"/\o.dict=Θ/\o.data=.seq its n/\its.size<=W8/\aO xs its.toList
def fK(K:WO)(H:Hp)(a:Addr)(xs:List V):Prop:=
 Rd H a (.tup xs)\/
  ∃(o:Obj) (its:Array Value) (n:Nat),K.lookup a=Δ o/\o.cls=.type "tuple"/\o.data=.seq its n/\its.size<=W8/\aO xs its.toList
noncomputable def Tw:Value->Option V
 |.none=>Δ .bz|.bool b=>Δ (.bl b)|.int i _=>Δ (.int i)|.str x _=>Δ (.str x)|.bytes b _=>Δ (.N2 b)|.float b _=>Δ (.La b)|.ref a=>Δ (.ref a)|.type n=>Δ (.ty n)|_=>Θ
theorem RelV.abs(r:RelV x u):Tw u=Δ x:=by cases x with|bz=>cases r;rfl|bl _=>cases r;rfl|int _=>obtain⟨t,rfl⟩:=r;rfl|str _=>obtain⟨t,rfl⟩:=r;rfl|N2 _=>obtain⟨t,rfl⟩:=r;rfl|La _=>obtain⟨t,rfl⟩:=r;rfl|ref _=>cases r;rfl|ty _=>cases r;rfl
theorem RelV.inj(r:RelV x u)(q:RelV y u):x=y:=Xj (r.abs.symm.trans q.abs)
theorem aO.inj:∀{xs ys} {us},aO xs us->aO ys us->xs=ys
 |_,_,_,.nil,.nil=>rfl|_,_,_,.cons r t,.cons r' t'=>by rw[r.inj r',aO.inj t t']
section
variable{X:Cx}{η:List (Addr×Obj)}{σ:St}{H:Hp}{s:WU}{a:Addr}{xs ys:List V}
theorem fK.of{K:WO}(h:H a=Δ (.tup xs)):fK K H a xs:=.inl (.inl h)
theorem Inv.list(I:Inv X η σ H s)(h:ke X.K H a xs):∃its,aO xs its/\PlainL s.heap a its.toArray/\xs.length<=W8:=by
 rcases h with h|⟨o,its,n,hk,hc,hd,hs,hz,r⟩;·obtain⟨z,its,n,r,e⟩:=h.ok I.aK;exact⟨its,r,⟨_,n,e,rfl,rfl,rfl⟩,z⟩
 ·refine⟨its.toList,r,⟨o,n,I.nv a o hk,hc,hd,by simpa using hs⟩,?_⟩;have e:=r.length;simp only[Zr] at e
  lia
theorem Inv.tuple(I:Inv X η σ H s)(h:fK X.K H a xs):∃its,aO xs its/\IsTup s.heap a its.toArray/\xs.length<=W8:=by
 rcases h with h|⟨o,its,n,hk,hc,hs,hz,r⟩;·obtain⟨z,its,r,p⟩:=h.ok I.aK;exact⟨its,r,p,z⟩
 ·refine⟨its.toList,r,⟨o,I.nv a o hk,hc,n,by simpa using hs⟩,?_⟩;have e:=r.length;simp only[Zr] at e
  lia
theorem Inv.yD(I:Inv X η σ H s)(h:ke X.K H a xs)(h':ke X.K H a ys):xs=ys:=by
 obtain⟨its,r,⟨o,n,e,_,_,d⟩,_⟩:=I.list h;obtain⟨its',r',⟨o',n',e',_,_,d'⟩,_⟩:=I.list h';rw[e] at e';cases e';rw[d] at d';injection d' with d1 _;have:its=its':=by simpa using congrArg Array.toList d1
 subst this;exact r.inj r'
theorem Inv.vT(I:Inv X η σ H s)(h:fK X.K H a xs)(h':fK X.K H a ys):xs=ys:=by
 obtain⟨its,r,⟨o,e,_,n,d⟩,_⟩:=I.tuple h;obtain⟨its',r',⟨o',e',_,n',d'⟩,_⟩:=I.tuple h';rw[e] at e';cases e';rw[d] at d';injection d' with d1 _;have:its=its':=by simpa using congrArg Array.toList d1
 subst this;exact r.inj r'
end
abbrev Cx.sk(X:Cx)(E:Value->WU->Prop):Cx:={X with xe:=E}
abbrev Cx.EH(X:Cx):Cx:=X.sk λ_ _=>False
theorem Cx.Ok.sk{X:Cx}(ok:X.Ok)E:(X.sk E).Ok:=
 ⟨ok.mod,ok.kind,ok.glob,ok.blt,ok.above,ok.inj,ok.has,ok.Lf,ok.hd,ok.frames,ok.OD,ok.Tn,ok.bs,ok.EE,ok.Dh,ok.EL,ok.mB,ok.HJ⟩
theorem Cx.Ok.jB{X:Cx}(ok:(X.sk E).Ok):X.Ok:=
 ⟨ok.mod,ok.kind,ok.glob,ok.blt,ok.above,ok.inj,ok.has,ok.Lf,ok.hd,ok.frames,ok.OD,ok.Tn,ok.bs,ok.EE,ok.Dh,ok.EL,ok.mB,ok.HJ⟩
section
variable{X:Cx}{η:List (Addr×Obj)}{σ:St}{H:Hp}{s:WU}{E:Value->WU->Prop}
theorem Inv.sk(I:Inv X η σ H s)E:Inv (X.sk E) η σ H s:=⟨I.ok.sk E,I.os,I.bare,I.base,I.loc,I.cell,I.free,I.jY,I.pin,I.aK,I.len⟩
theorem Inv.jB(I:Inv (X.sk E) η σ H s):Inv X η σ H s:=⟨I.ok.jB,I.os,I.bare,I.base,I.loc,I.cell,I.free,I.jY,I.pin,I.aK,I.len⟩
theorem SP.jB(h:SP (X.sk E) η D f s'):SP X η D f s':=by cases f with|next=>obtain⟨cT,H',I,q⟩:=h;exact⟨cT,H',I.jB,q⟩|brk=>obtain⟨cT,H',I,q⟩:=h;exact⟨cT,H',I.jB,q⟩|cont=>obtain⟨cT,H',I,q⟩:=h;exact⟨cT,H',I.jB,q⟩|ret u=>obtain⟨v,cT,H',I,r,q⟩:=h;exact⟨v,cT,H',I.jB,r,q⟩
theorem PE.EH(h:PE X.EH e t):PE X e t:=λη s σ H Q I hw=>Yh (h η s σ H Q (I.sk _) hw) (λ_ _ ⟨v,H',I',r,q⟩=>⟨v,H',I'.jB,r,q⟩) λ_ _ z=>XT z
theorem mC.EH{st:List Stmt}(h:mC X.EH st t):mC X st t:=λη s σ H D I hw=>Yh (h η s σ H D (I.sk _) hw) (λ_ _ q=>q.jB) λ_ _ z=>XT z
end
section
variable{X:Cx}{st:Stmt}{rest:List Stmt}{t u:TS}{e:Expr}{te:TE}{pos:Pos}
def OJ:TS:=λD σ H=>D.nx σ H
def Tx(t u:TS):TS:=λD σ H=>t {D with nx:=u D} σ H
theorem HN:mC X [] OJ:=λ_ _ σ H _ I h=>abu ⟨σ,H,I,h⟩
theorem EW(h1:PS X st t)(h2:mC X rest u):mC X (st::rest) (Tx t u):=by intro η s σ H D I h;refine wpAny_execs_cons (bQ (h1 η s σ H {D with nx:=u D} I h) λf s1 q=>?_);cases f with|next=>obtain⟨cT,H',I',q⟩:=q;exact h2 η s1 cT H' D I' q|ret v=>exact q|brk=>exact q|cont=>exact q
theorem Inv.quiet(I:Inv X η σ H s):interactive X.env=Ξ:=by simp[interactive,I.ok.kind]
def OK(te:TE):TS:=λD σ H=>te σ H λ_ H1=>D.nx σ H1
theorem Cf(he:PE X e te)(hs:ZN e Θ pos.line X.env=pure Ξ:=by rfl):PS X (.Expr e pos) (OK te):=by intro η s σ H D I h;exact wpAny_Expr_any (bQ (he η s σ H _ I h) λv s1 ⟨x,H1,I1,r1,q1⟩=>⟨σ,H1,I1,q1⟩) I.quiet hs
def Tz(te:TE):TS:=λD σ H=>te σ H D.rt
theorem Lj(he:PE X e te):PS X (.Return (Δ e) pos) (Tz te):=by intro η s σ H D I h;exact wpAny_Return_some (bQ (he η s σ H _ I h) λv s1 ⟨x,H1,I1,r1,q1⟩=>⟨x,σ,H1,I1,r1,q1⟩)
def OL:TS:=λD _ H=>D.rt .bz H
theorem HP:PS X (.Return Θ pos) OL:=λ_ _ σ H _ I h=>wpAny_Return_none ⟨.bz,σ,H,I,rfl,h⟩
noncomputable def TB(c:TT)(t u:TS):TS:=λD σ H=>c σ H λb H1=>if b=Λ then t D σ H1 else u D σ H1
theorem OM(hc:PT X c tc)(ha:mC X a t)(hb:mC X b u):PS X (.If c a b pos) (TB tc t u):=by intro η s σ H D I h;refine wpAny_If (bQ (hc η s σ H _ I h) λd s1 ⟨H1,I1,q1⟩=>?_);cases d with|true=>exact ha η s1 σ H1 D I1 q1|false=>exact hb η s1 σ H1 D I1 q1
end
abbrev TG:=V->St->Hp->(St->Hp->Prop)->Prop
abbrev ON:=List V->St->Hp->(St->Hp->Prop)->Prop
def PG(X:Cx)(target:Expr)(t:TG):Prop:=
 ∀(η:List (Addr×Obj)) (s:WU) (σ:St) (H:Hp) (v:V) (u:Value) (Q:St->Hp->Prop),Inv X η σ H s->RelV v u->t v σ H Q->
  wpAny (model X.prog X.w) X.A (acm target X.env u) (λ_ s'=>∃cT H',Inv X η cT H' s'/\Q cT H') X.xe s
noncomputable def R6(X:Cx)(ts:List Expr)(t:ON):Prop:=
 ∀(η:List (Addr×Obj)) (s:WU) (σ:St) (H:Hp) (vs:List V) (us:List Value) (Q:St->Hp->Prop),Inv X η σ H s->aO vs us->t vs σ H Q->
  wpAny (model X.prog X.w) X.A (assignInOrder ((abp ts X.env).map (·.2)) us) (λ_ s'=>∃cT H',Inv X η cT H' s'/\Q cT H') X.xe s
abbrev OO:=V->V->V->Hp->(Hp->Prop)->Prop
def Dj(X:Cx)(t:OO):Prop:=
 ∀(η:List (Addr×Obj)) (s:WU) (σ:St) (H:Hp) (o i v:V) (ov iv u:Value) (Q:Hp->Prop),Inv X η σ H s->RelV o ov->RelV i iv->RelV v u->t o i v H Q->
  wpAny (model X.prog X.w) X.A (setItem ov iv u) (λ_ s'=>∃H',Inv X η σ H' s'/\Q H') X.xe s
section
variable{X:Cx}{pos:Pos}
def nC(i:Nat):TG:=λv σ H Q=>Q (σ.set i (Δ v)) H
theorem cH(hN:X.N.Nodup)(hi:X.N[i]?=Δ x)(hx:Loc X.env.scope x)(hf:X.fn x=Λ\/X.env.scope.names.lookup x=Δ .local:=by first|exact .inl rfl|exact .inr rfl|assumption):PG X (.Name x pos) (nC i):=by intro η s σ H v u Q I r h;exact wpAny_assign_Name (nz I hN hi hx r (λs' I'=>⟨_,H,I',h⟩) hf)
def OP:ON:=λvs σ H Q=>vs=[]/\Q σ H
noncomputable def EX(t:TG)(u:ON):ON:=λvs σ H Q=>∃v r,vs=v::r/\t v σ H λcT H'=>u r cT H' Q
theorem nE:R6 X [] OP:=by intro η s σ H vs us Q I r h;obtain⟨e,h⟩:=h;subst e;cases r;exact assignInOrder_nil ⟨σ,H,I,h⟩
theorem dQ(h1:PG X e t)(h2:R6 X es u)(hs:(abp (e::es) X.env).map (·.2)=acm e X.env::(abp es X.env).map (·.2):=by rfl):R6 X (e::es) (EX t u):=by intro η s σ H vs us Q I r h;obtain⟨v,vr,e1,h⟩:=h;subst e1;cases r with|cons r rr=>rw[hs];refine assignInOrder_cons (bQ (h1 η s σ H _ _ _ I r h) λ_ s1 ⟨N4,H1,I1,q1⟩=>?_);exact h2 η s1 N4 H1 _ _ Q I1 rr q1
def OQ(K:WO)(n:Nat)(t:ON):TG:=λv σ H Q=>∃a xs,v=.ref a/\fK K H a xs/\xs.length=n/\t xs σ H Q
theorem so(hc:X.calm=Λ)(h:R6 X es t)(hn:(abp es X.env).length=n:=by rfl)(oM:(abp es X.env).findIdx? (·.1)=Θ:=by rfl):PG X (.Tuple es k pos) (OQ X.K n t):=by intro η s σ H v u Q I r hw;obtain⟨a,xs,e1,hq,hl,hw⟩:=hw;subst e1;cases r;obtain⟨its,rv,ht,hz⟩:=I.tuple hq;refine assign_Tuple_tuple (I.ok.hd hc) ht (by simp[hn,<-hl,rv.length]) oM λh' hx=>?_;have I1:Inv X η σ H {s with heap:=h'}:=I.kept (t':=s.toks) λb o e=>hx b o (W9 (WV e)) e;exact h η _ σ H xs _ Q I1 (by simpa using rv) hw
noncomputable def TC(te:TE)(g:TG):TS:=λD σ H=>te σ H λx H1=>g x σ H1 D.nx
theorem EY(hN:X.N.Nodup)(hi:X.N[i]?=Δ x)(hx:Loc X.env.scope x)(he:PE X e te)(hs:ZN e (Δ (.Name x pos')) pos.line X.env=pure Ξ:=by rfl)(hf:X.fn x=Λ\/X.env.scope.names.lookup x=Δ .local:=by first|exact .inl rfl|exact .inr rfl|assumption):
  PS X (.Assign [.Name x pos'] e pos) (TC te (nC i)):=by
 intro η s σ H D I h;refine wpAny_Assign_Name (bQ (he η s σ H _ I h) λv s1 ⟨y,H1,I1,r1,q1⟩=>?_) hs;exact nz I1 hN hi hx r1 (λs2 I2=>⟨_,H1,I2,q1⟩) hf
end
section
variable{X:Cx}{pos:Pos}
noncomputable def Lk(c:TT)(tb:TS):TS:=λD σ H=>∃W:Nat->St->Hp->Prop,(∃m,W m σ H)/\∀m σ H,W m σ H->
 c σ H λb H1=>if b=Λ then ∃N:St->Hp->Prop,(∀cT H',N cT H'->∃m',m' < m/\W m' cT H')/\tb {D with nx:=N,ct:=N,bk:=D.nx} σ H1 else D.nx σ H1
theorem EZ(hp:PassesOwn (model X.prog X.w) X.A X.env X.xe)(hc:PT X c tc)(hb:mC X body tb):PS X (.While c body [] pos) (Lk tc tb):=by
 intro η s σ H D I h;obtain⟨W,⟨m0,w0⟩,turn⟩:=h;refine wpAny_While (codeAny_whileLoop (λn s'=>∃cT H',Inv X η cT H' s'/\W n cT H') ?_ m0 ⟨σ,H,I,w0⟩);rintro n s1 ⟨N4,H1,I1,w1⟩;refine Y9 hp (bQ (hc η s1 N4 H1 _ I1 (turn n N4 H1 w1)) λb s2 ⟨H2,I2,q2⟩=>?_);cases b with
 |true=>obtain⟨N,hN,q2⟩:=q2;rw[if_pos rfl];refine Y9 hp (bQ (hb η s2 N4 H2 _ I2 q2) λf s3 q3=>?_);cases f with|next=>obtain⟨E1,H3,I3,n3⟩:=q3;obtain⟨m',hm,w3⟩:=hN E1 H3 n3;exact⟨m',hm,E1,H3,I3,w3⟩|cont=>obtain⟨E1,H3,I3,n3⟩:=q3;obtain⟨m',hm,w3⟩:=hN E1 H3 n3;exact⟨m',hm,E1,H3,I3,w3⟩|brk=>exact q3|ret v=>exact q3
 |false=>rw[if_neg Xw];exact abu ⟨N4,H2,I2,q2⟩
end
structure It where
 go:Nat->Hp->Prop
 OR:Nat->Hp->V->Hp->Prop
 stop:Nat->Hp->Prop
noncomputable def mE(X:Cx)(η:List (Addr×Obj))(H:Hp)(b:Addr):Prop:=
 H b=Θ/\b≠X.env.locals/\b∉X.fs/\(b∈X.ex\/X.gO.heap.objs.size<=b)/\(∀x c,X.env.cells.lookup x=Δ c->c≠b)/\∀p∈X.pn++η,p.1≠b
theorem Inv.u6(I:Inv X η σ H s)(hb:s.heap.objs.size<=b)(hn:H' b=Θ):mE X η H' b:=by
 refine⟨hn,XI (W7 I.lt hb),I.To hb,.inr (Xo I.sz hb),λx c e z=>?_,λp hp z=>?_⟩;·obtain⟨v,q⟩:=I.cell x c e;exact absurd (W7 q.lt (by rw[z];exact hb)) (Yu _)
 ·exact absurd (W7 (WV (I.pin p hp).1) (by rw[z];exact hb)) (Yu _)
structure Turn(P:Xy)(w:World)(K:WO)(tg:Expr)(J:It)(fp:List Addr)(it:Addr)(tn:Nat->Heap->Prop):Prop where
 mem:it∈fp
 obj:∀i h,tn i h->∀b∈fp,∃o,h.get? b=Δ o/\∀v,o.data≠.cell v
 keep:∀i h h',tn i h->(∀b∈fp,∀o,h.get? b=Δ o->h'.get? b=Δ o)->tn i h'
 item:∀(X:Cx),X.prog=P->X.w=w->X.K=K->X.calm=Λ->∀(i:Nat) (η:List (Addr×Obj)) (s:WU) (σ:St) (H:Hp) (E:Value->WU->Prop),Inv X η σ H s->(∀b∈fp,mE X η H b)->tn i s.heap->J.go i H->
  wpAny (model P w) X.A (aa8 (.ref it)) (λr s1=>∃u,r=Δ u/\
   wpAny (model P w) X.A (aaM tg (.ref it) u) (λ_ s2=>∃x H',Inv X η σ H' s2/\RelV x u/\J.OR i H x H'/\tn (i+1) s2.heap/\∀b∈fp,H' b=Θ) E s1) E s
 done:∀(X:Cx),X.prog=P->X.w=w->X.K=K->X.calm=Λ->∀(i:Nat) (η:List (Addr×Obj)) (s:WU) (σ:St) (H:Hp) (E:Value->WU->Prop),Inv X η σ H s->(∀b∈fp,mE X η H b)->tn i s.heap->J.stop i H->
  wpAny (model P w) X.A (aa8 (.ref it)) (λr s1=>r=Θ/\Inv X η σ H s1) E s
 self:∀(A:Yc) (i:Nat) (s:WU) (Q:Value->WU->Prop) (E:Value->WU->Prop),tn i s.heap->Q (.ref it) s->wpAny (model P w) A (aco (.ref it)) Q E s
abbrev TI:=St->Hp->(It->Hp->Prop)->Prop
def TF(X:Cx)(η:List (Addr×Obj))(σ:St)(tg:Expr)(R:It->Hp->Prop)(R7:Value)(s2:WU):Prop:=
 ∃(it:Addr) (fp:List Addr) (tn:Nat->Heap->Prop) (J:It) (H':Hp),R7=.ref it/\Inv X η σ H' s2/\Turn X.prog X.w X.K tg J fp it tn/\tn 0 s2.heap/\(∀b∈fp,mE X η H' b)/\R J H'
def PI(X:Cx)(tg iter:Expr)(wi:TI):Prop:=
 ∀(η:List (Addr×Obj)) (s:WU) (σ:St) (H:Hp) (R:It->Hp->Prop),Inv X η σ H s->wi σ H R->
  wpAny (model X.prog X.w) X.A (eval iter X.env) (λv s1=>wpAny (model X.prog X.w) X.A (aco v) (TF X η σ tg R) X.xe s1) X.xe s
theorem Cg(ho:s.heap.get? it=Δ o)(hc:o.cls=.type n)(hd:o.data=.fields vs)(hn:["enumerate","zip","dict_itemiterator","dict_reverseitemiterator","odict_iterator","itertools.zip_longest","itertools.pairwise"].contains n=Ξ)(hQ:Q () s):wpAny M A (aaM tg (.ref it) u) Q E s:=by
 unfold aaM;cases tg<;>first
  |exact W0 hQ
  |(cases u<;>first
    |exact W0 hQ
    |(refine WD (wpAny_load ho ?_)
      rw[hc,hd];show wpAny M A (if(["enumerate","zip","dict_itemiterator","dict_reverseitemiterator","odict_iterator","itertools.zip_longest","itertools.pairwise"].contains n&&vs[0]?==Δ (YK _))=Λ then _ else _) Q E s;rw[if_neg (by intro h;rw[hn,Bool.false_and] at h;cases h)];exact W0 hQ))
def TH(K:WO)(a:Addr):It:=
 ⟨λi H=>∃xs x,ke K H a xs/\xs[i]?=Δ x,λi H x H'=>H'=H/\∀xs,ke K H a xs->xs[i]?=Δ x,λi H=>∃xs,ke K H a xs/\xs.length<=i⟩
def TJ(K:WO)(a:Addr):It:=
 ⟨λi H=>∃xs x,fK K H a xs/\xs[i]?=Δ x,λi H x H'=>H'=H/\∀xs,fK K H a xs->xs[i]?=Δ x,λi H=>∃xs,fK K H a xs/\xs.length<=i⟩
noncomputable def Ll(lo:Int)(n:Nat):It:=⟨λi _=>i < n,λi H x H'=>H'=H/\x=.int (lo+i),λi _=>n<=i⟩
theorem Dk{P:Xy}{w:World}{K:WO}{tg:Expr}(a it:Addr):Turn P w K tg (TH K a) [it] it (λi h=>h.IsListIter it a i) where
 mem:=by simp
 obj:=λi h st b hb=>by
  have e:b=it:=by simpa using hb
  subst e;obtain⟨o,e,c,d⟩:=st;exact⟨o,e,λv z=>by rw[d] at z;cases z⟩
 keep:=λi h h' st k=>st.at λo e=>k it (by simp) o e
 item:=by intro X hP hw hK hc i η s σ H E I hf st hg;subst hP hw hK;obtain⟨xs,x,hq,hx⟩:=hg;obtain⟨its,rv,p,hz⟩:=I.list hq;obtain⟨u,hu,ru⟩:=rv.get hx;obtain⟨f0,f1,f2,f3,f4,f5⟩:=hf it (by simp);refine wpAny_pyNext_list_item st p.isList (x:=u) (by simpa using hu) λh' aJ sb=>?_;have I1:Inv X η σ H {s with heap:=h'}:=I.turned (t':=s.toks) (λb o hb e=>(sb.2 b hb).trans e) f0 f1 f3 f4 f5;obtain⟨o,e,c,d⟩:=id aJ;exact⟨u,rfl,Cg (s:={s with heap:=h'}) e c d (by decide) ⟨x,H,I1,ru,⟨rfl,λys hy=>by rw[I.yD hy hq];exact hx⟩,aJ,λb hb=>(hf b hb).1⟩⟩
 done:=by intro X hP hw hK hc i η s σ H E I hf st hg;subst hP hw hK;obtain⟨xs,hq,hx⟩:=hg;obtain⟨its,rv,p,hz⟩:=I.list hq;obtain⟨f0,f1,f2,f3,f4,f5⟩:=hf it (by simp);have hl:=rv.length;exact wpAny_pyNext_list_end (I.ok.hd hc) st p.isList (by simp;lia) λh' eb=>⟨rfl,I.turned (t':=s.toks) (λb o hb e=>eb b o hb e) f0 f1 f3 f4 f5⟩
 self:=λ_ _ _ _ _ st h=>wpAny_pyIter_listiter st h
theorem AY{P:Xy}{w:World}{K:WO}{tg:Expr}(a it:Addr):Turn P w K tg (TJ K a) [it] it (λi h=>h.IsTupleIter it a i) where
 mem:=by simp
 obj:=λi h st b hb=>by
  have e:b=it:=by simpa using hb
  subst e;obtain⟨o,e,c,d⟩:=st;exact⟨o,e,λv z=>by rw[d] at z;cases z⟩
 keep:=λi h h' st k=>st.at λo e=>k it (by simp) o e
 item:=by intro X hP hw hK hc i η s σ H E I hf st hg;subst hP hw hK;obtain⟨xs,x,hq,hx⟩:=hg;obtain⟨its,rv,p,hz⟩:=I.tuple hq;obtain⟨u,hu,ru⟩:=rv.get hx;obtain⟨f0,f1,f2,f3,f4,f5⟩:=hf it (by simp);refine wpAny_pyNext_tuple_item st (show s.heap.IsTuple a its.toArray from p) (x:=u) (by simpa using hu) λh' aJ sb=>?_;have I1:Inv X η σ H {s with heap:=h'}:=I.turned (t':=s.toks) (λb o hb e=>(sb.2 b hb).trans e) f0 f1 f3 f4 f5;obtain⟨o,e,c,d⟩:=id aJ;exact⟨u,rfl,Cg (s:={s with heap:=h'}) e c d (by decide) ⟨x,H,I1,ru,⟨rfl,λys hy=>by rw[I.vT hy hq];exact hx⟩,aJ,λb hb=>(hf b hb).1⟩⟩
 done:=by intro X hP hw hK hc i η s σ H E I hf st hg;subst hP hw hK;obtain⟨xs,hq,hx⟩:=hg;obtain⟨its,rv,p,hz⟩:=I.tuple hq;obtain⟨f0,f1,f2,f3,f4,f5⟩:=hf it (by simp);have hl:=rv.length;exact wpAny_pyNext_tuple_end (I.ok.hd hc) st (show s.heap.IsTuple a its.toArray from p) (by simp;lia) λh' eb=>⟨rfl,I.turned (t':=s.toks) (λb o hb e=>eb b o hb e) f0 f1 f3 f4 f5⟩
 self:=λ_ _ _ _ _ st h=>wpAny_pyIter_tupleiter st h
theorem AZ{P:Xy}{w:World}{K:WO}{tg:Expr}(it:Addr)(lo:Int)(n:Nat):Turn P w K tg (Ll lo n) [it] it (λi h=>abK h it (lo+(i:Nat)*1) ((n:Int) - (i:Nat)) 1) where
 mem:=by simp
 obj:=λi h st b hb=>by
  have e:b=it:=by simpa using hb
  subst e;exact⟨_,st,λv z=>by have z':Data.fields _=Data.cell v:=z;cases z'⟩
 keep:=λi h h' st k=>k it (by simp) _ st
 item:=by intro X hP hw hK hc i η s σ H E I hf st hg;subst hP hw hK;obtain⟨f0,f1,f2,f3,f4,f5⟩:=hf it (by simp);have W:=Walks.range (prog:=X.prog) (w:=X.w) (I.ok.hd hc) it lo 1 n;refine W.item i s _ _ hg st λv h' tk hv aJ kk=>?_;obtain⟨t,rfl⟩:=hv;have I1:Inv X η σ H {s with heap:=h',toks:=tk}:=I.turned (λb o hb e=>kk b o (by simpa using hb) e) f0 f1 f3 f4 f5;refine⟨_,rfl,Cg (s:={s with heap:=h',toks:=tk}) (n:="range_iterator") aJ rfl rfl (by decide) ⟨.int (lo+i),H,I1,⟨t,?_⟩,⟨rfl,rfl⟩,aJ,λb hb=>(hf b hb).1⟩⟩;rw[Int.mul_one]
 done:=by intro X hP hw hK hc i η s σ H E I hf st hg;subst hP hw hK;obtain⟨f0,f1,f2,f3,f4,f5⟩:=hf it (by simp);exact wpAny_pyNext_range_end (I.ok.hd hc) st (by have:n<=i:=hg;lia) λh' eb=>⟨rfl,I.turned (t':=s.toks) (λb o hb e=>eb b o hb e) f0 f1 f3 f4 f5⟩
 self:=λ_ _ _ _ _ st h=>wpAny_pyIter_rangeiter st h
section
variable{X:Cx}{tg:Expr}
def Ke(K:WO)(tl:TE):TI:=λσ H R=>tl σ H λx H1=>∃a,x=.ref a/\(∃xs,ke K H1 a xs)/\R (TH K a) H1
def TK(K:WO)(tl:TE):TI:=λσ H R=>tl σ H λx H1=>∃a,x=.ref a/\(∃xs,fK K H1 a xs)/\R (TJ K a) H1
theorem rM(hl:PE X l tl):PI X tg l (Ke X.K tl):=by
 intro η s σ H R I h;refine bQ (hl η s σ H _ I h) λv s1 ⟨x,H1,I1,r1,q1⟩=>?_;obtain⟨a,e,⟨xs,hq⟩,q⟩:=q1;subst e;cases r1;obtain⟨its,rv,p,hz⟩:=I1.list hq;refine wpAny_pyIter_list p.isList ?_;refine⟨s1.heap.objs.size,[s1.heap.objs.size],_,_,H1,rfl,I1.kept (t':=s1.toks) λb o e=>WA _ e,Dk a _,⟨_,WR _ rfl,rfl,rfl⟩,λb hb=>?_,q⟩;have e:b=s1.heap.objs.size:=by simpa using hb
 subst e;exact I1.u6 (WM _) (I1.aK.fresh (WM _))
theorem Lm(hl:PE X l tl):PI X tg l (TK X.K tl):=by
 intro η s σ H R I h;refine bQ (hl η s σ H _ I h) λv s1 ⟨x,H1,I1,r1,q1⟩=>?_;obtain⟨a,e,⟨xs,hq⟩,q⟩:=q1;subst e;cases r1;obtain⟨its,rv,p,hz⟩:=I1.tuple hq;refine Y3 (show s1.heap.IsTuple a its.toArray from p) ?_;refine⟨s1.heap.objs.size,[s1.heap.objs.size],_,_,H1,rfl,I1.kept (t':=s1.toks) λb o e=>WA _ e,AY a _,⟨_,WR _ rfl,rfl,rfl⟩,λb hb=>?_,q⟩;have e:b=s1.heap.objs.size:=by simpa using hb
 subst e;exact I1.u6 (WM _) (I1.aK.fresh (WM _))
theorem yE{lo hi:Int}(I:Inv X η σ H s)(h1: -(2 ^ 62)<=lo)(h2:lo < 2 ^ 62)(h3: -(2 ^ 62)<=hi)(h4:hi < 2 ^ 62)(q:R (Ll lo (hi - lo).toNat) H):wpAny (model X.prog X.w) X.A (aco (.ref s.heap.objs.size)) (TF X η σ tg R) E {s with heap:=s.heap.push {cls:=.type "range",data:=.fields #[.int lo t,.int hi u,.int 1 v]},toks:=tk}:=by
 refine wpAny_pyIter_range (IsRange.new ..) (small_one h1 h2 h3 h4) ?_;have I1:Inv X η σ H {s with heap:=s.heap.push {cls:=.type "range",data:=.fields #[.int lo t,.int hi u,.int 1 v]},toks:=tk}:=I.kept λb o e=>WA _ e;refine⟨(s.heap.push {cls:=.type "range",data:=.fields #[.int lo t,.int hi u,.int 1 v]}).objs.size,[(s.heap.push {cls:=.type "range",data:=.fields #[.int lo t,.int hi u,.int 1 v]}).objs.size],_,_,H,rfl,
  I1.kept (t':=tk) λb o e=>WA _ e,AZ _ lo (hi - lo).toNat,?_,λb hb=>?_,q⟩
 ·have e1:lo+((0:Nat):Int)*1=lo:=by simp
  have e2:(((hi - lo).toNat:Nat):Int) - ((0:Nat):Int)=Zw lo hi 1:=by rw[rangeSize_one];split<;>lia
  show abK _ _ (lo+((0:Nat):Int)*1) ((((hi - lo).toNat:Nat):Int) - ((0:Nat):Int)) 1;rw[e1,e2];exact WR _ rfl
 ·have e:b=(s.heap.push {cls:=.type "range",data:=.fields #[.int lo t,.int hi u,.int 1 v]}).objs.size:=by simpa using hb
  subst e;exact I1.u6 (WM _) (I1.aK.fresh (WM _))
def OS(ta:TA):TI:=λσ H R=>ta σ H λvs H1=>∃j:Int,vs=[.int j]/\ -(2 ^ 62)<=j/\j < 2 ^ 62/\R (Ll 0 j.toNat) H1
def OT(ta:TA):TI:=λσ H R=>ta σ H λvs H1=>∃i j:Int,vs=[.int i,.int j]/\(-(2 ^ 62)<=i/\i < 2 ^ 62/\ -(2 ^ 62)<=j/\j < 2 ^ 62)/\R (Ll i (j - i).toNat) H1
theorem Dl(hg:Gl X "range")(hm:X.mg "range"=Θ)(ha:PA X [a] ta)(hs:Xf [a] X.env=[(Ξ,eval a X.env)]:=by rfl):PI X tg (.Call (.Name "range" p) [a] [] pos) (OS ta):=by intro η s σ H R I h;refine Call_ (ja I hg hm abW (Xx (bQ (ha pos η s σ H _ I h) λus s1 ⟨vs,H1,I1,r1,q1⟩=>?_) hs rfl));obtain⟨j,e,q1,q2,q⟩:=q1;subst e;cases r1 with|cons r rr=>cases rr;obtain⟨t,rfl⟩:=r;exact call_range_1 (yE I1 (by lia) (by lia) q1 q2 (by simpa using q))
theorem Dm(hg:Gl X "range")(hm:X.mg "range"=Θ)(ha:PA X [a,b] ta)(hs:Xf [a,b] X.env=[(Ξ,eval a X.env),(Ξ,eval b X.env)]:=by rfl)(sr:Xf [b] X.env=[(Ξ,eval b X.env)]:=by rfl):
  PI X tg (.Call (.Name "range" p) [a,b] [] pos) (OT ta):=by
 intro η s σ H R I h;refine Call_ (ja I hg hm abW (Xx (bQ (ha pos η s σ H _ I h) λus s1 ⟨vs,H1,I1,r1,q1⟩=>?_) (by rw[hs,sr]) (by rw[sr];rfl)));obtain⟨i,j,e,⟨q1,q2,q3,q4⟩,q⟩:=q1;subst e;cases r1 with|cons r rr=>cases rr with|cons r' rr=>cases rr;obtain⟨t,rfl⟩:=r;obtain⟨t',rfl⟩:=r';exact call_range_2 (yE I1 q1 q2 q3 q4 q)
noncomputable def TL(wi:TI)(g:TG)(tb:TS):TS:=λD σ H=>wi σ H λJ H1=>∃W:Nat->Nat->St->Hp->Prop,(∃m,W 0 m σ H1)/\∀i m σ H,W i m σ H->
 (J.stop i H/\D.nx σ H)\/(J.go i H/\∃N:St->Hp->Prop,(∀cT H',N cT H'->∃m',m' < m/\W (i+1) m' cT H')/\∀x H',J.OR i H x H'->g x σ H' λN5 H2=>tb {D with nx:=N,ct:=N,bk:=D.nx} N5 H2)
noncomputable def oR(fp:List Addr)(h:Heap):List (Addr×Obj):=fp.filterMap λb=>(h.get? b).map λo=>(b,o)
theorem ez(hb:b∈fp)(e:h.get? b=Δ o):(b,o)∈oR fp h:=List.mem_filterMap.mpr ⟨b,hb,by rw[e];rfl⟩
theorem Dp(hp:p∈oR fp h):p.1∈fp/\h.get? p.1=Δ p.2:=by obtain⟨b,hb,e⟩:=List.mem_filterMap.mp hp;cases q:h.get? b with|none=>rw[q] at e;cases e|some o=>rw[q] at e;have e':(b,o)=p:=Xj e;subst e';exact⟨hb,q⟩
theorem Inv.pinned(I:Inv X η σ H s)(hf:∀b∈fp,mE X η H b)(ho:∀b∈fp,∃o,s.heap.get? b=Δ o/\∀v,o.data≠.cell v):Inv X (η++oR fp s.heap) σ H s:=
 I.Ce λp hp=>(Z5.mp hp).elim (λz=>I.pin p (Xi _ z)) λz=>by obtain⟨hb,e⟩:=Dp z;obtain⟨f0,f1,f2,_⟩:=hf p.1 hb;obtain⟨o,e',d⟩:=ho p.1 hb;rw[e] at e';cases e';exact⟨e,f0,f1,f2,d⟩
theorem Inv.jh(I:Inv X (η++pl) σ H s):Inv X η σ H s:=I.Ce λp hp=>I.pin p (Xi _ (XO _ hp))
theorem xk(hp:PassesOwn (model X.prog X.w) X.A X.env X.xe)(hc:X.calm=Λ)(hi:PI X tg iter wi)(hg:PG X tg g)(hb:mC X body tb)(hs:∀x,aaY iter X.env x=pure x:=by intro _;rfl):PS X (.For tg iter body [] pos) (TL wi g tb):=by
 intro η s σ H D I h;refine wpAny_For (bQ (hi η s σ H _ I h) λv s1 h1=>bQ h1 λR7 s2 h2=>?_) hs;obtain⟨it,fp,tn,J,H2,e,I2,T,st2,f2,W,⟨m0,w0⟩,turn⟩:=h2;subst e;have su:∀{H':Hp},(∀b∈fp,H' b=Θ)->∀b∈fp,mE X η H' b:=λhn b hb=>⟨hn b hb,(f2 b hb).2⟩;refine codeAny_forLoop_any (λn s'=>∃i cT H',Inv X η cT H' s'/\tn i s'.heap/\(∀b∈fp,H' b=Θ)/\W i n cT H') ?_ m0 ⟨0,σ,H2,I2,st2,λb hb=>(f2 b hb).1,w0⟩;rintro n s3 ⟨i,E1,H3,I3,st3,fr3,w3⟩;rcases turn i n E1 H3 w3 with ⟨stop,qn⟩|⟨go,N,hN,step⟩
 ·refine Y9 hp (bQ (T.done X rfl rfl rfl hc i η s3 E1 H3 X.xe I3 (su fr3) st3 stop) λr s4 ⟨hr,I4⟩=>?_);subst hr;exact abu ⟨E1,H3,I4,qn⟩
 ·refine Y9 hp (bQ (T.item X rfl rfl rfl hc i η s3 E1 H3 X.xe I3 (su fr3) st3 go) λr s4 ⟨u,hr,h4⟩=>?_);subst hr;refine Y9 hp (bQ h4 λ_ s5 ⟨x,H5,I5,r5,y5,A0,Lo⟩=>?_);have I5':=I5.pinned (su Lo) (T.obj _ _ A0);refine Y9 hp (bQ (hg _ s5 E1 H5 x u _ I5' r5 (step x H5 y5)) λ_ s6 ⟨σ6,H6,I6,q6⟩=>?_);refine Y9 hp (bQ (hb _ s6 σ6 H6 _ I6 q6) λf s7 q7=>?_);have again:∀{E2:St} {H7:Hp},Inv X (η++oR fp s5.heap) E2 H7 s7->N E2 H7->∃m,m < n/\∃i cT H',Inv X η cT H' s7/\tn i s7.heap/\(∀b∈fp,H' b=Θ)/\W i m cT H':=λ{E2 H7} I7 n7=>by obtain⟨m',hm,w7⟩:=hN E2 H7 n7;refine⟨m',hm,i+1,E2,H7,I7.jh,T.keep _ _ _ A0 λb hb o e=>(I7.pin (b,o) (Xi _ (Xi _ (ez hb e)))).1,λb hb=>?_,w7⟩;obtain⟨o,e,d⟩:=T.obj _ _ A0 b hb;exact(I7.pin (b,o) (Xi _ (Xi _ (ez hb e)))).2.1
  cases f with|next=>obtain⟨E2,H7,I7,n7⟩:=q7;exact again I7 n7|cont=>obtain⟨E2,H7,I7,n7⟩:=q7;exact again I7 n7|brk=>obtain⟨E2,H7,I7,q7⟩:=q7;exact⟨E2,H7,I7.jh,q7⟩|ret v=>obtain⟨x7,E2,H7,I7,r7,q7⟩:=q7;exact⟨x7,E2,H7,I7.jh,r7,q7⟩
end
abbrev R2:=V->V->Hp->VK->Prop
def jZ(X:Cx)(f:Value->Value->Sem Value)(r:R2):Prop:=
 ∀(η:List (Addr×Obj)) (s:WU) (σ:St) (H:Hp) (x y:V) (v u:Value) (Q:VK),Inv X η σ H s->RelV x v->RelV y u->r x y H Q->
  wpAny (model X.prog X.w) X.A (f v u) (EP X η σ Q) X.xe s
def TM(X:Cx)(f:Value->Sem Value)(r:V->Hp->VK->Prop):Prop:=
 ∀(η:List (Addr×Obj)) (s:WU) (σ:St) (H:Hp) (x:V) (v:Value) (Q:VK),Inv X η σ H s->RelV x v->r x H Q->
  wpAny (model X.prog X.w) X.A (f v) (EP X η σ Q) X.xe s
def fL(X:Cx)(f:Value)(r:List V->Hp->VK->Prop):Prop:=
 ∀(η:List (Addr×Obj)) (s:WU) (σ:St) (H:Hp) (xs:List V) (us:List Value) (Q:VK),Inv X η σ H s->aO xs us->r xs H Q->
  wpAny (model X.prog X.w) X.A (call f us) (EP X η σ Q) X.xe s
def TN(X:Cx)(r:V->Hp->(Bool->Hp->Prop)->Prop):Prop:=
 ∀(η:List (Addr×Obj)) (s:WU) (σ:St) (H:Hp) (x:V) (v:Value) (Q:Bool->Hp->Prop),Inv X η σ H s->RelV x v->r x H Q->
  wpAny (model X.prog X.w) X.A (truthy v) (TP X η σ Q) X.xe s
noncomputable def OU(r:R2)(ta tb:TE):TE:=λσ H Q=>ta σ H λx H1=>tb σ H1 λy H2=>r x y H2 Q
noncomputable def tUn(r:V->Hp->VK->Prop)(ta:TE):TE:=λσ H Q=>ta σ H λx H1=>r x H1 Q
noncomputable def rI(C:Int->Int->Prop)(g:Int->Int->V):R2:=λx y H Q=>∃i j,x=.int i/\y=.int j/\C i j/\Q (g i j) H
noncomputable def Ci(g:Int->Int->V):R2:=λx y H Q=>∃i j,x=.int i/\y=.int j/\Q (g i j) H
noncomputable def rU(g:Int->V):V->Hp->VK->Prop:=λx H Q=>∃i,x=.int i/\Q (g i) H
section
variable{X:Cx}{a b c:Expr}{ta tb tc:TE}{pos:Pos}
theorem Lp(ha:PE X a ta)(hb:PE X b tb){R:V->V->Hp->Prop}(I:Inv X η σ H s)(h:ta σ H λx H1=>tb σ H1 λy H2=>R x y H2){f:Value->Value->Sem Value}(hf:∀v u s2 x y H2,Inv X η σ H2 s2->RelV x v->RelV y u->R x y H2->wpAny (model X.prog X.w) X.A (f v u) Q X.xe s2):
  wpAny (model X.prog X.w) X.A (eval a X.env) (λv bB=>wpAny (model X.prog X.w) X.A (eval b X.env) (λu u5=>wpAny (model X.prog X.w) X.A (f v u) Q X.xe u5) X.xe bB) X.xe s:=by
 refine bQ (ha η s σ H _ I h) λv s1 ⟨x,H1,I1,r1,q1⟩=>?_;refine bQ (hb η s1 σ H1 _ I1 q1) λu s2 ⟨y,H2,I2,r2,q2⟩=>?_;exact hf v u s2 x y H2 I2 r1 r2 q2
theorem OV(ho:jZ X (Y4 op) r)(ha:PE X a ta)(hb:PE X b tb):PE X (.BinOp a op b pos) (OU r ta tb):=by intro η s σ H Q I h;exact wpAny_BinOp (Lp ha hb I h λv u s2 x y H2 I2 rx ry q=>ho η s2 σ H2 x y v u Q I2 rx ry q)
theorem OW(ho:TM X (unaryOp op) r)(ha:PE X a ta):PE X (.UnaryOp op a pos) (tUn r ta):=by intro η s σ H Q I h;exact UnaryOp_ (bQ (ha η s σ H _ I h) λv s1 ⟨x,H1,I1,r1,q1⟩=>ho η s1 σ H1 x v Q I1 r1 q1)
theorem mF{g:Int->Int->Int}(rule:∀(i j:Int) (t u:Tok) (s:WU) (Q:Value->WU->Prop) (E:Value->WU->Prop),C i j->Q (.int (g i j) s.toks) {s with toks:=s.toks+1}->wpAny (model X.prog X.w) X.A (f (.int i t) (.int j u)) Q E s):
  jZ X f (rI C λi j=>.int (g i j)):=by
 intro η s σ H x y v u Q I rx ry h;obtain⟨i,j,rfl,rfl,hc,q⟩:=h;obtain⟨t,rfl⟩:=rx;obtain⟨t',rfl⟩:=ry;exact rule i j t t' s _ _ hc ⟨.int (g i j),H,I.tok _,⟨_,rfl⟩,q⟩
theorem OX{g:Int->Int->Int}(rule:∀(i j:Int) (t u:Tok) (s:WU) (Q:Value->WU->Prop) (E:Value->WU->Prop),Q (.int (g i j) s.toks) {s with toks:=s.toks+1}->wpAny (model X.prog X.w) X.A (f (.int i t) (.int j u)) Q E s):
  jZ X f (Ci λi j=>.int (g i j)):=by
 intro η s σ H x y v u Q I rx ry h;obtain⟨i,j,rfl,rfl,q⟩:=h;obtain⟨t,rfl⟩:=rx;obtain⟨t',rfl⟩:=ry;exact rule i j t t' s _ _ ⟨.int (g i j),H,I.tok _,⟨_,rfl⟩,q⟩
theorem HQ{g:Int->Int->Bool}(rule:∀(i j:Int) (t u:Tok) (s:WU) (Q:Value->WU->Prop) (E:Value->WU->Prop),Q (.bool (g i j)) s->wpAny (model X.prog X.w) X.A (f (.int i t) (.int j u)) Q E s):
  jZ X f (Ci λi j=>.bl (g i j)):=by
 intro η s σ H x y v u Q I rx ry h;obtain⟨i,j,rfl,rfl,q⟩:=h;obtain⟨t,rfl⟩:=rx;obtain⟨t',rfl⟩:=ry;exact rule i j t t' s _ _ ⟨.bl (g i j),H,I,rfl,q⟩
def TQ(i j:Int):Prop:=0 < j/\j < 1073741824
noncomputable def HR(i j:Int):Prop:=(-(2 ^ 64) < i/\i < 2 ^ 64)\/(-(2 ^ 64) < j/\j < 2 ^ 64)
theorem HR.ok(h:HR i j):IntMulOk i j:=by
 rcases h with ⟨h1,h2⟩|⟨h1,h2⟩
 ·exact .of_left (intBits_le_64 h1 h2)
 ·exact .of_right (intBits_le_64 h1 h2)
theorem Lq:jZ X (Y4 .Add) (Ci λi j=>.int (i+j)):=OX λ_ _ _ _ _ _ _ q=>add_int q
theorem Lr:jZ X (Y4 .Sub) (Ci λi j=>.int (i - j)):=OX λ_ _ _ _ _ _ _ q=>sub_int q
theorem Ls:jZ X (Y4 .Mult) (rI HR λi j=>.int (i*j)):=mF λ_ _ _ _ _ _ _ hc q=>mul_int q hc.ok
theorem R8:jZ X (Y4 .FloorDiv) (rI TQ λi j=>.int (i / j)):=mF λi j _ _ _ _ _ hc q=>by have h1:(0:Int) < j:=hc.1;have h2:j < 1073741824:=hc.2;exact floordiv_int (by lia) (by rw[Int.fdiv_eq_ediv_of_nonneg i (by lia)];exact q) (.inl (PyProof.noPylong_small (by lia)))
theorem Lu:jZ X (Y4 .Mod) (rI (λ_ j=>0 < j) λi j=>.int (i % j)):=mF λi j _ _ _ _ _ hc q=>by have h1:(0:Int) < j:=hc;exact mod_int' (by lia) (by rw[Int.fmod_eq_emod_of_nonneg i (by lia)];exact q)
theorem unI{g:Int->Int}(rule:∀(i:Int) (t:Tok) (s:WU) (Q:Value->WU->Prop) (E:Value->WU->Prop),Q (.int (g i) s.toks) {s with toks:=s.toks+1}->wpAny (model X.prog X.w) X.A (f (.int i t)) Q E s):
  TM X f (rU λi=>.int (g i)):=by
 intro η s σ H x v Q I rx h;obtain⟨i,rfl,q⟩:=h;obtain⟨t,rfl⟩:=rx;exact rule i t s _ _ ⟨.int (g i),H,I.tok _,⟨_,rfl⟩,q⟩
theorem Lv:TM X (unaryOp .USub) (rU λi=>.int (-i)):=unI λ_ _ _ _ _ q=>neg_int q
end
section
variable{X:Cx}{a b c:Expr}{ta tb tc:TE}{pos:Pos}
theorem OY:jZ X (X4 .Lt) (Ci λi j=>.bl (decide (i < j))):=HQ λ_ _ _ _ _ _ _ q=>lt_int q
theorem OZ:jZ X (X4 .LtE) (Ci λi j=>.bl (decide (i<=j))):=HQ λ_ _ _ _ _ _ _ q=>le_int q
theorem O0:jZ X (X4 .Gt) (Ci λi j=>.bl (decide (j < i))):=HQ λ_ _ _ _ _ _ _ q=>gt_int q
theorem O1:jZ X (X4 .GtE) (Ci λi j=>.bl (decide (j<=i))):=HQ λ_ _ _ _ _ _ _ q=>ge_int q
theorem jZ.or(h:jZ X f r)(h':jZ X f r'):jZ X f (λx y H Q=>r x y H Q\/r' x y H Q):=by
 intro η s σ H x y v u Q I rx ry q;rcases q with q|q;·exact h η s σ H x y v u Q I rx ry q
 ·exact h' η s σ H x y v u Q I rx ry q
theorem HU(ho:jZ X (X4 op) r)(ha:PE X a ta)(hb:PE X b tb)(hm:abU op b=Ξ):PE X (.Compare a [op] [b] pos) (OU r ta tb):=by intro η s σ H Q I h;exact wpAny_Compare1 (Lp ha hb I h λv u s2 x y H2 I2 rx ry q=>ho η s2 σ H2 x y v u Q I2 rx ry q) hm
noncomputable def Kg(t:TE):TT:=λσ H Q=>t σ H λx H'=>∃k,x=.bl k/\Q k H'
theorem HV(ho:jZ X (X4 op) r)(ha:PE X a ta)(hb:PE X b tb)(hm:abU op b=Ξ):PT X (.Compare a [op] [b] pos) (Kg (OU r ta tb)):=by intro η s σ H Q I h;refine wpAny_isTrue_Compare1 (bQ (ha η s σ H _ I h) λv s1 ⟨x,H1,I1,r1,q1⟩=>bQ (hb η s1 σ H1 _ I1 q1) λu s2 ⟨y,H2,I2,r2,q2⟩=>bQ (ho η s2 σ H2 x y v u _ I2 r1 r2 q2) λc s3 ⟨z,H3,I3,r3,k,e,q3⟩=>?_) hm;subst e;cases r3;exact Yv ⟨H3,I3,q3⟩
noncomputable def A1(r r':R2)(ta tb tc:TE):TE:=λσ H Q=>ta σ H λx H1=>tb σ H1 λy H2=>r x y H2 λz H3=>∃k,z=.bl k/\
 (if k=Λ then tc σ H3 λw' H4=>r' y w' H4 Q else Q (.bl Ξ) H3)
theorem E3(ho:jZ X (X4 op) r)(oP:jZ X (X4 O2) r')(ha:PE X a ta)(hb:PE X b tb)(hc:PE X c tc)(hm:lastMarks [op,O2] [b,c]=Ξ:=by with_unfolding_all rfl):PE X (.Compare a [op,O2] [b,c] pos) (A1 r r' ta tb tc):=by intro η s σ H Q I h;refine Compare_chain (bQ (ha η s σ H _ I h) λv s1 ⟨x,H1,I1,r1,q1⟩=>chain_link (bQ (hb η s1 σ H1 _ I1 q1) λu s2 ⟨y,H2,I2,r2,q2⟩=>bQ (ho η s2 σ H2 x y v u _ I2 r1 r2 q2) λd s3 ⟨z,H3,I3,r3,k,e,q3⟩=>?_)) hm;subst e;cases r3;refine Yv ?_;cases k with|false=>exact ite_ff ⟨.bl Ξ,H3,I3,rfl,q3⟩|true=>exact ite_tt (chain_last (bQ (hc η s3 σ H3 _ I3 q3) λw' s4 ⟨z',H4,I4,r4,q4⟩=>oP η s4 σ H4 y z' u w' Q I4 r2 r4 q4))
theorem E4(ho:jZ X (X4 op) r)(oP:jZ X (X4 O2) r')(ha:PE X a ta)(hb:PE X b tb)(hc:PE X c tc)(hm:lastMarks [op,O2] [b,c]=Ξ:=by with_unfolding_all rfl):PT X (.Compare a [op,O2] [b,c] pos) (Kg (A1 r r' ta tb tc)):=by intro η s σ H Q I h;refine isTrue_chain (bQ (ha η s σ H _ I h) λv s1 ⟨x,H1,I1,r1,q1⟩=>test_link (bQ (hb η s1 σ H1 _ I1 q1) λu s2 ⟨y,H2,I2,r2,q2⟩=>bQ (ho η s2 σ H2 x y v u _ I2 r1 r2 q2) λd s3 ⟨z,H3,I3,r3,k,e,q3⟩=>?_)) hm;subst e;cases r3;refine Yv ?_;cases k with|false=>obtain⟨k',e',q'⟩:=q3;cases e';exact ite_ff ⟨H3,I3,q'⟩|true=>refine ite_tt (test_last (bQ (hc η s3 σ H3 _ I3 q3) λw' s4 ⟨z',H4,I4,r4,q4⟩=>bQ (oP η s4 σ H4 y z' u w' _ I4 r2 r4 q4) λd' s5 ⟨z2,H5,I5,r5,k2,e2,q5⟩=>?_));subst e2;cases r5;exact Yv ⟨H5,I5,q5⟩
def Dq(K:WO)(x:V)(H:Hp)(k:Bool):Prop:=
 match x with|.bz=>k=Ξ|.bl b=>k=b|.int i=>k=(i !=0)|.str y=>y.length<=W8/\k=((y.length:Int)!=0)|.N2 y=>y.size<=W8/\k=((y.size:Int)!=0)|.ref p=>(∃xs,ke K H p xs/\k=!xs.isEmpty)\/(∃xs,fK K H p xs/\k=!xs.isEmpty)\/∃kvs,H p=Δ (.dK kvs)/\k=!kvs.isEmpty|_=>False
theorem A2(r:KV kvs vs):(!vs.isEmpty)=!kvs.isEmpty:=by cases r<;>rfl
theorem sv(r:aO xs its):(!its.toArray.isEmpty)=!xs.isEmpty:=by cases r<;>simp
theorem oS:(W8:Nat) < 2 ^ 63:=by rw[XF];decide
theorem E5:TN X (λx H Q=>∃k,Dq X.K x H k/\Q k H):=by
 intro η s σ H x v Q I rx h;obtain⟨k,e,q⟩:=h;have hl:=oS;have hs:W8=16777216:=XF;cases x with
 |bz=>cases rx;have e':k=Ξ:=e;subst e';exact truthy_none ⟨H,I,q⟩|bl b=>cases rx;have e':k=b:=e;subst e';exact Yv ⟨H,I,q⟩|int i=>obtain⟨t,rfl⟩:=rx;have e':k=(i !=0):=e;subst e';exact PySem.P.truthy_int ⟨H,I,q⟩|str y=>obtain⟨t,rfl⟩:=rx;obtain⟨hy,e'⟩:y.length<=W8/\k=((y.length:Int)!=0):=e;subst e';exact PySem.P.truthy_str (by lia) ⟨H,I.tok _,q⟩|N2 y=>obtain⟨t,rfl⟩:=rx;obtain⟨hy,e'⟩:y.size<=W8/\k=((y.size:Int)!=0):=e;subst e';exact PySem.W.truthy_bytes (by lia) ⟨H,I.tok _,q⟩|ref p=>
  cases rx;have e':(∃xs,ke X.K H p xs/\k=!xs.isEmpty)\/(∃xs,fK X.K H p xs/\k=!xs.isEmpty)\/∃kvs,H p=Δ (.dK kvs)/\k=!kvs.isEmpty:=e;rcases e' with ⟨xs,hx,e'⟩|⟨xs,hx,e'⟩|⟨kvs,hx,e'⟩
  ·subst e';obtain⟨its,r,pl,hz⟩:=I.list hx;have hlen:=r.length;exact wpAny_truthy_list pl.isList (by simp only[WX];lia) ⟨H,I.tok _,by rw[sv r];exact q⟩
  ·subst e';obtain⟨its,r,pl,hz⟩:=I.tuple hx;have hlen:=r.length;exact truthy_tuple pl (by simp only[WX];lia) ⟨H,I.tok _,by rw[sv r];exact q⟩
  ·subst e';obtain⟨hz,hS,vs,r,m⟩:kvs.length<=W8/\(p==Yw)=Ξ/\∃vs,KV kvs vs/\s.heap.DictOf (aZ X.prog X.w) p vs:=I.aK p _ hx;have hlen:kvs.length=vs.length:=aba r;exact wpAny_truthy_dict hS m (by lia) ⟨H,I.tok _,by rw[A2 r];exact q⟩
 |_=>exact(show False from e).elim
theorem E6(ha:PE X a ta)(he:∀whole,aca a X.env whole=(do let v<-whole;abm a.pos;abM [v] (truthy v))):
  PT X a (λσ H Q=>ta σ H λx H'=>∃k,Dq X.K x H' k/\Q k H'):=by
 intro η s σ H Q I h;exact isTrue_plain (bQ (ha η s σ H _ I h) λv s1 ⟨x,H1,I1,r1,q1⟩=>E5 η s1 σ H1 x v Q I1 r1 q1) (he _)
theorem A3:jZ X (Y4 .Add) (λx y H Q=>∃i j,x=.str i/\y=.str j/\i.length+j.length<=W8/\Q (.str (i++j)) H):=by intro η s σ H x y v u Q I rx ry h;obtain⟨i,j,rfl,rfl,hz,q⟩:=h;obtain⟨t,rfl⟩:=rx;obtain⟨t',rfl⟩:=ry;exact add_str (λt' tk=>⟨.str (i++j),H,I.tok _,⟨_,rfl⟩,q⟩) hz
theorem vals1(r:aO [x] us):∃u,us=[u]/\RelV x u:=by cases r with|cons r1 r2=>cases r2;exact⟨_,rfl,r1⟩
theorem vals2(r:aO [x,y] us):∃u w',us=[u,w']/\RelV x u/\RelV y w':=by cases r with|cons r1 r2=>cases r2 with|cons r3 r4=>cases r4;exact⟨_,_,rfl,r1,r3⟩
end
structure A4(h:Heap)(x dx C:Addr)(mA:Str->Option Value):Prop where
 obj:h.get? x=Δ (YO C dx)
 ns:h.Ns1 dx mA
 ne:dx≠x
theorem Dr{h:Heap}(n:h.Ns1 dx mA):∃od,h.get? dx=Δ od/\∀name,aaV name od=Δ (mA name):=by
 obtain⟨o,es,ep,ho,hd,hk,_,hm⟩:=n;refine⟨o,ho,λname=>?_⟩;have e:=hm name;unfold nsFind findBy at e;rw[<-Array.find?_toList] at e;unfold aaV;rw[hd];dsimp only;split;·rename_i y q;rw[q] at e;exact congrArg Δ e
 ·rename_i q;rw[q] at e;have a:es.toList.any (·.refKey)=Ξ:=by rw[aa3];intro y hy;obtain⟨z,t,TR⟩:=hk y (Array.mem_toList_iff.mp hy);simp[DictEntry.refKey,TR]
  have a':¬es.toList.any (·.refKey)=Λ:=by rw[a];exact Xw
  rw[if_neg a'];exact congrArg Δ e
theorem A4.look(I:A4 h x dx C mA):∃od,PySem.W.InstAt h x (YO C dx) C (Δ od)/\∀name,aaV name od=Δ (mA name):=
 let ⟨od,ho,hl⟩:=Dr I.ns
 ⟨od,⟨I.obj,rfl,rfl,ho⟩,hl⟩
section
variable{prog:Xy}{w:World}{A:Yc}{E:Value->WU->Prop}{s:WU}{K:WO}{x dx C f:Addr}{mA:Str->Option Value}{name:Str}{v:Value}
theorem get_map(X:K.In s.heap)(I:A4 s.heap x dx C mA)(hg:ZQ K C name=Λ)(hh:aaj K C=Λ)(ha:Xm K (.ref C) name=Δ Θ)(hv:mA name=Δ v)(R9:PySem.W.handedIn v=Λ)(h:Q v {s with toks:=s.toks+1}):
  wpAny (model prog w) A (getAttr (.ref x) name expr) Q E s:=by
 obtain⟨od,J,hl⟩:=I.look;exact PySem.W.get_value X J (aaO hg).1 (PySem.W.findObj_own hh ha rfl (by rw[hl,hv])) R9 h
theorem E7(X:K.In s.heap)(I:A4 s.heap x dx C mA)(hg:ZQ K C name=Λ)(hf:Xm K (.ref C) name=Δ (Δ (.ref f)))(ht:Zy K (.ref f)=Λ)(hv:mA name=Θ)(h:Q (.ref f,[.ref x]) s):
  wpAny (model prog w) A (abf (.ref x) name pl) Q E s:=by
 obtain⟨od,J,hl⟩:=I.look;exact PySem.W.method_fn X J (aaO hg).1 (aaO hg).2 hf (beq_iff_eq.mp ht) (by show(aaV name od).map (·.isSome)=Δ Ξ;rw[hl,hv];rfl) h
theorem HW(X:K.In s.heap)(I:A4 s.heap x dx C mA)(hs:Xm K (.ref C) "__setattr__"=Δ (Δ (.builtin "object.__setattr__")))(hp:aaZ K C=Λ)(ht:abw K C name=Δ Θ)(hh:aaj K C=Λ)(hw:ab2 mA ns)(hsz:ns.length<=W8)(h:∀h',A4 h' x dx C (λy=>if y=name then Δ v else mA y)->Zl dx s.heap h'->Q () {s with heap:=h',toks:=s.toks+2}):
  wpAny (model prog w) A (setAttr (.ref x) name v) Q E s:=by
 obtain⟨od,J,hl⟩:=I.look;refine PySem.W.set_plain X J hs (PySem.W.osa_open (s:={s with toks:=s.toks+1}) (r:=Θ) X J hp ht λb=>?_);obtain⟨cd,hc,Hs⟩:=PySem.W.any_some hh;have hx:s.heap.get? x=Δ ⟨.ref C,Δ dx,.plain,#[]⟩:=I.obj;refine WD (W0 (WD (WD (wpAny_loadPart hx (WD (PySem.W.Looks.here (s:={s with toks:=s.toks+1}) (PySem.W.looks_clsIn X hc) ?_))))));rw[Hs];refine W0 (a:=Δ dx) (WD (W0 (WD ?_)));refine wpAny_nsSet1 (s:={s with toks:=s.toks+1}) I.ns λh' Sa sr=>?_;obtain⟨oD,esD,epD,hoD,hdD,hcD⟩:=Sa.count (ab2.cons name v hw);refine WD (wpAny_lookBehind hoD (by rw[hdD];exact pastItsLine_dict (Xo hcD (by rw[WZ];lia))) ?_);exact W0 (h _ ⟨(sr.2 _ (XC I.ne)).trans I.obj,Sa,I.ne⟩ sr)
theorem E8(X:K.In s.heap)(hm:abx K C=Λ)(hi:Xm K (.ref C) "__init__"=Δ (Δ (.ref f)))(hf:PySem.W.typeIn K (.ref f)=Δ (.type "function"))(h:aaF (model prog w) (A.under (.builtin "type.__call__" ⟨.ref C::vs,kw⟩)) (.call (.ref f) ⟨.ref (s.heap.objs.size+1)::vs,kw⟩) (PySem.W.InitBack (s.heap.objs.size+1) R)
   {s with heap:=(s.heap.push Yj).push (YO C s.heap.objs.size)}):
  aaF (model prog w) A (.call (.ref C) ⟨vs,kw⟩) R s:=by
 obtain⟨hh,g,d,t,os⟩:=s;exact PySem.W.make_core (PySem.W.makes_of X hm) (PySem.W.looks_findIn X hi) (λself=>PySem.W.bind_fn X self hf) (.inl rfl) h
end
noncomputable def jC(f:Str)(v:V):List (Str×V)->List (Str×V)
 |[]=>[(f,v)]|(g,x)::r=>if g=f then(g,v)::r else(g,x)::jC f v r
theorem qg f g v:∀fs:List (Str×V),(jC f v fs).lookup g=if g=f then Δ v else fs.lookup g
 |[]=>by
  show Yz g [(f,v)]=_;by_cases h:g=f;·have hb:(g==f)=Λ:=beq_iff_eq.mpr h;simp only[Yz,hb,if_pos h]
  ·have hb:(g==f)=Ξ:=beq_eq_false_iff_ne.mpr h;simp only[Yz,hb,if_neg h]
 |(k,x)::r=>by
  have ih:=qg f g v r;rw[show jC f v ((k,x)::r)=(if k=f then(k,v)::r else(k,x)::jC f v r) from rfl];by_cases hk:k=f
  ·rw[if_pos hk];by_cases h:g=k;·have hb:(g==k)=Λ:=beq_iff_eq.mpr h;simp only[Yz,hb,if_pos (h.trans hk)]
   ·have hb:(g==k)=Ξ:=beq_eq_false_iff_ne.mpr h;simp only[Yz,hb,if_neg (λe:g=f=>h (e.trans hk.symm))]
  ·rw[if_neg hk];by_cases h:g=k;·have hb:(g==k)=Λ:=beq_iff_eq.mpr h;simp only[Yz,hb,if_neg (λe:g=f=>hk (h.symm.trans e))]
   ·have hb:(g==k)=Ξ:=beq_eq_false_iff_ne.mpr h;simp only[Yz,hb];exact ih
theorem oT f v:∀fs:List (Str×V),f∈(jC f v fs).map (·.1)/\∀g,g∈fs.map (·.1)->g∈(jC f v fs).map (·.1)
 |[]=>⟨by simp[jC],λg h=>by simp at h⟩|(k,x)::r=>by
  obtain⟨i1,i2⟩:=oT f v r;rw[show jC f v ((k,x)::r)=(if k=f then(k,v)::r else(k,x)::jC f v r) from rfl];by_cases hk:k=f;·rw[if_pos hk];subst hk;exact⟨by simp,λg h=>by simpa using h⟩
  ·rw[if_neg hk];refine⟨?_,λg h=>?_⟩;·rw[WQ];exact WE _ i1
   ·rw[WQ] at h ⊢;rcases Z3.mp h with e|e;·exact Z3.mpr (.inl e)
    ·exact WE _ (i2 g e)
theorem qh f v:∀fs:List (Str×V),(jC f v fs).length<=fs.length+1
 |[]=>by simp[jC]|(k,x)::r=>by
  have ih:=qh f v r;rw[show jC f v ((k,x)::r)=(if k=f then(k,v)::r else(k,x)::jC f v r) from rfl];by_cases hk:k=f;·rw[if_pos hk,WZ,WZ];lia
  ·rw[if_neg hk,WZ,WZ];lia
theorem ki.some_of(r:ki (Δ v) o):∃u,o=Δ u/\RelV v u:=by cases o with|none=>exact(show False from r).elim|some u=>exact⟨u,rfl,r⟩
theorem ki.none_of(r:ki Θ o):o=Θ:=by cases o with|none=>rfl|some u=>exact(show False from r).elim
theorem Ds(r:RelV v u):PySem.W.handedIn u=Λ:=by cases v with|bz=>cases (show u=YG from r);rfl|bl b=>cases (show u=Z9 b from r);rfl|int i=>obtain⟨t,e⟩:=(show ∃t,u=ZD i t from r);cases e;rfl|str x=>obtain⟨t,e⟩:=(show ∃t,u=aaD x t from r);cases e;rfl|N2 b=>obtain⟨t,e⟩:=(show ∃t,u=Value.bytes b t from r);cases e;rfl|La b=>obtain⟨t,e⟩:=(show ∃t,u=ace b t from r);cases e;rfl|ref a=>cases (show u=Xg a from r);rfl|ty n=>cases (show u=Y5 n from r);rfl
section
variable{P:Xy}{w:World}{H H':Hp}{h h':Heap}{a C dx:Addr}{fs fs':List (Str×V)}
theorem rN(aK:kj P w H h)(e:H a=Δ (.ins C dx fs)):∃mA,A4 h a dx C mA/\(∀f,ki (fs.lookup f) (mA f))/\ab2 mA (fs.map (·.1))/\fs.length<=1000/\H dx=Δ (.own a):=by obtain⟨d,z,ne,ob,mA,n,r,q⟩:=(show bG P w H h a (.ins C dx fs) from aK a _ e);exact⟨mA,⟨ob,n,ne⟩,r,q,z,d⟩
end
structure AR(K:WO)(C:Addr):Prop where
 pg:ZQ K C Str.empty=Λ
 hd:aaj K C=Λ
 po:aaZ K C=Λ
 sa:Xm K (.ref C) "__setattr__"=Δ (Δ (.builtin "object.__setattr__"))
theorem AR.get{K:WO}(c:AR K C)f:ZQ K C f=Λ:=c.pg
noncomputable def jD(K:WO)(C:Addr)(f:Str):Prop:=Xm K (.ref C) f=Δ Θ
theorem jD.O3{K:WO}(n:jD K C f):abw K C f=Δ Θ:=by unfold abw;rw[show Xm K (.ref C) f=Δ Θ from n];rfl
structure A5(K:WO)(C:Addr)(m:Str)(f:Addr):Prop where
 at_:Xm K (.ref C) m=Δ (Δ (.ref f))
 fn:Zy K (.ref f)=Λ
 kp:Y6 K (.ref f)=Λ
section
variable{X:Cx}{η:List (Addr×Obj)}{σ:St}{H:Hp}{s:WU}{a C dx:Addr}{fs:List (Str×V)}{f:Str}{v:V}{A:Yc}{E:Value->WU->Prop}
theorem A6(I:Inv X η σ H s)(e:H a=Δ (.ins C dx fs))(c:AR X.K C)(n:jD X.K C f)(l:fs.lookup f=Δ v)(h:∀u s',Inv X η σ H s'->RelV v u->Q u s'):wpAny (model X.prog X.w) A (getAttr (.ref a) f b) Q E s:=by obtain⟨mA,O,r,_,_,_⟩:=rN I.aK e;obtain⟨u,hu,ru⟩:=ki.some_of (v:=v) (o:=mA f) (by rw[<-l];exact r f);exact get_map I.nv O (c.get f) c.hd n hu (Ds ru) (h u _ (I.tok _) ru)
theorem mG(I:Inv X η σ H s)(e:H a=Δ (.ins C dx fs))(c:AR X.K C)(k:A5 X.K C m g)(l:fs.lookup m=Θ)(h:Q (.ref g,[.ref a]) s):wpAny (model X.prog X.w) A (abf (.ref a) m pl) Q E s:=by obtain⟨mA,O,r,_,_,_⟩:=rN I.aK e;have hn:mA m=Θ:=ki.none_of (by rw[<-l];exact r m);exact E7 I.nv O (c.get m) k.at_ k.fn hn h
theorem A7(I:Inv X η σ H s)(e:H a=Δ (.ins C dx fs))(c:AR X.K C)(n:jD X.K C f)(hl:fs.length < 1000)(ry:RelV y u)(h:∀s',Inv X η σ (upd H a (.ins C dx (jC f y fs))) s'->Q () s'):wpAny (model X.prog X.w) A (setAttr (.ref a) f u) Q E s:=by
 obtain⟨mA,O,r,wi,_,ho⟩:=rN I.aK e;have hz:(fs.map (·.1)).length<=W8:=by rw[WJ,XF];lia
 refine HW I.nv O c.sa c.po n.O3 c.hd wi hz λh' O' sb=>h _ ?_;have hd:∃o,h'.get? dx=Δ o:=let ⟨o,_,_,e',_⟩:=O'.ns;⟨o,e'⟩
 refine I.write (x:=a) (e:=dx) (by rw[e];exact Yi) (.inr ho) (λb q hb z=>(sb.2 b hb).trans z) hd ?_;refine⟨by rw[au O.ne];exact ho,?_,O.ne,O'.obj,_,O'.ns,λg=>?_,λg hg=>?_⟩;·have:=qh f y fs;lia
 ·show ki ((jC f y fs).lookup g) (if g=f then Δ u else mA g);rw[qg];by_cases q:g=f;·rw[if_pos q,if_pos q];exact ry
  ·rw[if_neg q,if_neg q];exact r g
 ·by_cases q:g=f;·rw[q];exact(oT f y fs).1
  ·refine(oT f y fs).2 g (wi g λz=>hg ?_);show(if g=f then Δ u else mA g)=Θ;rw[if_neg q];exact z
theorem Inv.made(I:Inv X η σ H s):Inv X η σ (upd (upd H s.heap.objs.size (.own (s.heap.objs.size+1))) (s.heap.objs.size+1) (.ins C s.heap.objs.size []))
  {s with heap:=(s.heap.push Yj).push (YO C s.heap.objs.size)}:=by
 have e1:(s.heap.push Yj).get? s.heap.objs.size=Δ Yj:=WR s.heap rfl;have e2:((s.heap.push Yj).push (YO C s.heap.objs.size)).get? (s.heap.objs.size+1)=Δ (YO C s.heap.objs.size):=by have:=WR (s.heap.push Yj) (o:=YO C s.heap.objs.size) rfl;rwa [X9] at this
 have e3:(s.heap.push Yj).Ns s.heap.objs.size (λ_=>Θ):=⟨Yj,#[],_,e1,rfl,(λe he=>absurd he (by simp)),λ_=>rfl⟩;have I1:=I.laid (a:=s.heap.objs.size) (o:=.own (s.heap.objs.size+1)) (h':=s.heap.push Yj) (t':=s.toks) (λb u q=>WA _ q) (WM _) ⟨_,e1⟩;refine I1.laid (a:=s.heap.objs.size+1) (o:=.ins C s.heap.objs.size []) (t':=s.toks) (λb u q=>WA _ q) (aaS (X9 _ _)) ?_;have ne:s.heap.objs.size≠s.heap.objs.size+1:=W9 (Yq _);refine⟨by rw[au ne,aD],XZ _,ne,e2,λ_=>Θ,(Heap.Ns1.of_empty e3).at λo q=>WA _ q,λ_=>Yi,λy hy=>absurd rfl hy⟩
theorem HX(hb:Zn e f env (eval e env)=eval e env)(h:wpAny (model prog w) A (eval e env) (λo bB=>wpAny (model prog w) A (getAttr o f Λ) Q E bB) E s):wpAny (model prog w) A (eval (.Attribute e f pos) env) Q E s:=
 Attribute_any_ h (by rw[arm_eval_Attribute,hb])
end
def TU(K:WO)(ta:TE)(f:Str):TE:=λσ H Q=>ta σ H λx H1=>∃a C dx fs v,x=.ref a/\H1 a=Δ (.ins C dx fs)/\AR K C/\jD K C f/\fs.lookup f=Δ v/\Q v H1
def TV(K:WO)(ta tv:TE)(f:Str):TS:=λD σ H=>tv σ H λy H1=>ta σ H1 λx H2=>∃a C dx fs,x=.ref a/\H2 a=Δ (.ins C dx fs)/\AR K C/\jD K C f/\fs.length < 1000/\
 D.nx σ (upd H2 a (.ins C dx (jC f y fs)))
section
variable{X:Cx}{o e value:Expr}{f:Str}{pos pos' TY:Pos}{ta tv:TE}
theorem Lw(he:PE X e ta)(hb:Zn e f X.env (eval e X.env)=eval e X.env):PE X (.Attribute e f pos) (TU X.K ta f):=by intro η s σ H Q I h;refine HX hb (bQ (he η s σ H _ I h) λu s1 ⟨x,H1,I1,rx,a,C,dx,fs,v,ex,ea,c,n,l,q⟩=>?_);subst ex;obtain rfl:u=Xg a:=rx;exact A6 I1 ea c n l λu' s2 I2 ru=>⟨v,H1,I2,ru,q⟩
theorem Lx(ha:PE X o ta)(hv:PE X value tv)(hs:ZN value (Δ (.Attribute o f pos')) pos.line X.env=pure Ξ):PS X (.Assign [.Attribute o f pos'] value pos) (TV X.K ta tv f):=by intro η s σ H D I h;refine plainObj_wpAny_Assign_Attribute (bQ (hv η s σ H _ I h) λu s1 ⟨y,H1,I1,ry,q⟩=>bQ (ha η s1 σ H1 _ I1 q) λov s2 ⟨x,H2,I2,rx,a,C,dx,fs,ex,ea,c,n,l,q2⟩=>?_) hs;subst ex;obtain rfl:ov=Xg a:=rx;exact A7 I2 ea c n l ry λs3 I3=>⟨σ,_,I3,q2⟩
theorem Kh(he:PE X e te)(I:Inv X η σ H s)(h:te σ H λx H1=>∃a C dx fs g,x=.ref a/\H1 a=Δ (.ins C dx fs)/\AR X.K C/\A5 X.K C m g/\fs.lookup m=Θ/\
   ∀s1,Inv X η σ H1 s1->wpAny (model X.prog X.w) X.A (ab1 pos (.ref g) [.ref a] (YL pos (Xf args X.env)) (aaH pos (Zx [] X.env))) Q X.xe s1)(ht:eval (.Call (.Attribute e m apos) args [] pos) X.env=(do
   let ov<-eval e X.env
   abm apos.atName
   let (f,first)<-abM [ov] (abf ov m pl)
   ab1 pos f first (YL pos (Xf args X.env)) (aaH pos (Zx [] X.env)))):
  wpAny (model X.prog X.w) X.A (eval (.Call (.Attribute e m apos) args [] pos) X.env) Q X.xe s:=by
 refine aav (pl:=pl) (bQ (he η s σ H _ I h) λu s1 ⟨x,H1,I1,rx,a,C,dx,fs,g,ex,ea,c,k,l,q⟩=>?_) ht;subst ex;obtain rfl:u=Xg a:=rx;exact mG I1 ea c k l (q s1 I1)
end
section
variable{X:Cx}{η:List (Addr×Obj)}{σ:St}{H:Hp}{s:WU}{A:Yc}{E:Value->WU->Prop}{Q:Value->WU->Prop}{c:Value}{b:Bool}
inductive mH (K:WO) (H:Hp):V->Value->Prop where
 |bz:mH K H .bz (.type "NoneType")
 |bl (x:Bool):mH K H (.bl x) (.type "bool")
 |int (i:Int):mH K H (.int i) (.type "int")
 |str (x:Str):mH K H (.str x) (.type "str")
 |La (x:UInt64):mH K H (.La x) (.type "float")
 |lst {a:Addr} {xs:List V} (e:H a=Δ (.lst xs)):mH K H (.ref a) (.type "list")
 |dt {a:Addr} {o:Obj} {xs:List V} (e:H a=Δ (.dt o (.lst xs))):mH K H (.ref a) (.type "list")
 |tup {a:Addr} {xs:List V} (e:H a=Δ (.tup xs)):mH K H (.ref a) (.type "tuple")
 |dK {a:Addr} {kvs:List (Key×V)} (e:H a=Δ (.dK kvs)):mH K H (.ref a) (.type "dict")
 |dT {a:Addr} {kvs:List (List Key×V)} (e:H a=Δ (.dT kvs)):mH K H (.ref a) (.type "dict")
 |ins {a C dx:Addr} {fs:List (Str×V)} (e:H a=Δ (.ins C dx fs)) (cl:AR K C) (ha:Xm K (.ref C) "__class__"=Δ (Δ (.builtin "object.__class__")))
   (hn:PySem.W.specialIn K (.builtin "object.__class__") "__get__"=Δ (Δ (.builtin "getset_descriptor.__get__"))) (htk:PySem.W.takesIn K (.builtin "object.__class__")=Δ Λ)
   (hm:PySem.W.mroIn K C (.type "object")=Δ Λ):mH K H (.ref a) (.ref C)
theorem oU(I:Inv X η σ H s)(rx:RelV x u)(ty:mH X.K H x t)(e:abF X.K t c=Δ b)(h:∀tk,Q (.bool b) {s with toks:=tk}):
  wpAny (model X.prog X.w) A (call (.builtin "isinstance") [u,c]) Q E s:=by
 cases ty with
 |bz=>cases (show u=YG from rx);exact XU PySem.W.kitx_none I.nv Yi e (λz=>nomatch z) h|bl y=>cases (show u=Z9 y from rx);exact XU PySem.W.kitx_bool I.nv Yi e (λz=>nomatch z) h|int i=>obtain⟨t,q⟩:=(show ∃t,u=ZD i t from rx);cases q;exact XU PySem.W.kitx_int I.nv Yi e (λz=>nomatch z) h|str y=>obtain⟨t,q⟩:=(show ∃t,u=aaD y t from rx);cases q;exact XU PySem.W.kitx_str I.nv Yi e (λz=>nomatch z) h|La y=>obtain⟨t,q⟩:=(show ∃t,u=ace y t from rx);cases q;exact XU PySem.W.kitx_float I.nv Yi e (λz=>nomatch z) h|@lst a xs ea=>cases (show u=Xg a from rx);obtain⟨_,_,n,_,h1⟩:=(show bG X.prog X.w H s.heap a (.lst xs) from I.aK a _ ea);exact XU PySem.W.kitx_list I.nv ⟨_,h1,rfl⟩ e (λz=>nomatch z) h
 |@dt a ob xs ea=>cases (show u=Xg a from rx);obtain⟨_,_,_,n,_,h1⟩:=(show bG X.prog X.w H s.heap a (.dt ob (.lst xs)) from I.aK a _ ea);exact XU PySem.W.kitx_list I.nv ⟨_,h1,rfl⟩ e (λz=>nomatch z) h|@tup a xs ea=>cases (show u=Xg a from rx);obtain⟨_,_,_,p⟩:=(show bG X.prog X.w H s.heap a (.tup xs) from I.aK a _ ea);obtain⟨o,h1,h2,_⟩:=p;exact XU PySem.W.kitx_tuple I.nv ⟨o,h1,h2⟩ e (λz=>nomatch z) h|@dK a kvs ea=>cases (show u=Xg a from rx);obtain⟨_,_,vs,_,p⟩:=(show bG X.prog X.w H s.heap a (.dK kvs) from I.aK a _ ea);obtain⟨o,es,ep,h1,h2,_⟩:=p;exact XU PySem.W.kitx_dict I.nv ⟨o,h1,h2.1⟩ e (λz=>nomatch z) h|@dT a kvs ea=>cases (show u=Xg a from rx);obtain⟨_,_,xs,_,o,es,ep,h1,h2,_⟩:=(show bG X.prog X.w H s.heap a (.dT kvs) from I.aK a _ ea);exact XU PySem.W.kitx_dict I.nv ⟨o,h1,h2.1⟩ e (λz=>nomatch z) h|@ins a C dx fs ea cl ha hn htk hm=>cases (show u=Xg a from rx);obtain⟨mA,O,_⟩:=rN I.aK ea;obtain⟨od,J,_⟩:=O.look;exact XU (PySem.W.kitx_own (cl.get _) cl.hd ha hn htk hm) I.nv J e (λz=>nomatch z) h
end
structure cY(k:Nat)(A:Yc):Prop where
 hd:A.handled=Θ
 dp:A.depth+3*k+5 < recursionLimit
 un:A.units+16*k+200 < cLine
theorem cY.mono(r:cY k A)(h:j<=k):cY j A:=⟨r.hd,by have:=r.dp;lia,by have:=r.un;lia⟩
theorem cY.deeper(r:cY (k+1) A)env:cY k (A.deeper env):=
 ⟨r.hd,by have:=r.dp;show A.depth+1+3*k+5 < _;lia,by have:=r.un;show A.units+3+16*k+200 < _;lia⟩
theorem A8{A:Yc}:(A.under (.builtin "type.__call__" ⟨.ref C::us,kw⟩)).depth=A.depth+1:=by first|rfl|simp[ab8,Code.weight,Code.isCreation,Code.isGuard,Code.isCaller,Code.frames,ab7,guardIds]
theorem A9{A:Yc}:(A.under (.builtin "type.__call__" ⟨.ref C::us,kw⟩)).units=A.units+1:=by first|rfl|simp[ab8,Code.cUnits,Code.frames,ab7]
theorem cY.make(r:cY (k+1) A)C us kw:cY k (A.under (.builtin "type.__call__" ⟨.ref C::us,kw⟩)):=
 ⟨r.hd,by have:=r.dp;rw[A8];lia,by have:=r.un;rw[A9];lia⟩
theorem cY.depth(r:cY k A):A.depth < recursionLimit:=by have:=r.dp;lia
def Ly:TA:=λ_ H Q=>Q [] H
def O4(ta:TE)(tr:TA):TA:=λσ H Q=>ta σ H λx H1=>tr σ H1 λxs H2=>Q (x::xs) H2
section
variable{X:Cx}{e:Expr}{es:List Expr}{te:TE}{t:TA}{pos:Pos}
theorem Ba:PA X [] Ly:=λ_ _ _ _ H Q I h=>aau ⟨[],H,I,.nil,h⟩
theorem rO(ha:PE X e te)(hr:PA X es t)(hs:Xf (e::es) X.env=(Ξ,eval e X.env)::Xf es X.env:=by rfl):PA X (e::es) (O4 te t):=by intro pos η s σ H Q I h;rw[hs];show wpAny _ _ (spliced ((Ξ,eval e X.env)::YL pos (Xf es X.env))) _ _ s;refine ZA (bQ (ha η s σ H _ I h) λu s1 ⟨x,H1,I1,r1,q1⟩=>?_);exact bQ (hr pos η s1 σ H1 _ I1 q1) λus s2 ⟨xs,H2,I2,r2,q2⟩=>⟨x::xs,H2,I2,.cons r1 r2,q2⟩
def TZ(t:TA):TE:=λσ H Q=>t σ H λxs H1=>xs.length<=W8/\∀p,H1 p=Θ->Q (.ref p) (upd H1 p (.tup xs))
def T3(t:TA):TE:=λσ H Q=>t σ H λxs H1=>xs.length<=W8/\∀p,H1 p=Θ->Q (.ref p) (upd H1 p (.lst xs))
theorem Lz{x1}(h:PA X es t):PE X (.Tuple es x1 pos) (TZ t):=by intro η s σ H Q I hq;refine wpAny_Tuple_spliced (bQ (h pos η s σ H _ I hq) λus s1 ⟨xs,H1,I1,r,z,q⟩=>⟨by rw[<-r.length];exact z,?_⟩);have hf:H1 s1.heap.objs.size=Θ:=I1.aK.fresh (WM _);refine⟨.ref s1.heap.objs.size,upd H1 s1.heap.objs.size (.tup xs),I1.laid (t':=s1.toks) (λb u e=>WA _ e) (WM _) ?_,rfl,q _ hf⟩;exact⟨z,us,r,⟨_,WR _ rfl,rfl,_,rfl⟩⟩
theorem LA(h:PA X es t):PE X (.List es pos) (T3 t):=by intro η s σ H Q I hq;refine wpAny_List_spliced (bQ (h pos η s σ H _ I hq) λus s1 ⟨xs,H1,I1,r,z,q⟩=>⟨by rw[<-r.length];exact z,?_⟩);have hf:H1 s1.heap.objs.size=Θ:=I1.aK.fresh (WM _);refine⟨.ref s1.heap.objs.size,upd H1 s1.heap.objs.size (.lst xs),I1.laid (t':=s1.toks) (λb u e=>WA _ e) (WM _) ?_,rfl,q _ hf⟩;exact⟨z,us,0,r,WR _ rfl⟩
end
abbrev Sp:=List V->Hp->VK->XK->Prop
abbrev Hv:=List Env->Hp->WU->XK->Value->WU->Prop
structure xm(P:Xy)(w:World)(K:WO)(mg:Str->Option Value)(base:Heap)(A:Yc)(outer:List Env)(s:WU)(H:Hp):Prop where
 frames:A.frames=Δ outer
 mod:Mod K mg base
 bs:∀b o,base.get? b=Δ o->s.heap.get? b=Δ o/\H b=Θ
 EE:base.objs.size<=s.heap.objs.size
 mB:s.heap.FunFrames base outer
 HJ:∀b∈jA outer,H b=Θ
 aK:kj P w H s.heap
 bare:aa5 s.gens
def CE(outer:List Env)(P:Xy)(w:World)(H:Hp)(s:WU)(Q:VK)(u:Value)(s':WU):Prop:=
 ∃v H',s'.os=s.os/\aa5 s'.gens/\Un (jA outer) [] H H' s.heap s'.heap/\kj P w H' s'.heap/\RelV v u/\Q v H'
def CR(CX:Hv)(outer:List Env)(P:Xy)(w:World)(H:Hp)(s:WU)(Q:VK)(E:XK)(r:Result)(s':WU):Prop:=
 match r with|.ok (.ret u)=>CE outer P w H s Q u s'|.ok _=>False|.error e=>CX outer H s E e s'
structure gz(P:Xy)(w:World)(K:WO)(mg:Str->Option Value)(base:Heap)(CX:Hv)(k:Nat)(f:Addr)(fd:YD)(ps:List Str)(sp:Sp):Prop where
 len:∀vs H Q E,sp vs H Q E->vs.length=ps.length
 run:∀(A:Yc) (outer:List Env) (s:WU) (H:Hp) (args:Args) (us:List Value) (vs:List V) (Q:VK) (E:XK),cY k A->xm P w K mg base A outer s H->abr s fd args (ps.zip us)->aO vs us->sp vs H Q E->
  aaF (model P w) A (.call (.ref f) args) (CR CX outer P w H s Q E) s
theorem xm.make{K:WO}(e:xm P w K mg base A outer s H)C us kw:
  xm P w K mg base (A.under (.builtin "type.__call__" ⟨.ref C::us,kw⟩)) outer s H:=⟨by first|exact e.frames|(simpa[ab8,Code.envs,ab7,pushEnvs] using e.frames),e.mod,e.bs,e.EE,e.mB,e.HJ,e.aK,e.bare⟩
section
variable{X:Cx}{η:List (Addr×Obj)}{σ:St}{H:Hp}{s s':WU}
theorem Inv.O5(I:Inv X η σ H s):xm X.prog X.w X.K X.mg X.base X.A X.stack s H:=
 ⟨I.ok.frames,I.ok.mod,I.bs,Xo I.ok.EE I.sz,I.stack,I.ny,I.aK,I.bare⟩
theorem Inv.after(I:Inv X η σ H s)(h:CE X.stack X.prog X.w H s Q u s'):EP X η σ Q u s':=by obtain⟨v,H',os,bare,un,aK,r,q⟩:=h;obtain⟨hh,g,d,t,os'⟩:=s';obtain rfl:os'=s.os:=os;exact⟨v,H',I.call (h':=hh) (g':=g) (d':=d) (t':=t) (ch:=[]) un aK bare (λb z=>absurd z (by simp)),r,q⟩
end
noncomputable def E9(sp:Sp)(dvs:List V)(E:XK)(t:TA):TE:=λσ H Q=>t σ H λvs H1=>sp (vs++dvs) H1 Q E
noncomputable def Cj(C:Addr)(m:Str)(sp:Sp)(dvs:List V)(E:XK)(ta:TE)(t:TA):TE:=λσ H Q=>ta σ H λx H1=>∃a dx fs,x=.ref a/\H1 a=Δ (.ins C dx fs)/\fs.lookup m=Θ/\
 t σ H1 λvs H2=>sp (x::(vs++dvs)) H2 Q E
def O6(C:Addr)(sp:Sp)(dvs:List V)(E:XK)(t:TA):TE:=λσ H Q=>t σ H λvs H1=>∀x dx,H1 x=Θ->H1 dx=Θ->dx≠x->
 sp (.ref x::(vs++dvs)) (upd (upd H1 dx (.own x)) x (.ins C dx [])) (λv H2=>v=.bz/\Q (.ref x) H2) E
noncomputable def Binds(K:WO)(fd:YD)(ps:List Str)(ds:List Value):Prop:=
 ∀(s:WU) (us:List Value),K.In s.heap->(us++ds).length=ps.length->abr s fd ⟨us,[]⟩ (ps.zip (us++ds))
theorem Binds.all{K:WO}(h:∀us:List Value,us.length=ps.length->ack fd ⟨us,[]⟩=pure (ps.zip us)):Binds K fd ps []:=λs us _ hl=>by rw[Xv] at hl ⊢;exact .of_eq (h us hl)
noncomputable def kn(CX:Hv)(X:Cx)(E:XK):Prop:=∀(η:List (Addr×Obj)) (σ:St) (H:Hp) (s:WU) (e:Value) (s':WU),Inv X η σ H s->CX X.stack H s E e s'->X.xe e s'
section
variable{X:Cx}{CX:Hv}{k:Nat}{f C:Addr}{fd:YD}{ps:List Str}{sp:Sp}{dvs:List V}{ds:List Value}{E:XK}{x m:Str}{p pos apos:Pos}{e o:Expr}{es:List Expr}{ta:TE}{t:TA}
theorem sx(F:gz X.prog X.w X.K X.mg X.base CX k f fd ps sp)(hr:cY k X.A)(hb:Binds X.K fd ps ds)(hd:aO dvs ds)(hx:kn CX X E)(I:Inv X η σ H s)(r:aO vs us)(h:sp (vs++dvs) H Q E):wpAny (model X.prog X.w) X.A (call (.ref f) us) (EP X η σ Q) X.xe s:=by
 have r2:aO (vs++dvs) (us++ds):=r.append hd;have hl:(us++ds).length=ps.length:=by rw[<-r2.length];exact F.len _ _ _ _ h
 refine ach (aaQ (F.run X.A X.stack s H ⟨us,[]⟩ (us++ds) (vs++dvs) Q E hr I.O5 (hb s us I.nv hl) r2 h) λr s' hq=>?_);cases r with|error e=>exact hx η σ H s e s' I hq|ok fl=>cases fl with|ret u=>exact I.after hq|next=>exact XT hq|brk=>exact XT hq|cont=>exact XT hq
theorem HY(F:gz X.prog X.w X.K X.mg X.base CX k f fd ps sp)(hr:cY k X.A)(hg:Gl X x)(hm:X.mg x=Δ (.ref f))(hk:Y6 X.K (.ref f)=Λ)(hb:Binds X.K fd ps ds)(hd:aO dvs ds)(hx:kn CX X E)
  (ha:PA X (e::es) t) (HZ:(x==("__debug__":Str))=Ξ:=by decide) (he:Xf (e::es) X.env=(Ξ,eval e X.env)::Xf es X.env:=by rfl) (yq:(YL pos (Xf es X.env)).any (·.1)=Ξ:=by rfl):
  PE X (.Call (.Name x p) (e::es) [] pos) (E9 sp dvs E t):=by
 intro η s σ H Q I h;refine X6 (nB I hg hm ?_ HZ);refine aaa (h₀:=X.base) I.ok.mod.Ld hk (bQ (ha pos η s σ H _ I h) λus s1 ⟨vs,H1,I1,r,q⟩=>⟨I1.nv,?_⟩) he yq;exact sx F hr hb hd hx I1 r q
theorem Fb(F:gz X.prog X.w X.K X.mg X.base CX k f fd ps sp)(hr:cY k X.A)(hg:Gl X x)(hm:X.mg x=Δ (.ref f))(hk:Y6 X.K (.ref f)=Λ)(hb:Binds X.K fd ps ds)(hd:aO dvs ds)(hx:kn CX X E)
  (HZ:(x==("__debug__":Str))=Ξ:=by decide):PE X (.Call (.Name x p) [] [] pos) (E9 sp dvs E Ly):=by
 intro η s σ H Q I h;refine X6 (nB I hg hm ?_ HZ);exact PySem.W.callWith_K0 I.nv hk (sx (us:=[]) F hr hb hd hx I .nil h)
theorem Ia(he:PE X o ta)(c:AR X.K C)(hm:A5 X.K C m f)(F:gz X.prog X.w X.K X.mg X.base CX k f fd ps sp)(hr:cY k X.A)(hb:Binds X.K fd ps ds)(hd:aO dvs ds)(hx:kn CX X E)(ha:PA X (e::es) t)(oM:Xf (e::es) X.env=(Ξ,eval e X.env)::Xf es X.env:=by rfl)(yq:(YL pos (Xf es X.env)).any (·.1)=Ξ:=by rfl)(ht:eval (.Call (.Attribute o m apos) (e::es) [] pos) X.env=(do
   let ov<-eval o X.env
   abm apos.atName
   let (f,first)<-abM [ov] (abf ov m pl)
   ab1 pos f first (YL pos (Xf (e::es) X.env)) (aaH pos (Zx [] X.env))):=by rfl):
  PE X (.Call (.Attribute o m apos) (e::es) [] pos) (Cj C m sp dvs E ta t):=by
 intro η s σ H Q I h;refine aav (pl:=pl) (bQ (he η s σ H _ I h) λu s1 ⟨x,H1,I1,rx,a,dx,fs,ex,ea,l,q⟩=>?_) ht;subst ex;obtain rfl:u=Xg a:=rx;refine mG I1 ea c hm l ?_;refine aaa (first:=[.ref a]) (h₀:=X.base) I.ok.mod.Ld hm.kp (bQ (ha pos η s1 σ H1 _ I1 q) λus s2 ⟨vs,H2,I2,r,q2⟩=>⟨I2.nv,?_⟩) oM yq;exact sx (us:=.ref a::us) (vs:=.ref a::vs) F hr hb hd hx I2 (.cons rfl r) q2
theorem Fc(he:PE X o ta)(c:AR X.K C)(hm:A5 X.K C m f)(F:gz X.prog X.w X.K X.mg X.base CX k f fd ps sp)(hr:cY k X.A)(hb:Binds X.K fd ps ds)(hd:aO dvs ds)(hx:kn CX X E)(ht:eval (.Call (.Attribute o m apos) [] [] pos) X.env=(do
   let ov<-eval o X.env
   abm apos.atName
   let (f,first)<-abM [ov] (abf ov m pl)
   ab1 pos f first (YL pos (Xf [] X.env)) (aaH pos (Zx [] X.env))):=by rfl):
  PE X (.Call (.Attribute o m apos) [] [] pos) (Cj C m sp dvs E ta Ly):=by
 intro η s σ H Q I h;refine aav (pl:=pl) (bQ (he η s σ H _ I h) λu s1 ⟨x,H1,I1,rx,a,dx,fs,ex,ea,l,q⟩=>?_) ht;subst ex;obtain rfl:u=Xg a:=rx;refine mG I1 ea c hm l ?_;exact PySem.W.callWith_K0 (first:=[.ref a]) I1.nv hm.kp (sx (us:=[.ref a]) (vs:=[.ref a]) F hr hb hd hx I1 (.cons rfl .nil) q)
structure Mk(K:WO)(C f:Addr):Prop where
 makes:abx K C=Λ
 init:Xm K (.ref C) "__init__"=Δ (Δ (.ref f))
 fn:Zy K (.ref f)=Λ
 kp:Y6 K (.ref C)=Λ
theorem Fd(M:Mk X.K C f)(F:gz X.prog X.w X.K X.mg X.base CX k f fd ps sp)(hr:cY (k+1) X.A)(hb:Binds X.K fd ps ds)(hd:aO dvs ds)(hx:kn CX X E)(I:Inv X η σ H s)(r:aO vs us)(h:∀x dx,H x=Θ->H dx=Θ->dx≠x->sp (.ref x::(vs++dvs)) (upd (upd H dx (.own x)) x (.ins C dx [])) (λv H2=>v=.bz/\Q (.ref x) H2) E):
  wpAny (model X.prog X.w) X.A (call (.ref C) us) (EP X η σ Q) X.xe s:=by
 have hq:=h (s.heap.objs.size+1) s.heap.objs.size (I.aK.fresh (YN _)) (I.aK.fresh (WM _)) (W9 (Yq _));have I2:=Inv.made (C:=C) I;have r2:aO (V.ref (s.heap.objs.size+1)::(vs++dvs)) (Xg (s.heap.objs.size+1)::(us++ds)):=.cons rfl (r.append hd);have hl:(Xg (s.heap.objs.size+1)::us++ds).length=ps.length:=by have e:=r2.length;rw[F.len _ _ _ _ hq] at e;exact e.symm
 refine ach (E8 (f:=f) I.nv M.makes M.init (beq_iff_eq.mp M.fn) (aaQ (F.run _ X.stack _ _ ⟨Xg (s.heap.objs.size+1)::us,[]⟩ (Xg (s.heap.objs.size+1)::(us++ds)) _ _ E (hr.make C us [])
  (I2.O5.make C us []) (hb _ (Xg (s.heap.objs.size+1)::us) I2.nv hl) r2 hq) λr s' yF=>?_))
 cases r with|error e=>exact hx η σ _ _ e s' I2 yF|ok fl=>cases fl with|ret u=>obtain⟨v,H',I3,rv,ev,q3⟩:=I2.after yF;subst ev;exact⟨rv,⟨V.ref (s.heap.objs.size+1),H',I3,rfl,q3⟩⟩|next=>exact XT yF|brk=>exact XT yF|cont=>exact XT yF
theorem Ib(M:Mk X.K C f)(F:gz X.prog X.w X.K X.mg X.base CX k f fd ps sp)(hr:cY (k+1) X.A)(hg:Gl X x)(hm:X.mg x=Δ (.ref C))(hb:Binds X.K fd ps ds)(hd:aO dvs ds)(hx:kn CX X E)
  (ha:PA X (e::es) t) (HZ:(x==("__debug__":Str))=Ξ:=by decide) (he:Xf (e::es) X.env=(Ξ,eval e X.env)::Xf es X.env:=by rfl) (yq:(YL pos (Xf es X.env)).any (·.1)=Ξ:=by rfl):
  PE X (.Call (.Name x p) (e::es) [] pos) (O6 C sp dvs E t):=by
 intro η s σ H Q I h;refine X6 (nB I hg hm ?_ HZ);refine aaa (h₀:=X.base) I.ok.mod.Ld M.kp (bQ (ha pos η s σ H _ I h) λus s1 ⟨vs,H1,I1,r,q⟩=>⟨I1.nv,?_⟩) he yq;exact Fd M F hr hb hd hx I1 r q
end
section
variable{X:Cx}{CX:Hv}{k:Nat}{f C:Addr}{fd:YD}{ps ks:List Str}{sp:Sp}{E:XK}{x m:Str}{p pos apos kpos:Pos}{e o:Expr}{es:List Expr}{gZ:List aa4}{te ta:TE}{t tk:TA}{nm:Option Str}
variable{g:List Value->List Value->List Value}{gV:List V->List V->List V}
end
structure ba(N P:List Str)(sc:Scope):Prop where
 kind:sc.kind=.function
 co:sc.isCoroutine=Ξ
 gen:sc.isGenerator=Ξ
 nd:N.Nodup
 pre:N.take P.length=P
 par:∀x∈P,sc.names.lookup x=Δ .local\/sc.names.lookup x=Δ .cell
 LB:∀y∈sc.names,y.2≠.free
theorem vU{aaC:Str->Option Zi}:∀{binds} {m},(∀v,(x,v)∉binds)->bindL aaC binds m x=m x
 |[],_,_=>rfl|(n,v)::r,m,h=>by
  unfold bindL;rw[vU λw hw=>h w (WE _ hw)];split
  ·have:x≠n:=by rintro rfl;exact h v WG
   simp[this]
  ·rfl
theorem vV{aaC:Str->Option Zi}:∀{binds} {m},(∀v,(x,v)∉binds)->bindC aaC binds m x=m x
 |[],_,_=>rfl|(n,v)::r,m,h=>by
  unfold bindC;rw[vV λw hw=>h w (WE _ hw)];split;·rfl
  ·have:x≠n:=by rintro rfl;exact h v WG
   simp[this]
theorem vW{aaC:Str->Option Zi}:∀{P:List Str} {vs} {i:Nat} {m},P.Nodup->P[i]?=Δ x->vs[i]?=Δ v->aaC x=Δ .local->
  bindL aaC (P.zip vs) m x=Δ v
 |[],_,_,_,_,h,_,_=>by simp at h|_::_,[],_,_,_,_,h,_=>by simp at h|p::P,w::vs,0,m,nd,h1,h2,hk=>by simp at h1 h2;subst h1;subst h2;show bindL aaC ((p,w)::P.zip vs) m p=_;unfold bindL;rw[vU λv hv=>(Yy.mp nd).1 (ZC hv).1,if_pos hk];simp
 |p::P,w::vs,i+1,m,nd,h1,h2,hk=>by show bindL aaC ((p,w)::P.zip vs) m x=_;unfold bindL;exact vW (i:=i) (Yy.mp nd).2 (by simpa using h1) (by simpa using h2) hk
theorem vX{aaC:Str->Option Zi}:∀{P:List Str} {vs} {i:Nat} {m},P.Nodup->P[i]?=Δ x->vs[i]?=Δ v->aaC x≠Δ .local->
  bindC aaC (P.zip vs) m x=Δ v
 |[],_,_,_,_,h,_,_=>by simp at h|_::_,[],_,_,_,_,h,_=>by simp at h|p::P,w::vs,0,m,nd,h1,h2,hk=>by simp at h1 h2;subst h1;subst h2;show bindC aaC ((p,w)::P.zip vs) m p=_;unfold bindC;rw[vV λv hv=>(Yy.mp nd).1 (ZC hv).1,if_neg hk];simp
 |p::P,w::vs,i+1,m,nd,h1,h2,hk=>by show bindC aaC ((p,w)::P.zip vs) m x=_;unfold bindC;exact vX (i:=i) (Yy.mp nd).2 (by simpa using h1) (by simpa using h2) hk
noncomputable def start(N:List Str)(vs:List V):St:=vs.map Δ++XW (N.length - vs.length) Θ
noncomputable def xn(CX:Hv)(P:Xy)(w:World)(K:WO)(mg:Str->Option Value)(base:Heap)(N:List Str)(qual:Str)(scope:Scope)(f:Addr)(cd:Value)(A:Yc)(outer:List Env)(s:WU)(H:Hp)(E:XK):Cx where
 prog:=P
 w:=w
 K:=K
 mg:=mg
 base:=base
 A:=A.deeper (abn qual scope s.heap.objs.size f cd)
 N:=N
 gO:=s
 yB:=H
 env:=abn qual scope s.heap.objs.size f cd
 outer:=outer
 stack:=abn qual scope s.heap.objs.size f cd::outer
 ex:=[]
 calm:=Λ
 fn:=λ_=>Λ
 pn:=[]
 xe:=λe s'=>wpAny (model P w) (A.deeper (abn qual scope s.heap.objs.size f cd)) (leaving (abn qual scope s.heap.objs.size f cd) e) (λ_ LC=>CX outer H s E e LC) (λe' LC=>CX outer H s E e' LC) s'
theorem sA{sc:Scope}(h:sc.names.lookup x=Δ .cell):∃c,(cellsFrom n sc.names []).lookup x=Δ c:=by have q:=PySem.W.cellsFrom_some sc.names n [] (.inl h);exact Option.isSome_iff_exists.mp q
theorem Dt{K:WO}(S:ba N ps scope)(hd:A.handled=Θ)(e0:xm P w K mg base A outer s H)(hl:vs.length=ps.length)(r:aO vs us)(x:InCallC s s.heap.objs.size (bindL (abn qual scope s.heap.objs.size f cd).kindOf (ps.zip us) λ_=>Θ) (cellsFrom (s.heap.objs.size+1) scope.names []) (bindC (abn qual scope s.heap.objs.size f cd).kindOf (ps.zip us) λ_=>Θ) s1):
  Inv (xn CX P w K mg base N qual scope f cd A outer s H E) [] (start N vs) H s1:=by
 have yq:ps.length<=N.length:=by have:=congrArg abJ S.pre;rw[YH] at this;lia
 obtain⟨h1,tk,rfl,hk⟩:=x.done;have Hw:∀b:Addr,b∉(xn CX P w K mg base N qual scope f cd A outer s H E).ex:=λb z=>absurd (show b∈([]:List Addr) from z) (by simp);refine⟨⟨e0.mod,S.kind,rfl,rfl,WM _,λy z c h1 h2=>?_,λy hy=>?_,λy c _ h=>?_,λ_=>hd,Yc.frames_deeper e0.frames,.inr ⟨rfl,rfl⟩,λb z=>absurd z (Hw b),e0.bs,e0.EE,λb _ _=>Hw b,λb z=>absurd z (Hw b),e0.mB,e0.HJ⟩,
  rfl,e0.bare,Un.kept hk,⟨_,x.toInCall.ns,λi y v h1 h2 h3=>?_⟩,λy c h=>⟨_,x.cell y c h⟩,e0.aK.fresh (WM _),λy c h=>?_,λp hp=>absurd (show p∈([]:List (Addr×Obj)) from hp) (by simp),e0.aK.kept hk,?_⟩
 ·exact name_of_addr x.apart (Xq h1) (Xq h2)
 ·have hy:scope.names.lookup y=Δ .cell\/scope.names.lookup y=Δ .free:=hy;rcases hy with hy|hy;·exact sA hy
  ·exact absurd rfl (S.LB _ (Xq hy))
 ·exact aaq (x.above y c (Xq h))
 ·have hi:i < vs.length:=by
   unfold start at h2;by_cases hi:i < vs.length;·exact hi
   ·rw[W5 (by simpa using hi)] at h2;rw[Zu] at h2;split at h2<;>cases h2
  have ha:vs[i]?=Δ v:=by unfold start at h2;rw[WK (by simpa using hi),WL] at h2;cases e:vs[i]? with|none=>rw[e] at h2;cases h2|some a=>rw[e] at h2;cases h2;rfl
  obtain⟨u,hu,rv⟩:=r.get ha;have hp:ps[i]?=Δ y:=by rw[<-S.pre,List.getElem?_take_of_lt (by lia)];exact h1
  have Sb:ps.Nodup:=by rw[<-S.pre];exact S.nd.sublist (List.take_sublist _ _)
  refine⟨u,rv,?_⟩;rcases S.par y (W6 hp) with k|k;·exact .inl ⟨k,vW Sb hp hu k⟩
  ·obtain⟨c,e⟩:=sA (n:=s.heap.objs.size+1) k;refine .inr ⟨.inl k,c,e,?_⟩;have q:=x.cell y c e;rw[vX Sb hp hu (by show scope.names.lookup y≠_;rw[k];decide)] at q;exact q
 ·exact e0.aK.fresh (aaq (x.above y c (Xq h)))
 ·unfold start;show _=N.length;rw[W1,WJ,ZJ]
  lia
theorem O7{K:WO}{dV kV doc pm kh ct oc:Value}(lk:K.lookup f=Δ ⟨oc,od,.func (aak name qual params body scope dV kV doc pm an kh ct),Ic⟩)(qf:abG K kh qual=Λ)(S:ba N ps scope)(len:∀vs H Q E,sp vs H Q E->vs.length=ps.length)(sC:∀(A:Yc) (outer:List Env) (s:WU) (H:Hp) (vs:List V) (Q:VK) (E:XK),cY k (A.deeper (abn qual scope s.heap.objs.size f kh))->sp vs H Q E->
   ∃t,mC (xn CX P w K mg base N qual scope f kh A outer s H E) body t/\t {nx:=λ_ H'=>Q .bz H',rt:=Q} (start N vs) H):
  gz P w K mg base CX (k+1) f (aak name qual params body scope dV kV doc pm an kh ct) ps sp:=by
 refine⟨len,λA outer s H args us vs Q E hr e0 hb r xo=>?_⟩;have hl:=len _ _ _ _ xo;have KX:K.In s.heap:=e0.mod.Ld.keeps λb o e=>(e0.bs b o e).1;have lim:s.heap.NoLimit:=e0.mod.nolimit.keeps λb o e=>(e0.bs b o e).1;have Fe:∀y∈ps.zip us,scope.names.lookup y.1=Δ .local\/(scope.names.lookup y.1=Δ .cell/\((cellsFrom (s.heap.objs.size+1) scope.names []).lookup y.1).isSome=Λ):=λ⟨n,v⟩ hy=>by
  rcases S.par n (ZC hy).1 with q|q;·exact .inl q
  ·exact .inr ⟨q,PySem.W.cellsFrom_some _ _ _ (.inl q)⟩
 refine codeAny_call_function hr.depth (KX _ _ lk) rfl S.co S.gen rfl (PySem.W.codeRec_of KX qf) (hb _ _ _ _ ?_);refine wpAny_newFunctionEnv_cells S.kind Fe λenv he s1 x=>?_;subst he;refine⟨lim.keeps x.toInCall.keep,codeAny_func ?_⟩;obtain⟨t,ht,hq⟩:=sC A outer s H vs Q E (hr.deeper _) xo;have I:Inv (xn CX P w K mg base N qual scope f kh A outer s H E) [] (start N vs) H s1:=Dt S hr.hd e0 hl r x;refine Yh (ht [] s1 (start N vs) H _ I hq) (λfl s' hs=>?_) λe s' hs=>hs;have fin:∀{cT:St} {H':Hp} {v:V} {u:Value},Inv (xn CX P w K mg base N qual scope f kh A outer s H E) [] cT H' s'->RelV v u->Q v H'->CE outer P w H s Q u s':=
  λ{cT H' v u} J rv q=>⟨v,H',J.os,J.bare,J.base,J.aK,rv,q⟩
 cases fl with|ret u=>obtain⟨v,cT,H',J,rv,q⟩:=hs;exact fin J rv q|next=>obtain⟨cT,H',J,q⟩:=hs;exact fin (v:=V.bz) (u:=YG) J rfl q|brk=>obtain⟨_,_,_,q⟩:=hs;exact XT q|cont=>obtain⟨_,_,_,q⟩:=hs;exact XT q
section
variable{X:Cx}{x:Str}{p pos:Pos}{e:Expr}{es:List Expr}{t:TA}{id T:String}{r:List V->Hp->VK->Prop}
noncomputable def T4(r:List V->Hp->VK->Prop)(t:TA):TE:=λσ H Q=>t σ H λvs H1=>r vs H1 Q
theorem ji(hc:fL X (.builtin id) r)(hg:Gl X x)(hm:X.mg x=Θ)(hv:ZO x=Δ (.builtin id))(ha:PA X (e::es) t)(hn:x≠"__name__":=by decide)(HZ:(x==("__debug__":Str))=Ξ:=by decide)
  (he:Xf (e::es) X.env=(Ξ,eval e X.env)::Xf es X.env:=by rfl) (yq:(YL pos (Xf es X.env)).any (·.1)=Ξ:=by rfl):PE X (.Call (.Name x p) (e::es) [] pos) (T4 r t):=by
 intro η s σ H Q I h;refine X6 (ja I hg hm hv ?_ hn HZ);exact PyProof.Rows.callWith_builtin1 (bQ (ha pos η s σ H _ I h) λus s1 ⟨vs,H1,I1,r1,q1⟩=>hc η s1 σ H1 vs us Q I1 r1 q1) he yq
theorem lD(hc:fL X (.type T) r)(hg:Gl X x)(hm:X.mg x=Θ)(hv:ZO x=Δ (.type T))(ha:PA X (e::es) t)(hn:x≠"__name__":=by decide)(HZ:(x==("__debug__":Str))=Ξ:=by decide)
  (he:Xf (e::es) X.env=(Ξ,eval e X.env)::Xf es X.env:=by rfl) (yq:(YL pos (Xf es X.env)).any (·.1)=Ξ:=by rfl):PE X (.Call (.Name x p) (e::es) [] pos) (T4 r t):=by
 intro η s σ H Q I h;refine X6 (ja I hg hm hv ?_ hn HZ);exact Xx (bQ (ha pos η s σ H _ I h) λus s1 ⟨vs,H1,I1,r1,q1⟩=>hc η s1 σ H1 vs us Q I1 r1 q1) he yq
end
end L2
namespace HT
open PySem PyProof.Rows
section
open PySem.SeqAt
open PySem.AutoSeq1 (wpAny_loadPart')
open PySem.MeetsSeq PySem.MeetsSeq2 PySem.MeetsSeq3
end
section
variable{prog:Xy}{w:World}{A:Yc}{E:Value->WU->Prop}{s:WU}
theorem Ie(ht:IsTup s.heap t vs.toArray)(hb:IsTup s.heap b ws.toArray)(hv:vs≠[])(h1:ws=[]->Q (.ref t) s)(h2:ws≠[]->Q (.ref s.heap.objs.size) {s with heap:=s.heap.push {cls:=.type "tuple",data:=.seq (vs++ws).toArray}})(hsz:vs.length+ws.length<=W8):wpAny (model prog w) A (Y4 .Add (.ref t) (.ref b)) Q E s:=by
 obtain⟨⟨cls,dd,data,sl⟩,ho,hc,n,hd⟩:=id ht;obtain⟨⟨T5,Sd,data2,Se⟩,Hx,O8,n2,hd2⟩:=id hb;simp only at hc hd O8 hd2;subst hc hd O8 hd2;have e:vs.toArray++ws.toArray=(vs++ws).toArray:=by simp
 by_cases hw:ws=[]
 ·exact ab0 ⟨_,ho,rfl⟩ ⟨_,Hx,rfl⟩ abe abT aam aaf (ZZ _ _)
   (tuple_addW1 t b vs.toArray ws.toArray n n2 dd Sd sl Se (by simpa using hv) (by simp[hw])) ⟨ho,Hx,h1 hw⟩
 ·refine ab0 ⟨_,ho,rfl⟩ ⟨_,Hx,rfl⟩ abe abT aam aaf (ZZ _ _)
   (tuple_addW2 t b vs.toArray ws.toArray n n2 dd Sd sl Se (by simpa using hv) (by simpa using hw) (by rw[WX,WX];exact hsz)) ⟨ho,Hx,?_⟩
  rw[e];exact h2 hw
noncomputable def Bb(n d:Nat):Option Int->Nat
 |none=>d|some v=>if v < 0 then(v+(n:Int)).toNat else min v.toNat n
end
end HT
namespace L2
open PySem PySem.Spec PyProof.Rows
abbrev TO:=St->Hp->(Option Int->Hp->Prop)->Prop
noncomputable def PO(X:Cx)(e:Option Expr)(t:TO):Prop:=
 ∀(η:List (Addr×Obj)) (s:WU) (σ:St) (H:Hp) (Q:Option Int->Hp->Prop),Inv X η σ H s->t σ H Q->
  wpAny (model X.prog X.w) X.A (evalPart e X.env) (λu s'=>∃o H',Inv X η σ H' s'/\IsPart u o/\Q o H') X.xe s
def Ig:TO:=λ_ H Q=>Q Θ H
noncomputable def O9(t:TE):TO:=λσ H Q=>t σ H λx H1=>∃i,x=.int i/\Q (Δ i) H1
section
variable{X:Cx}{e:Expr}{te:TE}{lo hi:Option Expr}{tl th:TO}{pos p2:Pos}
theorem Ih:PO X Θ Ig:=by intro η s σ H Q I h;rw[evalPart_none];exact W0 ⟨Θ,H,I,.none,h⟩
theorem Ii(h:PE X e te):PO X (Δ e) (O9 te):=by intro η s σ H Q I hw;rw[evalPart_some];refine bQ (h η s σ H _ I hw) λu s1 ⟨x,H1,I1,r1,q1⟩=>?_;obtain⟨i,rfl,q⟩:=q1;obtain⟨t,rfl⟩:=r1;exact⟨Δ i,H1,I1,.int i t,q⟩
def SlR(X:Cx)(r:V->Option Int->Option Int->Hp->VK->Prop):Prop:=
 ∀(η:List (Addr×Obj)) (s:WU) (σ:St) (H:Hp) (x:V) (v vl vu:Value) (lo hi:Option Int) (sl:Addr) (Q:VK),Inv X η σ H s->RelV x v->s.heap.IsSliceOf sl vl vu .none->IsPart vl lo->IsPart vu hi->r x lo hi H Q->
  ∃T id,acj (.type T) "__getitem__"=pure (Δ (.builtin id))/\s.TypeIs v T/\wpAny (model X.prog X.w) X.A (abN v (.ref sl)) (EP X η σ Q) X.xe s
def Ij(xs:List V)(lo hi:Option Int):List V:=(xs.drop (HT.Bb xs.length 0 lo)).take (HT.Bb xs.length xs.length hi - HT.Bb xs.length 0 lo)
theorem yG xs lo hi:(Ij xs lo hi).length<=xs.length:=by
 unfold Ij;rw[YH,List.length_drop]
 lia
def Pa(K:WO):R2:=λx y H Q=>∃a b xs ys,x=.ref a/\y=.ref b/\fK K H a xs/\fK K H b ys/\xs≠[]/\xs.length+ys.length<=W8/\
 (ys=[]->Q (.ref a) H)/\(ys≠[]->∀p,H p=Θ->Q (.ref p) (upd H p (.tup (xs++ys))))
theorem aO.nF(r:aO xs us):us=[]↔xs=[]:=by cases r with|nil=>simp|cons _ _=>simp
theorem Ik:jZ X (Y4 .Add) (Pa X.K):=by intro η s σ H x y v u Q I rx ry h;obtain⟨a,b,xs,ys,rfl,rfl,ha,hb,hx,hz,q1,q2⟩:=h;cases rx;cases ry;obtain⟨its,r1,p1,_⟩:=I.tuple ha;obtain⟨Ff,r2,p2,_⟩:=I.tuple hb;refine HT.Ie p1 p2 (λz=>hx (r1.nF.mp z)) (λz=>⟨.ref a,H,I,rfl,q1 (r2.nF.mp z)⟩) (λz=>?_) (by rw[<-r1.length,<-r2.length];exact hz);refine⟨.ref s.heap.objs.size,_,I.laid (t':=s.toks) (o:=.tup (xs++ys)) (λb ob q=>WA _ q) (WM _) ?_,rfl,q2 (λw=>z (r2.nF.mpr w)) _ (I.aK.fresh (WM _))⟩;exact⟨by rw[W1];exact hz,_,r1.append r2,IsTup.new _ _⟩
end
noncomputable def Bc(n:Nat)(i:Int):Option Nat:=if 0<=i then(if i < n then Δ i.toNat else Θ) else if -(n:Int)<=i then Δ (i+n).toNat else Θ
def mf{α:Type}(xs:List α)(i:Int):Option α:=(Bc xs.length i).bind λj=>xs[j]?
theorem Ck(h:Bc n i=Δ j):seqIndex? i n=Δ j/\j < n/\ -(n:Int)<=i/\i < n:=by
 unfold Bc at h;by_cases h0:0<=i
 ·rw[if_pos h0] at h;by_cases h1:i < n;·rw[if_pos h1] at h;have e:i.toNat=j:=Xj h;exact⟨by rw[acd h0 h1,e],by lia,by lia,h1⟩
  ·rw[if_neg h1] at h;cases h
 ·rw[if_neg h0] at h;by_cases h1: -(n:Int)<=i;·rw[if_pos h1] at h;have e:(i+n).toNat=j:=Xj h;exact⟨by rw[abZ (by lia) h1,e],by lia,h1,by lia⟩
  ·rw[if_neg h1] at h;cases h
theorem Cm(h:mf xs i=Δ v):∃j,seqIndex? i xs.length=Δ j/\xs[j]?=Δ v/\j < xs.length/\ -(xs.length:Int)<=i/\i < xs.length:=by unfold mf at h;cases e:Bc xs.length i with|none=>rw[e] at h;cases h|some j=>rw[e] at h;obtain⟨h1,h2,h3,h4⟩:=Ck e;exact⟨j,h1,h,h2,h3,h4⟩
noncomputable def Cn(b:Expr):Prop:=∀o i,abC b Ξ o i=operate [o,i] (abN o i)
def Ki(X:Cx)(r:R2):Prop:=
 ∀(value slice:Expr) (η:List (Addr×Obj)) (s:WU) (σ:St) (H:Hp) (x y:V) (v u:Value) (Q:VK),Inv X η σ H s->RelV x v->RelV y u->r x y H Q->
  abC slice Ξ v u=operate [v,u] (abN v u)->wpAny (model X.prog X.w) X.A (abS value slice v u) (EP X η σ Q) X.xe s
def MtR(X:Cx)(id:String)(r:V->List V->Hp->VK->Prop):Prop:=
 ∀(η:List (Addr×Obj)) (s:WU) (σ:St) (H:Hp) (x:V) (xs:List V) (v:Value) (us:List Value) (Q:VK),Inv X η σ H s->RelV x v->aO xs us->r x xs H Q->
  wpAny (model X.prog X.w) X.A (call (.builtin id) (v::us)) (EP X η σ Q) X.xe s
section
variable{X:Cx}{a b:Expr}{ta tb:TE}{pos:Pos}
theorem Ki.or(h:Ki X r)(h':Ki X r'):Ki X (λx y H Q=>r x y H Q\/r' x y H Q):=by
 intro value slice η s σ H x y v u Q I rx ry q hs;rcases q with q|q;·exact h value slice η s σ H x y v u Q I rx ry q hs
 ·exact h' value slice η s σ H x y v u Q I rx ry q hs
theorem Pb(hr:Ki X r)(ha:PE X a ta)(hb:PE X b tb)(hs:Cn b):PE X (.Subscript a b pos) (OU r ta tb):=by intro η s σ H Q I h;exact Subscript_ (Lp ha hb I h λv u s2 x y H2 I2 rx ry q=>hr a b η s2 σ H2 x y v u Q I2 rx ry q (hs _ _))
def T6(K:WO):R2:=λx y H Q=>∃p xs i v,x=.ref p/\y=.int i/\ke K H p xs/\mf xs i=Δ v/\Q v H
def T7(K:WO):R2:=λx y H Q=>∃p xs i v,x=.ref p/\y=.int i/\fK K H p xs/\mf xs i=Δ v/\Q v H
theorem Il:Ki X (T6 X.K):=by
 intro value slice η s σ H x y v u Q I rx ry h hs;obtain⟨p,xs,i,z,rfl,rfl,hq,he,q⟩:=h;cases rx;obtain⟨t,rfl⟩:=ry;obtain⟨its,r,pl,hz⟩:=I.list hq;obtain⟨j,h1,h2,h3,h4,h5⟩:=Cm he;obtain⟨w,ew,mI⟩:=r.get h2;have hl:=r.length;have hn:=oS;have fin:EP X η σ Q w s:=⟨z,H,I,mI,q⟩;by_cases h0:0<=i
 ·have hj:i.toNat=j:=by rw[acd h0 h5] at h1;exact Xj h1
  exact item_listR pl.isList h0 (by lia) (by rw[hj];simpa using ew) fin hs
 ·have hj:(i+(its.toArray.size:Int)).toNat=j:=by rw[abZ (by lia) h4] at h1;rw[WX,<-hl];exact Xj h1
  exact subscriptTail_builtinR (x:=w) pl.isList.typeIs slot_list_getitem.lookup
   (wpAny_getItem_list_neg (Q:=λr s'=>r=w/\EP X η σ Q r s') pl.isList (by lia) (by rw[WX]<;>lia) (by lia) (by rw[hj];simpa using ew) ⟨rfl,fin⟩) hs
theorem LD:Ki X (T7 X.K):=by
 intro value slice η s σ H x y v u Q I rx ry h hs;obtain⟨p,xs,i,z,rfl,rfl,hq,he,q⟩:=h;cases rx;obtain⟨t,rfl⟩:=ry;obtain⟨its,r,pl,hz⟩:=I.tuple hq;obtain⟨j,h1,h2,h3,h4,h5⟩:=Cm he;obtain⟨w,ew,mI⟩:=r.get h2;have hl:=r.length;have hn:=oS;have fin:EP X η σ Q w s:=⟨z,H,I,mI,q⟩;exact subscriptTail_builtinR (x:=w) pl.typeIs slot_tuple_getitem.lookup
  (getItem_tuple (j:=j) (Q:=λr s'=>r=w/\EP X η σ Q r s') pl (by lia) (by lia) (by rw[WX,<-hl];exact h1) (by simpa using ew) ⟨rfl,fin⟩) hs
theorem Bd(its:List Value)n j u:XB (·.setIfInBounds j u) {cls:=.type "list",data:=.seq its.toArray n}={cls:=.type "list",data:=.seq (its.set j u).toArray n}:=by simp[XB]
theorem Inv.lst(I:Inv X η σ H s)(h:H p=Δ (.lst xs)):
  ∃(its:List Value) (n:Nat),aO xs its/\s.heap.get? p=Δ {cls:=.type "list",data:=.seq its.toArray n}/\xs.length<=W8:=by
 obtain⟨z,its,n,r,e⟩:=I.aK p _ h;exact⟨its,n,r,e,z⟩
theorem Inv.LF{its its':List Value}(I:Inv X η σ H s)(h:H p=Δ (.lst xs))(ho:s.heap.get? p=Δ {cls:=.type "list",data:=.seq its.toArray n})(hf:f {cls:=.type "list",data:=.seq its.toArray n}={cls:=.type "list",data:=.seq its'.toArray n'})(r:aO ys its')(hz:ys.length<=W8)t:
  Inv X η σ (upd H p (.lst ys)) {s with heap:=s.heap.update p f,toks:=t}:=by
 have e:(s.heap.update p f).get? p=Δ {cls:=.type "list",data:=.seq its'.toArray n'}:=by rw[YC f ho (by rw[hf]<;>rfl),hf]
 refine I.write (x:=p) (e:=p) (by rw[h];trivial) (.inl rfl) (λb u hb q=>(XS _ _ (XC hb)).trans q) ⟨_,e⟩ ?_;exact⟨hz,its',n',r,e⟩
def Pc:V->V->V->Hp->(Hp->Prop)->Prop:=λo i v H Q=>∃p xs k j,o=.ref p/\i=.int k/\H p=Δ (.lst xs)/\Bc xs.length k=Δ j/\Q (upd H p (.lst (xs.set j v)))
theorem set_list:Dj X Pc:=by
 intro η s σ H o i v ov iv u Q I ro ri rv h;obtain⟨p,xs,k,j,rfl,rfl,hp,hj,q⟩:=h;cases ro;obtain⟨t,rfl⟩:=ri;obtain⟨its,n,r,ho,hz⟩:=I.lst hp;obtain⟨h1,h2,h3,h4⟩:=Ck hj;have hl:=r.length;have hn:=oS;have I':Inv X η σ (upd H p (.lst (xs.set j v))) {s with heap:=s.heap.update p (XB (·.setIfInBounds j u))}:=
  I.LF hp ho (Bd its n j u) (r.set rv j) (by rw[Ye];exact hz) s.toks
 by_cases h0:0<=k
 ·have hk:k.toNat=j:=by rw[acd h0 h4] at h1;exact Xj h1
  exact PySem.W.ki_setAt ho h0 (by lia) (by rw[WX,<-hl];exact h4) (by rw[hk];exact⟨_,I',q⟩)
 ·have hk:(k+(its.toArray.size:Int)).toNat=j:=by rw[abZ (by lia) h3] at h1;rw[WX,<-hl];exact Xj h1
  exact PySem.W.ki_setBack ho (by lia) (by rw[WX,<-hl];exact h3) (by lia) (by rw[hk];exact⟨_,I',q⟩)
theorem xp lo hi n:(aac lo hi Θ n).1=((HT.Bb n 0 lo:Nat):Int)/\(aac lo hi Θ n).2.1=((HT.Bb n n hi:Nat):Int)/\(aac lo hi Θ n).2.2=1:=by
 refine⟨?_,?_,rfl⟩
 ·cases lo with
  |none=>simp[aac,HT.Bb]|some i=>
   simp only[aac,HT.Bb,abg,show(1:Int) > 0 by decide,if_true];by_cases h:i < 0;·simp only[h,if_true]<;>lia
   ·simp only[h,if_false]<;>lia
 ·cases hi with
  |none=>simp[aac,HT.Bb]|some i=>
   simp only[aac,HT.Bb,abg,show(1:Int) > 0 by decide,if_true];by_cases h:i < 0;·simp only[h,if_true]<;>lia
   ·simp only[h,if_false]<;>lia
theorem u7(its:List Value)lo hi:slicePick its.toArray lo hi Θ=((its.drop (HT.Bb its.length 0 lo)).take (HT.Bb its.length its.length hi - HT.Bb its.length 0 lo)).toArray:=by obtain⟨h1,h2,h3⟩:=xp lo hi its.toArray.size;unfold slicePick;rw[h1,h2,h3];simp only[sliceRange_one,pick_run,WX]<;>rfl
def T8(K:WO):V->Option Int->Option Int->Hp->VK->Prop:=λx lo hi H Q=>∃a xs,x=.ref a/\ke K H a xs/\∀p,H p=Θ->Q (.ref p) (upd H p (.lst (Ij xs lo hi)))
theorem Sf:SlR X (T8 X.K):=by intro η s σ H x v vl vu lo hi sl Q I rx hs pl pu h;obtain⟨a,xs,rfl,hx,q⟩:=h;cases rx;obtain⟨its,r,ht,hz⟩:=I.list hx;have hlen:=r.length;refine⟨"list",_,slot_list_getitem.lookup,ht.isList.typeIs,?_⟩;refine wpAny_getItem_list_slice ht.isList hs pl pu .none (by simp) ?_ (by rw[WX]<;>lia);rw[u7,<-hlen];refine⟨.ref s.heap.objs.size,_,I.laid (t':=s.toks) (o:=.lst (Ij xs lo hi)) (λb ob q=>WA _ q) (WM _) ?_,rfl,q _ (I.aK.fresh (WM _))⟩;exact⟨Xo (yG xs lo hi) hz,_,0,(r.drop (HT.Bb xs.length 0 lo)).take (HT.Bb xs.length xs.length hi - HT.Bb xs.length 0 lo),WR _ rfl⟩
noncomputable def mh:V->Bool
 |.bz=>Λ|.bl _=>Λ|.int _=>Λ|.str _=>Λ|_=>Ξ
noncomputable def Im:V->V->Bool
 |.bz,.bz=>Λ|.bl a,.bl b=>a==b|.bl a,.int b=>(if a then 1 else 0)==b|.int a,.bl b=>a==(if b then 1 else 0)|.int a,.int b=>a==b|.str a,.str b=>a==b|_,_=>Ξ
theorem LG(ry:RelV y u)(rx:RelV x v)(fy:mh y=Λ)(fx:mh x=Λ):SeqAt.EqAt A s u v (Im y x):=by
 cases y with
 |bz=>cases ry;cases x with|bz=>cases rx;exact SeqAt.EqAt.same _|bl b=>cases rx;exact SeqAt.EqAt.none_bool b|int b=>obtain⟨t,rfl⟩:=rx;exact SeqAt.EqAt.none_int b t|str b=>obtain⟨t,rfl⟩:=rx;exact SeqAt.EqAt.none_str b t|_=>exact absurd (show Ξ=Λ from fx) Xw
 |bl a=>cases ry;cases x with|bz=>cases rx;exact SeqAt.EqAt.bool_none a|bl b=>cases rx;exact SeqAt.EqAt.bool_bool a b|int b=>obtain⟨t,rfl⟩:=rx;exact SeqAt.EqAt.bool_int a b t|str b=>obtain⟨t,rfl⟩:=rx;exact SeqAt.EqAt.bool_str a b t|_=>exact absurd (show Ξ=Λ from fx) Xw
 |int a=>obtain⟨t',rfl⟩:=ry;cases x with|bz=>cases rx;exact SeqAt.EqAt.int_none a t'|bl b=>cases rx;exact SeqAt.EqAt.int_bool a t' b|int b=>obtain⟨t,rfl⟩:=rx;exact SeqAt.EqAt.int_int a t' b t|str b=>obtain⟨t,rfl⟩:=rx;exact SeqAt.EqAt.int_str a t' b t|_=>exact absurd (show Ξ=Λ from fx) Xw
 |str a=>obtain⟨t',rfl⟩:=ry;cases x with|bz=>cases rx;exact SeqAt.EqAt.str_none a t'|bl b=>cases rx;exact SeqAt.EqAt.str_bool a t' b|int b=>obtain⟨t,rfl⟩:=rx;exact SeqAt.EqAt.str_int a t' b t|str b=>obtain⟨t,rfl⟩:=rx;exact SeqAt.EqAt.str_str a t' b t|_=>exact absurd (show Ξ=Λ from fx) Xw
 |_=>exact absurd (show Ξ=Λ from fy) Xw
def Be(x:V)(u:Value):Bool:=match u with|.none=>Im .bz x|.bool b=>Im (.bl b) x|.int i _=>Im (.int i) x|.str z _=>Im (.str z) x|_=>Ξ
theorem Fg(r:RelV y u)(f:mh y=Λ):Be x u=Im y x:=by cases y with|bz=>cases r;rfl|bl b=>cases r;rfl|int i=>obtain⟨t,rfl⟩:=r;rfl|str z=>obtain⟨t,rfl⟩:=r;rfl|_=>exact absurd (show Ξ=Λ from f) Xw
theorem nG:∀{xs} {us},aO xs us->xs.all mh=Λ->us.any (Be x)=xs.any λy=>Im y x
 |_,_,.nil,_=>rfl|y::xs,u::us,.cons r t,f=>by rw[ZE,WC] at f;rw[Y0,Y0,Fg r f.1,nG t f.2]
theorem kq(rx:RelV x v)(fx:mh x=Λ):∀{xs} {us},aO xs us->xs.all mh=Λ->∀u∈us,SeqAt.EqAt A s u v (Be x u)
 |_,_,.nil,_=>λu hu=>by cases hu|y::xs,u::us,.cons r t,f=>λu' hu=>by
  rw[ZE,WC] at f;rcases Z3.mp hu with rfl|hu;·rw[Fg r f.1];exact LG r rx f.1 fx
  ·exact kq rx fx t f.2 u' hu
def Sg(x:V)(xs:List V):Bool:=xs.any λy=>Im y x
def Pd(K:WO)(neg:Bool):R2:=λx y H Q=>∃p xs,y=.ref p/\(ke K H p xs\/fK K H p xs)/\mh x=Λ/\xs.all mh=Λ/\Q (.bl (if neg then !Sg x xs else Sg x xs)) H
theorem Du:jZ X (X4 .In) (Pd X.K Ξ):=by
 intro η s σ H x y v u Q I rx ry h;obtain⟨p,xs,rfl,hq,fx,fs,q⟩:=h;cases ry;rcases hq with hq|hq;·obtain⟨its,r,pl,hz⟩:=I.list hq;refine SeqAt.in_listAt (Be x) pl.isList (λw hw=>kq rx fx r fs w (by simpa using hw)) ⟨.bl _,H,I,rfl,?_⟩;rw[show its.toArray.any (Be x)=its.any (Be x) by simp,nG r fs];exact q
 ·obtain⟨its,r,pl,hz⟩:=I.tuple hq;refine SeqAt.in_tupleAt (Be x) pl (λw hw=>kq rx fx r fs w (by simpa using hw)) ⟨.bl _,H,I,rfl,?_⟩;rw[show its.toArray.any (Be x)=its.any (Be x) by simp,nG r fs];exact q
theorem xq:jZ X (X4 .NotIn) (Pd X.K Λ):=by
 intro η s σ H x y v u Q I rx ry h;obtain⟨p,xs,rfl,hq,fx,fs,q⟩:=h;cases ry;rcases hq with hq|hq;·obtain⟨its,r,pl,hz⟩:=I.list hq;refine SeqAt.notIn_listAt (Be x) pl.isList (λw hw=>kq rx fx r fs w (by simpa using hw)) ⟨.bl _,H,I,rfl,?_⟩;rw[show its.toArray.any (Be x)=its.any (Be x) by simp,nG r fs];exact q
 ·obtain⟨its,r,pl,hz⟩:=I.tuple hq;refine SeqAt.notIn_tupleAt (Be x) pl (λw hw=>kq rx fx r fs w (by simpa using hw)) ⟨.bl _,H,I,rfl,?_⟩;rw[show its.toArray.any (Be x)=its.any (Be x) by simp,nG r fs];exact q
theorem xt:fL X (.builtin "len") (λxs H Q=>∃p ys,xs=[.ref p]/\(ke X.K H p ys\/fK X.K H p ys)/\Q (.int ys.length) H):=by
 intro η s σ H xs us Q I r h;obtain⟨p,ys,rfl,hq,q⟩:=h;obtain⟨u,rfl,rx⟩:=vals1 r;cases rx;have hn:=oS;rcases hq with hq|hq;·obtain⟨its,r',pl,hz⟩:=I.list hq;have hlen:=r'.length;exact Calls.call_len_list pl.isList (by simp only[WX]<;>lia) ⟨.int ys.length,H,I.tok _,⟨s.toks+1,by rw[WX,hlen]⟩,q⟩
 ·obtain⟨its,r',pl,hz⟩:=I.tuple hq;have hlen:=r'.length;exact len_tuple pl (by simp only[WX]<;>lia) ⟨.int ys.length,H,I.tok _,⟨s.toks+1,by rw[WX,hlen]⟩,q⟩
theorem xu:fL X (.builtin "len") (λxs H Q=>∃z,xs=[.str z]/\z.length<=W8/\Q (.int z.length) H):=by intro η s σ H xs us Q I r h;obtain⟨z,rfl,hz,q⟩:=h;obtain⟨u,rfl,t,rfl⟩:=vals1 r;have hn:=oS;exact len_str (by lia) ⟨.int z.length,H,I.tok _,⟨_,rfl⟩,q⟩
theorem u9:fL X (.type "tuple") (λxs H Q=>∃p ys,xs=[.ref p]/\((ke X.K H p ys/\∀l,H l=Θ->Q (.ref l) (upd H l (.tup ys)))\/(fK X.K H p ys/\Q (.ref p) H))):=by
 intro η s σ H xs us Q I r h;obtain⟨p,ys,rfl,h⟩:=h;obtain⟨u,rfl,rx⟩:=vals1 r;cases rx;rcases h with ⟨hq,q⟩|⟨hq,q⟩
 ·obtain⟨its,r',pl,hz⟩:=I.list hq;have hlen:=r'.length;refine call_tuple_list pl.isList (λh' kp=>?_) (by simp only[WX]<;>lia);have I1:Inv X η σ H {s with heap:=h'}:=I.kept (t':=s.toks) kp;have I2:Inv X η σ (upd H h'.objs.size (.tup ys)) {s with heap:=h'.push {cls:=.type "tuple",data:=.seq its.toArray}}:=
   I1.laid (t':=s.toks) (λb o e=>WA _ e) (WM _) (show bG X.prog X.w _ _ _ (.tup ys) from⟨hz,its,r',IsTup.new _ _⟩)
  exact⟨.ref h'.objs.size,_,I2,rfl,q _ (I1.aK.fresh (WM _))⟩
 ·obtain⟨its,r',pl,hz⟩:=I.tuple hq;exact call_tuple_same pl ⟨.ref p,H,I,rfl,q⟩
def T9(K:WO)(T:String)(x:V)(H:Hp):Prop:=match x with
 |.str _=>T="str"|.int _=>T="int"
 |.ref p=>(T="list"/\∃xs,ke K H p xs)\/(T="tuple"/\∃o,K.lookup p=Δ o/\o.cls=.type "tuple"/\o.dict=Θ)\/
   (T="dict"/\((∃kvs,H p=Δ (.dK kvs))\/∃kvs,H p=Δ (.dT kvs)))\/(T="set"/\∃S n,H p=Δ (.set S n))
 |_=>False
theorem Fh(I:Inv X η σ H s)(r:RelV x v)(ty:T9 X.K T x H):
  s.TypeIs v T/\∀a,v=.ref a->∃ob,s.heap.get? a=Δ ob/\ob.dict=Θ:=by
 cases x with
 |str z=>obtain⟨t,rfl⟩:=r;cases (show T="str" from ty);exact⟨typeIs_str s z t,λ_ e=>nomatch e⟩|int i=>obtain⟨t,rfl⟩:=r;cases (show T="int" from ty);exact⟨aaA s i t,λ_ e=>nomatch e⟩|ref p=>
  cases r;rcases ty with ⟨rfl,xs,hq⟩|⟨rfl,o,hk,hc,hd⟩|⟨rfl,hk⟩|⟨rfl,S,n,hk⟩
  ·obtain⟨its,_,pl,_⟩:=I.list hq;refine⟨pl.isList.typeIs,λa e=>?_⟩;cases e;obtain⟨o,n,e,c,hd,_⟩:=pl;exact⟨o,e,hd⟩
  ·refine⟨⟨o,I.nv p o hk,hc⟩,λa e=>?_⟩;cases e;exact⟨o,I.nv _ o hk,hd⟩
  ·have z:∃o,s.heap.get? p=Δ o/\o.ExactDict:=by
    rcases hk with ⟨kvs,hk⟩|⟨kvs,hk⟩
    ·obtain⟨_,_,_,_,o,_,_,e,ex,_⟩:=I.aK p _ hk;exact⟨o,e,ex⟩
    ·obtain⟨_,_,_,_,o,_,_,e,ex,_⟩:=I.aK p _ hk;exact⟨o,e,ex⟩
   obtain⟨o,e,ex⟩:=z;refine⟨⟨o,e,ex.1⟩,λa e2=>?_⟩;cases e2;exact⟨o,e,ex.2.1⟩
  ·obtain⟨o,_,_,_,e,ex,_⟩:=I.aK p _ hk;refine⟨⟨o,e,ex.1⟩,λa e2=>?_⟩;cases e2;exact⟨o,e,ex.2.1⟩
 |_=>exact XT ty
def Ua(K:WO)(T:String)(r:V->List V->Hp->VK->Prop)(to:TE):TE:=λσ H Q=>to σ H λx H1=>T9 K T x H1/\r x [] H1 Q
def tBM(K:WO)(T:String)(r:V->List V->Hp->VK->Prop)(to:TE)(t:TA):TE:=λσ H Q=>to σ H λx H1=>T9 K T x H1/\t σ H1 λxs H2=>r x xs H2 Q
variable{o e:Expr}{es:List Expr}{to:TE}{t:TA}{name:Str}{apos fR:Pos}{T id:String}{r:V->List V->Hp->VK->Prop}
theorem LH(pa:PlainAttrs T)(slot:Slot T name id)(Ub:typeOf (.builtin id)=pure (.type "method_descriptor"))(hm:MtR X id r)(ho:PE X o to)
  (yH:Zn o name X.env (eval o X.env)=eval o X.env:=by rfl) (g6:(apos.endLine==fR.line)=Λ:=by rfl):PE X (.Call (.Attribute o name apos) [] [] fR) (Ua X.K T r to):=by
 intro η s σ H Q I h;refine wpAny_Call_method0_late yH g6 (bQ (ho η s σ H _ I h) λv s1 ⟨x,H1,I1,r1,ty,q1⟩=>?_);obtain⟨h1,h2⟩:=Fh I1 r1 ty;exact⟨T,id,pa,slot,Ub,h1,h2,YX rfl (PySem.evalArgs_none (hm η s1 σ H1 x [] v [] Q I1 r1 .nil q1))⟩
theorem Pe(pa:PlainAttrs T)(slot:Slot T name id)(Ub:typeOf (.builtin id)=pure (.type "method_descriptor"))(hm:MtR X id r)(ho:PE X o to)(ha:PA X (e::es) t)
  (yH:Zn o name X.env (eval o X.env)=eval o X.env:=by rfl)
  (Uc:((YL fR (Xf (e::es) X.env)).all (λx=>!x.1)&&(aaH fR (Zx [] X.env)).all (λx=>x.1.isSome)
   &&decide ((e::es).length+([]:List aa4).length+(if([]:List aa4).isEmpty then 0 else 1) < 30))=Λ:=by rfl)
  (g6:(apos.endLine==fR.line)=Λ:=by rfl) (hs:Xf (e::es) X.env=(Ξ,eval e X.env)::Xf es X.env:=by rfl) (LI:(YL fR (Xf es X.env)).any (·.1)=Ξ:=by rfl):
  PE X (.Call (.Attribute o name apos) (e::es) [] fR) (tBM X.K T r to t):=by
 intro η s σ H Q I h;refine wpAny_Call_method_late yH Uc g6 rfl (bQ (ho η s σ H _ I h) λv s1 ⟨x,H1,I1,r1,ty,q1⟩=>?_);obtain⟨h1,h2⟩:=Fh I1 r1 ty;refine⟨T,id,pa,slot,Ub,h1,h2,?_⟩;have hA:=ha fR η s1 σ H1 _ I1 q1;rw[hs] at hA ⊢;refine YX (by show(Ξ||(YL fR (Xf es X.env)).any (·.1))=Ξ;rw[LI]<;>rfl) (aaK ?_);exact bQ hA λus s2 ⟨vs,H2,I2,r2,q2⟩=>hm η s2 σ H2 x vs v us Q I2 r1 r2 q2
end
def MtM(X:Cx)(id:String)(r:V->List V->Hp->VK->Prop):Prop:=
 ∀(η:List (Addr×Obj)) (s:WU) (σ:St) (H:Hp) (x:V) (xs:List V) (v:Value) (us:List Value) (Q:VK),Inv X η σ H s->RelV x v->aO xs us->r x xs H Q->
  wpAny (model X.prog X.w) X.A (call (.builtin id) (v::us)) (EP X η σ Q) X.xe s
theorem aO.one:∀{x} {us},aO [x] us->∃u,us=[u]/\RelV x u:=by intro x us h;cases h with|cons r t=>cases t with|nil=>exact⟨_,rfl,r⟩
theorem aO.zero:∀{us},aO [] us->us=[]
 |_,.nil=>rfl
theorem aO.dropLast(h:aO xs us):aO xs.dropLast us.dropLast:=by induction h with|nil=>exact .nil|cons r t ih=>cases t with|nil=>exact .nil|cons q t'=>exact .cons r ih
theorem Bg{α:Type}(l:List α):l.eraseIdx (l.length - 1)=l.dropLast:=by
 induction l with
 |nil=>rfl|cons a r ih=>
  cases r with
  |nil=>rfl|cons b r=>
   have e:(a::b::r).length - 1=((b::r).length - 1)+1:=by
    have h1:(a::b::r).length=r.length+2:=rfl;have h2:(b::r).length=r.length+1:=rfl
    lia
   rw[e,List.eraseIdx_cons_succ,ih];all_goals rfl
section
variable{X:Cx}{η:List (Addr×Obj)}{σ:St}{H:Hp}{s:WU}{l b:Addr}{xs ys zs:List V}
theorem Inv.Pf{its its':List Value}(I:Inv X η σ H s)(hH:H l=Δ (.lst xs))(e:s.heap.get? l=Δ {cls:=.type "list",data:=.seq its.toArray n})(hf:f its.toArray=its'.toArray)(hv:aO ys its')(hz:ys.length<=W8):
  Inv X η σ (upd H l (.lst ys)) {s with heap:=s.heap.update l (XB f),toks:=t'}:=by
 have q:=PySem.IsL.update e f;rw[hf] at q;refine I.write (x:=l) (e:=l) (by rw[hH];exact trivial) (.inl rfl) (λb' u hb hu=>(XS s.heap (XB f) (XC hb)).trans hu) ⟨_,q⟩ ?_;exact⟨hz,its',_,hv,q⟩
theorem Inv.Ud(I:Inv X η σ H s)(hv:aO ys its)(hz:ys.length<=W8):
  Inv X η σ (upd H s.heap.objs.size (.lst ys)) {s with heap:=s.heap.push {cls:=.type "list",data:=.seq its.toArray},toks:=t'}:=
 I.laid (λ_ _ q=>WA _ q) (WM _) ⟨hz,its,0,hv,WR _ rfl⟩
theorem Inv.fresh(I:Inv X η σ H s):H s.heap.objs.size=Θ:=I.aK.fresh (WM _)
theorem Inv.Pg(I:Inv X η σ H s)(hH:H l=Δ (.lst xs)):xs.length<=W8/\∃(its:List Value) (n:Nat),aO xs its/\xs.length=its.length/\s.heap.get? l=Δ {cls:=.type "list",data:=.seq its.toArray n}:=by obtain⟨z,its,n,r,e⟩:=I.aK l _ hH;exact⟨z,its,n,r,r.length,e⟩
end
section
variable{X:Cx}
def Io:V->List V->Hp->VK->Prop:=λx vs H Q=>∃l xs y,x=.ref l/\vs=[y]/\H l=Δ (.lst xs)/\xs.length < W8/\Q .bz (upd H l (.lst (xs++[y])))
theorem oV:MtM X "list.append" Io:=by
 intro η s σ H x vs v us Q I rx rv h;obtain⟨l,xs,y,rfl,rfl,hH,hz,q⟩:=h;cases rx;obtain⟨u,rfl,ru⟩:=rv.one;obtain⟨z,its,n,r,hl,e⟩:=I.Pg hH;refine Z8 F.slot_list_append ⟨_,e,rfl⟩ F.entry_list_append (F.args_list_append_2 _ _) (PySem.list_append l its.toArray n u (by rw[WX];lia)) ⟨e,?_⟩;refine⟨.bz,_,I.Pf (its':=its++[u]) hH e (by simp) (r.append (.cons ru .nil)) ?_,rfl,q⟩;rw[W1,List.length_singleton]
 lia
def Ue:V->List V->Hp->VK->Prop:=λx vs H Q=>∃l xs y,x=.ref l/\vs=[]/\H l=Δ (.lst xs)/\xs[xs.length - 1]?=Δ y/\Q y (upd H l (.lst xs.dropLast))
theorem LJ:MtM X "list.pop" Ue:=by
 intro η s σ H x vs v us Q I rx rv h;obtain⟨l,xs,y,rfl,rfl,hH,hy,q⟩:=h;cases rx;have hus:=rv.zero;subst hus;obtain⟨z,its,n,r,hl,e⟩:=I.Pg hH;obtain⟨u,hu,ru⟩:=r.get hy;have hy':its.toArray[its.toArray.size - 1]?=Δ u:=by show its.toArray[its.length - 1]?=Δ u;rw[<-aaz,<-hl];exact hu
 refine Z8 F.slot_list_pop ⟨_,e,rfl⟩ F.entry_list_pop (F.args_list_pop_1 _) (MeetsSeq.list_pop_last l its.toArray n u hy' (by rw[WX];lia)) ⟨e,?_⟩;refine⟨y,_,I.Pf (its':=its.dropLast) hH e ?_ r.dropLast ?_,ru,q⟩;·show its.toArray.eraseIdxIfInBounds (its.toArray.size - 1)=its.dropLast.toArray;rw[WX,List.eraseIdxIfInBounds_toArray,Bg]
 ·rw[List.length_dropLast]
  lia
end
section
variable{prog:Xy}{w:World}{A:Yc}{E:Value->WU->Prop}{s:WU}
end
section
variable{X:Cx}
end
section
variable{κ:Type}[DecidableEq κ]
noncomputable def fG(kvs:List (κ×V))(k:κ):Option V:=(kvs.find? λkv=>decide (kv.1=k)).map (·.2)
noncomputable def putK(kvs:List (κ×V))(k:κ)(v:V):List (κ×V):=
 if(kvs.any λkv=>decide (kv.1=k))=Λ then kvs.map (λkv=>if kv.1=k then(kv.1,v) else kv) else kvs++[(k,v)]
noncomputable def nH(kvs:List (κ×V))(k:κ):List (κ×V):=kvs.filter λkv=>decide (kv.1≠k)
theorem nI{r:List (κ×V)}{k:κ}(e:p.1=k):fG (p::r) k=Δ p.2:=by simp[fG,XY,e]
theorem nJ{r:List (κ×V)}{k:κ}(e:¬p.1=k):fG (p::r) k=fG r k:=by simp[fG,XY,e]
theorem sD(k:κ):∀kvs:List (κ×V),(kvs.any λkv=>decide (kv.1=k))=(fG kvs k).isSome
 |[]=>rfl|p::r=>by
  rw[Y0];by_cases e:p.1=k;·simp only[nI e,decide_eq_true e,Bool.true_or,Option.isSome_some]
  ·rw[nJ e,decide_eq_false e,Bool.false_or];exact sD k r
theorem iK kvs(k:κ)v:(putK kvs k v).length<=kvs.length+1:=by
 unfold putK;split;·rw[WJ];lia
 ·rw[W1,WZ,Zb];lia
theorem ki.gU(r:ki o u):o.isSome=u.isSome:=by
 cases o with
 |none=>cases u with|none=>rfl|some _=>exact(show False from r).elim
 |some _=>cases u with|none=>exact(show False from r).elim|some _=>rfl
theorem KV.val(r:KV kvs vs)(k:κ):ki (fG kvs k) (abl vs k):=by
 unfold KV at r;induction r with
 |nil=>exact Yi|@cons p q ps qs h t ih=>
  obtain⟨h1,h2⟩:=h;by_cases e:p.1=k
  ·have e':q.1=k:=h1.symm.trans e;have b:abl (q::qs) k=Δ q.2:=by simp[abl,XY,e']
   rw[nI e,b];exact h2
  ·have e':¬q.1=k:=λz=>e (h1.trans z);have b:abl (q::qs) k=abl qs k:=by simp[abl,XY,e']
   rw[nJ e,b];exact ih
theorem KV.any(r:KV kvs vs)(k:κ):(kvs.any λkv=>decide (kv.1=k))=vs.any λkv=>decide (kv.1=k):=by unfold KV at r;induction r with|nil=>rfl|cons h t ih=>rw[Y0,Y0,ih,h.1]
theorem KV.Dv(r:KV kvs vs)(k:κ)(ry:RelV y u):
  KV (kvs.map λkv=>if kv.1=k then(kv.1,y) else kv) (vs.map λkv=>if kv.1=k then(kv.1,u) else kv):=by
 unfold KV at r ⊢;induction r with
 |nil=>exact .nil|@cons p q ps qs h t ih=>
  rw[WQ,WQ];refine .cons ?_ ih;obtain⟨h1,h2⟩:=h;by_cases e:p.1=k;·rw[if_pos e,if_pos (h1.symm.trans e)];exact⟨h1,ry⟩
  ·rw[if_neg e,if_neg (λz=>e (h1.trans z))];exact⟨h1,h2⟩
theorem KV.put(r:KV kvs vs)(k:κ)(ry:RelV y u):KV (putK kvs k y) (stored vs k u):=by
 unfold putK stored;rw[r.any k];by_cases e:(vs.any λkv=>decide (kv.1=k))=Λ;·rw[if_pos e,if_pos e];exact r.Dv k ry
 ·rw[if_neg e,if_neg e];exact abY.snoc r ⟨rfl,ry⟩
theorem KV.drop(r:KV kvs vs)(k:κ):KV (nH kvs k) (without vs k):=by
 unfold KV at r ⊢;unfold nH without;induction r with
 |nil=>exact .nil|@cons p q ps qs h t ih=>
  obtain⟨h1,h2⟩:=h;rw[Y2,Y2];by_cases e:p.1=k
  ·have a:¬decide (p.1≠k)=Λ:=by simp[e]
   have b:¬decide (q.1≠k)=Λ:=by simp[h1.symm.trans e]
   rw[if_neg a,if_neg b];exact ih
  ·have e':¬q.1=k:=λz=>e (h1.trans z);have a:decide (p.1≠k)=Λ:=by simp[e]
   have b:decide (q.1≠k)=Λ:=by simp[e']
   rw[if_pos a,if_pos b];exact .cons ⟨h1,h2⟩ ih
theorem KV.length{vs:List (κ×Value)}(r:KV kvs vs):kvs.length=vs.length:=aba r
theorem yI kvs(k:κ):(nH kvs k).length<=kvs.length:=XG _ _
end
theorem nK(r:RelV (kV k) u):(aZ P w).is k u=Λ:=by cases k with|inl i=>obtain⟨t,e⟩:=(show ∃t,u=ZD i t from r);subst e;exact yy P w i t|inr x=>obtain⟨t,e⟩:=(show ∃t,u=aaD x t from r);subst e;exact yz P w x t
theorem vY:∀{ks} {us},aO (ks.map kV) us->ItemsAre (aZ P w) ks us
 |[],_,r=>by rw[YU] at r;cases r;exact .nil|k::ks,_,r=>by rw[WQ] at r;cases r with|cons h t=>exact .cons (nK h) (vY t)
abbrev KT(H:Hp):List (List Key×V)->List (List Key×Addr×Value)->Prop:=abY λp q=>p.1=q.1/\H q.2.1=Δ (.tup (p.1.map kV))/\RelV p.2 q.2.2
theorem KT.val(r:KT H kvs xs)k:ki (fG kvs k) ((atKey xs k).map (·.2)):=by
 induction r with
 |nil=>exact Yi|@cons p q ps qs h t ih=>
  obtain⟨h1,_,h2⟩:=h;by_cases e:p.1=k
  ·have e':q.1=k:=h1.symm.trans e;have b:atKey (q::qs) k=Δ q.2:=by simp[atKey,XY,e']
   rw[nI e,b];exact h2
  ·have e':¬q.1=k:=λz=>e (h1.trans z);have b:atKey (q::qs) k=atKey qs k:=by simp[atKey,XY,e']
   rw[nJ e,b];exact ih
theorem KT.Dv(r:KT H kvs xs)k(ry:RelV y u):
  KT H (kvs.map λkv=>if kv.1=k then(kv.1,y) else kv) (xs.map (putAt k u)):=by
 induction r with
 |nil=>exact .nil|@cons p q ps qs h t ih=>
  rw[WQ,WQ];refine .cons ?_ ih;obtain⟨h1,h2,h3⟩:=h;unfold putAt;by_cases e:p.1=k;·rw[if_pos e,if_pos (h1.symm.trans e)];exact⟨h1,h2,ry⟩
  ·rw[if_neg e,if_neg (λz=>e (h1.trans z))];exact⟨h1,h2,h3⟩
theorem KT.put(r:KT H kvs xs)k(hb:H b=Δ (.tup (k.map kV)))(ry:RelV y u):
  KT H (putK kvs k y) (storedH xs k b u):=by
 have e:(kvs.any λkv=>decide (kv.1=k))=(atKey xs k).isSome:=by rw[sD,(r.val k).gU,aao]
 unfold putK storedH;rw[e];by_cases q:(atKey xs k).isSome=Λ;·rw[if_pos q,if_pos q];exact r.Dv k ry
 ·rw[if_neg q,if_neg q];exact abY.snoc r ⟨rfl,hb,ry⟩
theorem KT.keeps(r:KT H kvs xs)(ht:∀b ys,H b=Δ (.tup ys)->H' b=Δ (.tup ys)):KT H' kvs xs:=
 abY.Lb r λ_ _ z=>⟨z.1,ht _ _ z.2.1,z.2.2⟩
section
variable{P:Xy}{w:World}{H:Hp}{h:Heap}{a:Addr}
theorem Kj(ok:kj P w H h)(e:Rd H a u):bG P w H h a u:=e.ok ok
theorem qi(ok:kj P w H h)(e:Rd H a (.dK kvs)):kvs.length<=W8/\(a==Yw)=Ξ/\∃vs,KV kvs vs/\h.DictOf (aZ P w) a vs:=
 show bG P w H h a (.dK kvs) from Kj ok e
theorem vZ(ok:kj P w H h)(e:H a=Δ (.dK kvs)):kvs.length<=W8/\(a==Yw)=Ξ/\∃vs,KV kvs vs/\h.DictOf (aZ P w) a vs:=qi ok (.inl e)
theorem oW(ok:kj P w H h)(e:H a=Δ (.tup (ks.map kV))):(abd (aZ P w)).is h ks a:=by obtain⟨_,its,r,o,h1,h2,n,h3⟩:=(show bG P w H h a (.tup (ks.map kV)) from ok a _ e);exact⟨o,its.toArray,n,h1,h2,h3,by simpa using vY r⟩
theorem qj(ok:kj P w H h)(e:Rd H a (.dT kvs)):kvs.length<=W8/\(a==Yw)=Ξ/\
  ∃xs,KT H kvs xs/\h.DictOfH (abd (aZ P w)) a xs:=by
 obtain⟨z,y,xs,r,o,es,ep,h1,h2,h3,h4,h5⟩:=(show bG P w H h a (.dT kvs) from Kj ok e);refine⟨z,y,xs,r,o,es,ep,h1,h2,h3,h4,λx hx=>?_,h5⟩;have all:∀{l:List (List Key×V)} {m:List (List Key×Addr×Value)},KT H l m->∀x∈m,(abd (aZ P w)).is h x.1 x.2.1:=by
  intro l m q;induction q with
  |nil=>intro x hx;exact nomatch hx|@cons p q ps qs hq t ih=>
   intro x hx;rcases Z3.mp hx with e|hx;·subst e;exact oW ok (by rw[<-hq.1];exact hq.2.1)
   ·exact ih x hx
 exact all r x hx
theorem Kk(ok:kj P w H h)(e:H a=Δ (.dT kvs)):kvs.length<=W8/\(a==Yw)=Ξ/\
  ∃xs,KT H kvs xs/\h.DictOfH (abd (aZ P w)) a xs:=qj ok (.inl e)
end
def nL(H:Hp)(a:Addr)(y:V)(r:Option V):Prop:=
 (∃kvs k,Rd H a (.dK kvs)/\y=kV k/\r=fG kvs k)\/∃kvs k b,Rd H a (.dT kvs)/\y=.ref b/\H b=Δ (.tup (k.map kV))/\r=fG kvs k
def yJ(H:Hp)(a:Addr)(y v:V)(H':Hp):Prop:=
 (∃kvs k,H a=Δ (.dK kvs)/\y=kV k/\kvs.length < W8/\H'=upd H a (.dK (putK kvs k v)))\/
 ∃kvs k b,H a=Δ (.dT kvs)/\y=.ref b/\H b=Δ (.tup (k.map kV))/\kvs.length < W8/\H'=upd H a (.dT (putK kvs k v))
theorem nL.k{k:Key}(e:H a=Δ (.dK kvs)):nL H a (kV k) (fG kvs k):=.inl ⟨kvs,k,.inl e,rfl,rfl⟩
theorem nL.t{k:List Key}(e:H a=Δ (.dT kvs))(eb:H b=Δ (.tup (k.map kV))):nL H a (.ref b) (fG kvs k):=.inr ⟨kvs,k,b,.inl e,rfl,eb,rfl⟩
theorem yJ.k{k:Key}(e:H a=Δ (.dK kvs))(hl:kvs.length < W8):yJ H a (kV k) v (upd H a (.dK (putK kvs k v))):=.inl ⟨kvs,k,e,rfl,hl,rfl⟩
theorem yJ.t{k:List Key}(e:H a=Δ (.dT kvs))(eb:H b=Δ (.tup (k.map kV)))(hl:kvs.length < W8):
  yJ H a (.ref b) v (upd H a (.dT (putK kvs k v))):=.inr ⟨kvs,k,b,e,rfl,eb,hl,rfl⟩
section
variable{X:Cx}{η:List (Addr×Obj)}{σ:St}{H:Hp}{s:WU}{a:Addr}{y v:V}{u r:Value}{o:Option V}{A:Yc}{E:Value->WU->Prop}
theorem Inv.Sh(I:Inv X η σ H s):Yw < s.heap.objs.size:=by have h:WY < s.heap.objs.size:=(I.mod.glob.keeps I.bk).lt;exact aap (by decide) h
theorem Dw(hu:A.units+1 < cLine)(I:Inv X η σ H s)(g:nL H a y (Δ v))(ry:RelV y u)(h:∀w' s',Inv X η σ H s'->RelV v w'->Q w' s'):
  wpAny (model X.prog X.w) A (abN (.ref a) u) Q E s:=by
 rcases g with ⟨kvs,k,e,ey,l⟩|⟨kvs,k,b,e,ey,eb,l⟩
 ·subst ey;obtain⟨z,hd,vs,rel,dd⟩:=qi I.aK e;obtain⟨w',hw,mI⟩:=ki.some_of (v:=v) (o:=abl vs k) (by rw[l];exact rel.val k);exact wpAny_getItem_of (nK ry) dd.mapOf hw (h w' _ (I.tok _) mI)
 ·subst ey;cases (show u=Xg b from ry);obtain⟨z,hd,xs,rel,dd⟩:=qj I.aK e;obtain⟨w',hw,mI⟩:=ki.some_of (v:=v) (o:=(atKey xs k).map (·.2)) (by rw[l];exact rel.val k);obtain⟨p,hp,hp2⟩:=Option.map_eq_some_iff.mp hw;refine wpAny_getItem_heap (Z7 hu) (oW I.aK eb) dd hp ?_;rw[hp2];exact h w' _ (I.tok _) mI
theorem Ug(hu:A.units+1 < cLine)(I:Inv X η σ H s)(g:nL H a y o)(ry:RelV y u)(h:∀s',Inv X η σ H s'->Q (.bool o.isSome) s'):
  wpAny (model X.prog X.w) A (X4 .In u (.ref a)) Q E s:=by
 rcases g with ⟨kvs,k,e,ey,l⟩|⟨kvs,k,b,e,ey,eb,l⟩
 ·subst ey;obtain⟨z,hd,vs,rel,dd⟩:=qi I.aK e;refine wpAny_in_of (nK ry) hd dd.mapOf ?_;rw[<-(rel.val k).gU,<-l];exact h _ (I.tok _)
 ·subst ey;cases (show u=Xg b from ry);obtain⟨z,hd,xs,rel,dd⟩:=qj I.aK e;refine wpAny_in_heap (Z7 hu) (oW I.aK eb) hd dd ?_;have q:=(rel.val k).gU;rw[aao] at q;rw[<-q,<-l];exact h _ (I.tok _)
theorem Ip(hu:A.units+1 < cLine)(I:Inv X η σ H s)(g:nL H a y o)(ry:RelV y u)(h:∀s',Inv X η σ H s'->Q (.bool (!o.isSome)) s'):
  wpAny (model X.prog X.w) A (X4 .NotIn u (.ref a)) Q E s:=by
 rcases g with ⟨kvs,k,e,ey,l⟩|⟨kvs,k,b,e,ey,eb,l⟩
 ·subst ey;obtain⟨z,hd,vs,rel,dd⟩:=qi I.aK e;refine wpAny_notIn_of (nK ry) hd dd.mapOf ?_;rw[<-(rel.val k).gU,<-l];exact h _ (I.tok _)
 ·subst ey;cases (show u=Xg b from ry);obtain⟨z,hd,xs,rel,dd⟩:=qj I.aK e;refine wpAny_notIn_heap (Z7 hu) (oW I.aK eb) hd dd ?_;have q:=(rel.val k).gU;rw[aao] at q;rw[<-q,<-l];exact h _ (I.tok _)
theorem jE(I:Inv X η σ H s)(mu:OA (H a))(hs:Zl a s.heap h')(he:∃q,h'.get? a=Δ q)(new:bG X.prog X.w (upd H a ob) h' a ob):
  Inv X η σ (upd H a ob) {s with heap:=h',toks:=t'}:=
 I.write (x:=a) (e:=a) mu (.inl rfl) (λb q hb z=>(hs.2 b hb).trans z) he new
theorem sE(z:kvs.length<=W8)(hd:(a==Yw)=Ξ)(rel:KV kvs vs)(dd:h'.DictOf (aZ P w) a vs):
  bG P w H' h' a (.dK kvs):=⟨z,hd,vs,rel,dd⟩
theorem Dx(hu:A.units+1 < cLine)(I:Inv X η σ H s)(g:yJ H a y v H')(ry:RelV y u)(rv:RelV v r)(h:∀s',Inv X η σ H' s'->Q () s'):
  wpAny (model X.prog X.w) A (setItem (.ref a) u r) Q E s:=by
 rcases g with ⟨kvs,k,e,ey,l,eH⟩|⟨kvs,k,b,e,ey,eb,l,eH⟩
 ·subst ey eH;obtain⟨z,hd,vs,rel,dd⟩:=vZ I.aK e;have hz:vs.length<=W8:=by rw[<-rel.length];exact z
  have hl:(putK kvs k v).length<=W8:=by have:=iK kvs k v;lia
  refine wpAny_setItem_pairs (hsz:=hz) (nK ry) dd λh' yr hs=>h _ ?_;have he:∃q,h'.get? a=Δ q:=let ⟨q,_,_,hq,_⟩:=yr;⟨q,hq⟩
  exact jE I (by rw[e];exact Yi) hs he (sE hl hd (rel.put k rv) yr)
 ·subst ey eH;cases (show u=Xg b from ry);obtain⟨z,hd,xs,rel,dd⟩:=Kk I.aK e;have hz:xs.length<=W8:=by rw[<-aba rel];exact z
  have hl:(putK kvs k v).length<=W8:=by have:=iK kvs k v;lia
  refine wpAny_setItem_heap (hsz:=hz) (Z7 hu) (oW I.aK eb) dd λh' yr hs=>h _ ?_;obtain⟨q,es,ep,hq,h2,h3,h4,_,h5⟩:=yr;refine jE I (by rw[e];exact Yi) hs ⟨q,hq⟩ ⟨hl,hd,_,(rel.put k eb rv).keeps λc ys ec=>?_,q,es,ep,hq,h2,h3,h4,h5⟩;rw[au (Kb ec e (λz=>nomatch z))];exact ec
end
section
variable{X:Cx}{η:List (Addr×Obj)}{σ:St}{H:Hp}{s:WU}{a:Addr}{kvs:List (Key×V)}{k:Key}{u:Value}{A:Yc}{E:Value->WU->Prop}
theorem N6(I:Inv X η σ H s)(e:H a=Δ (.dK kvs))(ry:RelV (kV k) u)(l:(fG kvs k).isSome=Λ)(h:∀s',Inv X η σ (upd H a (.dK (nH kvs k))) s'->Q () s'):
  wpAny (model X.prog X.w) A (delItem (.ref a) u) Q E s:=by
 obtain⟨z,hd,vs,rel,dd⟩:=vZ I.aK e;refine wpAny_delItem_slot dd.typeIs (by decide) PySem.F.slot_dict_delitem
  (aaR PySem.F.slot_dict_delitem dd.typeIs PySem.F.entry_dict_delitem (PySem.F.args_dict_delitem_2 _ _) (meets_dict_delitem_pairs (aZ X.prog X.w) a (nK ry)) ⟨vs,dd,by rw[<-rel.length];exact z,by rw[<-(rel.val k).gU];exact l,λh' yr hs=>h _ ?_⟩)
 have he:∃q,h'.get? a=Δ q:=let ⟨q,_,_,hq,_⟩:=yr;⟨q,hq⟩
 exact jE I (by rw[e];exact Yi) hs he (sE (Xo (yI kvs k) z) hd (rel.drop k) yr)
theorem Ph(I:Inv X η σ H s)(e:H a=Δ (.dK kvs))(ry:RelV (kV k) u)(l:fG kvs k=Δ v)(hm:more=[]\/∃x,more=[x])(h:∀w' s',Inv X η σ (upd H a (.dK (nH kvs k))) s'->RelV v w'->Q w' s'):wpAny (model X.prog X.w) A (call (.builtin "dict.pop") (.ref a::u::more)) Q E s:=by
 obtain⟨z,hd,vs,rel,dd⟩:=vZ I.aK e;obtain⟨w',hw,mI⟩:=ki.some_of (v:=v) (o:=abl vs k) (by rw[<-l];exact rel.val k);have hp:(keyPart u).isSome=Λ:=by cases k with|inl i=>obtain⟨t,q⟩:=(show ∃t,u=ZD i t from ry);subst q;rfl|inr x=>obtain⟨t,q⟩:=(show ∃t,u=aaD x t from ry);subst q;rfl
 have ha:argsOk "dict.pop" ⟨.ref a::u::more,[]⟩:=by
  rcases hm with q|⟨x,q⟩;·subst q;exact PySem.F.args_dict_pop_2 _ _
  ·subst q;exact PySem.F.args_dict_pop_3 _ _ _
 refine aaR PySem.F.slot_dict_pop dd.typeIs PySem.F.entry_dict_pop ha (meets_dict_pop_there (aZ X.prog X.w) a (nK ry) more hm hp)
  ⟨vs,w',dd,by rw[<-rel.length];exact z,hw,λh' yr hs=>h w' _ ?_ mI⟩
 have he:∃q,h'.get? a=Δ q:=let ⟨q,_,_,hq,_⟩:=yr;⟨q,hq⟩
 exact jE I (by rw[e];exact Yi) hs he (sE (Xo (yI kvs k) z) hd (rel.drop k) yr)
theorem Pj(I:Inv X η σ H s)(e:Rd H a (.dK kvs))(h:∀t s',Inv X η σ H s'->Q (.int kvs.length t) s'):wpAny (model X.prog X.w) A (call (.builtin "len") [.ref a]) Q E s:=by obtain⟨z,hd,vs,rel,dd⟩:=qi I.aK e;refine call_len_dict hd dd (by rw[<-rel.length];rw[XF] at z;lia) ?_;rw[<-rel.length];exact h _ _ (I.tok _)
end
theorem yK(I:Inv X η σ H s)(g:nL H a y o):s.TypeIs (.ref a) "dict":=by
 rcases g with ⟨kvs,k,e,_,_⟩|⟨kvs,k,b,e,_,_,_⟩
 ·obtain⟨_,_,vs,_,dd⟩:=qi I.aK e;exact dd.typeIs
 ·obtain⟨_,_,xs,_,dd⟩:=qj I.aK e;exact dd.typeIs
theorem yL(I:Inv X η σ H s)(g:nL H a y o):
  ∀b,Xg a=.ref b->∃ob,s.heap.get? b=Δ ob/\ob.dict=Θ:=λb q=>by
 cases q;rcases g with ⟨kvs,k,e,_,_⟩|⟨kvs,k,b,e,_,_,_⟩
 ·obtain⟨_,_,vs,_,ob,_,_,h1,h2,_⟩:=qi I.aK e;exact⟨ob,h1,h2.2.1⟩
 ·obtain⟨_,_,xs,_,ob,_,_,h1,h2,_⟩:=qj I.aK e;exact⟨ob,h1,h2.2.1⟩
section
variable{X:Cx}{o i e value:Expr}{pos pos' TY:Pos}{td ty tv:TE}
end
theorem yM(h:Heap)(hb:Yw < h.objs.size):bG P w H (h.push {cls:=.type "dict",data:=.dict #[]}) h.objs.size (.dK []):=
 ⟨XZ _,beq_eq_false_iff_ne.mpr (XC (W9 hb)),[],.nil,Heap.DictOf.new h⟩
theorem yN(h:Heap)(hb:Yw < h.objs.size):bG P w H (h.push {cls:=.type "dict",data:=.dict #[]}) h.objs.size (.dT []):=
 ⟨XZ _,beq_eq_false_iff_ne.mpr (XC (W9 hb)),[],.nil,_,#[],0,WR _ rfl,⟨rfl,rfl,rfl⟩,rfl,rfl,List.nodup_nil⟩
def LK:TE:=λ_ H Q=>∀p,H p=Θ->Q (.ref p) (upd H p (.dK []))
def LL:TE:=λ_ H Q=>∀p,H p=Θ->Q (.ref p) (upd H p (.dT []))
section
variable{X:Cx}{pos:Pos}
theorem Fi:PE X (.Dict [] [] pos) LK:=λη s σ H Q I h=>wpAny_Dict_empty ⟨.ref s.heap.objs.size,_,I.laid (a:=s.heap.objs.size) (o:=.dK []) (t':=s.toks) (λ_ _ q=>WA _ q) (WM _) (yM s.heap I.Sh),rfl,h _ (I.aK.fresh (WM _))⟩
theorem Fj:PE X (.Dict [] [] pos) LL:=λη s σ H Q I h=>wpAny_Dict_empty ⟨.ref s.heap.objs.size,_,I.laid (a:=s.heap.objs.size) (o:=.dT []) (t':=s.toks) (λ_ _ q=>WA _ q) (WM _) (yN s.heap I.Sh),rfl,h _ (I.aK.fresh (WM _))⟩
end
noncomputable def Bh:List (TE×TE)->St->Hp->(List (V×V)->Hp->Prop)->Prop
 |[],_,H,Q=>Q [] H|(tk,tv)::r,σ,H,Q=>tk σ H λx H1=>tv σ H1 λy H2=>Bh r σ H2 λps H3=>Q ((x,y)::ps) H3
abbrev VV:List (V×V)->List (Value×Value)->Prop:=abY λp q=>RelV p.1 q.1/\RelV p.2 q.2
def Si(X:Cx)(pos:Pos)(keys:List (Option Expr))(values:List Expr)(LM:List (TE×TE)):Prop:=
 ∀(η:List (Addr×Obj)) (s:WU) (σ:St) (H:Hp) (Q:List (V×V)->Hp->Prop),Inv X η σ H s->Bh LM σ H Q->
  wpAny (model X.prog X.w) X.A (evalPairs (pairTrees keys values X.env pos)) (λvs s'=>∃ps H',Inv X η σ H' s'/\VV ps vs/\Q ps H') X.xe s
theorem Co:Si X pos [] [] []:=λη s σ H Q I h=>pairTrees_nil_walk ⟨[],H,I,.nil,h⟩
theorem yO(hk:PE X k tk)(hv:PE X v tv)(hr:Si X pos ks vs LM):
  Si X pos (Δ k::ks) (v::vs) ((tk,tv)::LM):=λη s σ H Q I h=>
 pairTrees_cons_walk (bQ (hk η s σ H _ I h) λu s1 ⟨x,H1,I1,rx,q1⟩=>bQ (hv η s1 σ H1 _ I1 q1) λw2 s2 ⟨y,H2,I2,ry,q2⟩=>bQ (hr η s2 σ H2 _ I2 q2) λws s3 ⟨ps,H3,I3,rel,q3⟩=>⟨(x,y)::ps,H3,I3,.cons ⟨rx,ry⟩ rel,q3⟩)
def oX(kvs more:List (Key×V)):List (Key×V):=more.foldl (λacc kv=>putK acc kv.1 kv.2) kvs
theorem KV.merge:∀{more} {rs} {kvs} {vs},KV more rs->KV kvs vs->KV (oX kvs more) (merged vs rs):=by
 intro more rs kvs vs r;unfold KV at r;induction r generalizing kvs vs with
 |nil=>intro q;exact q|@cons p q ps qs h t ih=>
  intro r0;have e:KV (putK kvs p.1 p.2) (stored vs q.1 q.2):=by have:=r0.put p.1 h.2;rw[<-h.1];exact this
  exact ih e
theorem mi:∀(more kvs),(oX kvs more).length<=kvs.length+more.length
 |[],kvs=>by show kvs.length<=kvs.length+0;lia|p::r,kvs=>by have h1:=mi r (putK kvs p.1 p.2);have h2:=iK kvs p.1 p.2;show(oX (putK kvs p.1 p.2) r).length<=_;rw[WZ];lia
theorem sG:∀{kvs} {ws},VV (kvs.map λkv=>(kV kv.1,kv.2)) ws->∃rs,Carries (aZ P w) ws rs/\KV kvs rs
 |[],_,r=>by rw[YU] at r;cases r;exact⟨[],Yi,.nil⟩|p::kvs,_,r=>by rw[WQ] at r;cases r with|@cons a b as bs h t=>obtain⟨rs,c,q⟩:=sG (P:=P) (w:=w) t;obtain⟨b1,b2⟩:=b;exact⟨(p.1,b2)::rs,⟨nK h.1,rfl,c⟩,.cons ⟨rfl,h.2⟩ q⟩
def Pk(LM:List (TE×TE)):TE:=λσ H Q=>∀p,H p=Θ->Bh LM σ (upd H p (.dK [])) λps H2=>H2 p=Δ (.dK [])/\∃kvs:List (Key×V),ps=kvs.map (λkv=>(kV kv.1,kv.2))/\kvs.length<=15/\Q (.ref p) (upd H2 p (.dK (oX [] kvs)))
theorem Iq(h:Si X pos keys values LM)(Fm:keys.all (·.isSome)=Λ)(hl:keys.length=values.length)(h0:keys≠[])(h15:keys.length<=15):PE X (.Dict keys values pos) (Pk LM):=by
 intro η s σ H Q I q;have hn:=I.aK.fresh (WM s.heap.objs.size);have I1:=I.laid (a:=s.heap.objs.size) (o:=.dK []) (h':=s.heap.push {cls:=.type "dict",data:=.dict #[]}) (t':=s.toks) (λ_ _ q=>WA _ q) (WM _) (yM s.heap I.Sh);refine wpAny_Dict_walk (knd:=aZ X.prog X.w) Fm hl h0 h15 (bQ (h η _ σ _ _ I1 (q _ hn)) λws s2 ⟨ps,H2,I2,rel,e,kvs,ep,lk,q2⟩=>?_);subst ep;obtain⟨rs,c,rk⟩:=sG (P:=X.prog) (w:=X.w) rel;obtain⟨z,hd,vs0,r0,dd⟩:=vZ I2.aK e;cases r0;refine⟨rs,c,dd,λh' yr hs=>⟨.ref s.heap.objs.size,_,?_,rfl,q2⟩⟩;have hz:(oX [] kvs).length<=W8:=by have h1:=mi kvs [];rw[Zb] at h1;rw[XF];lia
 have he:∃q,h'.get? s.heap.objs.size=Δ q:=let ⟨q,_,_,hq,_⟩:=yr;⟨q,hq⟩
 exact jE I2 (by rw[e];exact Yi) hs he (sE hz hd (rk.merge .nil) yr)
structure M1(X:Cx)(o:Expr)(m:Str)(apos:Pos)(e:Expr)(fR:Pos):Prop where
 base:Zn o m X.env (eval o X.env)=eval o X.env
 Uh:((YL fR (Xf [e] X.env)).all (λx=>!x.1)&&(aaH fR (Zx [] X.env)).all (λx=>x.1.isSome)
  &&decide (([e]:List Expr).length+([]:List aa4).length+(if([]:List aa4).isEmpty then 0 else 1) < 30))=Λ
 line:(apos.endLine==fR.line)=Λ
 trees:YL fR (Xf [e] X.env)=[(Ξ,eval e X.env)]
structure M2(X:Cx)(o:Expr)(m:Str)(apos:Pos)(e f:Expr)(fR:Pos):Prop where
 base:Zn o m X.env (eval o X.env)=eval o X.env
 Uh:((YL fR (Xf [e,f] X.env)).all (λx=>!x.1)&&(aaH fR (Zx [] X.env)).all (λx=>x.1.isSome)
  &&decide (([e,f]:List Expr).length+([]:List aa4).length+(if([]:List aa4).isEmpty then 0 else 1) < 30))=Λ
 line:(apos.endLine==fR.line)=Λ
 trees:YL fR (Xf [e,f] X.env)=[(Ξ,eval e X.env),(Ξ,eval f X.env)]
def Sj(H:Hp)(a:Addr):Prop:=(∃kvs,Rd H a (.dK kvs))\/∃kvs,Rd H a (.dT kvs)
theorem Bi(I:Inv X η σ H s)(d:Sj H a):
  s.TypeIs (.ref a) "dict"/\(∀b,Xg a=.ref b->∃ob,s.heap.get? b=Δ ob/\ob.dict=Θ)/\(a==Yw)=Ξ:=by
 rcases d with ⟨kvs,e⟩|⟨kvs,e⟩
 ·obtain⟨_,hd,vs,_,dd⟩:=qi I.aK e;refine⟨dd.typeIs,λb q=>?_,hd⟩;cases q;obtain⟨ob,_,_,h1,h2,_⟩:=dd;exact⟨ob,h1,h2.2.1⟩
 ·obtain⟨_,hd,xs,_,dd⟩:=qj I.aK e;refine⟨dd.typeIs,λb q=>?_,hd⟩;cases q;obtain⟨ob,_,_,h1,h2,_⟩:=dd;exact⟨ob,h1,h2.2.1⟩
section
variable{X:Cx}{η:List (Addr×Obj)}{σ:St}{H:Hp}{s:WU}{a:Addr}{y d:V}{u r:Value}{o:Option V}{A:Yc}{E:Value->WU->Prop}
end
def LN(td ty:TE):TE:=λσ H Q=>td σ H λx H1=>∃a,x=.ref a/\Sj H1 a/\ty σ H1 λy H2=>∃kvs k v,H2 a=Δ (.dK kvs)/\y=kV k/\fG kvs k=Δ v/\Q v (upd H2 a (.dK (nH kvs k)))
section
variable{X:Cx}{o e f:Expr}{apos fR:Pos}{td ty tx:TE}
theorem Fo(ho:PE X o td)(he:PE X e ty)(m:M1 X o "pop" apos e fR):PE X (.Call (.Attribute o "pop" apos) [e] [] fR) (LN td ty):=by intro η s σ H Q I h;refine wpAny_Call_method m.base m.Uh m.line aad PySem.F.slot_dict_pop PySem.F.type_dict_pop (bQ (ho η s σ H _ I h) λu s1 ⟨x,H1,I1,rx,a,ex,d,q1⟩=>?_);subst ex;obtain rfl:u=Xg a:=rx;obtain⟨t1,t2,_⟩:=Bi I1 d;refine⟨t1,t2,?_⟩;rw[m.trees];refine YX rfl (aaK (ZA (bQ (he η s1 σ H1 _ I1 q1) λiv s2 ⟨y,H2,I2,ry,kvs,k,v,ea,ey,l,q2⟩=>aau ?_)));subst ey;exact Ph I2 ea ry l (.inl rfl) λw' s3 I3 mI=>⟨v,_,I3,mI,q2⟩
end
section
variable{X:Cx}{η:List (Addr×Obj)}{σ:St}{H:Hp}{s:WU}{a:Addr}{kvs:List (Key×V)}{A:Yc}{E:Value->WU->Prop}
end
section
variable{X:Cx}{η:List (Addr×Obj)}{σ:St}{H:Hp}{s:WU}{a:Addr}{y:V}{u:Value}{A:Yc}{E:Value->WU->Prop}
end
end L2
namespace Att
open PySem PySem.W PySem.Calls PyProof.Rows
theorem qN:∀(ns) (vs),WellAll P h vs (ns.map WData.int)->IntsAre vs ns:=by intro ns;induction ns with|nil=>intro vs w;rw[YU] at w;cases w;exact .nil|cons n ns ih=>intro vs w;rw[WQ] at w;cases w with|cons a b=>cases a;exact .cons _ _ (ih _ b)
theorem Dy{l:OpenLaw}(hn:l.most=Δ n)(Ir:l.row.toRowW.claim.pre args=Λ)(Sk:WellAll P h vals args):
  ∃a vs ns,vals=[Xg a]/\args=[WData.list (ns.map WData.int)]/\h.get? a=Δ {cls:=.type "list",data:=.seq vs.toArray}/\IntsAre vs ns/\ns.length<=n:=by
 have Cp:WShape.hasAll [] args [.list .int]=Λ:=(pre_splitW Ir).1;have hc:l.pre.holds [] {args:=args}=Λ:=(pre_splitW Ir).2;obtain⟨d,r,rfl,h1,h2⟩:=hasAllW_cons Cp;obtain rfl:=hasAllW_nil h2;obtain⟨xs,rfl,h3⟩:=hasW_list h1;obtain⟨ns,rfl⟩:=items_int h3;have hlen:ns.length<=n:=by
  unfold OpenLaw.pre at hc;have h4:(WTm.not (.lt (.lit (.int (n:Int))) (.len (.arg 0)))).holds [] {args:=[.list (ns.map .int)]}=Λ:=by have h4:=(holds_andW hc).1;rw[hn] at h4;exact h4
  have h5:=condW_of h4 (w_not (w_lt w_lit (w_len_list (w_arg rfl))));rw[WJ] at h5;refine Nat.le_of_not_lt λq=>?_;have q':(n:Int) < ((ns.length:Nat):Int):=by lia
  first
   |(rw[decide_eq_true q'] at h5;exact absurd h5 (by decide))
   |(simp at h5;lia)
 cases Sk with|cons w1 w2=>cases w2;cases w1 with|list ho Fm=>exact⟨_,_,ns,rfl,rfl,ho,qN ns _ Fm,hlen⟩
theorem Dz(l:OpenLaw)args:l.row.toRowW.claim.post args (.bool Λ) args=Λ:=
 postW_of (r:=l.row.toRowW) (X:=(Λ==Λ))
  (show WShape.has [] (.bool Λ) .bool=Λ by first|rfl|decide|simp[WShape.has,WShape.arms,WShape.armsAll])
  (show(WTm.eq .res (.lit (.bool Λ))).value [] {args:=args,res:=Δ (.bool Λ),after:=args}=Δ (.bool (Λ==Λ)) from w_eq_bool (w_res rfl) w_lit) rfl
theorem yP{l:OpenLaw}(hn:l.most=Δ n)(Pl:d.params.defaults=[])(call:∀(w:World) (gO bB:WU) (mg mb:Str->Option Value) (fa:Addr) (o:Obj) (pm cd doc:Value) (a:Addr) (vs:List Value) (ns:List Int),
   Ground q loose [] XP w gO mg mb bB.heap->YP w bB.heap->
   bB.heap.get? fa=Δ o->o.data=.func (docDef d.name d.params d.body d.scope pm cd doc)->bB.heap.CodeRec cd d.name->mg d.name=Δ (.ref fa)->
   bB.heap.get? a=Δ {cls:=.type "list",data:=.seq vs.toArray}->IntsAre vs ns->ns.length<=n->bB.gens=#[]->
   aaF (model l.prog w) abO (.call (.ref fa) ⟨[.ref a],[]⟩) (λr s'=>r=.ok (.ret (.bool Λ))/\OldK bB.heap s'.heap/\s'.os=bB.os/\aa5 s'.gens) bB):
  WalkO q loose XP YP l.row.toRowW d [] (λf vs=>acn f vs):=by
 intro w gO bB mg mb G Y fa o pm cd doc dV kV ho hd qf hD Pm hg args vals as Ir hlay hrd Sk hlo;obtain rfl:dV=.none:=Dflts.none hD Pl;obtain rfl:kV=.none:=Dflts.noKw hD;obtain⟨a,vs,ns,rfl,rfl,DA,hints,hlen⟩:=Dy hn Ir Sk;refine enter_call (aaQ (call w gO bB mg mb fa o pm cd doc a vs ns G Y ho (fd_plain hd) qf Pm DA hints hlen hg) λr s' hq=>?_);obtain⟨rfl,h2,h3,h4⟩:=hq;exact⟨.inl ⟨.bool Λ,.bool Λ,[],rfl,λ_=>rfl,.bool Λ,Dz l _,λ_=>⟨List.Pairwise.nil,λ_ hm=>(nomatch hm)⟩⟩,h2,h3,h4⟩
section
variable{prog:Xy}{w:World}{A:Yc}{E:Value->WU->Prop}{s:WU}{K:Frag}
end
end Att
namespace L2
open PySem PySem.Spec PyProof.Rows
theorem v5:∀{vs} {ns},IntsAre vs ns->aO (ns.map V.int) vs
 |_,_,.nil=>.nil|_,_,.cons n t h=>.cons ⟨t,rfl⟩ (v5 h)
noncomputable def rP(s:Stmt):Zd:=match s with|.FunctionDef _ a _ _ _ _ _ _ _ _=>a|_=>{posonlyargs:=[],args:=[],vararg:=Θ,kwonlyargs:=[],kw_defaults:=[],kwarg:=Θ,defaults:=[]}
noncomputable def lE(s:Stmt):List Stmt:=match s with|.FunctionDef _ _ b _ _ _ _ _ _ _=>b|_=>[]
noncomputable def av(s:Stmt):Scope:=match s with|.FunctionDef _ _ _ _ _ _ sc _ _ _=>sc|_=>{kind:=.function,names:=[],isGenerator:=Ξ,isCoroutine:=Ξ}
abbrev uR:Hv:=λ_ _ _ _ _ _=>False
abbrev E0:XK:=λ_ _ _=>False
theorem yQ:kn uR X E0:=λ_ _ _ _ _ _ _ h=>h.elim
structure oN(K:WO)(x qual:Str)(st:Stmt)(f:Addr)(fd:YD):Prop where
 ex:∃(oc:Value) (od:Option Addr) (kV doc pm:Value) (an:Option Addr) (kh ct:Value) (Ic:Array (Option Value)),
  fd=aak x qual (rP st) (lE st) (av st) .none kV doc pm an kh ct/\K.lookup f=Δ ⟨oc,od,.func fd,Ic⟩/\abG K kh qual=Λ
 kp:Y6 K (.ref f)=Λ
section
variable{P:Xy}{w:World}{K:WO}{mg:Str->Option Value}{base:Heap}
theorem oN.binds{st:Stmt}(F:oN K x qual st f fd)(h:∀(kV doc pm:Value) (an:Option Addr) (kh ct:Value) (us:List Value),us.length=ps.length->ack (aak x qual (rP st) (lE st) (av st) .none kV doc pm an kh ct) ⟨us,[]⟩=pure (ps.zip us)):Binds K fd ps []:=by obtain⟨oc,od,kV,doc,pm,an,kh,ct,Ic,rfl,lk,qf⟩:=F.ex;exact .all (h kV doc pm an kh ct)
theorem LO{st:Stmt}{kV doc pm kh ct:Value}(l:K.lookup f=Δ ⟨oc,od,.func (aak x qual (rP st) (lE st) (av st) .none kV doc pm an kh ct),Ic⟩)(c:abG K kh qual=Λ)(k:Y6 K (.ref f)=Λ):oN K x qual st f (aak x qual (rP st) (lE st) (av st) .none kV doc pm an kh ct):=⟨⟨oc,od,kV,doc,pm,an,kh,ct,Ic,rfl,l,c⟩,k⟩
end
section
variable{X:Cx}
end
def kf(H H':Hp):Prop:=∀b o,H b=Δ o->H' b=Δ o
theorem kf.refl H:kf H H:=λ_ _ h=>h
section
variable{κ:Type}[DecidableEq κ]
end
noncomputable def dF(env:Env):List (Str×Zi)->List (Str×Addr)->List (Str×Addr)
 |[],cs=>cs|(n,k)::r,cs=>dF env r (if(k==W2)=Λ then(n,(env.cells.lookup n).getD 0)::cs else cs)
theorem sH(h:∀x∈sc.names,x.2=.free->∃c,env.cells.lookup x.1=Δ c):aaU sc env=pure (dF env sc.names []):=by
 have go:∀(l:List (Str×Zi)) (cs:List (Str×Addr)),(∀x∈l,x.2=.free->∃c,env.cells.lookup x.1=Δ c)->
   (forIn l cs (λ(x:Str×Zi) (r:List (Str×Addr))=>if(x.2==W2)=Λ then do let a<-acb env x.1;pure (Yn ((x.1,a)::r)) else pure (Yn r)):Sem (List (Str×Addr)))=pure (dF env l cs):=by
  intro l;induction l with
  |nil=>intro cs _;rfl|cons x r ih=>
   intro cs hx;obtain⟨n,k⟩:=x;have hr:∀y∈r,y.2=.free->∃c,env.cells.lookup y.1=Δ c:=λy hy=>hx y (WE _ hy);rw[Zc];by_cases hk:(k==W2)=Λ
   ·obtain⟨c,hc⟩:=hx (n,k) WG (by simpa using hk);have e:acb env n=pure c:=by unfold acb;simp only at hc;rw[hc]
    simp only[hk,if_true,e];show _=pure (dF env r (if(k==W2)=Λ then(n,(env.cells.lookup n).getD 0)::cs else cs));rw[if_pos hk];simp only at hc;rw[hc];exact ih _ hr
   ·simp only[hk];show _=pure (dF env r (if(k==W2)=Λ then(n,(env.cells.lookup n).getD 0)::cs else cs));rw[if_neg hk];exact ih _ hr
 have q:=go sc.names [] h;unfold aaU;show((forIn sc.names [] (λ(x:Str×Zi) (r:List (Str×Addr))=>if(x.2==W2)=Λ then do let a<-acb env x.1;pure (Yn ((x.1,a)::r)) else pure (Yn r)):Sem (List (Str×Addr))) >>=λcs=>pure cs)=_;rw[q];rfl
theorem kr:∀{l} {cs},((x,W2)∈l\/∃c,cs.lookup x=Δ c)->∃c,(dF env l cs).lookup x=Δ c
 |[],cs,h=>by
  rcases h with h|h;·exact nomatch h
  ·exact h
 |(n,k)::r,cs,h=>by
  show ∃c,(dF env r (if(k==W2)=Λ then(n,(env.cells.lookup n).getD 0)::cs else cs)).lookup x=Δ c;refine kr ?_;rcases h with h|⟨c,h⟩
  ·rcases Z3.mp h with e|e;·injection e with e1 e2;subst e1 e2;right;rw[if_pos (by rfl)];exact⟨_,by rw[Xd];simp;rfl⟩
   ·exact .inl e
  ·right;by_cases hk:(k==W2)=Λ
   ·rw[if_pos hk,Xd];split;·exact⟨_,rfl⟩
    ·exact⟨c,h⟩
   ·rw[if_neg hk];exact⟨c,h⟩
theorem qk:∀{l} {cs},(∀y∈l,y.2=.free->∃d,env.cells.lookup y.1=Δ d)->
  (dF env l cs).lookup x=Δ c->cs.lookup x=Δ c\/((x,W2)∈l/\env.cells.lookup x=Δ c)
 |[],cs,_,h=>.inl h|(n,k)::r,cs,hx,h=>by
  have h':(dF env r (if(k==W2)=Λ then(n,(env.cells.lookup n).getD 0)::cs else cs)).lookup x=Δ c:=h;rcases qk (λy hy=>hx y (WE _ hy)) h' with q|⟨q1,q2⟩
  ·by_cases hk:(k==W2)=Λ
   ·rw[if_pos hk,Xd] at q;split at q
    ·rename_i e;have e':x=n:=by simpa using e
     subst e';have Pn:k=.free:=by simpa using hk
     subst Pn;obtain⟨d,hd⟩:=hx (x,.free) WG rfl;simp only at hd;rw[hd] at q;simp only[Option.getD_some] at q;exact .inr ⟨WG,by rw[hd];exact q⟩
    ·exact .inl q
   ·rw[if_neg hk] at q;exact .inl q
  ·exact .inr ⟨WE _ q1,q2⟩
section
variable{prog:Xy}{w:World}{A:Yc}{R:Result->WU->Prop}{s:WU}
theorem v7(I:Nat->WU->Prop)(turn:∀n s,I n s->wpAny (model prog w) A (aa8 it) (λr bB=>match r with
   |none=>R (.ok .next) bB
   |some v=>wpAny (model prog w) A (aaM target it v) (λ_ Kl=>wpAny (model prog w) A (acm target env v) (λ_ u5=>
     wpAny (model prog w) A (forIn ifs Λ λc r=>if r=Λ then do let ok<-aca c env (eval c env);pure (Yn ok) else pure (Yn r)) (λok DB=>
      if ok=Λ then wpAny (model prog w) A (eval elt env) (λx Po=>wpAny (model prog w) A (call (.builtin "list.append") [acc,x]) (λ_ Pp=>∃m,m < n/\I m Pp) (λ_ _=>False) Po) (λ_ _=>False) DB
      else ∃m,m < n/\I m DB) (λ_ _=>False) u5) (λ_ _=>False) Kl) (λ_ _=>False) bB) (λ_ _=>False) s)n(h:I n s):
  aaF (model prog w) A (.compLoop (.ListComp elt [⟨target,iter,ifs,0⟩] scope pos) 0 it acc env) R s:=by
 refine codeAny_loop rfl I (λn s hI=>?_) n h;show wpAny _ A ((compTurn (.ListComp elt [⟨target,iter,ifs,0⟩] scope pos) 0 it acc env).onRaise (λx=>do noteFrame x env;theTreesLotGoes x)) _ _ s;refine wpAny_noted ?_;rw[compTurn_list];refine WD (abR (WD (Yh (turn n s hI) (λr bB du=>?_) λ_ _ h'=>h'.elim)));cases r with|none=>exact W0 du|some v=>refine WD (Yh du (λ_ Kl Pq=>?_) λ_ _ h'=>h'.elim);refine WD (Yh Pq (λ_ u5 ku=>WD (Yh ku (λok DB jb=>?_) λ_ _ h'=>h'.elim)) λ_ _ h'=>h'.elim);cases ok with|false=>exact W0 ⟨rfl,jb⟩|true=>exact WD (WD (Yh jb (λx Po DC=>WD (Yh DC (λ_ Pp lW=>W0 (W0 ⟨rfl,lW⟩)) λ_ _ h'=>h'.elim)) λ_ _ h'=>h'.elim))
end
theorem jF{env:Env}:∀{names:List (Str×Zi)} {x},names.lookup x=Δ .free->
  (names.map λ(n,k)=>if(k==W2&&env.scope.kind==.function&&env.kindOf n==Δ .cell) then(n,Yk) else(n,k)).lookup x=Δ .cell\/
  (names.map λ(n,k)=>if(k==W2&&env.scope.kind==.function&&env.kindOf n==Δ .cell) then(n,Yk) else(n,k)).lookup x=Δ .free
 |[],_,h=>by simp at h|(n,k)::r,x,h=>by
  have ih:=@jF env r x;show Yz x ((if(k==W2&&env.scope.kind==.function&&env.kindOf n==Δ .cell)=Λ then(n,Yk) else(n,k))::_)=_\/Yz x ((if(k==W2&&env.scope.kind==.function&&env.kindOf n==Δ .cell)=Λ then(n,Yk) else(n,k))::_)=_;cases hx:x==n with
  |true=>
   simp only[Xd,hx] at h;cases h;by_cases hc:(W2==W2&&env.scope.kind==.function&&env.kindOf n==Δ .cell)=Λ;·rw[if_pos hc];simp[Xd,hx]
   ·rw[if_neg hc];simp[Xd,hx]
  |false=>
   simp only[Xd,hx] at h;by_cases hc:(k==W2&&env.scope.kind==.function&&env.kindOf n==Δ .cell)=Λ;·rw[if_pos hc];simp only[Xd,hx];exact ih h
   ·rw[if_neg hc];simp only[Xd,hx];exact ih h
theorem qm{env:Env}:∀{names:List (Str×Zi)} {x} {q},q=.cell\/q=.free->
  (names.map λ(n,k)=>if(k==W2&&env.scope.kind==.function&&env.kindOf n==Δ .cell) then(n,Yk) else(n,k)).lookup x=Δ q->∃k,(x,k)∈names/\(k=.free\/k=.cell)
 |[],_,_,_,h=>by simp at h|(n,k)::r,x,q,hq,h=>by
  have h':Yz x ((if(k==W2&&env.scope.kind==.function&&env.kindOf n==Δ .cell)=Λ then(n,Yk) else(n,k))::(r.map λ(n,k)=>if(k==W2&&env.scope.kind==.function&&env.kindOf n==Δ .cell) then(n,Yk) else(n,k)))=Δ q:=h;cases hx:x==n with
  |true=>
   have e:x=n:=by simpa using hx
   by_cases hc:(k==W2&&env.scope.kind==.function&&env.kindOf n==Δ .cell)=Λ
   ·have hk:k=.free:=by simp only[WC] at hc;simpa using hc.1.1
    exact⟨k,by rw[e];exact WG,.inl hk⟩
   ·rw[if_neg hc] at h';simp only[Xd,hx] at h';cases h';exact⟨k,by rw[e];exact WG,hq.symm⟩
  |false=>
   have h2:Yz x (r.map λ(n,k)=>if(k==W2&&env.scope.kind==.function&&env.kindOf n==Δ .cell) then(n,Yk) else(n,k))=Δ q:=by
    by_cases hc:(k==W2&&env.scope.kind==.function&&env.kindOf n==Δ .cell)=Λ;·rw[if_pos hc] at h';simpa only[Xd,hx] using h'
    ·rw[if_neg hc] at h';simpa only[Xd,hx] using h'
   obtain⟨k',m,z⟩:=qm hq h2;exact⟨k',WE _ m,z⟩
def lX(X:Cx)(η:List (Addr×Obj))(N:List Str)(sc:Scope)(fp:List Addr)(C:Addr)(s:WU)(H:Hp):Cx where
 prog:=X.prog
 w:=X.w
 K:=X.K
 mg:=X.mg
 base:=X.base
 A:=X.A
 N:=N
 gO:=s
 yB:=H
 env:=compEnvC sc (dF X.env sc.names []) C X.env
 outer:=X.stack
 stack:=X.stack
 ex:=fp
 calm:=X.calm
 fn:=λ_=>Ξ
 pn:=X.pn++η
 xe:=λ_ _=>False
structure jG(X:Cx)(N:List Str)(ts:Nat)(js:List Nat)(sc:Scope):Prop where
 kind:sc.kind=.function
 len:N.length=ts+js.length
 eA:∀x∈sc.names,x.2≠.cell
 names:∀x∈sc.names,x.2=.local->sc.names.lookup x.1=Δ .local
 frees:∀x∈sc.names,x.2=.free->X.env.kindOf x.1=Δ .cell\/X.env.kindOf x.1=Δ .free
 slots:∀(i:Nat) (y:Str) (j:Nat),N[ts+i]?=Δ y->js[i]?=Δ j->X.N[j]?=Δ y/\sc.names.lookup y=Δ .free
noncomputable def iN(ts:Nat)(js:List Nat)(σ:St):St:=XW ts Θ++js.map λj=>(σ[j]?).join
section
variable{X:Cx}{η:List (Addr×Obj)}{σ:St}{H:Hp}{s:WU}{N:List Str}{ts:Nat}{js:List Nat}{sc:Scope}{fp:List Addr}
theorem jG.cl(B:jG X N ts js sc)(ok:X.Ok):∀x∈sc.names,x.2=.free->∃c,X.env.cells.lookup x.1=Δ c:=λx hx hk=>ok.has x.1 (B.frees x hx hk)
theorem jG.get(B:jG X N ts js sc)(ok:X.Ok)(h:(dF X.env sc.names []).lookup x=Δ c):X.env.cells.lookup x=Δ c:=by
 rcases qk (B.cl ok) h with q|⟨_,q⟩;·cases q
 ·exact q
theorem Inv.Ui(I:Inv X η σ H s)(f:mE X η H b):b∉jA X.stack:=λz=>by
 rcases Z3.mp (I.oQ b z) with e|e;·exact f.2.1 e
 ·exact f.2.2.1 e
theorem Inv.okB(I:Inv X η σ H s)(B:jG X N ts js sc)(hf:∀b∈fp,mE X η H b)(ho:∀b∈fp,b < s.heap.objs.size):(lX X η N sc fp s.heap.objs.size s H).Ok where
 mod:=I.ok.mod
 kind:=B.kind
 glob:=I.ok.glob
 blt:=I.ok.blt
 above:=WM _
 inj:=λx y c h1 h2=>I.ok.inj x y c (B.get I.ok h1) (B.get I.ok h2)
 has:=λx hx=>by
  have yt:∃q,(q=Yk\/q=.free)/\(sc.names.map λ(n,k)=>if(k==W2&&X.env.scope.kind==.function&&X.env.kindOf n==Δ .cell) then(n,Yk) else(n,k)).lookup x=Δ q:=by
   rcases hx with h|h;·exact⟨_,.inl rfl,h⟩
   ·exact⟨_,.inr rfl,h⟩
  obtain⟨q,hq,hl⟩:=yt;obtain⟨k,hm,hk⟩:=qm hq hl;have Pn:k=.free:=hk.resolve_right (B.eA _ hm);subst Pn;exact kr (.inl hm)
 Lf:=λx c h=>absurd (show Ξ=Λ from h) Xw
 hd:=I.ok.hd
 frames:=I.ok.frames
 OD:=.inl rfl
 Tn:=λb hb=>⟨W9 (ho b hb),λx c h=>(hf b hb).2.2.2.2.1 x c (B.get I.ok h)⟩
 bs:=I.bs
 EE:=Xo I.ok.EE I.sz
 Dh:=λb o e hb=>by
  rcases(hf b hb).2.2.2.1 with z|z;·exact I.ok.Dh b o e z
  ·exact absurd (W7 (WV e) (Xo I.ok.EE z)) (Yu _)
 EL:=λb hb=>I.Ui (hf b hb)
 mB:=I.stack
 HJ:=I.ny
theorem Inv.block(I:Inv X η σ H s)(B:jG X N ts js sc)(hf:∀b∈fp,mE X η H b)(ho:∀b∈fp,b < s.heap.objs.size)(hn:h'.Ns s.heap.objs.size m)(k:∀b o,s.heap.get? b=Δ o->h'.get? b=Δ o):Inv (lX X η N sc fp s.heap.objs.size s H) [] (iN ts js σ) H {s with heap:=h',toks:=tk}:=by
 refine⟨I.okB B hf ho,rfl,I.bare,Un.kept k,⟨m,hn,λi y v h1 h2 h3=>?_⟩,λx c h=>?_,I.aK.fresh (WM _),λx c h=>I.jY x c (B.get I.ok h),λp hp=>?_,I.aK.kept k,?_⟩
 ·have hi:ts<=i:=by
   by_cases hi:ts<=i;·exact hi
   ·unfold iN at h2;rw[WK (by simpa using hi),Zu] at h2;split at h2<;>cases h2
  obtain⟨d,rfl⟩:∃d,i=ts+d:=⟨i - ts,by lia⟩;have oY:(js.map λj=>(σ[j]?).join)[d]?=Δ (Δ v):=by unfold iN at h2;rw[W5 (by simp)] at h2;simpa using h2
  rw[WL] at oY;cases ej:js[d]? with
  |none=>rw[ej] at oY;cases oY|some j=>
   rw[ej] at oY;have h4:(σ[j]?).join=Δ v:=by simpa using oY
   have h5:σ[j]?=Δ (Δ v):=by cases e:σ[j]? with|none=>rw[e] at h4;cases h4|some o=>rw[e] at h4;simp at h4;rw[h4]
   obtain⟨g1,g2⟩:=B.slots d y j h1 ej;have hm:(y,W2)∈sc.names:=Xq g2;have hk:=B.frees _ hm rfl;obtain⟨m0,hn0,hl0⟩:=I.loc;have hv:OC X.env.scope y:=by
    rcases hk with z|z;·exact .inr (.inl z)
    ·exact .inr (.inr z)
   obtain⟨u,ru,lk⟩:=hl0 j y v g1 h5 hv;refine⟨u,ru,.inr ⟨jF g2,?_⟩⟩;rcases lk with ⟨z,_⟩|⟨_,c,hc,nA⟩
   ·rcases hk with z'|z'<;>(rw[z] at z';cases z')
   ·obtain⟨c',Hu⟩:=kr (env:=X.env) (l:=sc.names) (cs:=[]) (.inl hm);have e:=B.get I.ok Hu;rw[hc] at e;cases e;obtain⟨o,oP,Hs⟩:=nA;exact⟨c,Hu,o,k _ _ oP,Hs⟩
 ·obtain⟨v,o,oP,Hs⟩:=I.cell x c (B.get I.ok h);exact⟨v,o,k _ _ oP,Hs⟩
 ·have Fp:p∈X.pn++η:=by simpa[lX] using hp
  obtain⟨e,n,ne,nf,d⟩:=I.pin p Fp;refine⟨k _ _ e,n,W9 (WV e),λz=>?_,d⟩;rcases Z3.mp (I.oQ p.1 z) with q|q;·exact ne q
  ·exact nf q
 ·show(iN ts js σ).length=N.length;unfold iN;rw[W1,ZJ,WJ,B.len]
end
noncomputable def Fq(X:Cx)(ifs:List Expr)(t:TT):Prop:=
 ∀(η:List (Addr×Obj)) (s:WU) (σ:St) (H:Hp) (Q:Bool->Hp->Prop),Inv X η σ H s->t σ H Q->
  wpAny (model X.prog X.w) X.A (forIn ifs Λ λc r=>if r=Λ then do let ok<-aca c X.env (eval c X.env);pure (Yn ok) else pure (Yn r)) (TP X η σ Q) X.xe s
def Uj:TT:=λ_ H Q=>Q Λ H
theorem Iu:Fq X [] Uj:=λ_ _ _ H _ I h=>wpAny_tests_nil ⟨H,I,h⟩
theorem Iv(h:PT X c t):Fq X [c] t:=λη s σ H Q I q=>wpAny_tests_one (h η s σ H Q I q)
def v8(wi:TI)(g:TG)(tc:TT)(te:TE)(ts:Nat)(js:List Nat):TE:=λσ H Q=>wi σ H λJ H1=>∀acc,H1 acc=Θ->
 ∃W:Nat->Nat->St->Hp->Prop,(∃m,W 0 m (iN ts js σ) (upd H1 acc (.lst [])))/\∀i m τ H,W i m τ H->
  (J.stop i H/\Q (.ref acc) H)\/(J.go i H/\∀x H',J.OR i H x H'->g x τ H' λSl H2=>tc Sl H2 λb H3=>
   if b=Λ then te Sl H3 λy H4=>∃ys,H4 acc=Δ (.lst ys)/\ys.length < W8/\∃m',m' < m/\W (i+1) m' Sl (upd H4 acc (.lst (ys++[y])))
   else ∃m',m' < m/\W (i+1) m' Sl H3)
section
variable{X:Cx}{elt iter tg:Expr}{ifs:List Expr}{sc:Scope}{pos:Pos}{N:List Str}{ts:Nat}{js:List Nat}{wi:TI}{g:TG}{tc:TT}{te:TE}
theorem Inv.yR(I:Inv X η σ H s)(hf:∀b∈fp,mE X η H b)(J:Inv (lX X η N sc fp s.heap.objs.size s H) [] τ H' s')(sb:Zl s.heap.objs.size s'.heap h''):Inv X η σ H' {s' with heap:=h''}:=by
 have hC:H' s.heap.objs.size=Θ:=J.free;have k:∀b o,b≠s.heap.objs.size->s'.heap.get? b=Δ o->h''.get? b=Δ o:=λb o hb e=>sb.extBut b o hb e;have ne:∀b o,s.heap.get? b=Δ o->b≠s.heap.objs.size:=λb o e=>W9 (WV e);have u:Un (jA X.stack) fp H H' s.heap h'':=
  ⟨λb o e n hb hx=>k b o (ne b o e) (J.base.keep b o e n hb hx),
   λb o e n hb hx=>by
   obtain⟨sl,q⟩:=J.base.slot b o e n hb hx;exact⟨sl,k b _ (ne b o e) q⟩,
   J.base.free,
   λb o e hx=>by
   obtain⟨o',q⟩:=J.base.there b o e hx;exact⟨o',k b _ (ne b o e) q⟩,
   J.base.sj,J.base.oO,J.base.qK⟩
 have aK:kj X.prog X.w H' h'':=λb ob e=>by
  refine(J.aK b ob e).nu (λc v hc q=>k c v ?_ q) (λ_ q=>q) λ_ _ q=>q;rintro rfl;rcases hc with z|z;·rw[z] at hC;rw[hC] at e;cases e
  ·rw[hC] at z;cases z
 exact I.EO (s':={s' with heap:=h''}) (ch:=fp) J.os u aK J.bare λb hb=>⟨(hf b hb).2.2.2.1,(hf b hb).2.1,(hf b hb).2.2.2.2.1,(hf b hb).2.2.2.2.2⟩
theorem xw(hc:X.calm=Λ)(B:jG X N ts js sc)(hi:PI X tg iter wi)
  (hg:∀η fp C s H,PG (lX X η N sc fp C s H) tg g) (ht:∀η fp C s H,Fq (lX X η N sc fp C s H) ifs tc) (he:∀η fp C s H,PE (lX X η N sc fp C s H) elt te)
  (hs:∀x,aaY iter X.env x=pure x:=by intro _;rfl):PE X (.ListComp elt [⟨tg,iter,ifs,0⟩] sc pos) (v8 wi g tc te ts js):=by
 intro η s σ H Q I h;rw[eval_ListComp];refine wpAny_comprehension_free (use:=Θ) rfl hs (sH (B.cl I.ok)) B.kind B.names (bQ (hi η s σ H _ I h) λv s1 h1=>bQ h1 λR7 s2 h2=>?_);obtain⟨it,fp,tn,J,H2,e,I2,T,st2,f2,oY⟩:=h2;subst e;have DD:H2 s2.heap.objs.size=Θ:=I2.aK.fresh (WM _);obtain⟨W,⟨m0,w0⟩,turn⟩:=oY s2.heap.objs.size DD;refine Ze (ZK B.eA (by intro y hy;simp at hy) (λdu Bj Bk=>?_) B.kind);obtain⟨s3,Iw⟩:∃s3:WU,({s2 with heap:=s2.heap.push {cls:=.type "list",dict:=Θ,data:=.seq ([]:List Value).toArray}}:WU)=s3:=⟨_,rfl⟩;have e3:s3.heap=s2.heap.push {cls:=.type "list",dict:=Θ,data:=.seq ([]:List Value).toArray}:=by rw[<-Iw]
 have Bl:du.Ns s3.heap.objs.size λx=>([]:List (Str×Value)).reverse.lookup x:=by rw[e3];exact Bj
 have Bm:Zl s3.heap.objs.size (s3.heap.push {cls:=.type (if(Δ X.env).isSome then "dict" else "frame"),data:=.dict #[]}) du:=by rw[e3];exact Bk
 have I3:Inv X η σ (upd H2 s2.heap.objs.size (.lst [])) s3:=by rw[<-Iw];exact I2.laid (t':=s2.toks) (λb u e=>WA _ e) (WM _) ⟨XZ _,[],0,.nil,WR _ rfl⟩
 have Pr:∀b∈fp,b < s2.heap.objs.size:=λb hb=>by obtain⟨o,e,_⟩:=T.obj _ _ st2 b hb;exact WV e
 have f3:∀b∈fp,mE X η (upd H2 s2.heap.objs.size (.lst [])) b:=λb hb=>⟨by rw[au (W9 (Pr b hb))];exact(f2 b hb).1,(f2 b hb).2⟩;have Uk:s2.heap.objs.size < s3.heap.objs.size:=by rw[e3,X9];exact Yq _
 have Pt:∀b∈fp,b < s3.heap.objs.size:=λb hb=>aap (Pr b hb) Uk;have k1:∀b o,s3.heap.get? b=Δ o->du.get? b=Δ o:=λb o e=>Bm.extBut b o (W9 (WV e)) (WA _ e);have IB:=I3.block (tk:=s3.toks+([]:List (Str×Value)).length) (N:=N) B f3 Pt Bl k1;have mj:tn 0 du:=T.keep _ _ _ st2 λb hb o e=>k1 b o (by rw[e3];exact WA _ e);have su:∀{H':Hp},(∀b∈fp,H' b=Θ)->∀b∈fp,mE (lX X η N sc fp s3.heap.objs.size s3 (upd H2 s2.heap.objs.size (.lst []))) [] H' b:=λhn b hb=>⟨hn b hb,W9 (Pt b hb),I3.Ui (f3 b hb),.inl hb,λx c h=>(f3 b hb).2.2.2.2.1 x c (B.get I3.ok h),λp hp=>(f3 b hb).2.2.2.2.2 p (by simpa[lX] using hp)⟩;have loop:aaF (model X.prog X.w) X.A (.compLoop (.ListComp elt [⟨tg,iter,ifs,0⟩] sc pos) 0 (.ref it) (.ref s2.heap.objs.size) (compEnvC sc (dF X.env sc.names []) s3.heap.objs.size X.env))
   (compPost (model X.prog X.w) X.A X.xe Θ (EP X η σ Q) (.ref s2.heap.objs.size) s3.heap.objs.size) {s3 with heap:=du,toks:=s3.toks+([]:List (Str×Value)).length}:=by
  refine v7 (λn s'=>∃i τ H',Inv (lX X η N sc fp s3.heap.objs.size s3 (upd H2 s2.heap.objs.size (.lst []))) [] τ H' s'/\tn i s'.heap/\(∀b∈fp,H' b=Θ)/\W i n τ H') ?_ m0
   ⟨0,iN ts js σ,_,IB,mj,λb hb=>(f3 b hb).1,w0⟩
  rintro n s5 ⟨i,τ,H5,I5,A0,Lo,w5⟩;rcases turn i n τ H5 w5 with ⟨stop,qn⟩|⟨go,step⟩
  ·refine bQ (T.done (lX X η N sc fp s3.heap.objs.size s3 (upd H2 s2.heap.objs.size (.lst []))) rfl rfl rfl hc i [] s5 τ H5 (λ_ _=>False) I5 (su Lo) A0 stop) λr s6 ⟨hr,I6⟩=>?_;subst hr;obtain⟨m,hn,_⟩:=I6.loc;exact⟨m,hn,λh' vc=>⟨.ref s2.heap.objs.size,H5,I3.yR f3 I6 vc,rfl,qn⟩⟩
  ·refine bQ (T.item (lX X η N sc fp s3.heap.objs.size s3 (upd H2 s2.heap.objs.size (.lst []))) rfl rfl rfl hc i [] s5 τ H5 (λ_ _=>False) I5 (su Lo) A0 go) λr s6 ⟨u,hr,h6⟩=>?_;subst hr;refine bQ h6 λ_ s7 ⟨x,H7,I7,r7,y7,LP,Ul⟩=>?_;have Um:=I7.pinned (su Ul) (T.obj _ _ LP);refine bQ (hg _ _ _ _ _ _ s7 τ H7 x u _ Um r7 (step x H7 y7)) λ_ s8 ⟨Iy,H8,I8,q8⟩=>?_;refine bQ (ht _ _ _ _ _ _ s8 Iy H8 _ I8 q8) λok s9 ⟨H9,I9,q9⟩=>?_;have again:∀{s':WU} {Iz:St} {H':Hp},Inv (lX X η N sc fp s3.heap.objs.size s3 (upd H2 s2.heap.objs.size (.lst []))) ([]++oR fp s7.heap) Iz H' s'->(∃m',m' < n/\W (i+1) m' Iz H')->
     ∃m,m < n/\∃i τ H',Inv (lX X η N sc fp s3.heap.objs.size s3 (upd H2 s2.heap.objs.size (.lst []))) [] τ H' s'/\tn i s'.heap/\(∀b∈fp,H' b=Θ)/\W i m τ H':=λ{s' Iz H'} I' ⟨m',hm,w'⟩=>by
    refine⟨m',hm,i+1,Iz,H',I'.jh,T.keep _ _ _ LP λb hb o e=>(I'.pin (b,o) (Xi _ (Xi _ (ez hb e)))).1,λb hb=>?_,w'⟩;obtain⟨o,e,d⟩:=T.obj _ _ LP b hb;exact(I'.pin (b,o) (Xi _ (Xi _ (ez hb e)))).2.1
   cases ok with|false=>exact again I9 q9|true=>refine bQ (he _ _ _ _ _ _ s9 Iy H9 _ I9 q9) λxv Pu ⟨y,Uo,Up,Uq,ys,ha,hz,Ur⟩=>?_;refine bQ (oV _ Pu Iy Uo (.ref s2.heap.objs.size) [y] (.ref s2.heap.objs.size) [xv] (λ_ H'=>∃m',m' < n/\W (i+1) m' Iy H') Up rfl (.cons Uq .nil) ⟨_,ys,y,rfl,rfl,ha,hz,Ur⟩) λ_ s11 ⟨_,H11,Us,_,Ut⟩=>?_;exact again Us Ut
 subst Iw;exact codeAny_compStart_list loop (T.self _ 0 _ _ _ mj loop)
end
end L2
namespace L2
open PySem
end L2
namespace L2
open PySem PySem.Spec PyProof.Rows PySem.SeqAt
open PySem.AutoSeq1 (wpAny_loadPart')
def mJ(t T:String):Bool:=t==T||(t=="bool"&&T=="int")
noncomputable def Pw(H:Hp):V->Option String
 |.bz=>Δ "NoneType"|.bl _=>Δ "bool"|.int _=>Δ "int"|.str _=>Δ "str"|.ref a=>match H a with|some (.lst _)=>Δ "list"|some (.tup _)=>Δ "tuple"|_=>Θ
 |_=>Θ
theorem LR(h:Pw H v=Δ t):t="NoneType"\/t="bool"\/t="int"\/t="str"\/t="list"\/t="tuple":=by
 cases v with
 |ref a=>
  unfold Pw at h;simp only at h;split at h<;>first
   |(cases h;simp)
   |cases h
 |_=>first
  |(cases h;simp)
  |cases h
theorem IA{K:WO}(h:Pw H v=Δ t):mH K H v (.type t):=by
 cases v with
 |bz=>cases h;exact .bz|bl b=>cases h;exact .bl b|int i=>cases h;exact .int i|str x=>cases h;exact .str x|ref a=>
  unfold Pw at h;simp only at h;split at h;·rename_i xs e;cases h;exact .lst e
  ·rename_i xs e;cases h;exact .tup e
  ·cases h
 |_=>cases h
theorem rQ K(ht:t="NoneType"\/t="bool"\/t="int"\/t="str"\/t="list"\/t="tuple")(hT:T="int"\/T="bool"\/T="tuple"\/T="str"\/T="list"):
  abF K (.type t) (.type T)=Δ (mJ t T):=by
 rcases ht with rfl|rfl|rfl|rfl|rfl|rfl<;>rcases hT with rfl|rfl|rfl|rfl|rfl<;>first
  |rfl
  |kernel_rfl
section
variable{X:Cx}
theorem be(h:H p=Θ)o:kf H (upd H p o):=λb u q=>by rw[au (aM q h)];exact q
def Km:R2:=λx y H Q=>∃a b xs ys,x=.ref a/\y=.ref b/\H a=Δ (.tup xs)/\H b=Δ (.tup ys)/\xs.length+ys.length<=W8/\∀r H',kf H H'->H' r=Δ (.tup (xs++ys))->Q (.ref r) H'
theorem IC:jZ X (Y4 .Add) Km:=by
 intro η s σ H x y v u Q I rx ry h;obtain⟨a,b,xs,ys,rfl,rfl,ha,hb,hz,q⟩:=h;cases rx;cases ry;obtain⟨its,r1,p1,_⟩:=I.tuple (fK.of ha);obtain⟨Ff,r2,p2,_⟩:=I.tuple (fK.of hb);by_cases hx:xs=[]
 ·subst hx;cases r1;obtain⟨⟨cls,dd,data,sl⟩,ho,hc,n,hd⟩:=id p1;obtain⟨⟨T5,Sd,data2,Se⟩,Hx,O8,n2,hd2⟩:=id p2;simp only at hc hd O8 hd2;subst hc hd O8 hd2;exact ab0 ⟨_,ho,rfl⟩ ⟨_,Hx,rfl⟩ abe abT aam aaf (ZZ _ _)
   (tuple_addW0 a b ([]:List Value).toArray Ff.toArray n n2 dd Sd sl Se (by simp)) ⟨ho,Hx,⟨.ref b,H,I,rfl,q b H (kf.refl H) hb⟩⟩
 ·refine Ik η s σ H (.ref a) (.ref b) _ _ Q I rfl rfl ⟨a,b,xs,ys,rfl,rfl,fK.of ha,fK.of hb,hx,hz,λe=>?_,λe p hp=>?_⟩;·subst e;exact q a H (kf.refl H) (by rw[Xv];exact ha)
  ·exact q p _ (be hp _) aD
theorem fS:fillsNumberSlot (.type "tuple") "mul"=pure Ξ:=
 PySem.fillsNumberSlot_seq (id:="tuple.__mul__") (r:=Δ (.builtin "tuple.__rmul__")) aal.lookup (by decide+kernel) PySem.F.slot_tuple_rmul.lookup (by decide+kernel)
theorem jH:seqRepeat? (.type "tuple")=pure (Δ (.builtin "tuple.__mul__")):=by unfold seqRepeat?;rw[PySem.seqSlot_of (T:="tuple") (name:="__mul__") (id:="tuple.__mul__") aal.lookup (by decide+kernel),PySem.seqSlot_of (T:="tuple") (name:="__rmul__") (id:="tuple.__rmul__") PySem.F.slot_tuple_rmul.lookup (by decide+kernel)];rfl
theorem g7 a t l items n d sl:
  Meets (Z6.«int.__rmul__» ⟨[.int a t,.ref l],[]⟩) (λ_ R s=>s.heap.get? l=Δ {cls:=.type "tuple",dict:=d,data:=.seq items n,slots:=sl}/\R (.ok (.ret Value.notImplemented)) s):=
 .of_wp λprog w A R s h=>by obtain⟨hp,g,d,tk,os⟩:=s;obtain⟨hl,h⟩:=h;wp_walk;exact⟨_,rfl,h⟩
theorem Bn l items n d sl u(fc:¬items.isEmpty=Λ)(hz:items.size*2<=1000000):
  Meets (Z6.«tuple.__mul__» ⟨[.ref l,.int 2 u],[]⟩) (λ_ R s=>s.heap.get? l=Δ {cls:=.type "tuple",dict:=d,data:=.seq items n,slots:=sl}/\
   R (.ok (.ret (Xg s.heap.objs.size))) {s with heap:=s.heap.push {cls:=Y5 "tuple",data:=Data.seq (#[]++items++items)},toks:=s.toks}):=
 .of_wp λprog w A R s h=>by
  obtain⟨hp,g,dr,tk,os⟩:=s;obtain⟨hl,h⟩:=h;have f1:=abk;have h1:¬((items.size:Int)*2 > (2 ^ 63 - 1) / 8):=by lia
  have h2:¬Ya ((items.size:Int)*2)=Λ:=by
   unfold Ya;simp[W8]
   lia
  have h3:(items.isEmpty||(2:Int)==1)=Ξ:=by simpa using fc
  have h4:((2:Int)<=0||items.isEmpty)=Ξ:=by simpa using fc
  wp_walk using Ym hl
  rw[if_neg h1];show wpAny _ _ (if Ya ((items.size:Int)*2)=Λ then _ else _) _ _ _;rw[if_neg h2];have hsz:sizeOk (.seq (aaE (λx1 x2=>x1++x2) #[] (XW (abj 2) items))):=by
   show(aaE (λx1 x2=>x1++x2) #[] (XW (abj 2) items)).size<=W8;show(#[]++items++items).size<=W8;simp[W8]
   lia
  show wpAny _ _ (Zo (aaE (λx1 x2=>x1++x2) #[] (XW (abj 2) items)) >>=λv=>ret v) _ _ _;exact WD (m:=Zo _) (Ze (W0 ⟨_,rfl,h⟩) hsz)
def Kn:R2:=λx y H Q=>∃a xs,x=.ref a/\y=.int 2/\H a=Δ (.tup xs)/\xs≠[]/\xs.length<=100000/\∀p,H p=Θ->Q (.ref p) (upd H p (.tup (xs++xs)))
theorem Ft:jZ X (Y4 .Mult) Kn:=by
 intro η s σ H x y v u Q I rx ry h;obtain⟨a,xs,rfl,rfl,ha,fc,hz,q⟩:=h;cases rx;obtain⟨t,rfl⟩:=ry;obtain⟨its,r,ht,hz'⟩:=I.tuple (fK.of ha);have hl:=r.length;obtain⟨⟨cls,dd,data,sl⟩,ho,hc,n,hd⟩:=id ht;simp only at hc hd;subst hc hd;have xx:¬its.toArray.isEmpty=Λ:=by
  intro z;have:its=[]:=by simpa using z
  exact fc (r.nF.mp this)
 refine ZW (T:="tuple") (U:="int") (by decide) ⟨_,ho,rfl⟩ (λs'=>aaA s' 2 t) fS aaw YB jH PySem.F.slot_int_index.lookup
  (Z8 YB (aaA s 2 t) aan (aag _ _) (g7 2 t a its.toArray n dd sl)
   ⟨ho,rfl,⟨_,ho,rfl⟩,Z8 aal ⟨_,ho,rfl⟩ aae (ZY _ _)
    (Bn a its.toArray n dd sl t xx (by rw[WX];lia)) ⟨ho,?_⟩⟩)
 refine⟨.ref s.heap.objs.size,_,I.laid (t':=s.toks) (o:=.tup (xs++xs)) (λb ob q=>WA _ q) (WM _) ?_,rfl,q _ (I.aK.fresh (WM _))⟩;refine⟨by rw[W1,XF];lia,its++its,r.append r,?_⟩;have e:(#[]++its.toArray++its.toArray:Array Value)=(its++its).toArray:=by simp
 rw[e];exact IsTup.new _ _
noncomputable def Ko:List DictEntry->Option (List (Str×Int))
 |[]=>Δ []|⟨_,.str x _,.int i _⟩::r=>(Ko r).map λD=>(x,i)::D|_=>Θ
def Uu(o:Obj):Option (List (Str×Int)):=match o with|⟨.type t,Θ,.dict es _,sl⟩=>if t="dict"/\sl=#[] then Ko es.toList else Θ|_=>Θ
open PyProof.Rows.KTD in
structure Px(K:WO)(a:Addr)(D:List (Str×Int)):Prop where
 low:(a==Yw)=Ξ
 at_:∃o,K.lookup a=Δ o/\Uu o=Δ D
end
end L2
namespace L2
open PySem PySem.Spec PyProof.Rows PySem.SeqAt
open PySem.AutoSeq1 (wpAny_loadPart')
section
variable{X:Cx}
theorem any_range(bs:List Bool):(WB bs.length).any (λi=>bs.getD i Λ)=bs.any id:=by
 rw[abA];simp only[ZV,XX,id];constructor;·rintro⟨i,hi,h⟩;rw[WN,WI hi] at h;exact⟨bs[i],Xz hi,by simpa using h⟩
 ·rintro⟨b,hb,h⟩;obtain⟨i,hi,e⟩:=List.mem_iff_getElem.mp hb;refine⟨i,hi,?_⟩;rw[WN,WI hi];simpa[e] using h
theorem DE(hc:X.calm=Λ):fL X (.builtin "any") (λxs H Q=>∃(p:Addr) (bs:List Bool),xs=[.ref p]/\ke X.K H p (bs.map V.bl)/\Q (.bl (bs.any id)) H):=by
 intro η s σ H xs us Q I r h;obtain⟨p,bs,rfl,hq,q⟩:=h;obtain⟨u,rfl,rx⟩:=vals1 r;cases rx;obtain⟨its,rv,pl,hz⟩:=I.list hq;have hl:=rv.length;rw[WJ] at hl;have eB:p < s.heap.objs.size:=by obtain⟨o,n,e,_⟩:=pl;exact WV e
 refine call_any_walk (wpAny_pyIter_list pl.isList ?_);refine⟨s.heap.objs.size,_,_,its.toArray.size,_,_,λi=>bs.getD i Λ,rfl,Walks.list (A:=X.A.in1) (show X.A.in1.handled=Θ from I.ok.hd hc) s.heap.objs.size p (W9 eB) its.toArray,⟨⟨_,WR _ rfl,rfl,rfl⟩,?_⟩,?_,?_⟩;·obtain⟨o,e,c⟩:=pl.isList;exact⟨o,WA _ e,c⟩
 ·intro i v s' Q' E' hP hQ;have hP':its[i]?=Δ v:=by simpa using hP
  have hi:i < its.length:=(qqz hP').1;have hb:(bs.map V.bl)[i]?=Δ (V.bl (bs.getD i Λ)):=by rw[WL,WI (by lia),WN,WI (by lia)];rfl
  obtain⟨u,hu,ru⟩:=rv.get hb;rw[hP'] at hu;cases hu;cases ru;exact Yv hQ
 ·intro h' tk hk;refine⟨.bl (bs.any id),H,I.kept (t':=tk) (λb o e=>hk b o (by simpa using W9 (WV e)) (WA _ e)),?_,q⟩;show Z9 _=Z9 _;rw[WX,<-hl,any_range]
theorem qO(hd:(d==Yw)=Ξ)(ho:∀s:WU,s.heap.get? d=Δ o->True):
  MeetsIn prog w (Z6.«dict.__len__» ⟨[.ref d],[]⟩) (λ_ R s=>(s.heap.get? d=Δ o/\o.ExactDict/\o.data=.dict es ep)/\R (.ok (.ret (.int es.size s.toks))) {s with toks:=s.toks+1}):=
 .of_wp λA R s ⟨⟨ho,hc,LS⟩,h⟩=>by show wpAny _ _ (dictSize d >>=_) _ _ s;unfold dictSize;refine WD (WD (wpAny_dictEntries ho LS (W0 ?_)));show wpAny _ _ (Z6.Dict.pendingCount d >>=_) _ _ s;refine WD (wpAny_pendingCount_other hd ?_);refine wpAny_ret_mkInt ?_;rw[ab3];exact h
theorem xy(hd:(d==Yw)=Ξ)(ho:s.heap.get? d=Δ o)(hc:o.ExactDict)(LS:o.data=.dict es ep)(hfit:(es.size:Int) < 2 ^ 63)(h:Q (.int es.size (s.toks+1)) {s with toks:=s.toks+1+1}):wpAny (model prog w) A (call (.builtin "len") [.ref d]) Q E s:=by
 have hT:s.TypeIs (.ref d) "dict":=⟨o,ho,hc.1⟩;refine Calls.call_function_entry kind_len plain_len entry_len (args_len1 _) ?_;unfold Z6.«len»;refine WD (m:=oneArg "len" _) (W0 ?_);refine WD (m:=callSpecial? (.ref d) (XH "__len__")) (X3 (name:=XH "__len__") hT F.slot_dict_len
  (aaR F.slot_dict_len hT F.entry_dict_len (F.args_dict_len_1 _) (qO (o:=o) (es:=es) (ep:=ep) hd λ_ _=>trivial) ⟨⟨ho,hc,LS⟩,?_⟩))
 show wpAny _ _ _ _ _ {s with toks:=s.toks+1};refine WD (Zm (W0 ?_));refine WD (aaX ?_);show wpAny _ _ (if((es.size:Nat):Int) < 0 then _ else _) _ _ _;rw[if_neg (by lia)];show wpAny _ _ (if((es.size:Nat):Int)>=2 ^ 63 then _ else _) _ _ _;rw[if_neg (by lia)];exact WD (wpAny_mkInt (W0 ⟨_,rfl,h⟩))
def Py(H:Hp)(a:Addr)(n:Nat):Prop:=(∃kvs,Rd H a (.dK kvs)/\kvs.length=n)\/∃kvs,Rd H a (.dT kvs)/\kvs.length=n
theorem xA:fL X (.builtin "len") (λxs H Q=>∃p n,xs=[.ref p]/\Py H p n/\Q (.int n) H):=by
 intro η s σ H xs us Q I r h;obtain⟨p,n,rfl,hd,q⟩:=h;obtain⟨u,rfl,rx⟩:=vals1 r;cases rx;rcases hd with ⟨kvs,e,rfl⟩|⟨kvs,e,rfl⟩
 ·exact Pj I e λt s' I'=>⟨.int kvs.length,H,I',⟨t,rfl⟩,q⟩
 ·obtain⟨z,hd,xs,rel,o,es,ep,h1,h2,h3,h4,_⟩:=qj I.aK e;have hl:es.size=kvs.length:=by
   have:es.toList.length=xs.length:=by rw[h4,WJ]
   rw[<-Zr,this,<-rel.length]
  refine xy hd h1 h2 h3 (by rw[XF] at z;lia) ?_;rw[hl];exact⟨.int kvs.length,H,I.tok _,⟨_,rfl⟩,q⟩
theorem nM(hT:u5.TypeIs o "dict")(ku:wpAny (model prog w) A (abN o i) Q E u5)(hs:abC slice Ξ o i=operate [o,i] (abN o i)):wpAny (model prog w) A (abS value slice o i) Q E u5:=by
 unfold abS;refine WD ?_;rw[getitemInPython_of_ne hT.not_modules];refine WD (abt hT PySem.F.slot_dict_getitem.lookup ?_);have fin:wpAny (model prog w) A (abC slice Ξ o i) (λr DB=>wpAny (model prog w) A (letTemporaryGo value o r >>=λ_=>pure r) Q E DB) E u5:=by rw[hs];exact wpAny_operating (Yh ku (λr DB jb=>WD (wpAny_letTemporaryGo (W0 jb))) λ_ _ x=>x)
 first
  |exact W0 (WD fin)
  |exact WD (W0 (WD fin))
  |exact WD fin
theorem yS:fL X (.type "range") (λxs H Q=>∃lo hi,(xs=[.int lo,.int hi]\/(lo=0/\xs=[.int hi]))/\∀p,H p=Θ->Q (.ref p) (upd H p (.iJ lo hi))):=by
 intro η s σ H xs us Q I r h;obtain⟨lo,hi,hx,q⟩:=h;rcases hx with rfl|⟨rfl,rfl⟩;·obtain⟨u,w',rfl,rx,ry⟩:=vals2 r;obtain⟨t,rfl⟩:=rx;obtain⟨t',rfl⟩:=ry;refine call_range_2 ⟨.ref s.heap.objs.size,_,I.laid (a:=s.heap.objs.size) (o:=.iJ lo hi) (λb o e=>WA _ e) (WM _) ⟨_,_,_,WR _ rfl⟩,rfl,q _ (I.aK.fresh (WM _))⟩
 ·obtain⟨u,rfl,rx⟩:=vals1 r;obtain⟨t,rfl⟩:=rx;refine call_range_1 ⟨.ref s.heap.objs.size,_,I.laid (a:=s.heap.objs.size) (o:=.iJ 0 hi) (λb o e=>WA _ e) (WM _) ⟨_,_,_,WR _ rfl⟩,rfl,q _ (I.aK.fresh (WM _))⟩
noncomputable def Bo(lo:Int)(n:Nat):List V:=(WB n).map λk=>.int (lo+(k:Nat))
theorem Fu{lo:Int}:∀{acc} {n},acc.length=n->(∀(j:Nat) v,acc[j]?=Δ v->∃t,v=.int (lo+j*1) t)->aO (Bo lo n) acc:=by
 intro acc n hl h
 suffices ∀(k:Nat) (gP:List Value),gP.length+k=n->(∀(j:Nat) v,gP[j]?=Δ v->∃t,v=.int (lo+((k+j:Nat):Int)) t)->aO ((abH k gP.length).map λi=>V.int (lo+(i:Nat))) gP by
  have q:=this 0 acc (by lia) λj v hj=>by obtain⟨t,e⟩:=h j v hj;exact⟨t,by rw[e];congr 1<;>simp⟩
  unfold Bo;rw[List.range_eq_range',<-hl];exact q
 intro k gP;induction gP generalizing k with
 |nil=>intro _ _;exact .nil|cons x xs ih=>
  intro hn hx;rw[WZ,List.range'_succ,WQ];refine .cons ?_ ?_;·obtain⟨t,e⟩:=hx 0 x rfl;exact⟨t,by rw[e];simp⟩
  ·refine ih (k+1) (by rw[WZ] at hn;lia) λj v hj=>?_;obtain⟨t,e⟩:=hx (j+1) v (by simpa using hj);exact⟨t,by rw[e];congr 1;lia⟩
theorem vd(hc:X.calm=Λ):fL X (.type "list") (λxs H Q=>∃p lo hi,xs=[.ref p]/\H p=Δ (.iJ lo hi)/\(-(2 ^ 62)<=lo/\lo < 2 ^ 62/\ -(2 ^ 62)<=hi/\hi < 2 ^ 62)/\(hi - lo).toNat<=W8/\
  ∀l,H l=Θ->Q (.ref l) (upd H l (.lst (Bo lo (hi - lo).toNat)))):=by
 intro η s σ H xs us Q I r h;obtain⟨p,lo,hi,rfl,hp,⟨h1,h2,h3,h4⟩,hz,q⟩:=h;obtain⟨u,rfl,rx⟩:=vals1 r;cases rx;obtain⟨t,u,v,e⟩:=(show bG X.prog X.w H s.heap p (.iJ lo hi) from I.aK p _ hp);refine call_list_range (n:=(hi - lo).toNat) (I.ok.hd hc) (show IsRange s.heap p lo hi 1 t u v from e) (small_one h1 h2 h3 h4) (by rw[rangeSize_one];split<;>lia) (by rw[XF] at hz;lia) λh' tk gP c' hk hS Cq=>?_;obtain⟨i1,i2⟩:=Cq;have hv:aO (Bo lo (hi - lo).toNat) gP.toList:=Fu (by rw[Zr];exact i1) λj v hj=>i2 j v (by simpa using hj);have hlen:=hv.length;refine⟨.ref s.heap.objs.size,_,I.laid (a:=s.heap.objs.size) (o:=.lst (Bo lo (hi - lo).toNat)) (t':=tk) hk (WM _) ⟨by unfold Bo;rw[WJ,Xa];exact hz,gP.toList,c',hv,by simpa using hS⟩,rfl,q _ (I.aK.fresh (WM _))⟩
theorem Bp l items n d sl u(fc:¬items.isEmpty=Λ)(hz:items.size*3<=1000000):
  Meets (Z6.«tuple.__mul__» ⟨[.ref l,.int 3 u],[]⟩) (λ_ R s=>s.heap.get? l=Δ {cls:=.type "tuple",dict:=d,data:=.seq items n,slots:=sl}/\
   R (.ok (.ret (Xg s.heap.objs.size))) {s with heap:=s.heap.push {cls:=Y5 "tuple",data:=Data.seq (#[]++items++items++items)},toks:=s.toks}):=
 .of_wp λprog w A R s h=>by
  obtain⟨hp,g,dr,tk,os⟩:=s;obtain⟨hl,h⟩:=h;have f1:=abk;have h1:¬((items.size:Int)*3 > (2 ^ 63 - 1) / 8):=by lia
  have h2:¬Ya ((items.size:Int)*3)=Λ:=by
   unfold Ya;simp[W8]
   lia
  have h3:(items.isEmpty||(3:Int)==1)=Ξ:=by simpa using fc
  have h4:((3:Int)<=0||items.isEmpty)=Ξ:=by simpa using fc
  wp_walk using Ym hl
  rw[if_neg h1];show wpAny _ _ (if Ya ((items.size:Int)*3)=Λ then _ else _) _ _ _;rw[if_neg h2];have hsz:sizeOk (.seq (aaE (λx1 x2=>x1++x2) #[] (XW (abj 3) items))):=by
   show(aaE (λx1 x2=>x1++x2) #[] (XW (abj 3) items)).size<=W8;show(#[]++items++items++items).size<=W8;simp[W8]
   lia
  show wpAny _ _ (Zo (aaE (λx1 x2=>x1++x2) #[] (XW (abj 3) items)) >>=λv=>ret v) _ _ _;exact WD (m:=Zo _) (Ze (W0 ⟨_,rfl,h⟩) hsz)
def Kp:R2:=λx y H Q=>∃a xs,x=.ref a/\y=.int 3/\H a=Δ (.tup xs)/\xs≠[]/\xs.length<=100000/\∀p,H p=Θ->Q (.ref p) (upd H p (.tup (xs++xs++xs)))
theorem Fv:jZ X (Y4 .Mult) Kp:=by
 intro η s σ H x y v u Q I rx ry h;obtain⟨a,xs,rfl,rfl,ha,fc,hz,q⟩:=h;cases rx;obtain⟨t,rfl⟩:=ry;obtain⟨its,r,ht,hz'⟩:=I.tuple (fK.of ha);have hl:=r.length;obtain⟨⟨cls,dd,data,sl⟩,ho,hc,n,hd⟩:=id ht;simp only at hc hd;subst hc hd;have xx:¬its.toArray.isEmpty=Λ:=by
  intro z;have:its=[]:=by simpa using z
  exact fc (r.nF.mp this)
 refine ZW (T:="tuple") (U:="int") (by decide) ⟨_,ho,rfl⟩ (λs'=>aaA s' 3 t) fS aaw YB jH PySem.F.slot_int_index.lookup
  (Z8 YB (aaA s 3 t) aan (aag _ _) (g7 3 t a its.toArray n dd sl)
   ⟨ho,rfl,⟨_,ho,rfl⟩,Z8 aal ⟨_,ho,rfl⟩ aae (ZY _ _)
    (Bp a its.toArray n dd sl t xx (by rw[WX];lia)) ⟨ho,?_⟩⟩)
 refine⟨.ref s.heap.objs.size,_,I.laid (t':=s.toks) (o:=.tup (xs++xs++xs)) (λb ob q=>WA _ q) (WM _) ?_,rfl,q _ (I.aK.fresh (WM _))⟩;refine⟨by rw[W1,W1,XF];lia,its++its++its,(r.append r).append r,?_⟩;have e:(#[]++its.toArray++its.toArray++its.toArray:Array Value)=(its++its++its).toArray:=by simp
 rw[e];exact IsTup.new _ _
theorem Bq l items n d sl u:
  Meets (Z6.«tuple.__mul__» ⟨[.ref l,.int 1 u],[]⟩) (λ_ R s=>s.heap.get? l=Δ {cls:=.type "tuple",dict:=d,data:=.seq items n,slots:=sl}/\R (.ok (.ret (Xg l))) s):=
 .of_wp λprog w A R s h=>by
  obtain⟨hp,g,dr,tk,os⟩:=s;obtain⟨hl,h⟩:=h;have f1:=abk;have h3:(items.isEmpty||(1:Int)==1)=Λ:=by simp
  wp_walk using Ym hl
  all_goals exact⟨_,rfl,h⟩
def Kq:R2:=λx y H Q=>∃a xs,x=.ref a/\y=.int 1/\H a=Δ (.tup xs)/\Q (.ref a) H
theorem Fw:jZ X (Y4 .Mult) Kq:=by
 intro η s σ H x y v u Q I rx ry h;obtain⟨a,xs,rfl,rfl,ha,q⟩:=h;cases rx;obtain⟨t,rfl⟩:=ry;obtain⟨its,r,ht,hz'⟩:=I.tuple (fK.of ha);obtain⟨⟨cls,dd,data,sl⟩,ho,hc,n,hd⟩:=id ht;simp only at hc hd;subst hc hd;refine ZW (T:="tuple") (U:="int") (by decide) ⟨_,ho,rfl⟩ (λs'=>aaA s' 1 t) fS aaw YB jH PySem.F.slot_int_index.lookup
  (Z8 YB (aaA s 1 t) aan (aag _ _) (g7 1 t a its.toArray n dd sl)
   ⟨ho,rfl,⟨_,ho,rfl⟩,Z8 aal ⟨_,ho,rfl⟩ aae (ZY _ _)
    (Bq a its.toArray n dd sl t) ⟨ho,?_⟩⟩)
 exact⟨.ref a,H,I,rfl,q⟩
end
end L2
namespace L2
open PySem PySem.Spec PyProof.Rows
section
variable{X:Cx}{elt iter tg:Expr}{ifs:List Expr}{sc:Scope}{pos:Pos}{N:List Str}{ts:Nat}{js:List Nat}{wi:TI}{g:TG}{tc:TT}{te:TE}
theorem mK(hc:X.calm=Λ)(B:jG X N ts js sc)(hi:PI X tg iter wi)(hg:∀η fp C s H,PG (lX X η N sc fp C s H) tg g)(ht:∀η fp C s H,Fq (lX X η N sc fp C s H) ifs tc)(he:∀η fp C s H,PE (lX X η N sc fp C s H) elt te)(hs:∀x,aaY iter X.env x=pure x)(hsw:X.Ok->ZN (.ListComp elt [⟨tg,iter,ifs,0⟩] sc pos) (Δ (.Name y py)) Uv.line X.env=pure Λ)(hgt:PG X (.Name y py) gt):
  PS X (.Assign [.Name y py] (.ListComp elt [⟨tg,iter,ifs,0⟩] sc pos) Uv) (λD σ H=>v8 wi g tc te ts js σ H λv H1=>gt v σ H1 D.nx):=by
 intro η s σ H D I h;rw[exec_Assign_Name_used _ _ _ _ (hsw I.ok)];refine WD (abR (WD ?_));show wpAny _ X.A (do let _<-comprehension (.ListComp elt [⟨tg,iter,ifs,0⟩] sc pos) sc X.env _ (newList []) Ξ (eval iter X.env) (Δ (acm (.Name y py) X.env))) _ _ s;refine WD (Yh (wpAny_comprehension_free (use:=Δ (acm (.Name y py) X.env)) (Q:=λ_ s'=>SP X η D .next s') rfl hs (sH (B.cl I.ok)) B.kind B.names
  (bQ (hi η s σ H _ I h) λv s1 h1=>bQ h1 λR7 s2 h2=>?_)) (λ_ s' hq=>W0 (W0 hq)) λ_ _ e=>e)
 obtain⟨it,fp,tn,J,H2,e,I2,T,st2,f2,oY⟩:=h2;subst e;have DD:H2 s2.heap.objs.size=Θ:=I2.aK.fresh (WM _);obtain⟨W,⟨m0,w0⟩,turn⟩:=oY s2.heap.objs.size DD;refine Ze (ZK B.eA (by intro y hy;simp at hy) (λdu Bj Bk=>?_) B.kind);obtain⟨s3,Iw⟩:∃s3:WU,({s2 with heap:=s2.heap.push {cls:=.type "list",dict:=Θ,data:=.seq ([]:List Value).toArray}}:WU)=s3:=⟨_,rfl⟩;have e3:s3.heap=s2.heap.push {cls:=.type "list",dict:=Θ,data:=.seq ([]:List Value).toArray}:=by rw[<-Iw]
 have Bl:du.Ns s3.heap.objs.size λx=>([]:List (Str×Value)).reverse.lookup x:=by rw[e3];exact Bj
 have Bm:Zl s3.heap.objs.size (s3.heap.push {cls:=.type (if(Δ X.env).isSome then "dict" else "frame"),data:=.dict #[]}) du:=by rw[e3];exact Bk
 have I3:Inv X η σ (upd H2 s2.heap.objs.size (.lst [])) s3:=by rw[<-Iw];exact I2.laid (t':=s2.toks) (λb u e=>WA _ e) (WM _) ⟨XZ _,[],0,.nil,WR _ rfl⟩
 have Pr:∀b∈fp,b < s2.heap.objs.size:=λb hb=>by obtain⟨o,e,_⟩:=T.obj _ _ st2 b hb;exact WV e
 have f3:∀b∈fp,mE X η (upd H2 s2.heap.objs.size (.lst [])) b:=λb hb=>⟨by rw[au (W9 (Pr b hb))];exact(f2 b hb).1,(f2 b hb).2⟩;have Uk:s2.heap.objs.size < s3.heap.objs.size:=by rw[e3,X9];exact Yq _
 have Pt:∀b∈fp,b < s3.heap.objs.size:=λb hb=>aap (Pr b hb) Uk;have k1:∀b o,s3.heap.get? b=Δ o->du.get? b=Δ o:=λb o e=>Bm.extBut b o (W9 (WV e)) (WA _ e);have IB:=I3.block (tk:=s3.toks+([]:List (Str×Value)).length) (N:=N) B f3 Pt Bl k1;have mj:tn 0 du:=T.keep _ _ _ st2 λb hb o e=>k1 b o (by rw[e3];exact WA _ e);have su:∀{H':Hp},(∀b∈fp,H' b=Θ)->∀b∈fp,mE (lX X η N sc fp s3.heap.objs.size s3 (upd H2 s2.heap.objs.size (.lst []))) [] H' b:=λhn b hb=>⟨hn b hb,W9 (Pt b hb),I3.Ui (f3 b hb),.inl hb,λx c h=>(f3 b hb).2.2.2.2.1 x c (B.get I3.ok h),λp hp=>(f3 b hb).2.2.2.2.2 p (by simpa[lX] using hp)⟩;have loop:aaF (model X.prog X.w) X.A (.compLoop (.ListComp elt [⟨tg,iter,ifs,0⟩] sc pos) 0 (.ref it) (.ref s2.heap.objs.size) (compEnvC sc (dF X.env sc.names []) s3.heap.objs.size X.env))
   (compPost (model X.prog X.w) X.A X.xe (Δ (acm (.Name y py) X.env)) (λ_ s'=>SP X η D .next s') (.ref s2.heap.objs.size) s3.heap.objs.size) {s3 with heap:=du,toks:=s3.toks+([]:List (Str×Value)).length}:=by
  refine v7 (λn s'=>∃i τ H',Inv (lX X η N sc fp s3.heap.objs.size s3 (upd H2 s2.heap.objs.size (.lst []))) [] τ H' s'/\tn i s'.heap/\(∀b∈fp,H' b=Θ)/\W i n τ H') ?_ m0
   ⟨0,iN ts js σ,_,IB,mj,λb hb=>(f3 b hb).1,w0⟩
  rintro n s5 ⟨i,τ,H5,I5,A0,Lo,w5⟩;rcases turn i n τ H5 w5 with ⟨stop,qn⟩|⟨go,step⟩
  ·refine bQ (T.done (lX X η N sc fp s3.heap.objs.size s3 (upd H2 s2.heap.objs.size (.lst []))) rfl rfl rfl hc i [] s5 τ H5 (λ_ _=>False) I5 (su Lo) A0 stop) λr s6 ⟨hr,I6⟩=>?_;subst hr;obtain⟨m,hn,_⟩:=I6.loc;have IO:Inv X η σ H5 s6:=I3.yR (h'':=s6.heap) f3 I6 ⟨rfl,λ_ _=>rfl⟩;have fC:mE X η H5 s3.heap.objs.size:=I3.u6 (WM _) I6.free;obtain⟨oC,esC,epC,eC,dC,rC⟩:=id hn;have IOp:=IO.pinned (fp:=[s3.heap.objs.size]) (λb hb=>by rw[X7.mp hb];exact fC) λb hb=>by rw[X7.mp hb];exact⟨oC,eC,λv z=>by rw[dC] at z;cases z⟩
   refine bQ (hgt _ s6 σ H5 (.ref s2.heap.objs.size) (.ref s2.heap.objs.size) D.nx IOp rfl qn) λ_ s8 ⟨σ8,H8,I8,q8⟩=>?_;obtain⟨pC,fC8,_⟩:=I8.pin (s3.heap.objs.size,oC) (Xi _ (Xi _ (ez (by simp) eC)));refine⟨m,hn.at' λo e=>?_,λh' vc=>⟨σ8,H8,?_,q8⟩⟩;·rw[eC] at e;cases e;exact pC
   ·exact(I8.jh).turned (it:=s3.heap.objs.size) (t':=s8.toks) (λb o hb e=>vc.extBut b o hb e) fC8 fC.2.1 fC.2.2.2.1 fC.2.2.2.2.1 fC.2.2.2.2.2
  ·refine bQ (T.item (lX X η N sc fp s3.heap.objs.size s3 (upd H2 s2.heap.objs.size (.lst []))) rfl rfl rfl hc i [] s5 τ H5 (λ_ _=>False) I5 (su Lo) A0 go) λr s6 ⟨u,hr,h6⟩=>?_;subst hr;refine bQ h6 λ_ s7 ⟨x,H7,I7,r7,y7,LP,Ul⟩=>?_;have Um:=I7.pinned (su Ul) (T.obj _ _ LP);refine bQ (hg _ _ _ _ _ _ s7 τ H7 x u _ Um r7 (step x H7 y7)) λ_ s8 ⟨Iy,H8,I8,q8⟩=>?_;refine bQ (ht _ _ _ _ _ _ s8 Iy H8 _ I8 q8) λok s9 ⟨H9,I9,q9⟩=>?_;have again:∀{s':WU} {Iz:St} {H':Hp},Inv (lX X η N sc fp s3.heap.objs.size s3 (upd H2 s2.heap.objs.size (.lst []))) ([]++oR fp s7.heap) Iz H' s'->(∃m',m' < n/\W (i+1) m' Iz H')->
     ∃m,m < n/\∃i τ H',Inv (lX X η N sc fp s3.heap.objs.size s3 (upd H2 s2.heap.objs.size (.lst []))) [] τ H' s'/\tn i s'.heap/\(∀b∈fp,H' b=Θ)/\W i m τ H':=λ{s' Iz H'} I' ⟨m',hm,w'⟩=>by
    refine⟨m',hm,i+1,Iz,H',I'.jh,T.keep _ _ _ LP λb hb o e=>(I'.pin (b,o) (Xi _ (Xi _ (ez hb e)))).1,λb hb=>?_,w'⟩;obtain⟨o,e,d⟩:=T.obj _ _ LP b hb;exact(I'.pin (b,o) (Xi _ (Xi _ (ez hb e)))).2.1
   cases ok with|false=>exact again I9 q9|true=>refine bQ (he _ _ _ _ _ _ s9 Iy H9 _ I9 q9) λxv Pu ⟨y,Uo,Up,Uq,ys,ha,hz,Ur⟩=>?_;refine bQ (oV _ Pu Iy Uo (.ref s2.heap.objs.size) [y] (.ref s2.heap.objs.size) [xv] (λ_ H'=>∃m',m' < n/\W (i+1) m' Iy H') Up rfl (.cons Uq .nil) ⟨_,ys,y,rfl,rfl,ha,hz,Ur⟩) λ_ s11 ⟨_,H11,Us,_,Ut⟩=>?_;exact again Us Ut
 subst Iw;exact codeAny_compStart_list loop (T.self _ 0 _ _ _ mj loop)
end
section
variable{prog:Xy}{w:World}{A:Yc}{E:Value->WU->Prop}{s:WU}
theorem nN{items}(hit:s.heap.IsTupleIter it t i)(ht:s.heap.IsTuple t items)(hx:items[i]?=Δ x)(hQ:∀h',h'.IsTupleIter it t (i+1)->Zl it s.heap h'->Q x {s with heap:=h'}):
  wpAny (model prog w) A (Xk (.ref it)) Q E s:=by
 obtain⟨o,ho,hc,hd⟩:=id hit;obtain⟨ol,Uw,_,nl,Pz⟩:=ht;unfold Xk;refine WD (X3 (name:=XH "__next__") hit.typeIs Yx
  (Yp Yx hit.typeIs PySem.F.entry_tuple_iterator_next ?_ (PySem.F.args_tuple_iterator_next_1 _)))
 show wpAny _ _ (field (.ref it) 0 >>=_) _ _ s;refine WD (Yo ho hd (x:=.ref t) rfl ?_);show wpAny _ _ (if(Xg t==YG)=Λ then _ else _) _ _ s;rw[if_neg (show ¬((Xg t==YG)=Λ) from Xw)];show wpAny _ _ (field (.ref it) 1 >>=_) _ _ s;refine WD (Yo ho hd (x:=.int i 0) rfl ?_);show wpAny _ _ (seqItems? (.ref t) >>=_) _ _ s;refine WD (YJ Uw Pz ?_);simp only[Int.toNat_natCast,hx];refine WD (wpAny_setField ho hd (by simp) (W0 ⟨x,rfl,W0 (hQ _ ?_ (Zl.update ..))⟩));exact⟨_,YC _ ho (Obj.isFreed_of_fields (Obj.data_mapFields hd _)),(Obj.cls_mapFields ..).trans hc,by rw[Obj.data_mapFields hd];simp[YK]⟩
theorem jj{items}(hh:A.handled=Θ)(hit:s.heap.IsTupleIter it t i)(ht:s.heap.IsTuple t items)(hx:items[i]?=Θ)(hE:∀h' e,Heap.ExtBut it s.heap h'->(∃o,h'.get? e=Δ o/\o.cls=.type "StopIteration")->E (.ref e) {s with heap:=h'}):
  wpAny (model prog w) A (Xk (.ref it)) Q E s:=by
 obtain⟨o,ho,hc,hd⟩:=id hit;obtain⟨ol,Uw,_,nl,Pz⟩:=ht;unfold Xk;refine WD (X3 (name:=XH "__next__") hit.typeIs Yx
  (Yp Yx hit.typeIs PySem.F.entry_tuple_iterator_next ?_ (PySem.F.args_tuple_iterator_next_1 _)))
 show wpAny _ _ (field (.ref it) 0 >>=_) _ _ s;refine WD (Yo ho hd (x:=.ref t) rfl ?_);show wpAny _ _ (if(Xg t==YG)=Λ then _ else _) _ _ s;rw[if_neg (show ¬((Xg t==YG)=Λ) from Xw)];show wpAny _ _ (field (.ref it) 1 >>=_) _ _ s;refine WD (Yo ho hd (x:=.int i 0) rfl ?_);show wpAny _ _ (seqItems? (.ref t) >>=_) _ _ s;refine WD (YJ Uw Pz ?_);simp only[Int.toNat_natCast,hx];refine WD (abV (WD (wpAny_setField ho hd (by simp) ?_)));show wpAny _ _ (newExc (.type "StopIteration") [] >>=_) _ _ _;refine WD ?_;simp only[newExc,newTuple];refine WD (Ze ?_ (by size_fits));refine WD (m:=firstArgMember _ _) (wpAny_of_eq (a:=YG) (by first|rfl|(simp only[firstArgMember];rfl)) ?_);refine Ze ?_ (by size_fits);simp only[raiseNew];refine WD (wpAny_handled ?_);first|rw[show A.in1.handled=Θ from hh]|rw[hh]
 refine WD (W0 (wpAny_throw ?_));exact hE _ _ (((Zl.update ..).extBut.push _).push _) ⟨_,WR _ rfl,rfl⟩
end
theorem ky{prog:Xy}{w:World}{A:Yc}(hh:A.handled=Θ)(it l:Addr)(fc:l≠it)(items:Array Value):
  Draws prog w A it [it,l] items.size (λi v=>items[i]?=Δ v) (λi h=>h.IsTupleIter it l i/\h.IsTuple l items) where
 live:=λ_ _ st=>let ⟨o,ho,_⟩:=st.1;⟨o,ho⟩
 frame:=λ_ _ _ st hk=>⟨st.1.at λo e=>hk it (by simp) o e,let ⟨o,ho,r⟩:=st.2;⟨o,hk l (by simp) o ho,r⟩⟩
 item:=λi s Q E hi st hQ=>by refine nN st.1 st.2 (x:=items[i]) (by simp[hi]) λh' Ux vc=>?_;exact hQ _ h' s.toks (by simp[hi]) ⟨Ux,st.2.extBut vc.extBut fc⟩ vc
 done:=λs Q E st hE=>jj hh st.1 st.2 (by simp) hE
abbrev yu(h:Heap)(z TI TO:Addr)(f0 f1:Value):Prop:=
 h.get? z=Δ {cls:=.type "zip",dict:=Θ,data:=.fields #[f0,f1,.bool Ξ,.ref TI,.ref TO],slots:=#[]}
noncomputable def ZF(f0 f1:Value):Prop:=(f0=.none\/∃(T:Int) (t:Tok),f0=.int T t)/\∃b,f1=.bool b
structure ID(z TI TO i1 i2:Addr)(oZ o4:List Addr):Prop where
 TIz:TI≠z
 TOz:TO≠z
 i1z:i1≠z
 i2z:i2≠z
 TITO:TI≠TO
 TIi1:TI≠i1
 TIi2:TI≠i2
 TOi1:TO≠i1
 TOi2:TO≠i2
 i12:i1≠i2
 z1:z∉oZ
 z2:z∉o4
 T1:TO∉oZ
 T2:TO∉o4
 x1:i2∉oZ
 x2:i1∉o4
section
variable{prog:Xy}{w:World}{A:Yc}{E:Value->WU->Prop}{s:WU}{z TI TO i1 i2:Addr}{oZ o4:List Addr}{n1 n2:Nat}{P1 P2:Nat->Value->Prop}{ve vf:Nat->Heap->Prop}
theorem yT(h:Q (s.heap.get? a) s):wpAny M A (loadIfAlive a) Q E s:=λΓ p _=>by unfold loadIfAlive;rw[Sem.wp_loadIfAlive];exact W0 (M:=M) (A:=A) (E:=E) (Q:=Q) h Γ p (by assumption)
theorem Kr(hf:ZF f0 f1)(hz:yu s.heap z TI TO f0 f1)(h1:Q Λ s)(h2:∀h',yu h' z TI TO f0 (.bool Λ)->Zl z s.heap h'->Q Ξ {s with heap:=h'}):
  wpAny (model prog w) A (Yl (.ref z)) Q E s:=by
 unfold Yl;refine WD (Yo hz rfl (x:=f0) rfl ?_);obtain⟨hf0,b,rfl⟩:=hf;rcases hf0 with rfl|⟨T,t,rfl⟩;·exact W0 h1
 ·dsimp only;refine WD (yT ?_);cases s.heap.get? T.toNat with|none=>exact W0 h1|some o=>show wpAny _ _ (field (.ref z) 1 >>=_) _ _ _;refine WD (Yo hz rfl (x:=.bool b) rfl ?_);cases b with|true=>exact W0 (h2 s.heap hz ⟨rfl,λ_ _=>rfl⟩)|false=>show wpAny _ _ (setField (.ref z) 1 (.bool Λ) >>=_) _ _ _;exact WD (YE hz (by simp) λdu jk dN=>W0 (h2 du jk dN))
theorem Fx(D1:Draws prog w A i1 oZ n1 P1 ve)(D2:Draws prog w A i2 o4 n2 P2 vf)(ap:ID z TI TO i1 i2 oZ o4){Q:Value->WU->Prop}(hf:ZF f0 f1)(hz:yu s.heap z TI TO f0 f1)(LU:Y7 s.heap TI (.ref i1) (.ref i2))(Ks:Y7 s.heap TO a b)(uS:k < n1)(uT:k < n2)(h1:ve k s.heap)(h2:vf k s.heap)(hQ:∀h' tk T x y f0 f1 a b,ZF f0 f1->yu h' z TI TO f0 f1->Y7 h' TO a b->ve (k+1) h'->vf (k+1) h'->P1 k x->P2 k y->s.heap.objs.size<=T->Y7 h' T x y->
   (∀c o,c≠z->c≠TO->c≠i1->c≠i2->s.heap.get? c=Δ o->h'.get? c=Δ o)->Q (.ref T) {s with heap:=h',toks:=tk}):
  wpAny (model prog w) A (Z6.«zip.__next__» ⟨[.ref z],[]⟩) (λfin s'=>∃v,fin=.done (.ret v)/\Q v s') E s:=by
 show wpAny _ _ (field (.ref z) 2 >>=_) _ _ _;refine WD (Yo hz rfl (x:=.bool Ξ) rfl ?_);show wpAny _ _ (field (.ref z) 3 >>=_) _ _ _;refine WD (Yo hz rfl (x:=.ref TI) rfl ?_);refine WD (YJ LU rfl ?_);show wpAny _ _ (Yl (.ref z) >>=_) _ _ _;refine WD (Kr hf hz ?_ ?_)
 ·simp only[if_true];refine WD (abV ?_);refine WD (Yo hz rfl (x:=.ref TO) rfl ?_);refine WD (YE hz (by simp) λdu jk dN=>?_);replace jk:yu du z TI TO .ellipsis f1:=jk;refine WD ?_;simp only[abh,List.zipIdx_nil,Zc,ZL];refine WD (WD (aa6 ?_));show wpAny _ _ (Xk (.ref i1) >>=_) _ _ _;refine WD (D1.item k _ _ _ uS (D1.frame k _ du h1 λc hc o e=>dN.extBut _ _ (λx=>ap.z1 (x▸hc)) e) λx ku PB px yU dO=>W0 ?_);have sI:Y7 ku TO a b:=dO.extBut _ _ ap.TOi1 (dN.extBut _ _ ap.TOz Ks);refine WD (YJ sI rfl ?_);refine WD (aaG sI λjb xB fM=>?_);replace xB:Y7 jb TO x b:=xB;refine WD (aaX (W0 ?_));refine WD (WD (aa6 ?_));show wpAny _ _ (Xk (.ref i2) >>=_) _ _ _;have k3:∀c o,c≠z->c≠TO->c≠i1->s.heap.get? c=Δ o->jb.get? c=Δ o:=λc o c1 c2 c3 e=>fM.extBut _ _ c2 (dO.extBut _ _ c3 (dN.extBut _ _ c1 e));refine WD (D2.item k _ _ _ uT (D2.frame k _ jb h2 λc hc o e=>k3 c o (λx=>ap.z2 (x▸hc)) (λx=>ap.T2 (x▸hc)) (λx=>ap.x2 (x▸hc)) e) λy DC tk4 py PC qo=>W0 ?_);have Fy:Y7 DC TO x b:=qo.extBut _ _ ap.TOi2 xB;refine WD (YJ Fy rfl ?_);refine WD (aaG Fy λlW xC qp=>?_);replace xC:Y7 lW TO x y:=xC;refine WD (aaX (W0 (W0 ?_)));refine WD (YJ xC rfl ?_);refine WD (abB ?_);have hsz:lW.objs.size=s.heap.objs.size:=by rw[qp.1,qo.1,fM.1,dO.1,dN.1]
  have Kt:yu lW z TI TO .ellipsis f1:=qp.extBut _ _ ap.TOz.symm (qo.extBut _ _ ap.i2z.symm (fM.extBut _ _ ap.TOz.symm (dO.extBut _ _ ap.i1z.symm jk)));have PD:∀c o,c≠z->c≠TO->c≠i1->c≠i2->s.heap.get? c=Δ o->lW.get? c=Δ o:=λc o c1 c2 c3 c4 e=>qp.extBut _ _ c2 (qo.extBut _ _ c4 (k3 c o c1 c2 c3 e));have PF:z < lW.objs.size:=WV Kt;show wpAny _ _ (Z6.SmallTypes.ownedTupleHandOut (.ref z) (.ref lW.objs.size) >>=_) _ _ _;refine WD ?_;unfold Z6.SmallTypes.ownedTupleHandOut;have PH:yu (lW.push {cls:=.type "tuple",data:=.seq #[x,y]}) z TI TO .ellipsis f1:=WA _ Kt;refine WD (YE PH (by simp) λUy Fz Ku=>?_);replace Fz:yu Uy z TI TO (YK lW.objs.size) f1:=Fz;refine YE Fz (by simp) λDF FA Kv=>?_;replace FA:yu DF z TI TO (YK lW.objs.size) (.bool Ξ):=FA;have up:∀c o,c≠z->lW.get? c=Δ o->DF.get? c=Δ o:=λc o c1 e=>Kv.extBut _ _ c1 (Ku.extBut _ _ c1 (WA _ e));have PJ:Y7 DF lW.objs.size x y:=Kv.extBut _ _ (XI PF) (Ku.extBut _ _ (XI PF) (WR _ rfl));refine W0 ⟨_,rfl,?_⟩;refine hQ DF _ lW.objs.size x y _ _ x y ⟨.inr ⟨_,_,rfl⟩,Ξ,rfl⟩ FA (up _ _ ap.TOz xC) (D1.frame _ ku DF yU λc hc o e=>?_) (D2.frame _ DC DF PC λc hc o e=>?_) px py (by rw[hsz];exact WM _) PJ λc o c1 c2 c3 c4 e=>up c o c1 (PD c o c1 c2 c3 c4 e);·exact up c o (λx=>ap.z1 (x▸hc)) (qp.extBut _ _ (λx=>ap.T1 (x▸hc)) (qo.extBut _ _ (λx=>ap.x1 (x▸hc)) (fM.extBut _ _ (λx=>ap.T1 (x▸hc)) e)))
  ·exact up c o (λx=>ap.z2 (x▸hc)) (qp.extBut _ _ (λx=>ap.T2 (x▸hc)) e)
 ·intro du jk dN;simp only[Yb,if_false,List.forIn_toArray,Zc,ZL];refine WD ?_;refine WD ?_;refine WD ?_;refine Zm ?_;show wpAny _ _ (Xk (.ref i1) >>=_) _ _ _;refine WD (D1.item k _ _ _ uS (D1.frame k _ du h1 λc hc o e=>dN.extBut _ _ (λx=>ap.z1 (x▸hc)) e) λx ku PB px yU dO=>W0 ?_);refine W0 ?_;refine WD ?_;refine WD ?_;refine Zm ?_;show wpAny _ _ (Xk (.ref i2) >>=_) _ _ _;refine WD (D2.item k _ _ _ uT (D2.frame k _ ku h2 λc hc o e=>dO.extBut _ _ (λx=>ap.x2 (x▸hc)) (dN.extBut _ _ (λx=>ap.z2 (x▸hc)) e)) λy jb tk3 py PK fM=>W0 ?_);refine W0 ?_;refine W0 ?_;show wpAny _ _ (newTuple [x,y] >>=_) _ _ _;refine WD (abB (items:=[x,y]) ?_);have hsz:jb.objs.size=s.heap.objs.size:=by rw[fM.1,dO.1,dN.1]
  have up:∀c o,jb.get? c=Δ o->(jb.push {cls:=.type "tuple",data:=.seq #[x,y]}).get? c=Δ o:=λc o e=>WA _ e;refine W0 ⟨_,rfl,?_⟩;refine hQ _ _ jb.objs.size x y f0 (.bool Λ) a b ⟨hf.1,Λ,rfl⟩ (up _ _ (fM.extBut _ _ ap.i2z.symm (dO.extBut _ _ ap.i1z.symm jk))) (up _ _ (fM.extBut _ _ ap.TOi2 (dO.extBut _ _ ap.TOi1 (dN.extBut _ _ ap.TOz Ks))))
   (D1.frame _ ku _ yU λc hc o e=>up _ _ (fM.extBut _ _ (λx=>ap.x1 (x▸hc)) e)) (D2.frame _ jb _ PK λc hc o e=>up _ _ e) px py (by rw[hsz];exact WM _) (WR _ rfl) λc o c1 c2 c3 c4 e=>up _ _ (fM.extBut _ _ c4 (dO.extBut _ _ c3 (dN.extBut _ _ c1 e)))
theorem FC(D1:Draws prog w A i1 oZ n1 P1 ve)(D2:Draws prog w A i2 o4 n2 P2 vf)(ap:ID z TI TO i1 i2 oZ o4)(hf:ZF f0 f1)(hz:yu s.heap z TI TO f0 f1)(LU:Y7 s.heap TI (.ref i1) (.ref i2))(Ks:Y7 s.heap TO a b)(hk:k=n1\/(k < n1/\k=n2))(h1:ve k s.heap)(h2:vf k s.heap)(hE:∀h' tk e,(∀c o,c≠z->c≠TO->c≠i1->c≠i2->s.heap.get? c=Δ o->h'.get? c=Δ o)->(∃o,h'.get? e=Δ o/\o.cls=.type "StopIteration")->E (.ref e) {s with heap:=h',toks:=tk}):
  wpAny (model prog w) A (Z6.«zip.__next__» ⟨[.ref z],[]⟩) Q E s:=by
 show wpAny _ _ (field (.ref z) 2 >>=_) _ _ _;refine WD (Yo hz rfl (x:=.bool Ξ) rfl ?_);show wpAny _ _ (field (.ref z) 3 >>=_) _ _ _;refine WD (Yo hz rfl (x:=.ref TI) rfl ?_);refine WD (YJ LU rfl ?_);show wpAny _ _ (Yl (.ref z) >>=_) _ _ _;refine WD (Kr hf hz ?_ ?_)
 ·simp only[if_true];refine WD (abV ?_);refine WD (Yo hz rfl (x:=.ref TO) rfl ?_);refine WD (YE hz (by simp) λdu jk dN=>?_);replace jk:yu du z TI TO .ellipsis f1:=jk;refine WD ?_;simp only[abh,List.zipIdx_nil,Zc,ZL];refine WD (WD (aa6 ?_));show wpAny _ _ (Xk (.ref i1) >>=_) _ _ _;have yV:=D1.frame k _ du h1 λc hc o e=>dN.extBut _ _ (λx=>ap.z1 (x▸hc)) e;rcases hk with rfl|⟨hk,rfl⟩
  ·refine WD (D1.done _ _ _ yV λku e dO he=>?_);obtain⟨oe,LV,PL⟩:=he;have Kw:yu ku z TI TO .ellipsis f1:=dO _ _ ap.i1z.symm jk;have Uz:e≠z:=λx=>by subst x;rw[Kw] at LV;cases LV;simp at PL
   exact YE Kw (by simp) λjb _ fM=>hE jb s.toks e (λc o c1 _ c3 _ x=>fM.extBut _ _ c1 (dO _ _ c3 (dN.extBut _ _ c1 x))) ⟨oe,fM.extBut _ _ Uz LV,PL⟩
  ·refine WD (D1.item k _ _ _ hk yV λx ku PB px yU dO=>W0 ?_);have sI:Y7 ku TO a b:=dO.extBut _ _ ap.TOi1 (dN.extBut _ _ ap.TOz Ks);refine WD (YJ sI rfl ?_);refine WD (aaG sI λjb xB fM=>?_);refine WD (aaX (W0 ?_));refine WD (WD (aa6 ?_));show wpAny _ _ (Xk (.ref i2) >>=_) _ _ _;have k3:∀c o,c≠z->c≠TO->c≠i1->s.heap.get? c=Δ o->jb.get? c=Δ o:=λc o c1 c2 c3 e=>fM.extBut _ _ c2 (dO.extBut _ _ c3 (dN.extBut _ _ c1 e));refine WD (D2.done _ _ _ (D2.frame k _ jb h2 λc hc o e=>k3 c o (λx=>ap.z2 (x▸hc)) (λx=>ap.T2 (x▸hc)) (λx=>ap.x2 (x▸hc)) e) λDC e qo he=>?_);obtain⟨oe,LV,PL⟩:=he;have Kx:yu DC z TI TO .ellipsis f1:=qo _ _ ap.i2z.symm (fM.extBut _ _ ap.TOz.symm (dO.extBut _ _ ap.i1z.symm jk));have Uz:e≠z:=λx=>by subst x;rw[Kx] at LV;cases LV;simp at PL
   exact YE Kx (by simp) λlW _ qp=>hE lW PB e (λc o c1 c2 c3 c4 x=>qp.extBut _ _ c1 (qo _ _ c4 (k3 c o c1 c2 c3 x))) ⟨oe,qp.extBut _ _ Uz LV,PL⟩
 ·intro du jk dN;simp only[Yb,if_false,List.forIn_toArray,Zc,ZL];refine WD ?_;refine WD ?_;refine WD ?_;refine Zm ?_;show wpAny _ _ (Xk (.ref i1) >>=_) _ _ _;have yV:=D1.frame k _ du h1 λc hc o e=>dN.extBut _ _ (λx=>ap.z1 (x▸hc)) e;rcases hk with rfl|⟨hk,rfl⟩;·exact WD (D1.done _ _ _ yV λku e dO he=>hE ku s.toks e (λc o c1 _ c3 _ x=>dO _ _ c3 (dN.extBut _ _ c1 x)) he)
  ·refine WD (D1.item k _ _ _ hk yV λx ku PB px yU dO=>W0 ?_);refine W0 ?_;refine WD ?_;refine WD ?_;refine Zm ?_;show wpAny _ _ (Xk (.ref i2) >>=_) _ _ _;exact WD (D2.done _ _ _ (D2.frame k _ ku h2 λc hc o e=>dO.extBut _ _ (λx=>ap.x2 (x▸hc)) (dN.extBut _ _ (λx=>ap.z2 (x▸hc)) e)) λjb e fM he=>hE jb PB e (λc o c1 _ c3 c4 x=>fM _ _ c4 (dO.extBut _ _ c3 (dN.extBut _ _ c1 x))) he)
theorem qP(D1:Draws prog w A.in1 i1 oZ n1 P1 ve)(D2:Draws prog w A.in1 i2 o4 n2 P2 vf)(ap:ID z TI TO i1 i2 oZ o4)(hf:ZF f0 f1)(hz:yu s.heap z TI TO f0 f1)(LU:Y7 s.heap TI (.ref i1) (.ref i2))(Ks:Y7 s.heap TO a b)(uS:k < n1)(uT:k < n2)(h1:ve k s.heap)(h2:vf k s.heap)(hQ:∀h' tk T x y f0 f1 a b,ZF f0 f1->yu h' z TI TO f0 f1->Y7 h' TO a b->ve (k+1) h'->vf (k+1) h'->P1 k x->P2 k y->s.heap.objs.size<=T->Y7 h' T x y->
   (∀c o,c≠z->c≠TO->c≠i1->c≠i2->s.heap.get? c=Δ o->h'.get? c=Δ o)->Q (Δ (.ref T)) {s with heap:=h',toks:=tk}):wpAny (model prog w) A (aa8 (.ref z)) Q E s:=by
 have hT:s.TypeIs (.ref z) "zip":=⟨_,hz,rfl⟩;unfold aa8;exact WD (aa7 (X3 (name:=XH "__next__") hT ZG
  (Yp ZG hT PySem.F.entry_zip_next
   (Fx D1 D2 ap hf hz LU Ks uS uT h1 h2 λh' tk T x y f0 f1 a b c1 c2 c3 c4 c5 c6 c7 c8 c9 c10=>W0 (hQ h' tk T x y f0 f1 a b c1 c2 c3 c4 c5 c6 c7 c8 c9 c10)) (PySem.F.args_zip_next_1 _))))
theorem qQ(D1:Draws prog w A.in1 i1 oZ n1 P1 ve)(D2:Draws prog w A.in1 i2 o4 n2 P2 vf)(ap:ID z TI TO i1 i2 oZ o4)(hf:ZF f0 f1)(hz:yu s.heap z TI TO f0 f1)(LU:Y7 s.heap TI (.ref i1) (.ref i2))(Ks:Y7 s.heap TO a b)(hk:k=n1\/(k < n1/\k=n2))(h1:ve k s.heap)(h2:vf k s.heap)(hQ:∀h' tk,(∀c o,c≠z->c≠TO->c≠i1->c≠i2->s.heap.get? c=Δ o->h'.get? c=Δ o)->Q Θ {s with heap:=h',toks:=tk}):wpAny (model prog w) A (aa8 (.ref z)) Q E s:=by
 have hT:s.TypeIs (.ref z) "zip":=⟨_,hz,rfl⟩;unfold aa8;refine WD (aa7 (X3 (name:=XH "__next__") hT ZG
  (Yp ZG hT PySem.F.entry_zip_next (FC D1 D2 ap hf hz LU Ks hk h1 h2 λh' tk e DG he=>?_) (PySem.F.args_zip_next_1 _))))
 obtain⟨o,ho,hc⟩:=he;refine WD (abc (T:="StopIteration") (b:=Λ) ⟨o,ho,hc⟩ abD ?_);exact W0 (hQ _ _ DG)
def ZI(z TI TO i1 i2:Addr)(ve vf:Nat->Heap->Prop)(k:Nat)(h:Heap):Prop:=∃f0 f1 a b,ZF f0 f1/\yu h z TI TO f0 f1/\Y7 h TI (.ref i1) (.ref i2)/\Y7 h TO a b/\ve k h/\vf k h
theorem ZI.frame(ap:ID z TI TO i1 i2 oZ o4)(D1:Draws prog w A i1 oZ n1 P1 ve)(D2:Draws prog w A i2 o4 n2 P2 vf)(x:ZI z TI TO i1 i2 ve vf k h)(hk:∀b,(b=z\/b=TI\/b=TO\/b∈oZ\/b∈o4)->∀o,h.get? b=Δ o->h'.get? b=Δ o):ZI z TI TO i1 i2 ve vf k h':=by obtain⟨f0,f1,a,b,c1,c2,c3,c4,c5,c6⟩:=x;exact⟨f0,f1,a,b,c1,hk _ (.inl rfl) _ c2,hk _ (.inr (.inl rfl)) _ c3,hk _ (.inr (.inr (.inl rfl))) _ c4,D1.frame _ _ _ c5 λb hb=>hk b (.inr (.inr (.inr (.inl hb)))),D2.frame _ _ _ c6 λb hb=>hk b (.inr (.inr (.inr (.inr hb))))⟩
noncomputable def ZP(B:Nat)(bad:List Addr)(P1 P2:Nat->Value->Prop)(acc:Array Value)(k:Nat)(h:Heap):Prop:=acc.size=k/\(∀j v,acc[j]?=Δ v->∃T x y,v=.ref T/\B<=T/\T∉bad/\Y7 h T x y/\P1 j x/\P2 j y)/\∀(i j:Nat) (v:Value),acc[i]?=Δ v->acc[j]?=Δ v->i=j
theorem ZP.frame(x:ZP B bad P1 P2 acc k h)(hk:∀b o,b∉bad->h.get? b=Δ o->h'.get? b=Δ o):ZP B bad P1 P2 acc k h':=by refine⟨x.1,λj v hj=>?_,x.2.2⟩;obtain⟨T,a,b,e,c1,c2,c3,c4,c5⟩:=x.2.1 j v hj;exact⟨T,a,b,e,c1,c2,hk _ _ c2 c3,c4,c5⟩
theorem ZP.push(x:ZP B bad P1 P2 acc k h)(c1:B<=T)(c2:T∉bad)(c3:Y7 h T a b)(c4:P1 k a)(c5:P2 k b)(c6:∀j:Nat,acc[j]?≠Δ (Xg T)):ZP B bad P1 P2 (acc.push (.ref T)) (k+1) h:=by
 refine⟨by rw[Array.size_push,x.1],λj v hj=>?_,λi j v hi hj=>?_⟩
 ·rw[Array.getElem?_push] at hj;split at hj;·rename_i e;rw[x.1] at e;cases hj;exact⟨T,a,b,rfl,c1,c2,c3,by rw[e];exact c4,by rw[e];exact c5⟩
  ·exact x.2.1 j v hj
 ·rw[Array.getElem?_push] at hi hj;split at hi
  ·split at hj
   ·lia
   ·cases hi;exact absurd hj (c6 j)
  ·split at hj;·cases hj;exact absurd hi (c6 i)
   ·exact x.2.2 i j v hi hj
theorem Br(ap:ID z TI TO i1 i2 oZ o4)(D1:Draws prog w A.in1.in1 i1 oZ n1 P1 ve)(D2:Draws prog w A.in1.in1 i2 o4 n2 P2 vf)(hn:n1<=W8)(xD:S≠z/\S≠TI/\S≠TO/\S∉oZ/\S∉o4)(PM:i1∈oZ)(DH:i2∈o4):
  ∀(m k) (s) (acc) (c),min n1 n2 - k=m->k<=n1->k<=n2->B<=s.heap.objs.size->ZI z TI TO i1 i2 ve vf k s.heap->s.heap.get? S=Δ {cls:=.type "list",dict:=Θ,data:=.seq acc c,slots:=#[]}->
  ZP B [z,TO,i1,i2,S] P1 P2 acc k s.heap->
  (∀h' tk gP c',(∀b o,b∉[z,TO,i1,i2,S]->s.heap.get? b=Δ o->h'.get? b=Δ o)->h'.get? S=Δ {cls:=.type "list",dict:=Θ,data:=.seq gP c',slots:=#[]}->ZP B [z,TO,i1,i2,S] P1 P2 gP (min n1 n2) h'->
   R (.ok (.ret res)) {s with heap:=h',toks:=tk})->
  aaF (model prog w) A (.builtin "list.extend.loop" ⟨[.ref S,.ref z,res],[]⟩) R s:=by
 have PN:S≠i1:=λe=>xD.2.2.2.1 (e▸PM);have PQ:S≠i2:=λe=>xD.2.2.2.2 (e▸DH);intro m;induction m with
 |zero=>
  intro k s acc c hm uS uT hB Ky hS eZ hR;refine codeAny_builtin PySem.F.entry_extend_loop ?_;rw[Yc.under_plainId Y8 _];show wpAny _ A.in1 (aa8 (.ref z) >>=_) _ _ s;obtain⟨f0,f1,a,b,c1,c2,c3,c4,c5,c6⟩:=Ky;have UA:min n1 n2=k:=by lia
  refine WD (qQ D1 D2 ap c1 c2 c3 c4 (k:=k) (by lia) c5 c6 λh' tk hk=>W0 ?_);refine hR h' tk acc c (λb o hb e=>hk b o (λx=>hb (by simp[x])) (λx=>hb (by simp[x])) (λx=>hb (by simp[x])) (λx=>hb (by simp[x])) e) (hk _ _ xD.1 xD.2.2.1 PN PQ hS) ?_;rw[UA];exact eZ.frame λb o hb e=>hk b o (λx=>hb (by simp[x])) (λx=>hb (by simp[x])) (λx=>hb (by simp[x])) (λx=>hb (by simp[x])) e
 |succ m ih=>
  intro k s acc c hm uS uT hB Ky hS eZ hR;refine codeAny_builtin PySem.F.entry_extend_loop ?_;rw[Yc.under_plainId Y8 _];show wpAny _ A.in1 (aa8 (.ref z) >>=_) _ _ s;obtain⟨f0,f1,a,b,c1,c2,c3,c4,c5,c6⟩:=Ky;refine WD (qP D1 D2 ap c1 c2 c3 c4 (k:=k) (W7 (ZH hm) (aaN ..)) (W7 (ZH hm) (ZS ..)) c5 c6 λh' tk T x y g0 g1 a' b' d1 d2 d3 d4 d5 px py hT hp hk=>?_);have kk:∀b o,b∉[z,TO,i1,i2,S]->s.heap.get? b=Δ o->h'.get? b=Δ o:=λb o hb e=>hk b o (λx=>hb (by simp[x])) (λx=>hb (by simp[x])) (λx=>hb (by simp[x])) (λx=>hb (by simp[x])) e;have N7:=hk _ _ xD.1 xD.2.2.1 PN PQ hS;have UB:=hk _ _ ap.TIz ap.TITO ap.TIi1 ap.TIi2 c3;have lt:∀{b o},s.heap.get? b=Δ o->T≠b:=λe=>XI (W7 (WV e) hT);have PR:T∉[z,TO,i1,i2,S]:=by obtain⟨o1,e1⟩:=D1.live _ _ c5;obtain⟨o2,e2⟩:=D2.live _ _ c6;simp only[Z3,ZT,or_false,not_or];exact⟨lt c2,lt c4,lt e1,lt e2,lt hS⟩
  show wpAny _ A.in1 (ab9 S (·.push (.ref T)) >>=_) _ _ _;refine WD ?_;refine aaL N7 rfl (W0 ⟨plainId_quiet Y8 _,ih (k+1) _ (acc.push (.ref T)) _ (by rw[Nat.sub_succ,hm];rfl) (W7 (ZH hm) (aaN ..)) (W7 (ZH hm) (ZS ..)) ?_ ?_ (YC _ N7 rfl) ?_ λh'' tk' gP c' UC UD PU=>?_⟩)
   (by rw[eZ.1];lia) (by show(acc.push (Xg T)).size<=W8+1;rw[Array.size_push,eZ.1];lia)
  ·show B<=(h'.update S _).objs.size;rw[YI];exact Xo hB (Xo hT (aaq (WV hp)))
  ·refine ZI.frame ap D1 D2 ⟨g0,g1,a',b',d1,d2,UB,d3,d4,d5⟩ λb hb o e=>(XS _ _ (λh:S=b=>?_)).trans e;subst h;rcases hb with h|h|h|h|h;·exact xD.1 h
   ·exact xD.2.1 h
   ·exact xD.2.2.1 h
   ·exact xD.2.2.2.1 h
   ·exact xD.2.2.2.2 h
  ·refine ZP.frame ((eZ.frame kk).push (Xo hB hT) PR hp px py λj hj=>by obtain⟨T',_,_,e,_,_,c3',_⟩:=eZ.2.1 j _ hj;cases e;exact lt c3' rfl) λb o hb e=>(XS _ _ (λh:S=b=>hb (by simp[h]))).trans e
  ·refine hR h'' tk' gP c' (λb o hb e=>UC b o hb ((XS _ _ (λh:S=b=>hb (by simp[h]))).trans (kk b o hb e))) UD PU
theorem Bs:acj (.type "zip") "__len__"=pure Θ:=by rw[typeLookup_type,builtinLookup_eq_fast];kernel_rfl
theorem yW:acj (.type "zip") "__length_hint__"=pure Θ:=by rw[typeLookup_type,builtinLookup_eq_fast];kernel_rfl
theorem sJ(ap:ID z TI TO i1 i2 oZ o4)(D1:Draws prog w A.in1.in1 i1 oZ n1 P1 ve)(D2:Draws prog w A.in1.in1 i2 o4 n2 P2 vf)(hn:n1<=W8)(xD:S≠z/\S≠TI/\S≠TO/\S∉oZ/\S∉o4)(PM:i1∈oZ)(DH:i2∈o4)(hB:B<=s.heap.objs.size)(Ky:ZI z TI TO i1 i2 ve vf 0 s.heap)(hS:s.heap.get? S=Δ {cls:=.type "list",data:=.seq #[] c₀})(hR:∀h' tk gP c',(∀b o,b∉[z,TO,i1,i2,S]->s.heap.get? b=Δ o->h'.get? b=Δ o)->h'.get? S=Δ {cls:=.type "list",dict:=Θ,data:=.seq gP c',slots:=#[]}->ZP B [z,TO,i1,i2,S] P1 P2 gP (min n1 n2) h'->
   R (.ok (.ret res)) {s with heap:=h',toks:=tk}):
  wpAny (model prog w) A.in1 (YY (.ref S) (.ref z) res)
   (λfin s'=>match fin with|.done f=>R (.ok f) s'|.again c'=>c'.quiet=Λ/\aaF (model prog w) A c' R s') (λe s'=>R (.error e) s') s:=by
 obtain⟨f0,f1,a,b,c1,c2,c3,c4,c5,c6⟩:=id Ky;have hT:s.TypeIs (.ref z) "zip":=⟨_,c2,rfl⟩;unfold YY;refine WD (wpAny_typeOf hT ?_);have h1:Z6.List.listSameRef (.ref S) (.ref z)=Ξ:=by simp[Z6.List.listSameRef,xD.1]
 have h2:(Y5 "zip"==Y5 "list")=Ξ:=by decide
 have h3:(Y5 "zip"==Y5 "tuple")=Ξ:=by decide
 simp only[h1,h2,h3,Bool.or_false,Yb,if_false];refine WD (wpAny_pyIter_slot hT PySem.F.slot_zip_iter (Yp PySem.F.slot_zip_iter hT PySem.F.entry_zip_iter ?_ (PySem.F.args_zip_iter_1 _)));show wpAny _ _ (ret (.ref z)) _ _ s;refine W0 ⟨_,rfl,"zip",_,hT,ZG.lookup,?_⟩;refine WD (Zm ?_);unfold Z6.List.listLengthHint;refine WD (abt hT Bs ?_);show wpAny _ A.in1 (specialOf (Xg z) (XH "__length_hint__") >>=_) _ _ _;refine WD (abt hT yW ?_);refine W0 ?_;show wpAny _ A.in1 (rule "list.extend.makes-room" >>=λ_=>Z6.List.listTouch (.ref S) >>=λ_=>again (.builtin "list.extend.loop" ⟨[.ref S,.ref z,res],[]⟩)) _ _ _;refine WD (abV ?_);refine WD ?_;show wpAny _ A.in1 (ab9 S (·.push .none) >>=λ_=>ab9 S (·.pop)) _ _ _;refine WD (aaL hS rfl ?_);have Cr:=YC (XB (·.push YG)) hS rfl;refine aaL (hz:=by seq_fits) Cr rfl ?_;have PV:=YC (XB (·.pop)) Cr rfl;have IE:∀b o,b≠S->s.heap.get? b=Δ o->((s.heap.update S (XB (·.push YG))).update S (XB (·.pop))).get? b=Δ o:=
  λb o hb e=>(XS _ _ (XC hb)).trans ((XS _ _ (XC hb)).trans e)
 refine W0 ⟨plainId_quiet Y8 _,Br ap D1 D2 (B:=B) hn xD PM DH _ 0 _ _ _ rfl (XZ _) (XZ _) ?_ (ZI.frame ap D1 D2 Ky λb hb o e=>IE b o (λh=>?_) e) PV ⟨rfl,(λj v hj=>by simp at hj),(λi j v hi _=>by simp at hi)⟩ λh' tk gP c' hk N7 eZ=>?_⟩;·show B<=((s.heap.update S _).update S _).objs.size;rw[YI,YI];exact hB
 ·subst h;rcases hb with h|h|h|h|h;·exact xD.1 h
  ·exact xD.2.1 h
  ·exact xD.2.2.1 h
  ·exact xD.2.2.2.1 h
  ·exact xD.2.2.2.2 h
 ·exact hR h' tk gP c' (λb o hb e=>hk b o hb (IE b o (λh=>hb (by simp[h])) e)) N7 eZ
theorem vg(ap:ID z TI TO i1 i2 oZ o4)(D1:Draws prog w A.in1.in1.in1 i1 oZ n1 P1 ve)(D2:Draws prog w A.in1.in1.in1 i2 o4 n2 P2 vf)(hn:n1<=W8)(eB:z < s.heap.objs.size/\TI < s.heap.objs.size/\TO < s.heap.objs.size/\(∀b∈oZ,b < s.heap.objs.size)/\∀b∈o4,b < s.heap.objs.size)(PM:i1∈oZ)(DH:i2∈o4)(hB:B<=s.heap.objs.size)(Ky:ZI z TI TO i1 i2 ve vf 0 s.heap)(hQ:∀h' tk gP c',(∀b o,b∉[z,TO,i1,i2]->s.heap.get? b=Δ o->h'.get? b=Δ o)->h'.get? s.heap.objs.size=Δ {cls:=.type "list",dict:=Θ,data:=.seq gP c',slots:=#[]}->ZP B [z,TO,i1,i2,s.heap.objs.size] P1 P2 gP (min n1 n2) h'->
   Q (.ref s.heap.objs.size) {s with heap:=h',toks:=tk}):
  wpAny (model prog w) A (call (.type "list") [.ref z]) Q E s:=by
 refine callType_codes (Q₁:=λobj bB=>obj=.ref s.heap.objs.size/\bB={s with heap:=s.heap.push {cls:=.type "list",data:=.seq #[]}}) PySem.F.called_list (PySem.F.typeCall_list_1 _) PySem.F.entry_list_init
  (code_list_new _ ⟨rfl,rfl⟩) λobj bB du=>?_
 obtain⟨rfl,rfl⟩:=du;have hS:(s.heap.push {cls:=.type "list",data:=.seq #[]}).get? s.heap.objs.size=Δ {cls:=.type "list",data:=.seq #[]}:=WR _ rfl;refine⟨⟨_,hS,rfl⟩,PySem.F.args_list_init_2 _ _,?_⟩;show wpAny _ A.in1.in1 (do let old<-Z6.List.listItems (.ref s.heap.objs.size);Z6.List.listUpdate (.ref s.heap.objs.size) (λ_=>#[]);letGo old.toList.reverse;YY (.ref s.heap.objs.size) (.ref z) .none) _ _ _;refine WD ?_;unfold Z6.List.listItems;refine WD (YJ hS rfl (W0 ?_));show wpAny _ _ (ab9 s.heap.objs.size (λ_=>#[]) >>=λ_=>letGo (#[]:Array Value).toList.reverse >>=λ_=>YY (.ref s.heap.objs.size) (.ref z) .none) _ _ _;refine WD (aaL hS rfl ?_);have Cr:=YC (XB (λ_=>(#[]:Array Value))) hS rfl;have IE:∀b o,s.heap.get? b=Δ o->((s.heap.push {cls:=.type "list",data:=.seq #[]}).update s.heap.objs.size (XB (λ_=>(#[]:Array Value)))).get? b=Δ o:=
  λb o e=>(XS _ _ (XI (WV e))).trans (WA _ e)
 refine WD (aaX ?_);refine sJ ap D1 D2 (B:=B) hn ⟨XI eB.1,XI eB.2.1,XI eB.2.2.1,λh=>Yu _ (eB.2.2.2.1 _ h),λh=>Yu _ (eB.2.2.2.2 _ h)⟩ PM DH ?_ (ZI.frame ap D1 D2 Ky λb _ o e=>IE b o e) Cr λh' tk gP c' hk N7 eZ=>?_
 ·show B<=((s.heap.push _).update _ _).objs.size;rw[YI,X9]
  lia
 ·refine⟨rfl,hQ h' tk gP c' (λb o hb e=>hk b o ?_ (IE b o e)) N7 eZ⟩;intro hm;simp only[Z3,ZT,or_false] at hm hb;rcases hm with h|h|h|h|h;·exact hb (.inl h)
  ·exact hb (.inr (.inl h))
  ·exact hb (.inr (.inr (.inl h)))
  ·exact hb (.inr (.inr (.inr h)))
  ·exact absurd (WV e) (by rw[h];exact Yu _)
abbrev Sm(h:Heap)(l1:Addr):Heap:=h.push {cls:=.type "tuple_iterator",data:=.fields #[.ref l1,.int 0 0]}
abbrev Sn(h:Heap)(l1 l2:Addr):Heap:=(Sm h l1).push {cls:=.type "tuple_iterator",data:=.fields #[.ref l2,.int 0 0]}
abbrev So(h:Heap)(l1 l2:Addr):Heap:=(Sn h l1 l2).push {cls:=.type "tuple",data:=.seq #[.ref h.objs.size,.ref (Sm h l1).objs.size]}
abbrev Sq(h:Heap)(l1 l2:Addr):Heap:=(So h l1 l2).push {cls:=.type "tuple",data:=.seq #[.none,.none]}
abbrev LW(h:Heap)(l1 l2:Addr):Heap:=(Sq h l1 l2).push {cls:=.type "zip",data:=.fields #[.none,.bool Ξ,.bool Ξ,.ref (Sn h l1 l2).objs.size,.ref (So h l1 l2).objs.size]}
theorem sL l1 l2 xs ys:
  Meets (Z6.«zip.__new__» ⟨[.type "zip",.ref l1,.ref l2],[]⟩) (λ_ R s=>s.heap.IsTuple l1 xs/\s.heap.IsTuple l2 ys/\
   R (.ok (.ret (.ref (Sq s.heap l1 l2).objs.size))) {s with heap:=LW s.heap l1 l2}):=
 .of_wp λprog w A R s h=>by
  obtain⟨hp,g,d,tk,os⟩:=s;obtain⟨UE,vh,h⟩:=h;have LX:=sub_zip;have hL1:ab6 (acf ⟨hp,g,d,tk,os⟩) l1 xs:=UE;have hL2:ab6 (acf ⟨hp.push {cls:=.type "tuple_iterator",data:=.fields #[.ref l1,.int 0 0]},g,d,tk,os⟩) l2 ys:=ab6.push vh _
  wp_walk using Y3 hL1,Y3 hL2
  exact⟨_,rfl,h⟩
theorem Bt(UE:s.heap.IsTuple l1 xs)(vh:s.heap.IsTuple l2 ys)(h:∀h',yu h' (s.heap.objs.size+4) (s.heap.objs.size+2) (s.heap.objs.size+3) .none (.bool Ξ)->Y7 h' (s.heap.objs.size+2) (.ref s.heap.objs.size) (.ref (s.heap.objs.size+1))->
   Y7 h' (s.heap.objs.size+3) .none .none->h'.IsTupleIter s.heap.objs.size l1 0->h'.IsTupleIter (s.heap.objs.size+1) l2 0->h'.objs.size=s.heap.objs.size+5->
   (∀c o,s.heap.get? c=Δ o->h'.get? c=Δ o)->Q (.ref (s.heap.objs.size+4)) {s with heap:=h'}):
  wpAny (model prog w) A (call (.type "zip") [.ref l1,.ref l2]) Q E s:=by
 refine callType_new PySem.F.called_zip (by decide) (PySem.F.typeCall_zip_2 _ _) (PySem.F.newCall_zip_2 _ _) (λobj=>PySem.F.args_object_init_3 obj _ _) PySem.F.entry_zip_new
  (sL l1 l2 xs ys) ⟨UE,vh,?_⟩
 have z1:(Sm s.heap l1).objs.size=s.heap.objs.size+1:=X9 ..;have z2:(Sn s.heap l1 l2).objs.size=s.heap.objs.size+2:=by rw[X9,z1]
 have z3:(So s.heap l1 l2).objs.size=s.heap.objs.size+3:=by rw[X9,z2]
 have z4:(Sq s.heap l1 l2).objs.size=s.heap.objs.size+4:=by rw[X9,z3]
 have z5:(LW s.heap l1 l2).objs.size=s.heap.objs.size+5:=by rw[X9,z4]
 have g5:(LW s.heap l1 l2).get? (Sq s.heap l1 l2).objs.size=Δ _:=WR _ rfl;have g4:(LW s.heap l1 l2).get? (So s.heap l1 l2).objs.size=Δ _:=WA _ (WR _ rfl);have g3:(LW s.heap l1 l2).get? (Sn s.heap l1 l2).objs.size=Δ _:=WA _ (WA _ (WR _ rfl));have g2:(LW s.heap l1 l2).get? (Sm s.heap l1).objs.size=Δ _:=WA _ (WA _ (WA _ (WR _ rfl)));have g1:(LW s.heap l1 l2).get? s.heap.objs.size=Δ _:=WA _ (WA _ (WA _ (WA _ (WR _ rfl))));show _/\_;rw[z2,z3,z4] at g5;rw[z1,z2] at g3;rw[z3] at g4;rw[z1] at g2;rw[z4];exact⟨⟨_,g5,rfl⟩,h _ g5 g3 g4 ⟨_,g1,rfl,rfl⟩ ⟨_,g2,rfl,rfl⟩ z5 λc o x=>WA _ (WA _ (WA _ (WA _ (WA _ x))))⟩
theorem Inv.UG(I:Inv X η σ H s)(k:∀b u,s.heap.get? b=Δ u->h'.get? b=Δ u)(hs:kf H H')(DD:∀b o,H' b=Δ o->H b=Δ o\/(s.heap.objs.size<=b/\bG X.prog X.w H' h' b o)):Inv X η σ H' {s with heap:=h',toks:=t'}:=by
 refine I.un ⟨λb u q _ _ _=>k b u q,λb u q _ _ _=>⟨u.slots,k b u q⟩,λb u q n _=>?_,λb u q _=>⟨u,k b u q⟩,λb xs q=>hs _ _ q,λb u xs q=>hs _ _ q,λb ps q=>⟨#[],by rw[hs _ _ q];simp⟩⟩ λb o e=>?_
 ·cases e:H' b with
  |none=>rfl|some o=>
   rcases DD b o e with z|⟨z,_⟩;·rw[n] at z;cases z
   ·exact absurd (WV q) (Nat.not_lt.mpr z)
 ·rcases DD b o e with z|⟨_,z⟩;·exact(I.aK b o z).nu (λc v _ q=>k c v q) (λc q=>hs _ _ q) λc xs q=>hs _ _ q
  ·exact z
noncomputable def LY(H:Hp)(us ws ts:List V):Prop:=ts.length=min us.length ws.length/\∀(j:Nat) t,ts[j]?=Δ t->∃T u w,t=.ref T/\H T=Δ (.tup [u,w])/\us[j]?=Δ u/\ws[j]?=Δ w
def FD:Value->V
 |.ref a=>.ref a|_=>.bz
theorem v9:∀{l},(∀v∈l,∃T,v=Xg T)->aO (l.map FD) l
 |[],_=>.nil|v::l,h=>by obtain⟨T,rfl⟩:=h v WG;exact .cons rfl (v9 λv hv=>h v (WE _ hv))
theorem UH(h:a=c)(k:b=d):(Δ (HO.tup [a,b]):Option HO)=Δ (HO.tup [c,d]):=by rw[h,k]
theorem IF(N a b:Nat)(la:a < N)(lb:b < N):ID (N+4) (N+2) (N+3) N (N+1) [N,a] [N+1,b]:=by
 have e2:∀{x y z:Nat},x≠y->x≠z->x∉[y,z]:=λh1 h2 h=>by
  rcases Z3.mp h with h|h;·exact h1 h
  ·exact h2 (by simpa using h)
 have ne:∀{x y:Nat},x < y\/y < x->x≠y:=λh=>by lia
 exact⟨ne (by lia),ne (by lia),ne (by lia),ne (by lia),ne (by lia),ne (by lia),ne (by lia),ne (by lia),ne (by lia),ne (by lia),e2 (by lia) (by lia),e2 (by lia) (by lia),e2 (by lia) (by lia),e2 (by lia) (by lia),e2 (by lia) (by lia),e2 (by lia) (by lia)⟩
theorem FE(la:a < N)(hc:c∈[N+k,a])(hk:k < 5):c < N+5:=by simp at hc;rcases hc with rfl|rfl<;>lia
open Classical in
theorem yX(hc:X.calm=Λ)(hgL:Gl X "list")(hmL:X.mg "list"=Θ)(hgZ:Gl X "zip")(hmZ:X.mg "zip"=Θ)(ha:PA X [x1,x2] t)(he:Xf [x1,x2] X.env=(Ξ,eval x1 X.env)::Xf [x2] X.env)(yq:(YL pos (Xf [x2] X.env)).any (·.1)=Ξ):
  PE X (.Call (.Name "list" p2) [.Call (.Name "zip" p) [x1,x2] [] pos] [] IG) (λσ H Q=>t σ H λvs H1=>∃a b us ws,vs=[.ref a,.ref b]/\fK X.K H1 a us/\fK X.K H1 b ws/\
   ∀l H' ts,kf H1 H'->H1 l=Θ->H' l=Δ (.lst ts)->LY H' us ws ts->Q (.ref l) H'):=by
 intro η s σ H Q I h;refine X6 (ja I hgL hmL boot_list ?_ (by decide+kernel) (by decide+kernel));refine Xx ?_ rfl rfl;show wpAny _ _ (spliced [(Ξ,eval (.Call (.Name "zip" p) [x1,x2] [] pos) X.env)]) _ _ s;refine ZA ?_;refine X6 (ja I hgZ hmZ PyProof.Rows.boot_zip ?_ (by decide+kernel) (by decide+kernel));refine Xx (bQ (ha pos η s σ H _ I h) λus s1 ⟨vs,H1,I1,r1,q1⟩=>?_) he yq;obtain⟨a,b,ua,ub,rfl,ta,tb,q⟩:=q1;obtain⟨va,vb,rfl,ra,rb⟩:=vals2 r1;cases ra;cases rb;obtain⟨ia,UI,pa,za⟩:=I1.tuple ta;obtain⟨ib,rvb,pb,zb⟩:=I1.tuple tb;have UJ:s1.heap.IsTuple a ia.toArray:=pa;have UK:s1.heap.IsTuple b ib.toArray:=pb;obtain⟨N,hN⟩:∃N:Nat,N=s1.heap.objs.size:=⟨_,rfl⟩;have la:(a:Nat) < s1.heap.objs.size:=by obtain⟨o,e,_⟩:=UJ;exact WV e
 have lb:(b:Nat) < s1.heap.objs.size:=by obtain⟨o,e,_⟩:=UK;exact WV e
 refine Bt UJ UK λh2 g1 g2 g3 g4 g5 hsz hk=>?_;refine aau ?_;have hh:X.A.in1.in1.in1.handled=Θ:=I1.ok.hd hc;have IH:({s1 with heap:=h2}:WU).heap.objs.size=s1.heap.objs.size+5:=hsz;have up:∀{c:Addr} {items:Array Value},s1.heap.IsTuple c items->h2.IsTuple c items:=λ{c items} x=>let ⟨o,e,r⟩:=x;⟨o,hk _ _ e,r⟩
 have ap:=IF s1.heap.objs.size a b la lb;have Sr:∀k:Nat,k < 5->s1.heap.objs.size+k < ({s1 with heap:=h2}:WU).heap.objs.size:=λk hk=>by rw[IH];exact Nat.add_lt_add_left hk _
 refine vg (s:={s1 with heap:=h2}) ap (ky hh s1.heap.objs.size a (W9 la) ia.toArray) (ky hh (s1.heap.objs.size+1) b (W9 (Zh lb)) ib.toArray) (B:=s1.heap.objs.size) (by rw[WX,<-UI.length];exact za)
  ⟨Sr 4 (by decide),Sr 2 (by decide),Sr 3 (by decide),λc hc=>?_,λc hc=>?_⟩ (by simp) (by simp) (aaq (Sr 0 (by decide))) ⟨.none,.bool Ξ,.none,.none,⟨.inl rfl,Ξ,rfl⟩,g1,g2,g3,⟨g4,up UJ⟩,⟨g5,up UK⟩⟩ λh' tk acc c' Pn hS eZ=>?_
 ·rw[IH];exact FE (k:=0) la hc (by decide)
 ·rw[IH];exact FE (k:=1) lb hc (by decide)
 rw[IH] at hS eZ ⊢;obtain⟨a1,a2,a3⟩:=eZ;have n5:∀b o,s1.heap.get? b=Δ o->h'.get? b=Δ o:=λb o e=>by
  have hb:(b:Nat) < s1.heap.objs.size:=WV e;refine Pn b o (λhm=>?_) (hk b o e);simp only[Z3,ZT,or_false] at hm;have:(b:Nat)>=s1.heap.objs.size:=by
   rcases hm with h|h|h|h;·exact h▸Y1 _ _
   ·exact h▸Y1 _ _
   ·exact h▸WM _
   ·exact h▸Y1 _ _
  exact absurd hb (Nat.not_lt.mpr this)
 have hrefs:∀v∈acc.toList,∃T,v=Xg T:=λv hv=>by obtain⟨j,hj,e⟩:=List.mem_iff_getElem.mp hv;obtain⟨T,_,_,e',_⟩:=a2 j v (by rw[<-aaz,WI hj,e]);exact⟨T,e'⟩
 have hV:=v9 hrefs
 let H2:Hp:=λc=>if c=s1.heap.objs.size+5 then Δ (.lst (acc.toList.map FD)) else
  if hj:∃(j:Nat) (u w':V),acc[j]?=Δ (Xg c)/\ua[j]?=Δ u/\ub[j]?=Δ w' then Δ (.tup [hj.choose_spec.choose,hj.choose_spec.choose_spec.choose]) else H1 c
 have fr:∀c,s1.heap.objs.size<=c->H1 c=Θ:=λc hc=>I1.aK.fresh hc;have UL:∀(j:Nat) T,acc[j]?=Δ (Xg T)->T≠s1.heap.objs.size+5:=λj T e z=>by obtain⟨T',_,_,e',_,hb,_⟩:=a2 j _ e;cases e';exact hb (by rw[z];simp)
 have UM:∀(j:Nat) T,acc[j]?=Δ (Xg T)->s1.heap.objs.size<=T:=λj T e=>by obtain⟨T',_,_,e',h1,_⟩:=a2 j _ e;cases e';exact h1
 have atT:∀(j:Nat) T u w',acc[j]?=Δ (Xg T)->ua[j]?=Δ u->ub[j]?=Δ w'->H2 T=Δ (.tup [u,w']):=λj T u w' e1 e2 e3=>by have hj:∃(j:Nat) (u w':V),acc[j]?=Δ (Xg T)/\ua[j]?=Δ u/\ub[j]?=Δ w':=⟨j,u,w',e1,e2,e3⟩;show(if T=s1.heap.objs.size+5 then _ else if hj:_ then _ else _)=_;rw[if_neg (UL j T e1),dif_pos hj];obtain⟨c1,c2,c3⟩:=hj.choose_spec.choose_spec.choose_spec;have ej:=a3 _ _ _ c1 e1;have q1:=Xj (c2.symm.trans (show ua[hj.choose]?=Δ u by rw[ej];exact e2));have q2:=Xj (c3.symm.trans (show ub[hj.choose]?=Δ w' by rw[ej];exact e3));exact UH q1 q2
 have hS2:H2 (s1.heap.objs.size+5)=Δ (.lst (acc.toList.map FD)):=if_pos rfl;have sm:kf H1 H2:=λc o e=>by
  show(if c=s1.heap.objs.size+5 then _ else if hj:_ then _ else _)=_;rw[if_neg,dif_neg];·exact e
  ·rintro⟨j,u,w',e1,_⟩;rw[fr c (UM j c e1)] at e;cases e
  ·rintro rfl;rw[fr _ (Y1 _ _)] at e;cases e
 have hlen:acc.toList.length=min ua.length ub.length:=by rw[Zr,a1,WX,WX,<-UI.length,<-rvb.length]
 have I2:Inv X η σ H2 {s1 with heap:=h',toks:=tk}:=by
  refine I1.UG n5 sm λc o e=>?_;have e':(if c=s1.heap.objs.size+5 then Δ (HO.lst (acc.toList.map FD)) else
   if hj:∃(j:Nat) (u w':V),acc[j]?=Δ (Xg c)/\ua[j]?=Δ u/\ub[j]?=Δ w' then Δ (.tup [hj.choose_spec.choose,hj.choose_spec.choose_spec.choose]) else H1 c)=Δ o:=e
  split at e';·rename_i hc;cases e';refine .inr ⟨by rw[hc];exact Y1 _ _,?_⟩;rw[hc];refine⟨?_,acc.toList,c',hV,by simpa using hS⟩;rw[WJ,hlen];exact Xo (aaN _ _) za
  ·split at e'
   ·rename_i hj;cases e';obtain⟨c1,c2,c3⟩:=hj.choose_spec.choose_spec.choose_spec;obtain⟨T,x,y,eT,b1,b2,b3,b4,b5⟩:=a2 _ _ c1;cases eT;refine .inr ⟨b1,?_,[x,y],?_,⟨_,b3,rfl,_,rfl⟩⟩;·rw[XF];simp
    ·obtain⟨x',ex,rx⟩:=UI.get c2;obtain⟨y',ey,ry⟩:=rvb.get c3;have e1:ia[hj.choose]?=Δ x:=by simpa using b4
     have e2:ib[hj.choose]?=Δ y:=by simpa using b5
     rw[ex] at e1;rw[ey] at e2;cases e1;cases e2;exact .cons rx (.cons ry .nil)
   ·exact .inl e'
 refine⟨.ref (s1.heap.objs.size+5),H2,I2,rfl,q _ H2 _ sm (fr _ (Y1 _ _)) hS2 ⟨by rw[WJ,hlen],λj t ht=>?_⟩⟩;rw[WL] at ht;obtain⟨v,hv,rfl⟩:∃v,acc.toList[j]?=Δ v/\FD v=t:=by cases hq:acc.toList[j]? with|none=>rw[hq] at ht;cases ht|some v=>rw[hq] at ht;exact⟨v,rfl,by simpa using ht⟩
 have Ss:j < min ua.length ub.length:=by rw[<-hlen];exact(qqz hv).1
 have R9:acc[j]?=Δ v:=by rw[<-aaz];exact hv
 obtain⟨T,x,y,rfl,_⟩:=a2 j v R9;have l1:j < ua.length:=W7 Ss (aaN _ _);have l2:j < ub.length:=W7 Ss (ZS _ _);exact⟨T,ua[j],ub[j],rfl,atT j T _ _ R9 (WI l1) (WI l2),WI l1,WI l2⟩
end
theorem kz l items o(ht:o.cls=.type "tuple")n(hd:o.data=.seq items n):
  Meets (Z6.«enumerate.__new__» ⟨[.type "enumerate",.ref l],[]⟩) (λ_ R s=>s.heap.get? l=Δ o/\
   R (.ok (.ret (.ref (s.heap.push {cls:=.type "tuple_iterator",data:=.fields #[.ref l,.int 0 0]}).objs.size)))
    {s with heap:=(s.heap.push {cls:=.type "tuple_iterator",data:=.fields #[.ref l,.int 0 0]}).push {cls:=.type "enumerate",data:=.fields #[.none,.bool Ξ,.ref s.heap.objs.size,YK 0,.none,.none]}}):=
 .of_wp λprog w A R s h=>by
  obtain⟨hp,g,d,tk,os⟩:=s;obtain⟨hl,h⟩:=h;have LX:=sub_enumerate;have hL:ab6 (acf ⟨hp,g,d,tk,os⟩) l items:=⟨_,hl,ht,n,hd⟩
  wp_walk using Ym hl
  refine wpAny_stack_any λst=>W0 ?_;split
  ·rename_i c _ _ _ _ _;cases (c==Y5 "enumerate")
   ·wp_walk using Ym hl,Y3 hL
    exact⟨_,rfl,h⟩
   ·wp_walk using Ym hl,Y3 hL
    exact⟨_,rfl,h⟩
  ·wp_walk using Ym hl,Y3 hL
   exact⟨_,rfl,h⟩
section
variable{prog:Xy}{w:World}{A:Yc}{E:Value->WU->Prop}{s:WU}
theorem o5(hl:s.heap.IsTuple l items)(h:∀h',IsEnum h' (s.heap.objs.size+1) s.heap.objs.size 0 .none->h'.IsTupleIter s.heap.objs.size l 0->h'.objs.size=s.heap.objs.size+2->
   (∀b o,s.heap.get? b=Δ o->h'.get? b=Δ o)->Q (.ref (s.heap.objs.size+1)) {s with heap:=h'}):
  wpAny (model prog w) A (call (.type "enumerate") [.ref l]) Q E s:=by
 obtain⟨o,ho,hc,n,hd⟩:=hl;refine callType_new PySem.F.called_enumerate (by decide) (PySem.F.typeCall_enumerate_1 _) (PySem.F.newCall_enumerate_1 _) (λobj=>PySem.F.args_object_init_2 obj _) PySem.F.entry_enumerate_new
  (kz l items o hc n hd) ⟨ho,?_⟩
 have hz:(s.heap.push {cls:=.type "tuple_iterator",data:=.fields #[.ref l,.int 0 0]}).objs.size=s.heap.objs.size+1:=X9 ..;show _/\_;rw[hz];have he:IsEnum ((s.heap.push {cls:=.type "tuple_iterator",data:=.fields #[.ref l,.int 0 0]}).push
   {cls:=.type "enumerate",data:=.fields #[.none,.bool Ξ,.ref s.heap.objs.size,YK 0,.none,.none]}) (s.heap.objs.size+1) s.heap.objs.size 0 .none:=by
  have:=WR (s.heap.push {cls:=.type "tuple_iterator",data:=.fields #[.ref l,.int 0 0]})
   (o:={cls:=.type "enumerate",data:=.fields #[.none,.bool Ξ,.ref s.heap.objs.size,YK 0,.none,.none]}) rfl
  rw[hz] at this;exact this
 refine⟨⟨_,he,rfl⟩,h _ he ⟨_,WA _ (WR _ rfl),rfl,rfl⟩ (by rw[X9,hz]) λb o x=>WA _ (WA _ x)⟩
end
def UN(K:WO)(a:Addr):It:=
 ⟨λi H=>∃xs x,fK K H a xs/\xs[i]?=Δ x,λi H x H'=>∃T v,H T=Θ/\H'=upd H T (.tup [.int i,v])/\x=.ref T/\∀xs,fK K H a xs->xs[i]?=Δ v,λi H=>∃xs,fK K H a xs/\xs.length<=i⟩
theorem Bu{P:Xy}{w:World}{K:WO}{elts:List Expr}{kk:Nat}{pos:Pos}(a it e:Addr)(N8:e≠it):Turn P w K (.Tuple elts kk pos) (UN K a) [e,it] e (λi h=>(∃old,IsEnum h e it i old)/\h.IsTupleIter it a i) where
 mem:=by simp
 obj:=λi h st b hb=>by
  obtain⟨⟨old,he⟩,o,eo,c,d⟩:=st;have iD:b=e\/b=it:=by simpa using hb
  rcases iD with z|z;·rw[z];exact⟨_,he,λv z=>nomatch z⟩
  ·rw[z];exact⟨o,eo,λv z=>by rw[d] at z;cases z⟩
 keep:=λi h h' st k=>⟨let ⟨old,he⟩:=st.1;⟨old,k e (by simp) _ he⟩,st.2.at λo x=>k it (by simp) o x⟩
 item:=by
  intro X hP hw hK hc i η s σ H E I hf st hg;subst hP hw hK;obtain⟨xs,x,hq,hx⟩:=hg;obtain⟨its,rv,p,hz⟩:=I.tuple hq;have p':s.heap.IsTuple a its.toArray:=p;obtain⟨u,hu,ru⟩:=rv.get hx;obtain⟨f0,f1,f2,f3,f4,f5⟩:=hf it (by simp);obtain⟨g0,g1,g2,g3,g4,g5⟩:=hf e (by simp);obtain⟨⟨old,he⟩,hit⟩:=st;have hai:a≠it:=λz=>by obtain⟨o1,e1,c1,_⟩:=p';obtain⟨o2,e2,c2,_⟩:=id hit;rw[z,e2] at e1;cases e1;rw[c1] at c2;simp at c2
  have hae:a≠e:=λz=>by obtain⟨o1,e1,c1,_⟩:=p';rw[z,he] at e1;cases e1;simp at c1
  have eB:i < its.toArray.size:=by have:=(qqz hu).1;simpa using this
  refine wpAny_pyNext_enum_itemD (ky (A:=X.A.in1) (I.ok.hd hc) it a hai its.toArray) he ⟨hit,p'⟩ eB N8 (by simp[N8,XC hae]) λx1 h' tk px ho vc hT hsz hk=>?_;have ex1:x1=u:=by
   have:its[i]?=Δ x1:=by simpa using px
   rw[hu] at this;cases this;rfl
  subst ex1;refine⟨_,rfl,?_⟩;refine wpAny_letOwnedTupleGo_enum ho λh2 PX Hy=>?_;have PY:s.heap.objs.size≠e:=XI (WV he);have N9:s.heap.objs.size≠it:=by obtain⟨o,eo,_⟩:=hit;exact XI (WV eo)
  have yY:∀b o,b≠e->b≠it->s.heap.get? b=Δ o->h2.get? b=Δ o:=λb o h1 h3 q=>Hy.extBut b o h1 (hk b o h1 h3 q);have hn:H s.heap.objs.size=Θ:=I.aK.fresh (WM _);have EM:∀b v,H b=Δ v->b≠e/\b≠it:=λb v q=>⟨(λz=>by rw[z,g0] at q;cases q),(λz=>by rw[z,f0] at q;cases q)⟩;have PZ:h2.get? s.heap.objs.size=Δ {cls:=.type "tuple",data:=.seq #[.int i tk,x1]}:=Hy.extBut _ _ PY hT;have I1:Inv X η σ (upd H s.heap.objs.size (.tup [.int i,x])) {s with heap:=h2,toks:=tk+1}:=by
   refine I.step (g':=s.gens) (d':=s.drawn) (ch:=[e,it]) (λb hb=>?_) (λb o _ _ hc q _=>yY b o (λz=>hc (by simp[z])) (λz=>hc (by simp[z])) q) (λb o _ _ hc q _=>⟨o.slots,yY b o (λz=>hc (by simp[z])) (λz=>hc (by simp[z])) q⟩)
    (λb o _ q n=>by rw[au (W9 (WV q))];exact n) (λb o hc q=>⟨o,yY b o (λz=>hc (by simp[z])) (λz=>hc (by simp[z])) q⟩) (λb xs q=>by rw[au (aM q hn)];exact q) (λb o v q=>by rw[au (aM q hn)];exact q)
    (λb ps q=>⟨#[],by rw[au (aM q hn),q];simp⟩) (λm hm=>?_) (λb v q=>?_) I.bare
   ·have iD:b=e\/b=it:=by simpa using hb
    rcases iD with z|z;·rw[z];exact⟨g3,g1,g4,g5⟩
    ·rw[z];exact⟨f3,f1,f4,f5⟩
   ·obtain⟨o,es,ep,oP,r⟩:=hm;exact⟨o,es,ep,yY _ o (XC g1) (XC f1) oP,r⟩
   ·by_cases hb:b=s.heap.objs.size;·rw[hb,aD] at q;cases q;rw[hb];exact⟨by rw[XF];simp,[.int i tk,x1],.cons ⟨tk,rfl⟩ (.cons ru .nil),⟨_,PZ,rfl,_,rfl⟩⟩
    ·rw[au hb] at q;refine(I.aK b v q).nu (λc y hc qq=>?_) (λc qq=>by rw[au (aM qq hn)];exact qq) λc xs qq=>by rw[au (aM qq hn)];exact qq
     have:c≠e/\c≠it:=by
      rcases hc with z|z;·rw[z];exact EM b v q
      ·exact EM c _ z
     exact yY c y this.1 this.2 qq
  refine⟨.ref s.heap.objs.size,_,I1,rfl,⟨s.heap.objs.size,x,hn,rfl,rfl,λys hy=>by rw[I.vT hy hq];exact hx⟩,⟨⟨x1,by simpa using PX⟩,vc.1.at λo q=>Hy.extBut _ _ (XC N8) q⟩,λb hb=>?_⟩;have iD:b=e\/b=it:=by simpa using hb
  rcases iD with z|z;·rw[z,au (XC PY)];exact g0
  ·rw[z,au (XC N9)];exact f0
 done:=by
  intro X hP hw hK hc i η s σ H E I hf st hg;subst hP hw hK;obtain⟨xs,hq,hx⟩:=hg;obtain⟨its,rv,p,hz⟩:=I.tuple hq;obtain⟨f0,f1,f2,f3,f4,f5⟩:=hf it (by simp);obtain⟨⟨old,he⟩,hit⟩:=st;have hl:=rv.length;have hT:s.TypeIs (.ref e) "enumerate":=⟨_,he,rfl⟩;unfold aa8;refine WD (aa7 (X3 (name:=XH "__next__") hT YT
   (Yp YT hT PySem.F.entry_enumerate_next ?_ (PySem.F.args_enumerate_next_1 _))))
  show wpAny _ _ (field (.ref e) 2 >>=_) _ _ _;refine WD (Yo he rfl (x:=.ref it) rfl ?_);refine WD (jj (I.ok.hd hc) hit (show s.heap.IsTuple a its.toArray from p) (by simp;lia) λh' y UO yt=>?_);obtain⟨o,ho,xE⟩:=yt;refine WD (abc (T:="StopIteration") (b:=Λ) ⟨o,ho,xE⟩ abD ?_);exact W0 ⟨rfl,I.turned (t':=s.toks) (λb o hb q=>UO b o hb q) f0 f1 f3 f4 f5⟩
 self:=λ_ _ _ _ _ st h=>let ⟨old,he⟩:=st.1;aah he h
section
variable{X:Cx}
def P0(K:WO)(ta:TA):TI:=λσ H R=>ta σ H λvs H1=>∃a,vs=[.ref a]/\(∃xs,fK K H1 a xs)/\R (UN K a) H1
theorem FF(hg:Gl X "enumerate")(hm:X.mg "enumerate"=Θ)(ha:PA X [x] ta)(hs:Xf [x] X.env=[(Ξ,eval x X.env)]):
  PI X (.Tuple elts kk p3) (.Call (.Name "enumerate" p) [x] [] pos) (P0 X.K ta):=by
 intro η s σ H R I h;refine Call_ (ja I hg hm boot_enumerate (Xx (bQ (ha pos η s σ H _ I h) λus s1 ⟨vs,H1,I1,r1,q1⟩=>?_) hs rfl) (by decide+kernel) (by decide+kernel));obtain⟨a,rfl,⟨xs,hq⟩,q⟩:=q1;obtain⟨u,rfl,ru⟩:=vals1 r1;cases ru;obtain⟨its,rv,pl,hz⟩:=I1.tuple hq;refine o5 (show s1.heap.IsTuple a its.toArray from pl) λh' he hit hsz hk=>?_;refine aah he ?_;have I2:Inv X η σ H1 {s1 with heap:=h'}:=I1.kept (t':=s1.toks) hk;refine⟨s1.heap.objs.size+1,[s1.heap.objs.size+1,s1.heap.objs.size],_,_,H1,rfl,I2,Bu a _ _ (Nat.succ_ne_self _),⟨⟨_,he⟩,hit⟩,λb hb=>?_,q⟩;have iD:b=s1.heap.objs.size+1\/b=s1.heap.objs.size:=by simpa using hb
 rcases iD with z|z;·rw[z];exact I1.u6 (YN _) (I1.aK.fresh (YN _))
 ·rw[z];exact I1.u6 (WM _) (I1.aK.fresh (WM _))
end
section
variable{prog:Xy}{w:World}{A:Yc}{E:Value->WU->Prop}{s:WU}
end
section
variable{X:Cx}
end
def dv(c:Addr)(q:Str):Heap->Prop:=λh=>h.CodeRec (.ref c) q
structure kA(N P F:List Str)(sc:Scope):Prop where
 kind:sc.kind=.function
 co:sc.isCoroutine=Ξ
 gen:sc.isGenerator=Ξ
 nd:N.Nodup
 pre:N.take (P.length+F.length)=P++F
 par:∀x∈P,sc.names.lookup x=Δ .local
 fre:∀x∈F,sc.names.lookup x=Δ .free
 eA:∀y∈sc.names,y.2≠.cell
 P4:∀y∈sc.names,y.2=.free->y.1∈F
structure Hz(B:Heap)(cl:List (Str×Addr))(F:List Str)(bT:List V):Prop where
 inj:∀x y c,cl.lookup x=Δ c->cl.lookup y=Δ c->x=y
 only:∀x c,cl.lookup x=Δ c->x∈F
 at_:∀(i:Nat) (x:Str) (v:V),F[i]?=Δ x->bT[i]?=Δ v->∃c u,cl.lookup x=Δ c/\B.IsCell c (Δ u)/\RelV v u
 len:bT.length=F.length
theorem Hz.get(C:Hz B cl F bT)(h:x∈F):∃(i:Nat) (v:V) (c:Addr) (u:Value),F[i]?=Δ x/\bT[i]?=Δ v/\cl.lookup x=Δ c/\B.IsCell c (Δ u)/\RelV v u:=by
 obtain⟨i,hi,e⟩:=List.mem_iff_getElem.mp h;have h1:F[i]?=Δ x:=by rw[WI hi,e]
 have h2:bT[i]?=Δ (bT[i]'(by rw[C.len];exact hi)):=WI _;obtain⟨c,u,a,b,d⟩:=C.at_ i x _ h1 h2;exact⟨i,_,c,u,h1,h2,a,b,d⟩
abbrev yZ(qual:Str)(scope:Scope)(L f:Addr)(cd:Value)(cl:List (Str×Addr)):Env:=PySem.W.envX qual scope L f cd cl
noncomputable def Kz(CX:Hv)(P:Xy)(w:World)(K:WO)(mg:Str->Option Value)(base:Heap)(N:List Str)(qual:Str)(scope:Scope)(f:Addr)(cd:Value)(cl:List (Str×Addr))(A:Yc)(outer:List Env)(s:WU)(H:Hp)(E:XK):Cx where
 prog:=P
 w:=w
 K:=K
 mg:=mg
 base:=base
 A:=A.deeper (yZ qual scope s.heap.objs.size f cd cl)
 N:=N
 gO:=s
 yB:=H
 env:=yZ qual scope s.heap.objs.size f cd cl
 outer:=outer
 stack:=yZ qual scope s.heap.objs.size f cd cl::outer
 ex:=[]
 calm:=Λ
 fn:=λ_=>Ξ
 pn:=[]
 xe:=λe s'=>wpAny (model P w) (A.deeper (yZ qual scope s.heap.objs.size f cd cl)) (leaving (yZ qual scope s.heap.objs.size f cd cl) e) (λ_ LC=>CX outer H s E e LC) (λe' LC=>CX outer H s E e' LC) s'
theorem FG:∀{ps:List Str} {us} {i:Nat} {y:Str} {u:Value},ps.Nodup->ps[i]?=Δ y->us[i]?=Δ u->(ps.zip us).reverse.lookup y=Δ u:=by
 intro ps us i y u nd h1 h2;have hm:(y,u)∈(ps.zip us).reverse:=by rw[List.mem_reverse];refine List.mem_iff_getElem?.mpr ⟨i,?_⟩;rw[List.getElem?_zip_eq_some];exact⟨h1,h2⟩
 have un:∀u',(y,u')∈(ps.zip us).reverse->u'=u:=λu' h'=>by
  rw[List.mem_reverse] at h';obtain⟨j,hj⟩:=List.mem_iff_getElem?.mp h';rw[List.getElem?_zip_eq_some] at hj;obtain⟨a,b⟩:=hj;have hi:i < ps.length:=(qqz h1).1;have Su:j < ps.length:=(qqz a).1;have e:i=j:=by
   have e1:ps[i]'hi=y:=(qqz h1).2;have e2:ps[j]'Su=y:=(qqz a).2;rcases Nat.lt_trichotomy i j with z|z|z;·exact absurd (e1.trans e2.symm) (List.pairwise_iff_getElem.mp (List.nodup_iff_pairwise_ne.mp nd) i j hi Su z)
   ·exact z
   ·exact absurd (e2.trans e1.symm) (List.pairwise_iff_getElem.mp (List.nodup_iff_pairwise_ne.mp nd) j i Su hi z)
  subst e;rw[h2] at b;exact(Xj b).symm
 cases q:(ps.zip us).reverse.lookup y with
 |none=>
  exfalso;have key:∀(l:List (Str×Value)),(y,u)∈l->l.lookup y≠Θ:=λl=>by
   induction l with
   |nil=>intro h;cases h|cons p l ih=>
    intro h;obtain⟨p1,p2⟩:=p;rw[Xd];rcases Z3.mp h with e|e;·injection e with e1 _;rw[<-e1];simp
    ·cases hb:y==p1 with|true=>exact λz=>nomatch z|false=>exact ih e
  exact key _ hm q
 |some u'=>rw[un u' (Xq q)]
theorem Cs{K:WO}(S:kA N ps F scope)(C:Hz base cl F bT)(hd:A.handled=Θ)(e0:xm P w K mg base A outer s H)(hl:vs.length=ps.length)(r:aO vs us)(KA:du.Ns s.heap.objs.size (λx=>(ps.zip us).reverse.lookup x))(hk:∀b o,s.heap.get? b=Δ o->du.get? b=Δ o):
  Inv (Kz CX P w K mg base N qual scope f cd cl A outer s H E) [] (start N (vs++bT)) H {s with heap:=du,toks:=tk}:=by
 have yq:ps.length+F.length<=N.length:=by have:=congrArg abJ S.pre;rw[YH,W1] at this;lia
 have Hw:∀b:Addr,b∉(Kz CX P w K mg base N qual scope f cd cl A outer s H E).ex:=λb z=>absurd (show b∈([]:List Addr) from z) (by simp);have old:∀b o,base.get? b=Δ o->du.get? b=Δ o:=λb o e=>hk b o (e0.bs b o e).1;have HA:∀x c,cl.lookup x=Δ c->∃u,base.IsCell c (Δ u):=λx c h=>by obtain⟨i,v,c',u,_,_,h3,h4,_⟩:=C.get (C.only x c h);rw[h] at h3;cases h3;exact⟨u,h4⟩
 refine⟨⟨e0.mod,S.kind,rfl,rfl,WM _,λy z c h1 h2=>C.inj y z c h1 h2,λy hy=>?_,(λy c h _=>absurd (show Ξ=Λ from h) (by decide)),λ_=>hd,Yc.frames_deeper e0.frames,.inr ⟨rfl,rfl⟩,λb z=>absurd z (Hw b),e0.bs,e0.EE,λb _ _=>Hw b,λb z=>absurd z (Hw b),e0.mB,e0.HJ⟩,
  rfl,e0.bare,Un.kept hk,⟨_,KA,λi y v h1 h2 h3=>?_⟩,λy c h=>?_,e0.aK.fresh (WM _),λy c h=>?_,λp hp=>absurd (show p∈([]:List (Addr×Obj)) from hp) (by simp),e0.aK.kept hk,?_⟩
 ·have hy:scope.names.lookup y=Δ .cell\/scope.names.lookup y=Δ .free:=hy;rcases hy with hy|hy;·exact absurd rfl (S.eA _ (Xq hy))
  ·obtain⟨_,_,c,_,_,_,h,_⟩:=C.get (S.P4 _ (Xq hy) rfl);exact⟨c,h⟩
 ·have hlen:(vs++bT).length=ps.length+F.length:=by rw[W1,hl,C.len]
  have hi:i < (vs++bT).length:=by
   unfold start at h2;by_cases hi:i < (vs++bT).length;·exact hi
   ·rw[W5 (by simpa using hi)] at h2;rw[Zu] at h2;split at h2<;>cases h2
  have ha:(vs++bT)[i]?=Δ v:=by unfold start at h2;rw[WK (by simpa using hi),WL] at h2;cases e:(vs++bT)[i]? with|none=>rw[e] at h2;cases h2|some a=>rw[e] at h2;cases h2;rfl
  have hp:(ps++F)[i]?=Δ y:=by rw[<-S.pre,List.getElem?_take_of_lt (by lia)];exact h1
  have Sb:ps.Nodup:=by
   have:(ps++F).Nodup:=by rw[<-S.pre];exact S.nd.sublist (List.take_sublist _ _)
   exact(XN.mp this).1
  by_cases DH:i < vs.length;·rw[WK DH] at ha;rw[WK (by lia)] at hp;obtain⟨u,hu,rv⟩:=r.get ha;exact⟨u,rv,.inl ⟨S.par y (W6 hp),FG Sb hp hu⟩⟩
  ·rw[W5 (by lia)] at ha;rw[W5 (by lia),<-hl] at hp;obtain⟨c,u,hc,nA,rv⟩:=C.at_ _ y v hp ha;exact⟨u,rv,.inr ⟨.inr (S.fre y (W6 hp)),c,hc,nA.keeps old⟩⟩
 ·obtain⟨u,hc⟩:=HA y c h;exact⟨_,hc.keeps old⟩
 ·obtain⟨u,o,ho,_⟩:=HA y c h;exact(e0.bs c o ho).2
 ·unfold start;show _=N.length;rw[W1,WJ,ZJ,W1,hl,C.len]
  lia
section
variable{CX:Hv}{P:Xy}{w:World}{K:WO}{mg:Str->Option Value}{base:Heap}{k:Nat}{f:Addr}{name qual:Str}{params:Zd}{scope:Scope}{cl:List (Str×Addr)}{dV kV doc pm kh ct oc:Value}{an od:Option Addr}
  {Ic:Array (Option Value)} {N ps F:List Str} {bT:List V} {sp:Sp}
theorem LZ(lk:base.get? f=Δ ⟨oc,od,.func (acg name qual params body scope cl dV kV doc pm an kh ct),Ic⟩)(qf:∀vs H Q E,sp vs H Q E->∃c,kh=.ref c/\H c=Δ (.ext (dv c qual)))(S:kA N ps F scope)(C:Hz base cl F bT)(len:∀vs H Q E,sp vs H Q E->vs.length=ps.length)(sC:∀(A:Yc) (outer:List Env) (s:WU) (H:Hp) (vs:List V) (Q:VK) (E:XK),cY k (A.deeper (yZ qual scope s.heap.objs.size f kh cl))->sp vs H Q E->
   ∃t,mC (Kz CX P w K mg base N qual scope f kh cl A outer s H E) body t/\t {nx:=λ_ H'=>Q .bz H',rt:=Q} (start N (vs++bT)) H):
  gz P w K mg base CX (k+1) f (acg name qual params body scope cl dV kV doc pm an kh ct) ps sp:=by
 refine⟨len,λA outer s H args us vs Q E hr e0 hb r xo=>?_⟩;have hl:=len _ _ _ _ xo;have old:∀b o,base.get? b=Δ o->s.heap.get? b=Δ o:=λb o e=>(e0.bs b o e).1;have lim:s.heap.NoLimit:=e0.mod.nolimit.keeps old;have L0:s.heap.CodeRec kh qual:=by obtain⟨c,rfl,hc⟩:=qf _ _ _ _ xo;exact(e0.aK c _ hc).1
 have FH:∀y∈ps.zip us,scope.names.lookup y.1=Δ .local:=λ⟨n,v⟩ hy=>S.par n (ZC hy).1;refine codeAny_call_function hr.depth (old _ _ lk) rfl S.co S.gen rfl L0 (hb _ _ _ _ ?_);refine ZK S.eA FH (λdu KA P5=>⟨lim.fresh _ P5,codeAny_func ?_⟩) S.kind;have hk:∀b o,s.heap.get? b=Δ o->du.get? b=Δ o:=λb o e=>P5.extBut b o (W9 (WV e)) (WA _ e);obtain⟨t,ht,hq⟩:=sC A outer s H vs Q E (hr.deeper _) xo;have I:=Cs (CX:=CX) (qual:=qual) (f:=f) (cd:=kh) (tk:=s.toks+(ps.zip us).length) (E:=E) S C hr.hd e0 hl r KA hk;refine Yh (ht [] _ (start N (vs++bT)) H _ I hq) (λfl s' hs=>?_) λe s' hs=>hs;have fin:∀{cT:St} {H':Hp} {v:V} {u:Value},Inv (Kz CX P w K mg base N qual scope f kh cl A outer s H E) [] cT H' s'->RelV v u->Q v H'->CE outer P w H s Q u s':=
  λ{cT H' v u} J rv q=>⟨v,H',J.os,J.bare,J.base,J.aK,rv,q⟩
 cases fl with|ret u=>obtain⟨v,cT,H',J,rv,q⟩:=hs;exact fin J rv q|next=>obtain⟨cT,H',J,q⟩:=hs;exact fin (v:=V.bz) (u:=YG) J rfl q|brk=>obtain⟨_,_,_,q⟩:=hs;exact XT q|cont=>obtain⟨_,_,_,q⟩:=hs;exact XT q
theorem L6(lk:base.get? f=Δ ⟨oc,od,.func (abE name qual params body scope cl pm kh ct),Ic⟩)(qf:∀vs H Q E,sp vs H Q E->∃c,kh=.ref c/\H c=Δ (.ext (dv c qual)))(S:kA N ps F scope)(C:Hz base cl F bT)(len:∀vs H Q E,sp vs H Q E->vs.length=ps.length)(sC:∀(A:Yc) (outer:List Env) (s:WU) (H:Hp) (vs:List V) (Q:VK) (E:XK),cY k (A.deeper (yZ qual scope s.heap.objs.size f kh cl))->sp vs H Q E->
   ∃t,PE (Kz CX P w K mg base N qual scope f kh cl A outer s H E) body t/\t (start N (vs++bT)) H Q):
  gz P w K mg base CX (k+1) f (abE name qual params body scope cl pm kh ct) ps sp:=by
 refine⟨len,λA outer s H args us vs Q E hr e0 hb r xo=>?_⟩;have hl:=len _ _ _ _ xo;have old:∀b o,base.get? b=Δ o->s.heap.get? b=Δ o:=λb o e=>(e0.bs b o e).1;have lim:s.heap.NoLimit:=e0.mod.nolimit.keeps old;have L0:s.heap.CodeRec kh qual:=by obtain⟨c,rfl,hc⟩:=qf _ _ _ _ xo;exact(e0.aK c _ hc).1
 have FH:∀y∈ps.zip us,scope.names.lookup y.1=Δ .local:=λ⟨n,v⟩ hy=>S.par n (ZC hy).1;refine PySem.W.kla_callFunE hr.depth (old _ _ lk) rfl S.co S.gen rfl L0 (hb _ _ _ _ ?_);refine ZK S.eA FH (λdu KA P5=>⟨lim.fresh _ P5,PySem.W.kla_codeExpr ?_⟩) S.kind;have hk:∀b o,s.heap.get? b=Δ o->du.get? b=Δ o:=λb o e=>P5.extBut b o (W9 (WV e)) (WA _ e);obtain⟨t,ht,hq⟩:=sC A outer s H vs Q E (hr.deeper _) xo;have I:=Cs (CX:=CX) (qual:=qual) (f:=f) (cd:=kh) (tk:=s.toks+(ps.zip us).length) (E:=E) S C hr.hd e0 hl r KA hk;refine Yh (ht [] _ (start N (vs++bT)) H _ I hq) (λu s' hs=>?_) λe s' hs=>hs;obtain⟨v,H',J,rv,q⟩:=hs;exact⟨v,H',J.os,J.bare,J.base,J.aK,rv,q⟩
end
open Classical in
noncomputable def gy(H:Hp):Hp:=λb=>match H b with|some (.ext φ)=>if ∃q,φ=dv b q then Δ (.ext φ) else Θ|o=>o
open Classical in
noncomputable def zc(H H2:Hp):Hp:=λb=>match H b with|some (.ext φ)=>if ∃q,φ=dv b q then H2 b else Δ (.ext φ)|_=>H2 b
def Bv(b:Addr)(φ:Heap->Prop):Prop:=∀q,φ≠dv b q
theorem jI(h:H b=Θ):gy H b=Θ:=by unfold gy;rw[h]
theorem xF(h:H b=Δ (.ext φ))(hf:Bv b φ):gy H b=Θ:=by unfold gy;rw[h];exact if_neg λ⟨q,e⟩=>hf q e
theorem gg(h:H b=Δ (.ext (dv b q))):gy H b=Δ (.ext (dv b q)):=by unfold gy;rw[h];exact if_pos ⟨q,rfl⟩
theorem kB(h:gy H b=Δ o):H b=Δ o/\∀φ,o=.ext φ->¬Bv b φ:=by
 unfold gy at h;split at h
 ·rename_i φ e;split at h;·rename_i hq;cases h;obtain⟨q,hq⟩:=hq;exact⟨e,λψ z hf=>by cases z;exact hf q hq⟩
  ·cases h
 ·rename_i fc;exact⟨h,λφ z=>absurd (h.trans (by rw[z])) (fc φ)⟩
theorem bq(h:H b=Δ o)(fc:∀φ,o≠.ext φ):gy H b=Δ o:=by unfold gy;rw[h];cases o with|ext φ=>exact absurd rfl (fc φ)|_=>rfl
theorem Ct(h:H b=Δ (.ext φ))(hf:Bv b φ):zc H H2 b=Δ (.ext φ):=by unfold zc;rw[h];exact if_neg λ⟨q,e⟩=>hf q e
theorem sM(h:∀φ,H b=Δ (.ext φ)->¬Bv b φ):zc H H2 b=H2 b:=by
 unfold zc;split;·rename_i φ q;have:∃q,φ=dv b q:=Xp λz=>h φ q λq' e=>z ⟨q',e⟩;exact if_pos this
 ·rfl
noncomputable def qR(h:Heap)(H:Hp)(fs:List Addr):Heap:=PySem.W.hideAll (qM h (gy H)) fs
theorem FI h H fs:(qR h H fs).objs.size=h.objs.size:=(PySem.W.hideAll_size _ _).trans (vS _ _)
theorem xG(e:h.get? b=Δ o)(n:gy H b=Θ)(hb:b∉fs):(qR h H fs).get? b=Δ o:=PySem.W.hideAll_get _ (yA e n) hb
theorem L7(e:(qR h H fs).get? b=Δ o):h.get? b=Δ o/\gy H b=Θ:=Cd (PySem.W.of_hideAll _ e)
theorem FJ(hb:b∈fs):(qR h H fs).get? b=Θ:=PySem.W.hideAll_none _ hb
theorem kj.gy{P:Xy}{w:World}{H:Hp}{h:Heap}(x:kj P w H h):kj P w (gy H) h:=λa o e=>by obtain⟨e1,_⟩:=kB e;exact(x a o e1).nu (λ_ _ _ z=>z) (λb z=>bq z (λ_ q=>nomatch q)) λb xs z=>bq z (λ_ q=>nomatch q)
theorem funFrames_base{h base zd:Heap}:∀{l},(∀b∈jA l,zd.get? b=Θ)->h.FunFrames base l->h.FunFrames zd l
 |[],_,_=>trivial|env::r,hb,⟨hk,⟨L,o,hf,hn,ho,hd⟩,hr⟩=>by
  have e:jA (env::r)=L::jA r:=by unfold jA;rw[Zp,hf]
  rw[e] at hb;exact⟨hk,⟨L,o,hf,hb L WG,ho,hd⟩,funFrames_base (λb z=>hb b (WE _ z)) hr⟩
section
variable{X:Cx}{η:List (Addr×Obj)}{σ:St}{H:Hp}{s s':WU}
theorem Inv.FK(I:Inv X η σ H s)(e:X.base.get? b=Δ o):(qR s.heap H (jA X.stack)).get? b=Δ o:=by
 obtain⟨h1,h2⟩:=I.bs b o e;refine xG h1 (jI h2) λz=>?_;rcases Z3.mp (I.oQ b z) with q|q;·have l1:=WV e;have l2:=I.ok.EE;have l3:=I.ok.above;exact Yu _ (W7 l1 (Xo l2 (by rw[q];exact l3)))
 ·exact I.ok.HK e q
theorem Inv.UP(I:Inv X η σ H s):Mod X.K X.mg (qR s.heap H (jA X.stack)):=by have k:∀b o,X.base.get? b=Δ o->(qR s.heap H (jA X.stack)).get? b=Δ o:=λb o e=>I.FK e;obtain⟨mb,h1,h2⟩:=I.mod.blt;exact⟨I.mod.Ld.keeps k,I.mod.glob.keeps k,⟨mb,h1.keeps k,h2⟩,I.mod.nolimit.keeps k⟩
theorem Inv.P6(I:Inv X η σ H s):xm X.prog X.w X.K X.mg (qR s.heap H (jA X.stack)) X.A X.stack s (gy H):=
 ⟨I.ok.frames,I.UP,λb o e=>L7 e,aaS (FI _ _ _),funFrames_base (λb hb=>FJ hb) I.stack,λb hb=>jI (I.ny b hb),I.aK.gy,I.bare⟩
theorem Inv.L8(I:Inv X η σ H s)(h:CE X.stack X.prog X.w (gy H) s Q u s'):EP X η σ (λv H3=>∃H2,H3=zc H H2/\(∀b φ,H b=Δ (.ext φ)->Bv b φ->H2 b=Θ)/\Q v H2) u s':=by
 obtain⟨v,H2,os,bare,un,aK,r,q⟩:=h;have HK:∀b φ,H b=Δ (.ext φ)->b∉jA X.stack:=λb φ e z=>by rw[I.ny b z] at e;cases e
 have kept:∀b φ,H b=Δ (.ext φ)->Bv b φ->H2 b=Θ/\φ s'.heap/\∃o,s'.heap.get? b=Δ o:=λb φ e hf=>by obtain⟨p1,⟨o,p2⟩,p3⟩:=I.aK b _ e;have k1:=un.keep b o p2 (xF e hf) (HK b φ e) (by simp);exact⟨un.free b o p2 (xF e hf) (by simp),p3 _ _ p1 (λo' oP=>by rw[p2] at oP;cases oP;exact k1),o,k1⟩
 have mono:∀b o,H2 b=Δ o->zc H H2 b=Δ o:=λb o e=>by rw[sM λφ z hf=>by rw[(kept b φ z hf).1] at e;cases e];exact e
 refine I.after ⟨v,zc H H2,os,bare,⟨λb o e n hb hx=>un.keep b o e (jI n) hb hx,λb o e n hb hx=>un.slot b o e (jI n) hb hx,λb o e n hx=>?_,λb o e hx=>un.there b o e hx,λb xs e=>?_,λb o x e=>?_,λb ps e=>?_⟩,λb o e=>?_,r,H2,rfl,λb φ e hf=>(kept b φ e hf).1,q⟩;·rw[sM λφ z _=>by rw[n] at z;cases z];exact un.free b o e (jI n) hx
 ·exact mono _ _ (un.sj b xs (bq e (λ_ z=>nomatch z)))
 ·exact mono _ _ (un.oO b o x (bq e (λ_ z=>nomatch z)))
 ·obtain⟨more,e2⟩:=un.qK b ps (bq e (λ_ z=>nomatch z));exact⟨more,mono _ _ e2⟩
 ·by_cases c:∃φ,H b=Δ (.ext φ)/\Bv b φ;·obtain⟨φ,c,hf⟩:=c;rw[Ct c hf] at e;cases e;obtain⟨_,_,p3⟩:=I.aK b _ c;obtain⟨_,k2,k3⟩:=kept b φ c hf;exact⟨k2,k3,p3⟩
  ·rw[sM λφ z hf=>c ⟨φ,z,hf⟩] at e;exact(aK b o e).nu (λ_ _ _ z=>z) (λb' z=>mono _ _ z) λb' xs z=>mono _ _ z
theorem II(I:Inv X η σ H s)(F:gz X.prog X.w X.K X.mg (qR s.heap H (jA X.stack)) uR k f fd ps sp)(hr:cY k X.A)(hb:abr s fd ⟨us,[]⟩ (ps.zip us))(r:aO vs us)(h:sp vs (gy H) Q E0):wpAny (model X.prog X.w) X.A (call (.ref f) us) (EP X η σ (λv H3=>∃H2,H3=zc H H2/\(∀b φ,H b=Δ (.ext φ)->Bv b φ->H2 b=Θ)/\Q v H2)) X.xe s:=by refine ach (aaQ (F.run X.A X.stack s (gy H) ⟨us,[]⟩ us vs Q E0 hr I.P6 hb r h) λr s' hq=>?_);cases r with|error e=>exact XT hq|ok fl=>cases fl with|ret u=>exact I.L8 hq|next=>exact XT hq|brk=>exact XT hq|cont=>exact XT hq
def L9(X:Cx)(i:Nat)(t:TA):TE:=λσ H Q=>∃a,σ[i]?=Δ (Δ (.ref a))/\(∃oc od fd sl,X.base.get? a=Δ ⟨oc,od,.func fd,sl⟩)/\t σ H λvs H1=>∃k fd ps sp,gz X.prog X.w X.K X.mg X.base uR k a fd ps sp/\cY k X.A/\Binds X.K fd ps []/\sp vs H1 Q E0
theorem FO(hN:X.N[i]?=Δ x)(hv:OC X.env.scope x)(ha:PA X (e::es) t)(hd:(x==("__debug__":Str))=Ξ:=by decide)(qf:(x==("__classdict__":Str))=Ξ:=by decide)(he:Xf (e::es) X.env=(Ξ,eval e X.env)::Xf es X.env:=by rfl)(yq:(YL pos (Xf es X.env)).any (·.1)=Ξ:=by rfl):
  PE X (.Call (.Name x p) (e::es) [] pos) (L9 X i t):=by
 intro η s σ H Q I h;obtain⟨a,ea,⟨oc,od,fd0,sl,eo⟩,h⟩:=h;refine X6 (Yh (AX (pos:=p) hN hv hd qf η s σ H (λv H'=>v=.ref a/\H'=H) I ⟨_,ea,rfl,rfl⟩) (λu s0 ⟨v,H0,I0,rv,ev,eH⟩=>?_) λ_ _ z=>z);subst ev;subst eH;obtain rfl:u=Xg a:=rv;have P7:∀{η:List (Addr×Obj)} {σ:St} {H:Hp} {s:WU},Inv X η σ H s->PySem.W.FnAt a s.heap:=λJ=>⟨oc,od,fd0,sl,J.bk _ _ eo⟩;refine PySem.W.callWith_F (P7 I0) (bQ (ha pos η s0 σ H0 _ I0 h) λus s1 ⟨vs,H1,I1,r,k,fd,ps,sp,F,hr,hb,q⟩=>⟨P7 I1,?_⟩) he yq;exact sx F hr hb (dvs:=[]) (ds:=[]) (E:=E0) .nil (λ_ _ _ _ _ _ _ z=>z.elim) I1 r (by rw[Xv];exact q)
end
def fN(H:Hp)(bS:List (Pos×Str))(ps:Array Value):Prop:=aaT ps.toList/\∀p∈bS,∀cv,Zs p.1 ps.toList=Δ cv->∃c,cv=.ref c/\H c=Δ (.ext (dv c p.2))
noncomputable def BMain(mg:Str->Option Value)(B:Heap):Prop:=∃bm ob,mg "__builtins__"=Δ (.ref bm)/\bm≠abo/\B.get? bm=Δ ob/\ob.cls=.type "module"/\ob.dict=Δ abo/\ob.data=.plain
structure Made(H H':Hp)(P f c:Addr)(bS:List (Pos×Str))(q:Str)(φ:Heap->Prop):Prop where
 fresh:H f=Θ
 fn:H' f=Δ (.ext φ)
 code:H' c=Δ (.ext (dv c q))
 tab:∃ps,H' P=Δ (.fE ps)/\fN H' bS ps
 keep:∀b u,H b=Δ u->b≠P->H' b=Δ u
 grow:∀ps,H P=Δ (.fE ps)->∃more,H' P=Δ (.fE (ps++more))
 new:∀b,H b=Θ->H' b=Θ\/∃ψ,H' b=Δ (.ext ψ)
theorem nO:∀(l),aaT l->aaT (l++[.int i ti,.int j tj,c])
 |[],_=>trivial|.int _ _::.int _ _::_::rest,h=>nO rest h
theorem mn{pos p:Pos}(fc:¬(p.line=pos.line/\p.col=pos.col)):∀(l),aaT l->Zs pos (l++[YK p.line,YK p.col,c])=Zs pos l
 |[],_=>by show(if((p.line:Int)==(pos.line:Int)&&(p.col:Int)==(pos.col:Int))=Λ then Δ c else Θ)=Θ;rw[if_neg];rw[WC,beq_iff_eq,beq_iff_eq];rintro⟨a,b⟩;exact fc ⟨by lia,by lia⟩
 |.int a ta::.int b tb::d::rest,h=>by have ih:=mn (c:=c) fc rest h;simp only[Ys,Zs];rw[ih]
theorem qS l(h:aaT l)(hn:Zs p l=Θ):Zs p (l++[YK p.line,YK p.col,c])=Δ c:=codeAmong_snoc l h hn
theorem ze{p:Pos}(h:aaT l):aaT (l++[YK p.line,YK p.col,c]):=nO l h
def Apart(bS:List (Pos×Str)):Prop:=∀p∈bS,∀q∈bS,p.1.line=q.1.line/\p.1.col=q.1.col->p=q
section
variable{X:Cx}{η:List (Addr×Obj)}{σ:St}{H:Hp}{s:WU}
theorem Inv.zf(UQ:fo.isFreed=Ξ)(I:Inv X η σ H s)(hP:H P=Δ (.fE ps))(tb:fN H bS ps)(hs:(pos,q)∈bS)(ap:Apart bS)(hnf:Zs pos ps.toList=Θ)(hx:Heap.ExtBut P s.heap h')(Ma:s.heap.objs.size<=c')(eB:c' < h'.objs.size)(xH:h'.CodeRec (.ref c') q)(Oa:h'.get? P=Δ (Zt (ps++#[YK pos.line,YK pos.col,.ref c'])))(hf:f=h'.objs.size)φ(h1:φ (h'.push fo))(h2:∀g1 g2:Heap,φ g1->(∀o,g1.get? f=Δ o->g2.get? f=Δ o)->φ g2):
  ∃H',Inv X η σ H' {s with heap:=h'.push fo,toks:=tk}/\Made H H' P f c' bS q φ:=by
 have Mb:s.heap.get? P=Δ (Zt ps):=I.aK P _ hP;have lP:P < s.heap.objs.size:=WV Mb;have fr:∀b,s.heap.objs.size<=b->H b=Θ:=λb hb=>I.aK.fresh hb;have lcf:c' < f:=by rw[hf];exact eB
 have Mc:s.heap.objs.size < f:=Nat.lt_of_le_of_lt Ma lcf;have nPc:c'≠P:=XI (W7 lP Ma);have nPf:f≠P:=XI (aap lP Mc);have ncf:f≠c':=XI lcf;have Sv:∀b,b < s.heap.objs.size->b≠c'/\b≠f:=λb hb=>⟨W9 (W7 hb Ma),W9 (aap hb Mc)⟩;obtain⟨cc,oc,vs,tt,ecc,Lg,hd,hv⟩:=xH;cases ecc
 let H':Hp:=upd (upd (upd H P (.fE (ps++#[YK pos.line,YK pos.col,.ref c']))) c' (.ext (dv c' q))) f (.ext φ)
 have eP:H' P=Δ (.fE (ps++#[YK pos.line,YK pos.col,.ref c'])):=by show upd _ _ _ P=_;rw[au (XC nPf),au (XC nPc),aD]
 have ec:H' c'=Δ (.ext (dv c' q)):=by show upd _ _ _ c'=_;rw[au (XC ncf),aD]
 have ef:H' f=Δ (.ext φ):=aD;have eo:∀b,b≠P->b≠c'->b≠f->H' b=H b:=λb n1 n2 n3=>by show upd _ _ _ b=_;rw[au n3,au n2,au n1]
 have hsf:s.heap.objs.size<=f:=aaq Mc;have hold:∀b u,H b=Δ u->b≠P->H' b=Δ u:=λb u e n=>by
  have hb:b < s.heap.objs.size:=by
   rcases Nat.lt_or_ge b s.heap.objs.size with z|z;·exact z
   ·rw[fr b z] at e;cases e
  rw[eo b n (Sv b hb).1 (Sv b hb).2];exact e
 have kp:∀b o,b≠P->s.heap.get? b=Δ o->(h'.push fo).get? b=Δ o:=λb o n e=>WA _ (hx b o n e);refine⟨H',I.EO (ch:=[]) rfl ⟨λb o e n _ _=>?_,λb o e n _ _=>⟨o.slots,?_⟩,λb o e n _=>?_,λb o e _=>?_,λb xs e=>?_,λb o x e=>?_,λb qs e=>?_⟩ (λb o e=>?_) I.bare (λb z=>absurd z (by simp)),⟨fr f hsf,ef,ec,⟨_,eP,?_,?_⟩,hold,λqs e=>⟨#[YK pos.line,YK pos.col,.ref c'],?_⟩,λb n=>?_⟩⟩;·exact kp b o (λz=>by rw[z,hP] at n;cases n) e
 ·exact kp b o (λz=>by rw[z,hP] at n;cases n) e
 ·have lb:=WV e;rw[eo b (λz=>by rw[z,hP] at n;cases n) (Sv b lb).1 (Sv b lb).2];exact n
 ·by_cases z:b=P;·subst z;exact⟨_,WA _ Oa⟩
  ·exact⟨o,kp b o z e⟩
 ·exact hold b _ e λz=>by rw[z,hP] at e;cases e
 ·exact hold b _ e λz=>by rw[z,hP] at e;cases e
 ·by_cases z:b=P;·subst z;rw[hP] at e;cases e;exact⟨_,eP⟩
  ·exact⟨#[],by rw[hold b _ e z];simp⟩
 ·by_cases z1:b=f;·subst z1;rw[ef] at e;cases e;exact⟨h1,⟨fo,by rw[hf];exact WR _ UQ⟩,h2⟩
  ·by_cases z2:b=c';·subst z2;rw[ec] at e;cases e;refine⟨⟨b,oc,vs,tt,rfl,WA _ Lg,hd,hv⟩,⟨oc,WA _ Lg⟩,λg1 g2 ⟨c2,o2,v2,t2,e2,a2,r2⟩ k=>?_⟩;cases e2;exact⟨b,o2,v2,t2,rfl,k _ a2,r2⟩
   ·by_cases z3:b=P;·subst z3;rw[eP] at e;cases e;exact WA _ Oa
    ·rw[eo b z3 z2 z1] at e;refine(I.aK b o e).nu (λb' u iD eu=>?_) (λb' z=>hold b' _ z λy=>by rw[y,hP] at z;cases z) λb' xs z=>hold b' _ z λy=>by rw[y,hP] at z;cases z
     refine kp b' u (λy=>?_) eu;rcases iD with w1|w1;·exact z3 (w1▸y)
     ·rw[y,hP] at w1;cases w1
 ·rw[Array.toList_append];exact ze tb.1
 ·intro p hp cv AS;rw[Array.toList_append] at AS;by_cases z:pos.line=p.1.line/\pos.col=p.1.col;·have e:=ap (pos,q) hs p hp z;subst e;have:Zs pos (ps.toList++[YK pos.line,YK pos.col,.ref c'])=Δ (.ref c'):=qS _ tb.1 hnf;have P8:Zs pos (ps.toList++[YK pos.line,YK pos.col,.ref c'])=Δ cv:=AS;rw[this] at P8;cases P8;exact⟨c',rfl,ec⟩
  ·have:Zs p.1 (ps.toList++[YK pos.line,YK pos.col,.ref c'])=Δ cv:=AS;rw[mn z _ tb.1] at this;obtain⟨c,e1,e2⟩:=tb.2 p hp cv this;exact⟨c,e1,hold c _ e2 λy=>by rw[y,hP] at e2;cases e2⟩
 ·rw[hP] at e;cases e;exact eP
 ·by_cases z1:b=f;·subst z1;exact .inr ⟨_,ef⟩
  ·by_cases z2:b=c';·subst z2;exact .inr ⟨_,ec⟩
   ·have z3:b≠P:=λy=>by rw[y,hP] at n;cases n
    rw[eo b z3 z2 z1];exact .inl n
theorem Inv.zg{h':Heap}(UQ:fo.isFreed=Ξ)(I:Inv X η σ H s)(hP:H P=Δ (.fE ps))(tb:fN H bS ps)(qf:H c'=Δ (.ext (dv c' q)))(hk:∀b o,s.heap.get? b=Δ o->h'.get? b=Δ o)(hsz:s.heap.objs.size<=h'.objs.size)(hf:f=h'.objs.size)φ(h1:φ (h'.push fo))(h2:∀g1 g2:Heap,φ g1->(∀o,g1.get? f=Δ o->g2.get? f=Δ o)->φ g2):
  ∃H',Inv X η σ H' {s with heap:=h'.push fo,toks:=tk}/\Made H H' P f c' bS q φ:=by
 have Mc:s.heap.objs.size<=f:=by rw[hf];exact hsz
 have hn:H f=Θ:=I.aK.fresh Mc;have kp:∀b o,s.heap.get? b=Δ o->(h'.push fo).get? b=Δ o:=λb o e=>WA _ (hk b o e);have hold:∀b u,H b=Δ u->upd H f (.ext φ) b=Δ u:=λb u e=>by rw[au (aM e hn)];exact e
 refine⟨upd H f (.ext φ),I.EO (ch:=[]) rfl (Un.laid kp Mc hn) (I.aK.laid kp Mc ⟨h1,⟨fo,by rw[hf];exact WR _ UQ⟩,h2⟩) I.bare (λb z=>absurd z (by simp)),⟨hn,aD,hold _ _ qf,⟨ps,hold _ _ hP,tb.1,λp hp cv AS=>?_⟩,λb u e _=>hold b u e,λqs e=>⟨#[],by rw[hold _ _ e];simp⟩,λb n=>?_⟩⟩;·obtain⟨c,e1,e2⟩:=tb.2 p hp cv AS;exact⟨c,e1,hold _ _ e2⟩
 ·by_cases z:b=f;·subst z;exact .inr ⟨_,aD⟩
  ·rw[au z];exact .inl n
structure Maker(X:Cx)(c P:Addr)(bS:List (Pos×Str)):Prop where
 code:X.env.code=.ref c
 hd:YM X.base c P
 bm:BMain X.mg X.base
 ap:Apart bS
theorem Maker.bt(M:Maker X c P bS)(I:Inv X η σ H s)(hP:H P=Δ (.fE ps)):WY≠P/\s.heap.BuiltinsAt X.mg P:=by
 obtain⟨bm,ob,b1,b2,b3,b4,b5,b6⟩:=M.bm;obtain⟨og,es,ep,g1,g2,_⟩:=I.mod.glob;have n1:WY≠P:=λz=>by have:=(I.bs _ _ g1).2;rw[z,hP] at this;cases this
 have n2:bm≠P:=λz=>by have:=(I.bs _ _ b3).2;rw[z,hP] at this;cases this
 have n3:bm≠WY:=λz=>by rw[z,g1] at b3;cases b3;rw[g2] at b6;cases b6
 exact⟨n1,bm,ob,b1,b2,n3,n2,I.bk _ _ b3,b4,b5,b6⟩
noncomputable def UR(f:Addr)(qual:Str)(params:Zd)(body:Expr)(scope:Scope)(Bw:List (Str×Addr))(pm:Value)(c:Addr)(ct:Value):Heap->Prop:=λh=>h.get? f=Δ (PySem.W.kla_obj "<lambda>" qual params body scope Bw pm c ct)
def US(X:Cx)(P:Addr)(bS:List (Pos×Str))(qual:Str)(φ:Addr->Addr->Value->Heap->Prop):TE:=λσ H Q=>∃ps,H P=Δ (.fE ps)/\fN H bS ps/\
 ∀f c ct H',Made H H' P f c bS qual (φ f c ct)->Q (.ref f) H'
theorem Md(M:Maker X c P bS)(hs:(pos,X.env.qual++"<lambda>")∈bS)(UT:defaultsOf params X.env=([],[]))(xE:aaU scope X.env=pure Bw)(h1:∀f c ct h,UR f (X.env.qual++"<lambda>") params body scope Bw ((X.mg "__name__").getD .none) c ct h->φ f c ct h)(h2:∀f c ct (g1 g2:Heap),φ f c ct g1->(∀o,g1.get? f=Δ o->g2.get? f=Δ o)->φ f c ct g2):
  PE X (.Lambda params body scope pos) (US X P bS (X.env.qual++"<lambda>") φ):=by
 intro η s σ H Q I h;obtain⟨ps,hP,tb,h⟩:=h;have Mb:s.heap.get? P=Δ (Zt ps):=I.aK P _ hP;obtain⟨UU,hb⟩:=M.bt I hP;have hg:s.heap.Ns WY X.mg:=I.mod.glob.keeps I.bk;refine PySem.W.kla_eval UT ?_;cases hf:Zs pos ps.toList with|none=>refine PySem.W.kla_makeFunction xE I.ok.glob hg M.code (M.hd.keeps I.bk) Mb tb.1 hf UU hb λc' Me h' tk hx Ma eB xH Oa=>?_;obtain⟨H',I',md⟩:=Inv.zf rfl I (f:=h'.objs.size) (tk:=tk) hP tb hs M.ap hf hx Ma eB xH Oa rfl (φ h'.objs.size c' Me) (h1 _ _ _ _ (WR _ rfl)) (h2 _ _ _);exact⟨.ref h'.objs.size,H',I',rfl,h _ _ _ _ md⟩|some cv=>obtain⟨c',rfl,qf⟩:=tb.2 _ hs cv hf;refine PySem.W.kla_makeFunctionHit xE I.ok.glob hg M.code (M.hd.keeps I.bk) Mb tb.1 hf hb λMe h' tk hk hsz=>?_;obtain⟨H',I',md⟩:=Inv.zg rfl I (f:=h'.objs.size) (tk:=tk) hP tb qf hk hsz rfl (φ h'.objs.size c' Me) (h1 _ _ _ _ (WR _ rfl)) (h2 _ _ _);exact⟨.ref h'.objs.size,H',I',rfl,h _ _ _ _ md⟩
noncomputable def UW(f:Addr)(name qual:Str)(params:Zd)(body:List Stmt)(scope:Scope)(Bw:List (Str×Addr))(doc pm:Value)(c:Addr)(ct:Value):Heap->Prop:=λh=>h.get? f=Δ (PySem.W.fnMade name qual params body scope Bw doc pm c ct)
def UX(X:Cx)(i:Nat)(P:Addr)(bS:List (Pos×Str))(qual:Str)(φ:Addr->Addr->Value->Heap->Prop):TS:=λD σ H=>∃ps,H P=Δ (.fE ps)/\fN H bS ps/\
 ∀f c ct H',Made H H' P f c bS qual (φ f c ct)->D.nx (σ.set i (Δ (.ref f))) H'
theorem Mf(M:Maker X c P bS)(hs:(pos,aaB X.env name name)∈bS)(hd0:params.defaults=[])(P9:params.kw_defaults=[])(ha:annTrees params Θ X.env=[])(xE:aaU scope X.env=pure Bw)(hN:X.N.Nodup)(hi:X.N[i]?=Δ name)(hx:Loc X.env.scope name)(EF:X.fn name=Λ\/X.env.scope.names.lookup name=Δ .local)(h1:∀f c ct doc h,UW f name (aaB X.env name name) params body scope Bw doc ((X.mg "__name__").getD .none) c ct h->φ f c ct h)(h2:∀f c ct (g1 g2:Heap),φ f c ct g1->(∀o,g1.get? f=Δ o->g2.get? f=Δ o)->φ f c ct g2):
  PS X (.FunctionDef name params body [] Θ [] scope Θ name pos) (UX X i P bS (aaB X.env name name) φ):=by
 intro η s σ H D I h;obtain⟨ps,hP,tb,h⟩:=h;have Mb:s.heap.get? P=Δ (Zt ps):=I.aK P _ hP;obtain⟨UU,hb⟩:=M.bt I hP;have hg:s.heap.Ns WY X.mg:=I.mod.glob.keeps I.bk;refine PySem.W.nestDef_K hd0 P9 ha ?_;cases hf:Zs pos ps.toList with|none=>refine PySem.W.makeFunction_K xE I.ok.glob hg M.code (M.hd.keeps I.bk) Mb tb.1 hf UU hb λc' Me doc h' tk yt Ma eB xH Oa=>?_;obtain⟨H',I',md⟩:=Inv.zf rfl I (f:=h'.objs.size) (tk:=tk) hP tb hs M.ap hf yt Ma eB xH Oa rfl (φ h'.objs.size c' Me) (h1 _ _ _ doc _ (WR _ rfl)) (h2 _ _ _);exact nz I' hN hi hx (v:=.ref h'.objs.size) rfl (λs' I2=>⟨_,H',I2,h _ _ _ _ md⟩) EF|some cv=>obtain⟨c',rfl,qf⟩:=tb.2 _ hs cv hf;refine PySem.W.makeFunction_hit xE I.ok.glob hg M.code (M.hd.keeps I.bk) Mb tb.1 hf hb λMe doc h' tk hk hsz=>?_;obtain⟨H',I',md⟩:=Inv.zg rfl I (f:=h'.objs.size) (tk:=tk) hP tb qf hk hsz rfl (φ h'.objs.size c' Me) (h1 _ _ _ doc _ (WR _ rfl)) (h2 _ _ _);exact nz I' hN hi hx (v:=.ref h'.objs.size) rfl (λs' I2=>⟨_,H',I2,h _ _ _ _ md⟩) EF
end
def Cu(tabs:List (Addr×Addr))(H:Hp):Prop:=(∀b,H b=Θ\/(∃o xs,H b=Δ (.dt o (.lst xs)))\/(H b=Δ (.fE #[])/\b∈tabs.map (·.2)))/\∀q∈tabs,H q.2=Δ (.fE #[])
theorem DI{K:WO}{sp:Heap->Sp}(KX:K.In bB.heap)(KA:bB.heap.Ns WY mg)(hb:bB.heap.Ns abo mb)(hbb:∀x:Str,x≠"__name__"->mb x=ZO x)(UY:bB.heap.NoLimit)(hg:bB.gens=#[])(hT:PySem.W.TabsAt tabs bB.heap)(UZ:tabs≠[]->aai K=Λ)(hbm:BMain mg bB.heap)(ha:bB.heap.get? a=Δ {cls:=.type "list",data:=.seq vs.toArray})(hi:IntsAre vs ns)(hl:ns.length<=W8)(hr:cY k abO)(F:∀base:Heap,K.In base->base.Ns WY mg->(∀q∈tabs,YM base q.1 q.2)->BMain mg base->gz P w K mg base CX k fa fd [x] (sp base))(FP:∀(s:WU) (u:Value),abr s fd ⟨[u],[]⟩ [(x,u)])(xo:∀(base:Heap) (H:Hp),(∀q∈tabs,YM base q.1 q.2)->BMain mg base->Cu tabs H->ke K H a (ns.map V.int)->sp base [.ref a] H (λv _=>v=.bl Λ) λ_ _ _=>False)(U0:∀H e s',CX [] H bB (λ_ _ _=>False) e s'->False):
  aaF (model P w) abO (.call (.ref fa) ⟨[.ref a],[]⟩) (λr s'=>r=.ok (.ret (.bool Λ))/\OldK bB.heap s'.heap/\s'.os=bB.os/\aa5 s'.gens) bB:=by
 have rv:=v5 hi;have U1:=hi.length;have DJ:∀b,b∈tabs.map (·.2)->bB.heap.get? b=Δ (Zt #[]):=λb hb=>by obtain⟨q,hq,rfl⟩:=abq.mp hb;exact(hT q hq).2
 have aT:a∉tabs.map (·.2):=λz=>by have:=DJ a z;rw[ha] at this;cases this
 have core:∀H:Hp,Cu tabs H->ke K H a (ns.map V.int)->kj P w H bB.heap->(∀b,H b≠Θ->b=a\/b∈tabs.map (·.2))->(H a≠Θ->K.lookup a=Θ)->
   aaF (model P w) abO (.call (.ref fa) ⟨[.ref a],[]⟩) (λr s'=>r=.ok (.ret (.bool Λ))/\OldK bB.heap s'.heap/\s'.os=bB.os/\aa5 s'.gens) bB:=by
  intro H hO hS aK hA hK;have rR:∀{b:Addr} {o:Obj},bB.heap.get? b=Δ o->H b=Θ->(qM bB.heap H).get? b=Δ o:=λe n=>yA e n;have Hw:∀{b:Addr} {o:Obj},bB.heap.get? b=Δ o->o.cls≠.none->(∀its n,o.data≠.seq its n)->H b=Θ:=λ{b o} e d1 d2=>by
   cases q:H b with
   |none=>rfl|some u=>
    rcases hA b (by rw[q];simp) with e'|e';·subst e';rw[ha] at e;cases e;exact absurd rfl (d2 _ _)
    ·rw[DJ b e'] at e;cases e;exact absurd rfl d1
  have noD:∀{b:Addr} {o:Obj} {es:Array DictEntry} {ep:Nat},bB.heap.get? b=Δ o->o.data=.dict es ep->H b=Θ:=λ{b o es ep} e d=>by
   cases q:H b with
   |none=>rfl|some u=>
    rcases hA b (by rw[q];simp) with e'|e';·subst e';rw[ha] at e;cases e;cases d
    ·rw[DJ b e'] at e;cases e;cases d
  have Sw:∀{b:Addr} {m:Str->Option Value},bB.heap.Ns b m->(qM bB.heap H).Ns b m:=λ{b m} ⟨o,es,ep,e,d,r⟩=>⟨o,es,ep,rR e (noD e d),d,r⟩;have hKb:K.In (qM bB.heap H):=λb o e=>rR (KX b o e) (by
   cases q:H b with
   |none=>rfl|some u=>
    rcases hA b (by rw[q];simp) with e'|e';·subst e';rw[hK (by rw[q];simp)] at e;cases e
    ·have e2:=KX b o e;rw[DJ b e'] at e2;cases e2;have h2:=Zv.mp (UZ λz=>by rw[z] at e';cases e') _ (PySem.W.mem_of_lookupK e);exact absurd (show Ξ=Λ from h2) Xw)
  have hM:Mod K mg (qM bB.heap H):=⟨hKb,Sw KA,⟨mb,Sw hb,hbb⟩,let ⟨mc,h1,h2⟩:=UY;⟨mc,Sw h1,h2⟩⟩;have e0:xm P w K mg (qM bB.heap H) abO [] bB H:=⟨rfl,hM,λb o e=>Cd e,aaS (vS _ _),trivial,λb hb=>absurd (show b∈([]:List Addr) from hb) (by simp),aK,.of_eq hg⟩;have qf:∀q∈tabs,YM (qM bB.heap H) q.1 q.2:=λq hq=>by obtain⟨o,us,file,tf,flags,tg,inF,text,tt,e1,r1,r2,r⟩:=(hT q hq).1;exact⟨o,us,file,tf,flags,tg,inF,text,tt,rR e1 (Hw e1 (by rw[r1];nofun) (by rw[r2];nofun)),r1,r2,r⟩
  have Qa:BMain mg (qM bB.heap H):=by obtain⟨bm,ob,b1,b2,b3,b4,b5,b6⟩:=hbm;exact⟨bm,ob,b1,b2,rR b3 (Hw b3 (by rw[b4];nofun) (by rw[b6];nofun)),b4,b5,b6⟩
  refine aaQ ((F _ hKb (Sw KA) qf Qa).run abO [] bB H ⟨[.ref a],[]⟩ [.ref a] [.ref a] _ _ hr e0 (FP bB (.ref a)) (.cons rfl .nil) (xo _ H qf Qa hO hS)) λr s' h=>?_;cases r with
  |error e=>exact(U0 H e s' h).elim|ok fl=>
   cases fl with
   |next=>exact XT h|brk=>exact XT h|cont=>exact XT h|ret u=>
    obtain⟨v,H',os,bare,un,Qb,r',q⟩:=h;have q':v=.bl Λ:=q;subst q';obtain rfl:u=Z9 Λ:=r';have way:∀b o,bB.heap.get? b=Δ o->s'.heap.get? b=Δ o\/(isCodeTable bB.heap b/\o=Zt #[]/\∃ps,s'.heap.get? b=Δ (Zt ps)):=λb o e=>by
     rcases hO.1 b with z|⟨ob,xs,z⟩|⟨z,zt⟩;·exact .inl (un.keep b o e z (by intro z;exact absurd (show b∈([]:List Addr) from z) (by simp)) (by simp))
     ·have z2:=un.oO b ob _ z;obtain⟨e1,_⟩:=aK b _ z;obtain⟨e2,_⟩:=Qb b _ z2;rw[e] at e1;cases e1;exact .inl e2
     ·obtain⟨more,z2⟩:=un.qK b _ z;have e2:=Qb b _ z2;have e3:=DJ b zt;rw[e] at e3;obtain⟨q,hq,rfl⟩:=abq.mp zt;exact .inr ⟨((hT q hq).1.tab (hT q hq).2).isCodeTable,Xj e3,_,e2⟩
    refine⟨rfl,⟨λb o e=>?_,λb o e=>?_⟩,os,bare⟩
    ·rcases way b o e with z|⟨z1,rfl,ps,z2⟩;·exact .inl z
     ·exact .inr (.inl ⟨z1,rfl,#[],ps,rfl,by rw[Array.empty_append];exact z2⟩)
    ·rcases way b o e with z|⟨_,_,ps,z2⟩;·exact⟨o,z⟩
     ·exact⟨_,z2⟩
 have tb:∀(b:Addr) (u:HO),u=.fE #[]->b∈tabs.map (·.2)->∀H:Hp,bG P w H bB.heap b u:=λb u e hb H=>by rw[e];exact DJ b hb
 let H0:Hp:=λb=>if b∈tabs.map (·.2) then Δ (.fE #[]) else Θ
 cases hk:K.lookup a with
 |some o=>
  have e:=KX a o hk;rw[ha] at e;cases e;refine core H0 ⟨λb=>?_,λq hq=>if_pos (ZX hq)⟩ (.inr ⟨_,vs.toArray,_,hk,rfl,rfl,rfl,by rw[WX,U1];exact hl,by simpa using rv⟩) (λb u z=>?_) (λb z=>.inr ?_) λz=>absurd (if_neg aT) z
  ·by_cases hb:b∈tabs.map (·.2);·exact .inr (.inr ⟨if_pos hb,hb⟩)
   ·exact .inl (if_neg hb)
  ·by_cases hb:b∈tabs.map (·.2);·have z':=(if_pos hb).symm.trans z;exact tb b u (Xj z').symm hb _
   ·have z':=(if_neg hb).symm.trans z;cases z'
  ·by_cases hb:b∈tabs.map (·.2);·exact hb
   ·exact absurd (if_neg hb) z
 |none=>
  let H1:Hp:=λb=>if b=a then Δ (.dt {cls:=.type "list",data:=.seq vs.toArray} (.lst (ns.map V.int))) else H0 b
  have Sx:∀b,b≠a->H1 b=H0 b:=λb hb=>if_neg hb;refine core H1 ⟨λb=>?_,λq hq=>?_⟩ (.inl (.inr ⟨{cls:=.type "list",data:=.seq vs.toArray},if_pos rfl⟩)) (λb u z=>?_) (λb z=>?_) λ_=>hk
  ·by_cases hb:b=a;·exact .inr (.inl ⟨_,_,if_pos hb⟩)
   ·rw[Sx b hb];by_cases AU:b∈tabs.map (·.2);·exact .inr (.inr ⟨if_pos AU,AU⟩)
    ·exact .inl (if_neg AU)
  ·rw[Sx q.2 λz=>aT (z▸ZX hq)];exact if_pos (ZX hq)
  ·by_cases hb:b=a;·have z':=(if_pos hb).symm.trans z;cases z';subst hb;exact⟨ha,by rw[WJ];exact hl,vs,_,rv,ha⟩
   ·rw[Sx b hb] at z;by_cases AU:b∈tabs.map (·.2);·have z':=(if_pos AU).symm.trans z;exact tb b u (Xj z').symm AU _
    ·have z':=(if_neg AU).symm.trans z;cases z'
  ·by_cases hb:b=a;·exact .inl hb
   ·rw[Sx b hb] at z;by_cases AU:b∈tabs.map (·.2);·exact .inr AU
    ·exact absurd (if_neg AU) z
theorem FQ{l:aby}{K:Params->WO}{CX:World->Hv}{sp:World->(Str->Option Value)->List (Addr×Addr)->Heap->Sp}xs(hn:l.most=Δ n)(Sa:n<=W8)(Pl:d.params.defaults=[])(hr:cY k abO)(hY:∀(w:World) (h:Heap),YP w h->(K w.params).In h)(xH:∀y∈xs,∃dr,(recsOf q).find? (λe=>e.name==y)=Δ dr)(F:∀(w:World) (mg:Str->Option Value) (fa:Addr) (h:Heap),(K w.params).In h->h.Ns WY mg->mg d.name=Δ (.ref fa)->
   (xs≠[]->aai (K w.params)=Λ)/\∃(tabs:List (Addr×Addr)) (fd:YD),xs.map (YZ (K w.params))=tabs.map Δ/\(∀(s:WU) (u:Value),abr s fd ⟨[u],[]⟩ [(x,u)])/\
    (∀base:Heap,(K w.params).In base->base.Ns WY mg->(∀q∈tabs,YM base q.1 q.2)->BMain mg base->gz l.prog w (K w.params) mg base (CX w) k fa fd [x] (sp w mg tabs base))/\
    ∀(base:Heap) (H:Hp) (a:Addr) (ns:List Int),ns.length<=n->(∀q∈tabs,YM base q.1 q.2)->BMain mg base->Cu tabs H->ke (K w.params) H a (ns.map V.int)->sp w mg tabs base [.ref a] H (λv _=>v=.bl Λ) λ_ _ _=>False)(U0:∀(w:World) (H:Hp) (s:WU) (e:Value) (s':WU),CX w [] H s (λ_ _ _=>False) e s'->False):
  PySem.W.WalkO q loose XP YP l.row.toRowW d [] (λf vs=>acn f vs):=by
 refine Att.yP hn Pl λw gO bB mg mb fa o pm cd doc a vs ns G Y ho hd qf Pm DA hints hlen hg=>?_;have KX:=hY w _ Y;obtain⟨UZ,tabs,fd,Mg,hb,hF,xo⟩:=F w mg fa _ KX G.T.g Pm;have hT:PySem.W.TabsAt tabs bB.heap:=λt ht=>by
  have hm:Δ t∈xs.map (YZ (K w.params)):=by rw[Mg];exact ZX ht
  obtain⟨y,hy,e⟩:=abq.mp hm;obtain⟨dr,hdr⟩:=xH y hy;exact PySem.W.tab_of G.T KX hdr e
 exact DI KX G.T.g G.T.b G.T.builtins G.T.nolimit hg hT (λz=>UZ λy=>z (by rw[y] at Mg;exact List.map_eq_nil_iff.mp Mg.symm)) G.T.bmain DA hints (Xo hlen Sa) hr hF hb (λbase H h1 h2 h3 h4=>xo base H a ns hlen h1 h2 h3 h4) λH e s'=>U0 w H bB e s'
noncomputable def eK(a:Zd)(ps:List Str):Bool:=a.posonlyargs.isEmpty&&a.vararg.isNone&&a.kwonlyargs.isEmpty&&a.kw_defaults.isEmpty&&a.kwarg.isNone&&a.defaults.isEmpty&&decide (a.args.map (·.arg)=ps)&&decide ps.Nodup&&a.args.all λx=>x.annotation.isNone
theorem sN:∀{ps:List Str} {us:List Value},us.length=ps.length->∀n∈ps,((ps.zip us).lookup n).isSome=Λ
 |[],_,_,n,h=>by cases h|p::ps,[],hl,_,_=>by simp at hl|p::ps,u::us,hl,n,h=>by
  rw[Zz,Xd];cases hb:n==p with
  |true=>rfl|false=>
   rcases Z3.mp h with e|e;·rw[e] at hb;simp at hb
   ·exact sN (by simpa using hl) n e
theorem mo:∀{ps:List Str} {us} {l:List (Str×Value)},us.length=ps.length->ps.Nodup->(∀n∈ps,l.lookup n=(ps.zip us).lookup n)->ps.filterMap (λn=>(l.lookup n).map λv=>(n,v))=ps.zip us
 |[],us,l,_,_,_=>by simp|p::ps,[],l,hl,_,_=>by simp at hl|p::ps,u::us,l,hl,nd,h=>by
  rw[Yy] at nd;have h0:=h p WG;rw[Zz,Xd,beq_self_eq_true] at h0;have h0':l.lookup p=Δ u:=h0;rw[Zp,h0',Zz];show(p,u)::_=_;congr 1;refine mo (by simpa using hl) nd.2 λn hn=>?_;have:=h n (WE _ hn);rw[Zz,Xd] at this;have hb:(n==p)=Ξ:=by rw[beq_eq_false_iff_ne];exact λz=>nd.1 (z▸hn)
  rw[hb] at this;exact this
theorem iO(ha:eK fd.params ps=Λ)(hd:fd.defaults=.none)(hl:us.length=ps.length):ack fd ⟨us,[]⟩=pure (ps.zip us):=by
 obtain⟨fname,fq,U2,fbody,fsc,fgl,fcl,nP,fkw,fdoc,fpm,fan,fcd,fct,fbi⟩:=fd;obtain⟨po,as,va,ko,kd,ka,df⟩:=U2;dsimp only at ha hd;unfold eK at ha;simp only[WC,WS,YA,qqq] at ha;obtain⟨⟨⟨⟨⟨⟨⟨⟨rfl,rfl⟩,rfl⟩,rfl⟩,rfl⟩,rfl⟩,e⟩,nd⟩,_⟩:=ha;have q:seqItems? YG=pure Θ:=rfl;have m0:((as.map (·.arg)).take (as.map (·.arg)).length).filter (λn=>(((as.map (·.arg)).zip us).lookup n).isNone)=[]:=by rw[YW];intro n hn hc;have EN:n∈as.map (·.arg):=List.mem_of_mem_take hn;have:=sN (us:=us) (by rw[e];exact hl) n EN;cases hx:((as.map (·.arg)).zip us).lookup n with|none=>rw[hx] at this;cases this|some v=>rw[hx] at hc;cases hc
 have g0:¬(us.length > (as.map (·.arg)).length):=by rw[e];lia
 have z0:(as.map (·.arg)).filterMap (λn=>(((as.map (·.arg)).zip us).lookup n).map λv=>(n,v))=(as.map (·.arg)).zip us:=mo (by rw[e];exact hl) (by rw[e];exact nd) λ_ _=>rfl;unfold ack;simp only[hd,q,YU,YQ,ZL,pure_bind,abg,Zb,Nat.sub_zero,List.drop_nil,Nat.zero_sub,m0,List.isEmpty_nil,Bool.not_true,Yb,if_false,List.zip_nil_right,Xv,z0];have g1:(decide (us.length > (as.map (·.arg)).length)&&(Θ:Option Arg).isNone)=Ξ:=by rw[decide_eq_false g0];rfl
 simp[g0,m0,z0,e];intro h
 lia
noncomputable def iP(cells:List (Str×Addr)):List (Str×Zi)->List (Str×Addr)->List (Str×Addr)
 |[],acc=>acc|(x,k)::r,acc=>if k=.free then iP cells r ((x,(cells.lookup x).getD 0)::acc) else iP cells r acc
theorem mL:∀{names} {acc},(∀x,(x,W2)∈names->∃c,env.cells.lookup x=Δ c)->
  (forIn names acc λ(p:Str×Zi) (cs:List (Str×Addr))=>(match p with|(name,kind)=>if(kind==W2)=Λ then do {let c<-acb env name;pure (Yn ((name,c)::cs))} else pure (Yn cs):Sem (ForInStep (List (Str×Addr)))))=pure (iP env.cells names acc)
 |[],acc,_=>rfl|(x,k)::r,acc,h=>by
  rw[Zc];by_cases hk:k=.free
  ·subst hk;obtain⟨c,hc⟩:=h x WG;have e:acb env x=pure c:=by unfold acb;rw[hc]
   simp only[beq_self_eq_true,if_true,e,pure_bind];rw[mL λy hy=>h y (WE _ hy)];simp only[iP,if_true,hc,Option.getD_some]
  ·have hb:(k==W2)=Ξ:=by rw[beq_eq_false_iff_ne];exact hk
   simp only[hb,Yb,if_false,pure_bind];rw[mL λy hy=>h y (WE _ hy)];simp only[iP,if_neg hk]
theorem mq(h:∀x,(x,W2)∈scope.names->∃c,env.cells.lookup x=Δ c):aaU scope env=pure (iP env.cells scope.names []):=by unfold aaU;have:=mL (acc:=[]) h;simp only[bind_pure];exact this
theorem jJ:∀{names} {acc},(∀y,(y,W2)∈names->∃c,cells.lookup y=Δ c)->
  ((x,W2)∈names->(iP cells names acc).lookup x=cells.lookup x)/\((x,W2)∉names->(iP cells names acc).lookup x=acc.lookup x)
 |[],acc,_=>⟨(λh=>nomatch h),λ_=>rfl⟩|(y,k)::r,acc,h=>by
  have hr:∀z,(z,W2)∈r->∃c,cells.lookup z=Δ c:=λz hz=>h z (WE _ hz);by_cases hk:k=.free
  ·subst hk;simp only[iP,if_true];obtain⟨i1,i2⟩:=jJ (x:=x) (acc:=(y,(cells.lookup y).getD 0)::acc) hr;by_cases hx:(x,W2)∈r;·exact⟨λ_=>i1 hx,λz=>absurd (WE _ hx) z⟩
   ·by_cases U3:x=y;·subst U3;obtain⟨c,hc⟩:=h x WG;refine⟨λ_=>?_,λz=>absurd WG z⟩;rw[i2 hx,Xd,beq_self_eq_true,hc];rfl
    ·have hb:(x==y)=Ξ:=by rw[beq_eq_false_iff_ne];exact U3
     refine⟨λz=>?_,λ_=>?_⟩
     ·rcases Z3.mp z with z|z;·injection z with z1 _;exact absurd z1 U3
      ·exact absurd z hx
     ·rw[i2 hx,Xd,hb]
  ·simp only[iP,if_neg hk];obtain⟨i1,i2⟩:=jJ (x:=x) (acc:=acc) hr;refine⟨λz=>?_,λz=>i2 λy=>z (WE _ y)⟩;rcases Z3.mp z with z|z;·injection z with _ z2;exact absurd z2.symm hk
   ·exact i1 z
theorem kC(h:eK a ps=Λ)env:defaultsOf a env=([],[])/\a.defaults=[]/\a.kw_defaults=[]:=by obtain⟨po,as,va,ko,kd,ka,df⟩:=a;unfold eK at h;simp only[WC,WS,YA,qqq] at h;obtain⟨⟨⟨⟨⟨⟨⟨⟨rfl,rfl⟩,rfl⟩,rfl⟩,rfl⟩,rfl⟩,e⟩,nd⟩,_⟩:=h;exact⟨rfl,rfl,rfl⟩
theorem zh:∀{as},(as.all λx=>x.annotation.isNone)=Λ->aa9 as env=[]
 |[],_=>by unfold aa9;rfl|⟨x,an,p⟩::r,h=>by
  rw[ZE,WC] at h;have e:an=Θ:=YA.mp h.1;subst e;have ih:=zh (env:=env) h.2;first
   |(unfold aa9;exact ih)
   |(simp only[aa9,ih])
theorem DK(h:eK a ps=Λ)env:annTrees a Θ env=[]:=by obtain⟨po,as,va,ko,kd,ka,df⟩:=a;unfold eK at h;simp only[WC,WS,YA,qqq] at h;obtain⟨⟨⟨⟨⟨⟨⟨⟨rfl,rfl⟩,rfl⟩,rfl⟩,rfl⟩,rfl⟩,e⟩,nd⟩,an⟩:=h;unfold annTrees;simp only[Xv,Option.toList_none];rw[zh an];rfl
section
variable{X:Cx}{η:List (Addr×Obj)}{σ:St}{H:Hp}{s:WU}{a:Addr}{kvs:List (Key×V)}{k:Key}{u r:Value}{z:V}{A:Yc}{E:Value->WU->Prop}
theorem FR(I:Inv X η σ H s)(e:H a=Δ (.dK kvs))(ry:RelV (kV k) u)(rz:RelV z r)(hl:kvs.length < W8)(h1:∀v w' s',fG kvs k=Δ v->Inv X η σ H s'->RelV v w'->Q w' s')(h2:fG kvs k=Θ->∀s',Inv X η σ (upd H a (.dK (putK kvs k z))) s'->Q r s'):
  wpAny (model X.prog X.w) A (call (.builtin "dict.setdefault") [.ref a,u,r]) Q E s:=by
 obtain⟨zz,hd,vs,rel,dd⟩:=vZ I.aK e;refine aaR PySem.F.slot_dict_setdefault dd.typeIs PySem.F.entry_dict_setdefault (PySem.F.args_dict_setdefault_3 _ _ _) (kt_meets_setdefault (aZ X.prog X.w) a (nK ry) hd r)
  ⟨vs,dd,by rw[<-rel.length];exact zz,λw' hw=>?_,λhn h' yr hs=>?_⟩
 ·have rr:=rel.val k;rw[hw] at rr;cases hv:fG kvs k with|none=>rw[hv] at rr;exact(show False from rr).elim|some v=>rw[hv] at rr;exact h1 v w' _ hv (I.tok _) rr
 ·have rr:=rel.val k;rw[hn] at rr;cases hv:fG kvs k with
  |some v=>rw[hv] at rr;exact(show False from rr).elim|none=>
   have he:∃q,h'.get? a=Δ q:=let ⟨q,_,_,hq,_⟩:=yr;⟨q,hq⟩
   have nQ:(putK kvs k z).length<=W8:=by have:=iK kvs k z;lia
   exact h2 hv _ (jE I (by rw[e];exact Yi) hs he (sE nQ hd (rel.put k rz) yr))
end
def Mh(td ty tx:TE):TE:=λσ H Q=>td σ H λx H1=>∃a,x=.ref a/\Sj H1 a/\ty σ H1 λy H2=>tx σ H2 λz H3=>∃kvs k,H3 a=Δ (.dK kvs)/\y=kV k/\kvs.length < W8/\
 (∀v,fG kvs k=Δ v->Q v H3)/\(fG kvs k=Θ->Q z (upd H3 a (.dK (putK kvs k z))))
section
variable{X:Cx}{o e f:Expr}{apos fR:Pos}{td ty tx:TE}
theorem FT(ho:PE X o td)(he:PE X e ty)(hf:PE X f tx)(m:M2 X o "setdefault" apos e f fR):PE X (.Call (.Attribute o "setdefault" apos) [e,f] [] fR) (Mh td ty tx):=by intro η s σ H Q I h;refine wpAny_Call_method m.base m.Uh m.line aad PySem.F.slot_dict_setdefault PySem.F.type_dict_setdefault (bQ (ho η s σ H _ I h) λu s1 ⟨x,H1,I1,rx,a,ex,d,q1⟩=>?_);subst ex;obtain rfl:u=Xg a:=rx;obtain⟨t1,t2,_⟩:=Bi I1 d;refine⟨t1,t2,?_⟩;rw[m.trees];refine YX rfl (aaK (ZA (bQ (he η s1 σ H1 _ I1 q1) λiv s2 ⟨y,H2,I2,ry,q2⟩=>ZA (bQ (hf η s2 σ H2 _ I2 q2) λfv s3 ⟨z,H3,I3,rz,kvs,k,ea,ey,hl,q3,q4⟩=>aau ?_))));subst ey;exact FR I3 ea ry rz hl (λv w' s4 hv I4 mI=>⟨v,H3,I4,mI,q3 v hv⟩) λhn s4 I4=>⟨z,_,I4,rz,q4 hn⟩
end
def Qc(K:WO)(a:Addr):It:=
 ⟨λi H=>∃xs x,ke K H a xs/\xs[i]?=Δ x,λi H x H'=>∃T v,H T=Θ/\H'=upd H T (.tup [.int i,v])/\x=.ref T/\∀xs,ke K H a xs->xs[i]?=Δ v,λi H=>∃xs,ke K H a xs/\xs.length<=i⟩
theorem Bx{P:Xy}{w:World}{K:WO}{elts:List Expr}{kk:Nat}{pos:Pos}(a it e:Addr)(N8:e≠it):Turn P w K (.Tuple elts kk pos) (Qc K a) [e,it] e (λi h=>(∃old,IsEnum h e it i old)/\h.IsListIter it a i) where
 mem:=by simp
 obj:=λi h st b hb=>by
  obtain⟨⟨old,he⟩,o,eo,c,d⟩:=st;have iD:b=e\/b=it:=by simpa using hb
  rcases iD with z|z;·rw[z];exact⟨_,he,λv z=>nomatch z⟩
  ·rw[z];exact⟨o,eo,λv z=>by rw[d] at z;cases z⟩
 keep:=λi h h' st k=>⟨let ⟨old,he⟩:=st.1;⟨old,k e (by simp) _ he⟩,st.2.at λo x=>k it (by simp) o x⟩
 item:=by
  intro X hP hw hK hc i η s σ H E I hf st hg;subst hP hw hK;obtain⟨xs,x,hq,hx⟩:=hg;obtain⟨its,rv,p,hz⟩:=I.list hq;have p':s.heap.IsList a its.toArray:=p.isList;obtain⟨u,hu,ru⟩:=rv.get hx;obtain⟨f0,f1,f2,f3,f4,f5⟩:=hf it (by simp);obtain⟨g0,g1,g2,g3,g4,g5⟩:=hf e (by simp);obtain⟨⟨old,he⟩,hit⟩:=st;refine wpAny_pyNext_enum_item he hit p' (x:=u) (by simpa using hu) N8 λh' ho vc hT hsz hk=>?_;refine⟨_,rfl,?_⟩;refine wpAny_letOwnedTupleGo_enum ho λh2 PX Hy=>?_;have PY:s.heap.objs.size≠e:=XI (WV he);have N9:s.heap.objs.size≠it:=by obtain⟨o,eo,_⟩:=hit;exact XI (WV eo)
  have yY:∀b o,b≠e->b≠it->s.heap.get? b=Δ o->h2.get? b=Δ o:=λb o h1 h3 q=>Hy.extBut b o h1 (hk b o h1 h3 q);have hn:H s.heap.objs.size=Θ:=I.aK.fresh (WM _);have EM:∀b v,H b=Δ v->b≠e/\b≠it:=λb v q=>⟨(λz=>by rw[z,g0] at q;cases q),(λz=>by rw[z,f0] at q;cases q)⟩;have PZ:h2.get? s.heap.objs.size=Δ {cls:=.type "tuple",data:=.seq #[.int i s.toks,u]}:=Hy.extBut _ _ PY hT;have I1:Inv X η σ (upd H s.heap.objs.size (.tup [.int i,x])) {s with heap:=h2,toks:=s.toks+1}:=by
   refine I.step (g':=s.gens) (d':=s.drawn) (ch:=[e,it]) (λb hb=>?_) (λb o _ _ hc q _=>yY b o (λz=>hc (by simp[z])) (λz=>hc (by simp[z])) q) (λb o _ _ hc q _=>⟨o.slots,yY b o (λz=>hc (by simp[z])) (λz=>hc (by simp[z])) q⟩)
    (λb o _ q n=>by rw[au (W9 (WV q))];exact n) (λb o hc q=>⟨o,yY b o (λz=>hc (by simp[z])) (λz=>hc (by simp[z])) q⟩) (λb xs q=>by rw[au (aM q hn)];exact q) (λb o v q=>by rw[au (aM q hn)];exact q)
    (λb ps q=>⟨#[],by rw[au (aM q hn),q];simp⟩) (λm hm=>?_) (λb v q=>?_) I.bare
   ·have iD:b=e\/b=it:=by simpa using hb
    rcases iD with z|z;·rw[z];exact⟨g3,g1,g4,g5⟩
    ·rw[z];exact⟨f3,f1,f4,f5⟩
   ·obtain⟨o,es,ep,oP,r⟩:=hm;exact⟨o,es,ep,yY _ o (XC g1) (XC f1) oP,r⟩
   ·by_cases hb:b=s.heap.objs.size;·rw[hb,aD] at q;cases q;rw[hb];exact⟨by rw[XF];simp,[.int i s.toks,u],.cons ⟨_,rfl⟩ (.cons ru .nil),⟨_,PZ,rfl,_,rfl⟩⟩
    ·rw[au hb] at q;refine(I.aK b v q).nu (λc y hc qq=>?_) (λc qq=>by rw[au (aM qq hn)];exact qq) λc xs qq=>by rw[au (aM qq hn)];exact qq
     have:c≠e/\c≠it:=by
      rcases hc with z|z;·rw[z];exact EM b v q
      ·exact EM c _ z
     exact yY c y this.1 this.2 qq
  refine⟨.ref s.heap.objs.size,_,I1,rfl,⟨s.heap.objs.size,x,hn,rfl,rfl,λys hy=>by rw[I.yD hy hq];exact hx⟩,⟨⟨u,by simpa using PX⟩,vc.at λo q=>Hy.extBut _ _ (XC N8) q⟩,λb hb=>?_⟩;have iD:b=e\/b=it:=by simpa using hb
  rcases iD with z|z;·rw[z,au (XC PY)];exact g0
  ·rw[z,au (XC N9)];exact f0
 done:=by
  intro X hP hw hK hc i η s σ H E I hf st hg;subst hP hw hK;obtain⟨xs,hq,hx⟩:=hg;obtain⟨its,rv,p,hz⟩:=I.list hq;obtain⟨f0,f1,f2,f3,f4,f5⟩:=hf it (by simp);obtain⟨⟨old,he⟩,hit⟩:=st;have hl:=rv.length;have hT:s.TypeIs (.ref e) "enumerate":=⟨_,he,rfl⟩;unfold aa8;refine WD (aa7 (X3 (name:=XH "__next__") hT YT
   (Yp YT hT PySem.F.entry_enumerate_next ?_ (PySem.F.args_enumerate_next_1 _))))
  show wpAny _ _ (field (.ref e) 2 >>=_) _ _ _;refine WD (Yo he rfl (x:=.ref it) rfl ?_);refine WD (wpAny_nextOf_list_end (I.ok.hd hc) hit p.isList (by simp;lia) λh' y UO yt=>?_);obtain⟨o,ho,xE⟩:=yt;refine WD (abc (T:="StopIteration") (b:=Λ) ⟨o,ho,xE⟩ abD ?_);exact W0 ⟨rfl,I.turned (t':=s.toks) (λb o hb q=>UO b o hb q) f0 f1 f3 f4 f5⟩
 self:=λ_ _ _ _ _ st h=>let ⟨old,he⟩:=st.1;aah he h
section
variable{X:Cx}
def Mi(K:WO)(ta:TA):TI:=λσ H R=>ta σ H λvs H1=>∃a,vs=[.ref a]/\(∃xs,ke K H1 a xs)/\R (Qc K a) H1
theorem FU(hg:Gl X "enumerate")(hm:X.mg "enumerate"=Θ)(ha:PA X [x] ta)(hs:Xf [x] X.env=[(Ξ,eval x X.env)]):
  PI X (.Tuple elts kk p3) (.Call (.Name "enumerate" p) [x] [] pos) (Mi X.K ta):=by
 intro η s σ H R I h;refine Call_ (ja I hg hm boot_enumerate (Xx (bQ (ha pos η s σ H _ I h) λus s1 ⟨vs,H1,I1,r1,q1⟩=>?_) hs rfl) (by decide+kernel) (by decide+kernel));obtain⟨a,rfl,⟨xs,hq⟩,q⟩:=q1;obtain⟨u,rfl,ru⟩:=vals1 r1;cases ru;obtain⟨its,rv,pl,hz⟩:=I1.list hq;refine call_enumerate_list pl.isList λh' he hit hsz hk=>?_;refine aah he ?_;have I2:Inv X η σ H1 {s1 with heap:=h'}:=I1.kept (t':=s1.toks) hk;refine⟨s1.heap.objs.size+1,[s1.heap.objs.size+1,s1.heap.objs.size],_,_,H1,rfl,I2,Bx a _ _ (Nat.succ_ne_self _),⟨⟨_,he⟩,hit⟩,λb hb=>?_,q⟩;have iD:b=s1.heap.objs.size+1\/b=s1.heap.objs.size:=by simpa using hb
 rcases iD with z|z;·rw[z];exact I1.u6 (YN _) (I1.aK.fresh (YN _))
 ·rw[z];exact I1.u6 (WM _) (I1.aK.fresh (WM _))
end
theorem abY.get'{α β:Type}{F:α->β->Prop}{EJ:List α}{EK:List β}(r:abY F EJ EK):∀{i:Nat} {x},EJ[i]?=Δ x->∃u,EK[i]?=Δ u/\F x u:=by induction r with|nil=>intro i x e;simp at e|@cons a b as bs h t ih=>intro i x e;cases i with|zero=>simp at e;subst e;exact⟨b,rfl,h⟩|succ i=>simpa using ih (by simpa using e)
def Iti(d:Addr)(o:Obj)(kvs:List (Key×V)):It:=
 ⟨λi H=>H d=Δ (.dt o (.dK kvs))/\i < kvs.length,λi H x H'=>∃T k v,kvs[i]?=Δ (k,v)/\H T=Θ/\H'=upd H T (.tup [kV k,v])/\x=.ref T,λi H=>H d=Δ (.dt o (.dK kvs))/\kvs.length<=i⟩
theorem FV(ok:kj P w H h)(e:H d=Δ (.dt o (.dK kvs)))(ho:o.data=.dict es ep):
  ∃vs,KV kvs vs/\Heap.DictAt (aZ P w) h d vs ep:=by
 obtain⟨h1,z,hs,vs,r,o',R1,R3,h2,h3,h4,h5⟩:=(show bG P w H h d (.dt o (.dK kvs)) from ok d _ e);rw[h1] at h2;cases h2;rw[ho] at h4;cases h4;exact⟨vs,r,o,es,h1,h3,ho,h5⟩
theorem FW(h:(aZ P w).is k u=Λ):RelV (kV k) u:=by
 rcases bX h with ⟨i,t,rfl,rfl⟩|⟨x,t,rfl,rfl⟩
 ·exact⟨t,rfl⟩
 ·exact⟨t,rfl⟩
theorem lY:entryFor table "dict_itemiterator.__iter__"=Δ Z6.«dict_keyiterator.__iter__»:=
 entryFor_alias (id':="dict_keyiterator.__iter__") (by kernel_rfl) rfl (by decide+kernel) (by kernel_rfl)
theorem vi(hit:IsItemIter s.heap it d i n ep ok ov)(h:Q (.ref it) s):wpAny (model prog w) A (aco (.ref it)) Q E s:=by have ht:s.TypeIs (.ref it) "dict_itemiterator":=⟨_,hit,rfl⟩;refine wpAny_pyIter_slot ht F.slot_dict_itemiterator_iter (Yp F.slot_dict_itemiterator_iter ht lY ?_ (F.args_dict_itemiterator_iter_1 _));show wpAny _ _ (ret (.ref it)) _ _ s;exact W0 ⟨_,rfl,"dict_itemiterator",_,ht,F.slot_dict_itemiterator_next.lookup,h⟩
theorem By{P:Xy}{w:World}{K:WO}{elts:List Expr}{kk:Nat}{pos:Pos}(d it:Addr)(o:Obj)(kvs:List (Key×V))(es:Array DictEntry)(ep:Nat)(ho:o.data=.dict es ep):
  Turn P w K (.Tuple elts kk pos) (Iti d o kvs) [it] it (λi h=>∃ok ov,IsItemIter h it d i kvs.length ep ok ov) where
 mem:=by simp
 obj:=λi h st b hb=>by
  obtain⟨ok,ov,he⟩:=st;have iD:b=it:=by simpa using hb
  rw[iD];exact⟨_,he,λv z=>nomatch z⟩
 keep:=λi h h' st k=>let ⟨ok,ov,he⟩:=st;⟨ok,ov,k it (by simp) _ he⟩
 item:=by
  intro X hP hw hK hc i η s σ H E I hf st hg;subst hP hw hK;obtain⟨hd,hi⟩:=hg;obtain⟨ok,ov,hit⟩:=st;obtain⟨vs,rel,da⟩:=FV I.aK hd ho;have hlen:kvs.length=vs.length:=rel.length;obtain⟨f0,f1,f2,f3,f4,f5⟩:=hf it (by simp);obtain⟨⟨k,v⟩,qr⟩:∃p,kvs[i]?=Δ p:=⟨kvs[i],WI hi⟩;obtain⟨⟨k',u⟩,hu,ek,ru⟩:=abY.get' rel qr;cases (show k=k' from ek);rw[hlen] at hit;refine wpAny_pyNext_items_item hit da hu λkey h' hk out hT hsz DG=>?_;refine⟨_,rfl,?_⟩;refine wpAny_letOwnedTupleGo_items out λh2 PX Hy=>?_;have N9:s.heap.objs.size≠it:=XI (WV hit);have yY:∀b o,b≠it->s.heap.get? b=Δ o->h2.get? b=Δ o:=λb o h1 q=>Hy.extBut b o h1 (DG b o h1 q);have hn:H s.heap.objs.size=Θ:=I.aK.fresh (WM _);have EM:∀b v,H b=Δ v->b≠it:=λb v q z=>by rw[z,f0] at q;cases q
  have PZ:h2.get? s.heap.objs.size=Δ {cls:=.type "tuple",data:=.seq #[key,u]}:=Hy.extBut _ _ N9 hT;have I1:Inv X η σ (upd H s.heap.objs.size (.tup [kV k,v])) {s with heap:=h2}:=by
   refine I.step (g':=s.gens) (d':=s.drawn) (t':=s.toks) (ch:=[it]) (λb hb=>?_) (λb o _ _ hc q _=>yY b o (λz=>hc (by simp[z])) q) (λb o _ _ hc q _=>⟨o.slots,yY b o (λz=>hc (by simp[z])) q⟩)
    (λb o _ q n=>by rw[au (W9 (WV q))];exact n) (λb o hc q=>⟨o,yY b o (λz=>hc (by simp[z])) q⟩) (λb xs q=>by rw[au (aM q hn)];exact q) (λb o v q=>by rw[au (aM q hn)];exact q)
    (λb ps q=>⟨#[],by rw[au (aM q hn),q];simp⟩) (λm hm=>?_) (λb v' q=>?_) I.bare
   ·have iD:b=it:=by simpa using hb
    rw[iD];exact⟨f3,f1,f4,f5⟩
   ·obtain⟨o,es,ep,oP,r⟩:=hm;exact⟨o,es,ep,yY _ o (XC f1) oP,r⟩
   ·by_cases hb:b=s.heap.objs.size;·rw[hb,aD] at q;cases q;rw[hb];exact⟨by rw[XF];simp,[key,u],.cons (FW hk) (.cons ru .nil),⟨_,PZ,rfl,_,rfl⟩⟩
    ·rw[au hb] at q;refine(I.aK b v' q).nu (λc y hc qq=>?_) (λc qq=>by rw[au (aM qq hn)];exact qq) λc xs qq=>by rw[au (aM qq hn)];exact qq
     have:c≠it:=by
      rcases hc with z|z;·rw[z];exact EM b v' q
      ·exact EM c _ z
     exact yY c y this qq
  refine⟨.ref s.heap.objs.size,_,I1,rfl,⟨s.heap.objs.size,k,v,qr,hn,rfl,rfl⟩,⟨key,u,by rw[hlen];exact PX⟩,λb hb=>?_⟩;have iD:b=it:=by simpa using hb
  rw[iD,au (XC N9)];exact f0
 done:=by intro X hP hw hK hc i η s σ H E I hf st hg;subst hP hw hK;obtain⟨hd,hi⟩:=hg;obtain⟨ok,ov,hit⟩:=st;obtain⟨vs,rel,da⟩:=FV I.aK hd ho;have hlen:kvs.length=vs.length:=rel.length;obtain⟨f0,f1,f2,f3,f4,f5⟩:=hf it (by simp);rw[hlen] at hit;exact wpAny_pyNext_items_end (I.ok.hd hc) hit da (Xb (by lia)) λh' eb=>⟨rfl,I.turned (t':=s.toks) (λb o hb q=>eb b o hb q) f0 f1 f3 f4 f5⟩
 self:=λA i s Q E st h=>by obtain⟨ok,ov,he⟩:=st;exact vi he h
section
variable{X:Cx}{η:List (Addr×Obj)}{σ:St}{H:Hp}{s:WU}
theorem Inv.re(I:Inv X η σ H s)(e:H d=Δ u)(h1:∀xs,u≠.tup xs)(h2:∀ps,u≠.fE ps)(h3:∀b,u≠.own b)(hf:∀o v,X.yB d=Δ (.dt o v)->u'=.dt o v)(new:bG X.prog X.w H s.heap d u'):Inv X η σ (upd H d u') s:=by
 have st:∀{b:Addr} {v:HO},bG X.prog X.w H s.heap b v->bG X.prog X.w (upd H d u') s.heap b v:=λx=>x.nu (λ_ _ _ q=>q) (λc q=>by
  rw[au (λz=>by rw[z,e] at q;exact h3 _ (Xj q))];exact q) λc xs q=>by
  rw[au (λz=>by rw[z,e] at q;exact h1 _ (Xj q))];exact q
 have nn:∀{b:Addr},H b=Θ->upd H d u' b=Θ:=λ{b} q=>by rw[au (λz=>by rw[z,e] at q;cases q)];exact q
 refine⟨I.ok,I.os,I.bare,⟨I.base.keep,I.base.slot,λb o q n hx=>nn (I.base.free b o q n hx),I.base.there,λb xs q=>?_,λb o v q=>?_,λb ps q=>?_⟩,I.loc,I.cell,nn I.free,λx c q=>nn (I.jY x c q),λp hp=>?_,λb v q=>?_,I.len⟩;·have:=I.base.sj b xs q;rw[au (λz=>by rw[z,e] at this;exact h1 _ (Xj this))];exact this
 ·by_cases z:b=d;·rw[z] at q ⊢;rw[aD,hf o v q]
  ·rw[au z];exact I.base.oO b o v q
 ·obtain⟨more,this⟩:=I.base.qK b ps q;exact⟨more,by rw[au (λz=>by rw[z,e] at this;exact h2 _ (Xj this))];exact this⟩
 ·obtain⟨q1,q2,q3⟩:=I.pin p hp;exact⟨q1,nn q2,q3⟩
 ·by_cases z:b=d;·rw[z,aD] at q;cases q;rw[z];exact st new
  ·rw[au z] at q;exact st (I.aK b v q)
def NF(X:Cx)(d:Addr):Prop:=∀o v,X.yB d≠Δ (.dt o v)
theorem Inv.hold(I:Inv X η σ H s)(e:H d=Δ (.dK kvs)):∃o es ep,s.heap.get? d=Δ o/\o.data=.dict es ep/\NF X d/\Inv X η σ (upd H d (.dt o (.dK kvs))) s:=by
 have ok:bG X.prog X.w H s.heap d (.dK kvs):=I.aK d _ e;obtain⟨z,hs,vs,r,o,es,ep,h2,h3,h4,h5⟩:=id ok;have nf:NF X d:=λo' v q=>by have:=I.base.oO d o' v q;rw[e] at this;cases this
 exact⟨o,es,ep,h2,h4,nf,I.re e (λ_ z=>nomatch z) (λ_ z=>nomatch z) (λ_ z=>nomatch z) (λo' v q=>absurd q (nf o' v)) ⟨h2,ok⟩⟩
theorem Inv.DL(I:Inv X η σ H s)(e:H d=Δ (.dt o u))(nf:NF X d):Inv X η σ (upd H d u) s:=by obtain⟨h1,h2⟩:=(show bG X.prog X.w H s.heap d (.dt o u) from I.aK d _ e);exact I.re e (λ_ z=>nomatch z) (λ_ z=>nomatch z) (λ_ z=>nomatch z) (λo' v q=>absurd q (nf o' v)) h2
def wa(X:Cx)(D:Ends):Ends where
 nx:=λσ H=>∃d o u,H d=Δ (.dt o u)/\NF X d/\D.nx σ (upd H d u)
 rt:=λv H=>∃d o u,H d=Δ (.dt o u)/\NF X d/\D.rt v (upd H d u)
 bk:=λσ H=>∃d o u,H d=Δ (.dt o u)/\NF X d/\D.bk σ (upd H d u)
 ct:=λσ H=>∃d o u,H d=Δ (.dt o u)/\NF X d/\D.ct σ (upd H d u)
theorem IJ{st:Stmt}(h:PS X st t):PS X st (λD σ H=>t (wa X D) σ H):=by intro η s σ H D I q;refine bQ (h η s σ H _ I q) λf s1 q1=>?_;cases f with|next=>obtain⟨cT,H',I',d,o,u,e,nf,q'⟩:=q1;exact⟨cT,_,I'.DL e nf,q'⟩|brk=>obtain⟨cT,H',I',d,o,u,e,nf,q'⟩:=q1;exact⟨cT,_,I'.DL e nf,q'⟩|cont=>obtain⟨cT,H',I',d,o,u,e,nf,q'⟩:=q1;exact⟨cT,_,I'.DL e nf,q'⟩|ret w'=>obtain⟨v,cT,H',I',r,d,o,u,e,nf,q'⟩:=q1;exact⟨v,cT,_,I'.DL e nf,r,q'⟩
end
section
variable{X:Cx}
def Mj(X:Cx)(td:TE):TI:=λσ H R=>td σ H λx H1=>∃d kvs,x=.ref d/\H1 d=Δ (.dK kvs)/\∀o,NF X d->R (Iti d o kvs) (upd H1 d (.dt o (.dK kvs)))
theorem FX(ho:PE X x td)(yH:Zn x "items" X.env (eval x X.env)=eval x X.env)(g6:(apos.endLine==fR.line)=Λ):
  PI X (.Tuple elts kk p3) (.Call (.Attribute x "items" apos) [] [] fR) (Mj X td):=by
 intro η s σ H R I h;refine wpAny_Call_method0_late yH g6 (bQ (ho η s σ H _ I h) λv s1 ⟨y,H1,I1,r1,d,kvs,ey,ed,q1⟩=>?_);subst ey;cases r1;obtain⟨t1,t2,U4⟩:=Bi I1 (.inl ⟨kvs,.inl ed⟩);refine⟨"dict","dict.items",aad,PySem.F.slot_dict_items,PySem.F.type_dict_items,t1,t2,YX rfl (PySem.evalArgs_none ?_)⟩;obtain⟨o,es,ep,oP,Hs,nf,I2⟩:=I1.hold ed;obtain⟨vs,rel,da⟩:=FV I2.aK aD Hs;have dd:Heap.DictOf (aZ X.prog X.w) s1.heap d vs:=da.dictOf;refine aaR PySem.F.slot_dict_items dd.typeIs PySem.F.entry_dict_items (PySem.F.args_dict_items_1 _) (meets_dict_items (aZ X.prog X.w) d U4) ⟨⟨vs,dd⟩,?_⟩;have hv:Heap.IsItemsView (s1.heap.push {cls:=.type "dict_items",data:=.fields #[.ref d]}) s1.heap.objs.size d:=⟨_,WR _ rfl,rfl,rfl⟩;refine wpAny_pyIter_items (knd:=aZ X.prog X.w) (ep:=ep) (kvs:=vs) hv (da.at' λo' q=>WA _ q) ?_;have hlen:kvs.length=vs.length:=rel.length;have I3:Inv X η σ (upd H1 d (.dt o (.dK kvs))) {s1 with heap:=s1.heap.push {cls:=.type "dict_items",data:=.fields #[.ref d]}}:=I2.kept (t':=s1.toks) λb o' q=>WA _ q;refine⟨_,[_],_,_,_,rfl,I3.kept (t':=s1.toks) λb o' q=>WA _ q,By d _ o kvs es ep Hs,⟨.none,.none,?_⟩,λb hb=>?_,q1 o nf⟩;·rw[hlen];exact WR _ rfl
 ·have iD:b=(s1.heap.push {cls:=.type "dict_items",data:=.fields #[.ref d]}).objs.size:=by simpa using hb
  rw[iD];exact I3.u6 (WM _) (I3.aK.fresh (WM _))
theorem DM(rel:KV kvs vs):∀{us},us.length=vs.length->(∀(j:Nat) (v),us[j]?=Δ v->∃k x,vs[j]?=Δ (k,x)/\(aZ P w).is k v=Λ)->aO (kvs.map λkv=>kV kv.1) us:=by
 unfold KV at rel;induction rel with
 |nil=>intro us hl h;cases us with|nil=>exact .nil|cons _ _=>simp at hl
 |@cons p q ps qs e t ih=>
  intro us hl h;cases us with
  |nil=>simp at hl|cons v us=>
   refine .cons ?_ (ih (by simpa using hl) λj v' hv=>h (j+1) v' (by simpa using hv));obtain⟨k,x,hk,hi⟩:=h 0 v rfl;simp at hk;have e1:p.1=k:=by rw[e.1,hk]
   show RelV (kV p.1) v;rw[e1];exact FW hi
theorem vk(hc:X.calm=Λ):fL X (.type "list") (λxs H Q=>∃p kvs,xs=[.ref p]/\H p=Δ (.dK kvs)/\∀l,H l=Θ->Q (.ref l) (upd H l (.lst (kvs.map λkv=>kV kv.1)))):=by intro η s σ H xs us Q I r h;obtain⟨p,kvs,rfl,hq,q⟩:=h;obtain⟨u,rfl,rx⟩:=vals1 r;cases rx;obtain⟨z,U4,vs,rel,dd⟩:=vZ I.aK hq;have hlen:kvs.length=vs.length:=rel.length;obtain⟨ep,da⟩:=dd.dictAt;refine PySem.W.kdl_call (PySem.W.kdl_dict (knd:=aZ X.prog X.w) (kvs:=vs) (ep:=ep) U4) (I.ok.hd hc) da (by lia) λh' tk acc c' kp e io=>?_;obtain⟨hsz,hit⟩:=io;have rv:aO (kvs.map λkv=>kV kv.1) acc.toList:=DM rel (by simpa using hsz) λj v hv=>hit j v (by simpa using hv);refine⟨.ref s.heap.objs.size,_,I.laid (t':=tk) kp (WM _) (show bG X.prog X.w _ h' _ (.lst (kvs.map λkv=>kV kv.1)) from⟨by simpa using z,acc.toList,c',rv,by simpa using e⟩),rfl,q _ (I.aK.fresh (WM _))⟩
end
def Ml(tk tv:TE):TE:=λσ H Q=>∀p,H p=Θ->tk σ (upd H p (.dT [])) λx H1=>tv σ H1 λy H2=>H2 p=Δ (.dT [])/\∃ks b,x=.ref b/\H2 b=Δ (.tup (ks.map kV))/\Q (.ref p) (upd H2 p (.dT [(ks,y)]))
theorem FY(hu:X.A.units+1 < cLine)(hk:PE X k tk)(hv:PE X v tv):PE X (.Dict [Δ k] [v] pos) (Ml tk tv):=by
 intro η s σ H Q I q;have hn:=I.aK.fresh (WM s.heap.objs.size);have I1:=I.laid (a:=s.heap.objs.size) (o:=.dT []) (h':=s.heap.push {cls:=.type "dict",data:=.dict #[]}) (t':=s.toks) (λ_ _ q=>WA _ q) (WM _) (yN s.heap I.Sh);rw[arm_eval_Dict];have e0:(evalEachOpt [Δ k] X.env).zip (abI (λv=>do let x<-v;abm pos;pure x) (evalEach [v] X.env))=abI (λp=>(Δ p.1,p.2)) (pairTrees [Δ k] [v] X.env pos):=by rfl
 rw[e0,dictDisplay_pairs (pairTrees [Δ k] [v] X.env pos) (List.cons_ne_nil _ _) (Nat.le_of_ble_eq_true rfl)];refine WD (abR (WD (wpAny_subDict_any (Nat.le_of_ble_eq_true rfl) (bQ ((yO hk hv Co) η _ σ _ (λps H2=>match ps with
  |[(x,y)]=>H2 s.heap.objs.size=Δ (.dT [])/\∃ks b,x=.ref b/\H2 b=Δ (.tup (ks.map kV))/\Q (.ref s.heap.objs.size) (upd H2 s.heap.objs.size (.dT [(ks,y)]))
  |_=>False) I1 (q _ hn)) λws s2 ⟨ps,H2,I2,rel,h⟩=>?_))))
 cases rel with
 |nil=>exact h.elim|@cons p1 q1 ps1 qs1 r rs=>
  cases rs with
  |cons _ _=>exact h.elim|nil=>
  obtain⟨x,y⟩:=p1;obtain⟨w1,w2⟩:=q1;obtain⟨e,ks,b,ex,eb,q2⟩:=h;subst ex;cases (show w1=Xg b from r.1);obtain⟨z,hd,xs,rl,dd⟩:=Kk I2.aK e;cases rl;unfold storeAll;rw[Zc];have room:(abd (aZ X.prog X.w)).room X.A:=by
   show X.A.units < cLine
   lia
  refine WD (WD (wpAny_dictSet_heap room (oW I2.aK eb) dd (λh' yr hs=>W0 ?_) (by simp)));dsimp only;rw[ZL];refine W0 (W0 ?_);obtain⟨qq,es,ep,hq,h2,h3,h4,_,h5⟩:=yr;refine⟨.ref s.heap.objs.size,_,jE (ob:=.dT [(ks,y)]) I2 (by rw[e];exact Yi) hs ⟨qq,hq⟩ ⟨by simp[XF],hd,_,(KT.put (H:=H2) .nil ks eb r.2).keeps λc ys ec=>?_,qq,es,ep,hq,h2,h3,h4,h5⟩,rfl,q2⟩;rw[au (Kb ec e (λz=>nomatch z))];exact ec
end L2
namespace Y
open PySem
inductive D where
 |bz|bl (b:Bool)|int (i:Int)|str (x:Str)|tup (xs:List D)|pl (xs:List D)
inductive P where
 |d (x:D)|obj (n:Nat)|gW (ns:List Int)
 |fn (k:Nat) (br:List P)|lf (k:Nat)
inductive O where
 |lst (xs:List P)|dK (kvs:List (Sum Int Str×P))|dT (kvs:List (List (Sum Int Str)×P))|ins (c:Str) (fs:List (Str×P))
 |vm
abbrev aL:=List O
abbrev cj:=List (Option P)
inductive R (α:Type) where
 |ok (a:α) (st:aL)|ex (x:Str) (st:aL)|no
noncomputable def R.bind{α β:Type}(r:R α)(k:α->aL->R β):R β:=match r with|.ok a st=>k a st|.ex x st=>.ex x st|.no=>.no
noncomputable def R.of{α:Type}(o:Option α)(st:aL):R α:=match o with|some a=>.ok a st|none=>.no
@[simp] theorem ae{α β:Type}(a:α)st(k:α->aL->R β):(R.ok a st).bind k=k a st:=rfl
@[simp] theorem Sy{α β:Type}x st(k:α->aL->R β):(R.ex x st:R α).bind k=.ex x st:=rfl
@[simp] theorem nR{α β:Type}(k:α->aL->R β):(R.no:R α).bind k=.no:=rfl
@[simp] theorem ay{α:Type}(a:α)st:R.of (Δ a) st=.ok a st:=rfl
@[simp] theorem of_none{α:Type}st:R.of (Θ:Option α) st=.no:=rfl
inductive Qd where|add|sub|mul|mod
inductive KC where|lt|le|gt|ge|eq|ne|isin|sO
inductive Bf where|len|any|sum|tuple|zi
mutual
inductive E where
 |var (i:Nat)
 |cst (x:D)
 |op (o:Qd) (a b:E)
 |neg (a:E)
 |not (a:E)
 |cmp (o:KC) (a b:E)
 |chain (o o':KC) (a b c:E)
 |and (es:List E)
 |or (es:List E)
 |ite (c a b:E)
 |tup (es:List E)
 |lst (m:Bool) (l:L)
 |call (f:Nat) (es:List E)
 |KD (a:E) (T:String)
 |bf (f:Bf) (es:List E)
 |ix (a b:E)
 |qT (t:Bool)
 |nS (i:Nat) (es:List E)
 |iQ (f:Nat) (es:List E) (ls:List (Nat×List Nat))
 |jc (i:Nat) (es:List E) (ls:List (Nat×List Nat))
 |lam (k:Nat)
 |attr (c f:Str) (i:Nat)
 |o6 (k:Nat) (c m:Str) (i:Nat) (es:List E)
 |make (k:Nat) (c:Str) (es:List E)
 |DN (a b:E)
 |DO (a:E)
 |sP (a b c:E)
 |DP (k:E) (x:D)
inductive L where
 |e7 (es:List E)
 |comp (it:W) (ts:Nat) (js:List Nat) (c:Option E) (e:E)
 |iJ (es:List E)
 |zip (a b:E)
 |cm (e:E) (js:List Nat) (c:Option E) (ee:E)
 |sorted (e:E)
 |kD (w:W) (js:List Nat) (c:Option E) (e:E)
 |keys (e:E)
inductive W where
 |ex (e:E)
 |iJ (es:List E)
 |xI (es:List E)
 |enum (e:E)
end
inductive Tg where
 |nm (i:Nat)
 |tup (is:List Nat)
 |two (i j:Nat)
inductive S where
 |ret (e:E)
 |DQ
 |set (i:Nat) (e:E)
 |ifs (c:E) (a b:List S)
 |g8 (t:Tg) (w:W) (b:List S)
 |kE (c:E) (b:List S)
 |iE (t:Tg) (e:E) (b:List S)
 |Bz (i j:Nat) (e:E) (b:List S)
 |jd (i j:Nat) (e:E) (b:List S)
 |expr (e:E)
 |nP (i k:Nat)
 |lZ (c f:Str) (i:Nat) (e:E)
 |app (a e:E)
 |put (a i e:E)
inductive Fl where
 |nx (r:cj)|bk (r:cj)|ct (r:cj)|rt (v:P)
def aw:Nat:=16777216
noncomputable def l6:Int:=18446744073709551616
noncomputable def gD:Int:=4611686018427387904
def mF(o:Qd)(i j:Int):Option Int:=match o with|.add=>Δ (i+j)|.sub=>Δ (i - j)|.mul=>if(-l6 < i/\i < l6)\/(-l6 < j/\j < l6) then Δ (i*j) else Θ|.mod=>if 0 < j then Δ (i % j) else Θ
def IK:P->Option D
 |.d x=>Δ x|_=>Θ
def bw:List P->Option (List D)
 |[]=>Δ []|p::r=>(IK p).bind λx=>(bw r).map λxs=>x::xs
def bM(st:aL):P->Option (List P)
 |.d (.pl xs)=>Δ (xs.map .d)|.obj n=>match st[n]? with|some (.lst xs)=>Δ xs|_=>Θ
 |_=>Θ
def IL(o:Qd)(a b:P)(st:aL):Option P:=match o,a,b with|o,.d (.int i),.d (.int j)=>(mF o i j).map λk=>.d (.int k)|.add,.d (.str x),.d (.str y)=>if x.length+y.length<=aw then Δ (.d (.str (x++y))) else Θ|.add,.d (.tup xs),.d (.tup ys)=>if xs.length+ys.length<=aw then Δ (.d (.tup (xs++ys))) else Θ|.mul,.d (.tup xs),.d (.int k)=>if k=1 then Δ (.d (.tup xs)) else if k=2/\0 < xs.length/\xs.length<=100000 then Δ (.d (.tup (xs++xs))) else if k=3/\0 < xs.length/\xs.length<=100000 then Δ (.d (.tup (xs++xs++xs))) else Θ|.add,a,b=>(bM st a).bind λxs=>(bM st b).bind λys=>(bw (xs++ys)).bind λzs=>if zs.length<=aw then Δ (.d (.pl zs)) else Θ|_,_,_=>Θ
mutual
def wb:D->D->Bool
 |.bz,.bz=>Λ|.bl a,.bl b=>a==b|.bl a,.int j=>(if a then 1 else 0)==j|.int i,.bl b=>i==(if b then 1 else 0)|.int i,.int j=>i==j|.str x,.str y=>x==y|.tup xs,.tup ys=>iF xs ys|.pl xs,.pl ys=>iF xs ys|_,_=>Ξ
def iF:List D->List D->Bool
 |[],[]=>Λ|x::xs,y::ys=>wb x y&&iF xs ys|_,_=>Ξ
end
mutual
def mM:D->Nat
 |.tup xs=>kF xs+1|.pl xs=>kF xs+1|_=>0
def kF:List D->Nat
 |[]=>0|x::xs=>max (mM x) (kF xs)
end
theorem U5:wb (.int i) (.int j)=(i==j):=rfl
theorem IM:iF (x::xs) (y::ys)=(wb x y&&iF xs ys):=rfl
theorem FZ:mM (.tup xs)=kF xs+1:=rfl
theorem Cv:kF (x::xs)=max (mM x) (kF xs):=rfl
def uU(x y:D):Option Bool:=if min (mM x) (mM y)<=100 then Δ (wb x y) else Θ
def sQ:D->Bool
 |.tup _=>Ξ|.pl _=>Ξ|_=>Λ
noncomputable def Qe(o:KC)(i j:Int):Option Bool:=match o with|.lt=>Δ (decide (i < j))|.le=>Δ (decide (i<=j))|.gt=>Δ (decide (j < i))|.ge=>Δ (decide (j<=i))|_=>Θ
def gE(st:aL):P->Option (List P)
 |.d (.tup xs)=>Δ (xs.map .d)|.gW ns=>Δ (ns.map λi=>.d (.int i))|p=>bM st p
def l7(st:aL):P->Option D
 |.d x=>Δ x|.obj n=>match st[n]? with|some (.lst xs)=>(bw xs).map .pl|_=>Θ
 |_=>Θ
mutual
noncomputable def cn:P->Bool
 |.d _=>Λ|.fn _ br=>cw br|_=>Ξ
noncomputable def cw:List P->Bool
 |[]=>Λ|p::r=>cn p&&cw r
end
def xJ(st:aL):P->Option P
 |.gW ns=>Δ (.gW ns)|.fn k br=>if cw br then Δ (.fn k br) else Θ|p=>(l7 st p).map .d
def gI(st:aL):List P->Option (List P)
 |[]=>Δ []|p::r=>(xJ st p).bind λx=>(gI st r).map λxs=>x::xs
noncomputable def sR:List Int->List Int->Bool
 |[],[]=>Ξ|[],_::_=>Λ|_::_,[]=>Ξ|a::as,b::bs=>if a=b then sR as bs else decide (a < b)
noncomputable def keyOf:P->Option (Sum Int Str)
 |.d (.int i)=>Δ (.inl i)|.d (.str x)=>Δ (.inr x)|_=>Θ
def keysOf:List D->Option (List (Sum Int Str))
 |[]=>Δ []|x::r=>(keyOf (.d x)).bind λk=>(keysOf r).map λks=>k::ks
def mN:P->Option (List (Sum Int Str))
 |.d (.tup xs)=>keysOf xs|_=>Θ
noncomputable def fH{κ:Type}[DecidableEq κ](kvs:List (κ×P))(k:κ):Option P:=(kvs.find? λkv=>decide (kv.1=k)).map (·.2)
noncomputable def mO{κ:Type}[DecidableEq κ](kvs:List (κ×P))(k:κ)(v:P):List (κ×P):=
 if(kvs.any λkv=>decide (kv.1=k))=Λ then kvs.map (λkv=>if kv.1=k then(kv.1,v) else kv) else kvs++[(k,v)]
def qt(o:O)(k:P):Option (Option P):=match o with|.lst _=>Θ|.ins _ _=>Θ|.vm=>Θ|.dK kvs=>(keyOf k).map λk=>fH kvs k|.dT kvs=>(mN k).map λk=>fH kvs k
def kH:O->Bool
 |.lst _=>Ξ|.ins _ _=>Ξ|.vm=>Ξ|_=>Λ
def IP(st:aL):P->Option O
 |.obj n=>st[n]?|_=>Θ
def b8(st:aL)(p:P):Option O:=(IP st p).bind λo=>if kH o then Δ o else Θ
def IQ:O->Nat
 |.lst xs=>xs.length|.ins _ _=>0|.vm=>0|.dK kvs=>kvs.length|.dT kvs=>kvs.length
def Ga(o:O)(k v:P):Option O:=match o with|.lst _=>Θ|.ins _ _=>Θ|.vm=>Θ|.dK kvs=>if kvs.length < aw then(keyOf k).map λk=>.dK (mO kvs k v) else Θ|.dT kvs=>if kvs.length < aw then(mN k).map λk=>.dT (mO kvs k v) else Θ
def Mm(o:KC)(a b:P):Option Bool:=match a,b with|.d (.int i),.d (.int j)=>Qe o i j|_,_=>Θ
def Mn(a b:P)(st:aL):Option Bool:=match b8 st b with|some o=>(qt o a).map λr=>r.isSome|none=>(IK a).bind λx=>(gE st b).bind λps=>(bw ps).bind λys=>if sQ x&&ys.all sQ then Δ (ys.any λy=>wb y x) else Θ
def kI(o:KC)(a b:P)(st:aL):Option Bool:=match o with|.eq=>(l7 st a).bind λx=>(l7 st b).bind λy=>uU x y|.ne=>(l7 st a).bind λx=>(l7 st b).bind λy=>(uU x y).map not|.isin=>Mn a b st|.sO=>(Mn a b st).map not|_=>Mm o a b
def mP(st:aL):P->Option Bool
 |.d .bz=>Δ Ξ|.d (.bl b)=>Δ b|.d (.int i)=>Δ (i !=0)|.d (.str x)=>if x.length<=aw then Δ ((x.length:Int)!=0) else Θ|.d (.tup xs)=>Δ (!xs.isEmpty)|p=>(bM st p).map λxs=>!xs.isEmpty
noncomputable def IS:P->aL->Option String
 |.d .bz,_=>Δ "NoneType"|.d (.bl _),_=>Δ "bool"|.d (.int _),_=>Δ "int"|.d (.str _),_=>Δ "str"|.d (.tup _),_=>Δ "tuple"|.d (.pl _),_=>Δ "list"|.obj n,st=>match st[n]? with|some (.lst _)=>Δ "list"|_=>Θ
 |_,_=>Θ
def mJ(t T:String):Bool:=t==T||(t=="bool"&&T=="int")
noncomputable def Bc(n:Nat)(i:Int):Option Nat:=if 0<=i then(if i < n then Δ i.toNat else Θ) else if -(n:Int)<=i then Δ (i+n).toNat else Θ
def mf{α:Type}(xs:List α)(i:Int):Option α:=(Bc xs.length i).bind λj=>xs[j]?
noncomputable def Gb:Option P->Option (Option Int)
 |none=>Δ Θ|some (.d (.int i))=>Δ (Δ i)|_=>Θ
def ixS(a b:P)(st:aL):Option P:=match b with|.d (.int i)=>(gE st a).bind λxs=>mf xs i|_=>Θ
def BA(a b:P)(st:aL):Option P:=match b8 st a with|some o=>(qt o b).bind id|none=>ixS a b st
def xK(a v:P)(st:aL):Option aL:=match a with
 |.obj n=>match st[n]? with|some (.lst xs)=>if xs.length < aw then Δ (st.set n (.lst (xs++[v]))) else Θ|_=>Θ
 |_=>Θ
def DR(o:O)(k v:P):Option O:=match o with
 |.lst xs=>match k with|.d (.int i)=>(Bc xs.length i).map λj=>.lst (xs.set j v)|_=>Θ
 |o=>Ga o k v
def qU(a k v:P)(st:aL):Option aL:=match a with|.obj n=>(st[n]?).bind λo=>(DR o k v).map λo'=>st.set n o'|_=>Θ
noncomputable def boolsOf:List P->Option (List Bool)
 |[]=>Δ []|.d (.bl b)::r=>(boolsOf r).map λbs=>b::bs|_=>Θ
noncomputable def intsOf:List P->Option (List Int)
 |[]=>Δ []|.d (.int b)::r=>(intsOf r).map λbs=>b::bs|_=>Θ
def tupI:P->Option (List Int)
 |.d (.tup xs)=>intsOf (xs.map .d)|_=>Θ
def zj:List P->Option (List (List Int))
 |[]=>Δ []|p::r=>(tupI p).bind λt=>(zj r).map λts=>t::ts
def sT:List (List Int)->Bool
 |[]=>Λ
 |a::r=>(match r with
  |[]=>Λ
  |b::_=>!sR b a&&!a.isEmpty&&!b.isEmpty)&&sT r
def sU(xs:List P):Option (List P):=(zj xs).bind λts=>if sT ts=Λ/\xs.length<=100000 then Δ xs else Θ
noncomputable def wc{κ:Type}[DecidableEq κ](kvs:List (κ×P))(k:κ):List (κ×P):=kvs.filter λkv=>decide (kv.1≠k)
def Gc(x y:P)(st:aL):Option (P×aL):=match x with
 |.obj n=>match st[n]? with|some (.dK kvs)=>(keyOf y).bind λk=>(fH kvs k).map λv=>(v,st.set n (.dK (wc kvs k)))|_=>Θ
 |_=>Θ
def Gd(x:P)(st:aL):Option (P×aL):=match x with
 |.obj n=>match st[n]? with|some (.lst xs)=>(xs[xs.length - 1]?).map λv=>(v,st.set n (.lst xs.dropLast))|_=>Θ
 |_=>Θ
def qu(x y z:P)(st:aL):Option (P×aL):=match x with
 |.obj n=>match st[n]? with
  |some (.dK kvs)=>if kvs.length < aw then(keyOf y).map λk=>match fH kvs k with|some v=>(v,st)|none=>(z,st.set n (.dK (mO kvs k z)))
   else Θ
  |_=>Θ
 |_=>Θ
noncomputable def xM:Sum Int Str->P
 |.inl i=>.d (.int i)|.inr x=>.d (.str x)
def IT(x y:P):Option O:=match keyOf x with|some k=>Δ (.dK [(k,y)])|none=>(mN x).map λk=>.dT [(k,y)]
noncomputable def sV(st:aL):P->Option (Nat×List (Sum Int Str×P))
 |.obj n=>match st[n]? with|some (.dK kvs)=>Δ (n,kvs)|_=>Θ
 |_=>Θ
noncomputable def o7(c:Str)(st:aL):P->Option (Nat×List (Str×P))
 |.obj n=>match st[n]? with|some (.ins c' fs)=>if c'=c then Δ (n,fs) else Θ|_=>Θ
 |_=>Θ
noncomputable def vn(f:Str)(v:P):List (Str×P)->List (Str×P)
 |[]=>[(f,v)]|(g,x)::r=>if g=f then(g,v)::r else(g,x)::vn f v r
def conv(ls:List (Nat×List Nat))(r:cj):Nat->P->Option P
 |0,_=>Θ|n+1,p=>match p with|.d x=>Δ (.d x)|.gW ns=>Δ (.gW ns)|.fn k br=>if cw br then Δ (.fn k br) else Θ|.lf k=>(ls.lookup k).bind λjs=>(js.mapM λj=>((r[j]?).join).bind (conv ls r n)).map λbr=>.fn k br|.obj _=>Θ
section
variable(C:Nat->List P->aL->R P)
def kg(r:cj)(i:Nat):Option P:=(r[i]?).join
def uV(f:Bf)(ps:List P)(st:aL):Option P:=match f,ps with
 |.len,[p]=>match p with|.d (.str x)=>if x.length<=aw then Δ (.d (.int x.length)) else Θ|p=>match b8 st p with|some o=>Δ (.d (.int (IQ o)))|none=>(gE st p).map λxs=>.d (.int xs.length)
 |.any,[p]=>(bM st p).bind λxs=>(boolsOf xs).map λbs=>.d (.bl (bs.any id))|.sum,[p]=>(bM st p).bind λxs=>(intsOf xs).map λns=>.d (.int ns.sum)|.zi,[p]=>(bM st p).bind λxs=>(intsOf xs).bind λns=>(ns.max?).map λn=>.d (.int n)|.tuple,[p]=>(gE st p).bind λxs=>(bw xs).map λys=>.d (.tup ys)|_,_=>Θ
def o8:P->Option (List P)
 |.d (.tup xs)=>Δ (xs.map .d)|.d (.pl xs)=>Δ (xs.map .d)|_=>Θ
noncomputable def Ge(lo hi:Int):List P:=(WB (hi - lo).toNat).map λk=>.d (.int (lo+(k:Nat)))
def sW:List P->Option (List P)
 |[.d (.int j)]=>if -gD<=j/\j < gD then Δ (Ge 0 j) else Θ|[.d (.int i),.d (.int j)]=>if -gD<=i/\i < gD/\ -gD<=j/\j < gD then Δ (Ge i j) else Θ|_=>Θ
noncomputable def Mo(hi lo:Int):List P:=(WB (hi - lo).toNat).map λk=>.d (.int (hi - (k:Nat)))
def zk:List P->Option (List P)
 |[.d (.int i),.d (.int j),.d (.int k)]=>if k= -1/\ -gD<=i/\i < gD/\ -gD<=j/\j < gD then Δ (Mo i j) else Θ|_=>Θ
def dk:Nat->List D->List P
 |_,[]=>[]|k,x::xs=>.d (.tup [.int k,x])::dk (k+1) xs
def U6(a b:P)(st:aL):Option P:=match b with|.d (.int i)=>(bM st a).bind λxs=>(intsOf xs).bind λns=>if i∈ns then Δ (.d (.int (ns.idxOf i:Nat))) else Θ|_=>Θ
def IU:P->P->Option (List D)
 |.d (.tup xs),.d (.tup ys)=>Δ ((xs.zip ys).map λp=>.tup [p.1,p.2])|_,_=>Θ
def cx(g:P->cj)(c:cj->aL->R Bool)(e:cj->aL->R P):List P->aL->R (List P)
 |[],st=>.ok [] st|p::r,st=>(c (g p) st).bind λb st1=>if b then(e (g p) st1).bind λy st2=>(cx g c e r st2).bind λys st3=>.ok (y::ys) st3 else cx g c e r st1
def wd(n:Nat)(st:aL)(i:Nat):Option (Option P):=match st[n]? with|some (.lst xs)=>Δ xs[i]?|_=>Θ
def cm(n:Nat)(g:P->cj)(c:cj->aL->R Bool)(e:cj->aL->R P):Nat->Nat->aL->R (List P)
 |0,_,_=>.no|k+1,i,st=>match wd n st i with|none=>.no|some Θ=>.ok [] st|some (Δ p)=>(c (g p) st).bind λb st1=>if b then(e (g p) st1).bind λy st2=>(cm n g c e k (i+1) st2).bind λys st3=>.ok (y::ys) st3 else cm n g c e k (i+1) st1
def mv(c:List P->aL->R P)(o:Option (List P))(st:aL):R P:=match o,st with
 |some qs,[]=>(c qs []).bind λp st2=>match p,st2 with|.d x,[]=>.ok (.d x) []|_,_=>.no
 |_,_=>.no
def bH(js:List Nat)(r:cj):cj:=js.map λj=>(r[j]?).join
def Gf:P->Bool
 |.d (.tup [_,_])=>Λ|_=>Ξ
noncomputable def Qf:P->cj
 |.d (.tup [a,b])=>[Δ (.d a),Δ (.d b)]|_=>[Θ,Θ]
mutual
def aa:E->cj->aL->R P
 |.var i,r,st=>R.of (kg r i) st|.cst x,_,st=>.ok (.d x) st|.op o a b,r,st=>(aa a r st).bind λx st1=>(aa b r st1).bind λy st2=>R.of (IL o x y st2) st2|.neg a,r,st=>(aa a r st).bind λx st1=>match x with|.d (.int i)=>.ok (.d (.int (-i))) st1|_=>.no
 |.not a,r,st=>(aa a r st).bind λx st1=>(R.of (mP st1 x) st1).bind λb st2=>.ok (.d (.bl (!b))) st2|.cmp o a b,r,st=>(aa a r st).bind λx st1=>(aa b r st1).bind λy st2=>(R.of (kI o x y st2) st2).bind λb st3=>.ok (.d (.bl b)) st3|.chain o o' a b c,r,st=>(aa a r st).bind λx st1=>(aa b r st1).bind λy st2=>(R.of (kI o x y st2) st2).bind λk st3=>if k then(aa c r st3).bind λz mj=>(R.of (kI o' y z mj) mj).bind λb A0=>.ok (.d (.bl b)) A0 else .ok (.d (.bl Ξ)) st3
 |.and es,r,st=>gh es r st|.or es,r,st=>gi es r st|.ite c a b,r,st=>(aa c r st).bind λx st1=>(R.of (mP st1 x) st1).bind λk st2=>if k then aa a r st2 else aa b r st2|.tup es,r,st=>(aA es r st).bind λps st1=>if ps.length<=aw then(R.of (bw ps) st1).bind λxs st2=>.ok (.d (.tup xs)) st2 else .no|.lst m l,r,st=>(aV l r st).bind λps st1=>if m then .ok (.obj st1.length) (st1++[.lst ps]) else(R.of (bw ps) st1).bind λxs st2=>.ok (.d (.pl xs)) st2|.call f es,r,st=>(aA es r st).bind λps st1=>C f ps st1|.KD a T,r,st=>(aa a r st).bind λx st1=>(R.of (IS x st1) st1).bind λt st2=>.ok (.d (.bl (mJ t T))) st2|.bf f es,r,st=>(aA es r st).bind λps st1=>R.of (uV f ps st1) st1|.ix a b,r,st=>(aa a r st).bind λx st1=>(aa b r st1).bind λy st2=>R.of (BA x y st2) st2|.qT t,r,st=>.ok (.obj st.length) (st++[if t then .dT [] else .dK []])|.nS i es,r,st=>(R.of (kg r i) st).bind λp jK=>(aA es r jK).bind λps st1=>match p with|.fn k br=>C k (ps++br) st1|_=>.no
 |.iQ f es ls,r,st=>(aA es r st).bind λps st1=>mv (C f) (ps.mapM (conv ls r 3)) st1|.jc i es ls,r,st=>(R.of (kg r i) st).bind λp jK=>(aA es r jK).bind λps st1=>match conv ls r 3 p with|some (.fn k br)=>mv (C k) ((ps.mapM (conv ls r 3)).map λqs=>qs++br) st1|_=>.no
 |.lam k,_,st=>.ok (.lf k) st|.attr c f i,r,st=>(R.of (kg r i) st).bind λx st1=>R.of ((o7 c st1 x).bind λq=>q.2.lookup f) st1|.o6 k c m i es,r,st=>(R.of (kg r i) st).bind λx jK=>(R.of ((o7 c jK x).bind λq=>if(q.2.lookup m).isNone then Δ () else Θ) jK).bind λ_ jK=>(aA es r jK).bind λps st1=>C k (x::ps) st1|.DN a b,r,st=>(aa a r st).bind λx st1=>(R.of (b8 st1 x) st1).bind λ_ st1=>(aa b r st1).bind λy st2=>(R.of (Gc x y st2) st2).bind λq _=>.ok q.1 q.2|.sP a b c,r,st=>(aa a r st).bind λx st1=>(R.of (b8 st1 x) st1).bind λ_ st1=>(aa b r st1).bind λy st2=>(aa c r st2).bind λz st3=>(R.of (qu x y z st3) st3).bind λq _=>.ok q.1 q.2|.DP k x,r,st=>(aa k r st).bind λy st1=>(R.of (IT y (.d x)) st1).bind λo st2=>.ok (.obj st2.length) (st2++[o])|.DO a,r,st=>(aa a r st).bind λx st1=>(R.of (Gd x st1) st1).bind λq _=>.ok q.1 q.2|.make k c es,r,st=>(aA es r st).bind λps st1=>(C k (.obj st1.length::ps) (st1++[.ins c []])).bind λv st2=>match v with|.d .bz=>.ok (.obj st1.length) st2|_=>.no
def we:Option E->cj->aL->R (Option P)
 |none,_,st=>.ok Θ st|some e,r,st=>(aa e r st).bind λx st1=>.ok (Δ x) st1
def aA:List E->cj->aL->R (List P)
 |[],_,st=>.ok [] st|e::es,r,st=>(aa e r st).bind λx st1=>(aA es r st1).bind λxs st2=>.ok (x::xs) st2
def gh:List E->cj->aL->R P
 |[],_,_=>.no|[e],r,st=>aa e r st|e::e'::es,r,st=>(aa e r st).bind λx st1=>match x with|.d (.bl b)=>if b then gh (e'::es) r st1 else .ok (.d (.bl Ξ)) st1|_=>.no
def gi:List E->cj->aL->R P
 |[],_,_=>.no|[e],r,st=>aa e r st|e::e'::es,r,st=>(aa e r st).bind λx st1=>match x with|.d (.bl b)=>if b then .ok (.d (.bl Λ)) st1 else gi (e'::es) r st1|_=>.no
def aV:L->cj->aL->R (List P)
 |.e7 es,r,st=>(aA es r st).bind λps st1=>if ps.length<=aw then .ok ps st1 else .no|.comp w ts js c e,r,st=>(bD w r st).bind λps st1=>if ts=1/\ps.length<=aw then cx (λp=>Δ p::bH js r) (bh c) (λr' aJ=>aa e r' aJ) ps st1 else .no|.kD w js c e,r,st=>(bD w r st).bind λps st1=>if ps.all Gf=Λ/\ps.length<=aw then cx (λp=>Qf p++bH js r) (bh c) (λr' aJ=>aa e r' aJ) ps st1 else .no|.sorted e,r,st=>(aa e r st).bind λx st1=>R.of ((bM st1 x).bind sU) st1|.iJ es,r,st=>(aA es r st).bind λps st1=>(R.of (sW ps) st1).bind λqs st2=>if qs.length<=aw then .ok qs st2 else .no|.zip a b,r,st=>(aa a r st).bind λx st1=>(aa b r st1).bind λy st2=>(R.of (IU x y) st2).bind λzs st3=>.ok (zs.map .d) st3|.cm e js c ee,r,st=>(aa e r st).bind λx st1=>match x with|.obj n=>cm n (λp=>Δ p::bH js r) (bh c) (λr' aJ=>aa ee r' aJ) aw 0 st1|_=>.no
 |.keys e,r,st=>(aa e r st).bind λx st1=>(R.of (sV st1 x) st1).bind λq st2=>.ok (q.2.map λkv=>xM kv.1) st2
def bh:Option E->cj->aL->R Bool
 |none,_,st=>.ok Λ st|some c,r,st=>(aa c r st).bind λx st2=>R.of (mP st2 x) st2
def bD:W->cj->aL->R (List P)
 |.ex e,r,st=>(aa e r st).bind λx st1=>R.of (o8 x) st1|.iJ es,r,st=>(aA es r st).bind λps st1=>R.of (sW ps) st1|.xI es,r,st=>(aA es r st).bind λps st1=>R.of (zk ps) st1|.enum e,r,st=>(aa e r st).bind λx st1=>match x with|.d (.tup xs)=>.ok (dk 0 xs) st1|_=>.no
end
noncomputable def jm:Tg->P->cj->Option cj
 |.nm i,p,r=>Δ (r.set i (Δ p))|.tup _,_,_=>Θ|.two i j,p,r=>match p with|.d (.tup [x,y])=>Δ ((r.set i (Δ (.d x))).set j (Δ (.d y)))|_=>Θ
def forL(g:P->cj->Option cj)(b:cj->aL->R Fl):List P->cj->aL->R Fl
 |[],r,st=>.ok (.nx r) st|p::ps,r,st=>(R.of (g p r) st).bind λr1 jK=>(b r1 jK).bind λf st1=>match f with|.nx r2=>forL g b ps r2 st1|.ct r2=>forL g b ps r2 st1|.bk r2=>.ok (.nx r2) st1|.rt v=>.ok (.rt v) st1
def iE(n:Nat)(g:P->cj->Option cj)(b:cj->aL->R Fl):Nat->Nat->cj->aL->R Fl
 |0,_,_,_=>.no|k+1,i,r,st=>match wd n st i with|none=>.no|some Θ=>.ok (.nx r) st|some (Δ p)=>(R.of (g p r) st).bind λr1 jK=>(b r1 jK).bind λf st1=>match f with|.nx r2=>iE n g b k (i+1) r2 st1|.ct r2=>iE n g b k (i+1) r2 st1|.bk r2=>.ok (.nx r2) st1|.rt v=>.ok (.rt v) st1
def mQ(i j:Nat)(b:cj->aL->R Fl):List (Sum Int Str×P)->cj->aL->R Fl
 |[],r,st=>.ok (.nx r) st|kv::ps,r,st=>(b ((r.set i (Δ (xM kv.1))).set j (Δ kv.2)) st).bind λf st1=>match f with|.nx r2=>mQ i j b ps r2 st1|.ct r2=>mQ i j b ps r2 st1|.bk r2=>.ok (.nx r2) st1|.rt v=>.ok (.rt v) st1
def jd(n i j:Nat)(b:cj->aL->R Fl):Nat->Nat->cj->aL->R Fl
 |0,_,_,_=>.no|k+1,q,r,st=>match wd n st q with|none=>.no|some Θ=>.ok (.nx r) st|some (Δ p)=>(b ((r.set i (Δ (.d (.int q)))).set j (Δ p)) st).bind λf st1=>match f with|.nx r2=>jd n i j b k (q+1) r2 st1|.ct r2=>jd n i j b k (q+1) r2 st1|.bk r2=>.ok (.nx r2) st1|.rt v=>.ok (.rt v) st1
def gF(c:cj->aL->R Bool)(b:cj->aL->R Fl):Nat->cj->aL->R Fl
 |0,_,_=>.no|n+1,r,st=>(c r st).bind λk st1=>if k then(b r st1).bind λf st2=>match f with|.nx r2=>gF c b n r2 st2|.ct r2=>gF c b n r2 st2|.bk r2=>.ok (.nx r2) st2|.rt v=>.ok (.rt v) st2 else .ok (.nx r) st1
def bI(d:cj->aL->R P)(r:cj)(st:aL):R Bool:=(d r st).bind λx st1=>R.of (mP st1 x) st1
def dP:Nat:=1000000
mutual
def aQ:S->cj->aL->R Fl
 |.ret e,r,st=>(aa C e r st).bind λv st1=>.ok (.rt v) st1|.DQ,r,st=>.ok (.rt (.d .bz)) st|.set i e,r,st=>(aa C e r st).bind λv st1=>.ok (.nx (r.set i (Δ v))) st1|.ifs c a b,r,st=>(bI (aa C c) r st).bind λk st1=>if k then aj a r st1 else aj b r st1|.g8 t w b,r,st=>(bD C w r st).bind λps st1=>forL (jm t) (aj b) ps r st1|.kE c b,r,st=>gF (bI (aa C c)) (aj b) dP r st|.iE t e b,r,st=>(aa C e r st).bind λx st1=>match x with|.obj n=>iE n (jm t) (aj b) dP 0 r st1|_=>.no
 |.Bz i j e b,r,st=>(aa C e r st).bind λx st1=>(R.of (sV st1 x) st1).bind λq st1=>(mQ i j (aj b) q.2 r (st1.set q.1 .vm)).bind λf st2=>.ok f (st2.set q.1 (.dK q.2))|.jd i j e b,r,st=>(aa C e r st).bind λx st1=>match x with|.obj n=>jd n i j (aj b) dP 0 r st1|_=>.no
 |.expr e,r,st=>(aa C e r st).bind λ_ st1=>.ok (.nx r) st1|.nP i k,r,st=>.ok (.nx (r.set i (Δ (.lf k)))) st|.lZ c f i e,r,st=>(aa C e r st).bind λv st1=>(R.of (kg r i) st1).bind λx st2=>(R.of ((o7 c st2 x).bind λq=>if q.2.length < 1000 then Δ (st2.set q.1 (.ins c (vn f v q.2))) else Θ) st2).bind λst3 _=>.ok (.nx r) st3|.app a e,r,st=>(aa C a r st).bind λx st1=>(R.of (bM st1 x) st1).bind λ_ st1=>(aa C e r st1).bind λv st2=>(R.of (xK x v st2) st2).bind λst3 _=>.ok (.nx r) st3|.put a i e,r,st=>(aa C e r st).bind λv st1=>(aa C a r st1).bind λx st2=>(aa C i r st2).bind λk st3=>(R.of (qU x k v st3) st3).bind λmj _=>.ok (.nx r) mj
def aj:List S->cj->aL->R Fl
 |[],r,st=>.ok (.nx r) st|s::rest,r,st=>(aQ s r st).bind λf st1=>match f with|.nx r1=>aj rest r1 st1|.bk r1=>.ok (.bk r1) st1|.ct r1=>.ok (.ct r1) st1|.rt v=>.ok (.rt v) st1
end
variable{C}
theorem lF{i}:aa C (.var i) r st=R.of (kg r i) st:=rfl
@[simp]theorem eQ{x}:aa C (.cst x) r st=.ok (.d x) st:=rfl
theorem nT{o a b}:aa C (.op o a b) r st=(aa C a r st).bind λx st1=>(aa C b r st1).bind λy st2=>R.of (IL o x y st2) st2:=rfl
theorem DS{a}:aa C (.neg a) r st=(aa C a r st).bind λx st1=>match x with|.d (.int i)=>.ok (.d (.int (-i))) st1|_=>.no:=rfl
theorem wj{a}:aa C (.not a) r st=(aa C a r st).bind λx st1=>(R.of (mP st1 x) st1).bind λb st2=>.ok (.d (.bl (!b))) st2:=rfl
theorem fT{o a b}:aa C (.cmp o a b) r st=(aa C a r st).bind λx st1=>(aa C b r st1).bind λy st2=>(R.of (kI o x y st2) st2).bind λb st3=>.ok (.d (.bl b)) st3:=rfl
theorem qv{o o' a b c}:aa C (.chain o o' a b c) r st=(aa C a r st).bind λx st1=>(aa C b r st1).bind λy st2=>(R.of (kI o x y st2) st2).bind λk st3=>if k then(aa C c r st3).bind λz mj=>(R.of (kI o' y z mj) mj).bind λb A0=>.ok (.d (.bl b)) A0 else .ok (.d (.bl Ξ)) st3:=rfl
@[simp]theorem DT{es}:aa C (.and es) r st=gh C es r st:=rfl
@[simp]theorem nU{es}:aa C (.or es) r st=gi C es r st:=rfl
theorem wm{c a b}:aa C (.ite c a b) r st=(aa C c r st).bind λx st1=>(R.of (mP st1 x) st1).bind λk st2=>if k then aa C a r st2 else aa C b r st2:=rfl
theorem wo{es}:aa C (.tup es) r st=(aA C es r st).bind λps st1=>if ps.length<=aw then(R.of (bw ps) st1).bind λxs st2=>.ok (.d (.tup xs)) st2 else .no:=rfl
theorem DU{m l}:aa C (.lst m l) r st=(aV C l r st).bind λps st1=>if m then .ok (.obj st1.length) (st1++[.lst ps]) else(R.of (bw ps) st1).bind λxs st2=>.ok (.d (.pl xs)) st2:=rfl
theorem g9{f es}:aa C (.call f es) r st=(aA C es r st).bind λps st1=>C f ps st1:=rfl
theorem DV{a T}:aa C (.KD a T) r st=(aa C a r st).bind λx st1=>(R.of (IS x st1) st1).bind λt st2=>.ok (.d (.bl (mJ t T))) st2:=rfl
theorem b9{f es}:aa C (.bf f es) r st=(aA C es r st).bind λps st1=>R.of (uV f ps st1) st1:=rfl
theorem bU{a b}:aa C (.ix a b) r st=(aa C a r st).bind λx st1=>(aa C b r st1).bind λy st2=>R.of (BA x y st2) st2:=rfl
@[simp]theorem hJ{t}:aa C (.qT t) r st=.ok (.obj st.length) (st++[if t then .dT [] else .dK []]):=rfl
theorem zl{i es}:aa C (.nS i es) r st=(R.of (kg r i) st).bind λp jK=>(aA C es r jK).bind λps st1=>match p with|.fn k br=>C k (ps++br) st1|_=>.no:=rfl
theorem kJ{f es ls}:aa C (.iQ f es ls) r st=(aA C es r st).bind λps st1=>mv (C f) (ps.mapM (conv ls r 3)) st1:=rfl
@[simp]theorem o9{k}:aa C (.lam k) r st=.ok (.lf k) st:=rfl
theorem BB{c f i}:aa C (.attr c f i) r st=(R.of (kg r i) st).bind λx st1=>R.of ((o7 c st1 x).bind λq=>q.2.lookup f) st1:=rfl
theorem BC{k c m i es}:aa C (.o6 k c m i es) r st=(R.of (kg r i) st).bind λx jK=>(R.of ((o7 c jK x).bind λq=>if(q.2.lookup m).isNone then Δ () else Θ) jK).bind λ_ jK=>(aA C es r jK).bind λps st1=>C k (x::ps) st1:=rfl
theorem sX{a b}:aa C (.DN a b) r st=(aa C a r st).bind λx st1=>(R.of (b8 st1 x) st1).bind λ_ st1=>(aa C b r st1).bind λy st2=>(R.of (Gc x y st2) st2).bind λq _=>.ok q.1 q.2:=rfl
theorem kK{a b c}:aa C (.sP a b c) r st=(aa C a r st).bind λx st1=>(R.of (b8 st1 x) st1).bind λ_ st1=>(aa C b r st1).bind λy st2=>(aa C c r st2).bind λz st3=>(R.of (qu x y z st3) st3).bind λq _=>.ok q.1 q.2:=rfl
theorem sY{k x}:aa C (.DP k x) r st=(aa C k r st).bind λy st1=>(R.of (IT y (.d x)) st1).bind λo st2=>.ok (.obj st2.length) (st2++[o]):=rfl
theorem sZ{a}:aa C (.DO a) r st=(aa C a r st).bind λx st1=>(R.of (Gd x st1) st1).bind λq _=>.ok q.1 q.2:=rfl
theorem tm{k c es}:aa C (.make k c es) r st=(aA C es r st).bind λps st1=>(C k (.obj st1.length::ps) (st1++[.ins c []])).bind λv st2=>match v with|.d .bz=>.ok (.obj st1.length) st2|_=>.no:=rfl
@[simp]theorem tq:we C Θ r st=.ok Θ st:=rfl
theorem BD{e}:we C (Δ e) r st=(aa C e r st).bind λx st1=>.ok (Δ x) st1:=rfl
@[simp]theorem aB:aA C [] r st=.ok [] st:=rfl
theorem aq{e es}:aA C (e::es) r st=(aa C e r st).bind λx st1=>(aA C es r st1).bind λxs st2=>.ok (x::xs) st2:=rfl
@[simp]theorem DW{e}:gh C [e] r st=aa C e r st:=rfl
theorem wq{e e' es}:gh C (e::e'::es) r st=(aa C e r st).bind λx st1=>match x with|.d (.bl b)=>if b then gh C (e'::es) r st1 else .ok (.d (.bl Ξ)) st1|_=>.no:=rfl
@[simp]theorem wu{e}:gi C [e] r st=aa C e r st:=rfl
theorem gX{e e' es}:gi C (e::e'::es) r st=(aa C e r st).bind λx st1=>match x with|.d (.bl b)=>if b then .ok (.d (.bl Λ)) st1 else gi C (e'::es) r st1|_=>.no:=rfl
theorem fU{es}:aV C (.e7 es) r st=(aA C es r st).bind λps st1=>if ps.length<=aw then .ok ps st1 else .no:=rfl
theorem jL{w ts js c e}:aV C (.comp w ts js c e) r st=(bD C w r st).bind λps st1=>if ts=1/\ps.length<=aw then cx (λp=>Δ p::bH js r) (bh C c) (λr' aJ=>aa C e r' aJ) ps st1 else .no:=rfl
theorem qw{w js c e}:aV C (.kD w js c e) r st=(bD C w r st).bind λps st1=>if ps.all Gf=Λ/\ps.length<=aw then cx (λp=>Qf p++bH js r) (bh C c) (λr' aJ=>aa C e r' aJ) ps st1 else .no:=rfl
theorem nV{e}:aV C (.sorted e) r st=(aa C e r st).bind λx st1=>R.of ((bM st1 x).bind sU) st1:=rfl
theorem DX{es}:aV C (.iJ es) r st=(aA C es r st).bind λps st1=>(R.of (sW ps) st1).bind λqs st2=>if qs.length<=aw then .ok qs st2 else .no:=rfl
theorem DY{a b}:aV C (.zip a b) r st=(aa C a r st).bind λx st1=>(aa C b r st1).bind λy st2=>(R.of (IU x y) st2).bind λzs st3=>.ok (zs.map .d) st3:=rfl
theorem qx{e js c ee}:aV C (.cm e js c ee) r st=(aa C e r st).bind λx st1=>match x with|.obj n=>cm n (λp=>Δ p::bH js r) (bh C c) (λr' aJ=>aa C ee r' aJ) aw 0 st1|_=>.no:=rfl
theorem tu{e}:aV C (.keys e) r st=(aa C e r st).bind λx st1=>(R.of (sV st1 x) st1).bind λq st2=>.ok (q.2.map λkv=>xM kv.1) st2:=rfl
@[simp]theorem mR:bh C Θ r st=.ok Λ st:=rfl
theorem tw{c}:bh C (Δ c) r st=(aa C c r st).bind λx st2=>R.of (mP st2 x) st2:=rfl
theorem Gg{e}:bD C (.ex e) r st=(aa C e r st).bind λx st1=>R.of (o8 x) st1:=rfl
theorem wy{es}:bD C (.iJ es) r st=(aA C es r st).bind λps st1=>R.of (sW ps) st1:=rfl
theorem BE{es}:bD C (.xI es) r st=(aA C es r st).bind λps st1=>R.of (zk ps) st1:=rfl
theorem BF{e}:bD C (.enum e) r st=(aa C e r st).bind λx st1=>match x with|.d (.tup xs)=>.ok (dk 0 xs) st1|_=>.no:=rfl
theorem pd{e}:aQ C (.ret e) r st=(aa C e r st).bind λv st1=>.ok (.rt v) st1:=rfl
theorem tz:aQ C .DQ r st=.ok (.rt (.d .bz)) st:=rfl
theorem pf{i e}:aQ C (.set i e) r st=(aa C e r st).bind λv st1=>.ok (.nx (r.set i (Δ v))) st1:=rfl
theorem ph{c a b}:aQ C (.ifs c a b) r st=(bI (aa C c) r st).bind λk st1=>if k then aj C a r st1 else aj C b r st1:=rfl
theorem tB{t w b}:aQ C (.g8 t w b) r st=(bD C w r st).bind λps st1=>forL (jm t) (aj C b) ps r st1:=rfl
theorem nW{c b}:aQ C (.kE c b) r st=gF (bI (aa C c)) (aj C b) dP r st:=rfl
theorem tD{t e b}:aQ C (.iE t e b) r st=(aa C e r st).bind λx st1=>match x with|.obj n=>iE n (jm t) (aj C b) dP 0 r st1|_=>.no:=rfl
theorem tF{i j e b}:aQ C (.Bz i j e b) r st=(aa C e r st).bind λx st1=>(R.of (sV st1 x) st1).bind λq st1=>(mQ i j (aj C b) q.2 r (st1.set q.1 .vm)).bind λf st2=>.ok f (st2.set q.1 (.dK q.2)):=rfl
theorem tG{i j e b}:aQ C (.jd i j e b) r st=(aa C e r st).bind λx st1=>match x with|.obj n=>jd n i j (aj C b) dP 0 r st1|_=>.no:=rfl
theorem tH{e}:aQ C (.expr e) r st=(aa C e r st).bind λ_ st1=>.ok (.nx r) st1:=rfl
theorem tI{i k}:aQ C (.nP i k) r st=.ok (.nx (r.set i (Δ (.lf k)))) st:=rfl
theorem tJ{c f i e}:aQ C (.lZ c f i e) r st=(aa C e r st).bind λv st1=>(R.of (kg r i) st1).bind λx st2=>(R.of ((o7 c st2 x).bind λq=>if q.2.length < 1000 then Δ (st2.set q.1 (.ins c (vn f v q.2))) else Θ) st2).bind λst3 _=>.ok (.nx r) st3:=rfl
theorem wz{a e}:aQ C (.app a e) r st=(aa C a r st).bind λx st1=>(R.of (bM st1 x) st1).bind λ_ st1=>(aa C e r st1).bind λv st2=>(R.of (xK x v st2) st2).bind λst3 _=>.ok (.nx r) st3:=rfl
theorem wA{a i e}:aQ C (.put a i e) r st=(aa C e r st).bind λv st1=>(aa C a r st1).bind λx st2=>(aa C i r st2).bind λk st3=>(R.of (qU x k v st3) st3).bind λmj _=>.ok (.nx r) mj:=rfl
theorem tK:aj C [] r st=.ok (.nx r) st:=rfl
theorem iR{s rest}:aj C (s::rest) r st=(aQ C s r st).bind λf st1=>match f with|.nx r1=>aj C rest r1 st1|.bk r1=>.ok (.bk r1) st1|.ct r1=>.ok (.ct r1) st1|.rt v=>.ok (.rt v) st1:=rfl
end
theorem Gh:forL g b [] r st=.ok (.nx r) st:=rfl
theorem wB:forL g b (p::ps) r st=(R.of (g p r) st).bind λr1 jK=>(b r1 jK).bind λf st1=>match f with|.nx r2=>forL g b ps r2 st1|.ct r2=>forL g b ps r2 st1|.bk r2=>.ok (.nx r2) st1|.rt v=>.ok (.rt v) st1:=rfl
theorem pA:iE n g b (k+1) i r st=match wd n st i with|none=>.no|some Θ=>.ok (.nx r) st|some (Δ p)=>(R.of (g p r) st).bind λr1 jK=>(b r1 jK).bind λf st1=>match f with|.nx r2=>iE n g b k (i+1) r2 st1|.ct r2=>iE n g b k (i+1) r2 st1|.bk r2=>.ok (.nx r2) st1|.rt v=>.ok (.rt v) st1:=rfl
theorem pB:jd n i j b (k+1) q r st=match wd n st q with|none=>.no|some Θ=>.ok (.nx r) st|some (Δ p)=>(b ((r.set i (Δ (.d (.int q)))).set j (Δ p)) st).bind λf st1=>match f with|.nx r2=>jd n i j b k (q+1) r2 st1|.ct r2=>jd n i j b k (q+1) r2 st1|.bk r2=>.ok (.nx r2) st1|.rt v=>.ok (.rt v) st1:=rfl
theorem Gi:mQ i j b [] r st=.ok (.nx r) st:=rfl
theorem wC:mQ i j b (kv::ps) r st=(b ((r.set i (Δ (xM kv.1))).set j (Δ kv.2)) st).bind λf st1=>match f with|.nx r2=>mQ i j b ps r2 st1|.ct r2=>mQ i j b ps r2 st1|.bk r2=>.ok (.nx r2) st1|.rt v=>.ok (.rt v) st1:=rfl
theorem kL:gF c b (n+1) r st=(c r st).bind λk st1=>if k then(b r st1).bind λf st2=>match f with|.nx r2=>gF c b n r2 st2|.ct r2=>gF c b n r2 st2|.bk r2=>.ok (.nx r2) st2|.rt v=>.ok (.rt v) st2 else .ok (.nx r) st1:=rfl
theorem wF:cx g c e [] st=.ok [] st:=rfl
theorem hU:cx g c e (p::r) st=(c (g p) st).bind λb st1=>if b then(e (g p) st1).bind λy st2=>(cx g c e r st2).bind λys st3=>.ok (y::ys) st3 else cx g c e r st1:=rfl
theorem mS:cm n g c e (k+1) i st=match wd n st i with|none=>.no|some Θ=>.ok [] st|some (Δ p)=>(c (g p) st).bind λb st1=>if b then(e (g p) st1).bind λy st2=>(cm n g c e k (i+1) st2).bind λys st3=>.ok (y::ys) st3 else cm n g c e k (i+1) st1:=rfl
structure Fn where
 np:Nat
 nn:Nat
 body:List S
 sh:Bool:=Ξ
mutual
def nX:D->Bool
 |.pl _=>Ξ|.tup xs=>Cw xs|_=>Λ
def Cw:List D->Bool
 |[]=>Λ|x::xs=>nX x&&Cw xs
end
def isObj:P->Bool
 |.obj _=>Λ|_=>Ξ
def outF(r:R Fl):Option D:=match r with|.ok (.rt p) st=>l7 st p|.ok (.nx _) _=>Δ .bz|_=>Θ
noncomputable def aC(nn:Nat)(ps:List P):cj:=ps.map Δ++XW (nn - ps.length) Θ
def vo(C:Nat->List P->aL->R P)(F:Fn)(ps:List P):Option D:=if ps.length=F.np then outF (aj C F.body (aC F.nn ps) []) else Θ
def tM(ps:List P)(d:D)(st:aL):R P:=if ps.any isObj&&!nX d then .no else .ok (.d d) st
noncomputable def IV(r:R Fl):R P:=match r with|.ok (.rt p) st=>.ok p st|.ok (.nx _) st=>.ok (.d .bz) st|_=>.no
def wG(Fs:List Fn):Nat->Nat->List P->aL->R P
 |0,_,_,_=>.no|n+1,f,ps,st=>match Fs[f]? with|none=>.no|some F=>if F.sh then(if ps.length=F.np then IV (aj (wG Fs n) F.body (aC F.nn ps) st) else .no) else match gI st ps with|none=>.no|some qs=>match vo (wG Fs n) F qs with|none=>.no|some d=>tM ps d st
theorem Gj:∃f:List Fn->Nat->Nat->List P->aL->R P,f=wG:=⟨wG,rfl⟩
noncomputable def callC:List Fn->Nat->Nat->List P->aL->R P:=Classical.choose Gj
theorem zo:callC=wG:=Classical.choose_spec Gj
theorem tN Fs f ps st:callC Fs 0 f ps st=.no:=by rw[zo];rfl
theorem hW(Fs:List Fn)(n f:Nat)(ps:List P)(st:aL):callC Fs (n+1) f ps st=match Fs[f]? with|none=>.no|some F=>if F.sh then(if ps.length=F.np then IV (aj (callC Fs n) F.body (aC F.nn ps) st) else .no) else match gI st ps with|none=>.no|some qs=>match vo (callC Fs n) F qs with|none=>.no|some d=>tM ps d st:=by rw[zo,wG]
end Y
namespace L2
open PySem PySem.Spec PySem.Calls PyProof.Rows PySem.W
section
variable{X:Cx}
theorem tP:∀{ns} {its},aO (ns.map V.int) its->∃xs:List (Int×Tok),its=xs.map (λp=>ZD p.1 p.2)/\xs.map (·.1)=ns
 |[],_,h=>by cases h;exact⟨[],rfl,rfl⟩|n::ns,_,h=>by cases h with|cons r rs=>obtain⟨t,rfl⟩:=r;obtain⟨xs,rfl,e⟩:=tP rs;exact⟨(n,t)::xs,rfl,by rw[WQ,e]⟩
theorem int_list(h:aO (ns.map V.int) its):∃xs:Array (Int×Tok),its.toArray=intItems xs/\xs.toList.map (·.1)=ns:=by obtain⟨xs,rfl,e⟩:=tP h;exact⟨xs.toArray,by simp[intItems],e⟩
theorem DZ(hc:X.calm=Λ):fL X (.builtin "sum") (λxs H Q=>∃(p:Addr) (ns:List Int),xs=[.ref p]/\ke X.K H p (ns.map V.int)/\Q (.int ns.sum) H):=by intro η s σ H xs us Q I r h;obtain⟨p,ns,rfl,hq,q⟩:=h;obtain⟨u,rfl,rx⟩:=vals1 r;cases rx;obtain⟨its,rv,pl,hz⟩:=I.list hq;obtain⟨ys,e1,e2⟩:=int_list rv;have hl:=pl.isList;rw[e1] at hl;refine sum_intListG (I.ok.hd hc) hl λh' tk t' hk=>?_;refine⟨.int ns.sum,H,I.kept hk,⟨t',?_⟩,q⟩;rw[preSum_eq,XE (by simp),e2]
theorem D3(hc:X.calm=Λ):fL X (.builtin "max") (λxs H Q=>∃(p:Addr) (ns:List Int) (M:Int),xs=[.ref p]/\ke X.K H p (ns.map V.int)/\ns.max?=Δ M/\Q (.int M) H):=by
 intro η s σ H xs us Q I r h;obtain⟨p,ns,M,rfl,hq,hM,q⟩:=h;obtain⟨u,rfl,rx⟩:=vals1 r;cases rx;obtain⟨its,rv,pl,hz⟩:=I.list hq;obtain⟨ys,e1,e2⟩:=int_list rv;have hl:=pl.isList;rw[e1] at hl;obtain⟨m1,m2⟩:=List.max?_eq_some_iff.mp hM;have hn:ys.size=ns.length:=by rw[<-e2];simp
 have at_:∀i,i < ys.size->∃h:i < ns.length,numAt ys i=ns[i]:=λi hi=>⟨by lia,by subst e2;simp[numAt,hi]⟩;have fc:0 < ys.size:=by rw[hn];exact YV m1
 refine max_intList (I.ok.hd hc) hl fc λv h' tk hv hk=>?_;obtain⟨t,rfl⟩:=intItems_at hv;obtain⟨b1,b2⟩:=argBest_gt (numAt ys) (ys.size - 1);refine⟨.int M,H,I.kept hk,⟨t,?_⟩,q⟩;obtain⟨l1,l2⟩:=at_ (argBest (λi j=>decide (numAt ys i > numAt ys j)) (ys.size - 1)) (by lia);have g1:numAt ys (argBest (λi j=>decide (numAt ys i > numAt ys j)) (ys.size - 1))<=M:=by rw[l2];exact m2 _ (Xz _)
 obtain⟨k,uS,uT⟩:=aaP m1;obtain⟨_,l4⟩:=at_ k (by lia);have g2:=b2 k (by lia);rw[l4,uT] at g2;rw[Int.le_antisymm g1 g2]
noncomputable def Qg(hi:Int)(n:Nat):It:=⟨λi _=>i < n,λi H x H'=>H'=H/\x=.int (hi - i),λi _=>n<=i⟩
theorem D4{P:Xy}{w:World}{K:WO}{tg:Expr}(it:Addr)(hi:Int)(n:Nat):Turn P w K tg (Qg hi n) [it] it (λi h=>abK h it (hi+(i:Nat)*(-1)) ((n:Int) - (i:Nat)) (-1)) where
 mem:=by simp
 obj:=λi h st b hb=>by
  have e:b=it:=by simpa using hb
  subst e;exact⟨_,st,λv z=>by have z':Data.fields _=Data.cell v:=z;cases z'⟩
 keep:=λi h h' st k=>k it (by simp) _ st
 item:=by intro X hP hw hK hc i η s σ H E I hf st hg;subst hP hw hK;obtain⟨f0,f1,f2,f3,f4,f5⟩:=hf it (by simp);have W:=Walks.range (prog:=X.prog) (w:=X.w) (I.ok.hd hc) it hi (-1) n;refine W.item i s _ _ hg st λv h' tk hv aJ kk=>?_;obtain⟨t,rfl⟩:=hv;have I1:Inv X η σ H {s with heap:=h',toks:=tk}:=I.turned (λb o hb e=>kk b o (by simpa using hb) e) f0 f1 f3 f4 f5;refine⟨_,rfl,Cg (s:={s with heap:=h',toks:=tk}) (n:="range_iterator") aJ rfl rfl (by decide) ⟨.int (hi - i),H,I1,⟨t,?_⟩,⟨rfl,rfl⟩,aJ,λb hb=>(hf b hb).1⟩⟩;rw[Int.mul_neg,Int.mul_one];rfl
 done:=by intro X hP hw hK hc i η s σ H E I hf st hg;subst hP hw hK;obtain⟨f0,f1,f2,f3,f4,f5⟩:=hf it (by simp);exact wpAny_pyNext_range_end (I.ok.hd hc) st (by have:n<=i:=hg;lia) λh' eb=>⟨rfl,I.turned (t':=s.toks) (λb o hb e=>eb b o hb e) f0 f1 f3 f4 f5⟩
 self:=λ_ _ _ _ _ st h=>wpAny_pyIter_rangeiter st h
theorem rangeSize_down a b:Zw a b (-1)=if b < a then a - b else 0:=by unfold Zw;rw[if_neg (by decide),show(-(-1):Int)=1 from rfl,Int.ediv_one];split<;>lia
theorem small_down(ha: -(2 ^ 62)<=a)(Qh:a < 2 ^ 62)(hb: -(2 ^ 62)<=b)(iD:b < 2 ^ 62):Z6.Range.small a b (-1)=Λ:=by unfold Z6.Range.small;rw[rangeSize_down];simp only[Z6.Range.rangeFitsLong,WC,YS,qqq,beq_iff_eq,show ¬(-1:Int) > 0 by decide,if_false];split<;>omega
theorem BG{hi lo:Int}(I:Inv X η σ H s)(h1: -(2 ^ 62)<=hi)(h2:hi < 2 ^ 62)(h3: -(2 ^ 62)<=lo)(h4:lo < 2 ^ 62)(q:R (Qg hi (hi - lo).toNat) H):wpAny (model X.prog X.w) X.A (aco (.ref s.heap.objs.size)) (TF X η σ tg R) E {s with heap:=s.heap.push {cls:=.type "range",data:=.fields #[.int hi t,.int lo u,.int (-1) v]},toks:=tk}:=by
 refine wpAny_pyIter_range (IsRange.new ..) (small_down h1 h2 h3 h4) ?_;have I1:Inv X η σ H {s with heap:=s.heap.push {cls:=.type "range",data:=.fields #[.int hi t,.int lo u,.int (-1) v]},toks:=tk}:=I.kept λb o e=>WA _ e;refine⟨(s.heap.push {cls:=.type "range",data:=.fields #[.int hi t,.int lo u,.int (-1) v]}).objs.size,[(s.heap.push {cls:=.type "range",data:=.fields #[.int hi t,.int lo u,.int (-1) v]}).objs.size],_,_,H,rfl,
  I1.kept (t':=tk) λb o e=>WA _ e,D4 _ hi (hi - lo).toNat,?_,λb hb=>?_,q⟩
 ·have e1:hi+((0:Nat):Int)*(-1)=hi:=by simp
  have e2:(((hi - lo).toNat:Nat):Int) - ((0:Nat):Int)=Zw hi lo (-1):=by rw[rangeSize_down];split<;>omega
  show abK _ _ (hi+((0:Nat):Int)*(-1)) ((((hi - lo).toNat:Nat):Int) - ((0:Nat):Int)) (-1);rw[e1,e2];exact WR _ rfl
 ·have e:b=(s.heap.push {cls:=.type "range",data:=.fields #[.int hi t,.int lo u,.int (-1) v]}).objs.size:=by simpa using hb
  subst e;exact I1.u6 (WM _) (I1.aK.fresh (WM _))
def Qi(ta:TA):TI:=λσ H R=>ta σ H λvs H1=>∃i j:Int,vs=[.int i,.int j,.int (-1)]/\(-(2 ^ 62)<=i/\i < 2 ^ 62/\ -(2 ^ 62)<=j/\j < 2 ^ 62)/\R (Qg i (i - j).toNat) H1
theorem D5(hg:Gl X "range")(hm:X.mg "range"=Θ)(ha:PA X [a,b,c] ta)(hs:Xf [a,b,c] X.env=[(Ξ,eval a X.env),(Ξ,eval b X.env),(Ξ,eval c X.env)])(sr:Xf [b,c] X.env=[(Ξ,eval b X.env),(Ξ,eval c X.env)]):
  PI X tg (.Call (.Name "range" p) [a,b,c] [] pos) (Qi ta):=by
 intro η s σ H R I h;refine Call_ (ja I hg hm abW (Xx (bQ (ha pos η s σ H _ I h) λus s1 ⟨vs,H1,I1,r1,q1⟩=>?_) (by rw[hs,sr]) (by rw[sr];rfl)));obtain⟨i,j,e,⟨q1,q2,q3,q4⟩,q⟩:=q1;subst e;cases r1 with|cons r rr=>cases rr with|cons r' rr=>cases rr with|cons r'' rr=>cases rr;obtain⟨t,rfl⟩:=r;obtain⟨t',rfl⟩:=r';obtain⟨t'',rfl⟩:=r'';exact call_range_3 (by decide) (BG I1 q1 q2 q3 q4 q) (.inl (PyProof.noPylong_small (by decide)))
theorem wH:∀(f n r),r<=1->1<=n->minRun' f n r<=n+r
 |0,n,r,_,_=>WM _|f+1,n,r,hr,hn=>by
  rw[minRun'_succ];split;·exact WM _
  ·have:=wH f (n / 2) (max r (n % 2)) (by lia) (by lia)
   lia
section
variable{prog:Xy}{w:World}{A:Yc}{E:Value->WU->Prop}{s:WU}{κ:SortKind}
theorem Gk(hc:∀i,i+1 < n->∀C:Bool->WU->Prop,C Ξ s->kas_cmp prog w A κ it (i+1) i C s)(hG:G n s):∀(f k),k+f=n->1<=k->
  (kas_asc (XD (WB n)) f k).kasWp (kas_cmp prog w A κ it) G s
 |0,k,e,_=>by rw[ab3] at e;subst e;exact hG|f+1,k,e,h1=>by
  have g:∀i,i < n->(XD (WB n)).getD i 0=i:=λi hi=>by simp[Array.getD,hi]
  have e1:=g k (by lia);have e2:=g (k - 1) (by lia);show kas_cmp prog w A κ it ((XD (WB n)).getD k 0) ((XD (WB n)).getD (k - 1) 0) (λc s'=>(if c=Λ then KasT.ret k else kas_asc (XD (WB n)) f (k+1)).kasWp (kas_cmp prog w A κ it) G s') s;rw[e1,e2];have h:=hc (k - 1) (by lia) (λc s'=>(if c=Λ then KasT.ret k else kas_asc (XD (WB n)) f (k+1)).kasWp (kas_cmp prog w A κ it) G s');rw[show k - 1+1=k by lia] at h;refine h ?_;rw[if_neg (by simp)];exact Gk hc hG f (k+1) (by lia) (by lia)
theorem Gm{Q:Unit->SortSt->WU->Prop}(h2:2<=n)(hc:∀i,i+1 < n->∀C:Bool->WU->Prop,C Ξ s->kas_cmp prog w A κ it (i+1) i C s)(hQ:∀aJ,arrOf aJ=(XD (WB n)).map (kas_item it)->failedOf aJ=Θ->Q () aJ s):
  kasC (model prog w) A E sortRuns' Q (kas_st κ it (XD (WB n))) s:=by
 obtain⟨r,rfl⟩:∃r,n=r+2:=⟨n - 2,by lia⟩;have hrs:(XD (WB (r+2))).size=r+2:=by simp
 have h:(kas_count (r+2) (XD (WB (r+2)))).kasWp (kas_cmp prog w A κ it) (λq s'=>q=(r+2,XD (WB (r+2)))/\s'=s) s:=by unfold kas_count;rw[KasT.kasWp_bind];refine Gk hc ?_ (r+2 - 1) 1 (by lia) (WM _);show KasT.kasWp _ (if((r+2)==(r+2))=Λ then _ else _) _ s;rw[if_pos (by simp)];exact⟨rfl,rfl⟩
 rw[sortRuns'_eq];refine kasC_bind (kasC_get ?_);dsimp only;have hsz:(arrOf (kas_st κ it (XD (WB (r+2))))).size=r+2:=by show((XD (WB (r+2))).map (kas_item it)).size=_;rw[Array.size_map,hrs]
 have hmr:¬r+2 < minRun' (r+2) (r+2) 0:=by have:=wH (r+2) (r+2) 0 (by lia) (by lia);lia
 simp only[hsz];generalize minRun' (r+2) (r+2) 0=mr at hmr ⊢;refine kasC_bind (kasC_range ?_);show kasC _ _ _ (forIn (0::1::abH 2 r) _ _) _ _ _;refine kasC_cons ?_;dsimp only;rw[if_neg (by lia)];simp only[Nat.sub_zero,Xh];refine kasC_bind (kas_count_ (by lia) (by rw[hrs];exact WM _) (λm p' s' hm1 HB hp hg=>?_) h);obtain⟨hg,rfl⟩:=hg;cases hg;dsimp only;rw[if_neg hmr];refine kasC_bind (kasC_get ?_);rw[show(pendingOf (kas_st κ it (XD (WB (r+2))))).back?=Θ from rfl];dsimp only;refine kasC_bind (kasC_modify (kasC_pure ?_));show kasC _ _ _ (forIn (1::abH 2 r) _ _) _ _ _;refine kasC_cons ?_;dsimp only;rw[if_pos (WM _)];refine kasC_pure ?_;dsimp only;refine kasC_bind (kasC_range ?_);show kasC _ _ _ (forIn (0::1::abH 2 r) _ _) _ _ _;refine kasC_cons ?_;refine kasC_bind (kasC_get ?_);rw[if_pos (show(pendingOf (setPending (kas_st κ it (XD (WB (r+2)))) ((pendingOf (kas_st κ it (XD (WB (r+2))))).push (0,r+2,0)))).size<=1 from WM 1)];refine kasC_pure ?_;dsimp only;exact kasC_pure (hQ _ rfl rfl)
theorem Gn(ho:s.heap.get? a=Δ (YF "list" vs.toArray n))(hz:vs.length<=100000)(hk:2<=vs.length->∀h':Heap,(∀b o,b≠a->s.heap.get? b=Δ o->h'.get? b=Δ o)->∀(Q:SortKind->WU->Prop),Q κ {s with heap:=h'}->wpAny (model prog w) A (keyKind' vs.toArray) Q E {s with heap:=h'})(hc:∀h':Heap,(∀b o,b≠a->s.heap.get? b=Δ o->h'.get? b=Δ o)->∀i,i+1 < vs.length->∀C:Bool->WU->Prop,C Ξ {s with heap:=h'}->kas_ask prog w A κ vs (i+1) i C {s with heap:=h'})(h:P (.done (.ret .none)) {s with heap:=sortedHeap s.heap a vs vs.toArray}):
  wpAny (model prog w) A (Z6.«list.sort» ⟨[.ref a],[]⟩) P E s:=by
 rw[list_sort_plain];have g6:vs.length<=W8:=by rw[XF];lia
 have ha:a < s.heap.objs.size:=WV ho;refine WD (listItems_at ho rfl ?_);refine WD (listUpdate_at ho rfl ?_ (by rw[WX,XF];lia) (XZ _));obtain⟨e1,ho1⟩:∃e1,(s.heap.update a (XB λ_=>#[])).get? a=Δ (YF "list" #[] e1):=⟨_,abv ho (λ_=>#[])⟩;refine WD (seqEpoch_at ho1 rfl ?_);refine WD (abB ?_ (by show vs.length<=_;exact g6));refine WD (wpAny_newList ?_ (XZ _));refine Zm ?_;have ho6:(((s.heap.update a (XB λ_=>#[])).push (YF "tuple" vs.toArray 0)).push (YF "list" #[] 0)).get? a=Δ (YF "list" #[] e1):=by rw[aat _ _ _ (by rw[size_push',YI];exact W9 (Zh ha)),aat _ _ _ (by rw[YI];exact W9 ha)];exact ho1
 show wpAny (model prog w) A _ P E {s with heap:=((s.heap.update a (XB λ_=>#[])).push (YF "tuple" vs.toArray 0)).push (YF "list" #[] 0)};dsimp only;have hsz:vs.toArray.size=vs.length:=by simp
 have keep:∀b o,b≠a->s.heap.get? b=Δ o->(((s.heap.update a (XB λ_=>#[])).push (YF "tuple" vs.toArray 0)).push (YF "list" #[] 0)).get? b=Δ o:=λb o hb q=>WA _ (WA _ ((Zq _ _ _ _ hb).trans q));have fin:∀aJ:SortSt,arrOf aJ=pairsOf vs->failedOf aJ=Θ->wpAny (model prog w) A (do
   let touched:=(<-seqEpoch a)!=e1
   Z6.List.listUpdate (.ref a) λ_=>(arrOf aJ).map (·.2)
   if let Δ e:=failedOf aJ then rule "list.sort.comparison-raised";throw e
   if touched then rule "list.sort.modified";raiseError "ValueError" "list modified during sort"
   ret .none) P E {s with heap:=((s.heap.update a (XB λ_=>#[])).push (YF "tuple" vs.toArray 0)).push (YF "list" #[] 0)}:=λaJ h1 h2=>by
  have e4:(pairsOf vs).map (·.2)=vs.toArray:=by apply Array.toList_inj.mp;unfold pairsOf;simp[List.map_snd_zip]
  rw[h1,e4,h2];refine WD (seqEpoch_at ho6 rfl ?_);refine WD (listUpdate_at ho6 rfl ?_ (XZ _) (by rw[hsz,XF];lia));simp only[bne_self_eq_false,Yb,if_false];exact W0 h
 by_cases h2:vs.toArray.size < 2;·rw[if_pos h2,if_pos h2];refine WD (W0 ?_);rw[StateT.run_pure];refine WD (W0 ?_);exact fin (abX general' (vs.toArray.zip vs.toArray) #[] 7 Θ) rfl rfl
 ·rw[if_neg h2,if_neg h2];have oY:2<=vs.length:=by lia
  refine WD (hk oY _ keep _ ?_);have est:abX κ (vs.toArray.zip vs.toArray) #[] 7 Θ=kas_st κ (vs.toArray.zip vs.toArray) (XD (WB vs.length)):=by have e:=kas_range (vs.toArray.zip vs.toArray);rw[show(vs.toArray.zip vs.toArray).size=vs.length by simp] at e;show abX κ (vs.toArray.zip vs.toArray) #[] 7 Θ=abX κ ((XD (WB vs.length)).map (kas_item (vs.toArray.zip vs.toArray))) #[] 7 Θ;rw[e]
  rw[est];have run:=Gm (E:=E) (s:={s with heap:=((s.heap.update a (XB λ_=>#[])).push (YF "tuple" vs.toArray 0)).push (YF "list" #[] 0)}) (it:=vs.toArray.zip vs.toArray) (κ:=κ) (prog:=prog) (w:=w) (A:=A)
   (Q:=λ_ aJ s'=>arrOf aJ=pairsOf vs/\failedOf aJ=Θ/\s'={s with heap:=((s.heap.update a (XB λ_=>#[])).push (YF "tuple" vs.toArray 0)).push (YF "list" #[] 0)}) oY (λi hi C q=>by have:=hc _ keep i hi C q;rw[kat_ask_eq rfl] at this;exact this) λaJ h3 h4=>by
   refine⟨?_,h4,rfl⟩;rw[h3];have e:=kas_range (vs.toArray.zip vs.toArray);rw[show(vs.toArray.zip vs.toArray).size=vs.length by simp] at e;exact e
  refine WD (Yh run ?_ λ_ _ e=>e);rintro⟨⟨⟩,aJ⟩ s' ⟨h3,h4,rfl⟩;exact fin aJ h3 h4
theorem BH(hl:s.heap.IsList l vs.toArray)(hz:vs.length<=100000)(hk:2<=vs.length->∀h':Heap,(∀b o,s.heap.get? b=Δ o->h'.get? b=Δ o)->∀(Q:SortKind->WU->Prop) (E:Value->WU->Prop),Q κ {s with heap:=h'}->wpAny (model prog w) A.in1.in1 (keyKind' vs.toArray) Q E {s with heap:=h'})(hc:∀h':Heap,(∀b o,s.heap.get? b=Δ o->h'.get? b=Δ o)->∀i,i+1 < vs.length->∀C:Bool->WU->Prop,C Ξ {s with heap:=h'}->kas_ask prog w A.in1.in1 κ vs (i+1) i C {s with heap:=h'})(h:Q (.ref (s.heap.objs.size+1)) {s with heap:=abL s.heap vs vs.toArray}):
  wpAny (model prog w) A (call (.builtin "sorted") [.ref l]) Q E s:=by
 have g6:vs.length<=W8:=by rw[XF];lia
 refine Calls.call_function_entry kind_sorted plain_sorted entry_sorted (args_sorted1 _) ?_;unfold Z6.«sorted»;refine WD (m:=checkCount "sorted" 1 1 _) (W0 ?_);refine WD (collect_list hl ?_ g6);refine WD (wpAny_newList ?_ g6);have hsz:((s.heap.push (YF "list" #[] 0)).update s.heap.objs.size (XB (·++vs.toArray))).objs.size=s.heap.objs.size+1:=by rw[YI,size_push']
 have R4:(((s.heap.push (YF "list" #[] 0)).update s.heap.objs.size (XB (·++vs.toArray))).push (YF "list" vs.toArray 0)).get? (s.heap.objs.size+1)=Δ (YF "list" vs.toArray 0):=by rw[<-hsz];exact WR _ rfl
 have keep:∀b o,s.heap.get? b=Δ o->b≠s.heap.objs.size+1/\(((s.heap.push (YF "list" #[] 0)).update s.heap.objs.size (XB (·++vs.toArray))).push (YF "list" vs.toArray 0)).get? b=Δ o:=λb o q=>by have eB:b < s.heap.objs.size:=WV q;refine⟨W9 (Zh eB),?_⟩;rw[aat _ _ _ (by rw[hsz];exact W9 (Zh eB)),Zq _ _ _ _ (W9 eB),aat _ _ _ (W9 eB)];exact q
 show wpAny _ _ _ _ _ {s with heap:=((s.heap.push (YF "list" #[] 0)).update s.heap.objs.size (XB (·++vs.toArray))).push (YF "list" vs.toArray 0)};rw[hsz];refine WD (Zm (Yp slot_list_sort ⟨_,R4,rfl⟩ entry_list_sort (Gn (κ:=κ) R4 hz (λh2 h' kp Q q=>?_) (λh' kp i hi C q=>?_) ⟨_,rfl,?_⟩) (args_list_sort _)));·exact hk h2 h' (λb o e=>kp b o (keep b o e).1 (keep b o e).2) Q _ q
 ·exact hc h' (λb o e=>kp b o (keep b o e).1 (keep b o e).2) i hi C q
 ·exact W0 ⟨_,rfl,h⟩
def vp(h:Heap):List Value->List (List Int)->Prop
 |[],ts=>ts=[]|u::us,ts=>∃a o xs n t r,u=.ref a/\h.get? a=Δ o/\o.cls=.type "tuple"/\o.data=.seq xs n/\aO (t.map V.int) xs.toList/\ts=t::r/\vp h us r
theorem vp.keep(k:∀b o,h.get? b=Δ o->h'.get? b=Δ o):∀{us} {ts},vp h us ts->vp h' us ts
 |[],_,x=>x|_::_,_,x=>by obtain⟨a,o,xs,n,t,r,e,e1,e2,e3,e4,e5,e6⟩:=x;exact⟨a,o,xs,n,t,r,e,k _ _ e1,e2,e3,e4,e5,e6.keep k⟩
theorem vp.len:∀{us} {ts},vp h us ts->ts.length=us.length
 |[],_,x=>by cases x;rfl|_::_,_,x=>by obtain⟨_,_,_,_,_,_,_,_,_,_,_,rfl,e6⟩:=x;rw[WZ,WZ,e6.len]
theorem vp.at:∀{us} {ts} {i} {t},vp h us ts->ts[i]?=Δ t->∃a o xs n,us.getD i .none=.ref a/\h.get? a=Δ o/\o.cls=.type "tuple"/\o.data=.seq xs n/\aO (t.map V.int) xs.toList
 |[],_,_,_,x,e=>by cases x;cases e|_::_,_,0,_,x,e=>by obtain⟨a,o,xs,n,t,r,rfl,e1,e2,e3,e4,rfl,e6⟩:=x;cases e;exact⟨a,o,xs,n,rfl,e1,e2,e3,e4⟩
 |_::us,_,i+1,_,x,e=>by obtain⟨_,_,_,_,_,_,_,_,_,_,_,rfl,e6⟩:=x;exact e6.at (i:=i) e
theorem Gp(q:Q Ξ s):∀{ns ms} {xs ys} (i) {fin},aO (ns.map V.int) xs->aO (ms.map V.int) ys->Y.sR ns ms=Ξ->fin=decide (xs.length < ys.length)->KatLex prog w A b fin Q (xs.zip ys) i s
 |[],[],_,_,i,fin,h1,h2,_,e=>by cases h1;cases h2;rw[e];exact kat_nil q|[],_::_,_,_,_,_,_,_,h,_=>by cases h|_::_,[],_,_,i,fin,h1,h2,_,e=>by cases h2;rw[List.zip_nil_right,e];exact kat_nil (by simpa using q)
 |n::ns,m::ms,_,_,i,fin,h1,h2,h,e=>by
  cases h1 with
  |cons r1 h1=>
   cases h2 with
   |cons r2 h2=>
    obtain⟨t,rfl⟩:=r1;obtain⟨u,rfl⟩:=r2;rw[Zz];rw[Y.sR] at h;refine kat_cons (wpAny_eqBool_int ?_);by_cases z:n=m;·rw[if_pos z] at h;rw[show(n==m)=Λ by simp[z]];exact kat_yes (Gp q (i+1) h1 h2 h (by simpa using e))
    ·rw[if_neg z] at h;rw[show(n==m)=Ξ by simp[z]];refine kat_no ?_;cases hb:(b&&i==0) with|true=>exact oneLt_int (by rw[h];exact q)|false=>exact kat_one _ _ (wpAny_lt_int (by rw[h];exact q))
theorem xN:∀{ts} {i} {t u},Y.sT ts=Λ->ts[i]?=Δ t->ts[i+1]?=Δ u->Y.sR u t=Ξ/\t≠[]/\u≠[]
 |a::b::r,0,_,_,h,e1,e2=>by cases e1;cases e2;have h':((!Y.sR b a&&!a.isEmpty&&!b.isEmpty)&&Y.sT (b::r))=Λ:=h;simp only[WC,Xe,List.isEmpty_eq_false_iff] at h';exact⟨h'.1.1.1,h'.1.1.2,h'.1.2⟩|a::r,i+1,_,_,h,e1,e2=>by have h':(_&&Y.sT r)=Λ:=h;rw[WC] at h';exact xN (ts:=r) h'.2 e1 e2|[_],0,_,_,_,_,e2=>by cases e2|[],_,_,_,_,e1,_=>by cases e1
end
end
section
variable{X:Cx}
noncomputable def tQ(H:Hp):List V->List (List Int)->Prop
 |[],ts=>ts=[]|v::vs,ts=>∃a t r,v=.ref a/\H a=Δ (.tup (t.map V.int))/\ts=t::r/\tQ H vs r
theorem tQ.heap(I:Inv X η σ H s):∀{vs} {its} {ts},aO vs its->tQ H vs ts->vp s.heap its ts
 |[],_,_,r,h=>by cases r;exact h|_::_,_,_,r,h=>by obtain⟨a,t,r',rfl,ha,rfl,hr⟩:=h;cases r with|cons r1 r2=>cases r1;obtain⟨xs,rv,⟨o,e1,e2,n,e3⟩,_⟩:=I.tuple (fK.of ha);exact⟨a,o,_,n,t,r',rfl,e1,e2,e3,rv,rfl,tQ.heap I r2 hr⟩
theorem wI:∀{us} {ts},vp h us ts->(∀t∈ts,t≠[])->∃fs,PySem.W.KatTups h us fs/\fs.length=us.length/\∀v∈fs,∃i t,v=ZD i t
 |[],_,_,_=>⟨[],.nil,rfl,λ_ z=>by cases z⟩|_::us,_,x,hn=>by
  obtain⟨a,o,xs,n,t,r,rfl,e1,e2,e3,e4,rfl,e6⟩:=x;obtain⟨fs,k1,k2,k3⟩:=wI e6 λt ht=>hn t (WE _ ht);cases t with
  |nil=>exact absurd rfl (hn [] WG)|cons i t=>
   obtain⟨xl⟩:=xs;cases e4 with
   |cons r1 r2=>
    obtain⟨tk,rfl⟩:=r1;refine⟨ZD i tk::fs,.cons e1 e2 e3 rfl k1,by rw[WZ,k2];rfl,λv hv=>?_⟩;rcases Z3.mp hv with rfl|hv;·exact⟨_,_,rfl⟩
    ·exact k3 v hv
theorem BI:fL X (.builtin "sorted") (λxs H Q=>∃(p:Addr) (vs:List V) (ts:List (List Int)),xs=[.ref p]/\ke X.K H p vs/\tQ H vs ts/\Y.sT ts=Λ/\vs.length<=100000/\∀l,H l=Θ->Q (.ref l) (upd H l (.lst vs))):=by
 intro η s σ H xs us Q I r h;obtain⟨p,vs,ts,rfl,hq,ht,ha,hz,q⟩:=h;obtain⟨u,rfl,rx⟩:=vals1 r;cases rx;obtain⟨its,rv,pl,hl⟩:=I.list hq;have hlen:=rv.length;have T:=tQ.heap I rv ht;have fc:∀i t,2<=its.length->ts[i]?=Δ t->t≠[]:=λi t h2 e=>by have hi:=(qqz e).1;have vh:=T.len;cases i with|zero=>obtain⟨u,hu⟩:∃u,ts[1]?=Δ u:=⟨ts[1]'(by lia),WI _⟩;exact(xN ha e hu).2.1|succ i=>obtain⟨u,hu⟩:∃u,ts[i]?=Δ u:=⟨ts[i]'(by lia),WI _⟩;exact(xN ha hu e).2.2
 refine BH (κ:=tuples' (Y5 "int" !=Y5 "tuple")) pl.isList (by lia) (λh2 h' kp Q' E' q'=>?_) (λh' kp i hi C q'=>?_) ?_
 ·obtain⟨fs,k1,k2,k3⟩:=wI (T.keep kp) λt uW=>by obtain⟨i,hi,e⟩:=aaP uW;exact fc i t h2 (by rw[WI hi,e])
  refine kat_kind (s:={s with heap:=h'}) k1 (by lia) (λv hv=>?_) (by decide) q';obtain⟨i,t,rfl⟩:=k3 v hv;exact Looks.of_pure rfl
 ·have vh:=T.len;obtain⟨t1,e1⟩:∃u,ts[i]?=Δ u:=⟨ts[i]'(by lia),WI _⟩;obtain⟨t2,e2⟩:∃u,ts[i+1]?=Δ u:=⟨ts[i+1]'(by lia),WI _⟩;obtain⟨a1,o1,x1,n1,f1,g1,c1,d1,w1⟩:=(T.keep kp).at e1;obtain⟨a2,o2,x2,n2,f2,g2,c2,d2,w2⟩:=(T.keep kp).at e2;unfold kas_ask;rw[f1,f2];exact kat_lt (s:={s with heap:=h'}) g2 d2 g1 d1 (Gp q' 0 w2 w1 (xN ha e1 e2).1 (by simp))
 ·have kp:∀b o,s.heap.get? b=Δ o->(abL s.heap its its.toArray).get? b=Δ o:=λb o e=>by have eB:b < s.heap.objs.size:=WV e;unfold abL sortedHeap;rw[Zq _ _ _ _ (W9 (Zh eB))];refine WA _ (WA _ ?_);rw[Zq _ _ _ _ (W9 (Zh eB))];refine WA _ ?_;rw[Zq _ _ _ _ (W9 eB)];exact WA _ e
  obtain⟨c',e'⟩:∃c',(abL s.heap its its.toArray).get? (s.heap.objs.size+1)=Δ (YF "list" its.toArray c'):=by
   unfold abL sortedHeap;have hsz:((s.heap.push (YF "list" #[] 0)).update s.heap.objs.size (XB (·++its.toArray))).objs.size=s.heap.objs.size+1:=by rw[YI,size_push']
   have o1:(((s.heap.push (YF "list" #[] 0)).update s.heap.objs.size (XB (·++its.toArray))).push (YF "list" its.toArray 0)).get? (s.heap.objs.size+1)=Δ (YF "list" its.toArray 0):=by rw[<-hsz];exact WR _ rfl
   exact⟨_,abv (WA _ (WA _ (abv o1 λ_=>#[]))) λ_=>its.toArray⟩
  exact⟨.ref (s.heap.objs.size+1),_,I.laid (t':=s.toks) kp (YN _) (show bG X.prog X.w _ _ _ (.lst vs) from⟨hl,its,c',rv,e'⟩),rfl,q _ (I.aK.fresh (YN _))⟩
end
end L2
namespace Y
open PySem L2
structure KB where
 K:WO
 B:Heap
 tabs:List (Addr×List (Pos×Str))
 qy:Nat->Addr->Addr->List V->Prop
 HC:Nat->Addr->Addr->Value->Heap->Prop
 zp:Nat->Str
structure KT where
 tabs:List (Addr×List (Pos×Str)):=[]
 qy:Nat->Addr->Addr->List V->Prop:=λ_ _ _ _=>False
 HC:Nat->Addr->Addr->Value->Heap->Prop:=λ_ _ _ _ _=>False
 zp:Nat->Str:=λ_=>""
abbrev af(X:Cx)(t:KT):KB:=⟨X.K,X.base,t.tabs,t.qy,t.HC,t.zp⟩
mutual
def aI(K:KB)(H:Hp)(m Z:List Addr):D->V->Prop
 |.bz,v=>v=.bz|.bl b,v=>v=.bl b|.int i,v=>v=.int i|.str x,v=>v=.str x|.tup xs,v=>∃a us,v=.ref a/\H a=Δ (.tup us)/\ak K H m Z xs us|.pl xs,v=>∃a us,v=.ref a/\Rd H a (.lst us)/\a∉m/\a∉Z/\ak K H m Z xs us
def ak(K:KB)(H:Hp)(m Z:List Addr):List D->List V->Prop
 |[],us=>us=[]|x::xs,us=>∃v vs,us=v::vs/\aI K H m Z x v/\ak K H m Z xs vs
end
noncomputable def Mp(K:WO)(H:Hp)(a:Addr)(us:List V):Prop:=(∃o,H a=Δ (.dt o (.lst us)))\/
 ∃(o:Obj) (its:Array Value) (n:Nat),K.lookup a=Δ o/\o.cls=.type "list"/\o.dict=Θ/\o.data=.seq its n/\its.size<=W8/\aO us its.toList
theorem Mp.sq(h:Mp K H a us):ke K H a us:=by
 rcases h with h|h;·exact .inl (.inr h)
 ·exact .inr h
mutual
def ai(K:KB)(H:Hp)(m Z:List Addr):P->V->Prop
 |.d x,v=>aI K H m Z x v|.obj n,v=>∃a,m[n]?=Δ a/\v=.ref a|.gW ns,v=>∃a,v=.ref a/\Mp K.K H a (ns.map V.int)|.fn k br,v=>∃a c bT,v=.ref a/\K.qy k a c bT/\H c=Δ (.ext (dv c (K.zp k)))/\ah K H m Z br bT|.lf k,v=>∃a c ct,v=.ref a/\H a=Δ (.ext (K.HC k a c ct))/\H c=Δ (.ext (dv c (K.zp k)))
def ah(K:KB)(H:Hp)(m Z:List Addr):List P->List V->Prop
 |[],us=>us=[]|x::xs,us=>∃v vs,us=v::vs/\ai K H m Z x v/\ah K H m Z xs vs
end
def aN{κ:Type}(K:KB)(H:Hp)(m Z:List Addr):List (κ×P)->List (κ×V)->Prop
 |[],us=>us=[]|x::xs,us=>∃v vs,us=(x.1,v)::vs/\ai K H m Z x.2 v/\aN K H m Z xs vs
def qV(K:KB)(H:Hp)(m Z:List Addr)(a:Addr):O->Prop
 |.lst ps=>∃us,H a=Δ (.lst us)/\ah K H m Z ps us|.dK kvs=>∃us,H a=Δ (.dK us)/\aN K H m Z kvs us|.dT kvs=>∃us,H a=Δ (.dT us)/\aN K H m Z kvs us|.ins c fs=>∃C dx us,W3 K.K WY c=Δ (Δ (.ref C))/\H a=Δ (.ins C dx us)/\H dx=Δ (.own a)/\aN K H m Z fs us|.vm=>∃o us,H a=Δ (.dt o (.dK us))
theorem ah.mono(f:∀p v,ai K H m Z p v->ai K H' m' Z' p v):∀{xs} {us},ah K H m Z xs us->ah K H' m' Z' xs us
 |[],_,h=>h|x::xs,us,h=>by rw[ah] at h ⊢;obtain⟨v,vs,e,r,rs⟩:=h;exact⟨v,vs,e,f _ _ r,ah.mono f rs⟩
theorem aN.mono{κ:Type}{H H':Hp}{m m' Z Z':List Addr}(f:∀p v,ai K H m Z p v->ai K H' m' Z' p v):∀{xs:List (κ×P)} {us:List (κ×V)},aN K H m Z xs us->aN K H' m' Z' xs us
 |[],_,h=>h|x::xs,us,h=>by obtain⟨v,vs,e,r,rs⟩:=(show ∃v vs,us=(x.1,v)::vs/\ai K H m Z x.2 v/\aN K H m Z xs vs from h);exact⟨v,vs,e,f _ _ r,aN.mono f rs⟩
theorem qV.mono(he:∀b u,(b=a\/H b=Δ (.own a))->H b=Δ u->H' b=Δ u)(f:∀p v,ai K H m Z p v->ai K H' m' Z' p v)(h:qV K H m Z a o):qV K H' m' Z' a o:=by cases o with|lst ps=>obtain⟨us,e,r⟩:=h;exact⟨us,he _ _ (.inl rfl) e,r.mono f⟩|dK ps=>obtain⟨us,e,r⟩:=h;exact⟨us,he _ _ (.inl rfl) e,r.mono f⟩|dT ps=>obtain⟨us,e,r⟩:=h;exact⟨us,he _ _ (.inl rfl) e,r.mono f⟩|ins c fs=>obtain⟨C,dx,us,n,e,e2,r⟩:=h;exact⟨C,dx,us,n,he _ _ (.inl rfl) e,he _ _ (.inr e2) e2,r.mono f⟩|vm=>obtain⟨o,us,e⟩:=h;exact⟨o,us,he _ _ (.inl rfl) e⟩
theorem qV.qL(h:qV K H m Z a o):H a≠Θ/\(∀us,H a≠Δ (.tup us))/\(o≠.vm->∀o' u,H a≠Δ (.dt o' u))/\(∀φ,H a≠Δ (.ext φ))/\(∀ps,H a≠Δ (.fE ps))/\∀b,H a≠Δ (.own b):=by cases o with|lst ps=>obtain⟨us,e,r⟩:=h;rw[e];exact⟨(λz=>nomatch z),(λ_ z=>nomatch z),(λ_ _ _ z=>nomatch z),(λ_ z=>nomatch z),(λ_ z=>nomatch z),(λ_ z=>nomatch z)⟩|dK ps=>obtain⟨us,e,r⟩:=h;rw[e];exact⟨(λz=>nomatch z),(λ_ z=>nomatch z),(λ_ _ _ z=>nomatch z),(λ_ z=>nomatch z),(λ_ z=>nomatch z),(λ_ z=>nomatch z)⟩|dT ps=>obtain⟨us,e,r⟩:=h;rw[e];exact⟨(λz=>nomatch z),(λ_ z=>nomatch z),(λ_ _ _ z=>nomatch z),(λ_ z=>nomatch z),(λ_ z=>nomatch z),(λ_ z=>nomatch z)⟩|ins c fs=>obtain⟨C,dx,us,n,e,e2,r⟩:=h;rw[e];exact⟨(λz=>nomatch z),(λ_ z=>nomatch z),(λ_ _ _ z=>nomatch z),(λ_ z=>nomatch z),(λ_ z=>nomatch z),(λ_ z=>nomatch z)⟩|vm=>obtain⟨o,us,e⟩:=h;rw[e];exact⟨(λz=>nomatch z),(λ_ z=>nomatch z),(λz=>absurd rfl z),(λ_ z=>nomatch z),(λ_ z=>nomatch z),(λ_ z=>nomatch z)⟩
structure ax(K:KB)(H:Hp)(m Z:List Addr)(st:aL):Prop where
 len:m.length=st.length
 nd:m.Nodup
 at_:∀(n:Nat) (o:O),st[n]?=Δ o->∃a,m[n]?=Δ a/\qV K H m Z a o
 zt:∀a∈Z,gy H a≠Θ
 zm:∀a∈Z,a∉m
 tab:∀t∈K.tabs,∃ps,H t.1=Δ (.fE ps)/\fN H t.2 ps
structure cq(K:KB)(H:Hp)(m Z:List Addr)(r:cj)(σ:St):Prop where
 len:r.length=σ.length
 at_:∀(i:Nat) (p:P),r[i]?=Δ (Δ p)->∃v,σ[i]?=Δ (Δ v)/\ai K H m Z p v
structure Le(K:KB)(m:List Addr)(H:Hp)(m':List Addr)(H':Hp):Prop where
 pre:∃t,m'=m++t
 tup:∀a xs,H a=Δ (.tup xs)->H' a=Δ (.tup xs)
 keep:∀a u,H a=Δ u->a∉m->(∀ps,u≠.fE ps)->H' a=Δ u
 new:∀a∈m',a∈m\/H a=Θ
 qL:∀a,H a≠Θ->H' a≠Θ
 Cy:∀a,gy H a≠Θ->gy H' a≠Θ
 dt:∀a o u,H a=Δ (.dt o u)->H' a=Δ (.dt o u)
 ext:∀a φ,H a=Δ (.ext φ)->H' a=Δ (.ext φ)
 fE:∀a ps,H a=Δ (.fE ps)->∃more,H' a=Δ (.fE (ps++more))
section
variable{K:KB}{H H' H1 H2:Hp}{m m' m1 m2 Z:List Addr}{α β:Type}
theorem Gq(h:Rd H a u):H a≠Θ:=by rcases h with h|⟨o,h⟩<;>(rw[h];exact λz=>nomatch z)
theorem Le.refl:Le K m H m H:=⟨⟨[],by simp⟩,λ_ _ h=>h,λ_ _ h _ _=>h,λ_ h=>.inl h,λ_ h=>h,λ_ h=>h,λ_ _ _ h=>h,λ_ _ h=>h,λ_ ps h=>⟨#[],by rw[h];simp⟩⟩
theorem Le.trans(a:Le K m H m1 H1)(b:Le K m1 H1 m2 H2):Le K m H m2 H2 where
 pre:=by obtain⟨t,e⟩:=a.pre;obtain⟨u,e'⟩:=b.pre;exact⟨t++u,by rw[e',e,Xt]⟩
 tup:=λc xs h=>b.tup c xs (a.tup c xs h)
 keep:=λc u h hc hu=>b.keep c u (a.keep c u h hc hu) (λz=>by
  rcases a.new c z with q|q;·exact hc q
  ·rw[h] at q;cases q) hu
 new:=λc hc=>by
  rcases b.new c hc with q|q;·exact a.new c q
  ·cases e:H c with|none=>exact .inr rfl|some o=>exact absurd q (a.qL c (by rw[e];exact λz=>nomatch z))
 qL:=λc h=>b.qL c (a.qL c h)
 Cy:=λc h=>b.Cy c (a.Cy c h)
 dt:=λc o u h=>b.dt c o u (a.dt c o u h)
 ext:=λc φ h=>b.ext c φ (a.ext c φ h)
 fE:=λc ps h=>by obtain⟨m1,e1⟩:=a.fE c ps h;obtain⟨m2,e2⟩:=b.fE c _ e1;exact⟨m1++m2,by rw[e2,Array.append_assoc]⟩
theorem IW(e:kf H H')(h:H a≠Θ):H' a≠Θ:=by cases q:H a with|none=>exact absurd q h|some o=>rw[e _ _ q];exact λz=>nomatch z
theorem tR(e:kf H H')(h:gy H a≠Θ):gy H' a≠Θ:=by cases q:gy H a with|none=>exact absurd q h|some o=>obtain⟨h1,h2⟩:=kB q;have h3:=e _ _ h1;cases o with|ext φ=>have:∃q,φ=dv a q:=Xp λz=>h2 φ rfl λq' e'=>z ⟨q',e'⟩;obtain⟨q',rfl⟩:=this;rw[gg h3];exact λz=>nomatch z|_=>rw[bq h3 (λ_ z=>nomatch z)];exact λz=>nomatch z
theorem Le.same(e:kf H H'):Le K m H m H':=⟨⟨[],by simp⟩,λ_ _ h=>e _ _ h,λ_ _ h _ _=>e _ _ h,λ_ h=>.inl h,λ_ h=>IW e h,λ_ h=>tR e h,λ_ _ _ h=>e _ _ h,λ_ _ h=>e _ _ h,λ_ ps h=>⟨#[],by rw[e _ _ h];simp⟩⟩
theorem Le.rd(le:Le K m H m' H')(h:Rd H a (.lst us))(hm:a∉m):Rd H' a (.lst us):=by
 rcases h with h|⟨o,h⟩;·exact .inl (le.keep _ _ h hm (λ_ z=>nomatch z))
 ·exact .inr ⟨o,le.keep _ _ h hm (λ_ z=>nomatch z)⟩
mutual
theorem aI.le(le:Le K m H m' H'):∀{x:D} {v:V},aI K H m Z x v->aI K H' m' Z x v
 |.bz,_,h=>h|.bl _,_,h=>h|.int _,_,h=>h|.str _,_,h=>h|.tup xs,v,h=>by obtain⟨a,us,e,q,r⟩:=(show ∃a us,v=.ref a/\H a=Δ (.tup us)/\ak K H m Z xs us from h);exact⟨a,us,e,le.tup _ _ q,ak.le le r⟩
 |.pl xs,v,h=>by
  obtain⟨a,us,e,q,hm,hz,r⟩:=(show ∃a us,v=.ref a/\Rd H a (.lst us)/\a∉m/\a∉Z/\ak K H m Z xs us from h);refine⟨a,us,e,le.rd q hm,λz=>?_,hz,ak.le le r⟩;rcases le.new a z with y|y;·exact hm y
  ·exact Gq q y
theorem ak.le(le:Le K m H m' H'):∀{xs:List D} {us:List V},ak K H m Z xs us->ak K H' m' Z xs us
 |[],_,h=>h|x::xs,us,h=>by obtain⟨v,vs,e,r,rs⟩:=(show ∃v vs,us=v::vs/\aI K H m Z x v/\ak K H m Z xs vs from h);exact⟨v,vs,e,aI.le le r,ak.le le rs⟩
end
mutual
theorem ai.le(le:Le K m H m' H'):∀{x:P} {v:V},ai K H m Z x v->ai K H' m' Z x v
 |.d _,_,h=>by rw[ai] at h ⊢;exact aI.le le h|.obj n,v,h=>by rw[ai] at h ⊢;obtain⟨a,e,r⟩:=h;obtain⟨t,q⟩:=le.pre;refine⟨a,?_,r⟩;rw[q,WK (qqz e).1];exact e
 |.gW ns,v,h=>by
  rw[ai] at h ⊢;obtain⟨a,e,r⟩:=h;refine⟨a,e,?_⟩;rcases r with ⟨o,r⟩|r
  ·exact .inl ⟨o,le.dt _ _ _ r⟩
  ·exact .inr r
 |.fn k br,v,h=>by rw[ai] at h ⊢;obtain⟨a,c,bT,e,q,hc,r⟩:=h;exact⟨a,c,bT,e,q,le.ext _ _ hc,ah.le le r⟩|.lf k,v,h=>by rw[ai] at h ⊢;obtain⟨a,c,ct,e,q,r⟩:=h;exact⟨a,c,ct,e,le.ext _ _ q,le.ext _ _ r⟩
theorem ah.le(le:Le K m H m' H'):∀{xs:List P} {us:List V},ah K H m Z xs us->ah K H' m' Z xs us
 |[],_,h=>h|x::xs,us,h=>by obtain⟨v,vs,e,r,rs⟩:=(show ∃v vs,us=v::vs/\ai K H m Z x v/\ah K H m Z xs vs by rw[ah] at h;exact h);rw[ah];exact⟨v,vs,e,ai.le le r,ah.le le rs⟩
end
theorem cq.le(A:cq K H m Z r σ)(le:Le K m H m' H'):cq K H' m' Z r σ:=⟨A.len,λi p h=>by obtain⟨v,e,q⟩:=A.at_ i p h;exact⟨v,e,q.le le⟩⟩
theorem fN.same(e:∀a φ,H a=Δ (.ext φ)->H' a=Δ (.ext φ))(h:fN H bS ps):fN H' bS ps:=
 ⟨h.1,λp hp cv AS=>by obtain⟨c,e1,e2⟩:=h.2 p hp cv AS;exact⟨c,e1,e _ _ e2⟩⟩
theorem ax.same(A:ax K H m Z st)(e:kf H H'):ax K H' m Z st:=by
 refine⟨A.len,A.nd,λn o h=>?_,λa h=>tR e (A.zt a h),A.zm,λt ht=>?_⟩;·obtain⟨a,q,r⟩:=A.at_ n o h;exact⟨a,q,r.mono (λb u _ hu=>e _ _ hu) λp v z=>z.le (Le.same e)⟩
 ·obtain⟨ps,h1,h2⟩:=A.tab t ht;exact⟨ps,e _ _ h1,fN.same (λa φ z=>e _ _ z) h2⟩
noncomputable def Ok(K:KB)(Z:List Addr)(r:R α)(m:List Addr)(H:Hp)(Q:α->aL->List Addr->Hp->Prop):Prop:=match r with|.ok a aJ=>∀m' H',Le K m H m' H'->ax K H' m' Z aJ->Q a aJ m' H'|_=>False
theorem Ok.le(h:Ok K Z r m H Q)(le:Le K m H m' H'):Ok K Z r m' H' Q:=by cases r with|ok a aJ=>exact λm2 H2 l2 a2=>h m2 H2 (le.trans l2) a2|ex x aJ=>exact h|no=>exact h
theorem Ok.bind(h:Ok K Z (r.bind k) m H Q):Ok K Z r m H (λa aJ m' H'=>Ok K Z (k a aJ) m' H' Q):=by cases r with|ok a aJ=>exact λm' H' le _=>Ok.le (r:=k a aJ) h le|ex x aJ=>exact h|no=>exact h
theorem Ok.nR{r:R α}{Q:β->aL->List Addr->Hp->Prop}(hk:∀a st,k a st=.no)(h:Ok K Z (r.bind k) m H Q):False:=by cases r with|ok a aJ=>rw[ae,hk] at h;exact h|ex x aJ=>exact h|no=>exact h
theorem Ok.mono(h:Ok K Z r m H Q)(f:∀a aJ m' H',Le K m H m' H'->ax K H' m' Z aJ->Q a aJ m' H'->Q' a aJ m' H'):Ok K Z r m H Q':=by cases r with|ok a aJ=>exact λm' H' le as=>f a aJ m' H' le as (h m' H' le as)|ex x aJ=>exact h|no=>exact h
theorem Ok.wJ(h:Ok K Z r m H Q)(f:∀a aJ m' H',r=.ok a aJ->Le K m H m' H'->ax K H' m' Z aJ->Q a aJ m' H'->Q' a aJ m' H'):Ok K Z r m H Q':=by cases r with|ok a aJ=>exact λm' H' le as=>f a aJ m' H' rfl le as (h m' H' le as)|ex x aJ=>exact h|no=>exact h
theorem Ok.of(h:Ok K Z (R.of o st) m H Q)(as:ax K H m Z st):∃a,o=Δ a/\Q a st m H/\∀m' H',Le K m H m' H'->ax K H' m' Z st->Q a st m' H':=by cases o with|none=>exact(show False from h).elim|some a=>exact⟨a,rfl,h m H Le.refl as,h⟩
theorem Ok.here(h:Ok K Z (R.ok a st) m H Q)(as:ax K H m Z st):Q a st m H:=h m H Le.refl as
inductive tE (K:KB) (Z:List Addr) (d:cj->aL->R P) (σ:St) (H:Hp) (Q:VK):Prop
 |mk (m:List Addr) (r:cj) (st:aL) (a:cq K H m Z r σ) (b:ax K H m Z st) (c:Ok K Z (d r st) m H (λp _ m' H'=>∀v,ai K H' m' Z p v->Q v H')):tE K Z d σ H Q
inductive tT (K:KB) (Z:List Addr) (d:cj->aL->R Bool) (σ:St) (H:Hp) (Q:Bool->Hp->Prop):Prop
 |mk (m:List Addr) (r:cj) (st:aL) (a:cq K H m Z r σ) (b:ax K H m Z st) (c:Ok K Z (d r st) m H (λb _ _ H'=>Q b H')):tT K Z d σ H Q
inductive tA (K:KB) (Z:List Addr) (d:cj->aL->R (List P)) (σ:St) (H:Hp) (Q:List V->Hp->Prop):Prop
 |mk (m:List Addr) (r:cj) (st:aL) (a:cq K H m Z r σ) (b:ax K H m Z st) (c:Ok K Z (d r st) m H (λps _ m' H'=>∀vs,ah K H' m' Z ps vs->Q vs H')):tA K Z d σ H Q
def LQ(K:KB)(Z:List Addr)(r:R (List P))(m:List Addr)(H:Hp)(Q:VK):Prop:=match r with|.ok ps aJ=>∀m' H' a vs,Le K m H m' H'->H a=Θ->a∉m'->H' a=Δ (.lst vs)->ax K H' m' (a::Z) aJ->ah K H' m' (a::Z) ps vs->Q (.ref a) H'|_=>False
inductive tL (K:KB) (Z:List Addr) (d:cj->aL->R (List P)) (σ:St) (H:Hp) (Q:VK):Prop
 |mk (m:List Addr) (r:cj) (st:aL) (a:cq K H m Z r σ) (b:ax K H m Z st) (c:LQ K Z (d r st) m H Q):tL K Z d σ H Q
def qz(K:KB)(Z:List Addr)(D:Ends):Fl->aL->List Addr->Hp->Prop:=λf _ m' H'=>match f with|.nx r=>∀σ,cq K H' m' Z r σ->D.nx σ H'|.bk r=>∀σ,cq K H' m' Z r σ->D.bk σ H'|.ct r=>∀σ,cq K H' m' Z r σ->D.ct σ H'|.rt p=>∀v,ai K H' m' Z p v->D.rt v H'
mutual
theorem aI.sub{Z':List Addr}(sm:∀a∈m',a∈m)(s:∀a∈Z,a∈Z'):∀{x:D} {v:V},aI K H m Z' x v->aI K H m' Z x v
 |.bz,_,h=>h|.bl _,_,h=>h|.int _,_,h=>h|.str _,_,h=>h|.tup xs,v,h=>by obtain⟨a,us,e,q,r⟩:=(show ∃a us,v=.ref a/\H a=Δ (.tup us)/\ak K H m Z' xs us from h);exact⟨a,us,e,q,ak.sub sm s r⟩
 |.pl xs,v,h=>by obtain⟨a,us,e,q,hm,hz,r⟩:=(show ∃a us,v=.ref a/\Rd H a (.lst us)/\a∉m/\a∉Z'/\ak K H m Z' xs us from h);exact⟨a,us,e,q,λz=>hm (sm a z),λz=>hz (s a z),ak.sub sm s r⟩
theorem ak.sub{Z':List Addr}(sm:∀a∈m',a∈m)(s:∀a∈Z,a∈Z'):∀{xs:List D} {us:List V},ak K H m Z' xs us->ak K H m' Z xs us
 |[],_,h=>h|x::xs,us,h=>by obtain⟨v,vs,e,r,rs⟩:=(show ∃v vs,us=v::vs/\aI K H m Z' x v/\ak K H m Z' xs vs from h);exact⟨v,vs,e,aI.sub sm s r,ak.sub sm s rs⟩
end
theorem aI.vq(s:∀a∈Z,a∈Z')(h:aI K H m Z' x v):aI K H m Z x v:=aI.sub (λ_ h=>h) s h
theorem aI.bare(h:aI K H m Z x v):aI K H [] [] x v:=aI.sub (λ_ h=>by cases h) (λ_ h=>by cases h) h
theorem ak.bare(h:ak K H m Z x v):ak K H [] [] x v:=ak.sub (λ_ h=>by cases h) (λ_ h=>by cases h) h
mutual
theorem ai.vq{Z':List Addr}(s:∀a∈Z,a∈Z'):∀{x:P} {v:V},ai K H m Z' x v->ai K H m Z x v
 |.d _,_,h=>by rw[ai] at h ⊢;exact aI.vq s h|.obj _,_,h=>by rw[ai] at h ⊢;exact h|.gW _,_,h=>by rw[ai] at h ⊢;exact h|.fn k br,v,h=>by rw[ai] at h ⊢;obtain⟨a,c,bT,e,q,hc,r⟩:=h;exact⟨a,c,bT,e,q,hc,ah.vq s r⟩
 |.lf k,v,h=>by rw[ai] at h ⊢;exact h
theorem ah.vq{Z':List Addr}(s:∀a∈Z,a∈Z'):∀{xs:List P} {us:List V},ah K H m Z' xs us->ah K H m Z xs us
 |[],_,h=>h|x::xs,us,h=>by rw[ah] at h ⊢;obtain⟨v,vs,e,r,rs⟩:=h;exact⟨v,vs,e,ai.vq s r,ah.vq s rs⟩
end
mutual
theorem aI.kM{b:Addr}(hb:H b=Θ):∀{x:D} {v:V},aI K H m Z x v->aI K H m (b::Z) x v
 |.bz,_,h=>h|.bl _,_,h=>h|.int _,_,h=>h|.str _,_,h=>h|.tup xs,v,h=>by obtain⟨a,us,e,q,r⟩:=(show ∃a us,v=.ref a/\H a=Δ (.tup us)/\ak K H m Z xs us from h);exact⟨a,us,e,q,ak.kM hb r⟩
 |.pl xs,v,h=>by
  obtain⟨a,us,e,q,hm,hz,r⟩:=(show ∃a us,v=.ref a/\Rd H a (.lst us)/\a∉m/\a∉Z/\ak K H m Z xs us from h);refine⟨a,us,e,q,hm,λz=>?_,ak.kM hb r⟩;rcases Z3.mp z with z|z;·rw[z] at q;exact Gq q hb
  ·exact hz z
theorem ak.kM{b:Addr}(hb:H b=Θ):∀{xs:List D} {us:List V},ak K H m Z xs us->ak K H m (b::Z) xs us
 |[],_,h=>h|x::xs,us,h=>by obtain⟨v,vs,e,r,rs⟩:=(show ∃v vs,us=v::vs/\aI K H m Z x v/\ak K H m Z xs vs from h);exact⟨v,vs,e,aI.kM hb r,ak.kM hb rs⟩
end
mutual
theorem ai.kM{b:Addr}(hb:H b=Θ):∀{x:P} {v:V},ai K H m Z x v->ai K H m (b::Z) x v
 |.d _,_,h=>by rw[ai] at h ⊢;exact aI.kM hb h|.obj _,_,h=>by rw[ai] at h ⊢;exact h|.gW _,_,h=>by rw[ai] at h ⊢;exact h|.fn k br,v,h=>by rw[ai] at h ⊢;obtain⟨a,c,bT,e,q,hc,r⟩:=h;exact⟨a,c,bT,e,q,hc,ah.kM hb r⟩
 |.lf k,v,h=>by rw[ai] at h ⊢;exact h
theorem ah.kM{b:Addr}(hb:H b=Θ):∀{xs:List P} {us:List V},ah K H m Z xs us->ah K H m (b::Z) xs us
 |[],_,h=>h|x::xs,us,h=>by rw[ah] at h ⊢;obtain⟨v,vs,e,r,rs⟩:=h;exact⟨v,vs,e,ai.kM hb r,ah.kM hb rs⟩
end
theorem ax.Qj(A:ax K H m Z st)(h:a∈m):H a≠Θ:=by
 obtain⟨n,hn,e⟩:=List.mem_iff_getElem.mp h;have EN:n < st.length:=by rw[<-A.len];exact hn
 obtain⟨a',e',r⟩:=A.at_ n st[n] (WI EN);rw[WI hn,e] at e';cases e';exact r.qL.1
theorem ax.fresh(A:ax K H m Z st)(h:H a=Θ):a∉m/\a∉Z:=⟨λz=>A.Qj z h,λz=>A.zt a z (jI h)⟩
theorem lG(hx:∀φ,o≠.ext φ)(h:gy H b≠Θ):gy (upd H a o) b≠Θ:=by
 by_cases hb:b=a;·rw[hb,bq aD hx];exact λz=>nomatch z
 ·unfold gy at h ⊢;rw[au hb];exact h
theorem ax.laid(A:ax K H m Z st)(h:H a=Θ)o(hx:∀φ,o≠.ext φ:=by exact λ_ z=>nomatch z):ax K (upd H a o) m (a::Z) st:=by
 have e:kf H (upd H a o):=be h o;have A':=A.same e;refine⟨A.len,A.nd,λn ob hn=>?_,λb hb=>?_,λb hb=>?_,A'.tab⟩;·obtain⟨c,q,r⟩:=A.at_ n ob hn;exact⟨c,q,r.mono (λb u _ hu=>e _ _ hu) λp v z=>(z.kM h).le (Le.same e)⟩
 ·rcases Z3.mp hb with z|z;·rw[z,bq aD hx];exact λz=>nomatch z
  ·exact A'.zt b z
 ·rcases Z3.mp hb with z|z;·rw[z];exact(A.fresh h).1
  ·exact A.zm b z
theorem ax.Qk(A:ax K H m Z st)(h:H a=Θ)(e:kf H H')(h':gy H' a≠Θ):ax K H' m (a::Z) st:=by
 refine⟨A.len,A.nd,λn ob hn=>?_,λb hb=>?_,λb hb=>?_,(A.same e).tab⟩;·obtain⟨c,q,r⟩:=A.at_ n ob hn;exact⟨c,q,r.mono (λb u _ hu=>e _ _ hu) λp v z=>(z.kM h).le (Le.same e)⟩
 ·rcases Z3.mp hb with z|z;·rw[z];exact h'
  ·exact tR e (A.zt b z)
 ·rcases Z3.mp hb with z|z;·rw[z];exact(A.fresh h).1
  ·exact A.zm b z
theorem ax.vq(A:ax K H m Z' st)(s:∀a∈Z,a∈Z'):ax K H m Z st:=
 ⟨A.len,A.nd,λn o h=>by obtain⟨a,q,r⟩:=A.at_ n o h;exact⟨a,q,r.mono (λb u _ hu=>hu) λp v z=>z.vq s⟩,λa h=>A.zt a (s a h),λa h=>A.zm a (s a h),A.tab⟩
mutual
theorem aI.adopt{b:Addr}:∀{x:D} {v:V},aI K H m (b::Z) x v->aI K H (m++[b]) Z x v
 |.bz,_,h=>h|.bl _,_,h=>h|.int _,_,h=>h|.str _,_,h=>h|.tup xs,v,h=>by obtain⟨a,us,e,q,r⟩:=(show ∃a us,v=.ref a/\H a=Δ (.tup us)/\ak K H m (b::Z) xs us from h);exact⟨a,us,e,q,ak.adopt r⟩
 |.pl xs,v,h=>by
  obtain⟨a,us,e,q,hm,hz,r⟩:=(show ∃a us,v=.ref a/\Rd H a (.lst us)/\a∉m/\a∉b::Z/\ak K H m (b::Z) xs us from h);refine⟨a,us,e,q,λz=>?_,λz=>hz (WE _ z),ak.adopt r⟩;rcases Z5.mp z with z|z;·exact hm z
  ·exact hz (by simp at z;rw[z];exact WG)
theorem ak.adopt{b:Addr}:∀{xs:List D} {us:List V},ak K H m (b::Z) xs us->ak K H (m++[b]) Z xs us
 |[],_,h=>h|x::xs,us,h=>by obtain⟨v,vs,e,r,rs⟩:=(show ∃v vs,us=v::vs/\aI K H m (b::Z) x v/\ak K H m (b::Z) xs vs from h);exact⟨v,vs,e,aI.adopt r,ak.adopt rs⟩
end
mutual
theorem ai.adopt{b:Addr}:∀{x:P} {v:V},ai K H m (b::Z) x v->ai K H (m++[b]) Z x v
 |.d _,_,h=>by rw[ai] at h ⊢;exact aI.adopt h|.obj n,v,h=>by rw[ai] at h ⊢;obtain⟨a,e,r⟩:=h;exact⟨a,by rw[WK (qqz e).1];exact e,r⟩
 |.gW _,_,h=>by rw[ai] at h ⊢;exact h|.fn k br,v,h=>by rw[ai] at h ⊢;obtain⟨a,c,bT,e,q,hc,r⟩:=h;exact⟨a,c,bT,e,q,hc,ah.adopt r⟩
 |.lf k,v,h=>by rw[ai] at h ⊢;exact h
theorem ah.adopt{b:Addr}:∀{xs:List P} {us:List V},ah K H m (b::Z) xs us->ah K H (m++[b]) Z xs us
 |[],_,h=>h|x::xs,us,h=>by rw[ah] at h ⊢;obtain⟨v,vs,e,r,rs⟩:=h;exact⟨v,vs,e,ai.adopt r,ah.adopt rs⟩
end
theorem kl{l:List Addr}(nd:l.Nodup)(hi:i < l.length)(hj:j < l.length)(h:l[i]=l[j]):i=j:=by
 rcases Nat.lt_trichotomy i j with z|z|z;·exact absurd h (List.pairwise_iff_getElem.mp nd i j hi hj z)
 ·exact z
 ·exact absurd h.symm (List.pairwise_iff_getElem.mp nd j i hj hi z)
theorem ax.tU(A:ax K H m (a::Z) st)(hz:a∉Z)(r:qV K H m (a::Z) a ob):ax K H (m++[a]) Z (st++[ob]):=by
 refine⟨by rw[W1,W1,A.len];rfl,?_,λn o h=>?_,λb h=>A.zt b (WE _ h),λb h z=>?_,A.tab⟩
 ·refine XN.mpr ⟨A.nd,by simp,λx hx y hy=>?_⟩;have e:y=a:=by simpa using hy
  rw[e];rintro rfl;exact A.zm x WG hx
 ·by_cases hn:n < st.length;·rw[WK hn] at h;obtain⟨b,q,rr⟩:=A.at_ n o h;exact⟨b,by rw[WK (by rw[A.len];exact hn)];exact q,rr.mono (λb u _ hu=>hu) λp v z=>z.adopt⟩
  ·rw[W5 (by lia)] at h;have Sz:n - st.length=0:=by
    have:=(qqz h).1;simp at this
    lia
   rw[Sz] at h;cases h;refine⟨a,?_,r.mono (λb u _ hu=>hu) λp v z=>z.adopt⟩;rw[W5 (by rw[A.len];lia),A.len,Sz];rfl
 ·rcases Z5.mp z with z|z;·exact A.zm b (WE _ h) z
  ·have e:b=a:=by simpa using z
   rw[e] at h;exact hz h
theorem ax.adopt(A:ax K H m (a::Z) st)(hz:a∉Z)(ha:H a=Δ (.lst vs))(r:ah K H m (a::Z) ps vs):ax K H (m++[a]) Z (st++[.lst ps]):=A.tU hz ⟨vs,ha,r⟩
theorem ax.write(A:ax K H m Z st)(hn:st[n]?=Δ o)(ha:m[n]?=Δ a)(oP:∀H',H' a=Δ ho->(∀b u,b≠a->H b=Δ u->H' b=Δ u)->(∀p v,ai K H m Z p v->ai K H' m Z p v)->qV K H' m Z a o')(hx:∀φ,ho≠.ext φ:=by exact λ_ z=>nomatch z)(hl:o≠.vm:=by exact λz=>nomatch z):
  Le K m H m (upd H a ho)/\ax K (upd H a ho) m Z (st.set n o'):=by
 obtain⟨a',e,r⟩:=A.at_ n o hn;rw[ha] at e;cases e;obtain⟨t1,t2,t3,t4,t5,t6⟩:=r.qL;replace t3:=t3 hl;have le:Le K m H m (upd H a ho):=by
  refine⟨⟨[],by simp⟩,λb xs h=>?_,λb u h hb _=>?_,λb h=>.inl h,λb h=>?_,λb h=>lG hx h,λb o u h=>?_,λb φ h=>?_,λb ps h=>⟨#[],?_⟩⟩;·rw[au (λz=>t2 xs (by rw[<-z];exact h))];exact h
  ·rw[au (λz=>hb (by rw[z];exact W6 ha))];exact h
  ·by_cases Mq:b=a;·rw[Mq,aD];exact λz=>nomatch z
   ·rw[au Mq];exact h
  ·rw[au (λz=>t3 o u (by rw[<-z];exact h))];exact h
  ·rw[au (λz=>t4 φ (by rw[<-z];exact h))];exact h
  ·rw[au (λz=>t5 ps (by rw[<-z];exact h)),h];simp
 refine⟨le,⟨by rw[Ye];exact A.len,A.nd,λk ob hk=>?_,λb hb=>le.Cy b (A.zt b hb),A.zm,λt ht=>?_⟩⟩
 rotate_left
 ·obtain⟨ps,h1,h2⟩:=A.tab t ht;exact⟨ps,by rw[au (λz=>t5 ps (by rw[<-z];exact h1))];exact h1,fN.same le.ext h2⟩
 by_cases Mr:n=k;·subst Mr;have eB:=(qqz hn).1;rw[W4 eB] at hk;cases hk;exact⟨a,ha,oP _ aD (λb u hb hu=>by rw[au hb];exact hu) λp v z=>z.le le⟩
 ·rw[WH Mr] at hk;obtain⟨b,q,rr⟩:=A.at_ k ob hk;have Mq:b≠a:=by rintro rfl;have h1:=(qqz ha);have h2:=(qqz q);obtain⟨l1,e1⟩:=h1;obtain⟨l2,e2⟩:=h2;exact Mr (kl A.nd l1 l2 (e1.trans e2.symm))
  exact⟨b,q,rr.mono (λb' u iD hu=>by
   rw[au (λz=>by
    rcases iD with w1|w1;·exact Mq (w1▸z)
    ·exact t6 b (by rw[<-z];exact w1))]
   exact hu) λp v z=>z.le le⟩
end
mutual
def RH(h:Heap):D->Value->Prop
 |.bz,u=>u=.none|.bl b,u=>u=.bool b|.int i,u=>∃t,u=.int i t|.str x,u=>∃t,u=.str x t|.tup xs,u=>∃a its,u=.ref a/\h.IsTuple a its.toArray/\uX h xs its|.pl xs,u=>∃a its,u=.ref a/\h.IsList a its.toArray/\uX h xs its
def uX(h:Heap):List D->List Value->Prop
 |[],us=>us=[]|x::xs,us=>∃u r,us=u::r/\RH h x u/\uX h xs r
end
section
variable{h:Heap}
theorem uX.length:∀{xs} {us},uX h xs us->us.length=xs.length
 |[],us,r=>by cases (show us=[] from r);rfl|x::xs,us,r=>by obtain⟨u,q,rfl,_,rs⟩:=(show ∃u r,us=u::r/\RH h x u/\uX h xs r from r);rw[WZ,WZ,uX.length rs]
theorem qA(p:h.IsTuple a x)(q:h.IsTuple a y):x=y:=by obtain⟨o,e,_,n,d⟩:=p;obtain⟨o',e',_,n',d'⟩:=q;rw[e] at e';cases e';rw[d] at d';cases d';rfl
theorem tV(p:h.IsList a x)(q:h.IsList a y):x=y:=by obtain⟨o,e,_,n,d⟩:=p;obtain⟨o',e',_,n',d'⟩:=q;rw[e] at e';cases e';rw[d] at d';cases d';rfl
theorem zq(p:h.IsTuple a x)(q:h.IsList a y):False:=by obtain⟨o,e,c,_⟩:=p;obtain⟨o',e',c',_⟩:=q;rw[e] at e';cases e';rw[c] at c';exact absurd c' (by decide+kernel)
mutual
theorem RH.self:∀{x y:D} {u:Value},RH h x u->RH h y u->wb x y=Λ
 |.bz,y,u,p,q=>by cases (show u=.none from p);cases y with|bz=>rfl|bl b=>exact nomatch (show YG=.bool b from q)|int i=>obtain⟨t,e⟩:=q;exact nomatch e|str i=>obtain⟨t,e⟩:=q;exact nomatch e|tup i=>obtain⟨t,_,e,_⟩:=q;exact nomatch e|pl i=>obtain⟨t,_,e,_⟩:=q;exact nomatch e
 |.bl b,y,u,p,q=>by cases (show u=.bool b from p);cases y with|bz=>exact nomatch (show Z9 b=.none from q)|bl c=>cases (show Z9 b=.bool c from q);simp[wb]|int i=>obtain⟨t,e⟩:=q;exact nomatch e|str i=>obtain⟨t,e⟩:=q;exact nomatch e|tup i=>obtain⟨t,_,e,_⟩:=q;exact nomatch e|pl i=>obtain⟨t,_,e,_⟩:=q;exact nomatch e
 |.int b,y,u,p,q=>by obtain⟨t0,rfl⟩:=p;cases y with|bz=>exact nomatch (show ZD b t0=.none from q)|bl c=>exact nomatch (show ZD b t0=.bool c from q)|int i=>obtain⟨t,e⟩:=q;cases e;simp[wb]|str i=>obtain⟨t,e⟩:=q;exact nomatch e|tup i=>obtain⟨t,_,e,_⟩:=q;exact nomatch e|pl i=>obtain⟨t,_,e,_⟩:=q;exact nomatch e
 |.str b,y,u,p,q=>by obtain⟨t0,rfl⟩:=p;cases y with|bz=>exact nomatch (show aaD b t0=.none from q)|bl c=>exact nomatch (show aaD b t0=.bool c from q)|int i=>obtain⟨t,e⟩:=q;exact nomatch e|str i=>obtain⟨t,e⟩:=q;cases e;simp[wb]|tup i=>obtain⟨t,_,e,_⟩:=q;exact nomatch e|pl i=>obtain⟨t,_,e,_⟩:=q;exact nomatch e
 |.tup xs,y,u,p,q=>by
  obtain⟨a,its,rfl,ht,rs⟩:=p;cases y with
  |bz=>exact nomatch (show Xg a=.none from q)|bl c=>exact nomatch (show Xg a=.bool c from q)|int i=>obtain⟨t,e⟩:=q;exact nomatch e|str i=>obtain⟨t,e⟩:=q;exact nomatch e|tup ys=>
   obtain⟨b,its',e,uW,xO⟩:=q;cases e;have e2:its=its':=by simpa using qA ht uW
   subst e2;show iF xs ys=Λ;exact uX.self rs xO
  |pl ys=>obtain⟨b,its',e,uW,xO⟩:=q;cases e;exact(zq ht uW).elim
 |.pl xs,y,u,p,q=>by
  obtain⟨a,its,rfl,ht,rs⟩:=p;cases y with
  |bz=>exact nomatch (show Xg a=.none from q)|bl c=>exact nomatch (show Xg a=.bool c from q)|int i=>obtain⟨t,e⟩:=q;exact nomatch e|str i=>obtain⟨t,e⟩:=q;exact nomatch e|tup ys=>obtain⟨b,its',e,uW,xO⟩:=q;cases e;exact(zq uW ht).elim
  |pl ys=>
   obtain⟨b,its',e,uW,xO⟩:=q;cases e;have e2:its=its':=by simpa using tV ht uW
   subst e2;show iF xs ys=Λ;exact uX.self rs xO
theorem uX.self:∀{xs ys:List D} {us:List Value},uX h xs us->uX h ys us->iF xs ys=Λ
 |[],ys,us,p,q=>by cases (show us=[] from p);cases ys with|nil=>rfl|cons y ys=>obtain⟨u,r,e,_⟩:=q;exact nomatch e
 |x::xs,ys,us,p,q=>by obtain⟨u,r,rfl,p1,p2⟩:=(show ∃u r,us=u::r/\RH h x u/\uX h xs r from p);cases ys with|nil=>exact nomatch (show u::r=[] from q)|cons y ys=>obtain⟨u',r',e,q1,q2⟩:=(show ∃u' r',u::r=u'::r'/\RH h y u'/\uX h ys r' from q);cases e;show(wb x y&&iF xs ys)=Λ;rw[RH.self p1 q1,uX.self p2 q2];rfl
end
def pairD(xs ys:List D)(j:Nat):Bool:=wb (xs.getD j .bz) (ys.getD j .bz)
theorem nY:∀xs ys,((WB (min xs.length ys.length)).all (pairD xs ys)&&xs.length==ys.length)=iF xs ys
 |[],[]=>rfl|[],_::_=>by simp[iF]|_::_,[]=>by simp[iF]|x::xs,y::ys=>by
  have ih:=nY xs ys;have e1:min (x::xs).length (y::ys).length=min xs.length ys.length+1:=by simp only[WZ];lia
  have e2:((x::xs).length==(y::ys).length)=(xs.length==ys.length):=by simp
  have e3:(WB (min xs.length ys.length+1)).all (pairD (x::xs) (y::ys))=(wb x y&&(WB (min xs.length ys.length)).all (pairD xs ys)):=by rw[List.range_succ_eq_map,ZE,List.all_map];first|rfl|simp[pairD,Xu]
  rw[e1,e2,e3,iF,<-ih,Bool.and_assoc]
theorem zr(h:xs.length=ys.length):(WB xs.length).all (pairD xs ys)=iF xs ys:=by have:=nY xs ys;rw[<-h,Nat.min_self] at this;simpa using this
theorem tX(h:xs.length≠ys.length):iF xs ys=Ξ:=by rw[<-nY xs ys];simp[h]
open SeqAt
mutual
theorem Ql:∀(x y:D) (A:Yc) (s:WU) (u v:Value),RH s.heap x u->RH s.heap y v->A.units+min (mM x) (mM y) < cLine->RcAt A s u v (wb x y)/\RcNeAt A s u v (!wb x y)
 |.bz,y,A,s,u,v,p,q,hu=>by cases (show u=.none from p);cases y with|bz=>cases (show v=.none from q);exact⟨RcAt.none_none,RcNeAt.none_none⟩|bl b=>cases (show v=.bool b from q);exact⟨RcAt.none_bool b,RcNeAt.none_bool b⟩|int b=>obtain⟨t,rfl⟩:=q;exact⟨RcAt.none_int b t,RcNeAt.none_int b t⟩|str b=>obtain⟨t,rfl⟩:=q;exact⟨RcAt.none_str b t,RcNeAt.none_str b t⟩|tup ys=>obtain⟨a,its,rfl,hl,_⟩:=q;exact⟨RcAt.none_tuple hl (room_here hu),RcNeAt.none_tuple hl (room_here hu)⟩|pl ys=>obtain⟨a,its,rfl,hl,_⟩:=q;exact⟨RcAt.none_list hl (room_here hu),RcNeAt.none_list hl (room_here hu)⟩
 |.bl x,y,A,s,u,v,p,q,hu=>by cases (show u=.bool x from p);cases y with|bz=>cases (show v=.none from q);exact⟨RcAt.bool_none x,RcNeAt.bool_none x⟩|bl b=>cases (show v=.bool b from q);exact⟨RcAt.bool_bool x b,RcNeAt.bool_bool x b⟩|int b=>obtain⟨t,rfl⟩:=q;exact⟨RcAt.bool_int x b t,RcNeAt.bool_int x b t⟩|str b=>obtain⟨t,rfl⟩:=q;exact⟨RcAt.bool_str x b t,RcNeAt.bool_str x b t⟩|tup ys=>obtain⟨a,its,rfl,hl,_⟩:=q;exact⟨RcAt.bool_tuple x hl (room_here hu),RcNeAt.bool_tuple x hl (room_here hu)⟩|pl ys=>obtain⟨a,its,rfl,hl,_⟩:=q;exact⟨RcAt.bool_list x hl (room_here hu),RcNeAt.bool_list x hl (room_here hu)⟩
 |.int x,y,A,s,u,v,p,q,hu=>by obtain⟨t0,rfl⟩:=p;cases y with|bz=>cases (show v=.none from q);exact⟨RcAt.int_none x t0,RcNeAt.int_none x t0⟩|bl b=>cases (show v=.bool b from q);exact⟨RcAt.int_bool x t0 b,RcNeAt.int_bool x t0 b⟩|int b=>obtain⟨t,rfl⟩:=q;exact⟨RcAt.int_int x t0 b t,RcNeAt.int_int x t0 b t⟩|str b=>obtain⟨t,rfl⟩:=q;exact⟨RcAt.int_str x t0 b t,RcNeAt.int_str x t0 b t⟩|tup ys=>obtain⟨a,its,rfl,hl,_⟩:=q;exact⟨RcAt.int_tuple x t0 hl (room_here hu),RcNeAt.int_tuple x t0 hl (room_here hu)⟩|pl ys=>obtain⟨a,its,rfl,hl,_⟩:=q;exact⟨RcAt.int_list x t0 hl (room_here hu),RcNeAt.int_list x t0 hl (room_here hu)⟩
 |.str x,y,A,s,u,v,p,q,hu=>by obtain⟨t0,rfl⟩:=p;cases y with|bz=>cases (show v=.none from q);exact⟨RcAt.str_none x t0,RcNeAt.str_none x t0⟩|bl b=>cases (show v=.bool b from q);exact⟨RcAt.str_bool x t0 b,RcNeAt.str_bool x t0 b⟩|int b=>obtain⟨t,rfl⟩:=q;exact⟨RcAt.str_int x t0 b t,RcNeAt.str_int x t0 b t⟩|str b=>obtain⟨t,rfl⟩:=q;exact⟨RcAt.str_str x t0 b t,RcNeAt.str_str x t0 b t⟩|tup ys=>obtain⟨a,its,rfl,hl,_⟩:=q;exact⟨RcAt.str_tuple x t0 hl (room_here hu),RcNeAt.str_tuple x t0 hl (room_here hu)⟩|pl ys=>obtain⟨a,its,rfl,hl,_⟩:=q;exact⟨RcAt.str_list x t0 hl (room_here hu),RcNeAt.str_list x t0 hl (room_here hu)⟩
 |.tup xs,y,A,s,u,v,p,q,hu=>by
  obtain⟨a,its,rfl,hl,rs⟩:=p;cases y with
  |bz=>cases (show v=.none from q);exact⟨RcAt.tuple_none hl (room_here hu),RcNeAt.tuple_none hl (room_here hu)⟩|bl b=>cases (show v=.bool b from q);exact⟨RcAt.tuple_bool b hl (room_here hu),RcNeAt.tuple_bool b hl (room_here hu)⟩|int b=>obtain⟨t,rfl⟩:=q;exact⟨RcAt.tuple_int b t hl (room_here hu),RcNeAt.tuple_int b t hl (room_here hu)⟩|str b=>obtain⟨t,rfl⟩:=q;exact⟨RcAt.tuple_str b t hl (room_here hu),RcNeAt.tuple_str b t hl (room_here hu)⟩|pl ys=>obtain⟨b,its',rfl,nQ,_⟩:=q;exact⟨RcAt.tuple_list hl nQ (room_here hu),RcNeAt.tuple_list hl nQ (room_here hu)⟩|tup ys=>
   obtain⟨b,its',rfl,nQ,xO⟩:=q;have n1:its.toArray.size=xs.length:=by rw[WX];exact rs.length
   have n2:its'.toArray.size=ys.length:=by rw[WX];exact xO.length
   have he:∀j (j1:j < its.toArray.size) (j2:j < its'.toArray.size),EqAt A.in1 s its.toArray[j] its'.toArray[j] (pairD xs ys j):=λj j1 j2=>by have:=zu xs ys A.in1 s its its' rs xO (room_in hu) j (by simpa using j1) (by simpa using j2);simpa using this
   show RcAt A s (.ref a) (.ref b) (iF xs ys)/\RcNeAt A s (.ref a) (.ref b) (!iF xs ys);rw[<-nY xs ys,<-n1,<-n2];exact⟨RcAt.tuples hl nQ (room_here hu) he,RcNeAt.tuples hl nQ (room_here hu) he⟩
 |.pl xs,y,A,s,u,v,p,q,hu=>by
  obtain⟨a,its,rfl,hl,rs⟩:=p;cases y with
  |bz=>cases (show v=.none from q);exact⟨RcAt.list_none hl (room_here hu),RcNeAt.list_none hl (room_here hu)⟩|bl b=>cases (show v=.bool b from q);exact⟨RcAt.list_bool b hl (room_here hu),RcNeAt.list_bool b hl (room_here hu)⟩|int b=>obtain⟨t,rfl⟩:=q;exact⟨RcAt.list_int b t hl (room_here hu),RcNeAt.list_int b t hl (room_here hu)⟩|str b=>obtain⟨t,rfl⟩:=q;exact⟨RcAt.list_str b t hl (room_here hu),RcNeAt.list_str b t hl (room_here hu)⟩|tup ys=>obtain⟨b,its',rfl,nQ,_⟩:=q;exact⟨RcAt.list_tuple hl nQ (room_here hu),RcNeAt.list_tuple hl nQ (room_here hu)⟩|pl ys=>
   obtain⟨b,its',rfl,nQ,xO⟩:=q;have n1:its.toArray.size=xs.length:=by rw[WX];exact rs.length
   have n2:its'.toArray.size=ys.length:=by rw[WX];exact xO.length
   have he:∀j (j1:j < its.toArray.size) (j2:j < its'.toArray.size),EqAt A.in1 s its.toArray[j] its'.toArray[j] (pairD xs ys j):=λj j1 j2=>by have:=zu xs ys A.in1 s its its' rs xO (room_in hu) j (by simpa using j1) (by simpa using j2);simpa using this
   show RcAt A s (.ref a) (.ref b) (iF xs ys)/\RcNeAt A s (.ref a) (.ref b) (!iF xs ys);by_cases hsz:its.toArray.size=its'.toArray.size;·rw[<-zr (by lia:xs.length=ys.length),<-n1];exact⟨RcAt.lists hl nQ hsz (room_here hu) he,RcNeAt.lists hl nQ hsz (room_here hu) he⟩
   ·rw[tX (by lia:xs.length≠ys.length)];exact⟨RcAt.lists_lengths hl nQ (by simpa using hsz) (room_here hu),RcNeAt.lists_lengths hl nQ (by simpa using hsz) (room_here hu)⟩
theorem U7:∀(x y:D) (A:Yc) (s:WU) (u v:Value),RH s.heap x u->RH s.heap y v->A.units+min (mM x) (mM y) < cLine->EqAt A s u v (wb x y)
 |.bz,y,A,s,u,v,p,q,hu=>by cases (show u=.none from p);cases y with|bz=>cases (show v=.none from q);exact EqAt.same _|bl b=>cases (show v=.bool b from q);exact EqAt.none_bool b|int b=>obtain⟨t,rfl⟩:=q;exact EqAt.none_int b t|str b=>obtain⟨t,rfl⟩:=q;exact EqAt.none_str b t|tup ys=>obtain⟨a,its,rfl,hl,_⟩:=q;exact EqAt.none_tuple hl (room_here hu)|pl ys=>obtain⟨a,its,rfl,hl,_⟩:=q;exact EqAt.none_list hl (room_here hu)
 |.bl x,y,A,s,u,v,p,q,hu=>by cases (show u=.bool x from p);cases y with|bz=>cases (show v=.none from q);exact EqAt.bool_none x|bl b=>cases (show v=.bool b from q);exact EqAt.bool_bool x b|int b=>obtain⟨t,rfl⟩:=q;exact EqAt.bool_int x b t|str b=>obtain⟨t,rfl⟩:=q;exact EqAt.bool_str x b t|tup ys=>obtain⟨a,its,rfl,hl,_⟩:=q;exact EqAt.bool_tuple x hl (room_here hu)|pl ys=>obtain⟨a,its,rfl,hl,_⟩:=q;exact EqAt.bool_list x hl (room_here hu)
 |.int x,y,A,s,u,v,p,q,hu=>by obtain⟨t0,rfl⟩:=p;cases y with|bz=>cases (show v=.none from q);exact EqAt.int_none x t0|bl b=>cases (show v=.bool b from q);exact EqAt.int_bool x t0 b|int b=>obtain⟨t,rfl⟩:=q;exact EqAt.int_int x t0 b t|str b=>obtain⟨t,rfl⟩:=q;exact EqAt.int_str x t0 b t|tup ys=>obtain⟨a,its,rfl,hl,_⟩:=q;exact EqAt.int_tuple x t0 hl (room_here hu)|pl ys=>obtain⟨a,its,rfl,hl,_⟩:=q;exact EqAt.int_list x t0 hl (room_here hu)
 |.str x,y,A,s,u,v,p,q,hu=>by obtain⟨t0,rfl⟩:=p;cases y with|bz=>cases (show v=.none from q);exact EqAt.str_none x t0|bl b=>cases (show v=.bool b from q);exact EqAt.str_bool x t0 b|int b=>obtain⟨t,rfl⟩:=q;exact EqAt.str_int x t0 b t|str b=>obtain⟨t,rfl⟩:=q;exact EqAt.str_str x t0 b t|tup ys=>obtain⟨a,its,rfl,hl,_⟩:=q;exact EqAt.str_tuple x t0 hl (room_here hu)|pl ys=>obtain⟨a,its,rfl,hl,_⟩:=q;exact EqAt.str_list x t0 hl (room_here hu)
 |.tup xs,y,A,s,u,v,p,q,hu=>by
  obtain⟨a,its,rfl,hl,rs⟩:=p;cases y with
  |bz=>cases (show v=.none from q);exact EqAt.tuple_none hl (room_here hu)|bl b=>cases (show v=.bool b from q);exact EqAt.tuple_bool b hl (room_here hu)|int b=>obtain⟨t,rfl⟩:=q;exact EqAt.tuple_int b t hl (room_here hu)|str b=>obtain⟨t,rfl⟩:=q;exact EqAt.tuple_str b t hl (room_here hu)|pl ys=>obtain⟨b,its',rfl,nQ,_⟩:=q;exact EqAt.tuple_list hl nQ (room_here hu)|tup ys=>
   obtain⟨b,its',rfl,nQ,xO⟩:=q;have n1:its.toArray.size=xs.length:=by rw[WX];exact rs.length
   have n2:its'.toArray.size=ys.length:=by rw[WX];exact xO.length
   have he:∀j (j1:j < its.toArray.size) (j2:j < its'.toArray.size),EqAt A.in1 s its.toArray[j] its'.toArray[j] (pairD xs ys j):=λj j1 j2=>by have:=zu xs ys A.in1 s its its' rs xO (room_in hu) j (by simpa using j1) (by simpa using j2);simpa using this
   show EqAt A s (.ref a) (.ref b) (iF xs ys);by_cases Ms:a=b
   ·subst Ms;have e2:its=its':=by simpa using qA hl nQ
    subst e2;rw[uX.self rs xO];exact EqAt.same _
   ·rw[<-nY xs ys,<-n1,<-n2];exact EqAt.of_refs Ms (RcAt.tuples hl nQ (room_here hu) he)
 |.pl xs,y,A,s,u,v,p,q,hu=>by
  obtain⟨a,its,rfl,hl,rs⟩:=p;cases y with
  |bz=>cases (show v=.none from q);exact EqAt.list_none hl (room_here hu)|bl b=>cases (show v=.bool b from q);exact EqAt.list_bool b hl (room_here hu)|int b=>obtain⟨t,rfl⟩:=q;exact EqAt.list_int b t hl (room_here hu)|str b=>obtain⟨t,rfl⟩:=q;exact EqAt.list_str b t hl (room_here hu)|tup ys=>obtain⟨b,its',rfl,nQ,_⟩:=q;exact EqAt.list_tuple hl nQ (room_here hu)|pl ys=>
   obtain⟨b,its',rfl,nQ,xO⟩:=q;have n1:its.toArray.size=xs.length:=by rw[WX];exact rs.length
   have n2:its'.toArray.size=ys.length:=by rw[WX];exact xO.length
   have he:∀j (j1:j < its.toArray.size) (j2:j < its'.toArray.size),EqAt A.in1 s its.toArray[j] its'.toArray[j] (pairD xs ys j):=λj j1 j2=>by have:=zu xs ys A.in1 s its its' rs xO (room_in hu) j (by simpa using j1) (by simpa using j2);simpa using this
   show EqAt A s (.ref a) (.ref b) (iF xs ys);by_cases Ms:a=b
   ·subst Ms;have e2:its=its':=by simpa using tV hl nQ
    subst e2;rw[uX.self rs xO];exact EqAt.same _
   ·by_cases hsz:its.toArray.size=its'.toArray.size;·rw[<-zr (by lia:xs.length=ys.length),<-n1];exact EqAt.of_refs Ms (RcAt.lists hl nQ hsz (room_here hu) he)
    ·rw[tX (by lia:xs.length≠ys.length)];exact EqAt.of_refs Ms (RcAt.lists_lengths hl nQ (by simpa using hsz) (room_here hu))
theorem zu:∀(xs ys:List D) (A:Yc) (s:WU) (us vs:List Value),uX s.heap xs us->uX s.heap ys vs->A.units+min (kF xs) (kF ys) < cLine->
  ∀j (h1:j < us.length) (h2:j < vs.length),EqAt A s us[j] vs[j] (pairD xs ys j)
 |[],_,_,_,us,_,ra,_,_,j,h1,_=>by cases (show us=[] from ra);exact absurd h1 (Za _)|_::_,[],_,_,_,vs,_,rb,_,j,_,h2=>by cases (show vs=[] from rb);exact absurd h2 (Za _)|x::xs,y::ys,A,s,us,vs,ra,rb,hu,j,h1,h2=>by obtain⟨u,r,rfl,p1,p2⟩:=(show ∃u r,us=u::r/\RH s.heap x u/\uX s.heap xs r from ra);obtain⟨v,r',rfl,q1,q2⟩:=(show ∃u r,vs=u::r/\RH s.heap y u/\uX s.heap ys r from rb);cases j with|zero=>exact U7 x y A s u v p1 q1 (room_head hu)|succ j=>exact zu xs ys A s r r' p2 q2 (room_tail hu) j (Nat.lt_of_succ_lt_succ h1) (Nat.lt_of_succ_lt_succ h2)
end
end
section
variable{X:Cx}{η:List (Addr×Obj)}{σ:St}{H:Hp}{s:WU}{m Z:List Addr}
mutual
theorem aI.rh(I:Inv X η σ H s):∀{x:D} {v:V} {u:Value},aI (af X kt) H m Z x v->RelV v u->RH s.heap x u
 |.bz,v,u,p,r=>by cases (show v=.bz from p);exact r|.bl b,v,u,p,r=>by cases (show v=.bl b from p);exact r|.int b,v,u,p,r=>by cases (show v=.int b from p);exact r|.str b,v,u,p,r=>by cases (show v=.str b from p);exact r|.tup xs,v,u,p,r=>by obtain⟨a,us,rfl,q,rs⟩:=(show ∃a us,v=.ref a/\H a=Δ (.tup us)/\ak (af X kt) H m Z xs us from p);cases (show u=.ref a from r);obtain⟨its,rv,ht,_⟩:=I.tuple (fK.of q);exact⟨a,its,rfl,ht,ak.rh I rs rv⟩
 |.pl xs,v,u,p,r=>by obtain⟨a,us,rfl,q,_,_,rs⟩:=(show ∃a us,v=.ref a/\Rd H a (.lst us)/\a∉m/\a∉Z/\ak (af X kt) H m Z xs us from p);cases (show u=.ref a from r);obtain⟨its,rv,ht,_⟩:=I.list (.inl q);exact⟨a,its,rfl,ht.isList,ak.rh I rs rv⟩
theorem ak.rh(I:Inv X η σ H s):∀{xs:List D} {vs:List V} {us:List Value},ak (af X kt) H m Z xs vs->aO vs us->uX s.heap xs us
 |[],vs,us,p,r=>by cases (show vs=[] from p);cases r;rfl|x::xs,vs,us,p,r=>by obtain⟨v,w',rfl,p1,p2⟩:=(show ∃v w',vs=v::w'/\aI (af X kt) H m Z x v/\ak (af X kt) H m Z xs w' from p);cases r with|cons r1 r2=>exact⟨_,_,rfl,aI.rh I p1 r1,ak.rh I p2 r2⟩
end
theorem Mt(hu:X.A.units+100 < cLine):jZ X (X4 .Eq) (λv u H Q=>∃m Z x y k,aI (af X kt) H m Z x v/\aI (af X kt) H m Z y u/\uU x y=Δ k/\Q (.bl k) H):=by
 intro η s σ H v u a b Q I rx ry h;obtain⟨m,Z,x,y,k,p,q,e,hq⟩:=h;unfold uU at e;split at e;·rename_i hd;cases e;exact(Ql x y X.A s a b (p.rh I rx) (q.rh I ry) (by lia)).1 X.prog X.w X.xe _ ⟨.bl (wb x y),H,I,rfl,hq⟩
 ·cases e
theorem Mu(hu:X.A.units+100 < cLine):jZ X (X4 .NotEq) (λv u H Q=>∃m Z x y k,aI (af X kt) H m Z x v/\aI (af X kt) H m Z y u/\uU x y=Δ k/\Q (.bl (!k)) H):=by
 intro η s σ H v u a b Q I rx ry h;obtain⟨m,Z,x,y,k,p,q,e,hq⟩:=h;unfold uU at e;split at e;·rename_i hd;cases e;exact(Ql x y X.A s a b (p.rh I rx) (q.rh I ry) (by lia)).2 X.prog X.w X.xe _ ⟨.bl (!wb x y),H,I,rfl,hq⟩
 ·cases e
end
end Y
namespace Y
open PySem L2 PySem.Spec PyProof.Rows
structure G where
 N:List Str
 names:List (Str×Zi)
 fns:List (Str×Nat)
 hZ:List (Str×Int)
 tabs:List (Str×List (Str×Int))
 Qm:Nat->Zd->Expr->Scope->Pos->Bool:=λ_ _ _ _ _=>Ξ
 Qn:Nat->Nat->Str->Zd->List Stmt->Scope->Pos->Bool:=λ_ _ _ _ _ _ _=>Ξ
 KE:Nat->Str->Nat->List (Nat×List Nat)->Bool:=λ_ _ _ _=>Ξ
 Qo:Nat->Str->List (Nat×List Nat)->Bool:=λ_ _ _=>Ξ
 yv:Str->Str->Bool:=λ_ _=>Ξ
 AV:Nat->Str->Str->Nat->Bool:=λ_ _ _ _=>Ξ
 AW:Nat->Str->Nat->Bool:=λ_ _ _=>Ξ
 cv:Bool:=Λ
def notStar(e:Expr):Bool:=e.ctorIdx !=22
def G.xP(g:G)(x:Str):Bool:=match g.names.lookup x with|some .local=>Λ|some .cell=>Λ|some .free=>Λ|_=>Ξ
noncomputable def G.gl(g:G)(x:Str):Bool:=decide (g.names.lookup x=Δ .globalImplicit)
noncomputable def aR(x:Str):Bool:=!(x==("__debug__":Str))&&!(x==("__classdict__":Str))&&!(x==("__name__":Str))
noncomputable def Cz:Qd->Operator
 |.add=>.Add|.sub=>.Sub|.mul=>.Mult|.mod=>.Mod
noncomputable def j0:KC->CmpOp
 |.lt=>.Lt|.le=>.LtE|.gt=>.Gt|.ge=>.GtE|.eq=>.Eq|.ne=>.NotEq|.isin=>.In|.sO=>.NotIn
noncomputable def xQ:Bf->Str
 |.len=>"len"|.any=>"any"|.sum=>"sum"|.tuple=>"tuple"|.zi=>"max"
def lH:List String:=["int","bool","tuple","str","list"]
def xR(e:Expr):Bool:=e.ctorIdx==26
noncomputable def mT(e:Expr):Bool:=e.ctorIdx==8||e.ctorIdx==9||e.ctorIdx==10
def cu(e:Expr):Bool:=e.ctorIdx==7
def Gr(g:G)(ts:Nat)(N:List Str)(js:List Nat)(sc:Scope):Bool:=
 decide (sc.kind=.function)&&decide (N.length=ts+js.length)&&
 sc.names.all (λx=>decide (x.2≠.cell)&&(decide (x.2≠.local)||decide (sc.names.lookup x.1=Δ .local))&&(decide (x.2≠.free)||(decide (g.names.lookup x.1=Δ .cell)||decide (g.names.lookup x.1=Δ .free))))&&
 (WB js.length).all (λi=>match N[ts+i]?,js[i]? with
  |some y,Δ j=>decide (g.N[j]?=Δ y)&&decide (sc.names.lookup y=Δ .free)
  |_,_=>Λ)
noncomputable def gJ(g:G)(x:Str)(js:List Nat):List Str:=x::js.map λj=>(g.N[j]?).getD "?"
noncomputable def kN(g:G)(x y:Str)(js:List Nat):List Str:=x::y::js.map λj=>(g.N[j]?).getD "?"
def G.inner(g:G)(N:List Str)(sc:Scope):G:={N:=N,names:=sc.names,fns:=g.fns,hZ:=g.hZ,tabs:=g.tabs,cv:=g.cv,yv:=g.yv,AV:=g.AV,AW:=g.AW}
theorem iG{c:Prop}[Decidable c]{a:c->Bool}{g:Prop}(hi:¬c)(h:(if q:c then a q else Ξ)=Λ):g:=by rw[dif_neg hi] at h;exact ft h
noncomputable def aU{α:Type}(l:List α)(k:α->List α->Bool):Bool:=match l with|x::r=>k x r|[]=>Ξ
@[elab_as_elim] theorem aE{α:Type}{P:List α->Prop}{l:List α}{k:α->List α->Bool}(h:aU l k=Λ)(c:∀x r,k x r=Λ->P (x::r)):P l:=by cases l<;>first|exact c _ _ h|exact ft h
noncomputable def xS{α:Type}(l:Option α)(k:α->Bool):Bool:=match l with|some x=>k x|none=>Ξ
@[elab_as_elim] theorem tY{α:Type}{P:Option α->Prop}{l:Option α}{k:α->Bool}(h:xS l k=Λ)(c:∀x,k x=Λ->P (Δ x)):P l:=by cases l<;>first|exact c _ h|exact ft h
noncomputable def CA(l:abb)(k:Expr->Expr->List Expr->Int->Bool):Bool:=k l.target l.iter l.ifs l.is_async
@[elab_as_elim] theorem lI{P:abb->Prop}{l:abb}{k:Expr->Expr->List Expr->Int->Bool}(h:CA l k=Λ)(c:∀a b d e,k a b d e=Λ->P ⟨a,b,d,e⟩):P l:=by cases l;exact c _ _ _ _ h
noncomputable def jn(e:Stmt)(k:(List Expr)->Expr->Pos->Bool):Bool:=if h:e.ctorIdx=5 then @Stmt.Assign.elim (λ_=>Bool) e h k else Ξ
noncomputable def bY(e:Expr)(k:Expr->Str->Pos->Bool):Bool:=if h:e.ctorIdx=20 then @Expr.Attribute.elim (λ_=>Bool) e h k else Ξ
noncomputable def xT(e:Expr)(k:Expr->Operator->Expr->Pos->Bool):Bool:=if h:e.ctorIdx=2 then @Expr.BinOp.elim (λ_=>Bool) e h k else Ξ
noncomputable def nZ(e:Expr)(k:BoolOp->(List Expr)->Pos->Bool):Bool:=if h:e.ctorIdx=0 then @Expr.BoolOp.elim (λ_=>Bool) e h k else Ξ
noncomputable def bR(e:Expr)(k:Expr->(List Expr)->(List aa4)->Pos->Bool):Bool:=if h:e.ctorIdx=16 then @Expr.Call.elim (λ_=>Bool) e h k else Ξ
noncomputable def lJ(e:Expr)(k:Expr->(List CmpOp)->(List Expr)->Pos->Bool):Bool:=if h:e.ctorIdx=15 then @Expr.Compare.elim (λ_=>Bool) e h k else Ξ
noncomputable def mU(e:Expr)(k:Const->Nat->Pos->Bool):Bool:=if h:e.ctorIdx=19 then @Expr.Constant.elim (λ_=>Bool) e h k else Ξ
noncomputable def xU(e:Expr)(k:(List (Option Expr))->(List Expr)->Pos->Bool):Bool:=if h:e.ctorIdx=6 then @Expr.Dict.elim (λ_=>Bool) e h k else Ξ
noncomputable def rS(e:Stmt)(k:Expr->Pos->Bool):Bool:=if h:e.ctorIdx=24 then @Stmt.Expr.elim (λ_=>Bool) e h k else Ξ
noncomputable def pD(e:Stmt)(k:Expr->Expr->(List Stmt)->(List Stmt)->Pos->Bool):Bool:=if h:e.ctorIdx=9 then @Stmt.For.elim (λ_=>Bool) e h k else Ξ
noncomputable def ic(e:Stmt)(k:Str->Zd->(List Stmt)->(List Expr)->(Option Expr)->(List TypeParam)->Scope->(Option Scope)->Str->Pos->Bool):Bool:=if h:e.ctorIdx=0 then @Stmt.FunctionDef.elim (λ_=>Bool) e h k else Ξ
noncomputable def xV(e:Expr)(k:Expr->Expr->Expr->Pos->Bool):Bool:=if h:e.ctorIdx=5 then @Expr.IfExp.elim (λ_=>Bool) e h k else Ξ
noncomputable def Gs(e:Stmt)(k:Expr->(List Stmt)->(List Stmt)->Pos->Bool):Bool:=if h:e.ctorIdx=12 then @Stmt.If.elim (λ_=>Bool) e h k else Ξ
noncomputable def tZ(e:Expr)(k:Zd->Expr->Scope->Pos->Bool):Bool:=if h:e.ctorIdx=4 then @Expr.Lambda.elim (λ_=>Bool) e h k else Ξ
noncomputable def BJ(e:Expr)(k:(List Expr)->Pos->Bool):Bool:=if h:e.ctorIdx=24 then @Expr.List.elim (λ_=>Bool) e h k else Ξ
noncomputable def ie(e:Expr)(k:Expr->(List abb)->Scope->Pos->Bool):Bool:=if h:e.ctorIdx=8 then @Expr.ListComp.elim (λ_=>Bool) e h k else Ξ
noncomputable def aY(e:Expr)(k:Str->Pos->Bool):Bool:=if h:e.ctorIdx=23 then @Expr.Name.elim (λ_=>Bool) e h k else Ξ
noncomputable def lK(e:Stmt)(k:(Option Expr)->Pos->Bool):Bool:=if h:e.ctorIdx=3 then @Stmt.Return.elim (λ_=>Bool) e h k else Ξ
noncomputable def iT(e:Expr)(k:Expr->Expr->Pos->Bool):Bool:=if h:e.ctorIdx=21 then @Expr.Subscript.elim (λ_=>Bool) e h k else Ξ
noncomputable def n4(e:Expr)(k:(List Expr)->Nat->Pos->Bool):Bool:=if h:e.ctorIdx=25 then @Expr.Tuple.elim (λ_=>Bool) e h k else Ξ
noncomputable def lL(e:Expr)(k:UnaryOp->Expr->Pos->Bool):Bool:=if h:e.ctorIdx=3 then @Expr.UnaryOp.elim (λ_=>Bool) e h k else Ξ
noncomputable def t7(e:Stmt)(k:Expr->(List Stmt)->(List Stmt)->Pos->Bool):Bool:=if h:e.ctorIdx=11 then @Stmt.While.elim (λ_=>Bool) e h k else Ξ
section
variable{P:Expr->Prop}{e:Expr}
@[elab_as_elim] theorem bZ{k}(h:bY e k=Λ)(c:∀x1 x2 x3,k x1 x2 x3=Λ->P (.Attribute x1 x2 x3)):P e:=if i:e.ctorIdx=20 then @Expr.Attribute.elim (λe=>bY e k=Λ->P e) e i c h else iG i h
@[elab_as_elim] theorem D6{k}(h:xT e k=Λ)(c:∀x1 x2 x3 x4,k x1 x2 x3 x4=Λ->P (.BinOp x1 x2 x3 x4)):P e:=if i:e.ctorIdx=2 then @Expr.BinOp.elim (λe=>xT e k=Λ->P e) e i c h else iG i h
@[elab_as_elim] theorem t8{k}(h:nZ e k=Λ)(c:∀x1 x2 x3,k x1 x2 x3=Λ->P (.BoolOp x1 x2 x3)):P e:=if i:e.ctorIdx=0 then @Expr.BoolOp.elim (λe=>nZ e k=Λ->P e) e i c h else iG i h
@[elab_as_elim] theorem aS{k}(h:bR e k=Λ)(c:∀x1 x2 x3 x4,k x1 x2 x3 x4=Λ->P (.Call x1 x2 x3 x4)):P e:=if i:e.ctorIdx=16 then @Expr.Call.elim (λe=>bR e k=Λ->P e) e i c h else iG i h
@[elab_as_elim] theorem qB{k}(h:lJ e k=Λ)(c:∀x1 x2 x3 x4,k x1 x2 x3 x4=Λ->P (.Compare x1 x2 x3 x4)):P e:=if i:e.ctorIdx=15 then @Expr.Compare.elim (λe=>lJ e k=Λ->P e) e i c h else iG i h
@[elab_as_elim] theorem n6{k}(h:mU e k=Λ)(c:∀x1 x2 x3,k x1 x2 x3=Λ->P (.Constant x1 x2 x3)):P e:=if i:e.ctorIdx=19 then @Expr.Constant.elim (λe=>mU e k=Λ->P e) e i c h else iG i h
@[elab_as_elim] theorem zv{k}(h:xU e k=Λ)(c:∀x1 x2 x3,k x1 x2 x3=Λ->P (.Dict x1 x2 x3)):P e:=if i:e.ctorIdx=6 then @Expr.Dict.elim (λe=>xU e k=Λ->P e) e i c h else iG i h
@[elab_as_elim] theorem D7{k}(h:xV e k=Λ)(c:∀x1 x2 x3 x4,k x1 x2 x3 x4=Λ->P (.IfExp x1 x2 x3 x4)):P e:=if i:e.ctorIdx=5 then @Expr.IfExp.elim (λe=>xV e k=Λ->P e) e i c h else iG i h
@[elab_as_elim] theorem BK{k}(h:tZ e k=Λ)(c:∀x1 x2 x3 x4,k x1 x2 x3 x4=Λ->P (.Lambda x1 x2 x3 x4)):P e:=if i:e.ctorIdx=4 then @Expr.Lambda.elim (λe=>tZ e k=Λ->P e) e i c h else iG i h
@[elab_as_elim] theorem zw{k}(h:BJ e k=Λ)(c:∀x1 x2,k x1 x2=Λ->P (.List x1 x2)):P e:=if i:e.ctorIdx=24 then @Expr.List.elim (λe=>BJ e k=Λ->P e) e i c h else iG i h
@[elab_as_elim] theorem dG{k}(h:ie e k=Λ)(c:∀x1 x2 x3 x4,k x1 x2 x3 x4=Λ->P (.ListComp x1 x2 x3 x4)):P e:=if i:e.ctorIdx=8 then @Expr.ListComp.elim (λe=>ie e k=Λ->P e) e i c h else iG i h
@[elab_as_elim] theorem aF{k}(h:aY e k=Λ)(c:∀x1 x2,k x1 x2=Λ->P (.Name x1 x2)):P e:=if i:e.ctorIdx=23 then @Expr.Name.elim (λe=>aY e k=Λ->P e) e i c h else iG i h
@[elab_as_elim] theorem mw{k}(h:iT e k=Λ)(c:∀x1 x2 x3,k x1 x2 x3=Λ->P (.Subscript x1 x2 x3)):P e:=if i:e.ctorIdx=21 then @Expr.Subscript.elim (λe=>iT e k=Λ->P e) e i c h else iG i h
@[elab_as_elim] theorem jo{k}(h:n4 e k=Λ)(c:∀x1 x2 x3,k x1 x2 x3=Λ->P (.Tuple x1 x2 x3)):P e:=if i:e.ctorIdx=25 then @Expr.Tuple.elim (λe=>n4 e k=Λ->P e) e i c h else iG i h
@[elab_as_elim] theorem qC{k}(h:lL e k=Λ)(c:∀x1 x2 x3,k x1 x2 x3=Λ->P (.UnaryOp x1 x2 x3)):P e:=if i:e.ctorIdx=3 then @Expr.UnaryOp.elim (λe=>lL e k=Λ->P e) e i c h else iG i h
end
section
variable{P:Stmt->Prop}{e:Stmt}
@[elab_as_elim] theorem kO{k}(h:jn e k=Λ)(c:∀x1 x2 x3,k x1 x2 x3=Λ->P (.Assign x1 x2 x3)):P e:=if i:e.ctorIdx=5 then @Stmt.Assign.elim (λe=>jn e k=Λ->P e) e i c h else iG i h
@[elab_as_elim] theorem wK{k}(h:rS e k=Λ)(c:∀x1 x2,k x1 x2=Λ->P (.Expr x1 x2)):P e:=if i:e.ctorIdx=24 then @Stmt.Expr.elim (λe=>rS e k=Λ->P e) e i c h else iG i h
@[elab_as_elim] theorem n8{k}(h:pD e k=Λ)(c:∀x1 x2 x3 x4 x5,k x1 x2 x3 x4 x5=Λ->P (.For x1 x2 x3 x4 x5)):P e:=if i:e.ctorIdx=9 then @Stmt.For.elim (λe=>pD e k=Λ->P e) e i c h else iG i h
@[elab_as_elim] theorem pE{k}(h:ic e k=Λ)(c:∀x1 x2 x3 x4 x5 x6 x7 x8 x9 x10,k x1 x2 x3 x4 x5 x6 x7 x8 x9 x10=Λ->P (.FunctionDef x1 x2 x3 x4 x5 x6 x7 x8 x9 x10)):P e:=if i:e.ctorIdx=0 then @Stmt.FunctionDef.elim (λe=>ic e k=Λ->P e) e i c h else iG i h
@[elab_as_elim] theorem IX{k}(h:Gs e k=Λ)(c:∀x1 x2 x3 x4,k x1 x2 x3 x4=Λ->P (.If x1 x2 x3 x4)):P e:=if i:e.ctorIdx=12 then @Stmt.If.elim (λe=>Gs e k=Λ->P e) e i c h else iG i h
@[elab_as_elim] theorem qD{k}(h:lK e k=Λ)(c:∀x1 x2,k x1 x2=Λ->P (.Return x1 x2)):P e:=if i:e.ctorIdx=3 then @Stmt.Return.elim (λe=>lK e k=Λ->P e) e i c h else iG i h
@[elab_as_elim] theorem BL{k}(h:t7 e k=Λ)(c:∀x1 x2 x3 x4,k x1 x2 x3 x4=Λ->P (.While x1 x2 x3 x4)):P e:=if i:e.ctorIdx=11 then @Stmt.While.elim (λe=>t7 e k=Λ->P e) e i c h else iG i h
end
def isCall(e:Expr):Bool:=bR e λf xs ks _=>aY f λ_ _=>xs.isEmpty&&ks.isEmpty
def BM:W->Bool
 |.enum _=>Λ|_=>Ξ
noncomputable def U8:D->Const->Bool
 |.int i,c=>decide (c=.int i)|.bl i,c=>decide (c=.bool i)|.bz,c=>decide (c=.none)|.str i,c=>decide (c=.str i)|_,_=>Ξ
def zx(d:D)(e:Expr):Bool:=mU e λc _ _=>U8 d c
def glB(g:G):D->Str->Bool
 |.int i,x=>g.gl x&&decide (g.hZ.lookup x=Δ i)&&aR x|_,_=>Ξ
def CB(g:G)(k:E)(e:Expr):Bool:=match k with|.var i=>aY e λx _=>decide (g.N[i]?=Δ x)&&g.xP x&&aR x|.cst d=>zx d e|_=>Ξ
mutual
def gj(g:G):E->Expr->Bool
 |.var i=>λe=>aY e λx _=>decide (g.N[i]?=Δ x)&&g.xP x&&aR x|.cst d=>λe=>zx d e||aY e λx _=>glB g d x
 |.op o a b=>λe=>xT e λx p y _=>decide (p=Cz o)&&gj g a x&&gj g b y|.neg a=>λe=>lL e λop x _=>decide (op=.USub)&&gj g a x|.not a=>λe=>lL e λop x _=>decide (op=.Not)&&gj g a x|.cmp o a b=>λe=>lJ e λx ops ys _=>aU ops λp r=>aU ys λy s=>r.isEmpty&&s.isEmpty&&decide (p=j0 o)&&gj g a x&&gj g b y&&!cu y|.chain o o' a b c=>λe=>lJ e λx ops ys _=>aU ops λp r=>aU r λq r'=>aU ys λy s=>aU s λz s'=>r'.isEmpty&&s'.isEmpty&&decide (p=j0 o)&&decide (q=j0 o')&&gj g a x&&gj g b y&&gj g c z&&!cu y&&!cu z|.and es=>λe=>nZ e λop xs _=>decide (op=.And)&&gk g es xs|.or es=>λe=>nZ e λop xs _=>decide (op=.Or)&&gk g es xs|.ite c a b=>λe=>xV e λx y z _=>gj g c x&&gj g a y&&gj g b z|.tup es=>λe=>n4 e λxs _ _=>gk g es xs|.lst _ l=>λe=>KE g l e|.call f es=>λe=>bR e λf0 xs gZ _=>aY f0 λx _=>gZ.isEmpty&&decide (g.fns[f]?=Δ (x,es.length))&&g.gl x&&aR x&&gk g es xs|.KD a T=>λe=>bR e λf0 xs gZ _=>aY f0 λn _=>aU xs λx r=>aU r λt0 r'=>aY t0 λt _=>gZ.isEmpty&&r'.isEmpty&&decide (n="isinstance")&&g.gl "isinstance"&&decide (t=XH T)&&g.gl (XH T)&&decide (T∈lH)&&gj g a x&&notStar x|.bf f es=>λe=>bR e λf0 xs gZ _=>aY f0 λn _=>gZ.isEmpty&&decide (n=xQ f)&&g.gl (xQ f)&&gk g es xs&&!xs.isEmpty|.ix a b=>λe=>iT e λx y _=>gj g a x&&gj g b y&&!xR y|.qT _=>λe=>xU e λks vs _=>ks.isEmpty&&vs.isEmpty|.nS i es=>λe=>bR e λf0 xs gZ _=>aY f0 λx _=>gZ.isEmpty&&decide (g.N[i]?=Δ x)&&g.xP x&&aR x&&gk g es xs&&!xs.isEmpty&&g.cv|.iQ f es ls=>λe=>bR e λf0 xs gZ _=>aY f0 λx _=>gZ.isEmpty&&g.KE f x es.length ls&&g.gl x&&aR x&&gk g es xs&&!xs.isEmpty|.jc i es ls=>λe=>bR e λf0 xs gZ _=>aY f0 λx _=>gZ.isEmpty&&decide (g.N[i]?=Δ x)&&g.xP x&&aR x&&g.Qo i x ls&&gk g es xs&&!xs.isEmpty|.lam k=>λe=>tZ e λparams body scope pos=>g.Qm k params body scope pos|.DN a b=>λe=>bR e λf0 xs gZ cp=>bY f0 λo n ap=>aU xs λx r=>r.isEmpty&&gZ.isEmpty&&(ap.endLine==cp.line)&&decide (n="pop")&&!isCall o&&gj g a o&&gj g b x&&notStar x|.sP a b c=>λe=>bR e λf0 xs gZ cp=>bY f0 λo n ap=>aU xs λx r=>aU r λy r'=>r'.isEmpty&&gZ.isEmpty&&(ap.endLine==cp.line)&&decide (n="setdefault")&&!isCall o&&gj g a o&&gj g b x&&notStar x&&gj g c y&&notStar y|.DP k d=>λe=>xU e λks vs _=>aU ks λk0 r=>xS k0 λkx=>aU vs λv0 r'=>r.isEmpty&&r'.isEmpty&&CB g k kx&&zx d v0|.DO a=>λe=>bR e λf0 xs gZ cp=>bY f0 λo n ap=>xs.isEmpty&&gZ.isEmpty&&(ap.endLine==cp.line)&&decide (n="pop")&&!isCall o&&gj g a o|.attr c f i=>λe=>bY e λo m _=>aY o λx _=>decide (m=f)&&g.yv c f&&decide (g.N[i]?=Δ x)&&g.xP x&&aR x|.o6 k c m i es=>λe=>bR e λf0 xs gZ cp=>bY f0 λo mm ap=>aY o λx _=>gZ.isEmpty&&decide (mm=m)&&g.AV k c m es.length&&decide (g.N[i]?=Δ x)&&g.xP x&&aR x&&gk g es xs&&(ap.endLine==cp.line)&&decide (xs.length < 30)|.make k c es=>λe=>bR e λf0 xs gZ _=>aY f0 λx _=>gZ.isEmpty&&decide (x=c)&&g.AW k c es.length&&g.gl x&&aR x&&gk g es xs&&!xs.isEmpty
def okM(g:G):Option E->Option Expr->Bool
 |none=>λo=>o.isNone|some e=>λo=>xS o λx=>gj g e x
def gk(g:G):List E->List Expr->Bool
 |[]=>λl=>l.isEmpty|e::es=>λl=>aU l λx xs=>gj g e x&&notStar x&&gk g es xs
def SA(g:G):Option E->List Expr->Bool
 |none=>λl=>l.isEmpty|some c=>λl=>aU l λi r=>r.isEmpty&&gj g c i
def KE(g:G):L->Expr->Bool
 |.e7 es=>λe=>BJ e λxs _=>gk g es xs|.comp w ts js c e=>λe0=>ie e0 λelt gens sc _=>aU gens λge r=>CA ge λtg iter ifs a=>aY tg λx _=>r.isEmpty&&decide (ts=1)&&decide (a=0)&&SD g w iter&&!BM w&&Gr g 1 (gJ g x js) js sc&&decide (sc.names.lookup x=Δ .local)&&decide (gJ g x js).Nodup&&SA (g.inner (gJ g x js) sc) c ifs&&gj (g.inner (gJ g x js) sc) e elt&&!cu iter|.kD w js c e=>λe0=>ie e0 λelt gens sc _=>aU gens λge r=>CA ge λtg iter ifs a=>n4 tg λns _ _=>aU ns λn1 U9=>aY n1 λx _=>aU U9 λn2 Va=>aY n2 λy _=>Va.isEmpty&&r.isEmpty&&decide (a=0)&&SD g w iter&&Gr g 2 (kN g x y js) js sc&&decide (sc.names.lookup x=Δ .local)&&decide (sc.names.lookup y=Δ .local)&&decide (kN g x y js).Nodup&&SA (g.inner (kN g x y js) sc) c ifs&&gj (g.inner (kN g x y js) sc) e elt&&!cu iter|.sorted e=>λe0=>bR e0 λf0 xs gZ _=>aY f0 λn _=>aU xs λx r=>r.isEmpty&&gZ.isEmpty&&decide (n="sorted")&&g.gl "sorted"&&gj g e x&&notStar x|.keys e=>λe0=>bR e0 λf0 xs gZ _=>aY f0 λn _=>aU xs λx r=>r.isEmpty&&gZ.isEmpty&&decide (n="list")&&g.gl "list"&&gj g e x&&notStar x|.iJ es=>λe0=>bR e0 λf0 ys gZ _=>aY f0 λn _=>aU ys λy r=>bR y λf1 xs Mv _=>aY f1 λn1 _=>r.isEmpty&&gZ.isEmpty&&Mv.isEmpty&&decide (n="list")&&g.gl "list"&&decide (n1="range")&&g.gl "range"&&gk g es xs|.zip a b=>λe0=>bR e0 λf0 ys gZ _=>aY f0 λn _=>aU ys λy r=>bR y λf1 xs Mv _=>aY f1 λn1 _=>aU xs λx1 r1=>aU r1 λx2 r2=>r.isEmpty&&r2.isEmpty&&gZ.isEmpty&&Mv.isEmpty&&decide (n="list")&&g.gl "list"&&decide (n1="zip")&&g.gl "zip"&&gj g a x1&&notStar x1&&gj g b x2&&notStar x2|.cm e js c ee=>λe0=>ie e0 λelt gens sc _=>aU gens λge r=>CA ge λtg iter ifs a=>aY tg λx _=>r.isEmpty&&decide (a=0)&&gj g e iter&&Gr g 1 (gJ g x js) js sc&&decide (sc.names.lookup x=Δ .local)&&decide (gJ g x js).Nodup&&SA (g.inner (gJ g x js) sc) c ifs&&gj (g.inner (gJ g x js) sc) ee elt&&!cu iter
def SD(g:G):W->Expr->Bool
 |.ex e=>λx=>gj g e x&&!cu x|.iJ es=>λx=>bR x λf0 xs gZ _=>aY f0 λn _=>gZ.isEmpty&&decide (n="range")&&g.gl "range"&&gk g es xs|.xI es=>λx=>bR x λf0 xs gZ _=>aY f0 λn _=>gZ.isEmpty&&decide (n="range")&&g.gl "range"&&gk g es xs|.enum e=>λx=>bR x λf0 xs gZ _=>aY f0 λn _=>aU xs λy r=>r.isEmpty&&gZ.isEmpty&&decide (n="enumerate")&&g.gl "enumerate"&&gj g e y&&notStar y
end
def BN(K:KB)(c:List P->aL->R P)(n:Nat):Sp:=λvs H Q _=>∃m Z qs st,vs.length=n/\ah K H m Z qs vs/\ax K H m Z st/\Ok K Z (c qs st) m H (λp _ m' H'=>∀v,ai K H' m' Z p v->Q v H')
structure uc(X:Cx)(kt:KT)(c:List P->aL->R P)(x:Str)(n:Nat):Prop where
 ex:∃(k:Nat) (f:Addr) (fd:YD) (ps:List Str),gz X.prog X.w X.K X.mg X.base uR k f fd ps (BN (af X kt) c n)/\
  cY k X.A/\X.mg x=Δ (.ref f)/\Y6 X.K (.ref f)=Λ/\Binds X.K fd ps []
noncomputable def ud:List Str:=["len","min","max","all","any","sum","str","tuple","list","int","bool","isinstance","range","zip","enumerate","sorted"]
def Qp(K:KB)(c:List P->aL->R P)(cd:Addr)(q:Str)(bT:List V):Sp:=λvs H Q _=>H cd=Δ (.ext (dv cd q))/\∃m Z qs br st,ah K H m Z qs vs/\ah K H m Z br bT/\ax K H m Z st/\Ok K Z (c (qs++br) st) m H (λp _ m' H'=>∀v,ai K H' m' Z p v->Q v H')
structure CC(X:Cx)(kt:KT)(C:Nat->List P->aL->R P)(k:Nat)(a c:Addr)(bT:List V):Prop where
 ob:∃oc od fd sl,X.base.get? a=Δ ⟨oc,od,.func fd,sl⟩
 ex:∃(n:Nat) (fd:YD) (ps:List Str),gz X.prog X.w X.K X.mg X.base uR n a fd ps (Qp (af X kt) (C k) c (kt.zp k) bT)/\cY n X.A/\Binds X.K fd ps []
structure Good(X:Cx)(kt:KT)(g:G)(C:Nat->List P->aL->R P):Prop where
 N:X.N=g.N
 loc:∀x,g.names.lookup x=Δ .local->X.env.scope.names.lookup x=Δ .local
 HA:∀x,(g.names.lookup x=Δ .cell\/g.names.lookup x=Δ .free)->(X.env.scope.names.lookup x=Δ .cell\/X.env.scope.names.lookup x=Δ .free)
 gl:∀x,g.names.lookup x=Δ .globalImplicit->X.env.scope.names.lookup x=Δ .globalImplicit
 calm:X.calm=Λ
 hu:X.A.units+100 < cLine
 bl:∀x∈ud,X.mg x=Θ
 fn:∀(k:Nat) (x:Str) (n:Nat),g.fns[k]?=Δ (x,n)->uc X kt (C k) x n
 cs:∀x i,g.hZ.lookup x=Δ i->∃t,X.mg x=Δ (.int i t)
 tb:∀x t,g.tabs.lookup x=Δ t->∃a,X.mg x=Δ (.ref a)/\Px X.K a t
 fld:∀c f,g.yv c f=Λ->∃A,W3 X.K WY c=Δ (Δ (.ref A))/\AR X.K A/\jD X.K A f
 Ob:∀k c m n,g.AV k c m n=Λ->∃A l fa fd ps,W3 X.K WY c=Δ (Δ (.ref A))/\AR X.K A/\A5 X.K A m fa/\gz X.prog X.w X.K X.mg X.base uR l fa fd ps (BN (af X kt) (C k) (n+1))/\cY l X.A/\Binds X.K fd ps []
 Oc:∀k c n,g.AW k c n=Λ->∃A l fa fd ps,X.mg c=Δ (.ref A)/\W3 X.K WY c=Δ (Δ (.ref A))/\Mk X.K A fa/\gz X.prog X.w X.K X.mg X.base uR l fa fd ps (BN (af X kt) (C k) (n+1))/\cY (l+1) X.A/\Binds X.K fd ps []
 qy:g.cv=Λ->∀k a c bT,kt.qy k a c bT->CC X kt C k a c bT
 lam:∀k params body scope pos,g.Qm k params body scope pos=Λ->∀Z,PE X (.Lambda params body scope pos) (tE (af X kt) Z (aa C (.lam k)))
 iQ:∀f x n ls,g.KE f x n ls=Λ->∀(Z:List Addr) (e:Expr) (es:List Expr) (bV:List E) (p pos:Pos),bV.length=n->g.gl x=Λ->aR x=Λ->(∀y∈e::es,notStar y=Λ)->PA X (e::es) (tA (af X kt) Z (aA C bV))->
  PE X (.Call (.Name x p) (e::es) [] pos) (tE (af X kt) Z (aa C (.iQ f bV ls)))
 jc:∀i x ls,g.Qo i x ls=Λ->∀(Z:List Addr) (e:Expr) (es:List Expr) (bV:List E) (p pos:Pos),g.N[i]?=Δ x->g.xP x=Λ->aR x=Λ->(∀y∈e::es,notStar y=Λ)->PA X (e::es) (tA (af X kt) Z (aA C bV))->
  PE X (.Call (.Name x p) (e::es) [] pos) (tE (af X kt) Z (aa C (.jc i bV ls)))
section
variable{X:Cx}{g:G}{C:Nat->List P->aL->R P}{Z:List Addr}{e:Expr}{es:List Expr}
theorem Good.xP(T:Good X kt g C)(h:g.xP x=Λ):OC X.env.scope x:=by
 unfold G.xP at h;split at h;·exact .inl (T.loc _ ‹_›)
 ·rcases T.HA x (.inl ‹_›) with q|q;·exact .inr (.inl q)
  ·exact .inr (.inr q)
 ·rcases T.HA x (.inr ‹_›) with q|q;·exact .inr (.inl q)
  ·exact .inr (.inr q)
 ·cases h
theorem Good.glob(T:Good X kt g C)(h:g.gl x=Λ):Gl X x:=T.gl x (of_decide_eq_true h)
theorem PE.imp(h:PE X e t)(i:∀σ H Q,t' σ H Q->t σ H Q):PE X e t':=λη s σ H Q I q=>h η s σ H Q I (i σ H Q q)
theorem PT.imp(h:PT X e t)(i:∀σ H Q,t' σ H Q->t σ H Q):PT X e t':=λη s σ H Q I q=>h η s σ H Q I (i σ H Q q)
theorem PW.imp(h:PW X e t)(i:∀σ H Q,t' σ H Q->t σ H Q):PW X e t':=λwh η s σ H Q I q=>h wh η s σ H Q I (i σ H Q q)
theorem PA.imp(h:PA X es t)(i:∀σ H Q,t' σ H Q->t σ H Q):PA X es t':=λpos η s σ H Q I q=>h pos η s σ H Q I (i σ H Q q)
theorem pn(h:aR x=Λ):(x==("__debug__":Str))=Ξ/\(x==("__classdict__":Str))=Ξ/\x≠"__name__":=by unfold aR at h;simp only[WC,Xe] at h;exact⟨h.1.1,h.1.2,λz=>by rw[z] at h;exact absurd h.2 (by simp)⟩
theorem bj(h:notStar e=Λ):Xf (e::es) env=(Ξ,eval e env)::Xf es env:=by
 cases e<;>first
  |rfl
  |exact absurd (show Ξ=Λ from h) Xw
theorem zy(T:Good X kt g C)(h1:g.N[i]?=Δ x)(h2:g.xP x=Λ)(h3:aR x=Λ):PE X (.Name x pos) (tE (af X kt) Z (aa C (.var i))):=by
 refine PE.imp (AX (i:=i) (by rw[T.N];exact h1) (T.xP h2) (pn h3).1 (pn h3).2.1) ?_;rintro σ H Q ⟨m,r,st,ar,as,h⟩;obtain⟨p,e,q,_⟩:=Ok.of (show Ok (af X kt) Z (R.of (kg r i) st) m H _ from h) as;have e':r[i]?=Δ (Δ p):=by unfold kg at e;cases q:r[i]? with|none=>rw[q] at e;cases e|some o=>rw[q] at e;simp at e;rw[e]
 obtain⟨v,ev,rv⟩:=ar.at_ i p e';exact⟨v,ev,q v rv⟩
theorem zA(h:PE X e (tC v))(hr:∀H m,aI (af X kt) H m Z x v):PE X e (tE (af X kt) Z (aa C (.cst x))):=by refine PE.imp h ?_;rintro σ H Q ⟨m,r,st,ar,as,q⟩;exact Ok.here (show Ok (af X kt) Z (R.ok (P.d x) st) m H _ from q) as v (hr H m)
theorem Gu(h:zx d e=Λ):∃v,PE X e (tC v)/\∀K H m Z,aI K H m Z d v:=by refine n6 h λc _ _ h=>?_;cases d with|int i=>obtain rfl:=of_decide_eq_true h;exact⟨_,ER,λ_ _ _ _=>rfl⟩|bl i=>obtain rfl:=of_decide_eq_true h;exact⟨_,Kd,λ_ _ _ _=>rfl⟩|bz=>obtain rfl:=of_decide_eq_true h;exact⟨_,ES,λ_ _ _ _=>rfl⟩|str i=>obtain rfl:=of_decide_eq_true h;exact⟨_,ET,λ_ _ _ _=>rfl⟩|tup _=>exact ft h|pl _=>exact ft h
theorem IY(T:Good X kt g C)(h:CB g k e=Λ):∃tk,PE X e tk/\∀{σ} {H} {m} {ρ} {st},cq (af X kt) H m Z ρ σ->aa C k ρ st=.no\/∃y v,aa C k ρ st=.ok y st/\ai (af X kt) H m Z y v/\∀(Q) (H'),Q v H'->tk σ H' Q:=by
 unfold CB at h;split at h
 ·rename_i i;refine aF h λ_ _ h=>?_
  ·simp only[WC,qqq] at h;refine⟨_,AX (i:=i) (by rw[T.N];exact h.1.1) (T.xP h.1.2) (pn h.2).1 (pn h.2).2.1,λ{σ H m ρ st} ar=>?_⟩;rw[lF];cases e:kg ρ i with
   |none=>exact .inl rfl|some p=>
    have e':ρ[i]?=Δ (Δ p):=by unfold kg at e;cases q:ρ[i]? with|none=>rw[q] at e;cases e|some o=>rw[q] at e;simp at e;rw[e]
    obtain⟨v,ev,rv⟩:=ar.at_ i p e';exact .inr ⟨p,v,rfl,rv,λQ H' q=>⟨v,ev,q⟩⟩
 ·rename_i d;obtain⟨v,hv,hr⟩:=Gu (X:=X) h;exact⟨_,hv,λ{σ H m ρ st} ar=>.inr ⟨.d d,v,rfl,(show aI (af X kt) H m Z d v from hr _ _ _ _),λQ H' q=>q⟩⟩
 ·cases h
theorem CD{f:Value->Value->Sem Value}{r:R2}{da db:cj->aL->R P}{k:P->P->aL->R P}{σ:L2.St}{H:Hp}{Q:VK}
  (hr:∀(x y:P) (v u:V) (m:List Addr) (H:Hp) (st:aL) (Q:VK),ax (af X kt) H m Z st->ai (af X kt) H m Z x v->ai (af X kt) H m Z y u->Ok (af X kt) Z (k x y st) m H (λp _ m' H'=>∀v,ai (af X kt) H' m' Z p v->Q v H')->r v u H Q)
  (h:tE (af X kt) Z (λρ st=>(da ρ st).bind λx st1=>(db ρ st1).bind λy st2=>k x y st2) σ H Q):OU r (tE (af X kt) Z da) (tE (af X kt) Z db) σ H Q:=by
 obtain⟨m,ρ,st,ar,as,h⟩:=h;refine⟨m,ρ,st,ar,as,(Ok.bind h).mono λx st1 m1 H1 bC aW h1 v rv=>?_⟩;refine⟨m1,ρ,st1,ar.le bC,aW,(Ok.bind h1).mono λy st2 m2 H2 fb eE h2 u ru=>?_⟩;exact hr x y v u m2 H2 st2 Q eE (rv.le fb) ru h2
theorem ak.map{K:KB}:∀{xs} {us},ak K H m Z xs us->ah K H m Z (xs.map .d) us
 |[],_,h=>h|x::xs,us,h=>by obtain⟨v,vs,e,r,rs⟩:=(show ∃v vs,us=v::vs/\aI K H m Z x v/\ak K H m Z xs vs from h);exact⟨v,vs,e,r,ak.map rs⟩
theorem ah.bw{K:KB}:∀{ps} {xs} {us},ah K H m Z ps us->Y.bw ps=Δ xs->ak K H m Z xs us
 |[],xs,us,h,e=>by cases e;exact h|p::ps,xs,us,h,e=>by obtain⟨v,vs,e1,r,rs⟩:=(show ∃v vs,us=v::vs/\ai K H m Z p v/\ah K H m Z ps vs from h);cases p with|obj n=>cases e|gW n=>cases e|fn k c=>cases e|lf k=>cases e|d x=>have e':(Y.bw ps).map (λxs=>x::xs)=Δ xs:=e;cases q:Y.bw ps with|none=>rw[q] at e';cases e'|some zs=>rw[q] at e';cases e';exact⟨v,vs,e1,r,ah.bw rs q⟩
theorem ah.append{K:KB}:∀{ps qs} {us vs},ah K H m Z ps us->ah K H m Z qs vs->ah K H m Z (ps++qs) (us++vs)
 |[],_,us,_,h,h'=>by cases (show us=[] from h);exact h'|p::ps,qs,us,vs,h,h'=>by obtain⟨v,w',rfl,r,rs⟩:=(show ∃v vs,us=v::vs/\ai K H m Z p v/\ah K H m Z ps vs from h);exact⟨v,w'++vs,rfl,r,ah.append rs h'⟩
theorem ak.append{K:KB}:∀{ps qs} {us vs},ak K H m Z ps us->ak K H m Z qs vs->ak K H m Z (ps++qs) (us++vs)
 |[],_,us,_,h,h'=>by cases (show us=[] from h);exact h'|p::ps,qs,us,vs,h,h'=>by obtain⟨v,w',rfl,r,rs⟩:=(show ∃v vs,us=v::vs/\aI K H m Z p v/\ak K H m Z ps vs from h);exact⟨v,w'++vs,rfl,r,ak.append rs h'⟩
theorem ak.length{K:KB}:∀{ps} {us},ak K H m Z ps us->us.length=ps.length
 |[],us,h=>by cases (show us=[] from h);rfl|p::ps,us,h=>by obtain⟨v,w',rfl,r,rs⟩:=(show ∃v vs,us=v::vs/\aI K H m Z p v/\ak K H m Z ps vs from h);rw[WZ,WZ,ak.length rs]
theorem ah.length{K:KB}:∀{ps} {us},ah K H m Z ps us->us.length=ps.length
 |[],us,h=>by cases (show us=[] from h);rfl|p::ps,us,h=>by obtain⟨v,w',rfl,r,rs⟩:=(show ∃v vs,us=v::vs/\ai K H m Z p v/\ah K H m Z ps vs from h);rw[WZ,WZ,ah.length rs]
theorem ah.get{K:KB}:∀{ps} {us} {i:Nat} {p},ah K H m Z ps us->ps[i]?=Δ p->∃v,us[i]?=Δ v/\ai K H m Z p v
 |[],us,i,p,h,e=>by simp at e|q::ps,us,i,p,h,e=>by obtain⟨v,w',rfl,r,rs⟩:=(show ∃v vs,us=v::vs/\ai K H m Z q v/\ah K H m Z ps vs from h);cases i with|zero=>simp at e;subst e;exact⟨v,by simp,r⟩|succ i=>simpa using ah.get rs (by simpa using e)
theorem cK{K:KB}{st:aL}(as:ax K H m Z st)(h:bM st p=Δ ps)(r:ai K H m Z p v):∃a us,v=.ref a/\Rd H a (.lst us)/\ah K H m Z ps us:=by
 cases p with
 |d x=>cases x with|pl xs=>have e:Δ (xs.map P.d)=Δ ps:=h;cases e;obtain⟨a,us,e,q,_,_,rs⟩:=r;exact⟨a,us,e,q,rs.map⟩|_=>cases h
 |obj n=>
  obtain⟨a,e,rfl⟩:=r;have h':(match st[n]? with|some (.lst xs)=>Δ xs|_=>Θ)=Δ ps:=h;split at h';·rename_i xs hs;cases h';obtain⟨a',e',o⟩:=as.at_ n _ hs;rw[e] at e';cases e';obtain⟨us,hu,rs⟩:=o;exact⟨a,us,rfl,.inl hu,rs⟩
  ·cases h'
 |gW n=>cases h|fn k c=>cases h|lf k=>cases h
theorem zB{K:KB}:∀ns:List Int,ah K H m Z (ns.map λi=>P.d (.int i)) (ns.map V.int)
 |[]=>rfl|n::ns=>⟨_,_,rfl,rfl,zB ns⟩
theorem lM{K:KB}{st:aL}(as:ax K H m Z st)(h:gE st p=Δ ps)(r:ai K H m Z p v):∃a us,v=.ref a/\(ke K.K H a us\/H a=Δ (.tup us))/\ah K H m Z ps us:=by
 cases p with
 |d x=>cases x with|tup xs=>have e:Δ (xs.map P.d)=Δ ps:=h;cases e;obtain⟨a,us,e,q,rs⟩:=r;exact⟨a,us,e,.inr q,rs.map⟩|pl xs=>obtain⟨a,us,e,q,rs⟩:=cK as (show bM st (.d (.pl xs))=Δ ps from h) r;exact⟨a,us,e,.inl (.inl q),rs⟩|bz=>cases h|bl b=>cases h|int b=>cases h|str b=>cases h
 |obj n=>obtain⟨a,us,e,q,rs⟩:=cK as (show bM st (.obj n)=Δ ps from h) r;exact⟨a,us,e,.inl (.inl q),rs⟩|gW n=>have e:Δ (n.map λi=>P.d (.int i))=Δ ps:=h;cases e;obtain⟨a,e,q⟩:=r;exact⟨a,_,e,.inl q.sq,zB n⟩|fn k c=>cases h|lf k=>cases h
theorem KG{K:WO}(h:ke K H a us\/H a=Δ (.tup us)):ke K H a us\/fK K H a us:=h.imp_right fK.of
theorem rT{K:KB}{H:Hp}{m Z:List Addr}{st:aL}{xs:List D}{us:List V}{α:Type}{Q:V->Hp->Prop}(as:ax K H m Z st)(r:ak K H m Z xs us){a:Addr}(ha:H a=Θ)
  (h:Ok K Z (R.ok (P.d (.tup xs)) st) m H (λp _ m' H'=>∀v,ai K H' m' Z p v->Q v H')):Q (.ref a) (upd H a (.tup us)):=by
 have le:Le K m H m (upd H a (.tup us)):=Le.same (be ha _);exact h m (upd H a (.tup us)) le (as.same (be ha _)) (.ref a) ⟨a,us,rfl,aD,r.le le⟩
theorem Mw{K:KB}{st:aL}{Q:V->Hp->Prop}(as:ax K H m Z st)(r:ak K H m Z xs us)(ha:H a=Θ)(h:Ok K Z (R.ok (P.d (.pl xs)) st) m H (λp _ m' H'=>∀v,ai K H' m' Z p v->Q v H')):Q (.ref a) (upd H a (.lst us)):=by have le:Le K m H m (upd H a (.lst us)):=Le.same (be ha _);exact h m (upd H a (.lst us)) le (as.same (be ha _)) (.ref a) ⟨a,us,rfl,.inl aD,(as.fresh ha).1,(as.fresh ha).2,r.le le⟩
end
section
variable{X:Cx}{g:G}{C:Nat->List P->aL->R P}{Z:List Addr}{e:Expr}{es:List Expr}
theorem dn:aw=W8:=by rw[XF];rfl
theorem CF(h:Rd H a (.lst xs))(I:Inv X η σ H s):
  xs.length<=W8/\∃(its:List Value) (n:Nat),aO xs its/\s.heap.get? a=Δ {cls:=.type "list",data:=.seq its.toArray n}:=h.ok I.aK
def KH:R2:=λx y H Q=>∃l b xs zs,x=.ref l/\y=.ref b/\Rd H l (.lst xs)/\Rd H b (.lst zs)/\xs.length+zs.length<=W8/\∀p,H p=Θ->Q (.ref p) (upd H p (.lst (xs++zs)))
theorem IZ:jZ X (Y4 .Add) KH:=by
 intro η s σ H x y v u Q I rx ry h;obtain⟨l,b,xs,zs,rfl,rfl,hH,hB,hz,q⟩:=h;cases rx;cases ry;obtain⟨z,its,n,r,e⟩:=CF hH I;obtain⟨z2,Ff,n2,r2,e2⟩:=CF hB I;have hl:=r.length;have vh:=r2.length;refine PySem.P.add_list e e2 ?_ (by rw[WX,WX];lia);have ea:its.toArray++Ff.toArray=(its++Ff).toArray:=by simp
 rw[ea];exact⟨.ref _,_,I.Ud (t':=s.toks) (r.append r2) (by rw[W1];lia),rfl,q _ I.fresh⟩
noncomputable def Vb:R2:=λx y H Q=>∃i j,x=.str i/\y=.str j/\i.length+j.length<=W8/\Q (.str (i++j)) H
def Qq(K:WO):Qd->R2
 |.add=>λv u H Q=>Ci (λi j=>.int (i+j)) v u H Q\/Vb v u H Q\/Km v u H Q\/KH v u H Q|.sub=>Ci λi j=>.int (i - j)|.mul=>λv u H Q=>rI HR (λi j=>.int (i*j)) v u H Q\/Kn v u H Q\/Kp v u H Q\/Kq v u H Q|.mod=>rI (λ_ j=>0 < j) λi j=>.int (i % j)
theorem Mx:∀o,jZ X (Y4 (Cz o)) (Qq X.K o)
 |.add=>Lq.or (A3.or (IC.or IZ))|.sub=>Lr|.mul=>Ls.or (Ft.or (Fv.or Fw))|.mod=>Lu
theorem My{K:KB}{st:aL}(as:ax K H m Z st)(rx:ai K H m Z x v)(ry:ai K H m Z y u)(h:Ok K Z (R.of (IL o x y st) st) m H (λp _ m' H'=>∀v,ai K H' m' Z p v->Q v H')):Qq K.K o v u H Q:=by
 obtain⟨p,e,q,qq⟩:=Ok.of h as;unfold IL at e;split at e
 ·rename_i i j;cases (show v=.int i from rx);cases (show u=.int j from ry);cases o with
  |add=>cases e;exact .inl ⟨i,j,rfl,rfl,q _ rfl⟩|sub=>cases e;exact⟨i,j,rfl,rfl,q _ rfl⟩|mul=>
   unfold mF at e;simp only at e;split at e;·rename_i hc;cases e;exact .inl ⟨i,j,rfl,rfl,hc,q _ rfl⟩
   ·cases e
  |mod=>
   unfold mF at e;simp only at e;split at e;·rename_i hc;cases e;exact⟨i,j,rfl,rfl,hc,q _ rfl⟩
   ·cases e
 ·rename_i x y;cases (show v=.str x from rx);cases (show u=.str y from ry);split at e;·rename_i hc;cases e;exact .inr (.inl ⟨x,y,rfl,rfl,by rw[<-dn];exact hc,q _ rfl⟩)
  ·cases e
 ·rename_i xs ys;obtain⟨a,us,rfl,ha,ra⟩:=rx;obtain⟨b,vs,rfl,hb,rb⟩:=ry;split at e;·rename_i hc;cases e;refine .inr (.inr (.inl ⟨a,b,us,vs,rfl,rfl,ha,hb,by rw[ra.length,rb.length,<-dn];exact hc,λr H' sm hr=>?_⟩));have le:Le K m H m H':=Le.same sm;exact qq m H' le (as.same sm) (.ref r) ⟨r,us++vs,rfl,hr,(ra.append rb).le le⟩
  ·cases e
 ·rename_i xs k;obtain⟨a,us,rfl,ha,ra⟩:=rx;cases (show u=.int k from ry);split at e;·rename_i hc;cases e;subst hc;exact .inr (.inr (.inr ⟨a,us,rfl,rfl,ha,q (.ref a) ⟨a,us,rfl,ha,ra⟩⟩))
  split at e
  ·rename_i hc;cases e;obtain⟨rfl,h1,h2⟩:=hc;refine .inr (.inl ⟨a,us,rfl,rfl,ha,λz=>?_,by rw[ra.length];exact h2,λp hp=>?_⟩)
   ·have:=ra.length;rw[z] at this;simp at this
    lia
   ·exact rT (α:=Unit) as (ra.append ra) hp qq
  split at e
  ·rename_i hc;cases e;obtain⟨rfl,h1,h2⟩:=hc;refine .inr (.inr (.inl ⟨a,us,rfl,rfl,ha,λz=>?_,by rw[ra.length];exact h2,λp hp=>?_⟩))
   ·have:=ra.length;rw[z] at this;simp at this
    lia
   ·exact rT (α:=Unit) as ((ra.append ra).append ra) hp qq
  ·cases e
 ·rename_i h1 h2 h3;cases ha:bM st x with
  |none=>rw[ha] at e;cases e|some ps=>
   cases hb:bM st y with
   |none=>rw[ha,hb] at e;cases e|some qs=>
    rw[ha,hb] at e;simp only[Yf] at e;cases hz:bw (ps++qs) with
    |none=>rw[hz] at e;cases e|some zs=>
     rw[hz] at e;simp only[Yf] at e;split at e;·rename_i hc;cases e;obtain⟨c,us,rfl,hc1,rc⟩:=cK as ha rx;obtain⟨d,vs,rfl,hd1,rd⟩:=cK as hb ry;have rr:=(rc.append rd).bw hz;have hlen:=rr.length;rw[W1] at hlen;refine .inr (.inr (.inr ⟨c,d,us,vs,rfl,rfl,hc1,hd1,by rw[<-dn];lia,λp hp=>?_⟩));exact Mw as rr hp qq
     ·cases e
 ·cases e
theorem Vc(ha:PE X a (tE (af X kt) Z (aa C ea)))(hb:PE X b (tE (af X kt) Z (aa C eb))):PE X (.BinOp a (Cz o) b pos) (tE (af X kt) Z (aa C (.op o ea eb))):=
 PE.imp (OV (Mx o) ha hb) λσ H Q h=>CD (f:=Y4 (Cz o)) (λx y v u m H st Q as rx ry h=>My as rx ry h) h
theorem b7{α β:Type}{o:Option α}{f:α->Option β}{b:β}(h:o.bind f=Δ b):∃a,o=Δ a/\f a=Δ b:=by cases o with|none=>cases h|some a=>exact⟨a,rfl,h⟩
theorem fI{α β:Type}{o:Option α}{f:α->β}{b:β}(h:o.map f=Δ b):∃a,o=Δ a/\f a=b:=by cases o with|none=>cases h|some a=>exact⟨a,rfl,by simpa using h⟩
theorem kP{K:KB}{st:aL}(as:ax K H m Z st)(h:l7 st p=Δ x)(r:ai K H m Z p v):aI K H [] [] x v:=by
 cases p with
 |d y=>cases h;exact aI.bare r|obj n=>
  obtain⟨a,e,rfl⟩:=r;have h':(match st[n]? with|some (.lst xs)=>(bw xs).map D.pl|_=>Θ)=Δ x:=h;split at h';·rename_i xs hs;obtain⟨a',e',o⟩:=as.at_ n _ hs;rw[e] at e';cases e';obtain⟨us,hu,rs⟩:=o;cases hd:bw xs with|none=>rw[hd] at h';cases h'|some ys=>rw[hd] at h';cases h';exact⟨a,us,rfl,.inl hu,by simp,by simp,(rs.bw hd).bare⟩
  ·cases h'
 |gW n=>cases h|fn k c=>cases h|lf k=>cases h
theorem ai.key{K:KB}(r:ai K H m Z p v)(e:keyOf p=Δ k):v=kV k:=by
 unfold keyOf at e;split at e;·cases e;exact r
 ·cases e;exact r
 ·cases e
theorem ak.keys{K:KB}:∀{xs} {ks} {us},ak K H m Z xs us->keysOf xs=Δ ks->us=ks.map kV
 |[],ks,us,h,e=>by cases e;exact h|x::xs,ks,us,h,e=>by obtain⟨v,vs,rfl,r,rs⟩:=(show ∃v vs,us=v::vs/\aI K H m Z x v/\ak K H m Z xs vs from h);unfold keysOf at e;cases e1:keyOf (.d x) with|none=>rw[e1] at e;cases e|some k=>rw[e1] at e;cases e2:keysOf xs with|none=>rw[e2] at e;cases e|some k2=>rw[e2] at e;cases e;rw[ak.keys rs e2,ai.key (show ai K H m Z (.d x) v from r) e1];rfl
theorem ai.mN{K:KB}(r:ai K H m Z p v)(e:Y.mN p=Δ k):∃b,v=.ref b/\H b=Δ (.tup (k.map kV)):=by
 unfold Y.mN at e;split at e;·obtain⟨b,us,rfl,h1,rs⟩:=r;exact⟨b,rfl,by rw[<-ak.keys rs e];exact h1⟩
 ·cases e
theorem aN.val{κ:Type}[DecidableEq κ]{K:KB}{k:κ}:∀{kvs} {us},aN K H m Z kvs us->(fG us k).isSome=(fH kvs k).isSome/\∀p,fH kvs k=Δ p->∃v,fG us k=Δ v/\ai K H m Z p v
 |[],us,h=>by cases (show us=[] from h);exact⟨rfl,λp e=>by cases e⟩|x::xs,us,h=>by
  obtain⟨v,vs,rfl,r,rs⟩:=(show ∃v vs,us=(x.1,v)::vs/\ai K H m Z x.2 v/\aN K H m Z xs vs from h);obtain⟨i1,i2⟩:=aN.val (k:=k) rs;by_cases hk:x.1=k
  ·have e1:fG ((x.1,v)::vs) k=Δ v:=nI hk;have e2:fH (x::xs) k=Δ x.2:=by simp[fH,XY,hk]
   rw[e1,e2];exact⟨rfl,λp e=>by cases e;exact⟨v,rfl,r⟩⟩
  ·have e1:fG ((x.1,v)::vs) k=fG vs k:=nJ hk;have e2:fH (x::xs) k=fH xs k:=by simp[fH,XY,hk]
   rw[e1,e2];exact⟨i1,i2⟩
theorem aN.length{κ:Type}{K:KB}{m:List Addr}:∀{kvs:List (κ×P)} {us:List (κ×V)},aN K H m Z kvs us->us.length=kvs.length
 |[],us,h=>by cases (show us=[] from h);rfl|x::xs,us,h=>by obtain⟨v,vs,rfl,r,rs⟩:=(show ∃v vs,us=(x.1,v)::vs/\ai K H m Z x.2 v/\aN K H m Z xs vs from h);rw[WZ,WZ,aN.length rs]
theorem aN.app{κ:Type}{K:KB}{k:κ}(rp:ai K H m Z p v):∀{kvs} {us},aN K H m Z kvs us->aN K H m Z (kvs++[(k,p)]) (us++[(k,v)])
 |[],us,h=>by cases (show us=[] from h);exact⟨v,[],rfl,rp,rfl⟩|x::xs,us,h=>by obtain⟨v',vs,rfl,r,rs⟩:=(show ∃v vs,us=(x.1,v)::vs/\ai K H m Z x.2 v/\aN K H m Z xs vs from h);exact⟨v',vs++[(k,v)],rfl,r,aN.app rp rs⟩
theorem aN.Dv{κ:Type}[DecidableEq κ]{K:KB}{k:κ}(rp:ai K H m Z p v):∀{kvs} {us},aN K H m Z kvs us->
  aN K H m Z (kvs.map λkv=>if kv.1=k then(kv.1,p) else kv) (us.map λkv=>if kv.1=k then(kv.1,v) else kv)
 |[],us,h=>by cases (show us=[] from h);rfl|x::xs,us,h=>by
  obtain⟨v',vs,rfl,r,rs⟩:=(show ∃v vs,us=(x.1,v)::vs/\ai K H m Z x.2 v/\aN K H m Z xs vs from h);have ih:=aN.Dv (k:=k) rp rs;rw[WQ,WQ];by_cases hk:x.1=k;·rw[if_pos hk,if_pos hk];exact⟨v,_,rfl,rp,ih⟩
  ·rw[if_neg hk,if_neg hk];exact⟨v',_,rfl,r,ih⟩
theorem aN.put{κ:Type}[DecidableEq κ]{K:KB}{k:κ}{kvs:List (κ×P)}{us:List (κ×V)}(rs:aN K H m Z kvs us)(rp:ai K H m Z p v):aN K H m Z (mO kvs k p) (putK us k v):=by
 have e:(us.any λkv=>decide (kv.1=k))=(kvs.any λkv=>decide (kv.1=k)):=by
  have e2:∀kvs:List (κ×P),(kvs.any λkv=>decide (kv.1=k))=(fH kvs k).isSome:=λkvs=>by
   unfold fH;rw[aao];induction kvs with
   |nil=>rfl|cons x xs ih=>
    rw[Y0,XY];cases hx:decide (x.1=k);·simpa using ih
    ·rfl
  rw[sD,(rs.val (k:=k)).1,e2]
 unfold mO putK;rw[e];split;·exact rs.Dv rp
 ·exact rs.app rp
theorem ue{K:KB}{st:aL}(as:ax K H m Z st)(h:b8 st p=Δ o)(r:ai K H m Z p v):∃n a,p=.obj n/\st[n]?=Δ o/\m[n]?=Δ a/\v=.ref a/\qV K H m Z a o/\kH o=Λ:=by
 unfold b8 at h;cases p with
 |d x=>cases h|gW x=>cases h|fn k c=>cases h|lf k=>cases h|obj n=>
  obtain⟨a,e,rfl⟩:=r;cases hs:st[n]? with
  |none=>rw[show IP st (.obj n)=st[n]? from rfl,hs] at h;cases h|some o'=>
   rw[show IP st (.obj n)=st[n]? from rfl,hs] at h;have h':(if kH o'=Λ then Δ o' else Θ)=Δ o:=h;split at h';·rename_i hd;cases h';obtain⟨a',e',q⟩:=as.at_ n _ hs;rw[e] at e';cases e';exact⟨n,a,rfl,hs,e,rfl,q,hd⟩
   ·cases h'
theorem CG{K:KB}(ao:qV K H m Z a o)(rk:ai K H m Z k y)(h:qt o k=Δ res):∃ov,nL H a y ov/\ov.isSome=res.isSome/\∀p,res=Δ p->∃v,ov=Δ v/\ai K H m Z p v:=by
 cases o with
 |lst xs=>cases h|ins c fs=>cases h|vm=>cases h|dK kvs=>obtain⟨us,hu,rs⟩:=ao;cases hk:keyOf k with|none=>rw[show qt (.dK kvs) k=(keyOf k).map _ from rfl,hk] at h;cases h|some kk=>rw[show qt (.dK kvs) k=(keyOf k).map _ from rfl,hk] at h;cases h;obtain⟨i1,i2⟩:=rs.val (k:=kk);refine⟨fG us kk,?_,i1,λp hp=>i2 p hp⟩;rw[rk.key hk];exact nL.k hu
 |dT kvs=>obtain⟨us,hu,rs⟩:=ao;cases hk:mN k with|none=>rw[show qt (.dT kvs) k=(mN k).map _ from rfl,hk] at h;cases h|some kk=>rw[show qt (.dT kvs) k=(mN k).map _ from rfl,hk] at h;cases h;obtain⟨i1,i2⟩:=rs.val (k:=kk);obtain⟨b,rfl,hb⟩:=rk.mN hk;exact⟨fG us kk,nL.t hu hb,i1,λp hp=>i2 p hp⟩
def Gv(neg:Bool):R2:=λy x H Q=>∃a o,x=.ref a/\nL H a y o/\Q (.bl (if neg then !o.isSome else o.isSome)) H
theorem Mz(hu:X.A.units+100 < cLine):jZ X (X4 .In) (Gv Ξ):=by intro η s σ H x y v u Q I rx ry h;obtain⟨a,o,rfl,g,q⟩:=h;cases ry;exact Ug (by lia) I g rx λs3 I3=>⟨.bl o.isSome,H,I3,rfl,q⟩
theorem D8(hu:X.A.units+100 < cLine):jZ X (X4 .NotIn) (Gv Λ):=by intro η s σ H x y v u Q I rx ry h;obtain⟨a,o,rfl,g,q⟩:=h;cases ry;exact Ip (by lia) I g rx λs3 I3=>⟨.bl (!o.isSome),H,I3,rfl,q⟩
def Ja(K:KB):KC->R2
 |.lt=>Ci λi j=>.bl (decide (i < j))|.le=>Ci λi j=>.bl (decide (i<=j))|.gt=>Ci λi j=>.bl (decide (j < i))|.ge=>Ci λi j=>.bl (decide (j<=i))|.eq=>λv u H Q=>∃m Z x y k,aI K H m Z x v/\aI K H m Z y u/\uU x y=Δ k/\Q (.bl k) H|.ne=>λv u H Q=>∃m Z x y k,aI K H m Z x v/\aI K H m Z y u/\uU x y=Δ k/\Q (.bl (!k)) H|.isin=>λv u H Q=>Pd K.K Ξ v u H Q\/Gv Ξ v u H Q|.sO=>λv u H Q=>Pd K.K Λ v u H Q\/Gv Λ v u H Q
theorem pF(hu:X.A.units+100 < cLine):∀o,jZ X (X4 (j0 o)) (Ja (af X kt) o)
 |.lt=>OY|.le=>OZ|.gt=>O0|.ge=>O1|.eq=>Mt hu|.ne=>Mu hu|.isin=>Du.or (Mz hu)|.sO=>xq.or (D8 hu)
theorem Gw{K:KB}(h:aI K H m Z x v)(f:sQ x=Λ):mh v=Λ:=by cases x with|bz=>cases (show v=.bz from h);rfl|bl b=>cases (show v=.bl b from h);rfl|int b=>cases (show v=.int b from h);rfl|str b=>cases (show v=.str b from h);rfl|tup xs=>cases f|pl xs=>cases f
theorem Vd{K:KB}(h:aI K H m Z x v)(h':aI K H m Z y u)(f:sQ x=Λ)(f':sQ y=Λ):Im v u=wb x y:=by
 cases x with
 |tup xs=>cases f|pl xs=>cases f|bz=>cases (show v=.bz from h);cases y with|tup xs=>cases f'|pl xs=>cases f'|bz=>cases (show u=.bz from h');rfl|bl b=>cases (show u=.bl b from h');rfl|int b=>cases (show u=.int b from h');rfl|str b=>cases (show u=.str b from h');rfl
 |bl a=>cases (show v=.bl a from h);cases y with|tup xs=>cases f'|pl xs=>cases f'|bz=>cases (show u=.bz from h');rfl|bl b=>cases (show u=.bl b from h');rfl|int b=>cases (show u=.int b from h');rfl|str b=>cases (show u=.str b from h');rfl
 |int a=>cases (show v=.int a from h);cases y with|tup xs=>cases f'|pl xs=>cases f'|bz=>cases (show u=.bz from h');rfl|bl b=>cases (show u=.bl b from h');rfl|int b=>cases (show u=.int b from h');rfl|str b=>cases (show u=.str b from h');rfl
 |str a=>cases (show v=.str a from h);cases y with|tup xs=>cases f'|pl xs=>cases f'|bz=>cases (show u=.bz from h');rfl|bl b=>cases (show u=.bl b from h');rfl|int b=>cases (show u=.int b from h');rfl|str b=>cases (show u=.str b from h');rfl
theorem KJ{K:KB}(h:aI K H m Z x v)(f:sQ x=Λ):∀{ys} {us},ak K H m Z ys us->ys.all sQ=Λ->us.all mh=Λ/\Sg v us=ys.any λy=>wb y x
 |[],us,r,_=>by cases (show us=[] from r);exact⟨rfl,rfl⟩|y::ys,us,r,q=>by obtain⟨w',ws,rfl,r1,r2⟩:=(show ∃v vs,us=v::vs/\aI K H m Z y v/\ak K H m Z ys vs from r);rw[ZE,WC] at q;obtain⟨i1,i2⟩:=KJ h f r2 q.2;refine⟨by rw[ZE,Gw r1 q.1,i1];rfl,?_⟩;unfold Sg at i2 ⊢;rw[Y0,Y0,Vd r1 h q.1 f,i2]
theorem in_of{K:KB}{st:aL}(as:ax K H m Z st)(rx:ai K H m Z x v)(ry:ai K H m Z y u)(e:Mn x y st=Δ k)(q:Q (.bl (if neg then !k else k)) H):Pd K.K neg v u H Q\/Gv neg v u H Q:=by
 unfold Mn at e;split at e;·rename_i o ho;obtain⟨res,e1,rfl⟩:=fI e;obtain⟨n,a,rfl,hs,hm,rfl,ao,_⟩:=ue as ho ry;obtain⟨ov,hg,h1,_⟩:=CG ao rx e1;refine .inr ⟨a,ov,rfl,hg,?_⟩;rw[h1];exact q
 ·left;obtain⟨xd,e1,e⟩:=b7 e;obtain⟨ps,e2,e⟩:=b7 e;obtain⟨ys,e3,e9⟩:=b7 e;clear e;split at e9;·rename_i hf;rw[WC] at hf;cases x with|obj n=>cases e1|gW n=>cases e1|fn k c=>cases e1|lf k=>cases e1|d x=>cases e1;obtain⟨a,us,rfl,hs,rs⟩:=lM as e2 ry;obtain⟨f1,f2⟩:=KJ rx hf.1 (rs.bw e3) hf.2;refine⟨a,us,rfl,KG hs,Gw rx hf.1,f1,?_⟩;rw[f2];cases e9;cases neg<;>exact q
  ·cases e9
theorem xW{K:KB}{st:aL}(as:ax K H m Z st)(rx:ai K H m Z x v)(ry:ai K H m Z y u)(e:kI o x y st=Δ k)(q:Q (.bl k) H):Ja K o v u H Q:=by
 have Jb:∀{o:KC},Mm o x y=Δ k->∃i j,v=.int i/\u=.int j/\Qe o i j=Δ k:=λ{o} z=>by
  unfold Mm at z;split at z;·exact⟨_,_,rx,ry,z⟩
  ·cases z
 cases o with
 |lt=>obtain⟨i,j,rfl,rfl,z⟩:=Jb e;cases z;exact⟨i,j,rfl,rfl,q⟩|le=>obtain⟨i,j,rfl,rfl,z⟩:=Jb e;cases z;exact⟨i,j,rfl,rfl,q⟩|gt=>obtain⟨i,j,rfl,rfl,z⟩:=Jb e;cases z;exact⟨i,j,rfl,rfl,q⟩|ge=>obtain⟨i,j,rfl,rfl,z⟩:=Jb e;cases z;exact⟨i,j,rfl,rfl,q⟩|eq=>obtain⟨a,e1,e⟩:=b7 (show((l7 st x).bind λx=>(l7 st y).bind λy=>uU x y)=Δ k from e);obtain⟨b,e2,e⟩:=b7 e;exact⟨[],[],a,b,k,kP as e1 rx,kP as e2 ry,e,q⟩
 |ne=>obtain⟨a,e1,e⟩:=b7 (show((l7 st x).bind λx=>(l7 st y).bind λy=>(uU x y).map not)=Δ k from e);obtain⟨b,e2,e⟩:=b7 e;obtain⟨c,e3,rfl⟩:=fI e;exact⟨[],[],a,b,c,kP as e1 rx,kP as e2 ry,e3,q⟩|isin=>exact in_of (neg:=Ξ) as rx ry e q|sO=>obtain⟨k',e',rfl⟩:=fI (show(Mn x y st).map not=Δ k from e);exact in_of (neg:=Λ) as rx ry e' q
theorem Ok.truth{K:KB}{st:aL}{Q:VK}(as:ax K H m Z st)(h:Ok K Z ((R.of o st).bind λb st3=>R.ok (P.d (.bl b)) st3) m H (λp _ m' H'=>∀v,ai K H' m' Z p v->Q v H')):∃k,o=Δ k/\Q (.bl k) H:=by obtain⟨k,e,q,_⟩:=Ok.of (Ok.bind h) as;exact⟨k,e,Ok.here q as (.bl k) rfl⟩
theorem CH(h:cu b=Ξ):abU op b=Ξ:=by
 cases b<;>first
  |rfl
  |exact absurd (show Λ=Ξ from h) Xw.symm
theorem Qr(T:Good X kt g C)(ha:PE X a (tE (af X kt) Z (aa C ea)))(hb:PE X b (tE (af X kt) Z (aa C eb)))(hn:cu b=Ξ):
  PE X (.Compare a [j0 o] [b] pos) (tE (af X kt) Z (aa C (.cmp o ea eb))):=
 PE.imp (HU (pF T.hu o) ha hb (CH hn)) λσ H Q h=>CD (f:=X4 (j0 o)) (λx y v u m H st Q as rx ry h=>by obtain⟨k,e,q⟩:=Ok.truth as h;exact xW as rx ry e q) h
theorem mx{α β:Type}{r:R α}{f:α->aL->R β}{b:β}{st:aL}(h:r.bind f=.ok b st):∃a st1,r=.ok a st1/\f a st1=.ok b st:=by cases r with|ok a st1=>exact⟨a,st1,rfl,h⟩|ex x st1=>cases h|no=>cases h
theorem Gx{K:KB}{st:aL}(as:ax K H m Z st)(r:ai K H m Z p v)(e:mP st p=Δ k):Dq K.K v H k:=by
 have lists:(bM st p).map (λxs=>!xs.isEmpty)=Δ k->Dq K.K v H k:=λz=>by obtain⟨ps,e1,rfl⟩:=fI z;obtain⟨a,us,rfl,hr,rs⟩:=cK as e1 r;refine .inl ⟨us,.inl hr,?_⟩;have:=rs.length;cases ps<;>cases us<;>simp at this ⊢
 cases p with
 |obj n=>exact lists e|gW n=>exact lists e|fn k c=>exact lists e|lf k=>exact lists e|d x=>
  cases x with
  |bz=>cases (show v=.bz from r);cases e;rfl|bl b=>cases (show v=.bl b from r);cases e;rfl|int b=>cases (show v=.int b from r);cases e;rfl|str b=>
   cases (show v=.str b from r);have e':(if b.length<=aw then Δ ((b.length:Int)!=0) else Θ)=Δ k:=e;split at e';·rename_i hc;cases e';exact⟨by rw[<-dn];exact hc,rfl⟩
   ·cases e'
  |tup xs=>obtain⟨a,us,rfl,hs,rs⟩:=r;cases e;refine .inr (.inl ⟨us,fK.of hs,?_⟩);have:=rs.length;cases xs<;>cases us<;>simp at this ⊢|pl xs=>exact lists e
theorem MA(h:tT (af X kt) Z (bI d) σ H Q):tE (af X kt) Z d σ H λx H'=>∃k,Dq X.K x H' k/\Q k H':=by obtain⟨m,r,st,ar,as,h⟩:=h;refine⟨m,r,st,ar,as,(Ok.bind h).mono λp st1 m1 H1 bC aW h1 v rv=>?_⟩;obtain⟨k,e,q,_⟩:=Ok.of h1 aW;exact⟨k,Gx aW rv e,q⟩
theorem Jc(ha:PE X e (tE (af X kt) Z d))(he:∀whole,aca e X.env whole=(do let v<-whole;abm e.pos;abM [v] (truthy v))):PT X e (tT (af X kt) Z (bI d)):=
 PT.imp (E6 ha he) λσ H Q h=>MA h
theorem CJ(hb:∀r st p st1,d r st=.ok p st1->∃b,p=.d (.bl b))(h:tT (af X kt) Z (bI d) σ H Q):tE (af X kt) Z d σ H λx H'=>∃k,x=.bl k/\Q k H':=by obtain⟨m,r,st,ar,as,h⟩:=h;refine⟨m,r,st,ar,as,(Ok.bind h).wJ λp st1 m1 H1 hr bC aW h1 v rv=>?_⟩;obtain⟨b,rfl⟩:=hb r st p st1 hr;obtain⟨k,e,q,_⟩:=Ok.of h1 aW;cases e;cases (show v=.bl b from rv);exact⟨b,rfl,q⟩
theorem Gy:∀r st p st1,aa C (.cmp o a b) r st=.ok p st1->∃b,p=.d (.bl b):=λr st p st1 h=>by rw[fT] at h;obtain⟨x,s1,_,h⟩:=mx h;obtain⟨y,s2,_,h⟩:=mx h;obtain⟨k,s3,_,h⟩:=mx h;cases h;exact⟨k,rfl⟩
theorem MB(T:Good X kt g C)(ha:PE X a (tE (af X kt) Z (aa C ea)))(hb:PE X b (tE (af X kt) Z (aa C eb)))(hn:cu b=Ξ):
  PT X (.Compare a [j0 o] [b] pos) (tT (af X kt) Z (bI (aa C (.cmp o ea eb)))):=
 PT.imp (HV (pF T.hu o) ha hb (CH hn)) λσ H Q h=>CD (f:=X4 (j0 o)) (λx y v u m H st Q as rx ry h=>by obtain⟨k,e,q⟩:=Ok.truth as h;exact xW as rx ry e q) (CJ Gy h)
theorem wL(h:cu b=Ξ)(h':cu c=Ξ):lastMarks [p,q] [b,c]=Ξ:=by
 cases c<;>first
  |rfl
  |exact absurd (show Λ=Ξ from h') Xw.symm
theorem zC(h:tE (af X kt) Z (aa C (.chain o o' a b c)) σ H Q):
  A1 (Ja (af X kt) o) (Ja (af X kt) o') (tE (af X kt) Z (aa C a)) (tE (af X kt) Z (aa C b)) (tE (af X kt) Z (aa C c)) σ H Q:=by
 obtain⟨m,ρ,st,ar,as,h⟩:=h;rw[qv] at h;refine⟨m,ρ,st,ar,as,(Ok.bind h).mono λx st1 m1 H1 bC aW h1 v rv=>?_⟩;refine⟨m1,ρ,st1,ar.le bC,aW,(Ok.bind h1).mono λy st2 m2 H2 fb eE h2 u ru=>?_⟩;obtain⟨k,e,h3,_⟩:=Ok.of (Ok.bind h2) eE;refine xW eE (rv.le fb) ru e ⟨k,rfl,?_⟩;cases k with|false=>exact Ok.here h3 eE (.bl Ξ) rfl|true=>refine⟨m2,ρ,st2,(ar.le bC).le fb,eE,(Ok.bind (show Ok (af X kt) Z ((aa C c ρ st2).bind _) m2 H2 _ from h3)).mono λz mj m4 H4 yw CL h4 w' mI=>?_⟩;obtain⟨k',e',q⟩:=Ok.truth CL h4;exact xW CL (ru.le yw) mI e' q
theorem Jd(T:Good X kt g C)(ha:PE X a (tE (af X kt) Z (aa C ea)))(hb:PE X b (tE (af X kt) Z (aa C eb)))(hc:PE X c (tE (af X kt) Z (aa C ec)))(hn:cu b=Ξ)(EN:cu c=Ξ):
  PE X (.Compare a [j0 o,j0 o'] [b,c] pos) (tE (af X kt) Z (aa C (.chain o o' ea eb ec))):=
 PE.imp (E3 (pF T.hu o) (pF T.hu o') ha hb hc (wL hn EN)) λσ H Q h=>zC h
theorem BO:∀r st p st1,aa C (.chain o o' a b c) r st=.ok p st1->∃b,p=.d (.bl b):=λr st p st1 h=>by rw[qv] at h;obtain⟨x,s1,_,h⟩:=mx h;obtain⟨y,s2,_,h⟩:=mx h;obtain⟨k,s3,_,h⟩:=mx h;cases k with|false=>cases h;exact⟨Ξ,rfl⟩|true=>obtain⟨z,s4,_,h⟩:=mx (show((aa C c r s3).bind _)=_ from h);obtain⟨k',s5,_,h⟩:=mx h;cases h;exact⟨k',rfl⟩
theorem Gz(T:Good X kt g C)(ha:PE X a (tE (af X kt) Z (aa C ea)))(hb:PE X b (tE (af X kt) Z (aa C eb)))(hc:PE X c (tE (af X kt) Z (aa C ec)))(hn:cu b=Ξ)(EN:cu c=Ξ):
  PT X (.Compare a [j0 o,j0 o'] [b,c] pos) (tT (af X kt) Z (bI (aa C (.chain o o' ea eb ec)))):=
 PT.imp (E4 (pF T.hu o) (pF T.hu o') ha hb hc (wL hn EN)) λσ H Q h=>zC (CJ BO h)
theorem Je(ha:PE X a ta):PE X (.UnaryOp .Not a pos) (λσ H Q=>ta σ H λx H1=>∃k,Dq X.K x H1 k/\Q (.bl (!k)) H1):=by intro η s σ H Q I h;refine UnaryOp_ (bQ (ha η s σ H _ I h) λv s1 ⟨x,H1,I1,r1,q1⟩=>not_of ?_);exact bQ (E5 η s1 σ H1 x v (λk H'=>Q (.bl (!k)) H') I1 r1 q1) λc s2 ⟨H2,I2,q2⟩=>⟨.bl (!c),H2,I2,rfl,q2⟩
theorem Qs(ha:PE X a (tE (af X kt) Z (aa C ea))):PE X (.UnaryOp .Not a pos) (tE (af X kt) Z (aa C (.not ea))):=by refine PE.imp (Je ha) ?_;rintro σ H Q ⟨m,ρ,st,ar,as,h⟩;rw[wj] at h;refine⟨m,ρ,st,ar,as,(Ok.bind h).mono λx st1 m1 H1 bC aW h1 v rv=>?_⟩;obtain⟨k,e,h2,_⟩:=Ok.of (Ok.bind h1) aW;exact⟨k,Gx aW rv e,Ok.here h2 aW (.bl (!k)) rfl⟩
theorem MC(ha:PT X a (tT (af X kt) Z (bI (aa C ea)))):PT X (.UnaryOp .Not a pos) (tT (af X kt) Z (bI (aa C (.not ea)))):=by refine PT.imp (Lh ha) ?_;rintro σ H Q ⟨m,ρ,st,ar,as,h⟩;unfold bI at h;rw[wj] at h;refine⟨m,ρ,st,ar,as,?_⟩;unfold bI;cases hr:aa C ea ρ st with|ex x s=>rw[hr] at h;exact h|no=>rw[hr] at h;exact h|ok p s1=>rw[hr] at h;simp only[ae] at h ⊢;cases ht:mP s1 p with|none=>rw[ht] at h;exact h|some k=>rw[ht] at h;exact h
theorem MD(ha:PE X a (tE (af X kt) Z (aa C ea))):PE X (.BoolOp .And [a] pos) (tE (af X kt) Z (gh C [ea])):=EU ha
theorem Qt(ha:PE X a (tE (af X kt) Z (aa C ea))):PE X (.BoolOp .Or [a] pos) (tE (af X kt) Z (gi C [ea])):=EU ha
theorem ME{rest:List Expr}(ha:PE X a (tE (af X kt) Z (aa C ea)))(hb:PE X (.BoolOp .And (b::rest) pos) (tE (af X kt) Z (gh C (eb::er)))):
  PE X (.BoolOp .And (a::b::rest) pos) (tE (af X kt) Z (gh C (ea::eb::er))):=by
 refine PE.imp (Li ha hb) ?_;rintro σ H Q ⟨m,ρ,st,ar,as,h⟩;rw[wq] at h;refine⟨m,ρ,st,ar,as,(Ok.bind h).mono λx st1 m1 H1 bC aW h1 v rv=>?_⟩;split at h1;·rename_i k;cases (show v=.bl k from rv);refine⟨k,rfl,?_⟩;cases k with|true=>exact⟨m1,ρ,st1,ar.le bC,aW,h1⟩|false=>exact Ok.here h1 aW (.bl Ξ) rfl
 ·exact h1.elim
theorem Qu{rest:List Expr}(ha:PE X a (tE (af X kt) Z (aa C ea)))(hb:PE X (.BoolOp .Or (b::rest) pos) (tE (af X kt) Z (gi C (eb::er)))):
  PE X (.BoolOp .Or (a::b::rest) pos) (tE (af X kt) Z (gi C (ea::eb::er))):=by
 refine PE.imp (OI ha hb) ?_;rintro σ H Q ⟨m,ρ,st,ar,as,h⟩;rw[gX] at h;refine⟨m,ρ,st,ar,as,(Ok.bind h).mono λx st1 m1 H1 bC aW h1 v rv=>?_⟩;split at h1;·rename_i k;cases (show v=.bl k from rv);refine⟨k,rfl,?_⟩;cases k with|false=>exact⟨m1,ρ,st1,ar.le bC,aW,h1⟩|true=>exact Ok.here h1 aW (.bl Λ) rfl
 ·exact h1.elim
theorem Jf(ha:PT X a (tT (af X kt) Z (bI (aa C ea)))):PW X (.BoolOp .And [a] pos) (tT (af X kt) Z (bI (gh C [ea]))):=pw_and1 ha
theorem MF(ha:PT X a (tT (af X kt) Z (bI (aa C ea)))):PW X (.BoolOp .Or [a] pos) (tT (af X kt) Z (bI (gi C [ea]))):=pw_or1 ha
theorem Jg{rest:List Expr}(ha:PT X a (tT (af X kt) Z (bI (aa C ea))))(hb:PW X (.BoolOp .And (b::rest) pos) (tT (af X kt) Z (bI (gh C (eb::er))))):
  PW X (.BoolOp .And (a::b::rest) pos) (tT (af X kt) Z (bI (gh C (ea::eb::er)))):=by
 refine PW.imp (pw_and ha hb) ?_;rintro σ H Q ⟨m,ρ,st,ar,as,h⟩;refine⟨m,ρ,st,ar,as,?_⟩;unfold bI at h ⊢;rw[wq] at h;cases hr:aa C ea ρ st with
 |ex x s=>rw[hr] at h;exact h|no=>rw[hr] at h;exact h|ok p s1=>
  rw[hr] at h;simp only[ae] at h ⊢;split at h;·rename_i k;refine λm1 H1 bC aW=>?_;cases k with|true=>exact⟨m1,ρ,s1,ar.le bC,aW,Ok.le h bC⟩|false=>exact h m1 H1 bC aW
  ·exact h.elim
theorem MG{rest:List Expr}(ha:PT X a (tT (af X kt) Z (bI (aa C ea))))(hb:PW X (.BoolOp .Or (b::rest) pos) (tT (af X kt) Z (bI (gi C (eb::er))))):
  PW X (.BoolOp .Or (a::b::rest) pos) (tT (af X kt) Z (bI (gi C (ea::eb::er)))):=by
 refine PW.imp (pw_or ha hb) ?_;rintro σ H Q ⟨m,ρ,st,ar,as,h⟩;refine⟨m,ρ,st,ar,as,?_⟩;unfold bI at h ⊢;rw[gX] at h;cases hr:aa C ea ρ st with
 |ex x s=>rw[hr] at h;exact h|no=>rw[hr] at h;exact h|ok p s1=>
  rw[hr] at h;simp only[ae] at h ⊢;split at h;·rename_i k;refine λm1 H1 bC aW=>?_;cases k with|false=>exact⟨m1,ρ,s1,ar.le bC,aW,Ok.le h bC⟩|true=>exact h m1 H1 bC aW
  ·exact h.elim
theorem GA(hc:PT X c tc)(ha:PT X a ta)(hb:PT X b tb):PT X (.IfExp c a b pos) (λσ H Q=>tc σ H λk H1=>if k=Λ then ta σ H1 Q else tb σ H1 Q):=by intro η s σ H Q I h;refine isTrue_IfExp (bQ (hc η s σ H _ I h) λd s1 ⟨H1,I1,q1⟩=>?_);cases d with|true=>exact ha η s1 σ H1 Q I1 q1|false=>exact hb η s1 σ H1 Q I1 q1
theorem Qv(hc:PT X c (tT (af X kt) Z (bI (aa C ec))))(ha:PE X a (tE (af X kt) Z (aa C ea)))(hb:PE X b (tE (af X kt) Z (aa C eb))):PE X (.IfExp c a b pos) (tE (af X kt) Z (aa C (.ite ec ea eb))):=by refine PE.imp (EV hc ha hb) ?_;rintro σ H Q ⟨m,ρ,st,ar,as,h⟩;refine⟨m,ρ,st,ar,as,?_⟩;rw[wm] at h;unfold bI;cases hr:aa C ec ρ st with|ex x s=>rw[hr] at h;exact h|no=>rw[hr] at h;exact h|ok p s1=>rw[hr] at h;simp only[ae] at h ⊢;cases ht:mP s1 p with|none=>rw[ht] at h;exact h|some k=>rw[ht] at h;refine λm1 H1 bC aW=>?_;cases k with|true=>exact⟨m1,ρ,s1,ar.le bC,aW,Ok.le (show Ok (af X kt) Z (aa C ea ρ s1) m H _ from h) bC⟩|false=>exact⟨m1,ρ,s1,ar.le bC,aW,Ok.le (show Ok (af X kt) Z (aa C eb ρ s1) m H _ from h) bC⟩
theorem MH(hc:PT X c (tT (af X kt) Z (bI (aa C ec))))(ha:PT X a (tT (af X kt) Z (bI (aa C ea))))(hb:PT X b (tT (af X kt) Z (bI (aa C eb)))):PT X (.IfExp c a b pos) (tT (af X kt) Z (bI (aa C (.ite ec ea eb)))):=by refine PT.imp (GA hc ha hb) ?_;rintro σ H Q ⟨m,ρ,st,ar,as,h⟩;refine⟨m,ρ,st,ar,as,?_⟩;unfold bI at h;rw[wm] at h;show Ok (af X kt) Z ((aa C ec ρ st).bind λx st1=>R.of (mP st1 x) st1) m H _;cases hr:aa C ec ρ st with|ex x s=>rw[hr] at h;exact h|no=>rw[hr] at h;exact h|ok p s1=>rw[hr] at h;simp only[ae] at h ⊢;cases ht:mP s1 p with|none=>rw[ht] at h;exact h|some k=>rw[ht] at h;refine λm1 H1 bC aW=>?_;cases k with|true=>exact⟨m1,ρ,s1,ar.le bC,aW,Ok.le (show Ok (af X kt) Z (bI (aa C ea) ρ s1) m H _ from h) bC⟩|false=>exact⟨m1,ρ,s1,ar.le bC,aW,Ok.le (show Ok (af X kt) Z (bI (aa C eb) ρ s1) m H _ from h) bC⟩
end
section
variable{X:Cx}{g:G}{C:Nat->List P->aL->R P}{Z:List Addr}{e:Expr}{es:List Expr}
theorem eI:∀{es} {r} {st st1} {ps},aA C es r st=.ok ps st1->ps.length=es.length
 |[],r,st,st1,ps,h=>by rw[aB] at h;cases h;rfl|e::es,r,st,st1,ps,h=>by rw[aq] at h;obtain⟨x,s1,_,h⟩:=mx h;obtain⟨xs,s2,h2,h⟩:=mx h;cases h;rw[WZ,WZ,eI h2]
theorem uf:PA X [] (tA (af X kt) Z (aA C [])):=by refine PA.imp Ba ?_;rintro σ H Q ⟨m,ρ,st,ar,as,h⟩;rw[aB] at h;exact Ok.here h as [] rfl
theorem kQ(ha:PE X x (tE (af X kt) Z (aa C a)))(hr:PA X xs (tA (af X kt) Z (aA C bV)))(hs:notStar x=Λ):PA X (x::xs) (tA (af X kt) Z (aA C (a::bV))):=by refine PA.imp (rO ha hr (bj hs)) ?_;rintro σ H Q ⟨m,ρ,st,ar,as,h⟩;rw[aq] at h;refine⟨m,ρ,st,ar,as,(Ok.bind h).mono λp st1 m1 H1 bC aW h1 v rv=>?_⟩;refine⟨m1,ρ,st1,ar.le bC,aW,(Ok.bind h1).mono λps st2 m2 H2 fb eE h2 vs gY=>?_⟩;exact Ok.here h2 eE (v::vs) ⟨v,vs,rfl,rv.le fb,gY⟩
theorem fV(h:gk g (a::bV) xs=Λ):∃x ys,xs=x::ys/\gj g a x=Λ/\notStar x=Λ/\gk g bV ys=Λ:=by refine aE h λx ys h=>?_;simp only[WC] at h;exact⟨x,ys,rfl,h.1.1,h.1.2,h.2⟩
theorem kR(h:gk g [] xs=Λ):xs=[]:=WS.mp h
theorem cb:∀{bV} {xs},gk g bV xs=Λ->∀x∈xs,notStar x=Λ
 |[],xs,h=>by rw[kR h];intro x hx;cases hx|a::bV,xs,h=>by
  obtain⟨x,ys,rfl,_,h2,h3⟩:=fV h;intro y hy;rcases Z3.mp hy with z|z;·rw[z];exact h2
  ·exact cb h3 y z
theorem eU:∀{bV} {xs},gk g bV xs=Λ->xs.length=bV.length
 |[],xs,h=>by rw[kR h];rfl|a::bV,xs,h=>by obtain⟨x,ys,rfl,_,_,h3⟩:=fV h;rw[WZ,WZ,eU h3]
theorem gb:∀{xs},(∀x∈xs,notStar x=Λ)->(YL pos (Xf xs env)).any (·.1)=Ξ
 |[],_=>rfl|x::xs,h=>by rw[bj (h x WG)];show(Ξ||(YL pos (Xf xs env)).any (·.1))=Ξ;rw[gb λy hy=>h y (WE _ hy)];rfl
theorem Qw(h:PA X xs (tA (af X kt) Z (aA C bV))):PE X (.Tuple xs k pos) (tE (af X kt) Z (aa C (.tup bV))):=by
 refine PE.imp (Lz h) ?_;rintro σ H Q ⟨m,ρ,st,ar,as,h⟩;rw[wo] at h;refine⟨m,ρ,st,ar,as,(Ok.bind h).mono λps st1 m1 H1 bC aW h1 vs gY=>?_⟩;split at h1;·rename_i hc;obtain⟨xs,e,h2,_⟩:=Ok.of (Ok.bind h1) aW;exact⟨by rw[gY.length,<-dn];exact hc,λp hp=>rT (α:=Unit) aW (gY.bw e) hp h2⟩
 ·exact h1.elim
theorem Le.grow{K:KB}{m m':List Addr}{H H':Hp}{a:Addr}(le:Le K m H m' H')(ha:H a=Θ):Le K m H (m'++[a]) H' where
 pre:=by obtain⟨t,e⟩:=le.pre;exact⟨t++[a],by rw[e,Xt]⟩
 tup:=le.tup
 keep:=le.keep
 new:=λb hb=>by
  rcases Z5.mp hb with z|z;·exact le.new b z
  ·have:b=a:=by simpa using z
   rw[this];exact .inr ha
 qL:=le.qL
 Cy:=le.Cy
 dt:=le.dt
 ext:=le.ext
 fE:=le.fE
theorem rV(h:tE (af X kt) Z (aa C (.lst mu l)) σ H Q):tL (af X kt) Z (aV C l) σ H Q:=by obtain⟨m,ρ,st,ar,as,h⟩:=h;rw[DU] at h;refine⟨m,ρ,st,ar,as,?_⟩;cases hr:aV C l ρ st with|ex x s=>rw[hr] at h;exact h|no=>rw[hr] at h;exact h|ok ps st1=>rw[hr] at h;simp only[ae] at h;intro m' H' a vs le ha hm hH bV rs;have hz:a∉Z:=(as.fresh ha).2;cases mu with|true=>refine h (m'++[a]) H' (le.grow ha) (bV.adopt hz hH rs) (.ref a) ⟨a,?_,rfl⟩;rw[W5 (by rw[bV.len];exact WM _),bV.len];simp|false=>have eE:=bV.vq (Z:=Z) λb hb=>WE _ hb;obtain⟨xs,e,h2,_⟩:=Ok.of (Ok.bind (Ok.le (show Ok (af X kt) Z ((R.of (bw ps) st1).bind λxs st2=>R.ok (P.d (.pl xs)) st2) m H _ from h) le)) eE;exact Ok.here h2 eE (.ref a) ⟨a,vs,rfl,.inl hH,hm,hz,(rs.vq λb hb=>WE _ hb).bw e⟩
theorem Qx(h:PE X e (tL (af X kt) Z (aV C l))):PE X e (tE (af X kt) Z (aa C (.lst mu l))):=PE.imp h λσ H Q q=>rV q
theorem Le.CM{K:KB}(le:Le K m H m' H')(ha:H' a=Θ):H a=Θ:=by cases q:H a with|none=>rfl|some o=>exact absurd ha (le.qL a (by rw[q];exact λz=>nomatch z))
theorem n9{K:KB}(bC:Le K m H m1 H1)(aW:ax K H1 m1 Z st1)(gY:ah K H1 m1 Z ps vs)(ha:H1 a=Θ)(h:LQ K Z (R.ok ps st1) m H Q):Q (.ref a) (upd H1 a (.lst vs)):=
 h m1 (upd H1 a (.lst vs)) a vs (bC.trans (Le.same (be ha _))) (bC.CM ha) (aW.fresh ha).1 aD (aW.laid ha _) ((gY.kM ha).le (Le.same (be ha _)))
theorem MI(h:PA X xs (tA (af X kt) Z (aA C bV))):PE X (.List xs pos) (tL (af X kt) Z (aV C (.e7 bV))):=by
 refine PE.imp (LA h) ?_;rintro σ H Q ⟨m,ρ,st,ar,as,h⟩;refine⟨m,ρ,st,ar,as,?_⟩;rw[fU] at h;cases hr:aA C bV ρ st with
 |ex x s=>rw[hr] at h;exact h|no=>rw[hr] at h;exact h|ok ps st1=>
  rw[hr] at h;simp only[ae] at h;split at h;·rename_i hc;intro m1 H1 bC aW vs gY;exact⟨by rw[gY.length,<-dn];exact hc,λa ha=>n9 bC aW gY ha h⟩
  ·exact h.elim
theorem aN.keys{K:KB}:∀{kvs} {us},aN K H m Z kvs us->ah K H m Z (kvs.map λkv=>xM kv.1) (us.map λkv=>kV kv.1)
 |[],us,h=>by cases (show us=[] from h);exact rfl|(k,p)::kvs,us,h=>by obtain⟨v,vs,rfl,r,rs⟩:=(show ∃v vs,us=(k,v)::vs/\ai K H m Z p v/\aN K H m Z kvs vs from h);refine⟨kV k,_,rfl,?_,aN.keys rs⟩;cases k<;>rfl
theorem CN{K:KB}{st:aL}(as:ax K H m Z st)(h:sV st p=Δ q)(r:ai K H m Z p v):∃a us,p=.obj q.1/\st[q.1]?=Δ (.dK q.2)/\m[q.1]?=Δ a/\v=.ref a/\H a=Δ (.dK us)/\aN K H m Z q.2 us:=by
 unfold sV at h;split at h
 ·rename_i n;split at h;·rename_i kvs hk;cases h;obtain⟨a,ha,rfl⟩:=(show ∃a,m[n]?=Δ a/\v=.ref a from r);obtain⟨a',Qh,us,hu,rs⟩:=as.at_ n _ hk;rw[ha] at Qh;cases Qh;exact⟨a,us,rfl,hk,ha,rfl,hu,rs⟩
  ·cases h
 ·cases h
theorem MJ(T:Good X kt g C)(hg:g.gl "list"=Λ)(ha:PE X x (tE (af X kt) Z (aa C a)))(hs:notStar x=Λ):PE X (.Call (.Name "list" p) [x] [] pos) (tL (af X kt) Z (aV C (.keys a))):=by refine PE.imp (lD (vk T.calm) (T.glob hg) (T.bl _ (by decide+kernel)) boot_list (kQ ha uf hs) (by decide+kernel) (by decide+kernel) (bj hs) rfl) ?_;rintro σ H Q ⟨m,ρ,st,ar,as,h⟩;refine⟨m,ρ,st,ar,as,?_⟩;rw[tu] at h;show Ok (af X kt) Z (aA C [a] ρ st) m H _;simp only[aq,aB];cases hr:aa C a ρ st with|ex x s=>rw[hr] at h;exact h|no=>rw[hr] at h;exact h|ok y st1=>rw[hr] at h;simp only[ae] at h ⊢;intro m1 H1 bC aW vs gY;obtain⟨v,pH,rfl,rv,e⟩:=(show ∃v pH,vs=v::pH/\ai (af X kt) H1 m1 Z y v/\pH=[] from gY);subst e;cases hi:sV st1 y with|none=>rw[hi] at h;exact(show False from h).elim|some q=>rw[hi] at h;obtain⟨b,us,rfl,hk,hm,rfl,hu,rs⟩:=CN aW hi rv;exact⟨b,us,rfl,hu,λl hl=>n9 bC aW rs.keys hl h⟩
theorem Jh(T:Good X kt g C)(AS:g.cv=Λ)(h1:g.N[i]?=Δ x)(h2:g.xP x=Λ)(hp:aR x=Λ)(hs:∀z∈y::ys,notStar z=Λ)(h:PA X (y::ys) (tA (af X kt) Z (aA C bV))):
  PE X (.Call (.Name x p) (y::ys) [] pos) (tE (af X kt) Z (aa C (.nS i bV))):=by
 refine PE.imp (FO (i:=i) (by rw[T.N];exact h1) (T.xP h2) h (pn hp).1 (pn hp).2.1 (bj (hs y WG)) (gb λz hz=>hs z (WE _ hz))) ?_;rintro σ H Q ⟨m,ρ,st,ar,as,h⟩;rw[zl] at h;obtain⟨q,e,h',_⟩:=Ok.of (Ok.bind h) as;have e':ρ[i]?=Δ (Δ q):=by unfold kg at e;cases z:ρ[i]? with|none=>rw[z] at e;cases e|some o=>rw[z] at e;simp at e;rw[e]
 obtain⟨v,ev,rv⟩:=ar.at_ i q e';cases q with|fn k br=>rw[ai] at rv;obtain⟨a,c,bT,rfl,hc,Ve,rc⟩:=rv;obtain⟨n,fd,ps,F,hr,hb⟩:=(T.qy AS k a c bT hc).ex;refine⟨a,ev,(T.qy AS k a c bT hc).ob,m,ρ,st,ar,as,(Ok.bind h').wJ λqs st1 m1 H1 hq bC aW h1 vs gY=>⟨n,fd,ps,_,F,hr,hb,?_⟩⟩;exact⟨bC.ext _ _ Ve,m1,Z,qs,br,st1,gY,rc.le bC,aW,h1⟩|d x=>exact(Ok.nR (λ_ _=>rfl) h').elim|obj x=>exact(Ok.nR (λ_ _=>rfl) h').elim|gW x=>exact(Ok.nR (λ_ _=>rfl) h').elim|lf x=>exact(Ok.nR (λ_ _=>rfl) h').elim
theorem aN.look{K:KB}{m:List Addr}{f:Str}:∀{fs:List (Str×P)} {us:List (Str×V)},aN K H m Z fs us->(∀p,fs.lookup f=Δ p->∃v,us.lookup f=Δ v/\ai K H m Z p v)/\(fs.lookup f=Θ->us.lookup f=Θ)
 |[],us,h=>by cases (show us=[] from h);exact⟨(λp z=>nomatch z),λ_=>rfl⟩|(k,p)::fs,us,h=>by obtain⟨v,vs,rfl,r,rs⟩:=(show ∃v vs,us=(k,v)::vs/\ai K H m Z p v/\aN K H m Z fs vs from h);obtain⟨i1,i2⟩:=aN.look (f:=f) rs;rw[Xd,Xd];cases hb:f==k with|true=>exact⟨λq z=>by cases z;exact⟨v,rfl,r⟩,λz=>nomatch z⟩|false=>exact⟨i1,i2⟩
theorem BP{K:KB}{st:aL}(as:ax K H m Z st)(r:ai K H m Z p v)(h:o7 c st p=Δ (n,fs)):
  ∃a A dx us,p=.obj n/\m[n]?=Δ a/\v=.ref a/\st[n]?=Δ (.ins c fs)/\W3 K.K WY c=Δ (Δ (.ref A))/\H a=Δ (.ins A dx us)/\H dx=Δ (.own a)/\aN K H m Z fs us:=by
 unfold o7 at h;split at h
 ·rename_i n';split at h
  ·rename_i c' fs' hs;split at h;·rename_i hc;cases h;subst hc;rw[ai] at r;obtain⟨a,e,rfl⟩:=r;obtain⟨a',e',ao⟩:=as.at_ n _ hs;rw[e] at e';cases e';obtain⟨A,dx,us,g1,g2,g3,g4⟩:=ao;exact⟨a,A,dx,us,rfl,e,rfl,hs,g1,g2,g3,g4⟩
   ·cases h
  ·cases h
 ·cases h
theorem MK(T:Good X kt g C)(hf:g.yv c f=Λ)(h1:g.N[i]?=Δ x)(h2:g.xP x=Λ)(h3:aR x=Λ):PE X (.Attribute (.Name x p) f pos) (tE (af X kt) Z (aa C (.attr c f i))):=by refine PE.imp (Lw (zy (Z:=Z) (kt:=kt) T h1 h2 h3) rfl) ?_;rintro σ H Q ⟨m,ρ,st,ar,as,h⟩;rw[BB] at h;refine⟨m,ρ,st,ar,as,?_⟩;rw[lF];refine(Ok.bind h).mono λq st1 m1 H1 bC aW h1 v rv=>?_;obtain⟨q2,e,h2,_⟩:=Ok.of h1 aW;obtain⟨⟨n,fs⟩,e1,e2⟩:=b7 e;obtain⟨a,A,dx,us,rfl,hm,rfl,hs,g1,g2,g3,g4⟩:=BP aW rv e1;obtain⟨A',k1,k2,k3⟩:=T.fld c f hf;rw[show W3 X.K WY c=Δ (Δ (.ref A)) from g1] at k1;cases k1;obtain⟨w,hw,mI⟩:=(aN.look (f:=f) g4).1 q2 e2;exact⟨a,A,dx,us,w,rfl,g2,k2,k3,hw,h2 w mI⟩
theorem s_call(T:Good X kt g C)(hf:g.fns[f]?=Δ (x,bV.length))(hg:g.gl x=Λ)(hp:aR x=Λ)(hs:∀x∈xs,notStar x=Λ)(hl:xs.length=bV.length)(h:PA X xs (tA (af X kt) Z (aA C bV))):
  PE X (.Call (.Name x p) xs [] pos) (tE (af X kt) Z (aa C (.call f bV))):=by
 obtain⟨k,fa,fd,ps,F,hr,hm,hk,hb⟩:=(T.fn f x bV.length hf).ex;have red:∀σ H Q,tE (af X kt) Z (aa C (.call f bV)) σ H Q->E9 (BN (af X kt) (C f) bV.length) [] E0 (tA (af X kt) Z (aA C bV)) σ H Q:=by rintro σ H Q ⟨m,ρ,st,ar,as,h⟩;rw[g9] at h;refine⟨m,ρ,st,ar,as,(Ok.bind h).wJ λqs st1 m1 H1 hq bC aW h1 vs gY=>?_⟩;show BN (af X kt) (C f) bV.length (vs++[]) H1 Q E0;rw[Xv];exact⟨m1,Z,qs,st1,by rw[gY.length,eI hq],gY,aW,h1⟩
 cases xs with
 |nil=>
  have e:bV=[]:=by cases bV with|nil=>rfl|cons a b=>simp at hl
  subst e;refine PE.imp (Fb F hr (T.glob hg) hm hk hb .nil yQ (pn hp).1) λσ H Q h=>?_;obtain⟨m,ρ,st,ar,as,h1⟩:=red σ H Q h;rw[aB] at h1;exact Ok.here h1 as [] rfl
 |cons y ys=>exact PE.imp (HY F hr (T.glob hg) hm hk hb .nil yQ h (pn hp).1 (bj (hs y WG)) (gb λz hz=>hs z (WE _ hz))) red
theorem BQ{E:Value->WU->Prop}(I:Inv X η σ H s)(q:fK X.K H a xs)(e:abF X.K (.type "tuple") c=Δ b)(h:∀tk,Q (.bool b) {s with toks:=tk}):wpAny (model X.prog X.w) A (call (.builtin "isinstance") [.ref a,c]) Q E s:=by obtain⟨_,_,p,_⟩:=I.tuple q;obtain⟨o,h1,h2,_⟩:=p;exact XU PySem.W.kitx_tuple I.nv ⟨o,h1,h2⟩ e (λz=>nomatch z) h
theorem GB:fL X (.builtin "isinstance") (λxs H Q=>∃x T,xs=[x,.ty T]/\T∈lH/\((∃t,L2.Pw H x=Δ t/\Q (.bl (L2.mJ t T)) H)\/(∃a ys,x=.ref a/\fK X.K H a ys/\Q (.bl (L2.mJ "tuple" T)) H)\/(∃a ys,x=.ref a/\Rd H a (.lst ys)/\Q (.bl (L2.mJ "list" T)) H))):=by
 intro η s σ H xs us Q I r h;obtain⟨x,T,rfl,hT,h⟩:=h;obtain⟨u,w',rfl,rx,ry⟩:=vals2 r;cases (show w'=Y5 T from ry);have SF:T="int"\/T="bool"\/T="tuple"\/T="str"\/T="list":=by simpa[lH] using hT
 rcases h with ⟨t,ht,q⟩|⟨a,ys,rfl,hq,q⟩|⟨a,ys,rfl,hq,q⟩
 ·exact oU I rx (IA ht) (rQ X.K (LR ht) SF) λtk=>⟨.bl (L2.mJ t T),H,I.tok _,rfl,q⟩
 ·cases rx;exact BQ I hq (rQ X.K (by simp) SF) λtk=>⟨.bl (L2.mJ "tuple" T),H,I.tok _,rfl,q⟩
 ·rcases hq with hq|⟨o,hq⟩;·exact oU I rx (mH.lst hq) (rQ X.K (by simp) SF) λtk=>⟨.bl (L2.mJ "list" T),H,I.tok _,rfl,q⟩
  ·exact oU I rx (mH.dt hq) (rQ X.K (by simp) SF) λtk=>⟨.bl (L2.mJ "list" T),H,I.tok _,rfl,q⟩
theorem Ji(h:T∈lH):ZO (XH T)=Δ (.type T)/\XH T∈ud/\XH T≠"__name__"/\(XH T==("__debug__":Str))=Ξ:=by
 have h':T="int"\/T="bool"\/T="tuple"\/T="str"\/T="list":=by simpa[lH] using h
 rcases h' with rfl|rfl|rfl|rfl|rfl;·exact⟨boot_int,by decide+kernel,by decide+kernel,by decide+kernel⟩
 ·exact⟨boot_bool,by decide+kernel,by decide+kernel,by decide+kernel⟩
 ·exact⟨boot_tuple,by decide+kernel,by decide+kernel,by decide+kernel⟩
 ·exact⟨boot_str,by decide+kernel,by decide+kernel,by decide+kernel⟩
 ·exact⟨boot_list,by decide+kernel,by decide+kernel,by decide+kernel⟩
theorem Qy(T:Good X kt g C)(hg:g.gl "isinstance"=Λ)(ht:t∈lH)(Jj:g.gl (XH t)=Λ)(ha:PE X x (tE (af X kt) Z (aa C a)))(hs:notStar x=Λ):
  PE X (.Call (.Name "isinstance" p) [x,.Name (XH t) q] [] pos) (tE (af X kt) Z (aa C (.KD a t))):=by
 obtain⟨b1,b2,b3,b4⟩:=Ji ht;refine PE.imp (ji GB (T.glob hg) (T.bl _ (by decide+kernel)) boot_isinstance (rO ha (rO (HM (v:=.ty t) (T.glob Jj) (T.bl _ b2) b1 rfl b3 b4) Ba) (bj hs)) (by decide+kernel) (by decide+kernel) (bj hs) rfl) ?_;rintro σ H Q ⟨m,ρ,st,ar,as,h⟩;rw[DV] at h;refine⟨m,ρ,st,ar,as,(Ok.bind h).mono λy st1 m1 H1 bC aW h1 v rv=>?_⟩;obtain⟨k,e,h2,_⟩:=Ok.of (Ok.bind h1) aW;have q:=Ok.here h2 aW (.bl (mJ k t)) rfl;have eqt:Y.mJ k t=L2.mJ k t:=rfl;refine⟨v,t,rfl,ht,?_⟩;cases y with
 |d x=>cases x with|bz=>cases (show v=.bz from rv);cases e;exact .inl ⟨_,rfl,q⟩|bl b=>cases (show v=.bl b from rv);cases e;exact .inl ⟨_,rfl,q⟩|int b=>cases (show v=.int b from rv);cases e;exact .inl ⟨_,rfl,q⟩|str b=>cases (show v=.str b from rv);cases e;exact .inl ⟨_,rfl,q⟩|tup xs=>obtain⟨b,us,rfl,hq,_⟩:=rv;cases e;exact .inr (.inl ⟨b,us,rfl,fK.of hq,q⟩)|pl xs=>obtain⟨b,us,rfl,hq,_⟩:=rv;cases e;exact .inr (.inr ⟨b,us,rfl,hq,q⟩)
 |obj n=>
  have e':(match st1[n]? with|some (.lst _)=>Δ "list"|_=>Θ)=Δ k:=e;split at e';·rename_i xs hx;cases e';obtain⟨b,us,rfl,hq,_⟩:=cK aW (show bM st1 (.obj n)=Δ xs by show(match st1[n]? with|some (.lst xs)=>Δ xs|_=>Θ)=Δ xs;rw[hx]) rv;exact .inr (.inr ⟨b,us,rfl,hq,q⟩)
  ·cases e'
 |gW n=>cases e|fn k c=>cases e|lf k=>cases e
end
section
variable{X:Cx}{g:G}{C:Nat->List P->aL->R P}{Z:List Addr}{e:Expr}{es:List Expr}
theorem Qz(ha:PE X a (tE (af X kt) Z (aa C ea))):PE X (.UnaryOp .USub a pos) (tE (af X kt) Z (aa C (.neg ea))):=by
 refine PE.imp (OW Lv ha) ?_;rintro σ H Q ⟨m,ρ,st,ar,as,h⟩;rw[DS] at h;refine⟨m,ρ,st,ar,as,(Ok.bind h).mono λx st1 m1 H1 bC aW h1 v rv=>?_⟩;split at h1;·rename_i i;cases (show v=.int i from rv);exact⟨i,rfl,Ok.here h1 aW (.int (-i)) rfl⟩
 ·exact h1.elim
theorem GC(h:xR y=Ξ):Cn y:=by
 intro o i;cases y<;>first
  |rfl
  |exact absurd (show Λ=Ξ from h) Xw.symm
def Vf:R2:=λx y H Q=>∃a v,x=.ref a/\nL H a y (Δ v)/\Q v H
theorem BR(hu:X.A.units+100 < cLine):Ki X Vf:=by intro value slice η s σ H x y v u Q I rx ry h hs;obtain⟨a,w',rfl,g,q⟩:=h;cases rx;obtain⟨ob,h1,h2⟩:=yL I g a rfl;refine nM (yK I g) ?_ hs;exact Dw (by lia) I g ry λw2 s3 I3 mI=>⟨w',H,I3,mI,q⟩
theorem Vg(hu:X.A.units+100 < cLine)(ha:PE X a (tE (af X kt) Z (aa C ea)))(hb:PE X b (tE (af X kt) Z (aa C eb)))(hs:xR b=Ξ):PE X (.Subscript a b pos) (tE (af X kt) Z (aa C (.ix ea eb))):=by
 refine PE.imp (Pb ((Il.or LD).or (BR hu)) ha hb (GC hs)) λσ H Q h=>CD (f:=λa b=>abN a b) (λx y v u m H st Q as rx ry h=>?_) h;obtain⟨p,e,q,_⟩:=Ok.of h as;unfold BA at e;split at e;·rename_i o ho;obtain⟨res,e1,e2⟩:=b7 e;cases (show res=Δ p from e2);obtain⟨n,a,rfl,hs,hm,rfl,ao,_⟩:=ue as ho rx;obtain⟨ov,hg,h1,h2⟩:=CG ao ry e1;obtain⟨w',rfl,mI⟩:=h2 p rfl;exact .inr ⟨a,w',rfl,hg,q w' mI⟩
 left;unfold ixS at e;split at e
 ·rename_i i;cases (show u=.int i from ry);obtain⟨ps,e1,e2⟩:=b7 e;obtain⟨a,us,rfl,hq,rs⟩:=lM as e1 rx;obtain⟨j,e3,e4⟩:=b7 (show(Y.Bc ps.length i).bind (λj=>ps[j]?)=Δ p from e2);obtain⟨w',e5,mI⟩:=rs.get e4;have e6:L2.mf us i=Δ w':=by show(L2.Bc us.length i).bind (λj=>us[j]?)=Δ w';rw[rs.length];have:L2.Bc ps.length i=Δ j:=e3;rw[this];exact e5
  rcases hq with hq|hq;·exact .inl ⟨a,us,i,w',rfl,rfl,hq,e6,q w' mI⟩
  ·exact .inr ⟨a,us,i,w',rfl,rfl,fK.of hq,e6,q w' mI⟩
 ·cases e
inductive tO (K:KB) (Z:List Addr) (d:cj->aL->R (Option P)) (σ:L2.St) (H:Hp) (Q:Option Int->Hp->Prop):Prop
 |mk (m:List Addr) (r:cj) (st:aL) (a:cq K H m Z r σ) (b:ax K H m Z st) (c:Ok K Z (d r st) m H (λo _ _ H'=>∃l,Gb o=Δ l/\Q l H')):tO K Z d σ H Q
theorem PO.imp(h:PO X x t)(i:∀σ H Q,t' σ H Q->t σ H Q):PO X x t':=λη s σ H Q I q=>h η s σ H Q I (i σ H Q q)
theorem Jk:PO X Θ (tO (af X kt) Z (we C Θ)):=by refine PO.imp Ih ?_;rintro σ H Q ⟨m,ρ,st,ar,as,h⟩;rw[tq] at h;obtain⟨l,e,q⟩:=Ok.here h as;cases e;exact q
theorem Jl(ha:PE X x (tE (af X kt) Z (aa C a))):PO X (Δ x) (tO (af X kt) Z (we C (Δ a))):=by refine PO.imp (Ii ha) ?_;rintro σ H Q ⟨m,ρ,st,ar,as,h⟩;rw[BD] at h;refine⟨m,ρ,st,ar,as,(Ok.bind h).mono λp st1 m1 H1 bC aW h1 v rv=>?_⟩;obtain⟨l,e,q⟩:=Ok.here h1 aW;cases p with|obj n=>cases e|gW n=>cases e|fn k c=>cases e|lf k=>cases e|d y=>cases y with|int i=>cases e;cases (show v=.int i from rv);exact⟨i,rfl,q⟩|_=>cases e
theorem ug{K:KB}(h:ah K H m Z [p] vs):∃v,vs=[v]/\ai K H m Z p v:=by obtain⟨v,pH,rfl,rv,e⟩:=(show ∃v pH,vs=v::pH/\ai K H m Z p v/\pH=[] from h);subst e;exact⟨v,rfl,rv⟩
theorem Jm{K:KB}(h:ah K H m Z [p,q] vs):∃v u,vs=[v,u]/\ai K H m Z p v/\ai K H m Z q u:=by obtain⟨v,pH,rfl,rv,h'⟩:=(show ∃v pH,vs=v::pH/\ai K H m Z p v/\ah K H m Z [q] pH from h);obtain⟨u,rfl,ru⟩:=ug h';exact⟨v,u,rfl,rv,ru⟩
def Vh(K:WO):Bf->List V->Hp->VK->Prop
 |.any=>λxs H Q=>∃(p:Addr) (bs:List Bool),xs=[.ref p]/\ke K H p (bs.map V.bl)/\Q (.bl (bs.any id)) H|.len=>λxs H Q=>(∃p n,xs=[.ref p]/\Py H p n/\Q (.int n) H)\/(∃p ys,xs=[.ref p]/\(ke K H p ys\/fK K H p ys)/\Q (.int ys.length) H)\/(∃z,xs=[.str z]/\z.length<=W8/\Q (.int z.length) H)|.tuple=>λxs H Q=>∃p ys,xs=[.ref p]/\((ke K H p ys/\∀l,H l=Θ->Q (.ref l) (upd H l (.tup ys)))\/(fK K H p ys/\Q (.ref p) H))|.sum=>λxs H Q=>∃(p:Addr) (ns:List Int),xs=[.ref p]/\ke K H p (ns.map V.int)/\Q (.int ns.sum) H|.zi=>λxs H Q=>∃(p:Addr) (ns:List Int) (M:Int),xs=[.ref p]/\ke K H p (ns.map V.int)/\ns.max?=Δ M/\Q (.int M) H
noncomputable def QA:Bf->Value
 |.len=>.builtin "len"|.any=>.builtin "any"|.sum=>.builtin "sum"|.tuple=>.type "tuple"|.zi=>.builtin "max"
theorem zD(h:fL X f r)(h':fL X f r'):fL X f (λxs H Q=>r xs H Q\/r' xs H Q):=by
 intro η s σ H xs us Q I rv q;rcases q with q|q;·exact h η s σ H xs us Q I rv q
 ·exact h' η s σ H xs us Q I rv q
theorem Jn(hc:X.calm=Λ):∀f,fL X (QA f) (Vh X.K f)
 |.len=>zD xA (zD xt xu)|.any=>DE hc|.sum=>DZ hc|.zi=>D3 hc|.tuple=>u9
theorem zE{K:KB}:∀{ps} {bs} {us},ah K H m Z ps us->boolsOf ps=Δ bs->us=bs.map V.bl
 |[],bs,us,h,e=>by cases e;exact h|p::ps,bs,us,h,e=>by
  obtain⟨v,vs,rfl,r,rs⟩:=(show ∃v vs,us=v::vs/\ai K H m Z p v/\ah K H m Z ps vs from h);unfold boolsOf at e;split at e;·rename_i e0;cases e0
  ·rename_i b r' e0;cases e0;obtain⟨cs,e1,rfl⟩:=fI e;cases (show v=.bl b from r);rw[zE rs e1];rfl
  ·cases e
theorem ints_of{K:KB}:∀{ps} {bs} {us},ah K H m Z ps us->intsOf ps=Δ bs->us=bs.map V.int
 |[],bs,us,h,e=>by cases e;exact h|p::ps,bs,us,h,e=>by
  obtain⟨v,vs,rfl,r,rs⟩:=(show ∃v vs,us=v::vs/\ai K H m Z p v/\ah K H m Z ps vs from h);unfold intsOf at e;split at e;·rename_i e0;cases e0
  ·rename_i b r' e0;cases e0;obtain⟨cs,e1,rfl⟩:=fI e;cases (show v=.int b from r);rw[ints_of rs e1];rfl
  ·cases e
theorem QB{K:KB}{st:aL}(as:ax K H m Z st)(rx:ah K H m Z ps vs)(h:Ok K Z (R.of (uV f ps st) st) m H (λp _ m' H'=>∀v,ai K H' m' Z p v->Q v H')):Vh K.K f vs H Q:=by
 obtain⟨p,e,q,qq⟩:=Ok.of h as;unfold uV at e;split at e
 ·rename_i p0;obtain⟨v,rfl,rv⟩:=ug rx;split at e
  ·rename_i x;cases (show v=.str x from rv);split at e;·rename_i hc;cases e;exact .inr (.inr ⟨x,rfl,by rw[<-dn];exact hc,q _ rfl⟩)
   ·cases e
  ·split at e
   ·rename_i o ho;cases e;obtain⟨n,a,rfl,hs,hm,rfl,ao,hd⟩:=ue as ho rv;refine .inl ⟨a,IQ o,rfl,?_,q _ rfl⟩;cases o with
    |lst xs=>cases hd|ins c fs=>cases hd|vm=>cases hd|dK kvs=>obtain⟨us,hu,rs⟩:=ao;exact .inl ⟨us,.inl hu,rs.length⟩
    |dT kvs=>obtain⟨us,hu,rs⟩:=ao;exact .inr ⟨us,.inl hu,rs.length⟩
   ·obtain⟨xs,e1,rfl⟩:=fI e;obtain⟨a,us,rfl,hq,rs⟩:=lM as e1 rv;refine .inr (.inl ⟨a,us,rfl,KG hq,?_⟩);rw[rs.length];exact q _ rfl
 ·obtain⟨v,rfl,rv⟩:=ug rx;obtain⟨xs,e1,e⟩:=b7 e;obtain⟨bs,e2,rfl⟩:=fI e;obtain⟨a,us,rfl,hq,rs⟩:=cK as e1 rv;have:=zE rs e2;subst this;exact⟨a,bs,rfl,.inl hq,q _ rfl⟩
 ·obtain⟨v,rfl,rv⟩:=ug rx;obtain⟨xs,e1,e⟩:=b7 e;obtain⟨bs,e2,rfl⟩:=fI e;obtain⟨a,us,rfl,hq,rs⟩:=cK as e1 rv;have:=ints_of rs e2;subst this;exact⟨a,bs,rfl,.inl hq,q _ rfl⟩
 ·obtain⟨v,rfl,rv⟩:=ug rx;obtain⟨xs,e1,e⟩:=b7 e;obtain⟨bs,e2,e⟩:=b7 e;obtain⟨M,e3,rfl⟩:=fI e;obtain⟨a,us,rfl,hq,rs⟩:=cK as e1 rv;have:=ints_of rs e2;subst this;exact⟨a,bs,M,rfl,.inl hq,e3,q _ rfl⟩
 ·obtain⟨v,rfl,rv⟩:=ug rx;obtain⟨xs,e1,e⟩:=b7 e;obtain⟨ys,e2,rfl⟩:=fI e;obtain⟨a,us,rfl,hq,rs⟩:=lM as e1 rv;have rr:=rs.bw e2;rcases hq with hq|hq;·exact⟨a,us,rfl,.inl ⟨hq,λl hl=>rT (α:=Unit) as rr hl qq⟩⟩
  ·exact⟨a,us,rfl,.inr ⟨fK.of hq,q (.ref a) ⟨a,us,rfl,hq,rr⟩⟩⟩
 ·cases e
theorem Vi(T:Good X kt g C)(hg:g.gl (xQ f)=Λ)(hs:∀y∈x::xs,notStar y=Λ)(h:PA X (x::xs) (tA (af X kt) Z (aA C bV))):
  PE X (.Call (.Name (xQ f) p) (x::xs) [] pos) (tE (af X kt) Z (aa C (.bf f bV))):=by
 have red:∀σ H Q,tE (af X kt) Z (aa C (.bf f bV)) σ H Q->T4 (Vh X.K f) (tA (af X kt) Z (aA C bV)) σ H Q:=by rintro σ H Q ⟨m,ρ,st,ar,as,h⟩;rw[b9] at h;exact⟨m,ρ,st,ar,as,(Ok.bind h).mono λqs st1 m1 H1 bC aW h1 vs gY=>QB aW gY h1⟩
 have s1:=bj (env:=X.env) (es:=xs) (hs x WG);have s2:(YL pos (Xf xs X.env)).any (·.1)=Ξ:=gb λz hz=>hs z (WE _ hz);have hc:=Jn (X:=X) T.calm f;cases f with|len=>exact PE.imp (ji (id:="len") hc (T.glob hg) (T.bl _ (by decide+kernel)) PySem.boot_len h (by decide+kernel) (by decide+kernel) s1 s2) red|any=>exact PE.imp (ji (id:="any") hc (T.glob hg) (T.bl _ (by decide+kernel)) boot_any h (by decide+kernel) (by decide+kernel) s1 s2) red|sum=>exact PE.imp (ji (id:="sum") hc (T.glob hg) (T.bl _ (by decide+kernel)) boot_sum h (by decide+kernel) (by decide+kernel) s1 s2) red|zi=>exact PE.imp (ji (id:="max") hc (T.glob hg) (T.bl _ (by decide+kernel)) boot_max h (by decide+kernel) (by decide+kernel) s1 s2) red|tuple=>exact PE.imp (lD (T:="tuple") hc (T.glob hg) (T.bl _ (by decide+kernel)) boot_tuple h (by decide+kernel) (by decide+kernel) s1 s2) red
theorem ML:PE X (.Dict [] [] pos) (tE (af X kt) Z (aa C (.qT t))):=by
 have red:∀(ho:HO) (ob:O),(∀H m Z a,H a=Δ ho->qV (af X kt) H m Z a ob)->∀(σ:L2.St) (H:Hp) (Q:VK) m ρ st,cq (af X kt) H m Z ρ σ->ax (af X kt) H m Z st->
   Ok (af X kt) Z (R.ok (P.obj st.length) (st++[ob])) m H (λp _ m' H'=>∀v,ai (af X kt) H' m' Z p v->Q v H')->∀p,H p=Θ->Q (.ref p) (upd H p ho):=by
  intro ho ob MM σ H Q m ρ st ar as h p hp;have hz:p∉Z:=(as.fresh hp).2;refine h (m++[p]) (upd H p ho) ((Le.same (be hp _)).grow hp) ((as.laid hp ho (λφ z=>(MM (upd H p ho) m Z p aD).qL.2.2.2.1 φ (by rw[aD,z]))).tU hz (MM _ _ _ _ aD)) (.ref p) ⟨p,?_,rfl⟩;rw[W5 (by rw[as.len];exact WM _),as.len];simp
 cases t with
 |false=>refine PE.imp Fi ?_;rintro σ H Q ⟨m,ρ,st,ar,as,h⟩;rw[hJ] at h;exact red (.dK []) (.dK []) (λH m Z a e=>⟨[],e,rfl⟩) σ H Q m ρ st ar as h
 |true=>refine PE.imp Fj ?_;rintro σ H Q ⟨m,ρ,st,ar,as,h⟩;rw[hJ] at h;exact red (.dT []) (.dT []) (λH m Z a e=>⟨[],e,rfl⟩) σ H Q m ρ st ar as h
theorem PE.or(h1:PE X e t1)(h2:PE X e t2):PE X e (λσ H Q=>t1 σ H Q\/t2 σ H Q):=λη s σ H Q I h=>h.elim (h1 η s σ H Q I) (h2 η s σ H Q I)
theorem MN(T:Good X kt g C)(hk:CB g k kx=Λ)(hv:zx x vx=Λ):PE X (.Dict [Δ kx] [vx] pos) (tE (af X kt) Z (aa C (.DP k x))):=by
 obtain⟨v,pv,rv⟩:=Gu (X:=X) hv;obtain⟨tk,pk,rk⟩:=IY (Z:=Z) T hk;refine PE.imp (PE.or (Iq (yO pk pv Co) rfl rfl (by simp) (by simp)) (FY (by have:=T.hu;lia) pk pv)) ?_;rintro σ H Q ⟨m,ρ,st,ar,as,h⟩;rw[sY] at h;rcases rk (st:=st) ar with e|⟨y,u,e,ru,q⟩;·rw[e] at h;exact h.elim
 rw[e,ae] at h;obtain⟨o,eo,h2,dR⟩:=Ok.of (Ok.bind h) as;clear dR;unfold IT at eo;cases P9:keyOf y with
 |some kk=>rw[P9] at eo;cases eo;cases ru.key P9;refine .inl λp hp=>q _ _ ⟨aD,[(kk,v)],rfl,by simp,?_⟩;rw[Cb];have hz:p∉Z:=(as.fresh hp).2;have ho:upd H p (.dK (oX [] [(kk,v)]))=upd H p (.dK [(kk,v)]):=rfl;rw[ho];refine h2 (m++[p]) (upd H p (.dK [(kk,v)])) ((Le.same (be hp _)).grow hp) ((as.laid hp (HO.dK [(kk,v)]) (λφ z=>nomatch z)).tU hz ⟨[(kk,v)],aD,v,[],rfl,rv _ _ _ _,rfl⟩) (.ref p) ⟨p,?_,rfl⟩;rw[W5 (by rw[as.len];exact WM _),as.len];simp|none=>
  rw[P9] at eo;obtain⟨kk,DG,rfl⟩:=fI (show(mN y).map (λk=>O.dT [(k,P.d x)])=Δ o from eo);obtain⟨b,rfl,hb⟩:=ru.mN DG;refine .inr λp hp=>q _ _ ⟨aD,kk,b,rfl,?_,?_⟩;·rw[au (λz=>by rw[z,hp] at hb;cases hb)];exact hb
  rw[Cb];have hz:p∉Z:=(as.fresh hp).2;refine h2 (m++[p]) (upd H p (.dT [(kk,v)])) ((Le.same (be hp _)).grow hp) ((as.laid hp (HO.dT [(kk,v)]) (λφ z=>nomatch z)).tU hz ⟨[(kk,v)],aD,v,[],rfl,rv _ _ _ _,rfl⟩) (.ref p) ⟨p,?_,rfl⟩;rw[W5 (by rw[as.len];exact WM _),as.len];simp
theorem uh(h:isCall o=Ξ):Zn o n env w=w:=by
 cases o with
 |Call f xs ks p=>
  cases f with
  |Name x q=>
   cases xs with
   |nil=>cases ks with|nil=>exact absurd (show Λ=Ξ from h) Xw.symm|cons _ _=>rfl
   |cons _ _=>rfl
  |_=>rfl
 |_=>rfl
theorem GD{K:KB}(ao:qV K H m Z a o)(hd:kH o=Λ):Sj H a:=by cases o with|lst xs=>cases hd|ins c fs=>cases hd|vm=>cases hd|dK kvs=>obtain⟨us,hu,_⟩:=ao;exact .inl ⟨us,.inl hu⟩|dT kvs=>obtain⟨us,hu,_⟩:=ao;exact .inr ⟨us,.inl hu⟩
noncomputable def WalksU(K:KB)(J:It)(us:List V)(m:List Addr)(H:Hp):Prop:=
 ∀m2 H2,Le K m H m2 H2->∀i:Nat,(i < us.length->J.go i H2/\∀x H3,J.OR i H2 x H3->H3=H2/\us[i]?=Δ x)/\(us.length<=i->J.stop i H2)
def Walks(K:KB)(Z:List Addr)(J:It)(ps:List P)(m:List Addr)(H:Hp):Prop:=
 ∀m2 H2 Z2,Le K m H m2 H2->(∀a∈Z2,a∈Z\/H a=Θ)->∀i:Nat,(∀p,ps[i]?=Δ p->J.go i H2/\∀x H3,J.OR i H2 x H3->kf H2 H3/\ai K H3 m2 Z2 p x)/\(i=ps.length->J.stop i H2)
inductive tW (K:KB) (Z:List Addr) (d:cj->aL->R (List P)) (σ:L2.St) (H:Hp) (S:It->Hp->Prop):Prop
 |mk (m:List Addr) (r:cj) (st:aL) (a:cq K H m Z r σ) (b:ax K H m Z st) (c:Ok K Z (d r st) m H (λps _ m' H'=>∀J,Walks K Z J ps m' H'->S J H')):tW K Z d σ H S
mutual
theorem aI.jq{K:KB}{H:Hp}{m Z Z2:List Addr}(hz:∀a∈Z2,a∈Z\/H a=Θ):∀{x:D} {v:V},aI K H m Z x v->aI K H m Z2 x v
 |.bz,_,h=>h|.bl _,_,h=>h|.int _,_,h=>h|.str _,_,h=>h|.tup xs,v,h=>by obtain⟨a,us,e,q,r⟩:=(show ∃a us,v=.ref a/\H a=Δ (.tup us)/\ak K H m Z xs us from h);exact⟨a,us,e,q,ak.jq hz r⟩
 |.pl xs,v,h=>by
  obtain⟨a,us,e,q,hm,hn,r⟩:=(show ∃a us,v=.ref a/\Rd H a (.lst us)/\a∉m/\a∉Z/\ak K H m Z xs us from h);refine⟨a,us,e,q,hm,λz=>?_,ak.jq hz r⟩;rcases hz a z with y|y;·exact hn y
  ·exact Gq q y
theorem ak.jq{K:KB}{H:Hp}{m Z Z2:List Addr}(hz:∀a∈Z2,a∈Z\/H a=Θ):∀{xs:List D} {us:List V},ak K H m Z xs us->ak K H m Z2 xs us
 |[],_,h=>h|x::xs,us,h=>by obtain⟨v,vs,e,r,rs⟩:=(show ∃v vs,us=v::vs/\aI K H m Z x v/\ak K H m Z xs vs from h);exact⟨v,vs,e,aI.jq hz r,ak.jq hz rs⟩
end
mutual
theorem ai.jq{K:KB}{H:Hp}{m Z Z2:List Addr}(hz:∀a∈Z2,a∈Z\/H a=Θ):∀{x:P} {v:V},ai K H m Z x v->ai K H m Z2 x v
 |.d _,_,h=>by rw[ai] at h ⊢;exact aI.jq hz h|.obj _,_,h=>by rw[ai] at h ⊢;exact h|.gW _,_,h=>by rw[ai] at h ⊢;exact h|.fn k br,v,h=>by rw[ai] at h ⊢;obtain⟨a,c,bT,e,q,hc,r⟩:=h;exact⟨a,c,bT,e,q,hc,ah.jq hz r⟩
 |.lf k,v,h=>by rw[ai] at h ⊢;exact h
theorem ah.jq{K:KB}{H:Hp}{m Z Z2:List Addr}(hz:∀a∈Z2,a∈Z\/H a=Θ):∀{xs:List P} {us:List V},ah K H m Z xs us->ah K H m Z2 xs us
 |[],_,h=>h|x::xs,us,h=>by rw[ah] at h ⊢;obtain⟨v,vs,e,r,rs⟩:=h;exact⟨v,vs,e,ai.jq hz r,ah.jq hz rs⟩
end
theorem WalksU.walks{K:KB}(w:WalksU K J us m H)(r:ah K H m Z ps us):Walks K Z J ps m H:=by intro m2 H2 Z2 le hz i;obtain⟨w1,w2⟩:=w m2 H2 le i;refine⟨λp hp=>?_,λh=>w2 (by rw[r.length];exact aaS h.symm)⟩;obtain⟨v,hv,rv⟩:=r.get hp;obtain⟨go,yl⟩:=w1 (qqz hv).1;refine⟨go,λx H3 hy=>?_⟩;obtain⟨rfl,hx⟩:=yl x H3 hy;rw[hv] at hx;cases hx;exact⟨λ_ _ e=>e,(rv.jq hz).le le⟩
theorem PI.imp(h:PI X tg iter t)(i:∀σ H Q,t' σ H Q->t σ H Q):PI X tg iter t':=λη s σ H Q I q=>h η s σ H Q I (i σ H Q q)
theorem Jo{K:KB}(h:H a=Δ (.tup us)):WalksU K (TJ K.K a) us m H:=λm2 H2 le i=>by have h2:fK K.K H2 a us:=fK.of (le.tup _ _ h);refine⟨λhi=>⟨⟨us,us[i],h2,by simp[hi]⟩,λx H3 ⟨e,y⟩=>⟨e,y us h2⟩⟩,λhi=>⟨us,h2,hi⟩⟩
theorem Jp{K:KB}(h:Rd H a (.lst us))(hm:a∉m):WalksU K (TH K.K a) us m H:=λm2 H2 le i=>by have h2:ke K.K H2 a us:=.inl (le.rd h hm);refine⟨λhi=>⟨⟨us,us[i],h2,by simp[hi]⟩,λx H3 ⟨e,y⟩=>⟨e,y us h2⟩⟩,λhi=>⟨us,h2,hi⟩⟩
theorem CO{K:KB}{lo hi:Int}:WalksU K (Ll lo (hi - lo).toNat) ((WB (hi - lo).toNat).map λk=>V.int (lo+(k:Nat))) m H:=λm2 H2 le i=>by
 refine⟨λh=>⟨by show i < (hi - lo).toNat;rw[WJ,Xa] at h;exact h,λx H3 ⟨e,y⟩=>⟨e,?_⟩⟩,λh=>by show(hi - lo).toNat<=i;rw[WJ,Xa] at h;exact h⟩;have h':i < (hi - lo).toNat:=by rw[WJ,Xa] at h;exact h
 rw[WL,Xr h',y];rfl
theorem rW{K:KB}lo:∀l:List Nat,ah K H m Z (l.map λk=>P.d (.int (lo+(k:Nat)))) (l.map λk=>V.int (lo+(k:Nat)))
 |[]=>rfl|k::l=>⟨_,_,rfl,rfl,rW lo l⟩
theorem QC(ha:PE X x (tE (af X kt) Z (aa C a))):PI X tg x (tW (af X kt) Z (bD C (.ex a))):=by
 intro η s σ H S I h;obtain⟨m,ρ,st,ar,as,h0⟩:=h;rw[Gg] at h0;cases hr:aa C a ρ st with
 |ex x s=>rw[hr] at h0;exact(show False from h0).elim|no=>rw[hr] at h0;exact(show False from h0).elim|ok y st1=>
  rw[hr] at h0;simp only[ae] at h0;unfold o8 at h0;split at h0;·rename_i xs;refine Lm ha η s σ H S I ⟨m,ρ,st,ar,as,?_⟩;rw[hr];intro m1 H1 bC aW v rv;obtain⟨b,us,rfl,hq,rs⟩:=rv;exact⟨b,rfl,⟨us,fK.of hq⟩,h0 m1 H1 bC aW _ ((Jo hq).walks rs.map)⟩
  ·rename_i xs;refine rM ha η s σ H S I ⟨m,ρ,st,ar,as,?_⟩;rw[hr];intro m1 H1 bC aW v rv;obtain⟨b,us,rfl,hq,hm,_,rs⟩:=rv;exact⟨b,rfl,⟨us,.inl hq⟩,h0 m1 H1 bC aW _ ((Jp hq hm).walks rs.map)⟩
  ·exact(show False from h0).elim
theorem MO(T:Good X kt g C)(hg:g.gl "range"=Λ)(aK:gk g bV xs=Λ)(h:PA X xs (tA (af X kt) Z (aA C bV))):PI X tg (.Call (.Name "range" p) xs [] pos) (tW (af X kt) Z (bD C (.iJ bV))):=by
 intro η s σ H S I h1;obtain⟨m,ρ,st,ar,as,h0⟩:=h1;rw[wy] at h0;cases hr:aA C bV ρ st with
 |ex x s=>rw[hr] at h0;exact(show False from h0).elim|no=>rw[hr] at h0;exact(show False from h0).elim|ok ps st1=>
  rw[hr] at h0;simp only[ae] at h0;have hl:=eU aK;have vh:=eI hr;have oM:=cb aK;unfold sW at h0;split at h0
  ·rename_i j
   match xs,hl,oM,h with
   |[x],_,oM,h=>
    split at h0;·rename_i hc;refine Dl (T.glob hg) (T.bl _ (by decide+kernel)) h (bj (oM x WG)) η s σ H S I ⟨m,ρ,st,ar,as,?_⟩;rw[hr];intro m1 H1 bC aW vs gY;obtain⟨v,rfl,rv⟩:=ug gY;cases (show v=.int j from rv);have q:=h0 m1 H1 bC aW (Ll 0 (j - 0).toNat) ((CO (lo:=0) (hi:=j)).walks (rW 0 _));rw[Int.sub_zero] at q;exact⟨j,rfl,hc.1,hc.2,q⟩
    ·exact(show False from h0).elim
   |[],hl,_,_=>simp at hl;rw[<-hl] at vh;simp at vh|_::_::_,hl,_,_=>rw[<-vh] at hl;simp at hl
  ·rename_i i j
   match xs,hl,oM,h with
   |[x,y],_,oM,h=>
    split at h0;·rename_i hc;have sy:Xf [y] X.env=[(Ξ,eval y X.env)]:=bj (oM y (by simp));refine Dm (T.glob hg) (T.bl _ (by decide+kernel)) h (by rw[bj (oM x WG),sy]) sy η s σ H S I ⟨m,ρ,st,ar,as,?_⟩;rw[hr];intro m1 H1 bC aW vs gY;obtain⟨v,u,rfl,rv,ru⟩:=Jm gY;cases (show v=.int i from rv);cases (show u=.int j from ru);exact⟨i,j,rfl,hc,h0 m1 H1 bC aW (Ll i (j - i).toNat) ((CO (lo:=i) (hi:=j)).walks (rW i _))⟩
    ·exact(show False from h0).elim
   |[],hl,_,_=>rw[<-vh] at hl;simp at hl|[_],hl,_,_=>rw[<-vh] at hl;simp at hl|_::_::_::_,hl,_,_=>rw[<-vh] at hl;simp at hl
  ·exact(show False from h0).elim
theorem CP{K:KB}:∀{ps} {ts} {us},ah K H m Z ps us->zj ps=Δ ts->tQ H us ts
 |[],ts,us,h,e=>by cases e;cases (show us=[] from h);exact rfl|p::ps,ts,us,h,e=>by
  obtain⟨v,vs,rfl,r,rs⟩:=(show ∃v vs,us=v::vs/\ai K H m Z p v/\ah K H m Z ps vs from h);obtain⟨t,e1,e⟩:=b7 e;obtain⟨r',e2,rfl⟩:=fI e;unfold tupI at e1;split at e1;·rename_i xs;obtain⟨a,ws,rfl,hq,rx⟩:=(show ∃a us,v=.ref a/\H a=Δ (.tup us)/\ak K H m Z xs us from r);have:=ints_of rx.map e1;subst this;exact⟨a,t,r',rfl,hq,rfl,CP rs e2⟩
  ·cases e1
theorem GF(T:Good X kt g C)(hg:g.gl "sorted"=Λ)(ha:PE X x (tE (af X kt) Z (aa C a)))(hs:notStar x=Λ):PE X (.Call (.Name "sorted" p) [x] [] pos) (tL (af X kt) Z (aV C (.sorted a))):=by
 refine PE.imp (ji (id:="sorted") BI (T.glob hg) (T.bl _ (by decide+kernel)) boot_sorted (kQ ha uf hs) (by decide+kernel) (by decide+kernel) (bj hs) rfl) ?_;rintro σ H Q ⟨m,ρ,st,ar,as,h⟩;refine⟨m,ρ,st,ar,as,?_⟩;rw[nV] at h;show Ok (af X kt) Z (aA C [a] ρ st) m H _;simp only[aq,aB];cases hr:aa C a ρ st with
 |ex x s=>rw[hr] at h;exact h|no=>rw[hr] at h;exact h|ok y st1=>
  rw[hr] at h;simp only[ae] at h ⊢;intro m1 H1 bC aW vs gY;obtain⟨v,rfl,rv⟩:=ug gY;cases hi:(bM st1 y).bind sU with
  |none=>rw[hi] at h;exact(show False from h).elim|some ps=>
   rw[hi] at h;obtain⟨xs,e1,e⟩:=b7 hi;obtain⟨b,us,rfl,hq,rs⟩:=cK aW e1 rv;obtain⟨ts,e2,e⟩:=b7 e;split at e;·rename_i hc;cases e;exact⟨b,us,ts,rfl,.inl hq,CP rs e2,hc.1,by rw[rs.length];exact hc.2,λl hl=>n9 bC aW rs hl h⟩
   ·cases e
theorem Jq{K:KB}{hi lo:Int}:WalksU K (Qg hi (hi - lo).toNat) ((WB (hi - lo).toNat).map λk=>V.int (hi - (k:Nat))) m H:=λm2 H2 le i=>by
 refine⟨λh=>⟨by show i < (hi - lo).toNat;rw[WJ,Xa] at h;exact h,λx H3 ⟨e,y⟩=>⟨e,?_⟩⟩,λh=>by show(hi - lo).toNat<=i;rw[WJ,Xa] at h;exact h⟩;have h':i < (hi - lo).toNat:=by rw[WJ,Xa] at h;exact h
 rw[WL,Xr h',y];rfl
theorem zG{K:KB}hi:∀l:List Nat,ah K H m Z (l.map λk=>P.d (.int (hi - (k:Nat)))) (l.map λk=>V.int (hi - (k:Nat)))
 |[]=>rfl|k::l=>⟨_,_,rfl,rfl,zG hi l⟩
theorem Jr(T:Good X kt g C)(hg:g.gl "range"=Λ)(aK:gk g bV xs=Λ)(h:PA X xs (tA (af X kt) Z (aA C bV))):PI X tg (.Call (.Name "range" p) xs [] pos) (tW (af X kt) Z (bD C (.xI bV))):=by
 intro η s σ H S I h1;obtain⟨m,ρ,st,ar,as,h0⟩:=h1;rw[BE] at h0;cases hr:aA C bV ρ st with
 |ex x s=>rw[hr] at h0;exact(show False from h0).elim|no=>rw[hr] at h0;exact(show False from h0).elim|ok ps st1=>
  rw[hr] at h0;simp only[ae] at h0;have hl:=eU aK;have vh:=eI hr;have oM:=cb aK;unfold zk at h0;split at h0
  ·rename_i i j k;obtain⟨x,y,z,rfl⟩:∃x y z,xs=[x,y,z]:=by rw[<-vh] at hl;cases xs with|nil=>cases hl|cons x xs=>cases xs with|nil=>cases hl|cons y xs=>cases xs with|nil=>cases hl|cons z xs=>cases xs with|nil=>exact⟨x,y,z,rfl⟩|cons _ _=>cases hl
   split at h0
   ·rename_i hc;obtain⟨rfl,hc⟩:=hc;have sz:Xf [z] X.env=[(Ξ,eval z X.env)]:=bj (oM z (by simp));have sy:Xf [y,z] X.env=[(Ξ,eval y X.env),(Ξ,eval z X.env)]:=by rw[bj (oM y (by simp)),sz]
    refine D5 (T.glob hg) (T.bl _ (by decide+kernel)) h (by rw[bj (oM x WG),sy]) sy η s σ H S I ⟨m,ρ,st,ar,as,?_⟩;rw[hr];intro m1 H1 bC aW vs gY;obtain⟨v,pH,rfl,rv,h'⟩:=(show ∃v pH,vs=v::pH/\ai _ H1 m1 Z (.d (.int i)) v/\ah _ H1 m1 Z [.d (.int j),.d (.int (-1))] pH from gY);obtain⟨u,z,rfl,ru,rz⟩:=Jm h';cases (show v=.int i from rv);cases (show u=.int j from ru);cases (show z=.int (-1) from rz);exact⟨i,j,rfl,hc,h0 m1 H1 bC aW (Qg i (i - j).toNat) ((Jq (hi:=i) (lo:=j)).walks (zG i _))⟩
   ·exact(show False from h0).elim
  ·exact(show False from h0).elim
theorem zH:∀{xs} {k i:Nat} {p:P},(dk k xs)[i]?=Δ p->∃x,xs[i]?=Δ x/\p=.d (.tup [.int (k+i:Nat),x])
 |[],k,i,p,h=>by simp[dk] at h|x::xs,k,i,p,h=>by cases i with|zero=>simp[dk] at h;exact⟨x,rfl,by rw[<-h];simp⟩|succ i=>obtain⟨y,e1,e2⟩:=zH (xs:=xs) (k:=k+1) (i:=i) (by simpa[dk] using h);exact⟨y,by simpa using e1,by rw[e2];congr 4;lia⟩
theorem zI:∀{xs} {k},(dk k xs).length=xs.length
 |[],_=>rfl|x::xs,k=>by simp[dk,zI (xs:=xs) (k:=k+1)]
theorem Js{K:KB}(ha:H a=Δ (.tup us))(r:ak K H m Z xs us):Walks K Z (UN K.K a) (dk 0 xs) m H:=by intro m2 H2 Z2 le hz i;have MP:=le.tup _ _ ha;refine⟨λp hp=>?_,λh=>⟨us,fK.of MP,by rw[zI] at h;rw[r.length];exact aaS h.symm⟩⟩;obtain⟨x,hx,rfl⟩:=zH hp;obtain⟨v,hv,rv⟩:=r.map.get (i:=i) (p:=.d x) (by rw[WL,hx];rfl);refine⟨⟨us,v,fK.of MP,hv⟩,?_⟩;rintro y H3 ⟨T,v',hT,rfl,rfl,hy⟩;have e:=hy us (fK.of MP);rw[hv] at e;cases e;have sm:kf H2 (upd H2 T (.tup [.int (i:Nat),v])):=be hT _;refine⟨sm,T,[.int (i:Nat),v],rfl,aD,_,_,rfl,?_,v,[],rfl,((aI.jq hz rv).le le).le (Le.same sm),rfl⟩;show V.int (i:Nat)=V.int ((0+i:Nat):Int);rw[Xh]
theorem Jt(T:Good X kt g C)(hg:g.gl "enumerate"=Λ)(ha:PE X x (tE (af X kt) Z (aa C a)))(hs:notStar x=Λ):
  PI X (.Tuple elts kk p3) (.Call (.Name "enumerate" p) [x] [] pos) (tW (af X kt) Z (bD C (.enum a))):=by
 refine PI.imp (FF (T.glob hg) (T.bl _ (by decide+kernel)) (kQ ha uf hs) (bj hs)) ?_;rintro σ H S ⟨m,ρ,st,ar,as,h0⟩;rw[BF] at h0;refine⟨m,ρ,st,ar,as,?_⟩;show Ok (af X kt) Z (aA C [a] ρ st) m H _;simp only[aq,aB];cases hr:aa C a ρ st with
 |ex x s=>rw[hr] at h0;exact(show False from h0).elim|no=>rw[hr] at h0;exact(show False from h0).elim|ok y st1=>
  rw[hr] at h0;simp only[ae] at h0 ⊢;intro m1 H1 bC aW vs gY;obtain⟨v,rfl,rv⟩:=ug gY;split at h0;·rename_i xs;obtain⟨b,us,rfl,hq,rs⟩:=rv;exact⟨b,rfl,⟨us,fK.of hq⟩,h0 m1 H1 bC aW _ (Js hq rs)⟩
  ·exact(show False from h0).elim
theorem MQ(T:Good X kt g C){p pos p2 IG:Pos}(hg:g.gl "range"=Λ)(Jj:g.gl "list"=Λ)(aK:gk g bV xs=Λ)(h:PA X xs (tA (af X kt) Z (aA C bV))):
  PE X (.Call (.Name "list" p2) [.Call (.Name "range" p) xs [] pos] [] IG) (tL (af X kt) Z (aV C (.iJ bV))):=by
 have oM:=cb aK;have hl:=eU aK;cases xs with
 |nil=>rintro η s σ H Q I ⟨m,ρ,st,ar,as,h0⟩;cases bV with|nil=>exact(show False from h0).elim|cons a b=>simp at hl
 |cons x xs=>
  have s1:=bj (env:=X.env) (es:=xs) (oM x WG);have s2:(YL pos (Xf xs X.env)).any (·.1)=Ξ:=gb λz hz=>oM z (WE _ hz);refine PE.imp (lD (vd T.calm) (T.glob Jj) (T.bl _ (by decide+kernel)) boot_list (rO (lD yS (T.glob hg) (T.bl _ (by decide+kernel)) abW h (by decide+kernel) (by decide+kernel) s1 s2) Ba) (by decide+kernel) (by decide+kernel) rfl rfl) ?_;rintro σ H Q ⟨m,ρ,st,ar,as,h0⟩;refine⟨m,ρ,st,ar,as,?_⟩;rw[DX] at h0;cases hr:aA C bV ρ st with
  |ex x s=>rw[hr] at h0;exact(show False from h0).elim|no=>rw[hr] at h0;exact(show False from h0).elim|ok ps st1=>
   rw[hr] at h0;simp only[ae] at h0;intro m1 H1 bC aW vs gY;have fin:∀lo hi:Int,(-gD<=lo/\lo < gD/\ -gD<=hi/\hi < gD)->LQ (af X kt) Z (R.bind (R.of (Δ (Ge lo hi)) st1) λqs st2=>if qs.length<=aw then R.ok qs st2 else R.no) m H Q->∀q,H1 q=Θ->
     ∃p Od Cq,[V.ref q]=[.ref p]/\upd H1 q (.iJ lo hi) p=Δ (.iJ Od Cq)/\(-(2 ^ 62)<=Od/\Od < 2 ^ 62/\ -(2 ^ 62)<=Cq/\Cq < 2 ^ 62)/\(Cq - Od).toNat<=W8/\∀l,upd H1 q (.iJ lo hi) l=Θ->Q (.ref l) (upd (upd H1 q (.iJ lo hi)) l (.lst (Bo Od (Cq - Od).toNat))):=by
    intro lo hi hb hQ q hq;simp only[ay,ae] at hQ;split at hQ
    ·rename_i hc;refine⟨q,lo,hi,rfl,aD,hb,?_,λl hl=>?_⟩;·unfold Ge at hc;rw[WJ,Xa] at hc;rw[<-dn];exact hc
     ·have fb:Le (af X kt) m1 H1 m1 (upd H1 q (.iJ lo hi)):=Le.same (be hq _);exact n9 (bC.trans fb) (aW.same (be hq _)) (rW lo _) hl hQ
    ·exact hQ.elim
   cases hp:sW ps with
   |none=>rw[hp] at h0;exact(show False from h0).elim|some qs=>
    rw[hp] at h0;unfold sW at hp;split at hp
    ·rename_i j;split at hp;·rename_i hc;cases hp;obtain⟨v,rfl,rv⟩:=ug gY;cases (show v=.int j from rv);exact⟨0,j,.inr ⟨rfl,rfl⟩,fin 0 j ⟨by unfold gD;lia,by unfold gD;lia,hc.1,hc.2⟩ h0⟩
     ·cases hp
    ·rename_i i j;split at hp;·rename_i hc;cases hp;obtain⟨v,u,rfl,rv,ru⟩:=Jm gY;cases (show v=.int i from rv);cases (show u=.int j from ru);exact⟨i,j,.inl rfl,fin i j hc h0⟩
     ·cases hp
    ·cases hp
theorem ah.of_get{K:KB}:∀{ps} {ts},ts.length=ps.length->(∀(j:Nat) p t,ps[j]?=Δ p->ts[j]?=Δ t->ai K H m Z p t)->ah K H m Z ps ts
 |[],ts,hl,_=>by cases ts with|nil=>rfl|cons t ts=>simp at hl
 |p::ps,ts,hl,h=>by cases ts with|nil=>simp at hl|cons t ts=>exact⟨t,ts,rfl,h 0 p t rfl rfl,ah.of_get (by simpa using hl) λj p' t' e e'=>h (j+1) p' t' (by simpa using e) (by simpa using e')⟩
theorem ak.get{K:KB}{j:Nat}(h:ak K H m Z xs us)(e:xs[j]?=Δ x)(e':us[j]?=Δ u):aI K H m Z x u:=by obtain⟨v,ev,rv⟩:=h.map.get (i:=j) (p:=.d x) (by rw[WL,e];rfl);rw[e'] at ev;cases ev;exact rv
theorem MR(T:Good X kt g C){p pos p2 IG:Pos}(hg:g.gl "zip"=Λ)(Jj:g.gl "list"=Λ)(ha:PE X x1 (tE (af X kt) Z (aa C a)))(h1:notStar x1=Λ)(hb:PE X x2 (tE (af X kt) Z (aa C b)))(h2:notStar x2=Λ):
  PE X (.Call (.Name "list" p2) [.Call (.Name "zip" p) [x1,x2] [] pos] [] IG) (tL (af X kt) Z (aV C (.zip a b))):=by
 refine PE.imp (yX T.calm (T.glob Jj) (T.bl _ (by decide+kernel)) (T.glob hg) (T.bl _ (by decide+kernel)) (kQ ha (kQ hb uf h2) h1) (bj h1) (gb λz hz=>?_)) ?_
 ·have:z=x2:=by simpa using hz
  rw[this];exact h2
 rintro σ H Q ⟨m,ρ,st,ar,as,h0⟩;refine⟨m,ρ,st,ar,as,?_⟩;rw[DY] at h0;simp only[aq,aB];cases hr:aa C a ρ st with
 |ex x s=>rw[hr] at h0;exact(show False from h0).elim|no=>rw[hr] at h0;exact(show False from h0).elim|ok x st1=>
  rw[hr] at h0;simp only[ae] at h0 ⊢;cases Vj:aa C b ρ st1 with
  |ex x s=>rw[Vj] at h0;exact(show False from h0).elim|no=>rw[Vj] at h0;exact(show False from h0).elim|ok y st2=>
   rw[Vj] at h0;simp only[ae] at h0 ⊢;intro m1 H1 bC aW vs gY;obtain⟨v,u,rfl,rv,ru⟩:=Jm gY;unfold IU at h0;split at h0
   ·rename_i xs ys;obtain⟨va,us,rfl,hva,rx⟩:=rv;obtain⟨vb,ws,rfl,hvb,ry⟩:=ru;refine⟨va,vb,us,ws,rfl,fK.of hva,fK.of hvb,λl H' ts sm hl nQ hp=>?_⟩;simp only[ay,ae] at h0;have fb:Le (af X kt) m1 H1 m1 H':=Le.same sm;refine h0 m1 H' l ts (bC.trans fb) (bC.CM hl) (aW.fresh hl).1 nQ (aW.Qk hl sm (by rw[bq nQ (λ_ z=>nomatch z)];exact λz=>nomatch z)) (ah.of_get ?_ λj p t e e'=>?_);·rw[hp.1,WJ,WJ,List.length_zip,rx.length,ry.length]
    ·obtain⟨Tt,u,w',rfl,e1,e2,e3⟩:=hp.2 j t e';rw[WL,WL] at e;cases hz:(xs.zip ys)[j]? with
     |none=>rw[hz] at e;cases e|some q=>
      rw[hz] at e;have e9:P.d (D.tup [q.1,q.2])=p:=by simpa using e
      subst e9;obtain⟨q1,q2⟩:=List.getElem?_zip_eq_some.mp hz;have r1:=(aI.kM hl (rx.get q1 e2)).le fb;have r2:=(aI.kM hl (ry.get q2 e3)).le fb;exact⟨Tt,[u,w'],rfl,e1,u,[w'],rfl,r1,w',[],rfl,r2,rfl⟩
   ·exact(show False from h0).elim
end
section
variable{K:KB}{H H':Hp}{m Z:List Addr}
mutual
theorem aI.congr(ht:∀a us,H a=Δ (.tup us)->H' a=Δ (.tup us))(hl:∀a us,a∉m->a∉Z->Rd H a (.lst us)->Rd H' a (.lst us)):∀{x:D} {v:V},aI K H m Z x v->aI K H' m Z x v
 |.bz,_,h=>h|.bl _,_,h=>h|.int _,_,h=>h|.str _,_,h=>h|.tup xs,v,h=>by obtain⟨a,us,e,q,r⟩:=(show ∃a us,v=.ref a/\H a=Δ (.tup us)/\ak K H m Z xs us from h);exact⟨a,us,e,ht _ _ q,ak.congr ht hl r⟩
 |.pl xs,v,h=>by obtain⟨a,us,e,q,hm,hz,r⟩:=(show ∃a us,v=.ref a/\Rd H a (.lst us)/\a∉m/\a∉Z/\ak K H m Z xs us from h);exact⟨a,us,e,hl _ _ hm hz q,hm,hz,ak.congr ht hl r⟩
theorem ak.congr(ht:∀a us,H a=Δ (.tup us)->H' a=Δ (.tup us))(hl:∀a us,a∉m->a∉Z->Rd H a (.lst us)->Rd H' a (.lst us)):∀{xs:List D} {us:List V},ak K H m Z xs us->ak K H' m Z xs us
 |[],_,h=>h|x::xs,us,h=>by obtain⟨v,vs,e,r,rs⟩:=(show ∃v vs,us=v::vs/\aI K H m Z x v/\ak K H m Z xs vs from h);exact⟨v,vs,e,aI.congr ht hl r,ak.congr ht hl rs⟩
end
mutual
theorem ai.congr(ht:∀a us,H a=Δ (.tup us)->H' a=Δ (.tup us))(hl:∀a us,a∉m->a∉Z->Rd H a (.lst us)->Rd H' a (.lst us))(hf:∀a o u,H a=Δ (.dt o u)->H' a=Δ (.dt o u))(hx:∀a φ,H a=Δ (.ext φ)->H' a=Δ (.ext φ)):∀{x:P} {v:V},ai K H m Z x v->ai K H' m Z x v
 |.d _,_,h=>by rw[ai] at h ⊢;exact aI.congr ht hl h|.obj _,_,h=>by rw[ai] at h ⊢;exact h|.gW ns,v,h=>by
  rw[ai] at h ⊢;obtain⟨a,e,r⟩:=h;refine⟨a,e,?_⟩;rcases r with ⟨o,r⟩|r
  ·exact .inl ⟨o,hf _ _ _ r⟩
  ·exact .inr r
 |.fn k br,v,h=>by rw[ai] at h ⊢;obtain⟨a,c,bT,e,q,hc,r⟩:=h;exact⟨a,c,bT,e,q,hx _ _ hc,ah.congr ht hl hf hx r⟩|.lf k,v,h=>by rw[ai] at h ⊢;obtain⟨a,c,ct,e,q,r⟩:=h;exact⟨a,c,ct,e,hx _ _ q,hx _ _ r⟩
theorem ah.congr(ht:∀a us,H a=Δ (.tup us)->H' a=Δ (.tup us))(hl:∀a us,a∉m->a∉Z->Rd H a (.lst us)->Rd H' a (.lst us))(hf:∀a o u,H a=Δ (.dt o u)->H' a=Δ (.dt o u))(hx:∀a φ,H a=Δ (.ext φ)->H' a=Δ (.ext φ)):∀{xs:List P} {us:List V},ah K H m Z xs us->ah K H' m Z xs us
 |[],_,h=>h|x::xs,us,h=>by rw[ah] at h ⊢;obtain⟨v,vs,e,r,rs⟩:=h;exact⟨v,vs,e,ai.congr ht hl hf hx r,ah.congr ht hl hf hx rs⟩
end
theorem oa(ha:H a=Δ (.lst ys)):∀b φ,H b=Δ (.ext φ)->upd H a o b=Δ (.ext φ):=λb φ h=>by
 have hb:b≠a:=λz=>by rw[z,ha] at h;cases h
 rw[au hb];exact h
theorem rX(ha:H a=Δ (.lst ys)):∀b us,H b=Δ (.tup us)->upd H a o b=Δ (.tup us):=λb us h=>by
 have hb:b≠a:=λz=>by rw[z,ha] at h;cases h
 rw[au hb];exact h
theorem rY(ha:H a=Δ (.lst ys)):∀b o' u,H b=Δ (.dt o' u)->upd H a o b=Δ (.dt o' u):=λb o' u h=>by
 have hb:b≠a:=λz=>by rw[z,ha] at h;cases h
 rw[au hb];exact h
theorem BS(hb:b≠a)(h:Rd H b (.lst us)):Rd (upd H a o) b (.lst us):=by
 rcases h with h|⟨o',h⟩;·exact .inl (by rw[au hb];exact h)
 ·exact .inr ⟨o',by rw[au hb];exact h⟩
theorem ax.QD{st:aL}(A:ax K H m (a::Z) st)(ha:H a=Δ (.lst ys)):ax K (upd H a (.lst zs)) m (a::Z) st:=by
 refine⟨A.len,A.nd,λn o h=>?_,λb hb=>?_,A.zm,λt ht=>?_⟩
 ·obtain⟨c,q,r⟩:=A.at_ n o h;have hc:c≠a:=λz=>A.zm a WG (by rw[<-z];exact W6 q);exact⟨c,q,r.mono (λb u hb hu=>by
   rw[au (λz=>by
    rcases hb with w1|w1;·exact hc (w1▸z)
    ·rw[z,ha] at w1;cases w1)]
   exact hu) λp v z=>z.congr (rX ha) (λb us _ hz h=>BS (λz=>hz (by rw[z];exact WG)) h) (rY ha) (oa ha)⟩
 ·exact lG (o:=.lst zs) (λ_ z=>nomatch z) (A.zt b hb)
 ·obtain⟨ps,h1,h2⟩:=A.tab t ht;exact⟨ps,by rw[au (λz=>by rw[z,ha] at h1;cases h1)];exact h1,fN.same (oa ha) h2⟩
theorem Le.QE{H1:Hp}{m1:List Addr}{a:Addr}{ys zs:List V}(le:Le K m1 H1 m H)(h1:H1 a=Θ)(ha:H a=Δ (.lst ys)):Le K m1 H1 m (upd H a (.lst zs)) where
 pre:=le.pre
 tup:=λb xs h=>rX ha b xs (le.tup b xs h)
 keep:=λb u h hb hu=>by rw[au (aM h h1)];exact le.keep b u h hb hu
 ext:=λb φ h=>oa ha b φ (le.ext b φ h)
 Cy:=λb h=>lG (o:=.lst zs) (λ_ z=>nomatch z) (le.Cy b h)
 fE:=λb ps h=>by obtain⟨more,e⟩:=le.fE b ps h;exact⟨more,by rw[au (λz=>by rw[z,ha] at e;cases e)];exact e⟩
 new:=le.new
 qL:=λb h=>by
  by_cases Mq:b=a;·rw[Mq,aD];exact λz=>nomatch z
  ·rw[au Mq];exact le.qL b h
 dt:=λb o u h=>rY ha b o u (le.dt b o u h)
end
section
variable{X:Cx}{g:G}{C:Nat->List P->aL->R P}{Z:List Addr}{e:Expr}{es:List Expr}
theorem Fq.imp(h:Fq X ifs t)(i:∀σ H Q,t' σ H Q->t σ H Q):Fq X ifs t':=λη s σ H Q I q=>h η s σ H Q I (i σ H Q q)
noncomputable def MS(K:KB)(d:cj->aL->R Bool):TT:=λσ H Q=>∃Z,tT K Z d σ H Q
noncomputable def QF(K:KB)(d:cj->aL->R P):TE:=λσ H Q=>∃Z,tE K Z d σ H Q
theorem D9:Fq X [] (MS (af X kt) (bh C Θ)):=by refine Fq.imp Iu ?_;rintro σ H Q ⟨Z,m,ρ,st,ar,as,h⟩;rw[mR] at h;exact Ok.here h as
theorem Ea(h:∀Z,PT X c (tT (af X kt) Z (bI (aa C ec)))):Fq X [c] (MS (af X kt) (bh C (Δ ec))):=by refine Iv λη s σ H Q I q=>?_;obtain⟨Z,q⟩:=q;refine h Z η s σ H Q I ?_;obtain⟨m,ρ,st,ar,as,h⟩:=q;rw[tw] at h;exact⟨m,ρ,st,ar,as,h⟩
theorem Eb(h:∀Z,PE X x (tE (af X kt) Z d)):PE X x (QF (af X kt) d):=λη s σ H Q I ⟨Z,q⟩=>h Z η s σ H Q I q
theorem ui{K:KB}(ar:cq K H m Z r σ)(eZ:H acc=Θ)(le:Le K m H m2 H2):cq K H2 m2 (acc::Z) (bH js r) (js.map λj=>(σ[j]?).join):=by
 refine⟨by unfold bH;simp,λi q h=>?_⟩;unfold bH at h;rw[WL] at h;cases ej:js[i]? with
 |none=>rw[ej] at h;cases h|some j=>
  rw[ej] at h;have h2:(r[j]?).join=Δ q:=by simpa using h
  have h3:r[j]?=Δ (Δ q):=by cases e:r[j]? with|none=>rw[e] at h2;cases h2|some o=>rw[e] at h2;simp at h2;rw[h2]
  obtain⟨w',e1,r1⟩:=ar.at_ j q h3;refine⟨w',?_,(r1.kM eZ).le le⟩;rw[WL,ej];simp[e1]
theorem cq.cons{K:KB}(ar:cq K H m Z r σ)(rp:ai K H m Z p v):cq K H m Z (Δ p::r) (Δ v::σ):=by refine⟨by simp[ar.len],λi q h=>?_⟩;cases i with|zero=>simp at h;subst h;exact⟨v,by simp,rp⟩|succ i=>exact ar.at_ i q (by simpa using h)
theorem Ec{K:KB}(ar:cq K H m Z r σ)(eZ:H acc=Θ)(le:Le K m H m2 H2)(rp:ai K H2 m2 (acc::Z) p v):
  cq K H2 m2 (acc::Z) (Δ p::bH js r) (Δ v::js.map λj=>(σ[j]?).join):=(ui ar eZ le).cons rp
theorem wM{gB:P->cj}(MT:∀(p:P) (v:V) (m:List Addr) (H:Hp) (Z:List Addr) (us fr:L2.St) (rb:cj) (Q':L2.St->Hp->Prop),okp p=Λ->ai (af X kt) H m Z p v->cq (af X kt) H m Z rb fr->us.length=ts->
   (∀Ju:L2.St,Ju.length=ts->cq (af X kt) H m Z (gB p++rb) (Ju++fr)->Q' (Ju++fr) H)->gt v (us++fr) H Q')(h:tL (af X kt) Z (λr st=>(bD C w r st).bind λps st1=>if ps.all okp=Λ/\ps.length<=aw then cx (λp=>gB p++bH js r) (bh C c) (λr' aJ=>aa C ee r' aJ) ps st1 else .no) σ H Q):
  v8 (tW (af X kt) Z (bD C w)) gt (MS (af X kt) (bh C c)) (QF (af X kt) (aa C ee)) ts js σ H Q:=by
 obtain⟨m0,r,jK,ar,Vk,h⟩:=h;refine⟨m0,r,jK,ar,Vk,?_⟩;cases hw:bD C w r jK with
 |ex x s=>rw[hw] at h;exact(show False from h).elim|no=>rw[hw] at h;exact(show False from h).elim|ok ps st1=>
  rw[hw] at h;simp only[ae] at h;split at h
  ·rename_i hlen;obtain⟨Fm,hlen⟩:=hlen;intro m1 H1 bC aW J wk acc eZ
   let G':P->cj:=λp=>gB p++bH js r
   let K':=af X kt
   let fr:L2.St:=js.map λj=>(σ[j]?).join
   let CK:Nat->List P->aL->Prop:=λi qs st=>match cx G' (bh C c) (λr' aJ=>aa C ee r' aJ) (ps.drop i) st with|.ok rest aJ=>LQ (af X kt) Z (.ok (qs++rest) aJ) m0 H Q|_=>False
   have SG:CK 0 [] st1:=by show(match cx G' (bh C c) (λr' aJ=>aa C ee r' aJ) (ps.drop 0) st1 with|.ok rest aJ=>LQ (af X kt) Z (.ok ([]++rest) aJ) m0 H Q|_=>False);rw[ZM];cases hc:cx G' (bh C c) (λr' aJ=>aa C ee r' aJ) ps st1 with|ok rest aJ=>have h':LQ (af X kt) Z (cx G' (bh C c) (λr' aJ=>aa C ee r' aJ) ps st1) m0 H Q:=h;rw[hc] at h';exact h'|ex x s=>have h':LQ (af X kt) Z (cx G' (bh C c) (λr' aJ=>aa C ee r' aJ) ps st1) m0 H Q:=h;rw[hc] at h';exact h'|no=>have h':LQ (af X kt) Z (cx G' (bh C c) (λr' aJ=>aa C ee r' aJ) ps st1) m0 H Q:=h;rw[hc] at h';exact h'
   refine⟨λi k τ H'=>k=ps.length - i/\i<=ps.length/\(∃us:L2.St,us.length=ts/\τ=us++fr)/\∃m st qs ys,Le (af X kt) m1 H1 m H'/\ax (af X kt) H' m (acc::Z) st/\H' acc=Δ (.lst ys)/\ah (af X kt) H' m (acc::Z) qs ys/\qs.length<=i/\CK i qs st,⟨ps.length,by simp,XZ _,⟨XW ts Θ,ZJ,rfl⟩,?_⟩,?_⟩;·exact⟨m1,st1,[],[],Le.same (be eZ _),aW.laid eZ _,aD,rfl,WM _,SG⟩
   ·rintro i k τ H' ⟨rfl,hi,⟨us0,lus,rfl⟩,m,st,qs,ys,le,as,MU,rq,hql,ck⟩;obtain⟨w1,w2⟩:=wk m H' (acc::Z) le (λa ha=>(Z3.mp ha).elim (λz=>.inr (by rw[z];exact eZ)) .inl) i;by_cases eB:i < ps.length
    ·have Oe:i < ps.length:=eB;obtain⟨go,yl⟩:=w1 ps[i] (WI Oe);refine .inr ⟨go,λx H2 hy=>?_⟩;obtain⟨sm,rx⟩:=yl x H2 hy;have BU:Le (af X kt) m H' m H2:=Le.same sm;replace le:=le.trans BU;replace as:=as.same sm;replace MU:=sm _ _ MU;replace rq:=rq.le BU;have dR:ps.drop i=ps[i]::ps.drop (i+1):=Yg Oe;have mV:(match cx G' (bh C c) (λr' aJ=>aa C ee r' aJ) (ps[i]::ps.drop (i+1)) st with|.ok rest aJ=>LQ (af X kt) Z (.ok (qs++rest) aJ) m0 H Q|_=>False):=by rw[<-dR];exact ck
     rw[hU] at mV;refine MT ps[i] x m H2 (acc::Z) us0 fr (bH js r) _ (Zv.mp Fm _ (Xz Oe)) rx (ui (js:=js) (ar.le bC) eZ le) lus λJu QG QH=>?_;refine⟨acc::Z,m,G' ps[i],st,QH,as,?_⟩;cases hc:bh C c (G' ps[i]) st with
     |ex x s=>rw[hc] at mV;exact mV.elim|no=>rw[hc] at mV;exact mV.elim|ok b st2=>
      rw[hc] at mV;simp only[ae] at mV;intro m2 H2 fb eE;have zJ:H2 acc=Δ (.lst ys):=fb.keep acc _ MU (as.zm acc WG) (λ_ z=>nomatch z);cases b with
      |false=>refine⟨ps.length - (i+1),Zf _ _ eB,rfl,eB,⟨Ju,QG,rfl⟩,m2,st2,qs,ys,le.trans fb,eE,zJ,rq.le fb,by lia,?_⟩;exact mV|true=>
       refine⟨acc::Z,m2,G' ps[i],st2,QH.le fb,eE,?_⟩;have mW:(match (aa C ee (G' ps[i]) st2).bind λy st3=>(cx G' (bh C c) (λr' aJ=>aa C ee r' aJ) (ps.drop (i+1)) st3).bind λys mj=>R.ok (y::ys) mj with|.ok rest aJ=>LQ (af X kt) Z (.ok (qs++rest) aJ) m0 H Q|_=>False):=mV;cases he:aa C ee (G' ps[i]) st2 with
       |ex x s=>rw[he] at mW;exact mW.elim|no=>rw[he] at mW;exact mW.elim|ok y st3=>
        rw[he] at mW;simp only[ae] at mW;intro m3 H3 uj uY v rv;have jr:H3 acc=Δ (.lst ys):=uj.keep acc _ zJ (eE.zm acc WG) (λ_ z=>nomatch z);have hyl:ys.length=qs.length:=rq.length;have Vl:ah (af X kt) (upd H3 acc (.lst (ys++[v]))) m3 (acc::Z) (qs++[y]) (ys++[v]):=by have q1:ah (af X kt) H3 m3 (acc::Z) (qs++[y]) (ys++[v]):=((rq.le fb).le uj).append ⟨v,[],rfl,rv,rfl⟩;exact q1.congr (rX jr) (λb us _ hz h=>BS (λz=>hz (by rw[z];exact WG)) h) (rY jr) (oa jr)
        refine⟨ys,jr,by rw[<-dn];lia,ps.length - (i+1),Zf _ _ eB,rfl,eB,⟨Ju,QG,rfl⟩,m3,st3,qs++[y],ys++[v],?_,uY.QD jr,aD,Vl,by rw[W1];simp;lia,?_⟩;·exact Le.QE ((le.trans fb).trans uj) eZ jr
        ·show(match cx G' (bh C c) (λr' aJ=>aa C ee r' aJ) (ps.drop (i+1)) st3 with|.ok rest aJ=>LQ (af X kt) Z (.ok ((qs++[y])++rest) aJ) m0 H Q|_=>False);cases hr:cx G' (bh C c) (λr' aJ=>aa C ee r' aJ) (ps.drop (i+1)) st3 with|ex x s=>rw[hr] at mW;exact mW|no=>rw[hr] at mW;exact mW|ok rest mj=>rw[hr] at mW;show LQ (af X kt) Z (R.ok ((qs++[y])++rest) mj) m0 H Q;rw[Xt];exact mW
    ·have e:i=ps.length:=by lia
     subst e;refine .inl ⟨w2 rfl,?_⟩;have mV:(match cx G' (bh C c) (λr' aJ=>aa C ee r' aJ) (ps.drop ps.length) st with|.ok rest aJ=>LQ (af X kt) Z (.ok (qs++rest) aJ) m0 H Q|_=>False):=ck;rw[abi,wF] at mV;have mW:LQ (af X kt) Z (R.ok (qs++[]) st) m0 H Q:=mV;rw[Xv] at mW;exact mW m H' acc ys (bC.trans le) (bC.CM eZ) (as.zm acc WG) MU as rq
  ·exact(show False from h).elim
theorem zK(h:tL (af X kt) Z (aV C (.comp w 1 js c ee)) σ H Q):
  v8 (tW (af X kt) Z (bD C w)) (nC 0) (MS (af X kt) (bh C c)) (QF (af X kt) (aa C ee)) 1 js σ H Q:=by
 refine wM (okp:=λ_=>Λ) (gB:=λp=>[Δ p]) (λp v m H Z us fr rb Q' _ rp ar lu q=>?_) ?_
 ·match us,lu with|[u],_=>exact q [Δ v] rfl (ar.cons rp)
 ·have e:aV C (.comp w 1 js c ee)=λr st=>(bD C w r st).bind λps st1=>if(ps.all λ_=>Λ)=Λ/\ps.length<=aw then cx (λp=>[Δ p]++bH js r) (bh C c) (λr' aJ=>aa C ee r' aJ) ps st1 else .no:=by funext r st;rw[jL];simp
  rw[<-e];exact h
theorem wN(h:tL (af X kt) Z (aV C (.kD w js c ee)) σ H Q):
  v8 (tW (af X kt) Z (bD C w)) (OQ X.K 2 (EX (nC 0) (EX (nC 1) OP))) (MS (af X kt) (bh C c)) (QF (af X kt) (aa C ee)) 2 js σ H Q:=by
 refine wM (okp:=Gf) (gB:=Qf) (λp v m H Z us fr rb Q' ho rp ar lu q=>?_) ?_
 ·unfold Gf at ho;split at ho
  ·rename_i a b;obtain⟨c,us2,rfl,hc,v1,vs1,e1,Vm,v2,Vn,e2,QI,e3⟩:=rp;subst e3 e2 e1
   match us,lu with|[u,u'],_=>exact⟨c,_,rfl,fK.of hc,rfl,v1,[v2],rfl,v2,[],rfl,rfl,q [Δ v1,Δ v2] rfl ((ar.cons (p:=.d b) (show ai (af X kt) H m Z (.d b) v2 from QI)).cons (p:=.d a) (show ai (af X kt) H m Z (.d a) v1 from Vm))⟩
  ·cases ho
 ·have e:aV C (.kD w js c ee)=λr st=>(bD C w r st).bind λps st1=>if ps.all Gf=Λ/\ps.length<=aw then cx (λp=>Qf p++bH js r) (bh C c) (λr' aJ=>aa C ee r' aJ) ps st1 else .no:=by funext r st;rw[qw]
  rw[<-e];exact h
theorem pI{K:KB}{st:aL}(as:ax K H m Z st)(ha:m[n]?=Δ a)(h:wd n st i=Δ o):∃us,H a=Δ (.lst us)/\(o=Θ->us.length<=i)/\∀p,o=Δ p->∃v,us[i]?=Δ v/\ai K H m Z p v:=by
 unfold wd at h;split at h;·rename_i xs hs;cases h;obtain⟨a',e,us,hu,rs⟩:=as.at_ n _ hs;rw[ha] at e;cases e;refine⟨us,hu,λz=>?_,λp z=>rs.get z⟩;rw[rs.length];exact List.getElem?_eq_none_iff.mp z
 ·cases h
theorem wO{e:E}(h:tL (af X kt) Z (aV C (.cm e js c ee)) σ H Q):
  v8 (Ke X.K (tE (af X kt) Z (aa C e))) (nC 0) (MS (af X kt) (bh C c)) (QF (af X kt) (aa C ee)) 1 js σ H Q:=by
 obtain⟨m0,r,jK,ar,Vk,h⟩:=h;rw[qx] at h;refine⟨m0,r,jK,ar,Vk,?_⟩;cases hw:aa C e r jK with
 |ex x s=>rw[hw] at h;exact(show False from h).elim|no=>rw[hw] at h;exact(show False from h).elim|ok x0 st1=>
  rw[hw] at h;simp only[ae] at h;split at h
  ·rename_i n;intro m1 H1 bC aW v rv;obtain⟨a,ha,rfl⟩:=rv
   let G':P->cj:=λp=>Δ p::bH js r
   let fr:L2.St:=js.map λj=>(σ[j]?).join
   let CK:Nat->Nat->List P->aL->Prop:=λk i qs st=>match cm n G' (bh C c) (λr' aJ=>aa C ee r' aJ) k i st with|.ok rest aJ=>LQ (af X kt) Z (.ok (qs++rest) aJ) m0 H Q|_=>False
   have SG:CK aw 0 [] st1:=by show(match cm n G' (bh C c) (λr' aJ=>aa C ee r' aJ) aw 0 st1 with|.ok rest aJ=>LQ (af X kt) Z (.ok ([]++rest) aJ) m0 H Q|_=>False);have h':LQ (af X kt) Z (cm n G' (bh C c) (λr' aJ=>aa C ee r' aJ) aw 0 st1) m0 H Q:=h;cases hc:cm n G' (bh C c) (λr' aJ=>aa C ee r' aJ) aw 0 st1 with|ok rest aJ=>rw[hc] at h';exact h'|ex x s=>rw[hc] at h';exact h'|no=>rw[hc] at h';exact h'
   have QJ:∃us,H1 a=Δ (.lst us):=by have ck:=SG;have mV:(match cm n G' (bh C c) (λr' aJ=>aa C ee r' aJ) (16777215+1) 0 st1 with|.ok rest aJ=>LQ (af X kt) Z (.ok ([]++rest) aJ) m0 H Q|_=>False):=ck;rw[mS] at mV;cases ho:wd n st1 0 with|none=>rw[ho] at mV;exact mV.elim|some o=>obtain⟨us,hu,_⟩:=pI aW ha ho;exact⟨us,hu⟩
   obtain⟨QK,QL⟩:=QJ;refine⟨a,rfl,⟨QK,.inl (.inl QL)⟩,λacc eZ=>?_⟩;refine⟨λi k τ H'=>k+i=aw/\(∃u,τ=u::fr)/\∃m st qs ys,Le (af X kt) m1 H1 m H'/\ax (af X kt) H' m (acc::Z) st/\H' acc=Δ (.lst ys)/\ah (af X kt) H' m (acc::Z) qs ys/\qs.length<=i/\CK k i qs st,⟨aw,rfl,⟨Θ,rfl⟩,?_⟩,?_⟩;·exact⟨m1,st1,[],[],Le.same (be eZ _),aW.laid eZ _,aD,rfl,WM _,SG⟩
   ·rintro i k τ H' ⟨hk,⟨u,rfl⟩,m,st,qs,ys,le,as,MU,rq,hql,ck⟩;have QM:m[n]?=Δ a:=by obtain⟨t,et⟩:=le.pre;rw[et,WK (qqz ha).1];exact ha
    cases k with
    |zero=>exact(show False from ck).elim|succ k=>
     have mV:(match cm n G' (bh C c) (λr' aJ=>aa C ee r' aJ) (k+1) i st with|.ok rest aJ=>LQ (af X kt) Z (.ok (qs++rest) aJ) m0 H Q|_=>False):=ck;rw[mS] at mV;cases ho:wd n st i with
     |none=>rw[ho] at mV;exact mV.elim|some o=>
      rw[ho] at mV;obtain⟨us,hu,q0,q1⟩:=pI as QM ho;cases o with
      |none=>have mW:LQ (af X kt) Z (R.ok (qs++[]) st) m0 H Q:=mV;rw[Xv] at mW;exact .inl ⟨⟨us,.inl (.inl hu),q0 rfl⟩,mW m H' acc ys (bC.trans le) (bC.CM eZ) (as.zm acc WG) MU as rq⟩|some p=>
       obtain⟨vx,KL,rx⟩:=q1 p rfl;refine .inr ⟨⟨us,vx,.inl (.inl hu),KL⟩,λx H2 hy=>?_⟩;obtain⟨rfl,hx⟩:=hy;have yt:=hx us (.inl (.inl hu));rw[KL] at yt;cases yt;simp only at mV;have QH:=Ec (js:=js) (ar.le bC) eZ le rx;refine⟨acc::Z,m,G' p,st,QH,as,?_⟩;cases hc:bh C c (G' p) st with
       |ex x s=>rw[hc] at mV;exact mV.elim|no=>rw[hc] at mV;exact mV.elim|ok b st2=>
        rw[hc] at mV;simp only[ae] at mV;intro m2 H2 fb eE;have zJ:H2 acc=Δ (.lst ys):=fb.keep acc _ MU (as.zm acc WG) (λ_ z=>nomatch z);cases b with
        |false=>exact⟨k,Yq k,by lia,⟨Δ vx,rfl⟩,m2,st2,qs,ys,le.trans fb,eE,zJ,rq.le fb,by lia,mV⟩|true=>
         refine⟨acc::Z,m2,G' p,st2,QH.le fb,eE,?_⟩;have mW:(match (aa C ee (G' p) st2).bind λy st3=>(cm n G' (bh C c) (λr' aJ=>aa C ee r' aJ) k (i+1) st3).bind λys mj=>R.ok (y::ys) mj with|.ok rest aJ=>LQ (af X kt) Z (.ok (qs++rest) aJ) m0 H Q|_=>False):=mV;cases he:aa C ee (G' p) st2 with
         |ex x s=>rw[he] at mW;exact mW.elim|no=>rw[he] at mW;exact mW.elim|ok y st3=>
          rw[he] at mW;simp only[ae] at mW;intro m3 H3 uj uY v rv;have jr:H3 acc=Δ (.lst ys):=uj.keep acc _ zJ (eE.zm acc WG) (λ_ z=>nomatch z);have hyl:ys.length=qs.length:=rq.length;have Vl:ah (af X kt) (upd H3 acc (.lst (ys++[v]))) m3 (acc::Z) (qs++[y]) (ys++[v]):=by have q1:ah (af X kt) H3 m3 (acc::Z) (qs++[y]) (ys++[v]):=((rq.le fb).le uj).append ⟨v,[],rfl,rv,rfl⟩;exact q1.congr (rX jr) (λb us _ hz h=>BS (λz=>hz (by rw[z];exact WG)) h) (rY jr) (oa jr)
          refine⟨ys,jr,by rw[<-dn];lia,k,Yq k,by lia,⟨Δ vx,rfl⟩,m3,st3,qs++[y],ys++[v],?_,uY.QD jr,aD,Vl,by rw[W1];simp;lia,?_⟩;·exact Le.QE ((le.trans fb).trans uj) eZ jr
          ·show(match cm n G' (bh C c) (λr' aJ=>aa C ee r' aJ) k (i+1) st3 with|.ok rest aJ=>LQ (af X kt) Z (.ok ((qs++[y])++rest) aJ) m0 H Q|_=>False);cases hr:cm n G' (bh C c) (λr' aJ=>aa C ee r' aJ) k (i+1) st3 with|ex x s=>rw[hr] at mW;exact mW|no=>rw[hr] at mW;exact mW|ok rest mj=>rw[hr] at mW;show LQ (af X kt) Z (R.ok ((qs++[y])++rest) mj) m0 H Q;rw[Xt];exact mW
  ·exact(show False from h).elim
theorem gK{env:PySem.Env}:∀{names:List (Str×Zi)} {x},names.lookup x=Δ .globalImplicit->
  (names.map λ(n,k)=>if(k==W2&&env.scope.kind==.function&&env.kindOf n==Δ .cell) then(n,Yk) else(n,k)).lookup x=Δ .globalImplicit
 |[],_,h=>by simp at h|(n,k)::r,x,h=>by
  have ih:=@gK env r x;show Yz x ((if(k==W2&&env.scope.kind==.function&&env.kindOf n==Δ .cell)=Λ then(n,Yk) else(n,k))::_)=_;cases hx:x==n with
  |true=>simp only[Xd,hx] at h;cases h;rw[if_neg (by simp)];simp[Xd,hx]|false=>
   simp only[Xd,hx] at h;by_cases hc:(k==W2&&env.scope.kind==.function&&env.kindOf n==Δ .cell)=Λ;·rw[if_pos hc];simp only[Xd,hx];exact ih h
   ·rw[if_neg hc];simp only[Xd,hx];exact ih h
theorem Good.pJ(T:Good X kt g C){N:List Str}(h:Gr g ts N js sc=Λ):jG X N ts js sc:=by unfold Gr at h;simp only[WC,qqq,Zv,YS] at h;obtain⟨⟨⟨h1,h2⟩,h3⟩,h4⟩:=h;refine⟨h1,h2,λx hx=>(h3 x hx).1.1,λx hx hl=>(h3 x hx).1.2.resolve_left λz=>z hl,λx hx hf=>T.HA _ ((h3 x hx).2.resolve_left λz=>z hf),λi y j e1 e2=>?_⟩;have hi:i∈WB js.length:=XX.mpr (qqz e2).1;have q:=h4 i hi;rw[e1,e2] at q;rw[T.N];simpa using q
theorem uc.inner(h:uc X kt c x n):uc (lX X η N sc fp Cc s H) kt c x n:=⟨h.ex⟩
theorem CC.inner(h:CC X kt C k a c bT):CC (lX X η N sc fp Cc s H) kt C k a c bT:=⟨h.ob,h.ex⟩
theorem Good.inner(T:Good X kt g C){η:List (Addr×Obj)}{N:List Str}{js:List Nat}{sc:Scope}{fp:List Addr}{Cc:Addr}{s:WU}{H:Hp}(hnc:∀x∈sc.names,x.2≠.cell):Good (lX X η N sc fp Cc s H) kt (g.inner N sc) C where
 N:=rfl
 loc:=λx h=>lookup_relabel_local h
 HA:=λx h=>by
  rcases h with h|h;·exact absurd rfl (hnc _ (Xq h))
  ·exact jF h
 gl:=λx h=>gK h
 calm:=T.calm
 hu:=T.hu
 bl:=T.bl
 fn:=λk x n h=>(T.fn k x n h).inner
 cs:=T.cs
 tb:=T.tb
 fld:=T.fld
 Ob:=T.Ob
 Oc:=T.Oc
 qy:=λhv k a c bT h=>(T.qy hv k a c bT h).inner
 lam:=λk pa bo sc' ps h=>absurd (show Ξ=Λ from h) (by decide)
 iQ:=λf x n ls h=>absurd (show Ξ=Λ from h) (by decide)
 jc:=λf x ls h=>absurd (show Ξ=Λ from h) (by decide)
end
section
variable{X:Cx}{kt:KT}{g:G}{C:Nat->List P->aL->R P}{Z:List Addr}
theorem zL(hs:∀z∈xs,notStar z=Λ):(YL pos (Xf xs env)).all (λx=>!x.1)=Λ:=by have h:=gb (env:=env) (pos:=pos) hs;rw[aa3] at h;rw[Zv];intro x hx;have:=h x hx;revert this;cases x.1<;>simp
theorem wQ(hs:∀z∈xs,notStar z=Λ)(hn:xs.length < 30)(g6:(apos.endLine==pos.line)=Λ):
  eval (.Call (.Attribute (.Name x p) mm apos) xs [] pos) env=(do
   let ov<-eval (.Name x p) env
   abm apos.atName
   let (f,first)<-abM [ov] (abf ov mm (do return (<-importBound (.Name x p) env).getD Λ))
   ab1 pos f first (YL pos (Xf xs env)) (aaH pos (Zx [] env))):=by
 rw[arm_eval_Call];have QN:methodCallForm (xs.length+([]:List aa4).length) (YL pos (Xf xs env)) (aaH pos (Zx [] env))=Λ:=by unfold methodCallForm;rw[zL hs];have:xs.length+0+0 < 30:=hn;simp[hn];exact⟨λa b h=>(by cases h),hn⟩
 have Jv:methodCallPos Λ (.Name x p) env apos pos=pure pos:=by unfold methodCallPos;simp[g6]
 unfold methodCall;rw[QN,Jv];rfl
theorem MV(T:Good X kt g C)(hm:g.AV k c mm bV.length=Λ)(h1:g.N[i]?=Δ x)(h2:g.xP x=Λ)(h3:aR x=Λ)(hn:xs.length < 30)(g6:(apos.endLine==pos.line)=Λ)(hs:∀z∈xs,notStar z=Λ)(hl:xs.length=bV.length)(h:PA X xs (tA (af X kt) Z (aA C bV))):
  PE X (.Call (.Attribute (.Name x p) mm apos) xs [] pos) (tE (af X kt) Z (aa C (.o6 k c mm i bV))):=by
 obtain⟨A,l,fa,fd,ps,k1,kc,km,F,hr,hb⟩:=T.Ob k c mm bV.length hm;have red:∀σ H Q,tE (af X kt) Z (aa C (.o6 k c mm i bV)) σ H Q->Cj A mm (BN (af X kt) (C k) (bV.length+1)) [] E0 (tE (af X kt) Z (aa C (.var i))) (tA (af X kt) Z (aA C bV)) σ H Q:=by
  rintro σ H Q ⟨m,ρ,st,ar,as,h⟩;rw[BC] at h;refine⟨m,ρ,st,ar,as,?_⟩;rw[lF];refine(Ok.bind h).mono λq st1 m1 H1 bC aW h1 v rv=>?_;obtain⟨u,e,h2,_⟩:=Ok.of (Ok.bind h1) aW;obtain⟨⟨n,fs⟩,e1,e2⟩:=b7 e;obtain⟨a,A',dx,us,rfl,hm',rfl,hs,g1,g2,g3,g4⟩:=BP aW rv e1;rw[show W3 X.K WY c=Δ (Δ (.ref A')) from g1] at k1;cases k1;have e3:fs.lookup mm=Θ:=by
   by_cases hh:(fs.lookup mm).isNone=Λ;·exact YA.mp hh
   ·rw[if_neg hh] at e2;cases e2
  refine⟨a,dx,us,rfl,g2,(aN.look (f:=mm) g4).2 e3,m1,ρ,st1,ar.le bC,aW,(Ok.bind h2).wJ λqs st2 m2 H2 hq fb eE h3 vs gY=>?_⟩;show BN (af X kt) (C k) (bV.length+1) (.ref a::(vs++[])) H2 Q E0;rw[Xv];exact⟨m2,Z,.obj n::qs,st2,by rw[WZ,gY.length,eI hq],⟨.ref a,vs,rfl,rv.le fb,gY⟩,eE,h3⟩
 cases xs with
 |nil=>
  have e:bV=[]:=by cases bV with|nil=>rfl|cons a b=>simp at hl
  subst e;refine PE.imp (Fc (zy (Z:=Z) (kt:=kt) T h1 h2 h3) kc km F hr hb .nil yQ (wQ hs hn g6)) λσ H Q h=>?_;have r:=red σ H Q h;unfold Cj at r ⊢;obtain⟨m,ρ,st,ar,as,h1⟩:=r;refine⟨m,ρ,st,ar,as,h1.mono λq st1 m1 H1 bC aW hh v rv=>?_⟩;obtain⟨a,dx,us,e1,e2,e3,m2,ρ2,st2,HD,eE,h4⟩:=hh v rv;rw[aB] at h4;exact⟨a,dx,us,e1,e2,e3,Ok.here h4 eE [] rfl⟩
 |cons y ys=>exact PE.imp (Ia (zy (Z:=Z) (kt:=kt) T h1 h2 h3) kc km F hr hb .nil yQ h (bj (hs y WG)) (gb λz hz=>hs z (WE _ hz)) (wQ hs hn g6)) red
theorem MW(T:Good X kt g C)(hm:g.AW k c bV.length=Λ)(hg:g.gl c=Λ)(h3:aR c=Λ)(hs:∀z∈y::ys,notStar z=Λ)(h:PA X (y::ys) (tA (af X kt) Z (aA C bV))):
  PE X (.Call (.Name c p) (y::ys) [] pos) (tE (af X kt) Z (aa C (.make k c bV))):=by
 obtain⟨A,l,fa,fd,ps,k1,k2,M,F,hr,hb⟩:=T.Oc k c bV.length hm;refine PE.imp (Ib M F hr (T.glob hg) k1 hb .nil yQ h (pn h3).1 (bj (hs y WG)) (gb λz hz=>hs z (WE _ hz))) ?_;rintro σ H Q ⟨m,ρ,st,ar,as,h⟩;rw[tm] at h;refine⟨m,ρ,st,ar,as,(Ok.bind h).wJ λqs st1 m1 H1 hq bC aW h1 vs gY=>?_⟩;intro x dx hx hdx fc;rw[Xv];have sm:kf H1 (upd H1 dx (.own x)):=be hdx _;have eE:=aW.same sm;have SH:upd H1 dx (.own x) x=Θ:=by rw[au (XC fc)];exact hx
 have fb:Le (af X kt) m1 H1 (m1++[x]) (upd (upd H1 dx (.own x)) x (.ins A dx [])):=(Le.same sm).trans ((Le.same (be SH _)).grow SH);have uY:ax (af X kt) (upd (upd H1 dx (.own x)) x (.ins A dx [])) (m1++[x]) Z (st1++[.ins c []]):=(eE.laid SH (.ins A dx [])).tU (eE.fresh SH).2 ⟨A,dx,[],k2,aD,by rw[au fc];exact aD,rfl⟩;have hi:(m1++[x])[st1.length]?=Δ x:=by rw[W5 (by rw[aW.len];exact WM _),aW.len];simp
 refine⟨m1++[x],Z,.obj st1.length::qs,st1++[.ins c []],by rw[WZ,gY.length,eI hq],⟨.ref x,vs,rfl,⟨x,hi,rfl⟩,gY.le fb⟩,uY,?_⟩;refine(Ok.bind (Ok.le h1 fb)).mono λq mj m4 H4 yw CL h4 v rv=>?_;cases q with
 |d d=>cases d with|bz=>refine⟨rv,Ok.here h4 CL (.ref x) ⟨x,?_,rfl⟩⟩;obtain⟨t,rfl⟩:=yw.pre;rw[WK (by simp[aW.len])];exact hi|_=>exact(show False from h4).elim
 |_=>exact(show False from h4).elim
theorem ah.dropLast{K:KB}:∀{ps} {us},ah K H m Z ps us->ah K H m Z ps.dropLast us.dropLast
 |[],us,h=>by cases (show us=[] from h);exact h|[p],us,h=>by obtain⟨v,vs,rfl,r,rs⟩:=(show ∃v vs,us=v::vs/\ai K H m Z p v/\ah K H m Z [] vs from h);cases (show vs=[] from rs);exact rfl|p::q::ps,us,h=>by obtain⟨v,vs,rfl,r,rs⟩:=(show ∃v vs,us=v::vs/\ai K H m Z p v/\ah K H m Z (q::ps) vs from h);obtain⟨v2,Vn,rfl,r2,rs2⟩:=(show ∃v pH,vs=v::pH/\ai K H m Z q v/\ah K H m Z ps pH from rs);have:=ah.dropLast rs;rw[List.dropLast_cons₂,List.dropLast_cons₂];exact⟨v,_,rfl,r,this⟩
theorem ah.at_{K:KB}:∀{ps} {us} {i:Nat},ah K H m Z ps us->ps[i]?=Δ p->∃v,us[i]?=Δ v/\ai K H m Z p v
 |[],us,i,h,e=>by simp at e|q::ps,us,i,h,e=>by obtain⟨v,vs,rfl,r,rs⟩:=(show ∃v vs,us=v::vs/\ai K H m Z q v/\ah K H m Z ps vs from h);cases i with|zero=>rw[WW] at e;cases e;exact⟨v,rfl,r⟩|succ i=>rw[WT] at e ⊢;exact ah.at_ rs e
theorem aN.drop{κ:Type}[DecidableEq κ]{K:KB}{k:κ}:∀{kvs} {us},aN K H m Z kvs us->aN K H m Z (wc kvs k) (nH us k)
 |[],us,h=>by cases (show us=[] from h);exact rfl|(q,p)::kvs,us,h=>by
  obtain⟨v,vs,rfl,r,rs⟩:=(show ∃v vs,us=(q,v)::vs/\ai K H m Z p v/\aN K H m Z kvs vs from h);have ih:=aN.drop (k:=k) rs;unfold wc nH at ih ⊢;by_cases hq:q=k;·rw[Yr (by simp[hq]),Yr (by simp[hq])];exact ih
  ·rw[X5 (by simp[hq]),X5 (by simp[hq])];exact⟨v,_,rfl,r,ih⟩
theorem MX(hl:(ap.endLine==cp.line)=Λ)(hc:isCall o=Ξ)(ho:PE X o (tE (af X kt) Z (aa C a))):
  PE X (.Call (.Attribute o "pop" ap) [] [] cp) (tE (af X kt) Z (aa C (.DO a))):=by
 refine PE.imp (LH PySem.F.plainAttrs_list PySem.F.slot_list_pop PySem.F.type_list_pop LJ ho (uh hc) hl) ?_;rintro σ H Q ⟨m,r,st,ar,as,h⟩;rw[sZ] at h;refine⟨m,r,st,ar,as,(Ok.bind h).mono λx st1 m1 H1 bC aW h1 v rv=>?_⟩;obtain⟨⟨p,st2⟩,e1,h2,dR⟩:=Ok.of (Ok.bind h1) aW;clear dR;unfold Gd at e1;split at e1
 ·rename_i n;split at e1;·rename_i xs QO;obtain⟨w',hw,e⟩:=fI e1;cases e;obtain⟨b,hb,eb⟩:=(show ∃b,m1[n]?=Δ b/\v=.ref b from rv);cases eb;obtain⟨b',iD,zs,hz,rz⟩:=aW.at_ n _ QO;rw[hb] at iD;cases iD;obtain⟨u,hu,ru⟩:=rz.at_ hw;obtain⟨uj,uY⟩:=aW.write (ho:=.lst zs.dropLast) (o':=.lst xs.dropLast) QO hb λH' e _ f=>⟨_,e,(rz.mono f).dropLast⟩;refine⟨.inl ⟨rfl,zs,.inl (.inl hz)⟩,b,zs,u,rfl,rfl,hz,by rw[rz.length];exact hu,?_⟩;exact h2 m1 _ uj uY u (ru.le uj)
  ·cases e1
 ·cases e1
theorem MY(hl:(ap.endLine==cp.line)=Λ)(hc:isCall o=Ξ)(ho:PE X o (tE (af X kt) Z (aa C a)))(hx:PE X x (tE (af X kt) Z (aa C b)))(hs:notStar x=Λ):
  PE X (.Call (.Attribute o "pop" ap) [x] [] cp) (tE (af X kt) Z (aa C (.DN a b))):=by
 have s1:Xf [x] X.env=[(Ξ,eval x X.env)]:=bj hs;refine PE.imp (Fo ho hx ⟨uh hc,by rw[s1];rfl,hl,by rw[s1];rfl⟩) ?_;rintro σ H Q ⟨m,ρ,st,ar,as,h0⟩;rw[sX] at h0;refine⟨m,ρ,st,ar,as,(Ok.bind h0).mono λy st1 m1 H1 bC aW h1 v rv=>?_⟩;obtain⟨o',e,h2,_⟩:=Ok.of (Ok.bind h1) aW;obtain⟨n,c,rfl,oM,hm,rfl,ao,hd⟩:=ue aW e rv;refine⟨c,rfl,GD ao hd,m1,ρ,st1,ar.le bC,aW,(Ok.bind h2).mono λk st2 m2 H2 fb eE h3 u ru=>?_⟩;obtain⟨⟨p,st3⟩,e2,h4,dR⟩:=Ok.of (Ok.bind h3) eE;clear dR;unfold Gc at e2;dsimp only at e2;split at e2;·rename_i kvs qr;obtain⟨kk,DG,e3⟩:=b7 e2;obtain⟨w',hw,e4⟩:=fI e3;cases e4;obtain⟨b,hb,eb⟩:=(show ∃b,m2[n]?=Δ b/\V.ref c=.ref b from rv.le fb);cases eb;obtain⟨b',iD,us,hu,rs⟩:=eE.at_ n _ qr;rw[hb] at iD;cases iD;obtain⟨v2,SI,QI⟩:=(rs.val (k:=kk)).2 _ hw;obtain⟨uj,uY⟩:=eE.write (ho:=.dK (nH us kk)) (o':=.dK (wc kvs kk)) qr hb λH' e _ f=>⟨_,e,(rs.mono f).drop⟩;refine⟨us,kk,v2,hu,ru.key DG,SI,?_⟩;exact h4 m2 _ uj uY v2 (QI.le uj)
 ·cases e2
theorem Jw(hl:(ap.endLine==cp.line)=Λ)(hc:isCall o=Ξ)(ho:PE X o (tE (af X kt) Z (aa C a)))(hx:PE X x (tE (af X kt) Z (aa C b)))(hs:notStar x=Λ)(hy:PE X y (tE (af X kt) Z (aa C c)))(sr:notStar y=Λ):
  PE X (.Call (.Attribute o "setdefault" ap) [x,y] [] cp) (tE (af X kt) Z (aa C (.sP a b c))):=by
 have s1:Xf [x,y] X.env=[(Ξ,eval x X.env),(Ξ,eval y X.env)]:=(bj hs).trans (by rw[bj sr];rfl);refine PE.imp (FT ho hx hy ⟨uh hc,by rw[s1];rfl,hl,by rw[s1];rfl⟩) ?_;rintro σ H Q ⟨m,ρ,st,ar,as,h0⟩;rw[kK] at h0;refine⟨m,ρ,st,ar,as,(Ok.bind h0).mono λy st1 m1 H1 bC aW h1 v rv=>?_⟩;obtain⟨o',e,h2,_⟩:=Ok.of (Ok.bind h1) aW;obtain⟨n,c,rfl,oM,hm,rfl,ao,hd⟩:=ue aW e rv;refine⟨c,rfl,GD ao hd,m1,ρ,st1,ar.le bC,aW,(Ok.bind h2).mono λk st2 m2 H2 fb eE h3 u ru=>?_⟩;refine⟨m2,ρ,st2,(ar.le bC).le fb,eE,(Ok.bind h3).mono λz st3 m3 H3 uj uY h4 w' mI=>?_⟩;obtain⟨⟨p,mj⟩,e2,h5,dR⟩:=Ok.of (Ok.bind h4) uY;clear dR;unfold qu at e2;dsimp only at e2;split at e2
 ·rename_i kvs qr;split at e2
  ·rename_i eB;obtain⟨kk,DG,e3⟩:=fI e2;obtain⟨b,hb,eb⟩:=(show ∃b,m3[n]?=Δ b/\V.ref c=.ref b from(rv.le fb).le uj);cases eb;obtain⟨b',iD,us,hu,rs⟩:=uY.at_ n _ qr;rw[hb] at iD;cases iD;have rr:=rs.val (k:=kk);refine⟨us,kk,hu,(ru.le uj).key DG,by rw[rs.length,<-dn];exact eB,λv2 SI=>?_,λhn=>?_⟩;·cases hv:fH kvs kk with|none=>rw[hv,SI] at rr;cases rr.1|some w2=>rw[hv] at e3;cases e3;obtain⟨v3,e4,r3⟩:=rr.2 _ hv;rw[SI] at e4;cases e4;exact Ok.here h5 uY v2 r3
   ·cases hv:fH kvs kk with|some w2=>rw[hv,hn] at rr;cases rr.1|none=>rw[hv] at e3;cases e3;obtain⟨yw,CL⟩:=uY.write (ho:=.dK (putK us kk w')) (o':=.dK (mO kvs kk z)) qr hb λH' e _ f=>⟨_,e,(rs.mono f).put (f _ _ mI)⟩;exact h5 m3 _ yw CL w' (mI.le yw)
  ·cases e2
 ·cases e2
end
section
variable(C:Nat->List P->aL->R P)
def SE(e':E):Prop:=∀(kt:KT) (X:Cx) (g:G) (e:Expr) (Z:List Addr),Good X kt g C->gj g e' e=Λ->PE X e (tE (af X kt) Z (aa C e'))/\PT X e (tT (af X kt) Z (bI (aa C e')))
def SEs(es:List E):Prop:=(∀(kt:KT) (X:Cx) (g:G) (xs:List Expr) (Z:List Addr),Good X kt g C->gk g es xs=Λ->PA X xs (tA (af X kt) Z (aA C es)))/\
 (∀(kt:KT) (X:Cx) (g:G) (xs:List Expr) (Z:List Addr) (pos:Pos),Good X kt g C->gk g es xs=Λ->PE X (.BoolOp .And xs pos) (tE (af X kt) Z (gh C es))/\PW X (.BoolOp .And xs pos) (tT (af X kt) Z (bI (gh C es))))/\
 (∀(kt:KT) (X:Cx) (g:G) (xs:List Expr) (Z:List Addr) (pos:Pos),Good X kt g C->gk g es xs=Λ->PE X (.BoolOp .Or xs pos) (tE (af X kt) Z (gi C es))/\PW X (.BoolOp .Or xs pos) (tT (af X kt) Z (bI (gi C es))))
def SM(o:Option E):Prop:=(∀(kt:KT) (X:Cx) (g:G) (x:Option Expr) (Z:List Addr),Good X kt g C->okM g o x=Λ->PO X x (tO (af X kt) Z (we C o)))/\
 (∀(kt:KT) (X:Cx) (g:G) (ifs:List Expr),Good X kt g C->SA g o ifs=Λ->Fq X ifs (MS (af X kt) (bh C o)))
def SL(l:L):Prop:=∀(kt:KT) (X:Cx) (g:G) (e:Expr) (Z:List Addr),Good X kt g C->KE g l e=Λ->PE X e (tL (af X kt) Z (aV C l))
def SW(w:W):Prop:=∀(kt:KT) (X:Cx) (g:G) (e tg:Expr) (Z:List Addr),Good X kt g C->SD g w e=Λ->(BM w=Λ->∃es k p,tg=.Tuple es k p)->PI X tg e (tW (af X kt) Z (bD C w))
variable{C}
theorem wR(h:∀r st,d r st=.no):PE X e (tE (af X kt) Z d)/\PT X e (tT (af X kt) Z (bI d)):=by
 constructor;·rintro η s σ H Q I ⟨m,r,st,_,_,q⟩;rw[h] at q;exact(show False from q).elim
 ·rintro η s σ H Q I ⟨m,r,st,_,_,q⟩;unfold bI at q;rw[h] at q;exact(show False from q).elim
theorem pw_no(h:∀r st,d r st=.no):PW X e (tT (af X kt) Z (bI d)):=by rintro wh η s σ H Q I ⟨m,r,st,_,_,q⟩;unfold bI at q;rw[h] at q;exact(show False from q).elim
theorem both(h:PE X e (tE (af X kt) Z d))(he:∀whole,aca e X.env whole=(do let v<-whole;abm e.pos;abM [v] (truthy v))):PE X e (tE (af X kt) Z d)/\PT X e (tT (af X kt) Z (bI d)):=⟨h,Jc h he⟩
mutual
theorem aH:∀e':E,SE C e'
 |.var i=>λkt X g e Z T h=>by refine aF h λ_ _ h=>?_;simp only[WC,qqq] at h;exact both (zy T h.1.1 h.1.2 h.2) λ_=>rfl|.cst d=>λkt X g e Z T h=>by
  rcases Bool.or_eq_true_iff.mp h with h|h;·refine n6 h λc _ _ h=>?_;cases d with|int i=>obtain rfl:=of_decide_eq_true h;exact both (zA ER λ_ _=>rfl) λ_=>rfl|bl i=>obtain rfl:=of_decide_eq_true h;exact both (zA Kd λ_ _=>rfl) λ_=>rfl|bz=>obtain rfl:=of_decide_eq_true h;exact both (zA ES λ_ _=>rfl) λ_=>rfl|str i=>obtain rfl:=of_decide_eq_true h;exact both (zA ET λ_ _=>rfl) λ_=>rfl|tup _=>exact ft h|pl _=>exact ft h
  ·refine aF h λx _ h=>?_;cases d with|int i=>have h:=Bool.and_eq_true_iff.mp h;have h':=Bool.and_eq_true_iff.mp h.1;obtain⟨t,ht⟩:=T.cs _ _ (of_decide_eq_true h'.2);exact both (zA (HL (v:=.int _) (T.glob h'.1) ht ⟨t,rfl⟩ (pn h.2).1) λ_ _=>rfl) λ_=>rfl|_=>exact ft h
 |.op o a b=>λkt X g e Z T h=>by refine D6 h λ_ _ _ _ h=>?_;simp only[WC,qqq] at h;obtain⟨⟨rfl,h1⟩,h2⟩:=h;exact both (Vc (aH a kt X g _ Z T h1).1 (aH b kt X g _ Z T h2).1) λ_=>rfl|.neg a=>λkt X g e Z T h=>by refine qC h λ_ _ _ h=>?_;simp only[WC,qqq] at h;obtain⟨rfl,h⟩:=h;exact both (Qz (aH a kt X g _ Z T h).1) λ_=>rfl|.DN a b=>λkt X g e Z T h=>by refine aS h λ_ _ _ _ h=>?_;refine bZ h λ_ _ _ h=>?_;refine aE h λ_ _ h=>?_;simp only[WC,qqq,WS,Xe] at h;obtain⟨⟨⟨⟨⟨⟨⟨rfl,rfl⟩,h0⟩,rfl⟩,h1⟩,h2⟩,h3⟩,h4⟩:=h;exact both (MY h0 h1 (aH a kt X g _ Z T h2).1 (aH b kt X g _ Z T h3).1 h4) λ_=>rfl|.sP a b c=>λkt X g e Z T h=>by refine aS h λ_ _ _ _ h=>?_;refine bZ h λ_ _ _ h=>?_;refine aE h λ_ _ h=>?_;refine aE h λ_ _ h=>?_;simp only[WC,qqq,WS,Xe] at h;obtain⟨⟨⟨⟨⟨⟨⟨⟨⟨rfl,rfl⟩,h0⟩,rfl⟩,h1⟩,h2⟩,h3⟩,h4⟩,h5⟩,h6⟩:=h;exact both (Jw h0 h1 (aH a kt X g _ Z T h2).1 (aH b kt X g _ Z T h3).1 h4 (aH c kt X g _ Z T h5).1 h6) λ_=>rfl|.DO a=>λkt X g e Z T h=>by refine aS h λ_ _ _ _ h=>?_;refine bZ h λ_ _ _ h=>?_;simp only[WC,qqq,WS,Xe] at h;obtain⟨⟨⟨⟨⟨rfl,rfl⟩,h0⟩,rfl⟩,h1⟩,h2⟩:=h;exact both (MX h0 h1 (aH a kt X g _ Z T h2).1) λ_=>rfl|.attr c f i=>λkt X g e Z T h=>by refine bZ h λ_ _ _ h=>?_;refine aF h λ_ _ h=>?_;simp only[WC,qqq] at h;obtain⟨⟨⟨⟨rfl,h1⟩,h2⟩,h3⟩,h4⟩:=h;exact both (MK T h1 h2 h3 h4) λ_=>rfl|.o6 k c m i es=>λkt X g e Z T h=>by refine aS h λ_ _ _ _ h=>?_;refine bZ h λ_ _ _ h=>?_;refine aF h λ_ _ h=>?_;simp only[WC,qqq,WS] at h;obtain⟨⟨⟨⟨⟨⟨⟨⟨rfl,rfl⟩,h1⟩,h2⟩,h3⟩,h4⟩,h5⟩,h6⟩,h7⟩:=h;exact both (MV T h1 h2 h3 h4 h7 h6 (cb h5) (eU h5) ((cU es).1 kt X g _ Z T h5)) λ_=>rfl|.make k c es=>λkt X g e Z T h=>by refine aS h λ_ xs gZ _ h=>?_;refine aF h λx p h=>?_;cases xs with|nil=>simp at h|cons y ys=>simp only[WC,qqq,WS] at h;obtain⟨⟨⟨⟨⟨⟨rfl,rfl⟩,h1⟩,h2⟩,h3⟩,h4⟩,_⟩:=h;exact both (MW T h1 h2 h3 (cb h4) ((cU es).1 kt X g _ Z T h4)) λ_=>rfl
 |.not a=>λkt X g e Z T h=>by refine qC h λ_ _ _ h=>?_;simp only[WC,qqq] at h;obtain⟨rfl,h⟩:=h;exact⟨Qs (aH a kt X g _ Z T h).1,MC (aH a kt X g _ Z T h).2⟩|.cmp o a b=>λkt X g e Z T h=>by refine qB h λ_ _ _ _ h=>?_;refine aE h λ_ _ h=>?_;refine aE h λ_ _ h=>?_;simp only[WC,qqq,Xe,WS] at h;obtain⟨⟨⟨⟨⟨rfl,rfl⟩,rfl⟩,h1⟩,h2⟩,h3⟩:=h;exact⟨Qr T (aH a kt X g _ Z T h1).1 (aH b kt X g _ Z T h2).1 h3,MB T (aH a kt X g _ Z T h1).1 (aH b kt X g _ Z T h2).1 h3⟩|.chain o o' a b c=>λkt X g e Z T h=>by refine qB h λ_ _ _ _ h=>?_;refine aE h λ_ _ h=>?_;refine aE h λ_ _ h=>?_;refine aE h λ_ _ h=>?_;refine aE h λ_ _ h=>?_;simp only[WC,qqq,Xe,WS] at h;obtain⟨⟨⟨⟨⟨⟨⟨⟨rfl,rfl⟩,rfl⟩,rfl⟩,h1⟩,h2⟩,h3⟩,h4⟩,h5⟩:=h;exact⟨Jd T (aH a kt X g _ Z T h1).1 (aH b kt X g _ Z T h2).1 (aH c kt X g _ Z T h3).1 h4 h5,Gz T (aH a kt X g _ Z T h1).1 (aH b kt X g _ Z T h2).1 (aH c kt X g _ Z T h3).1 h4 h5⟩|.and es=>λkt X g e Z T h=>by refine t8 h λop xs pos h=>?_;simp only[WC,qqq] at h;obtain⟨rfl,h⟩:=h;obtain⟨h1,h2⟩:=(cU es).2.1 kt X g xs Z pos T h;have e1:aa C (.and es)=gh C es:=rfl;rw[e1];exact⟨h1,h2.pt⟩|.or es=>λkt X g e Z T h=>by refine t8 h λop xs pos h=>?_;simp only[WC,qqq] at h;obtain⟨rfl,h⟩:=h;obtain⟨h1,h2⟩:=(cU es).2.2 kt X g xs Z pos T h;have e1:aa C (.or es)=gi C es:=rfl;rw[e1];exact⟨h1,h2.pt⟩|.ite c a b=>λkt X g e Z T h=>by refine D7 h λ_ _ _ _ h=>?_;simp only[WC] at h;have h1:=aH c kt X g _ Z T h.1.1;have h2:=aH a kt X g _ Z T h.1.2;have h3:=aH b kt X g _ Z T h.2;exact⟨Qv h1.2 h2.1 h3.1,MH h1.2 h2.2 h3.2⟩|.tup es=>λkt X g e Z T h=>by refine jo h λ_ _ _ h=>?_;exact both (Qw ((cU es).1 kt X g _ Z T h)) λ_=>rfl|.lst mu l=>λkt X g e Z T h=>by have h1:=Qx (mu:=mu) (MZ l kt X g e Z T h);refine both h1 λwhole=>?_;cases l with|e7 es=>exact zw h λ_ _ _=>rfl|comp w ts js c e=>exact dG h λ_ _ _ _ _=>rfl|kD w js c e=>exact dG h λ_ _ _ _ _=>rfl|sorted e=>exact aS h λ_ _ _ _ _=>rfl|iJ es=>exact aS h λ_ _ _ _ _=>rfl|zip a b=>exact aS h λ_ _ _ _ _=>rfl|cm e js c ee=>exact dG h λ_ _ _ _ _=>rfl|keys e=>exact aS h λ_ _ _ _ _=>rfl
 |.call f es=>λkt X g e Z T h=>by refine aS h λ_ _ _ _ h=>?_;refine aF h λ_ _ h=>?_;simp only[WC,qqq,WS] at h;obtain⟨⟨⟨⟨rfl,h1⟩,h2⟩,h3⟩,h4⟩:=h;exact both (s_call T h1 h2 h3 (cb h4) (eU h4) ((cU es).1 kt X g _ Z T h4)) λ_=>rfl|.KD a t=>λkt X g e Z T h=>by refine aS h λ_ _ _ _ h=>?_;refine aF h λ_ _ h=>?_;refine aE h λ_ _ h=>?_;refine aE h λ_ _ h=>?_;refine aF h λ_ _ h=>?_;simp only[WC,qqq,WS] at h;obtain⟨⟨⟨⟨⟨⟨⟨⟨rfl,rfl⟩,rfl⟩,h1⟩,rfl⟩,h2⟩,h3⟩,h4⟩,h5⟩:=h;exact both (Qy T h1 h3 h2 (aH a kt X g _ Z T h4).1 h5) λ_=>rfl|.bf f es=>λkt X g e Z T h=>by refine aS h λf0 xs gZ pos h=>?_;refine aF h λ_ _ h=>?_;simp only[WC,qqq,Xe,WS] at h;obtain⟨⟨⟨⟨rfl,rfl⟩,h1⟩,h2⟩,h3⟩:=h;cases xs with|nil=>cases h3|cons x xs=>exact both (Vi T h1 (cb h2) ((cU es).1 kt X g _ Z T h2)) λ_=>rfl
 |.ix a b=>λkt X g e Z T h=>by refine mw h λ_ _ _ h=>?_;simp only[WC,Xe] at h;exact both (Vg T.hu (aH a kt X g _ Z T h.1.1).1 (aH b kt X g _ Z T h.1.2).1 h.2) λ_=>rfl|.DP k d=>λkt X g e Z T h=>by refine zv h λ_ _ _ h=>?_;refine aE h λ_ _ h=>?_;refine tY h λ_ h=>?_;refine aE h λ_ _ h=>?_;simp only[WC,WS] at h;obtain⟨⟨⟨rfl,rfl⟩,h1⟩,h2⟩:=h;exact both (MN T h1 h2) λ_=>rfl|.qT t=>λkt X g e Z T h=>by refine zv h λ_ _ _ h=>?_;simp only[WC,WS] at h;obtain⟨rfl,rfl⟩:=h;exact both ML λ_=>rfl|.nS i es=>λkt X g e Z T h=>by refine aS h λ_ xs gZ _ h=>?_;refine aF h λx p h=>?_;cases xs with|nil=>simp at h|cons y ys=>simp only[WC,qqq,WS] at h;obtain⟨⟨⟨⟨⟨⟨rfl,h1⟩,h2⟩,h3⟩,h4⟩,_⟩,AS⟩:=h;exact both (Jh T AS h1 h2 h3 (cb h4) ((cU es).1 kt X g _ Z T h4)) λ_=>rfl
 |.iQ f es ls=>λkt X g e Z T h=>by refine aS h λ_ xs gZ _ h=>?_;refine aF h λx p h=>?_;cases xs with|nil=>simp at h|cons y ys=>simp only[WC,qqq,WS] at h;obtain⟨⟨⟨⟨⟨rfl,h1⟩,h2⟩,h3⟩,h4⟩,_⟩:=h;exact both (T.iQ f x _ ls h1 Z y ys es p _ rfl h2 h3 (cb h4) ((cU es).1 kt X g _ Z T h4)) λ_=>rfl
 |.jc i es ls=>λkt X g e Z T h=>by refine aS h λ_ xs gZ _ h=>?_;refine aF h λx p h=>?_;cases xs with|nil=>simp at h|cons y ys=>simp only[WC,qqq,WS] at h;obtain⟨⟨⟨⟨⟨⟨rfl,h1⟩,h2⟩,h3⟩,h5⟩,h4⟩,_⟩:=h;exact both (T.jc i x ls h5 Z y ys es p _ h1 h2 h3 (cb h4) ((cU es).1 kt X g _ Z T h4)) λ_=>rfl
 |.lam k=>λkt X g e Z T h=>by refine BK h λ_ _ _ _ h=>?_;exact both (T.lam k _ _ _ _ h Z) λ_=>rfl
theorem cU:∀es:List E,SEs C es
 |[]=>⟨λkt X g xs Z T h=>by rw[kR h];exact uf,λkt X g xs Z pos T h=>by exact⟨(wR λr st=>rfl).1,pw_no λr st=>rfl⟩,λkt X g xs Z pos T h=>⟨(wR λr st=>rfl).1,pw_no λr st=>rfl⟩⟩|a::bV=>by
  have ih:=cU bV;have ia:=aH a;refine⟨λkt X g xs Z T h=>?_,λkt X g xs Z pos T h=>?_,λkt X g xs Z pos T h=>?_⟩;·obtain⟨x,ys,rfl,h1,h2,h3⟩:=fV h;exact kQ (ia kt X g x Z T h1).1 (ih.1 kt X g ys Z T h3) h2
  ·obtain⟨x,ys,rfl,h1,h2,h3⟩:=fV h;cases bV with|nil=>rw[kR h3];exact⟨MD (ia kt X g x Z T h1).1,Jf (ia kt X g x Z T h1).2⟩|cons b bs=>obtain⟨y,zs,rfl,_,_,_⟩:=fV h3;obtain⟨i1,i2⟩:=ih.2.1 kt X g (y::zs) Z pos T h3;exact⟨ME (ia kt X g x Z T h1).1 i1,Jg (ia kt X g x Z T h1).2 i2⟩
  ·obtain⟨x,ys,rfl,h1,h2,h3⟩:=fV h;cases bV with|nil=>rw[kR h3];exact⟨Qt (ia kt X g x Z T h1).1,MF (ia kt X g x Z T h1).2⟩|cons b bs=>obtain⟨y,zs,rfl,_,_,_⟩:=fV h3;obtain⟨i1,i2⟩:=ih.2.2 kt X g (y::zs) Z pos T h3;exact⟨Qu (ia kt X g x Z T h1).1 i1,MG (ia kt X g x Z T h1).2 i2⟩
theorem pK:∀o:Option E,SM C o
 |none=>⟨λkt X g x Z T h=>by
   have:x=Θ:=YA.mp h;rw[this];exact Jk,λkt X g ifs T h=>by
   have:ifs=[]:=WS.mp h;rw[this];exact D9⟩
 |some a=>by
  have ia:=aH a;refine⟨λkt X g x Z T h=>?_,λkt X g ifs T h=>?_⟩;·refine tY h λ_ h=>?_;exact Jl (ia kt X g _ Z T h).1
  ·refine aE h λ_ _ h=>?_;simp only[WC,WS] at h;obtain⟨rfl,h⟩:=h;exact Ea λZ=>(ia kt X g _ Z T h).2
theorem MZ:∀l:L,SL C l
 |.e7 es=>λkt X g e Z T h=>by refine zw h λ_ _ h=>?_;exact MI ((cU es).1 kt X g _ Z T h)|.comp w ts js c ee=>λkt X g e Z T h=>by
  refine dG h λelt gens sc pos' h=>?_;refine aE h λge r h=>?_;refine lI h λtg iter ifs a h=>?_;refine aF h λx pos h=>?_;simp only[WC,qqq,Xe,WS] at h;obtain⟨⟨⟨⟨⟨⟨⟨⟨⟨⟨rfl,rfl⟩,rfl⟩,h1⟩,Vo⟩,h2⟩,h3⟩,h4⟩,h5⟩,h6⟩,h7⟩:=h;have B:=T.pJ h2;have T':∀η fp Cc s H,Good (lX X η (gJ g x js) sc fp Cc s H) kt (g.inner (gJ g x js) sc) C:=λη fp Cc s H=>T.inner (js:=js) B.eA;refine PE.imp (xw T.calm B (pL w kt X g iter (.Name x pos) Z T h1 (λz=>by rw[Vo] at z;cases z)) (λη fp Cc s H=>cH (i:=0) h4 rfl (.inl ((T' η fp Cc s H).loc x h3)) (.inr ((T' η fp Cc s H).loc x h3)))
   (λη fp Cc s H=>(pK c).2 kt _ _ _ (T' η fp Cc s H) h5) (λη fp Cc s H=>Eb λZ=>(aH ee kt _ _ _ Z (T' η fp Cc s H) h6).1) (λy=>?_)) λσ H Q q=>zK q
  cases iter<;>first
   |rfl
   |exact absurd (show Λ=Ξ from h7) Xw.symm
 |.kD w js c ee=>λkt X g e Z T h=>by
  refine dG h λelt gens sc Jx h=>?_;refine aE h λge r h=>?_;refine lI h λtg iter ifs a h=>?_;refine jo h λns k2 p2 h=>?_;refine aE h λn1 U9 h=>?_;refine aF h λx px h=>?_;refine aE h λn2 Va h=>?_;refine aF h λy py h=>?_;simp only[WC,qqq,Xe,WS] at h;obtain⟨⟨⟨⟨⟨⟨⟨⟨⟨⟨rfl,rfl⟩,rfl⟩,h1⟩,h2⟩,h3⟩,QP⟩,h4⟩,h5⟩,h6⟩,h7⟩:=h;have B:=T.pJ h2;have T':∀η fp Cc s H,Good (lX X η (kN g x y js) sc fp Cc s H) kt (g.inner (kN g x y js) sc) C:=λη fp Cc s H=>T.inner (js:=js) B.eA;refine PE.imp (xw T.calm B (pL w kt X g iter (.Tuple [.Name x px,.Name y py] k2 p2) Z T h1 (λ_=>⟨_,_,_,rfl⟩)) (λη fp Cc s H=>so (n:=2) (T' η fp Cc s H).calm (dQ (cH (i:=0) h4 rfl (.inl ((T' η fp Cc s H).loc x h3)) (.inr ((T' η fp Cc s H).loc x h3))) (dQ (cH (i:=1) h4 rfl (.inl ((T' η fp Cc s H).loc y QP)) (.inr ((T' η fp Cc s H).loc y QP))) nE)))
   (λη fp Cc s H=>(pK c).2 kt _ _ _ (T' η fp Cc s H) h5) (λη fp Cc s H=>Eb λZ=>(aH ee kt _ _ _ Z (T' η fp Cc s H) h6).1) (λy=>?_)) λσ H Q q=>wN q
  cases iter<;>first
   |rfl
   |exact absurd (show Λ=Ξ from h7) Xw.symm
 |.sorted a=>λkt X g e Z T h=>by refine aS h λ_ _ _ _ h=>?_;refine aF h λ_ _ h=>?_;refine aE h λ_ _ h=>?_;simp only[WC,qqq,WS] at h;obtain⟨⟨⟨⟨⟨rfl,rfl⟩,rfl⟩,h1⟩,h2⟩,h3⟩:=h;exact GF T h1 (aH a kt X g _ Z T h2).1 h3|.keys a=>λkt X g e Z T h=>by refine aS h λ_ _ _ _ h=>?_;refine aF h λ_ _ h=>?_;refine aE h λ_ _ h=>?_;simp only[WC,qqq,WS] at h;obtain⟨⟨⟨⟨⟨rfl,rfl⟩,rfl⟩,h1⟩,h2⟩,h3⟩:=h;exact MJ T h1 (aH a kt X g _ Z T h2).1 h3|.iJ es=>λkt X g e Z T h=>by refine aS h λ_ _ _ _ h=>?_;refine aF h λ_ _ h=>?_;refine aE h λ_ _ h=>?_;refine aS h λ_ _ _ _ h=>?_;refine aF h λ_ _ h=>?_;simp only[WC,qqq,WS] at h;obtain⟨⟨⟨⟨⟨⟨⟨rfl,rfl⟩,rfl⟩,rfl⟩,h1⟩,rfl⟩,h2⟩,h3⟩:=h;exact MQ T h2 h1 h3 ((cU es).1 kt X g _ Z T h3)|.zip a b=>λkt X g e Z T h=>by refine aS h λ_ _ _ _ h=>?_;refine aF h λ_ _ h=>?_;refine aE h λ_ _ h=>?_;refine aS h λ_ _ _ _ h=>?_;refine aF h λ_ _ h=>?_;refine aE h λ_ _ h=>?_;refine aE h λ_ _ h=>?_;simp only[WC,qqq,WS] at h;obtain⟨⟨⟨⟨⟨⟨⟨⟨⟨⟨⟨rfl,rfl⟩,rfl⟩,rfl⟩,rfl⟩,h1⟩,rfl⟩,h2⟩,h3⟩,h4⟩,h5⟩,h6⟩:=h;exact MR T h2 h1 (aH a kt X g _ Z T h3).1 h4 (aH b kt X g _ Z T h5).1 h6|.cm a js c ee=>λkt X g e Z T h=>by
  refine dG h λelt gens sc pos' h=>?_;refine aE h λge r h=>?_;refine lI h λtg iter ifs a h=>?_;refine aF h λx pos h=>?_;simp only[WC,qqq,Xe,WS] at h;obtain⟨⟨⟨⟨⟨⟨⟨⟨rfl,rfl⟩,h1⟩,h2⟩,h3⟩,h4⟩,h5⟩,h6⟩,h7⟩:=h;have B:=T.pJ h2;have T':∀η fp Cc s H,Good (lX X η (gJ g x js) sc fp Cc s H) kt (g.inner (gJ g x js) sc) C:=λη fp Cc s H=>T.inner (js:=js) B.eA;refine PE.imp (xw T.calm B (rM (aH a kt X g iter Z T h1).1) (λη fp Cc s H=>cH (i:=0) h4 rfl (.inl ((T' η fp Cc s H).loc x h3)) (.inr ((T' η fp Cc s H).loc x h3)))
   (λη fp Cc s H=>(pK c).2 kt _ _ _ (T' η fp Cc s H) h5) (λη fp Cc s H=>Eb λZ=>(aH ee kt _ _ _ Z (T' η fp Cc s H) h6).1) (λy=>?_)) λσ H Q q=>wO q
  cases iter<;>first
   |rfl
   |exact absurd (show Λ=Ξ from h7) Xw.symm
theorem pL:∀w:W,SW C w
 |.ex a=>λkt X g e tg Z T h _=>by have h:=Bool.and_eq_true_iff.mp h;exact QC (aH a kt X g e Z T h.1).1|.iJ es=>λkt X g e tg Z T h _=>by refine aS h λ_ _ _ _ h=>?_;refine aF h λ_ _ h=>?_;simp only[WC,qqq,WS] at h;obtain⟨⟨⟨rfl,rfl⟩,h1⟩,h2⟩:=h;exact MO T h1 h2 ((cU es).1 kt X g _ Z T h2)|.xI es=>λkt X g e tg Z T h _=>by refine aS h λ_ _ _ _ h=>?_;refine aF h λ_ _ h=>?_;simp only[WC,qqq,WS] at h;obtain⟨⟨⟨rfl,rfl⟩,h1⟩,h2⟩:=h;exact Jr T h1 h2 ((cU es).1 kt X g _ Z T h2)|.enum a=>λkt X g e tg Z T h ht=>by obtain⟨es,k,p,rfl⟩:=ht rfl;refine aS h λ_ _ _ _ h=>?_;refine aF h λ_ _ h=>?_;refine aE h λ_ _ h=>?_;simp only[WC,qqq,WS] at h;obtain⟨⟨⟨⟨⟨rfl,rfl⟩,rfl⟩,h1⟩,h2⟩,h3⟩:=h;exact Jt T h1 (aH a kt X g _ Z T h2).1 h3
end
end
def ig(g:G)(x:Str):Bool:=decide (g.names.lookup x=Δ .local)||decide (g.names.lookup x=Δ .cell)
def QQ(g:G)(t:Tg)(e:Expr):Bool:=match t with|.nm i=>aY e λx _=>decide (g.N[i]?=Δ x)&&ig g x|.tup _=>Ξ|.two i j=>n4 e λes _ _=>aU es λa r=>aY a λx _=>aU r λb r'=>aY b λy _=>r'.isEmpty&&decide (g.N[i]?=Δ x)&&ig g x&&decide (g.N[j]?=Δ y)&&ig g y
def GG:Tg->Bool
 |.two _ _=>Λ|_=>Ξ
def CQ(e:Expr):Bool:=e.ctorIdx==9||e.ctorIdx==10
mutual
def okS(g:G):S->Stmt->Bool
 |.ret e=>λs=>lK s λv _=>xS v λx=>gj g e x|.DQ=>λs=>lK s λv _=>v.isNone|.set i e=>λs=>jn s λts v _=>aU ts λt r=>aY t λx _=>r.isEmpty&&decide (g.N[i]?=Δ x)&&ig g x&&gj g e v&&!CQ v|.ifs c a b=>λs=>Gs s λx ys zs _=>gj g c x&&uk g a ys&&uk g b zs|.g8 t w b=>λs=>pD s λtg iter body orelse _=>orelse.isEmpty&&QQ g t tg&&SD g w iter&&uk g b body&&!cu iter&&(!BM w||GG t)|.iE t e b=>λs=>pD s λtg iter body orelse _=>orelse.isEmpty&&QQ g t tg&&gj g e iter&&uk g b body&&!cu iter&&!GG t|.Bz i j a b=>λs=>pD s λtg iter body orelse _=>bR iter λf0 xs gZ cp=>bY f0 λo n ap=>orelse.isEmpty&&xs.isEmpty&&gZ.isEmpty&&QQ g (.two i j) tg&&decide (n="items")&&!isCall o&&(ap.endLine==cp.line)&&gj g a o&&uk g b body|.jd i j a b=>λs=>pD s λtg iter body orelse _=>bR iter λf0 xs gZ cp=>aY f0 λn _=>aU xs λo r=>orelse.isEmpty&&r.isEmpty&&gZ.isEmpty&&QQ g (.two i j) tg&&decide (n="enumerate")&&g.gl "enumerate"&&notStar o&&gj g a o&&uk g b body|.kE c b=>λs=>t7 s λx body orelse _=>orelse.isEmpty&&gj g c x&&uk g b body|.nP i k=>λs=>ic s λname params body Vp rt tps scope tsc bind pos=>Vp.isEmpty&&rt.isNone&&tps.isEmpty&&tsc.isNone&&decide (bind=name)&&g.Qn i k name params body scope pos|.expr e=>λs=>rS s λx _=>gj g e x&&!mT x|.app a e=>λs=>rS s λc _=>bR c λf0 xs gZ cp=>bY f0 λo n ap=>aU xs λx r=>r.isEmpty&&gZ.isEmpty&&(ap.endLine==cp.line)&&decide (n="append")&&!isCall o&&gj g a o&&gj g e x&&notStar x|.put a i e=>λs=>jn s λts v _=>aU ts λt r=>iT t λo k _=>r.isEmpty&&gj g a o&&gj g i k&&gj g e v&&!mT v|.lZ c f i e=>λs=>jn s λts v _=>aU ts λt r=>bY t λo n _=>aY o λx _=>r.isEmpty&&decide (n=f)&&g.yv c f&&decide (g.N[i]?=Δ x)&&g.xP x&&aR x&&gj g e v
def uk(g:G):List S->List Stmt->Bool
 |[]=>λl=>l.isEmpty|s::ss=>λl=>aU l λx xs=>okS g s x&&uk g ss xs
end
inductive tS (K:KB) (Z:List Addr) (d:cj->aL->R Fl) (D:Ends) (σ:L2.St) (H:Hp):Prop
 |mk (m:List Addr) (r:cj) (st:aL) (a:cq K H m Z r σ) (b:ax K H m Z st) (c:Ok K Z (d r st) m H (qz K Z D)):tS K Z d D σ H
structure fO(X:Cx)(kt:KT)(g:G)(C:Nat->List P->aL->R P):Prop extends Good X kt g C where
 cell:∀x,g.names.lookup x=Δ .cell->X.env.scope.names.lookup x=Δ .cell
 nd:g.N.Nodup
 SJ:∀x,g.names.lookup x=Δ .cell->X.fn x=Λ
 nP:∀i k name params body scope pos,g.Qn i k name params body scope pos=Λ->∀Z,PS X (.FunctionDef name params body [] Θ [] scope Θ name pos) (tS (af X kt) Z (aQ C (.nP i k)))
 own:PassesOwn (model X.prog X.w) X.A X.env X.xe
section
variable{X:Cx}{g:G}{C:Nat->List P->aL->R P}{Z:List Addr}
theorem PS.imp{st:Stmt}(h:PS X st t)(i:∀D σ H,t' D σ H->t D σ H):PS X st t':=λη s σ H D I q=>h η s σ H D I (i D σ H q)
theorem mC.imp{st:List Stmt}(h:mC X st t)(i:∀D σ H,t' D σ H->t D σ H):mC X st t':=λη s σ H D I q=>h η s σ H D I (i D σ H q)
theorem fO.vt(T:fO X kt g C)(h:ig g x=Λ):Loc X.env.scope x:=by
 unfold ig at h;simp only[YS,qqq] at h;rcases h with h|h;·exact .inl (T.loc x h)
 ·exact .inr (T.cell x h)
theorem fO.HE(T:fO X kt g C)(h:ig g x=Λ):X.fn x=Λ\/X.env.scope.names.lookup x=Δ .local:=by
 unfold ig at h;simp only[YS,qqq] at h;rcases h with h|h;·exact .inr (T.loc x h)
 ·exact .inl (T.SJ x h)
theorem cq.set{K:KB}(A:cq K H m Z r σ)(rv:ai K H m Z p v):cq K H m Z (r.set i (Δ p)) (σ.set i (Δ v)):=by
 refine⟨by rw[Ye,Ye];exact A.len,λj q h=>?_⟩;by_cases hj:i=j
 ·subst hj;have hi:i < r.length:=by have:=(qqz h).1;rwa [Ye] at this
  rw[W4 hi] at h;cases h;exact⟨v,by rw[W4 (by rw[<-A.len];exact hi)],rv⟩
 ·rw[WH hj] at h;obtain⟨w',e,r'⟩:=A.at_ j q h;exact⟨w',by rw[WH hj];exact e,r'⟩
theorem QR(h:PE X x (tE (af X kt) Z (aa C e))):PS X (.Return (Δ x) pos) (tS (af X kt) Z (aQ C (.ret e))):=by refine PS.imp (Lj h) ?_;rintro D σ H ⟨m,r,st,ar,as,h⟩;rw[pd] at h;exact⟨m,r,st,ar,as,(Ok.bind h).mono λp st1 m1 H1 bC aW h1=>Ok.here h1 aW⟩
theorem M0:PS X (.Return Θ pos) (tS (af X kt) Z (aQ C .DQ)):=by refine PS.imp HP ?_;rintro D σ H ⟨m,r,st,ar,as,h⟩;rw[tz] at h;exact Ok.here h as .bz rfl
theorem xX(h:mT x=Ξ):ZN x t line env=pure Ξ:=by
 cases x<;>first
  |rfl
  |exact absurd (show Λ=Ξ from h) Xw.symm
theorem QS(T:fO X kt g C)(hi:g.N[i]?=Δ x)(hl:ig g x=Λ)(hc:mT v=Ξ)(h:PE X v (tE (af X kt) Z (aa C e))):PS X (.Assign [.Name x p] v pos) (tS (af X kt) Z (aQ C (.set i e))):=by refine PS.imp (EY (i:=i) (by rw[T.N];exact T.nd) (by rw[T.N];exact hi) (T.vt hl) h (xX hc) (T.HE hl)) ?_;rintro D σ H ⟨m,r,st,ar,as,h⟩;rw[pf] at h;refine⟨m,r,st,ar,as,(Ok.bind h).mono λq st1 m1 H1 bC aW h1 v rv=>?_⟩;exact Ok.here h1 aW (σ.set i (Δ v)) ((ar.le bC).set rv)
theorem GH(h:gj g e (.ListComp elt gens sc pos)=Λ):(∃mu w ts js c ee,e=.lst mu (.comp w ts js c ee))\/(∃mu a js c ee,e=.lst mu (.cm a js c ee))\/∃mu w js c ee,e=.lst mu (.kD w js c ee):=by
 cases e with
 |lst mu l=>cases l with|comp w ts js c ee=>exact .inl ⟨mu,w,ts,js,c,ee,rfl⟩|cm a js c ee=>exact .inr (.inl ⟨mu,a,js,c,ee,rfl⟩)|kD w js c ee=>exact .inr (.inr ⟨mu,w,js,c,ee,rfl⟩)|_=>exact nomatch (show Ξ=Λ from h)
 |_=>exact nomatch (show Ξ=Λ from h)
theorem CS(hk:env.scope.kind=.function):
  ZN (.ListComp elt gens sc pos) (Δ (.Name x p)) line env=pure (decide (env.scope.names.lookup x=Δ .local)&&(p.line==pos.line)&&!(sc.names.any λq=>q.1==x&&(q.2==.local||q.2==.cell))):=by
 unfold ZN;dsimp only;have h1:env.blockKind=.function:=by unfold PySem.Env.blockKind;rw[hk];rfl
 have h2:(env.kindOf x==Δ .local)=decide (env.scope.names.lookup x=Δ .local):=by
  unfold PySem.Env.kindOf;by_cases h:env.scope.names.lookup x=Δ .local;·rw[h];rfl
  ·rw[decide_eq_false h];exact beq_eq_false_iff_ne.mpr h
 rw[h1,h2];rfl
theorem rZ{D:Ends}(h:tS (af X kt) Z (aQ C (.set i e)) D σ H):tE (af X kt) Z (aa C e) σ H λv H1=>D.nx (σ.set i (Δ v)) H1:=by obtain⟨m,r,st,ar,as,h⟩:=h;rw[pf] at h;refine⟨m,r,st,ar,as,(Ok.bind h).mono λq st1 m1 H1 bC aW h1 v rv=>?_⟩;exact Ok.here h1 aW (σ.set i (Δ v)) ((ar.le bC).set rv)
theorem GI(T:fO X kt g C)(hi:g.N[i]?=Δ x)(hl:ig g x=Λ)(hc:CQ v=Ξ)(h:gj g e v=Λ):PS X (.Assign [.Name x p] v pos) (tS (af X kt) Z (aQ C (.set i e))):=by
 have he:=(aH e kt X g v Z T.toGood h).1;by_cases EG:mT v=Ξ;·exact QS T hi hl EG he
 ·cases v with
  |ListComp elt gens sc Jx=>
   intro η s σ H D I q;have sw:=CS (x:=x) (p:=p) (elt:=elt) (gens:=gens) (sc:=sc) (pos:=Jx) (line:=pos.line) I.ok.kind;cases hb:(decide (X.env.scope.names.lookup x=Δ .local)&&(p.line==Jx.line)&&!(sc.names.any λq=>q.1==x&&(q.2==.local||q.2==.cell))) with
   |false=>rw[hb] at sw;exact PS.imp (EY (i:=i) (by rw[T.N];exact T.nd) (by rw[T.N];exact hi) (T.vt hl) he sw (T.HE hl)) (λD σ H q=>rZ q) η s σ H D I q|true=>
    have Vq:X.Ok->ZN (.ListComp elt gens sc Jx) (Δ (.Name x p)) pos.line X.env=pure Λ:=λok=>by rw[CS ok.kind,hb]
    rcases GH h with ⟨mu,w,ts,js,c,ee,rfl⟩|⟨mu,a,js,c,ee,rfl⟩|⟨mu,w,js,c,ee,rfl⟩
    ·have q1:=rV (rZ q);refine aE (show aU gens _=Λ from h) λge r h=>?_;refine lI h λtg iter ifs a h=>?_;refine aF h λy py h=>?_;simp only[WC,qqq,Xe,WS] at h;obtain⟨⟨⟨⟨⟨⟨⟨⟨⟨⟨rfl,rfl⟩,rfl⟩,h1⟩,Vo⟩,h2⟩,h3⟩,h4⟩,h5⟩,h6⟩,h7⟩:=h;have B:=T.toGood.pJ h2;have T':∀η fp Cc s H,Good (lX X η (gJ g y js) sc fp Cc s H) kt (g.inner (gJ g y js) sc) C:=λη fp Cc s H=>T.toGood.inner (js:=js) B.eA;refine mK T.calm B (pL w kt X g iter (.Name y py) Z T.toGood h1 (λz=>by rw[Vo] at z;cases z)) (λη fp Cc s H=>cH (i:=0) h4 rfl (.inl ((T' η fp Cc s H).loc y h3)) (.inr ((T' η fp Cc s H).loc y h3)))
      (λη fp Cc s H=>(pK c).2 kt _ _ _ (T' η fp Cc s H) h5) (λη fp Cc s H=>Eb λZ=>(aH ee kt _ _ _ Z (T' η fp Cc s H) h6).1) (λy=>?_) Vq (cH (i:=i) (by rw[T.N];exact T.nd) (by rw[T.N];exact hi) (T.vt hl) (T.HE hl)) η s σ H D I (zK q1)
     cases iter<;>first
      |rfl
      |exact absurd (show Λ=Ξ from h7) Xw.symm
    ·have q1:=rV (rZ q);refine aE (show aU gens _=Λ from h) λge r h=>?_;refine lI h λtg iter ifs a9 h=>?_;refine aF h λy py h=>?_;simp only[WC,qqq,Xe,WS] at h;obtain⟨⟨⟨⟨⟨⟨⟨⟨rfl,rfl⟩,h1⟩,h2⟩,h3⟩,h4⟩,h5⟩,h6⟩,h7⟩:=h;have B:=T.toGood.pJ h2;have T':∀η fp Cc s H,Good (lX X η (gJ g y js) sc fp Cc s H) kt (g.inner (gJ g y js) sc) C:=λη fp Cc s H=>T.toGood.inner (js:=js) B.eA;refine mK T.calm B (rM (aH a kt X g iter Z T.toGood h1).1) (λη fp Cc s H=>cH (i:=0) h4 rfl (.inl ((T' η fp Cc s H).loc y h3)) (.inr ((T' η fp Cc s H).loc y h3)))
      (λη fp Cc s H=>(pK c).2 kt _ _ _ (T' η fp Cc s H) h5) (λη fp Cc s H=>Eb λZ=>(aH ee kt _ _ _ Z (T' η fp Cc s H) h6).1) (λy=>?_) Vq (cH (i:=i) (by rw[T.N];exact T.nd) (by rw[T.N];exact hi) (T.vt hl) (T.HE hl)) η s σ H D I (wO q1)
     cases iter<;>first
      |rfl
      |exact absurd (show Λ=Ξ from h7) Xw.symm
    ·have q1:=rV (rZ q);refine aE (show aU gens _=Λ from h) λge r h=>?_;refine lI h λtg iter ifs a h=>?_;refine jo h λns k2 p2 h=>?_;refine aE h λn1 U9 h=>?_;refine aF h λy py h=>?_;refine aE h λn2 Va h=>?_;refine aF h λz pz h=>?_;simp only[WC,qqq,Xe,WS] at h;obtain⟨⟨⟨⟨⟨⟨⟨⟨⟨⟨rfl,rfl⟩,rfl⟩,h1⟩,h2⟩,h3⟩,QP⟩,h4⟩,h5⟩,h6⟩,h7⟩:=h;have B:=T.toGood.pJ h2;have T':∀η fp Cc s H,Good (lX X η (kN g y z js) sc fp Cc s H) kt (g.inner (kN g y z js) sc) C:=λη fp Cc s H=>T.toGood.inner (js:=js) B.eA;refine mK T.calm B (pL w kt X g iter (.Tuple [.Name y py,.Name z pz] k2 p2) Z T.toGood h1 (λ_=>⟨_,_,_,rfl⟩)) (λη fp Cc s H=>so (n:=2) (T' η fp Cc s H).calm (dQ (cH (i:=0) h4 rfl (.inl ((T' η fp Cc s H).loc y h3)) (.inr ((T' η fp Cc s H).loc y h3))) (dQ (cH (i:=1) h4 rfl (.inl ((T' η fp Cc s H).loc z QP)) (.inr ((T' η fp Cc s H).loc z QP))) nE)))
      (λη fp Cc s H=>(pK c).2 kt _ _ _ (T' η fp Cc s H) h5) (λη fp Cc s H=>Eb λZ=>(aH ee kt _ _ _ Z (T' η fp Cc s H) h6).1) (λy=>?_) Vq (cH (i:=i) (by rw[T.N];exact T.nd) (by rw[T.N];exact hi) (T.vt hl) (T.HE hl)) η s σ H D I (wN q1)
     cases iter<;>first
      |rfl
      |exact absurd (show Λ=Ξ from h7) Xw.symm
  |SetComp _ _ _ _=>cases hc|DictComp _ _ _ _ _=>cases hc|_=>exact absurd rfl EG
theorem M3(hc:mT x=Ξ)(h:PE X x (tE (af X kt) Z (aa C e))):PS X (.Expr x pos) (tS (af X kt) Z (aQ C (.expr e))):=by refine PS.imp (Cf h (xX hc)) ?_;rintro D σ H ⟨m,r,st,ar,as,h⟩;rw[tH] at h;refine⟨m,r,st,ar,as,(Ok.bind h).mono λq st1 m1 H1 bC aW h1 v rv=>?_⟩;exact Ok.here h1 aW σ (ar.le bC)
theorem ah.setAt{K:KB}(r:ai K H m Z p v):∀{xs} {us} (j),ah K H m Z xs us->ah K H m Z (xs.set j p) (us.set j v)
 |[],us,j,h=>by cases (show us=[] from h);exact rfl|x::xs,us,j,h=>by obtain⟨u,Ju,rfl,r1,rs⟩:=(show ∃v vs,us=v::vs/\ai K H m Z x v/\ah K H m Z xs vs from h);cases j with|zero=>exact⟨v,Ju,rfl,r,rs⟩|succ j=>exact⟨u,Ju.set j v,rfl,r1,ah.setAt r j rs⟩
theorem QT(hl:(ap.endLine==cp.line)=Λ)(hc:isCall o=Ξ)(ho:PE X o (tE (af X kt) Z (aa C a)))(hx:PE X x (tE (af X kt) Z (aa C e)))(hs:notStar x=Λ):
  PS X (.Expr (.Call (.Attribute o "append" ap) [x] [] cp) pos) (tS (af X kt) Z (aQ C (.app a e))):=by
 have s1:Xf [x] X.env=[(Ξ,eval x X.env)]:=bj hs;refine PS.imp (Cf (Pe PySem.F.plainAttrs_list PySem.F.slot_list_append PySem.F.type_list_append oV ho (kQ hx uf hs) (uh hc) (by rw[s1];rfl) hl s1 rfl) rfl) ?_;rintro D σ H ⟨m,r,st,ar,as,h⟩;rw[wz] at h;refine⟨m,r,st,ar,as,(Ok.bind h).mono λy st1 m1 H1 bC aW h1 v rv=>?_⟩;obtain⟨its,e1,h2,dR⟩:=Ok.of (Ok.bind h1) aW;clear dR;obtain⟨l,us,rfl,hq,rs⟩:=cK aW e1 rv;refine⟨.inl ⟨rfl,us,.inl hq⟩,m1,r,st1,ar.le bC,aW,?_⟩;show Ok (af X kt) Z (aA C [e] r st1) m1 H1 _;simp only[aq,aB];cases hr:aa C e r st1 with
 |ex x s=>rw[hr] at h2;exact(show False from h2).elim|no=>rw[hr] at h2;exact(show False from h2).elim|ok w st2=>
  rw[hr] at h2;simp only[ae] at h2 ⊢;intro m2 H2 fb eE vs gY;obtain⟨u,rfl,ru⟩:=ug gY;obtain⟨st3,e2,h3,dR⟩:=Ok.of (Ok.bind (Ok.le h2 fb)) eE;clear dR;unfold xK at e2;split at e2
  ·rename_i n;split at e2
   ·rename_i xs QO;split at e2;·rename_i eB;cases e2;obtain⟨b,hb,eb⟩:=rv.le fb;cases eb;obtain⟨b',iD,zs,hz,rz⟩:=eE.at_ n _ QO;rw[hb] at iD;cases iD;obtain⟨uj,uY⟩:=eE.write (ho:=.lst (zs++[u])) (o':=.lst (xs++[w])) QO hb λH' e _ f=>⟨_,e,(rz.mono f).append ⟨u,[],rfl,f _ _ ru,rfl⟩⟩;refine⟨l,zs,u,rfl,rfl,hz,by rw[rz.length,<-dn];exact eB,?_⟩;exact h3 m2 _ uj uY σ (((ar.le bC).le fb).le uj)
    ·cases e2
   ·cases e2
  ·cases e2
def QU:OO:=λo i v H Q=>∃a H4,o=.ref a/\yJ H a i v H4/\Q H4
theorem Jy(hu:X.A.units+100 < cLine):Dj X QU:=by intro η s σ H o i v ov iv u Q I ro ri rv h;obtain⟨a,H4,rfl,g,q⟩:=h;cases ro;exact Dx (by lia) I g ri rv λs4 I4=>⟨H4,I4,q⟩
theorem Jz(h:Dj X t)(h':Dj X t'):Dj X (λo i v H Q=>t o i v H Q\/t' o i v H Q):=by
 intro η s σ H o i v ov iv u Q I ro ri rv q;rcases q with q|q;·exact h η s σ H o i v ov iv u Q I ro ri rv q
 ·exact h' η s σ H o i v ov iv u Q I ro ri rv q
theorem M4(hp:Dj X t)(ho:PE X o td)(hi:PE X i ty)(hv:PE X value tv)(hs:ZN value (Δ (.Subscript o i pos')) pos.line X.env=pure Ξ):
  PS X (.Assign [.Subscript o i pos'] value pos) (λD σ H=>tv σ H λv H1=>td σ H1 λx H2=>ty σ H2 λy H3=>t x y v H3 λH4=>D.nx σ H4):=by
 intro η s σ H D I h;refine wpAny_Assign_Subscript (bQ (hv η s σ H _ I h) λr s1 ⟨v,H1,I1,rv,q1⟩=>bQ (ho η s1 σ H1 _ I1 q1) λu s2 ⟨x,H2,I2,rx,q2⟩=>bQ (hi η s2 σ H2 _ I2 q2) λiv s3 ⟨y,H3,I3,ry,q3⟩=>?_) hs;exact bQ (hp η s3 σ H3 x y v u iv r _ I3 rx ry rv q3) λ_ s4 ⟨H4,I4,q4⟩=>⟨σ,H4,I4,q4⟩
theorem QV(T:Good X kt g C)(hc:mT v=Ξ)(ho:PE X o (tE (af X kt) Z (aa C a)))(hk:PE X k (tE (af X kt) Z (aa C i)))(hv:PE X v (tE (af X kt) Z (aa C e))):
  PS X (.Assign [.Subscript o k pos'] v pos) (tS (af X kt) Z (aQ C (.put a i e))):=by
 refine PS.imp (M4 (Jz set_list (Jy T.hu)) ho hk hv (xX hc)) ?_;rintro D σ H ⟨m,r,st,ar,as,h⟩;rw[wA] at h;refine⟨m,r,st,ar,as,(Ok.bind h).mono λw st1 m1 H1 bC aW h1 vw mI=>?_⟩;refine⟨m1,r,st1,ar.le bC,aW,(Ok.bind h1).mono λx st2 m2 H2 fb eE h2 vx rx=>?_⟩;refine⟨m2,r,st2,(ar.le bC).le fb,eE,(Ok.bind h2).mono λy st3 m3 H3 uj uY h3 vy ry=>?_⟩;obtain⟨mj,e2,h4,dR⟩:=Ok.of (Ok.bind h3) uY;clear dR;have Vr:=(mI.le fb).le uj;have Vs:=((ar.le bC).le fb).le uj;unfold qU at e2;split at e2
 ·rename_i n;obtain⟨ob,MM,e5⟩:=b7 e2;clear e2;obtain⟨ob',e3,rfl⟩:=fI e5;clear e5;obtain⟨b,hb,eb⟩:=rx.le uj;cases eb;obtain⟨b',iD,ao⟩:=uY.at_ n _ MM;rw[hb] at iD;cases iD;cases ob with
  |ins c fs=>cases e3|vm=>cases e3|lst xs=>
   obtain⟨zs,hz,rz⟩:=ao;unfold DR at e3;dsimp only at e3;split at e3;·rename_i j;obtain⟨q,hq,rfl⟩:=fI e3;cases (show vy=.int j from ry);obtain⟨yw,CL⟩:=uY.write (ho:=.lst (zs.set q vw)) (o':=.lst (xs.set q w)) MM hb λH' e _ f=>⟨_,e,(rz.mono f).setAt (f _ _ Vr) q⟩;refine .inl ⟨b,zs,j,q,rfl,rfl,hz,by rw[rz.length];exact hq,?_⟩;exact h4 m3 _ yw CL σ (Vs.le yw)
   ·cases e3
  |dK kvs=>
   obtain⟨us,hu,rs⟩:=ao;have e4:(if kvs.length < aw then(keyOf y).map λk=>O.dK (mO kvs k w) else Θ)=Δ ob':=e3;split at e4;·rename_i eB;obtain⟨kk,DG,rfl⟩:=fI e4;rw[ry.key DG];obtain⟨yw,CL⟩:=uY.write (ho:=.dK (putK us kk vw)) (o':=.dK (mO kvs kk w)) MM hb λH' e _ f=>⟨_,e,(rs.mono f).put (f _ _ Vr)⟩;refine .inr ⟨b,_,rfl,yJ.k hu (by rw[rs.length,<-dn];exact eB),?_⟩;exact h4 m3 _ yw CL σ (Vs.le yw)
   ·cases e4
  |dT kvs=>
   obtain⟨us,hu,rs⟩:=ao;have e4:(if kvs.length < aw then(mN y).map λk=>O.dT (mO kvs k w) else Θ)=Δ ob':=e3;split at e4;·rename_i eB;obtain⟨kk,DG,rfl⟩:=fI e4;obtain⟨bk,rfl,hbk⟩:=ry.mN DG;obtain⟨yw,CL⟩:=uY.write (ho:=.dT (putK us kk vw)) (o':=.dT (mO kvs kk w)) MM hb λH' e _ f=>⟨_,e,(rs.mono f).put (f _ _ Vr)⟩;refine .inr ⟨b,_,rfl,yJ.t hu hbk (by rw[rs.length,<-dn];exact eB),?_⟩;exact h4 m3 _ yw CL σ (Vs.le yw)
   ·cases e4
 ·cases e2
theorem aN.vn{K:KB}{H:Hp}{m:List Addr}{f:Str}{p:P}{v:V}(rp:ai K H m Z p v):∀{fs:List (Str×P)} {us:List (Str×V)},aN K H m Z fs us->aN K H m Z (vn f p fs) (jC f v us)
 |[],us,h=>by cases (show us=[] from h);exact⟨v,[],rfl,rp,rfl⟩|(k,q)::fs,us,h=>by
  obtain⟨w,ws,rfl,r,rs⟩:=(show ∃v vs,us=(k,v)::vs/\ai K H m Z q v/\aN K H m Z fs vs from h);show aN K H m Z (if k=f then(k,p)::fs else(k,q)::Y.vn f p fs) (if k=f then(k,v)::ws else(k,w)::jC f v ws);by_cases hk:k=f;·rw[if_pos hk,if_pos hk];exact⟨v,ws,rfl,rp,rs⟩
  ·rw[if_neg hk,if_neg hk];exact⟨w,_,rfl,r,aN.vn rp rs⟩
theorem JA:ZN v (Δ (.Attribute o f p)) line env=pure Ξ:=by cases v<;>rfl
theorem M5(T:Good X kt g C)(hf:g.yv c f=Λ)(h1:g.N[i]?=Δ x)(h2:g.xP x=Λ)(h3:aR x=Λ)(hv:PE X v (tE (af X kt) Z (aa C e))):
  PS X (.Assign [.Attribute (.Name x p) f pos'] v pos) (tS (af X kt) Z (aQ C (.lZ c f i e))):=by
 refine PS.imp (Lx (zy (Z:=Z) (kt:=kt) T h1 h2 h3) hv JA) ?_;rintro D σ H ⟨m,r,st,ar,as,h⟩;rw[tJ] at h;refine⟨m,r,st,ar,as,(Ok.bind h).mono λw st1 m1 H1 bC aW h1 vw mI=>?_⟩;refine⟨m1,r,st1,ar.le bC,aW,?_⟩;rw[lF];refine(Ok.bind h1).mono λx st2 m2 H2 fb eE h2 vx rx=>?_;obtain⟨st3,e2,h4,_⟩:=Ok.of (Ok.bind h2) eE;obtain⟨⟨n,fs⟩,e3,e4⟩:=b7 e2;split at e4
 ·rename_i eB;cases e4;obtain⟨a,A,dx,us,rfl,hm,rfl,hs,g1,g2,g3,g4⟩:=BP eE rx e3;obtain⟨A',k1,k2,k3⟩:=T.fld c f hf;rw[show W3 X.K WY c=Δ (Δ (.ref A)) from g1] at k1;cases k1;have fc:dx≠a:=by rintro rfl;rw[g2] at g3;cases g3
  obtain⟨yw,CL⟩:=eE.write (ho:=.ins A dx (jC f vw us)) (o':=.ins c (vn f w fs)) hs hm λH' e k f=>⟨A,dx,_,g1,e,k _ _ fc g3,(g4.mono f).vn (f _ _ (mI.le fb))⟩;refine⟨a,A,dx,us,rfl,g2,k2,k3,by rw[g4.length];exact eB,?_⟩;exact h4 m2 _ yw CL σ (((ar.le bC).le fb).le yw)
 ·cases e4
theorem M6:mC X [] (tS (af X kt) Z (aj C [])):=by refine mC.imp HN ?_;rintro D σ H ⟨m,r,st,ar,as,h⟩;rw[tK] at h;exact Ok.here h as σ ar
theorem JB(h1:PS X x (tS (af X kt) Z (aQ C s)))(h2:mC X xs (tS (af X kt) Z (aj C ss))):mC X (x::xs) (tS (af X kt) Z (aj C (s::ss))):=by refine mC.imp (EW h1 h2) ?_;rintro D σ H ⟨m,r,st,ar,as,h⟩;rw[iR] at h;refine⟨m,r,st,ar,as,(Ok.bind h).mono λf st1 m1 H1 bC aW h1=>?_⟩;cases f with|nx r1=>exact λcT Vt=>⟨m1,r1,st1,Vt,aW,h1⟩|bk r1=>exact Ok.here h1 aW|ct r1=>exact Ok.here h1 aW|rt v=>exact Ok.here h1 aW
theorem Vu(hc:PT X c (tT (af X kt) Z (bI (aa C ec))))(ha:mC X a (tS (af X kt) Z (aj C ea)))(hb:mC X b (tS (af X kt) Z (aj C eb))):PS X (.If c a b pos) (tS (af X kt) Z (aQ C (.ifs ec ea eb))):=by refine PS.imp (OM hc ha hb) ?_;rintro D σ H ⟨m,r,st,ar,as,h⟩;rw[ph] at h;refine⟨m,r,st,ar,as,(Ok.bind h).mono λk st1 m1 H1 bC aW h1=>?_⟩;cases k with|true=>exact⟨m1,r,st1,ar.le bC,aW,h1⟩|false=>exact⟨m1,r,st1,ar.le bC,aW,h1⟩
theorem zM{K:KB}{D:Ends}{st:aL}{k:cj->aL->R Fl}(as:ax K H m Z st)(h:Ok K Z (match f with|.nx r2=>k r2 st|.ct r2=>k r2 st|.bk r2=>R.ok (.nx r2) st|.rt v=>R.ok (.rt v) st) m H (qz K Z D))(hN:∀r σ,cq K H m Z r σ->Ok K Z (k r st) m H (qz K Z D)->N σ H):qz K Z {D with nx:=N,ct:=N,bk:=D.nx} f st m H:=by cases f with|nx r2=>exact λσ ar=>hN r2 σ ar h|ct r2=>exact λσ ar=>hN r2 σ ar h|bk r2=>exact Ok.here h as|rt v=>exact Ok.here h as
theorem JC(T:fO X kt g C)(hc:PT X c (tT (af X kt) Z (bI (aa C ec))))(hb:mC X body (tS (af X kt) Z (aj C eb))):PS X (.While c body [] pos) (tS (af X kt) Z (aQ C (.kE ec eb))):=by refine PS.imp (EZ T.own hc hb) ?_;rintro D σ H ⟨m,r,st,ar,as,h⟩;rw[nW] at h;refine⟨λn σ H=>∃m r st,cq (af X kt) H m Z r σ/\ax (af X kt) H m Z st/\Ok (af X kt) Z (gF (bI (aa C ec)) (aj C eb) n r st) m H (qz (af X kt) Z D),⟨dP,m,r,st,ar,as,h⟩,?_⟩;rintro n σ H ⟨m,r,st,ar,as,h⟩;cases n with|zero=>exact(show False from h).elim|succ n=>rw[kL] at h;refine⟨m,r,st,ar,as,(Ok.bind h).mono λk st1 m1 H1 bC aW h1=>?_⟩;cases k with|false=>exact Ok.here h1 aW σ (ar.le bC)|true=>refine⟨λcT H'=>∃m r st,cq (af X kt) H' m Z r cT/\ax (af X kt) H' m Z st/\Ok (af X kt) Z (gF (bI (aa C ec)) (aj C eb) n r st) m H' (qz (af X kt) Z D),λcT H' q=>⟨n,Yq n,q⟩,?_⟩;refine⟨m1,r,st1,ar.le bC,aW,(Ok.bind (show Ok (af X kt) Z ((aj C eb r st1).bind _) m1 H1 _ from h1)).mono λf st2 m2 H2 fb eE h2=>?_⟩;exact zM (k:=λr2 st2=>gF (bI (aa C ec)) (aj C eb) n r2 st2) eE h2 λr2 N5 HD q=>⟨m2,r2,st2,HD,eE,q⟩
theorem GJ(T:fO X kt g C)(hs:cu iter=Ξ)(hw:PI X tg iter (tW (af X kt) Z (bD C w)))(hg:PG X tg gt)(MT:∀(p:P) (v:V) (m:List Addr) (H:Hp) (r r1:cj) (σ:L2.St) (Q:L2.St->Hp->Prop),ai (af X kt) H m Z p v->cq (af X kt) H m Z r σ->jm t p r=Δ r1->(∀cT,cq (af X kt) H m Z r1 cT->Q cT H)->gt v σ H Q)(hb:mC X body (tS (af X kt) Z (aj C eb))):
  PS X (.For tg iter body [] pos) (tS (af X kt) Z (aQ C (.g8 t w eb))):=by
 refine PS.imp (xk T.own T.calm hw hg hb (λy=>?_)) ?_
 ·cases iter<;>first
   |rfl
   |exact absurd (show Λ=Ξ from hs) Xw.symm
 rintro D σ H ⟨m,r,st,ar,as,h⟩;rw[tB] at h;refine⟨m,r,st,ar,as,(Ok.bind h).mono λps st1 m1 H1 bC aW h1 J wk=>?_⟩;refine⟨λi k σ H=>k=ps.length - i/\i<=ps.length/\∃m r st,Le (af X kt) m1 H1 m H/\cq (af X kt) H m Z r σ/\ax (af X kt) H m Z st/\Ok (af X kt) Z (forL (jm t) (aj C eb) (ps.drop i) r st) m H (qz (af X kt) Z D),⟨ps.length,by simp,XZ _,m1,r,st1,Le.refl,ar.le bC,aW,by rw[ZM];exact h1⟩,?_⟩;rintro j k σ H ⟨rfl,hj,m,r,st,le,ar,as,h⟩;obtain⟨w1,w2⟩:=wk m H Z le (λa ha=>.inl ha) j;by_cases eB:j < ps.length;·have Oe:j < ps.length:=eB;obtain⟨go,yl⟩:=w1 ps[j] (WI Oe);have dR:ps.drop j=ps[j]::ps.drop (j+1):=Yg Oe;rw[dR,wB] at h;refine .inr ⟨go,λcT H'=>∃m r st,Le (af X kt) m1 H1 m H'/\cq (af X kt) H' m Z r cT/\ax (af X kt) H' m Z st/\Ok (af X kt) Z (forL (jm t) (aj C eb) (ps.drop (j+1)) r st) m H' (qz (af X kt) Z D),λcT H' q=>⟨ps.length - (j+1),Zf _ _ eB,rfl,eB,q⟩,λy H' hy=>?_⟩;obtain⟨sm,ry'⟩:=yl y H' hy;have BU:Le (af X kt) m H m H':=Le.same sm;replace le:=le.trans BU;replace as:=as.same sm;replace ar:=ar.le BU;cases hr:jm t ps[j] r with|none=>rw[hr] at h;exact(show False from h).elim|some r1=>rw[hr,ay,ae] at h;refine MT _ _ m H' r r1 σ _ ry' ar hr λcT Vt=>⟨m,r1,st,Vt,as,(Ok.bind (Ok.le h BU)).mono λf st2 m2 H2 fb eE h3=>?_⟩;exact zM (k:=λr2 st2=>forL (jm t) (aj C eb) (ps.drop (j+1)) r2 st2) eE h3 λr2 N5 HD q=>⟨m2,r2,st2,le.trans fb,HD,eE,q⟩
 ·have e:j=ps.length:=by lia
  subst e;rw[abi,Gh] at h;exact .inl ⟨w2 rfl,Ok.here h as σ ar⟩
theorem QW(T:fO X kt g C)(hi:g.N[i]?=Δ x)(hl:ig g x=Λ)(hs:cu iter=Ξ)(hw:PI X (.Name x p) iter (tW (af X kt) Z (bD C w)))(hb:mC X body (tS (af X kt) Z (aj C eb))):
  PS X (.For (.Name x p) iter body [] pos) (tS (af X kt) Z (aQ C (.g8 (.nm i) w eb))):=
 GJ T hs hw (cH (i:=i) (by rw[T.N];exact T.nd) (by rw[T.N];exact hi) (T.vt hl) (T.HE hl)) (λp v m H r r1 σ Q rp ar e q=>by cases e;exact q _ (ar.set rp)) hb
theorem M7(T:fO X kt g C){p p' p2 pos:Pos}(hi:g.N[i]?=Δ x)(hl:ig g x=Λ)(DH:g.N[j]?=Δ y)(vh:ig g y=Λ)(hs:cu iter=Ξ)(hw:PI X (.Tuple [.Name x p,.Name y p'] k p2) iter (tW (af X kt) Z (bD C w)))(hb:mC X body (tS (af X kt) Z (aj C eb))):
  PS X (.For (.Tuple [.Name x p,.Name y p'] k p2) iter body [] pos) (tS (af X kt) Z (aQ C (.g8 (.two i j) w eb))):=by
 have nm:∀{z:Str} {a:Nat} {q:Pos},g.N[a]?=Δ z->ig g z=Λ->PG X (.Name z q) (nC a):=λ{z a q} h1 h2=>cH (i:=a) (by rw[T.N];exact T.nd) (by rw[T.N];exact h1) (T.vt h2) (T.HE h2);refine GJ T hs hw (so (n:=2) T.calm (dQ (nm hi hl) (dQ (nm DH vh) nE))) (λq v m H r r1 σ Q rp ar e hq=>?_) hb;unfold jm at e;dsimp only at e;split at e;·rename_i a b;cases e;obtain⟨c,us,rfl,hc,v1,vs1,e1,Vm,v2,Vn,e2,QI,e3⟩:=rp;subst e3 e2 e1;exact⟨c,_,rfl,fK.of hc,rfl,v1,[v2],rfl,v2,[],rfl,rfl,hq _ ((ar.set (p:=.d a) (show ai (af X kt) H m Z (.d a) v1 from Vm)).set (p:=.d b) (show ai (af X kt) H m Z (.d b) v2 from QI))⟩
 ·cases e
theorem M8(T:fO X kt g C)(hi:g.N[i]?=Δ x)(hl:ig g x=Λ)(hs:cu iter=Ξ)(hw:PE X iter (tE (af X kt) Z (aa C e)))(hb:mC X body (tS (af X kt) Z (aj C eb))):
  PS X (.For (.Name x p) iter body [] pos) (tS (af X kt) Z (aQ C (.iE (.nm i) e eb))):=by
 refine PS.imp (xk T.own T.calm (rM hw) (cH (i:=i) (by rw[T.N];exact T.nd) (by rw[T.N];exact hi) (T.vt hl) (T.HE hl)) hb (λy=>?_)) ?_
 ·cases iter<;>first
   |rfl
   |exact absurd (show Λ=Ξ from hs) Xw.symm
 rintro D σ H ⟨m,r,st,ar,as,h⟩;rw[tD] at h;refine⟨m,r,st,ar,as,(Ok.bind h).mono λx0 st1 m1 H1 bC aW h1 v rv=>?_⟩;split at h1
 ·rename_i n;obtain⟨a,ha,rfl⟩:=rv;have QJ:∃us,H1 a=Δ (.lst us):=by have h2:Ok (af X kt) Z (iE n (jm (.nm i)) (aj C eb) (999999+1) 0 r st1) m1 H1 (qz (af X kt) Z D):=h1;rw[pA] at h2;cases ho:wd n st1 0 with|none=>rw[ho] at h2;exact(show False from h2).elim|some o=>obtain⟨us,hu,_⟩:=pI aW ha ho;exact⟨us,hu⟩
  obtain⟨QK,QL⟩:=QJ;refine⟨a,rfl,⟨QK,.inl (.inl QL)⟩,?_⟩;refine⟨λj k σ H=>∃m r st,Le (af X kt) m1 H1 m H/\cq (af X kt) H m Z r σ/\ax (af X kt) H m Z st/\Ok (af X kt) Z (iE n (jm (.nm i)) (aj C eb) k j r st) m H (qz (af X kt) Z D),⟨dP,m1,r,st1,Le.refl,ar.le bC,aW,h1⟩,?_⟩;rintro j k σ H ⟨m,r,st,le,ar,as,h⟩;have QM:m[n]?=Δ a:=by obtain⟨t,et⟩:=le.pre;rw[et,WK (qqz ha).1];exact ha
  cases k with|zero=>exact(show False from h).elim|succ k=>rw[pA] at h;cases ho:wd n st j with|none=>rw[ho] at h;exact(show False from h).elim|some o=>rw[ho] at h;obtain⟨us,hu,q0,q1⟩:=pI as QM ho;cases o with|none=>exact .inl ⟨⟨us,.inl (.inl hu),q0 rfl⟩,Ok.here (show Ok (af X kt) Z (R.ok (Fl.nx r) st) m H (qz (af X kt) Z D) from h) as σ ar⟩|some q=>obtain⟨vx,KL,rx⟩:=q1 q rfl;refine .inr ⟨⟨us,vx,.inl (.inl hu),KL⟩,λcT H'=>∃m r st,Le (af X kt) m1 H1 m H'/\cq (af X kt) H' m Z r cT/\ax (af X kt) H' m Z st/\Ok (af X kt) Z (iE n (jm (.nm i)) (aj C eb) k (j+1) r st) m H' (qz (af X kt) Z D),λcT H' z=>⟨k,Yq k,z⟩,λy H' hy=>?_⟩;obtain⟨rfl,hx⟩:=hy;have yt:=hx us (.inl (.inl hu));rw[KL] at yt;cases yt;have h2:Ok (af X kt) Z ((aj C eb (r.set i (Δ q)) st).bind _) m H' (qz (af X kt) Z D):=h;refine⟨m,r.set i (Δ q),st,ar.set rx,as,(Ok.bind h2).mono λf st2 m2 H2 fb eE h3=>?_⟩;exact zM (k:=λr2 st2=>iE n (jm (.nm i)) (aj C eb) k (j+1) r2 st2) eE h3 λr2 N5 HD q=>⟨m2,r2,st2,le.trans fb,HD,eE,q⟩
 ·exact(show False from h1).elim
section
variable{K:KB}{H H':Hp}{m:List Addr}
mutual
theorem aI.chg(f:∀a u,H a=Δ u->(∀o us,u≠.dt o (.dK us))->H' a=Δ u):∀{x:D} {v:V},aI K H m Z x v->aI K H' m Z x v
 |.bz,_,h=>h|.bl _,_,h=>h|.int _,_,h=>h|.str _,_,h=>h|.tup xs,v,h=>by obtain⟨a,us,e,q,r⟩:=(show ∃a us,v=.ref a/\H a=Δ (.tup us)/\ak K H m Z xs us from h);exact⟨a,us,e,f _ _ q (λ_ _ z=>nomatch z),ak.chg f r⟩
 |.pl xs,v,h=>by
  obtain⟨a,us,e,q,hm,hz,r⟩:=(show ∃a us,v=.ref a/\Rd H a (.lst us)/\a∉m/\a∉Z/\ak K H m Z xs us from h);refine⟨a,us,e,?_,hm,hz,ak.chg f r⟩;rcases q with q|⟨o,q⟩;·exact .inl (f _ _ q (λ_ _ z=>nomatch z))
  ·exact .inr ⟨o,f _ _ q (λ_ _ z=>nomatch z)⟩
theorem ak.chg(f:∀a u,H a=Δ u->(∀o us,u≠.dt o (.dK us))->H' a=Δ u):∀{xs:List D} {us:List V},ak K H m Z xs us->ak K H' m Z xs us
 |[],_,h=>h|x::xs,us,h=>by obtain⟨v,vs,e,r,rs⟩:=(show ∃v vs,us=v::vs/\aI K H m Z x v/\ak K H m Z xs vs from h);exact⟨v,vs,e,aI.chg f r,ak.chg f rs⟩
end
mutual
theorem ai.chg(f:∀a u,H a=Δ u->(∀o us,u≠.dt o (.dK us))->H' a=Δ u):∀{x:P} {v:V},ai K H m Z x v->ai K H' m Z x v
 |.d _,_,h=>by rw[ai] at h ⊢;exact aI.chg f h|.obj n,v,h=>by rw[ai] at h ⊢;exact h|.gW ns,v,h=>by
  rw[ai] at h ⊢;obtain⟨a,e,r⟩:=h;refine⟨a,e,?_⟩;rcases r with ⟨o,r⟩|r
  ·exact .inl ⟨o,f _ _ r (λ_ _ z=>nomatch z)⟩
  ·exact .inr r
 |.fn k br,v,h=>by rw[ai] at h ⊢;obtain⟨a,c,bT,e,q,hc,r⟩:=h;exact⟨a,c,bT,e,q,f _ _ hc (λ_ _ z=>nomatch z),ah.chg f r⟩|.lf k,v,h=>by rw[ai] at h ⊢;obtain⟨a,c,ct,e,q,r⟩:=h;exact⟨a,c,ct,e,f _ _ q (λ_ _ z=>nomatch z),f _ _ r (λ_ _ z=>nomatch z)⟩
theorem ah.chg(f:∀a u,H a=Δ u->(∀o us,u≠.dt o (.dK us))->H' a=Δ u):∀{xs:List P} {us:List V},ah K H m Z xs us->ah K H' m Z xs us
 |[],_,h=>h|x::xs,us,h=>by obtain⟨v,vs,e,r,rs⟩:=(show ∃v vs,us=v::vs/\ai K H m Z x v/\ah K H m Z xs vs by rw[ah] at h;exact h);rw[ah];exact⟨v,vs,e,ai.chg f r,ah.chg f rs⟩
end
end
theorem M9{K:KB}(e1:H1 d=Δ (.dK us))(hm:m1[n]?=Δ d)(rs:aN K H1 m1 Z kvs us)(le:Le K m1 (upd H1 d (.dt o (.dK us))) m2 H2)(as:ax K H2 m2 Z st2):H2 d=Δ (.dt o (.dK us))/\Le K m1 H1 m2 (upd H2 d (.dK us))/\ax K (upd H2 d (.dK us)) m2 Z (st2.set n (.dK kvs))/\∀p v,ai K H2 m2 Z p v->ai K (upd H2 d (.dK us)) m2 Z p v:=by
 have e2:H2 d=Δ (.dt o (.dK us)):=le.dt _ _ _ aD;have dm:d∈m1:=W6 hm;have f:∀a u,H2 a=Δ u->(∀o us,u≠.dt o (.dK us))->upd H2 d (.dK us) a=Δ u:=λa u q z=>by rw[au (λw'=>by rw[w',e2] at q;exact z o us (Xj q).symm)];exact q
 have up:∀{a:Addr} {u:HO},H1 a=Δ u->a≠d->upd H1 d (.dt o (.dK us)) a=Δ u:=λq z=>by rw[au z];exact q
 have lf:Le K m1 H1 m2 (upd H2 d (.dK us)):=by
  refine⟨le.pre,λa xs q=>?_,λa u q ha hu=>?_,λa ha=>?_,λa q=>?_,λa q=>?_,λa ob u q=>?_,λa φ q=>?_,λa ps q=>?_⟩;·exact f _ _ (le.tup _ _ (up q (λz=>by rw[z,e1] at q;cases q))) (λ_ _ z=>nomatch z)
  ·have hd:a≠d:=λz=>ha (by rw[z];exact dm);rw[au hd];exact le.keep _ _ (up q hd) ha hu
  ·rcases le.new a ha with z|z;·exact .inl z
   ·by_cases hd:a=d;·rw[hd];exact .inl dm
    ·rw[au hd] at z;exact .inr z
  ·by_cases hd:a=d;·rw[hd,aD];exact λz=>nomatch z
   ·rw[au hd];exact le.qL _ (by rw[au hd];exact q)
  ·exact lG (λ_ z=>nomatch z) (le.Cy _ (lG (λ_ z=>nomatch z) q))
  ·have hd:a≠d:=λz=>by rw[z,e1] at q;cases q
   rw[au hd];exact le.dt _ _ _ (up q hd)
  ·exact f _ _ (le.ext _ _ (up q (λz=>by rw[z,e1] at q;cases q))) (λ_ _ z=>nomatch z)
  ·obtain⟨more,w'⟩:=le.fE _ _ (up q (λz=>by rw[z,e1] at q;cases q));exact⟨more,f _ _ w' (λ_ _ z=>nomatch z)⟩
 have HB:m2[n]?=Δ d:=by obtain⟨t,et⟩:=le.pre;rw[et,WK (qqz hm).1];exact hm
 refine⟨e2,lf,⟨by rw[Ye];exact as.len,as.nd,λk ob hk=>?_,λb hb=>lG (λ_ z=>nomatch z) (as.zt b hb),as.zm,λt ht=>?_⟩,λp v z=>z.chg f⟩
 ·by_cases Mr:n=k
  ·subst Mr;have eB:n < st2.length:=by rw[<-as.len];exact(qqz HB).1
   rw[W4 eB] at hk;cases hk;exact⟨d,HB,us,aD,rs.mono λp v z=>z.le lf⟩
  ·rw[WH Mr] at hk;obtain⟨b,q,rr⟩:=as.at_ k ob hk;have hbd:b≠d:=by rintro rfl;obtain⟨l1,e1⟩:=qqz HB;obtain⟨l2,e2⟩:=qqz q;exact Mr (kl as.nd l1 l2 (e1.trans e2.symm))
   refine⟨b,q,rr.mono (λb' u iD hu=>?_) λp v z=>z.chg f⟩;rw[au (λz=>by
    rcases iD with w1|w1;·exact hbd (w1▸z)
    ·rw[z,e2] at w1;cases w1)]
   exact hu
 ·obtain⟨ps,h1,h2⟩:=as.tab t ht;exact⟨ps,f _ _ h1 (λ_ _ z=>nomatch z),fN.same (λa φ z=>f _ _ z (λ_ _ w'=>nomatch w')) h2⟩
theorem qz.DL{D:Ends}(e1:H1 d=Δ (.dK us))(hm:m1[n]?=Δ d)(rs:aN (af X kt) H1 m1 Z kvs us)(nf:NF X d)(le:Le (af X kt) m1 (upd H1 d (.dt o (.dK us))) m2 H2)(as:ax (af X kt) H2 m2 Z st2)(h:∀m' H',Le (af X kt) m1 H1 m' H'->ax (af X kt) H' m' Z (st2.set n (.dK kvs))->qz (af X kt) Z D fl (st2.set n (.dK kvs)) m' H'):qz (af X kt) Z (wa X D) fl st2 m2 H2:=by obtain⟨e2,lf,bV,f⟩:=M9 e1 hm rs le as;have q:=h m2 _ lf bV;have ra:∀{r:cj} {σ:L2.St},cq (af X kt) H2 m2 Z r σ->cq (af X kt) (upd H2 d (.dK us)) m2 Z r σ:=λA=>⟨A.len,λi p w'=>let ⟨v,x1,x2⟩:=A.at_ i p w';⟨v,x1,f _ _ x2⟩⟩;cases fl with|nx r=>exact λσ A=>⟨d,o,_,e2,nf,q σ (ra A)⟩|bk r=>exact λσ A=>⟨d,o,_,e2,nf,q σ (ra A)⟩|ct r=>exact λσ A=>⟨d,o,_,e2,nf,q σ (ra A)⟩|rt p=>exact λv A=>⟨d,o,_,e2,nf,q v (f _ _ A)⟩
theorem aN.at_{κ:Type}{K:KB}{m:List Addr}:∀{kvs:List (κ×P)} {us:List (κ×V)} {i:Nat} {k:κ} {v:V},aN K H m Z kvs us->us[i]?=Δ (k,v)->∃p,kvs[i]?=Δ (k,p)/\ai K H m Z p v
 |[],us,i,k,v,h,e=>by cases (show us=[] from h);simp at e|(q,p)::kvs,us,i,k,v,h,e=>by obtain⟨v',vs,rfl,r,rs⟩:=(show ∃v vs,us=(q,v)::vs/\ai K H m Z p v/\aN K H m Z kvs vs from h);cases i with|zero=>simp at e;obtain⟨rfl,rfl⟩:=e;exact⟨p,rfl,r⟩|succ i=>simpa using aN.at_ rs (by simpa using e)
theorem Na(T:fO X kt g C){p p' p2 ap cp pos:Pos}(hi:g.N[i]?=Δ x)(hl:ig g x=Λ)(DH:g.N[j]?=Δ y)(vh:ig g y=Λ)(hc:isCall o=Ξ)(hln:(ap.endLine==cp.line)=Λ)(ho:PE X o (tE (af X kt) Z (aa C a)))(hb:mC X body (tS (af X kt) Z (aj C eb))):
  PS X (.For (.Tuple [.Name x p,.Name y p'] k p2) (.Call (.Attribute o "items" ap) [] [] cp) body [] pos) (tS (af X kt) Z (aQ C (.Bz i j a eb))):=by
 have nm:∀{z:Str} {a:Nat} {q:Pos},g.N[a]?=Δ z->ig g z=Λ->PG X (.Name z q) (nC a):=λ{z a q} h1 h2=>cH (i:=a) (by rw[T.N];exact T.nd) (by rw[T.N];exact h1) (T.vt h2) (T.HE h2);refine PS.imp (IJ (xk T.own T.calm (FX ho (uh hc) hln) (so (n:=2) T.calm (dQ (nm hi hl) (dQ (nm DH vh) nE))) hb (λ_=>rfl))) ?_;rintro D σ H ⟨m,r,st,ar,as,h⟩;rw[tF] at h;refine⟨m,r,st,ar,as,(Ok.bind h).mono λx0 st1 m1 H1 bC aW h1 v rv=>?_⟩;obtain⟨⟨n,kvs⟩,ek,h2,dR⟩:=Ok.of (Ok.bind h1) aW;clear dR h1;obtain⟨d,us,rfl,oM,hm,rfl,hu,rs⟩:=CN aW ek rv;dsimp only at h2 oM hm rs;refine⟨d,us,rfl,hu,λob nf=>?_⟩;obtain⟨lel,asl⟩:=aW.write (ho:=.dt ob (.dK us)) (o':=.vm) oM hm (λH' e _ f=>⟨ob,us,e⟩);have rsl:aN (af X kt) (upd H1 d (.dt ob (.dK us))) m1 Z kvs us:=rs.mono λp v z=>z.le lel;cases hr:mQ i j (aj C eb) kvs r (st1.set n .vm) with
 |ex z s=>rw[hr] at h2;exact(show False from h2).elim|no=>rw[hr] at h2;exact(show False from h2).elim|ok f0 jK=>
  rw[hr,ae] at h2;have Vv:∀m2 H2,Le (af X kt) m1 (upd H1 d (.dt ob (.dK us))) m2 H2->ax (af X kt) H2 m2 Z jK->qz (af X kt) Z (wa X D) f0 jK m2 H2:=λm2 H2 fb eE=>qz.DL hu hm rs nf fb eE h2;have Vw:Ok (af X kt) Z (mQ i j (aj C eb) kvs r (st1.set n .vm)) m1 (upd H1 d (.dt ob (.dK us))) (qz (af X kt) Z (wa X D)):=by rw[hr];exact λm2 H2 fb eE=>Vv m2 H2 fb eE
  refine⟨λq l σ H=>l=kvs.length - q/\q<=kvs.length/\∃m r st,Le (af X kt) m1 (upd H1 d (.dt ob (.dK us))) m H/\cq (af X kt) H m Z r σ/\ax (af X kt) H m Z st/\Ok (af X kt) Z (mQ i j (aj C eb) (kvs.drop q) r st) m H (qz (af X kt) Z (wa X D)),⟨kvs.length,by simp,XZ _,m1,r,_,Le.refl,(ar.le bC).le lel,asl,by rw[ZM];exact Vw⟩,?_⟩;rintro q l σ H ⟨rfl,hq,m,r,st,le,ar,as,h⟩;have hd:H d=Δ (.dt ob (.dK us)):=le.dt _ _ _ aD;have hlen:us.length=kvs.length:=rs.length.symm▸rfl;by_cases eB:q < kvs.length
  ·have dR:kvs.drop q=kvs[q]::kvs.drop (q+1):=Yg eB;rw[dR,wC] at h;refine .inr ⟨⟨hd,by lia⟩,λcT H'=>∃m r st,Le (af X kt) m1 (upd H1 d (.dt ob (.dK us))) m H'/\cq (af X kt) H' m Z r cT/\ax (af X kt) H' m Z st/\Ok (af X kt) Z (mQ i j (aj C eb) (kvs.drop (q+1)) r st) m H' (qz (af X kt) Z (wa X D)),λcT H' z=>⟨kvs.length - (q+1),Zf _ _ eB,rfl,eB,z⟩,λw' H' hy=>?_⟩;obtain⟨t,kk,vv,qr,ht,rfl,rfl⟩:=hy;obtain⟨pp,hpp,rp⟩:=rsl.at_ qr;have epp:kvs[q]=(kk,pp):=by have:=WI eB;rw[hpp] at this;exact(Xj this).symm
   rw[epp] at h;have BU:Le (af X kt) m H m (upd H t (.tup [kV kk,vv])):=Le.same (be ht _);have bV:=as.same (be ht (.tup [kV kk,vv]));have le':=le.trans BU;refine⟨t,[kV kk,vv],rfl,fK.of aD,rfl,kV kk,[vv],rfl,vv,[],rfl,rfl,?_⟩;have rk:ai (af X kt) (upd H t (.tup [kV kk,vv])) m Z (xM kk) (kV kk):=by cases kk<;>rfl
   refine⟨m,_,st,((ar.le BU).set rk).set (rp.le le'),bV,(Ok.bind (Ok.le h BU)).mono λf st2 m2 H2 fb eE h3=>?_⟩;exact zM (k:=λr2 st2=>mQ i j (aj C eb) (kvs.drop (q+1)) r2 st2) eE h3 λr2 N5 HD z=>⟨m2,r2,st2,le'.trans fb,HD,eE,z⟩
  ·have e:q=kvs.length:=by lia
   subst e;rw[abi,Gi] at h;exact .inl ⟨⟨hd,by lia⟩,Ok.here h as σ ar⟩
theorem Nb(T:fO X kt g C){p p' p2 pe cp pos:Pos}(hi:g.N[i]?=Δ x)(hl:ig g x=Λ)(DH:g.N[j]?=Δ y)(vh:ig g y=Λ)(hg:g.gl "enumerate"=Λ)(hs:notStar o=Λ)(ho:PE X o (tE (af X kt) Z (aa C a)))(hb:mC X body (tS (af X kt) Z (aj C eb))):
  PS X (.For (.Tuple [.Name x p,.Name y p'] k p2) (.Call (.Name "enumerate" pe) [o] [] cp) body [] pos) (tS (af X kt) Z (aQ C (.jd i j a eb))):=by
 have nm:∀{z:Str} {a:Nat} {q:Pos},g.N[a]?=Δ z->ig g z=Λ->PG X (.Name z q) (nC a):=λ{z a q} h1 h2=>cH (i:=a) (by rw[T.N];exact T.nd) (by rw[T.N];exact h1) (T.vt h2) (T.HE h2);refine PS.imp (xk T.own T.calm (FU (T.toGood.glob hg) (T.bl _ (by decide+kernel)) (kQ ho uf hs) (bj hs)) (so (n:=2) T.calm (dQ (nm hi hl) (dQ (nm DH vh) nE))) hb (λ_=>rfl)) ?_;rintro D σ H ⟨m,r,st,ar,as,h⟩;rw[tG] at h;refine⟨m,r,st,ar,as,?_⟩;show Ok (af X kt) Z (aA C [a] r st) m H _;simp only[aq,aB];cases hr:aa C a r st with
 |ex x s=>rw[hr] at h;exact h|no=>rw[hr] at h;exact h|ok y0 st1=>
  rw[hr] at h;simp only[ae] at h ⊢;intro m1 H1 bC aW vs gY;obtain⟨v,pH,rfl,rv,e⟩:=(show ∃v pH,vs=v::pH/\ai (af X kt) H1 m1 Z y0 v/\pH=[] from gY);subst e;have h1:=Ok.le h bC;split at h1
  ·rename_i n;obtain⟨a,ha,rfl⟩:=rv;have QJ:∃us,H1 a=Δ (.lst us):=by have h2:Ok (af X kt) Z (jd n i j (aj C eb) (999999+1) 0 r st1) m1 H1 (qz (af X kt) Z D):=h1;rw[pB] at h2;cases ho:wd n st1 0 with|none=>rw[ho] at h2;exact(show False from h2).elim|some o=>obtain⟨us,hu,_⟩:=pI aW ha ho;exact⟨us,hu⟩
   obtain⟨QK,QL⟩:=QJ;refine⟨a,rfl,⟨QK,.inl (.inl QL)⟩,?_⟩;refine⟨λq k σ H=>∃m r st,Le (af X kt) m1 H1 m H/\cq (af X kt) H m Z r σ/\ax (af X kt) H m Z st/\Ok (af X kt) Z (jd n i j (aj C eb) k q r st) m H (qz (af X kt) Z D),⟨dP,m1,r,st1,Le.refl,ar.le bC,aW,h1⟩,?_⟩;rintro q k σ H ⟨m,r,st,le,ar,as,h⟩;have QM:m[n]?=Δ a:=by obtain⟨t,et⟩:=le.pre;rw[et,WK (qqz ha).1];exact ha
   cases k with|zero=>exact(show False from h).elim|succ k=>rw[pB] at h;cases ho:wd n st q with|none=>rw[ho] at h;exact(show False from h).elim|some o=>rw[ho] at h;obtain⟨us,hu,q0,q1⟩:=pI as QM ho;cases o with|none=>exact .inl ⟨⟨us,.inl (.inl hu),q0 rfl⟩,Ok.here (show Ok (af X kt) Z (R.ok (Fl.nx r) st) m H (qz (af X kt) Z D) from h) as σ ar⟩|some pq=>obtain⟨vx,KL,rx⟩:=q1 pq rfl;refine .inr ⟨⟨us,vx,.inl (.inl hu),KL⟩,λcT H'=>∃m r st,Le (af X kt) m1 H1 m H'/\cq (af X kt) H' m Z r cT/\ax (af X kt) H' m Z st/\Ok (af X kt) Z (jd n i j (aj C eb) k (q+1) r st) m H' (qz (af X kt) Z D),λcT H' z=>⟨k,Yq k,z⟩,λw' H' hy=>?_⟩;obtain⟨t,vv,ht,rfl,rfl,hx⟩:=hy;have yt:=hx us (.inl (.inl hu));rw[KL] at yt;cases yt;have BU:Le (af X kt) m H m (upd H t (.tup [.int q,vx])):=Le.same (be ht _);have bV:=as.same (be ht (.tup [.int q,vx]));have h2:Ok (af X kt) Z ((aj C eb ((r.set i (Δ (.d (.int q)))).set j (Δ pq)) st).bind _) m H (qz (af X kt) Z D):=h;refine⟨t,[.int q,vx],rfl,fK.of aD,rfl,.int q,[vx],rfl,vx,[],rfl,rfl,?_⟩;refine⟨m,_,st,((ar.le BU).set (p:=.d (.int q)) (v:=.int q) rfl).set (rx.le BU),bV,(Ok.bind (Ok.le h2 BU)).mono λf st2 m2 H2 fb eE h3=>?_⟩;exact zM (k:=λr2 st2=>jd n i j (aj C eb) k (q+1) r2 st2) eE h3 λr2 N5 HD z=>⟨m2,r2,st2,(le.trans BU).trans fb,HD,eE,z⟩
  ·exact(show False from h1).elim
theorem GK(h1:QQ g (.two i j) tg=Λ):∃x y p p' k p2,tg=.Tuple [.Name x p,.Name y p'] k p2/\g.N[i]?=Δ x/\ig g x=Λ/\g.N[j]?=Δ y/\ig g y=Λ:=by refine jo h1 λ_ _ _ h1=>?_;refine aE h1 λ_ _ h1=>?_;refine aF h1 λ_ _ h1=>?_;refine aE h1 λ_ _ h1=>?_;refine aF h1 λ_ _ h1=>?_;simp only[WC,qqq,WS] at h1;obtain⟨⟨⟨⟨rfl,h6⟩,h7⟩,h8⟩,h9⟩:=h1;exact⟨_,_,_,_,_,_,rfl,h6,h7,h8,h9⟩
variable(C) in
def SSt(s:S):Prop:=∀(kt:KT) (X:Cx) (g:G) (x:Stmt) (Z:List Addr),fO X kt g C->okS g s x=Λ->PS X x (tS (af X kt) Z (aQ C s))
variable(C) in
def Vx(s:List S):Prop:=∀(kt:KT) (X:Cx) (g:G) (x:List Stmt) (Z:List Addr),fO X kt g C->uk g s x=Λ->mC X x (tS (af X kt) Z (aj C s))
mutual
theorem Nc:∀s:S,SSt C s
 |.ret e=>λkt X g x Z T h=>by refine qD h λ_ _ h=>?_;refine tY h λ_ h=>?_;exact QR (aH e kt X g _ Z T.toGood h).1|.DQ=>λkt X g x Z T h=>by refine qD h λ_ _ h=>?_;rw[YA] at h;subst h;exact M0|.set i e=>λkt X g x Z T h=>by refine kO h λ_ _ _ h=>?_;refine aE h λ_ _ h=>?_;refine aF h λ_ _ h=>?_;simp only[WC,qqq,Xe,WS] at h;obtain⟨⟨⟨⟨rfl,h1⟩,h2⟩,h3⟩,h4⟩:=h;exact GI T h1 h2 h4 h3|.ifs c a b=>λkt X g x Z T h=>by refine IX h λ_ _ _ _ h=>?_;simp only[WC] at h;exact Vu (aH c kt X g _ Z T.toGood h.1.1).2 (dH a kt X g _ Z T h.1.2) (dH b kt X g _ Z T h.2)|.g8 t w b=>λkt X g x Z T h=>by
  refine n8 h λ_ _ _ _ _ h=>?_;simp only[WC,Xe,WS] at h;obtain⟨⟨⟨⟨⟨rfl,h1⟩,h2⟩,h3⟩,h4⟩,h5⟩:=h;cases t with
  |tup is=>cases h1|nm i=>refine aF h1 λ_ _ h1=>?_;·simp only[WC,qqq] at h1;exact QW T h1.1 h1.2 h4 (pL w kt X g _ _ Z T.toGood h2 λz=>by rw[z] at h5;simp[GG] at h5) (dH b kt X g _ Z T h3)
  |two i j=>refine jo h1 λ_ _ _ h1=>?_;refine aE h1 λ_ _ h1=>?_;refine aF h1 λ_ _ h1=>?_;refine aE h1 λ_ _ h1=>?_;refine aF h1 λ_ _ h1=>?_;simp only[WC,qqq,WS] at h1;obtain⟨⟨⟨⟨rfl,h6⟩,h7⟩,h8⟩,h9⟩:=h1;exact M7 T h6 h7 h8 h9 h4 (pL w kt X g _ _ Z T.toGood h2 λ_=>⟨_,_,_,rfl⟩) (dH b kt X g _ Z T h3)
 |.iE t e b=>λkt X g x Z T h=>by refine n8 h λ_ _ _ _ _ h=>?_;simp only[WC,Xe,WS] at h;obtain⟨⟨⟨⟨⟨rfl,h1⟩,h2⟩,h3⟩,h4⟩,h5⟩:=h;cases t with|tup is=>cases h1|two i j=>cases h5|nm i=>refine aF h1 λ_ _ h1=>?_;·simp only[WC,qqq] at h1;exact M8 T h1.1 h1.2 h4 (aH e kt X g _ Z T.toGood h2).1 (dH b kt X g _ Z T h3)
 |.Bz i j a b=>λkt X g x Z T h=>by refine n8 h λ_ _ _ _ _ h=>?_;refine aS h λ_ _ _ _ h=>?_;refine bZ h λ_ _ _ h=>?_;simp only[WC,qqq,Xe,WS] at h;obtain⟨⟨⟨⟨⟨⟨⟨⟨rfl,rfl⟩,rfl⟩,h1⟩,rfl⟩,h2⟩,h3⟩,h4⟩,h5⟩:=h;obtain⟨x,y,p,p',k,p2,rfl,h6,h7,h8,h9⟩:=GK h1;exact Na T h6 h7 h8 h9 h2 h3 (aH a kt X g _ Z T.toGood h4).1 (dH b kt X g _ Z T h5)|.jd i j a b=>λkt X g x Z T h=>by refine n8 h λ_ _ _ _ _ h=>?_;refine aS h λ_ _ _ _ h=>?_;refine aF h λ_ _ h=>?_;refine aE h λ_ _ h=>?_;simp only[WC,qqq,Xe,WS] at h;obtain⟨⟨⟨⟨⟨⟨⟨⟨rfl,rfl⟩,rfl⟩,h1⟩,rfl⟩,h2⟩,h3⟩,h4⟩,h5⟩:=h;obtain⟨x,y,p,p',k,p2,rfl,h6,h7,h8,h9⟩:=GK h1;exact Nb T h6 h7 h8 h9 h2 h3 (aH a kt X g _ Z T.toGood h4).1 (dH b kt X g _ Z T h5)|.kE c b=>λkt X g x Z T h=>by refine BL h λ_ _ _ _ h=>?_;simp only[WC,WS] at h;obtain⟨⟨rfl,h1⟩,h2⟩:=h;exact JC T (aH c kt X g _ Z T.toGood h1).2 (dH b kt X g _ Z T h2)|.expr e=>λkt X g x Z T h=>by refine wK h λ_ _ h=>?_;simp only[WC,Xe] at h;exact M3 h.2 (aH e kt X g _ Z T.toGood h.1).1|.app a e=>λkt X g x Z T h=>by refine wK h λ_ _ h=>?_;refine aS h λ_ _ _ _ h=>?_;refine bZ h λ_ _ _ h=>?_;refine aE h λ_ _ h=>?_;simp only[WC,qqq,Xe,WS] at h;obtain⟨⟨⟨⟨⟨⟨⟨rfl,rfl⟩,h0⟩,rfl⟩,h1⟩,h2⟩,h3⟩,h4⟩:=h;exact QT h0 h1 (aH a kt X g _ Z T.toGood h2).1 (aH e kt X g _ Z T.toGood h3).1 h4|.put a i e=>λkt X g x Z T h=>by refine kO h λ_ _ _ h=>?_;refine aE h λ_ _ h=>?_;refine mw h λ_ _ _ h=>?_;simp only[WC,Xe,WS] at h;obtain⟨⟨⟨⟨rfl,h1⟩,h2⟩,h3⟩,h4⟩:=h;exact QV T.toGood h4 (aH a kt X g _ Z T.toGood h1).1 (aH i kt X g _ Z T.toGood h2).1 (aH e kt X g _ Z T.toGood h3).1|.nP i k=>λkt X g x Z T h=>by refine pE h λ_ _ _ _ _ _ _ _ _ _ h=>?_;simp only[WC,qqq,WS,YA] at h;obtain⟨⟨⟨⟨⟨rfl,rfl⟩,rfl⟩,rfl⟩,rfl⟩,h6⟩:=h;exact T.nP i k _ _ _ _ _ h6 Z|.lZ c f i e=>λkt X g s Z T h=>by refine kO h λ_ _ _ h=>?_;refine aE h λ_ _ h=>?_;refine bZ h λ_ _ _ h=>?_;refine aF h λ_ _ h=>?_;simp only[WC,qqq,WS] at h;obtain⟨⟨⟨⟨⟨⟨rfl,rfl⟩,h1⟩,h2⟩,h3⟩,h4⟩,h5⟩:=h;exact M5 T.toGood h1 h2 h3 h4 (aH e kt X g _ Z T.toGood h5).1
theorem dH:∀s:List S,Vx C s
 |[]=>λkt X g x Z T h=>by have:x=[]:=WS.mp h;rw[this];exact M6|s::ss=>λkt X g x Z T h=>by refine aE h λ_ _ h=>?_;simp only[WC] at h;exact JB (Nc s kt X g _ Z T h.1) (dH ss kt X g _ Z T h.2)
end
end
section
variable{K:KB}{H H':Hp}{m m1 m2 Z Z1 Z2:List Addr}
mutual
theorem aI.weak(hw:∀a,a∉m1->a∉Z1->a∉m2/\a∉Z2):∀{x:D} {v:V},aI K H m1 Z1 x v->aI K H m2 Z2 x v
 |.bz,_,h=>h|.bl _,_,h=>h|.int _,_,h=>h|.str _,_,h=>h|.tup xs,v,h=>by obtain⟨a,us,e,q,r⟩:=(show ∃a us,v=.ref a/\H a=Δ (.tup us)/\ak K H m1 Z1 xs us from h);exact⟨a,us,e,q,ak.weak hw r⟩
 |.pl xs,v,h=>by obtain⟨a,us,e,q,hm,hz,r⟩:=(show ∃a us,v=.ref a/\Rd H a (.lst us)/\a∉m1/\a∉Z1/\ak K H m1 Z1 xs us from h);exact⟨a,us,e,q,(hw a hm hz).1,(hw a hm hz).2,ak.weak hw r⟩
theorem ak.weak(hw:∀a,a∉m1->a∉Z1->a∉m2/\a∉Z2):∀{xs:List D} {us:List V},ak K H m1 Z1 xs us->ak K H m2 Z2 xs us
 |[],_,h=>h|x::xs,us,h=>by obtain⟨v,vs,e,r,rs⟩:=(show ∃v vs,us=v::vs/\aI K H m1 Z1 x v/\ak K H m1 Z1 xs vs from h);exact⟨v,vs,e,aI.weak hw r,ak.weak hw rs⟩
end
mutual
theorem aI.nX:∀{x:D} {v:V},Y.nX x=Λ->aI K H m1 Z1 x v->aI K H m2 Z2 x v
 |.bz,_,_,h=>h|.bl _,_,_,h=>h|.int _,_,_,h=>h|.str _,_,_,h=>h|.tup xs,v,n,h=>by obtain⟨a,us,e,q,r⟩:=(show ∃a us,v=.ref a/\H a=Δ (.tup us)/\ak K H m1 Z1 xs us from h);exact⟨a,us,e,q,ak.nX (by simpa[Y.nX] using n) r⟩
 |.pl xs,v,n,h=>by simp[Y.nX] at n
theorem ak.nX:∀{xs:List D} {us:List V},Cw xs=Λ->ak K H m1 Z1 xs us->ak K H m2 Z2 xs us
 |[],_,_,h=>h|x::xs,us,n,h=>by obtain⟨v,vs,e,r,rs⟩:=(show ∃v vs,us=v::vs/\aI K H m1 Z1 x v/\ak K H m1 Z1 xs vs from h);simp only[Cw,WC] at n;exact⟨v,vs,e,aI.nX n.1 r,ak.nX n.2 rs⟩
end
mutual
theorem ai.weak(hw:∀a,a∉m1->a∉Z1->a∉m2/\a∉Z2):∀{x:P} {v:V},cn x=Λ->ai K H m1 Z1 x v->ai K H m2 Z2 x v
 |.d _,_,_,h=>by rw[ai] at h ⊢;exact aI.weak hw h|.obj _,_,n,_=>by simp[cn] at n|.gW _,_,n,_=>by simp[cn] at n|.fn k br,v,n,h=>by rw[ai] at h ⊢;obtain⟨a,c,bT,e,q,hc,r⟩:=h;exact⟨a,c,bT,e,q,hc,ah.weak hw (by simpa[cn] using n) r⟩
 |.lf k,_,n,_=>by simp[cn] at n
theorem ah.weak(hw:∀a,a∉m1->a∉Z1->a∉m2/\a∉Z2):∀{xs:List P} {us:List V},cw xs=Λ->ah K H m1 Z1 xs us->ah K H m2 Z2 xs us
 |[],_,_,h=>h|x::xs,us,n,h=>by rw[ah] at h ⊢;obtain⟨v,vs,e,r,rs⟩:=h;simp only[cw,WC] at n;exact⟨v,vs,e,ai.weak hw n.1 r,ah.weak hw n.2 rs⟩
end
theorem Vy{st:aL}(as:ax K H m Z st)(r:ai K H m Z p v)(e:xJ st p=Δ q):ai K H [] [] q v/\(isObj p=Ξ->ai K H [] (Z++m) q v):=by
 have hw:∀a,a∉m->a∉Z->a∉([]:List Addr)/\a∉Z++m:=λa h1 h2=>⟨by simp,λz=>by
  rcases Z5.mp z with z|z;·exact h2 z
  ·exact h1 z⟩
 cases p with
 |gW ns=>cases e;rw[ai] at r;exact⟨by rw[ai];exact r,λ_=>by rw[ai];exact r⟩|d x=>cases e;rw[ai] at r;exact⟨by rw[ai];exact aI.bare r,λ_=>by rw[ai];exact aI.weak hw r⟩|obj n=>obtain⟨x,e1,rfl⟩:=fI (show(l7 st (.obj n)).map P.d=Δ q from e);exact⟨by rw[ai];exact kP as e1 r,λz=>nomatch z⟩|fn k br=>
  have e':(if cw br=Λ then Δ (P.fn k br) else Θ)=Δ q:=e;split at e'
  ·rename_i hp;cases e';have Fp:cn (.fn k br)=Λ:=by simpa[cn] using hp
   exact⟨ai.weak (m1:=m) (Z1:=Z) (λ_ _ _=>⟨by simp,by simp⟩) Fp r,λ_=>ai.weak hw Fp r⟩
  ·cases e'
 |lf k=>cases e
theorem zN{st:aL}(as:ax K H m Z st):∀{ps qs} {vs},ah K H m Z ps vs->gI st ps=Δ qs->ah K H [] [] qs vs/\(ps.any isObj=Ξ->ah K H [] (Z++m) qs vs)
 |[],qs,vs,r,e=>by cases e;exact⟨r,λ_=>r⟩|p::ps,qs,vs,r,e=>by rw[ah] at r;obtain⟨v,w',rfl,r1,r2⟩:=r;obtain⟨q,e1,e⟩:=b7 (show((xJ st p).bind λx=>(gI st ps).map λxs=>x::xs)=Δ qs from e);obtain⟨q2,e2,rfl⟩:=fI e;obtain⟨i1,i2⟩:=Vy as r1 e1;obtain⟨j1,j2⟩:=zN as r2 e2;refine⟨by rw[ah];exact⟨v,w',rfl,i1,j1⟩,λh=>?_⟩;rw[Y0,Bool.or_eq_false_iff] at h;rw[ah];exact⟨v,w',rfl,i2 h.1,j2 h.2⟩
theorem wU(r:ah K H m Z qs vs):cq K H m Z (aC N.length qs) (L2.start N vs):=by
 have hl:=r.length;refine⟨by unfold aC L2.start;simp[hl],λi p h=>?_⟩;unfold aC at h;unfold L2.start;by_cases hi:i < qs.length
 ·rw[WK (by simpa using hi),WL] at h;cases e:qs[i]? with
  |none=>rw[e] at h;cases h|some q=>
   rw[e] at h;have h':q=p:=by simpa using h
   subst h';obtain⟨v,e1,r1⟩:=r.get e;exact⟨v,by rw[WK (by rw[WJ,hl];exact hi),WL,e1];rfl,r1⟩
 ·rw[W5 (by simpa using hi),Zu] at h;split at h<;>cases h
theorem ax.Vz{st:aL}(A:ax K H m Z st)(h:a∈m):gy H a≠Θ:=by
 obtain⟨n,hn,e⟩:=List.mem_iff_getElem.mp h;have EN:n < st.length:=by rw[<-A.len];exact hn
 obtain⟨a',e',r⟩:=A.at_ n st[n] (WI EN);rw[WI hn,e] at e';cases e';cases q:H a with|none=>exact absurd q r.qL.1|some u=>rw[bq q λφ z=>r.qL.2.2.2.1 φ (by rw[q,z])];exact λz=>nomatch z
theorem lN(hz:∀a∈Z,gy H a≠Θ)(ht:∀t∈K.tabs,∃ps,H t.1=Δ (.fE ps)/\fN H t.2 ps):ax K H [] Z []:=⟨rfl,by simp,λn o h=>by simp at h,hz,λa _=>by simp,ht⟩
theorem Le.outer(le:Le K [] H m' H'):Le K m H m H':=⟨⟨[],by simp⟩,le.tup,λa u h _=>le.keep a u h (by simp),λa h=>.inl h,le.qL,le.Cy,le.dt,le.ext,le.fE⟩
theorem ax.outer{st:aL}(as:ax K H m Z st)(le:Le K [] H m' H')(ht:∀t∈K.tabs,∃ps,H' t.1=Δ (.fE ps)/\fN H' t.2 ps):ax K H' m Z st:=by
 refine⟨as.len,as.nd,λn o h=>?_,λa h=>le.Cy a (as.zt a h),as.zm,ht⟩;obtain⟨a,q,r⟩:=as.at_ n o h;exact⟨a,q,r.mono (λb u hb hu=>le.keep b u hu (by simp) (λps z=>by
  rcases hb with w1|w1;·subst w1;rw[z] at hu;exact r.qL.2.2.2.2.1 ps hu
  ·rw[w1] at hu;cases hu;cases z)) λp v z=>z.le le.outer⟩
end
structure Info where
 name:Str
 st:Stmt
 N:List Str
 ps:List Str
 F:Fn
section
variable{P:Xy}{w:World}{K:WO}{mg:Str->Option Value}{base:Heap}{is:List Info}{cs:List (Str×Int)}{ts:List (Str×List (Str×Int))}{a:Nat->Addr}{fd:Nat->YD}
end
structure CI where
 lam:Bool
 qual:Str
 N:List Str
 ps:List Str
 fr:List Str
 F:Fn
structure KI where
 name:Str
 qW:List Str
 GL:List (Str×Nat)
structure TX where
 is:List (Info×List (Nat×Pos))
 VA:List CI
 cs:List (Str×Int)
 ts:List (Str×List (Str×Int))
 nf:Nat
 ks:List KI
def TX.Fs(S:TX):List Fn:=S.is.map (·.1.F)++S.VA.map (·.F)
noncomputable def TX.ci(S:TX)(k:Nat):Option CI:=if k < S.is.length then Θ else S.VA[k - S.is.length]?
def TX.fns(S:TX):List (Str×Nat):=(S.is.take S.nf).map λj=>(j.1.name,j.1.F.np)
theorem TX.GN{S:TX}(h:S.fns[k]?=Δ (x,n)):k < S.nf/\∃i,S.is[k]?=Δ i/\(i.1.name,i.1.F.np)=(x,n):=by
 unfold TX.fns at h;rw[WL,List.getElem?_take] at h;split at h;·rename_i hk;refine⟨hk,?_⟩;cases ej:S.is[k]? with|none=>rw[ej] at h;cases h|some i2=>rw[ej] at h;exact⟨i2,rfl,by simpa using h⟩
 ·cases h
noncomputable def TX.np(S:TX)(k:Nat):Option Nat:=(S.is[k]?).map (·.1.F.np)
noncomputable def TX.yv(S:TX)(c f:Str):Bool:=S.ks.any λq=>decide (q.name=c)&&q.qW.any (λx=>decide (x=f))
def TX.AV(S:TX)(k:Nat)(c m:Str)(n:Nat):Bool:=S.ks.any λq=>decide (q.name=c)&&decide (q.GL.lookup m=Δ k)&&decide (S.np k=Δ (n+1))
def TX.AW(S:TX)(k:Nat)(c:Str)(n:Nat):Bool:=S.ks.any λq=>decide (q.name=c)&&decide (q.GL.lookup ("__init__":Str)=Δ k)&&decide (S.np k=Δ (n+1))
def lv:Nat->Nat
 |0=>0|n+1=>lv n+2
def TX.q(S:TX)(k:Nat):Str:=((S.ci k).map (·.qual)).getD ""
theorem TX.Nd{S:TX}{ci:CI}(h:S.ci k=Δ ci):S.Fs[k]?=Δ ci.F/\S.q k=ci.qual:=by
 unfold TX.ci at h;split at h;·cases h
 ·rename_i hk;refine⟨?_,by unfold TX.q TX.ci;rw[if_neg hk,h];rfl⟩;unfold TX.Fs;rw[W5 (by rw[WJ];lia),WJ,WL,h];rfl
theorem TX.VB{S:TX}{k:Nat}(h:S.is[k]?=Δ i):S.Fs[k]?=Δ i.1.F:=by unfold TX.Fs;rw[WK (by rw[WJ];exact(qqz h).1),WL,h];rfl
def BV(ci:CI)(sc:Scope):Bool:=
 decide (sc.kind=.function)&&!sc.isCoroutine&&!sc.isGenerator&&decide ci.N.Nodup&&decide (ci.N.take (ci.ps.length+ci.fr.length)=ci.ps++ci.fr)&&
 ci.ps.all (λx=>decide (sc.names.lookup x=Δ .local))&&ci.fr.all (λx=>decide (sc.names.lookup x=Δ .free))&&
 sc.names.all (λy=>decide (y.2≠.cell)&&(decide (y.2≠.free)||decide (y.1∈ci.fr)))&&
 decide (ci.F.np=ci.ps.length+ci.fr.length)&&decide (ci.F.nn=ci.N.length)&&!ci.F.sh
theorem oh(h:BV ci sc=Λ):kA ci.N ci.ps ci.fr sc/\ci.F.np=ci.ps.length+ci.fr.length/\ci.F.nn=ci.N.length/\ci.F.sh=Ξ:=by unfold BV at h;simp only[WC,qqq,Xe,Zv,YS] at h;obtain⟨⟨⟨⟨⟨⟨⟨⟨⟨⟨h1,h2⟩,h3⟩,h4⟩,h5⟩,h6⟩,h7⟩,h8⟩,h9⟩,h10⟩,h11⟩:=h;exact⟨⟨h1,h2,h3,h4,h5,h6,h7,λy hy=>(h8 y hy).1,λy hy hf=>(h8 y hy).2.resolve_left λz=>z hf⟩,h9,h10,h11⟩
def gC(S:TX)(ci:CI)(sc:Scope):G:={N:=ci.N,names:=sc.names,fns:=S.fns,hZ:=S.cs,tabs:=S.ts,yv:=S.yv,AV:=S.AV,AW:=S.AW}
noncomputable def JD:List S->Option E
 |s::r=>match s with
  |.ret e=>match r with|[]=>Δ e|_::_=>Θ
  |_=>Θ
 |[]=>Θ
theorem JE(h:JD b=Δ e):b=[.ret e]:=by
 unfold JD at h;split at h
 ·split at h
  ·split at h;·cases h;rfl
   ·cases h
  ·cases h
 ·cases h
def pM(S:TX)(ci:CI)(pa:Zd)(bo:Expr)(sc:Scope):Bool:=ci.lam&&eK pa ci.ps&&BV ci sc&&(match JD ci.F.body with|some e=>gj (gC S ci sc) e bo|none=>Ξ)
def pN(S:TX)(ci:CI)(pa:Zd)(bo:List Stmt)(sc:Scope):Bool:=!ci.lam&&eK pa ci.ps&&BV ci sc&&uk (gC S ci sc) ci.F.body bo
def GO(S:TX)(ci:CI)(o:Obj)(sc:Scope)(cl:List (Str×Addr))(c:Addr):Prop:=
 (∃pa bo pm ct,o=PySem.W.kla_obj "<lambda>" ci.qual pa bo sc cl pm c ct/\pM S ci pa bo sc=Λ)\/
 (∃nm pa bo doc pm ct,o=PySem.W.fnMade nm ci.qual pa bo sc cl doc pm c ct/\pN S ci pa bo sc=Λ)
def oi(S:TX)(B:Heap)(k:Nat)(a c:Addr)(bT:List V):Prop:=∃ci o sc cl,S.ci k=Δ ci/\B.get? a=Δ o/\GO S ci o sc cl c/\Hz B cl ci.fr bT
abbrev mX(S:TX)(K:WO)(base:Heap)(tabs:List (Addr×List (Pos×Str))):KB:=⟨K,base,tabs,oi S base,λ_ _ _ _ _=>False,S.q⟩
abbrev SK(S:TX)(base:Heap)(tabs:List (Addr×List (Pos×Str))):KT:={tabs:=tabs,qy:=oi S base,HC:=λ_ _ _ _ _=>False,zp:=S.q}
section
variable{K1 K2:KB}{H:Hp}{m Z:List Addr}
mutual
theorem aI.kb:∀{x:D} {v:V},aI K1 H m Z x v->aI K2 H m Z x v
 |.bz,_,h=>h|.bl _,_,h=>h|.int _,_,h=>h|.str _,_,h=>h|.tup xs,v,h=>by obtain⟨a,us,e,q,r⟩:=(show ∃a us,v=.ref a/\H a=Δ (.tup us)/\ak K1 H m Z xs us from h);exact⟨a,us,e,q,ak.kb r⟩
 |.pl xs,v,h=>by obtain⟨a,us,e,q,hm,hz,r⟩:=(show ∃a us,v=.ref a/\Rd H a (.lst us)/\a∉m/\a∉Z/\ak K1 H m Z xs us from h);exact⟨a,us,e,q,hm,hz,ak.kb r⟩
theorem ak.kb:∀{xs:List D} {us:List V},ak K1 H m Z xs us->ak K2 H m Z xs us
 |[],_,h=>h|x::xs,us,h=>by obtain⟨v,vs,e,r,rs⟩:=(show ∃v vs,us=v::vs/\aI K1 H m Z x v/\ak K1 H m Z xs vs from h);exact⟨v,vs,e,aI.kb r,ak.kb rs⟩
end
mutual
theorem ai.kb(hk:K1.K=K2.K)(hq:K1.zp=K2.zp)(hc:∀k a c bT,K1.qy k a c bT->K2.qy k a c bT):∀{x:P} {v:V},cn x=Λ->ai K1 H m Z x v->ai K2 H m Z x v
 |.d _,_,_,h=>by rw[ai] at h ⊢;exact aI.kb h|.obj _,_,n,_=>by simp[cn] at n|.gW _,_,n,_=>by simp[cn] at n|.fn k br,v,n,h=>by rw[ai] at h ⊢;obtain⟨a,c,bT,e,q,hx,r⟩:=h;exact⟨a,c,bT,e,hc _ _ _ _ q,by rw[<-hq];exact hx,ah.kb hk hq hc (by simpa[cn] using n) r⟩
 |.lf k,_,n,_=>by simp[cn] at n
theorem ah.kb(hk:K1.K=K2.K)(hq:K1.zp=K2.zp)(hc:∀k a c bT,K1.qy k a c bT->K2.qy k a c bT):∀{xs:List P} {us:List V},cw xs=Λ->ah K1 H m Z xs us->ah K2 H m Z xs us
 |[],_,_,h=>h|x::xs,us,n,h=>by rw[ah] at h ⊢;obtain⟨v,vs,e,r,rs⟩:=h;simp only[cw,WC] at n;exact⟨v,vs,e,ai.kb hk hq hc n.1 r,ah.kb hk hq hc n.2 rs⟩
end
def JF:P->Bool
 |.gW _=>Λ|p=>cn p
theorem Nf{st:aL}(h:xJ st p=Δ q):JF q=Λ:=by
 cases p with
 |gW ns=>cases h;rfl|d x=>cases h;rfl|obj n=>obtain⟨x,e1,rfl⟩:=fI (show(l7 st (.obj n)).map P.d=Δ q from h);rfl
 |fn k br=>
  have e':(if cw br=Λ then Δ (P.fn k br) else Θ)=Δ q:=h;split at e';·rename_i hp;cases e';simpa[JF,cn] using hp
  ·cases e'
 |lf k=>cases h
theorem CT{st:aL}:∀{ps qs},gI st ps=Δ qs->∀q∈qs,JF q=Λ
 |[],qs,h=>by cases h;exact λq z=>by cases z|p::ps,qs,h=>by
  obtain⟨q,e1,e⟩:=b7 (show((xJ st p).bind λx=>(gI st ps).map λxs=>x::xs)=Δ qs from h);obtain⟨q2,e2,rfl⟩:=fI e;intro x hx;rcases Z3.mp hx with z|z;·rw[z];exact Nf e1
  ·exact CT e2 x z
theorem ah.kbA(hk:K1.K=K2.K)(hq:K1.zp=K2.zp)(hc:∀k a c bT,K1.qy k a c bT->K2.qy k a c bT):∀{xs} {us},(∀q∈xs,JF q=Λ)->ah K1 H m Z xs us->ah K2 H m Z xs us
 |[],_,_,h=>h|x::xs,us,n,h=>by rw[ah] at h ⊢;obtain⟨v,vs,e,r,rs⟩:=h;refine⟨v,vs,e,?_,ah.kbA hk hq hc (λq hq=>n q (WE _ hq)) rs⟩;have hx:=n x WG;cases x with|gW ns=>rw[ai] at r ⊢;rw[<-hk];exact r|d y=>exact ai.kb hk hq hc rfl r|obj y=>cases hx|fn k c=>exact ai.kb hk hq hc hx r|lf k=>cases hx
end
theorem pO(QX:F.nn=N.length){st:aL}(rq:ah kb H m Z qs vs)(as:ax kb H m Z st)(hk:kb.K=X.K)(hq:kb.zp=kt.zp)(hc:∀k a c bT,kb.qy k a c bT->kt.qy k a c bT)(ht:kb.tabs=kt.tabs)(ea:gI st qs=Δ q2)(er:vo C F q2=Δ d)(aK:Ok kb Z (tM qs d st) m H (λp _ m' H'=>∀v,ai kb H' m' Z p v->Q v H')):
  ∃Z0,tS (af X kt) Z0 (aj C F.body) {nx:=λ_ H'=>Q .bz H',rt:=Q} (L2.start N vs) H:=by
 obtain⟨r1,r2⟩:=zN as rq ea;have hb:=CT ea;obtain⟨Z0,Sz,rs0,hw⟩:∃Z0:List Addr,(∀b∈Z0,gy H b≠Θ)/\ah kb H [] Z0 q2 vs/\((qs.any isObj=Ξ/\Z0=Z++m)\/qs.any isObj=Λ):=by
  cases ho:qs.any isObj with
  |false=>
   refine⟨Z++m,λb hb=>?_,r2 ho,.inl ⟨rfl,rfl⟩⟩;rcases Z5.mp hb with z|z;·exact as.zt b z
   ·exact as.Vz z
  |true=>exact⟨[],(λb hb=>by cases hb),r1,.inr rfl⟩
 have tab:∀t∈(af X kt).tabs,∃ps,H t.1=Δ (.fE ps)/\fN H t.2 ps:=λt h=>as.tab t (by rw[ht];exact h);refine⟨Z0,[],aC F.nn q2,[],by rw[QX];exact wU (ah.kbA hk hq hc hb rs0),lN Sz tab,?_⟩;unfold vo at er;split at er
 ·cases hx:aj C F.body (aC F.nn q2) [] with
  |ex x s=>rw[hx] at er;cases er|no=>rw[hx] at er;cases er|ok f aJ=>
   rw[hx] at er;intro m' H' le bV;have le0:Le kb [] H m' H':=⟨le.pre,le.tup,le.keep,le.new,le.qL,le.Cy,le.dt,le.ext,le.fE⟩;have fin:∀v,aI kb H' m Z d v->Q v H':=λv rv=>by
    unfold tM at aK;split at aK;·exact(show False from aK).elim
    ·exact aK m H' le0.outer (as.outer le0 (λt h=>bV.tab t (by show t∈kt.tabs;rw[<-ht];exact h))) v rv
   have VC:qs.any isObj=Λ->Y.nX d=Λ:=λz=>by
    unfold tM at aK;split at aK;·exact(show False from aK).elim
    ·rename_i hc;cases hp:Y.nX d with|true=>rfl|false=>rw[z,hp] at hc;exact absurd rfl hc
   cases f with
   |bk r=>cases er|ct r=>cases er|nx r=>cases er;exact λσ _=>fin .bz rfl
   |rt p=>
    have HF:l7 aJ p=Δ d:=er;intro v rv;apply fin;rcases hw with ⟨_,rfl⟩|ho
    ·have xo:∀b,b∉m'->b∉Z++m->b∉m/\b∉Z:=λb _ h=>⟨λz=>h (Xi _ z),λz=>h (XO _ z)⟩;cases p with
     |gW ns=>cases HF|fn k c=>cases HF|lf k=>cases HF|d x=>cases HF;exact aI.kb (aI.weak xo rv)|obj j=>
      obtain⟨b,e,rfl⟩:=rv;have h':(match aJ[j]? with|some (.lst xs)=>(bw xs).map D.pl|_=>Θ)=Δ d:=HF;split at h'
      ·rename_i xs hs;obtain⟨b',e',o⟩:=bV.at_ j _ hs;rw[e] at e';cases e';obtain⟨us,hu,rs⟩:=o;obtain⟨ys,hd,rfl⟩:=fI h';have hbn:H b=Θ:=by
        rcases le.new b (W6 e) with z|z;·cases z
        ·exact z
       exact⟨b,us,rfl,.inl hu,λz=>as.Qj z hbn,λz=>as.zt b z (jI hbn),ak.kb (ak.weak xo (rs.bw hd))⟩
      ·cases h'
    ·have np:=VC ho;cases p with
     |gW ns=>cases HF|fn k c=>cases HF|lf k=>cases HF|d x=>cases HF;exact aI.kb (aI.nX np rv)|obj j=>
      have h':(match aJ[j]? with|some (.lst xs)=>(bw xs).map D.pl|_=>Θ)=Δ d:=HF;split at h';·obtain⟨ys,hd,rfl⟩:=fI h';simp[Y.nX] at np
      ·cases h'
 ·cases er
theorem JG{K:KB}(h:tS K Z (aj C [.ret e]) {nx:=N0,rt:=Q} σ H):tE K Z (aa C e) σ H Q:=by obtain⟨m,r,st,ar,as,h⟩:=h;refine⟨m,r,st,ar,as,?_⟩;rw[iR,pd] at h;cases hx:aa C e r st with|ex x s=>rw[hx] at h;exact h|no=>rw[hx] at h;exact h|ok p aJ=>rw[hx] at h;exact λm' H' le bV=>h m' H' le bV
theorem wV{st:aL}:∀{ps qs},gI st ps=Δ qs->qs.length=ps.length
 |[],qs,h=>by cases h;rfl|p::ps,qs,h=>by obtain⟨q,e1,e⟩:=b7 (show((xJ st p).bind λx=>(gI st ps).map λxs=>x::xs)=Δ qs from h);obtain⟨q2,e2,rfl⟩:=fI e;rw[WZ,WZ,wV e2]
theorem lO{st:aL}(hF:Fs[k]?=Δ F)(hs:F.sh=Ξ)(h:Ok kb Z (callC Fs (n+1) k ps st) m H Q):
  ∃q2 d,gI st ps=Δ q2/\vo (callC Fs n) F q2=Δ d/\Ok kb Z (tM ps d st) m H Q/\ps.length=F.np:=by
 rw[hW,hF] at h;simp only[hs,Yb,if_false] at h;cases ea:gI st ps with
 |none=>rw[ea] at h;exact(show False from h).elim|some q2=>
  rw[ea] at h;simp only at h;cases er:vo (callC Fs n) F q2 with
  |none=>rw[er] at h;exact(show False from h).elim|some d=>
   rw[er] at h;refine⟨q2,d,rfl,er,h,?_⟩;unfold vo at er;split at er;·rename_i hl;rw[<-wV ea];exact hl
   ·cases er
def dq(S:TX)(i:Info×List (Nat×Pos)):List (Pos×Str):=i.2.map λp=>(p.2,S.q p.1)
def freeOk(names:List (Str×Zi))(sc:Scope):Bool:=sc.names.all λy=>decide (y.2≠.free)||decide (names.lookup y.1=Δ .cell)
def Ed(S:TX)(i:Info×List (Nat×Pos))(ls:List (Nat×List Nat)):Bool:=ls.all λp=>match S.ci p.1 with|some ci=>decide (p.2.map (λj=>i.1.N[j]?)=ci.fr.map Δ)&&ci.fr.all λx=>decide ((av i.1.st).names.lookup x=Δ .cell)|none=>Ξ
def GP(S:TX)(i:Info×List (Nat×Pos))(k:Nat)(pa:Zd)(bo:Expr)(sc:Scope)(pos:Pos):Bool:=match S.ci k with|some ci=>decide ((k,pos)∈i.2)&&pM S ci pa bo sc&&freeOk (av i.1.st).names sc&&decide (ci.qual=(i.1.name++".<locals>.")++"<lambda>")|none=>Ξ
def GQ(S:TX)(i:Info×List (Nat×Pos))(j k:Nat)(nm:Str)(pa:Zd)(bo:List Stmt)(sc:Scope)(pos:Pos):Bool:=match S.ci k with|some ci=>decide ((k,pos)∈i.2)&&pN S ci pa bo sc&&freeOk (av i.1.st).names sc&&decide (ci.qual=(i.1.name++".<locals>.")++nm)&&decide (i.1.N[j]?=Δ nm)&&(decide ((av i.1.st).names.lookup nm=Δ .local)||decide ((av i.1.st).names.lookup nm=Δ .cell))|none=>Ξ
def GR(S:TX)(i:Info×List (Nat×Pos)):G:=match i.2 with|[]=>{N:=i.1.N,names:=(av i.1.st).names,fns:=S.fns,hZ:=S.cs,tabs:=S.ts,yv:=S.yv,AV:=S.AV,AW:=S.AW}|_::_=>{N:=i.1.N,names:=(av i.1.st).names,fns:=[],hZ:=S.cs,tabs:=S.ts,Qm:=GP S i,Qn:=GQ S i,KE:=λf x n ls=>decide (S.fns[f]?=Δ (x,n))&&Ed S i ls,Qo:=λ_ _ _=>Ξ,cv:=Ξ}
def gp(S:TX)(i:Info×List (Nat×Pos)):Bool:=uk (GR S i) i.1.F.body (lE i.1.st)&&decide (i.1.F.np=i.1.ps.length)&&decide (i.1.F.nn=i.1.N.length)&&(i.2.isEmpty||!i.1.F.sh)
structure xY(K:WO)(mg:Str->Option Value)(S:TX)(tabs:List (Addr×List (Pos×Str)))(a:Nat->Addr)(fd:Nat->YD)(cP:Nat->Addr×Addr):Prop where
 fn:∀(k:Nat) (i:Info×List (Nat×Pos)),S.is[k]?=Δ i->(∃x,oN K x i.1.name i.1.st (a k) (fd k))/\(k < S.nf->mg i.1.name=Δ (.ref (a k)))/\Binds K (fd k) i.1.ps []/\ba i.1.N i.1.ps (av i.1.st)/\gp S i=Λ
 bl:∀x∈ud,mg x=Θ
 cs:∀x i,S.cs.lookup x=Δ i->∃t,mg x=Δ (.int i t)
 tb:∀x t,S.ts.lookup x=Δ t->∃a,mg x=Δ (.ref a)/\Px K a t
 cl:∀q∈S.ks,∃A,W3 K WY q.name=Δ (Δ (.ref A))/\mg q.name=Δ (.ref A)/\AR K A/\(∀f∈q.qW,jD K A f)/\(∀m k,q.GL.lookup m=Δ k->A5 K A m (a k))/\∀k,q.GL.lookup ("__init__":Str)=Δ k->Mk K A (a k)
 mkr:∀(k:Nat) (i:Info×List (Nat×Pos)),S.is[k]?=Δ i->i.2≠[]->(fd k).code=.ref (cP k).1/\((cP k).2,dq S i)∈tabs/\Apart (dq S i)/\∀t∈tabs,t.1=(cP k).2->t.2=dq S i
section
variable{P:Xy}{w:World}{K:WO}{mg:Str->Option Value}{S:TX}{tabs:List (Addr×List (Pos×Str))}{a:Nat->Addr}{fd:Nat->YD}{cP:Nat->Addr×Addr}
structure jM(mg:Str->Option Value)(S:TX)(cP:Nat->Addr×Addr)(base:Heap):Prop where
 code:∀(k:Nat) (i:Info×List (Nat×Pos)),S.is[k]?=Δ i->i.2≠[]->YM base (cP k).1 (cP k).2
 bm:BMain mg base
def kT(P:Xy)(w:World)(K:WO)(mg:Str->Option Value)(S:TX)(tabs:List (Addr×List (Pos×Str)))(a:Nat->Addr)(fd:Nat->YD)(n:Nat)(base:Heap):Prop:=
 ∀(k:Nat) (i:Info×List (Nat×Pos)),S.is[k]?=Δ i->gz P w K mg base uR (lv n) (a k) (fd k) i.1.ps (BN (mX S K base tabs) (callC S.Fs n k) i.1.F.np)
def xZ(P:Xy)(w:World)(K:WO)(mg:Str->Option Value)(S:TX)(tabs:List (Addr×List (Pos×Str)))(n:Nat)(base:Heap):Prop:=
 ∀(k:Nat) (b c:Addr) (bT:List V),oi S base k b c bT->∃fd ps,gz P w K mg base uR (lv n) b fd ps (Qp (mX S K base tabs) (callC S.Fs n k) c (S.q k) bT)/\Binds K fd ps []
theorem GU(h:oi S base k b c bT):∃oc od fd sl,base.get? b=Δ ⟨oc,od,.func fd,sl⟩:=by obtain⟨ci,o,sc,cl,_,ho,hf,_⟩:=h;rcases hf with ⟨_,_,_,_,rfl,_⟩|⟨_,_,_,_,_,_,rfl,_⟩<;>exact⟨_,_,_,_,ho⟩
theorem zO(T:xY K mg S tabs a fd cP)(D:kT P w K mg S tabs a fd n base)(hX:X.prog=P/\X.w=w/\X.K=K/\X.mg=mg/\X.base=base)(hr:cY (lv n+1) X.A)(QY:af X kt=mX S K base tabs):∀(k) (x) (m),S.fns[k]?=Δ (x,m)->uc X kt (callC S.Fs n k) x m:=by obtain⟨rfl,rfl,rfl,rfl,rfl⟩:=hX;intro j x nn hj;obtain⟨hk,i2,ej,e2⟩:=TX.GN hj;cases e2;obtain⟨⟨x2,F2⟩,HB,AU,_⟩:=T.fn j i2 ej;exact⟨⟨lv n,a j,fd j,i2.1.ps,by rw[QY];exact D j i2 ej,hr.mono (YN _),HB hk,F2.kp,AU⟩⟩
theorem zP{X:Cx}(T:xY K mg S tabs a fd cP)(hK:X.K=K):∀c f,S.yv c f=Λ->∃A,W3 X.K WY c=Δ (Δ (.ref A))/\AR X.K A/\jD X.K A f:=by subst hK;intro c f h;unfold TX.yv at h;rw[ZV] at h;obtain⟨q,hq,h⟩:=h;simp only[WC,qqq,ZV] at h;obtain⟨rfl,f',hf,rfl⟩:=h;obtain⟨A,k1,k2,k3,k4,_⟩:=T.cl q hq;exact⟨A,k1,k3,k4 _ hf⟩
theorem KN(h:S.np k=Δ n):∃i,S.is[k]?=Δ i/\i.1.F.np=n:=by unfold TX.np at h;cases ej:S.is[k]? with|none=>rw[ej] at h;cases h|some i=>rw[ej] at h;exact⟨i,rfl,by simpa using h⟩
theorem zQ(T:xY K mg S tabs a fd cP)(D:kT P w K mg S tabs a fd n base)(hX:X.prog=P/\X.w=w/\X.K=K/\X.mg=mg/\X.base=base)(hr:cY (lv n+1) X.A)(QY:af X kt=mX S K base tabs):∀k c m nn,S.AV k c m nn=Λ->∃A l fa fd ps,W3 X.K WY c=Δ (Δ (.ref A))/\AR X.K A/\A5 X.K A m fa/\gz X.prog X.w X.K X.mg X.base uR l fa fd ps (BN (af X kt) (callC S.Fs n k) (nn+1))/\cY l X.A/\Binds X.K fd ps []:=by obtain⟨rfl,rfl,rfl,rfl,rfl⟩:=hX;intro k c m nn h;unfold TX.AV at h;rw[ZV] at h;obtain⟨q,hq,h⟩:=h;simp only[WC,qqq] at h;obtain⟨⟨rfl,hm⟩,hn⟩:=h;obtain⟨i,ei,en⟩:=KN hn;obtain⟨A,k1,k2,k3,k4,k5,_⟩:=T.cl q hq;obtain⟨_,_,AU,_⟩:=T.fn k i ei;refine⟨A,lv n,a k,fd k,i.1.ps,k1,k3,k5 _ _ hm,?_,hr.mono (YN _),AU⟩;have:=D k i ei;rw[QY,<-en];exact this
theorem zR(T:xY K mg S tabs a fd cP)(D:kT P w K mg S tabs a fd n base)(hX:X.prog=P/\X.w=w/\X.K=K/\X.mg=mg/\X.base=base)(hr:cY (lv n+1) X.A)(QY:af X kt=mX S K base tabs):∀k c nn,S.AW k c nn=Λ->∃A l fa fd ps,X.mg c=Δ (.ref A)/\W3 X.K WY c=Δ (Δ (.ref A))/\Mk X.K A fa/\gz X.prog X.w X.K X.mg X.base uR l fa fd ps (BN (af X kt) (callC S.Fs n k) (nn+1))/\cY (l+1) X.A/\Binds X.K fd ps []:=by obtain⟨rfl,rfl,rfl,rfl,rfl⟩:=hX;intro k c nn h;unfold TX.AW at h;rw[ZV] at h;obtain⟨q,hq,h⟩:=h;simp only[WC,qqq] at h;obtain⟨⟨rfl,hm⟩,hn⟩:=h;obtain⟨i,ei,en⟩:=KN hn;obtain⟨A,k1,k2,k3,k4,k5,k6⟩:=T.cl q hq;obtain⟨_,_,AU,_⟩:=T.fn k i ei;refine⟨A,lv n,a k,fd k,i.1.ps,k2,k1,k6 _ hm,?_,hr,AU⟩;have:=D k i ei;rw[QY,<-en];exact this
theorem Ng(T:xY K mg S tabs a fd cP)(D:kT P w K mg S tabs a fd n base)(L:xZ P w K mg S tabs n base):xZ P w K mg S tabs (n+1) base:=by
 intro k b c bT hc;obtain⟨ci,o,sc,cl,HG,ho,hf,xE⟩:=hc;obtain⟨eF,eq⟩:=TX.Nd HG;have good:∀(cl:List (Str×Addr)) (A:Yc) (outer:List Env) (s:WU) (H:Hp) (E:XK),kA ci.N ci.ps ci.fr sc->cY (lv n+1) (A.deeper (yZ ci.qual sc s.heap.objs.size b (.ref c) cl))->
   fO (Kz uR P w K mg base ci.N ci.qual sc b (.ref c) cl A outer s H E).EH (SK S base tabs) (gC S ci sc) (callC S.Fs n):=λcl A outer s H E SC hr=>
  {N:=rfl,loc:=λx h=>h,HA:=λx h=>h,gl:=λx h=>h,calm:=rfl,hu:=by have:=hr.un;show(A.deeper _).units+100 < cLine;lia,bl:=T.bl,
   fn:=zO T D ⟨rfl,rfl,rfl,rfl,rfl⟩ hr rfl,cs:=T.cs,tb:=T.tb,
   qy:=λ_ k' a' c' Nh h'=>⟨GU h',by obtain⟨f,ps,F,B⟩:=L k' a' c' Nh h';exact⟨lv n,f,ps,F,hr.mono (YN _),B⟩⟩,
   lam:=λ_ _ _ _ _ h=>absurd (show Ξ=Λ from h) (by decide),iQ:=λ_ _ _ _ h=>absurd (show Ξ=Λ from h) (by decide),jc:=λ_ _ _ h=>absurd (show Ξ=Λ from h) (by decide),fld:=zP T rfl,Ob:=zQ T D ⟨rfl,rfl,rfl,rfl,rfl⟩ hr rfl,Oc:=zR T D ⟨rfl,rfl,rfl,rfl,rfl⟩ hr rfl,nP:=λ_ _ _ _ _ _ _ h=>absurd (show Ξ=Λ from h) (by decide),
   cell:=λx h=>absurd rfl (SC.eA _ (Xq h)),nd:=SC.nd,SJ:=λx h=>absurd rfl (SC.eA _ (Xq h)),own:=abz}
 have len:BV ci sc=Λ->∀vs H Q E,Qp (mX S K base tabs) (callC S.Fs (n+1) k) c (S.q k) bT vs H Q E->vs.length=ci.ps.length:=λhb vs H Q E h=>by
  obtain⟨_,m,Z,qs,br,st,rq,rc,_,h⟩:=h;obtain⟨_,SN,_,Cp⟩:=oh hb;obtain⟨_,_,_,_,_,hl⟩:=lO eF Cp h;rw[W1,SN] at hl;have e1:=rq.length;have e2:=rc.length;have e3:=xE.len
  lia
 have core:∀{X:Cx},X.K=K->X.base=base->BV ci sc=Λ->∀{vs:List V} {H:Hp} {Q:VK} {E:XK},Qp (mX S K base tabs) (callC S.Fs (n+1) k) c (S.q k) bT vs H Q E->
   ∃Z0,tS (af X (SK S base tabs)) Z0 (aj (callC S.Fs n) ci.F.body) {nx:=λ_ H'=>Q .bz H',rt:=Q} (L2.start ci.N (vs++bT)) H:=λ{X} hK hB hb {vs H Q E} h=>by
  obtain⟨_,m,Z,qs,br,st,rq,rc,as,h⟩:=h;obtain⟨_,_,hnn,Cp⟩:=oh hb;obtain⟨q2,d,ea,er,h2,_⟩:=lO eF Cp h;exact pO (kb:=mX S K base tabs) hnn (rq.append rc) as hK.symm rfl (λ_ _ _ _ z=>z) rfl ea er h2
 rcases hf with ⟨pa,bo,pm,ct,rfl,aK⟩|⟨nm,pa,bo,doc,pm,ct,rfl,aK⟩
 ·unfold pM at aK;simp only[WC] at aK;obtain⟨⟨⟨_,VD⟩,hb⟩,Of⟩:=aK;obtain⟨SC,_⟩:=oh hb;refine⟨_,ci.ps,L6 (k:=lv n+1) ho (λvs H Q E h=>⟨c,rfl,by rw[<-eq];exact h.1⟩) SC xE (len hb) (λA outer s H vs Q E hr h=>?_),Binds.all λus hl=>iO VD rfl hl⟩;obtain⟨Z0,ht⟩:=core (X:=Kz uR P w K mg base ci.N ci.qual sc b (.ref c) cl A outer s H E) rfl rfl hb h;cases VE:JD ci.F.body with|none=>rw[VE] at Of;cases Of|some e=>rw[VE] at Of;rw[JE VE] at ht;exact⟨_,(aH e _ _ _ bo Z0 (good cl A outer s H E SC hr).toGood Of).1.EH,JG ht⟩
 ·unfold pN at aK;simp only[WC] at aK;obtain⟨⟨⟨_,VD⟩,hb⟩,Of⟩:=aK;obtain⟨SC,_⟩:=oh hb;refine⟨_,ci.ps,LZ (k:=lv n+1) ho (λvs H Q E h=>⟨c,rfl,by rw[<-eq];exact h.1⟩) SC xE (len hb) (λA outer s H vs Q E hr h=>?_),Binds.all λus hl=>iO VD rfl hl⟩;obtain⟨Z0,ht⟩:=core (X:=Kz uR P w K mg base ci.N ci.qual sc b (.ref c) cl A outer s H E) rfl rfl hb h;exact⟨_,(dH ci.F.body _ _ _ bo Z0 (good cl A outer s H E SC hr) Of).EH,ht⟩
end
section
variable{K:KB}{H H':Hp}{m Z:List Addr}{P f c:Addr}{bS:List (Pos×Str)}{q:Str}{φ:Heap->Prop}
theorem wW(md:Made H H' P f c bS q φ)(hP:∃ps,H P=Δ (.fE ps))(h:H b=Δ u)(hu:∀ps,u≠.fE ps):H' b=Δ u:=by refine md.keep b u h λz=>?_;obtain⟨ps,e⟩:=hP;rw[z,e] at h;cases h;exact hu ps rfl
theorem made_le(md:Made H H' P f c bS q φ)(hP:∃ps,H P=Δ (.fE ps)):Le K m H m H':=by
 have kp:=λ{b:Addr} {u:HO} (h:H b=Δ u) (hu:∀ps,u≠.fE ps)=>wW md hP h hu;have gr:∀b ps,H b=Δ (.fE ps)->∃more,H' b=Δ (.fE (ps++more)):=λb ps h=>by
  by_cases hb:b=P;·subst hb;exact md.grow ps h
  ·exact⟨#[],by rw[md.keep b _ h hb];simp⟩
 refine⟨⟨[],by simp⟩,λb xs h=>kp h (λ_ z=>nomatch z),λb u h _ hu=>kp h hu,λb h=>.inl h,λb h=>?_,λb h=>?_,λb o u h=>kp h (λ_ z=>nomatch z),λb ψ h=>kp h (λ_ z=>nomatch z),gr⟩
 ·cases e:H b with
  |none=>exact absurd e h|some u=>
   by_cases hu:∃ps,u=.fE ps;·obtain⟨ps,rfl⟩:=hu;obtain⟨more,e2⟩:=gr b ps e;rw[e2];exact λz=>nomatch z
   ·rw[kp e λps z=>hu ⟨ps,z⟩];exact λz=>nomatch z
 ·cases e:gy H b with
  |none=>exact absurd e h|some u=>
   obtain⟨e1,e2⟩:=kB e;by_cases hu:∃ps,u=.fE ps;·obtain⟨ps,rfl⟩:=hu;obtain⟨more,e3⟩:=gr b ps e1;rw[bq e3 (λ_ z=>nomatch z)];exact λz=>nomatch z
   ·have e3:=kp e1 λps z=>hu ⟨ps,z⟩;by_cases hx:∃ψ,u=.ext ψ;·obtain⟨ψ,rfl⟩:=hx;have:∃q,ψ=dv b q:=Xp λz=>e2 ψ rfl λq' e'=>z ⟨q',e'⟩;obtain⟨q',rfl⟩:=this;rw[gg e3];exact λz=>nomatch z
    ·rw[bq e3 λψ z=>hx ⟨ψ,z⟩];exact λz=>nomatch z
theorem CU{st:aL}(as:ax K H m Z st)(md:Made H H' P f c bS q φ)(hP:∃ps,H P=Δ (.fE ps))(un:∀t∈K.tabs,t.1=P->t.2=bS):ax K H' m Z st:=by
 have le:Le K m H m H':=made_le md hP;refine⟨as.len,as.nd,λn o h=>?_,λb h=>le.Cy b (as.zt b h),as.zm,λt ht=>?_⟩
 ·obtain⟨a,e,r⟩:=as.at_ n o h;exact⟨a,e,r.mono (λb u hb hu=>wW md hP hu λps z=>by
   rcases hb with w1|w1;·subst w1;rw[z] at hu;exact r.qL.2.2.2.2.1 ps hu
   ·rw[w1] at hu;cases hu;cases z) λp v z=>z.le le⟩
 ·by_cases e:t.1=P;·obtain⟨ps,h1,h2⟩:=md.tab;exact⟨ps,by rw[e];exact h1,by rw[un t ht e];exact h2⟩
  ·obtain⟨ps,h1,h2⟩:=as.tab t ht;exact⟨ps,md.keep _ _ h1 e,fN.same le.ext h2⟩
end
abbrev r6(S:TX)(base:Heap)(tabs:List (Addr×List (Pos×Str)))(cells:List (Str×Addr)):KT where
 tabs:=tabs
 qy:=oi S base
 HC:=λk a c _ h=>∃ci o sc,S.ci k=Δ ci/\h.get? a=Δ o/\GO S ci o sc (iP cells sc.names []) c/\∀x,(x,W2)∈sc.names->∃c,cells.lookup x=Δ c
 zp:=S.q
theorem um{S:TX}:∀(f c) (ct) (g1 g2),(r6 S base tabs cells).HC k f c ct g1->(∀o,g1.get? f=Δ o->g2.get? f=Δ o)->(r6 S base tabs cells).HC k f c ct g2:=
 λf c ct g1 g2 ⟨ci,o,sc,h1,h2,h3⟩ hk=>⟨ci,o,sc,h1,hk o h2,h3⟩
section
variable{X:Cx}{S:TX}{base:Heap}{tabs:List (Addr×List (Pos×Str))}{C:Nat->List P->aL->R P}{i:Info×List (Nat×Pos)}{c P:Addr}{Z:List Addr}
theorem wX(hc:∀x,(av i.1.st).names.lookup x=Δ .cell->∃c,X.env.cells.lookup x=Δ c)(h:freeOk (av i.1.st).names sc=Λ):∀x,(x,W2)∈sc.names->∃c,X.env.cells.lookup x=Δ c:=λx hx=>by
 unfold freeOk at h;rw[Zv] at h;have:=h _ hx;simp only[YS,qqq] at this;rcases this with z|z;·exact absurd rfl z
 ·exact hc x z
theorem QZ(hB:X.base=base)(M:Maker X c P (dq S i))(hP:(P,dq S i)∈tabs)(un:∀t∈tabs,t.1=P->t.2=dq S i)(hq:X.env.qual=i.1.name++".<locals>.")(hc:∀x,(av i.1.st).names.lookup x=Δ .cell->∃c,X.env.cells.lookup x=Δ c)(h:GP S i k pa bo sc pos=Λ):PE X (.Lambda pa bo sc pos) (tE (af X (r6 S base tabs X.env.cells)) Z (aa C (.lam k))):=by
 unfold GP at h;split at h
 ·rename_i ci HG;simp only[WC,qqq] at h;obtain⟨⟨⟨h1,h2⟩,h3⟩,h4⟩:=h;have eq:S.q k=X.env.qual++"<lambda>":=by rw[(TX.Nd HG).2,h4,hq]
  have hs:(pos,X.env.qual++"<lambda>")∈dq S i:=by rw[<-eq];exact abq.mpr ⟨(k,pos),h1,rfl⟩
  have oY:=h2;unfold pM at oY;simp only[WC] at oY;have fr:=wX (X:=X) hc h3;refine PE.imp (Md (φ:=λf c ct=>(r6 S base tabs X.env.cells).HC k f c ct) M hs (kC oY.1.1.2 X.env).1 (mq fr) (λf c ct hh e=>⟨ci,_,sc,HG,e,.inl ⟨pa,bo,_,ct,by rw[h4,<-hq],h2⟩,fr⟩) (λf c ct g1 g2=>um f c ct g1 g2)) ?_;rintro σ H Q ⟨m,r,st,ar,as,h⟩;rw[o9] at h;obtain⟨ps,e1,e2⟩:=as.tab _ hP;refine⟨ps,e1,e2,λf c ct H' md=>?_⟩;refine h m H' (made_le md ⟨ps,e1⟩) (CU as md ⟨ps,e1⟩ un) (.ref f) ?_;rw[ai];exact⟨f,c,ct,rfl,md.fn,by show H' c=Δ (.ext (dv c (S.q k)));rw[eq];exact md.code⟩
 ·cases h
theorem Ni(hB:X.base=base)(M:Maker X c P (dq S i))(hP:(P,dq S i)∈tabs)(un:∀t∈tabs,t.1=P->t.2=dq S i)(hq:X.env.qual=i.1.name++".<locals>.")(hc:∀x,(av i.1.st).names.lookup x=Δ .cell->∃c,X.env.cells.lookup x=Δ c)(hN:X.N=i.1.N)(nd:i.1.N.Nodup)(Nj:X.env.scope=av i.1.st)(EF:∀x,X.fn x=Λ)(h:GQ S i j k nm pa bo sc pos=Λ):PS X (.FunctionDef nm pa bo [] Θ [] sc Θ nm pos) (tS (af X (r6 S base tabs X.env.cells)) Z (aQ C (.nP j k))):=by
 unfold GQ at h;split at h
 ·rename_i ci HG;simp only[WC,qqq,YS] at h;obtain⟨⟨⟨⟨⟨h1,h2⟩,h3⟩,h4⟩,h5⟩,h6⟩:=h;have FH:Loc X.env.scope nm:=by rw[Nj];exact h6
  have qe:aaB X.env nm nm=X.env.qual++nm:=by unfold aaB;rw[if_neg];show ¬((X.env.scope.names.lookup nm==Δ Zi.globalExplicit)=Λ);rw[Nj];rcases h6 with z|z<;>rw[z]<;>decide
  have eq:S.q k=aaB X.env nm nm:=by rw[(TX.Nd HG).2,h4,qe,hq]
  have hs:(pos,aaB X.env nm nm)∈dq S i:=by rw[<-eq];exact abq.mpr ⟨(k,pos),h1,rfl⟩
  have oY:=h2;unfold pN at oY;simp only[WC] at oY;have fr:=wX (X:=X) hc h3;have dp:=kC oY.1.1.2 X.env;refine PS.imp (Mf (φ:=λf c ct=>(r6 S base tabs X.env.cells).HC k f c ct) M hs dp.2.1 dp.2.2 (DK oY.1.1.2 X.env) (mq fr) (by rw[hN];exact nd) (by rw[hN];exact h5) FH (.inl (EF nm))
   (λf c ct doc hh e=>⟨ci,_,sc,HG,e,.inr ⟨nm,pa,bo,doc,_,ct,by rw[h4,<-hq,<-qe],h2⟩,fr⟩) (λf c ct g1 g2=>um f c ct g1 g2)) ?_
  rintro D σ H ⟨m,r,st,ar,as,h⟩;rw[tI] at h;obtain⟨ps,e1,e2⟩:=as.tab _ hP;refine⟨ps,e1,e2,λf c ct H' md=>?_⟩;have le:Le (af X (r6 S base tabs X.env.cells)) m H m H':=made_le md ⟨ps,e1⟩;refine h m H' le (CU as md ⟨ps,e1⟩ un) _ ((ar.le le).set ?_);rw[ai];exact⟨f,c,ct,rfl,md.fn,by show H' c=Δ (.ext (dv c (S.q k)));rw[eq];exact md.code⟩
 ·cases h
end
theorem Hz.keeps(C:Hz B cl F bT)(k:∀b o,B.get? b=Δ o->B'.get? b=Δ o):Hz B' cl F bT:=
 ⟨C.inj,C.only,λi x v h1 h2=>by obtain⟨c,u,a,b,d⟩:=C.at_ i x v h1 h2;exact⟨c,u,a,b.keeps k,d⟩,C.len⟩
theorem oi.keeps{S:TX}(h:oi S B k a c bT)(kp:∀b o,B.get? b=Δ o->B'.get? b=Δ o):oi S B' k a c bT:=by obtain⟨ci,o,sc,cl,h1,h2,h3,h4⟩:=h;exact⟨ci,o,sc,cl,h1,kp _ _ h2,h3,Hz.keeps h4 kp⟩
theorem Ee{S:TX}(h:GO S ci o sc cl c):BV ci sc=Λ/\∃fd,o.data=.func fd:=by
 rcases h with ⟨pa,bo,pm,ct,rfl,aK⟩|⟨nm,pa,bo,doc,pm,ct,rfl,aK⟩
 ·unfold pM at aK;simp only[WC] at aK;exact⟨aK.1.2,_,rfl⟩
 ·unfold pN at aK;simp only[WC] at aK;exact⟨aK.1.2,_,rfl⟩
theorem CV{α:Type}{x:α}:∀{l:List (Nat×α)},l.lookup k=Δ x->(k,x)∈l
 |[],h=>by cases h|(j,y)::l,h=>by rw[Xd] at h;cases hb:k==j with|true=>rw[hb] at h;cases h;rw[eq_of_beq hb];exact WG|false=>rw[hb] at h;exact WE _ (CV h)
theorem Nk(h:Rd H a (.lst us)):Rd (gy H) a (.lst us):=by
 rcases h with h|⟨o,h⟩;·exact .inl (bq h (λ_ z=>nomatch z))
 ·exact .inr ⟨o,bq h (λ_ z=>nomatch z)⟩
section
variable{X:Cx}{S:TX}{base:Heap}{tabs:List (Addr×List (Pos×Str))}{C:Nat->List P->aL->R P}{i:Info×List (Nat×Pos)}{Z:List Addr}{η:List (Addr×Obj)}{σ:L2.St}{H:Hp}{s:WU}{ls:List (Nat×List Nat)}{r:cj}
theorem ai.Q0(hk:K1.K=K2.K)(hq:K1.zp=K2.zp)(hc:∀k a c bT,K1.qy k a c bT->K2.qy k a c bT)(hp:cn x=Λ)(h:ai K1 H [] Z x v):ai K2 (L2.gy H) [] Z x v:=by
 have h1:ai K2 H [] Z x v:=ai.kb hk hq hc hp h;have go:∀n:Nat,(∀(x:P) (v:V),sizeOf x<=n->cn x=Λ->ai K2 H [] Z x v->ai K2 (L2.gy H) [] Z x v)/\(∀(xs:List P) (vs:List V),sizeOf xs<=n->cw xs=Λ->ah K2 H [] Z xs vs->ah K2 (L2.gy H) [] Z xs vs):=λn=>by
  induction n with
  |zero=>
   refine⟨λx v hs=>?_,λxs vs hs=>?_⟩;·cases x<;>simp at hs
   ·cases xs<;>simp at hs
  |succ n ih=>
   refine⟨λx v hs hp h=>?_,λxs vs hs hp h=>?_⟩;·cases x with|d y=>rw[ai] at h ⊢;exact aI.congr (λa us e=>bq e (λ_ z=>nomatch z)) (λa us _ _ e=>Nk e) h|obj y=>simp[cn] at hp|gW y=>simp[cn] at hp|lf y=>simp[cn] at hp|fn k br=>rw[ai] at h ⊢;obtain⟨a,c,bT,e,q,hx,rr⟩:=h;exact⟨a,c,bT,e,q,gg hx,ih.2 br bT (by simp at hs;lia) (by simpa[cn] using hp) rr⟩
   ·cases xs with|nil=>exact h|cons x xs=>rw[ah] at h ⊢;obtain⟨v,pH,e,rr,rs⟩:=h;simp only[cw,WC] at hp;simp at hs;exact⟨v,pH,e,ih.1 x v (by lia) hp.1 rr,ih.2 xs pH (by lia) hp.2 rs⟩
 exact(go (sizeOf x)).1 x v (WM _) hp h1
theorem GV(I:Inv X η σ H s)(hB:X.base=base)(EF:∀x,X.fn x=Λ)(hN:X.N=i.1.N)(Nj:X.env.scope=av i.1.st)(VF:Ed S i ls=Λ)(ar:cq (af X (r6 S base tabs X.env.cells)) H [] Z r σ):
  ∀(n) (p q) (v),conv ls r n p=Δ q->ai (af X (r6 S base tabs X.env.cells)) H [] Z p v->ai (mX S X.K (qR s.heap H (jA X.stack)) tabs) (L2.gy H) [] Z q v:=by
 have kp:∀b o,base.get? b=Δ o->(qR s.heap H (jA X.stack)).get? b=Δ o:=λb o e=>I.FK (by rw[hB];exact e);have Q1:∀k a c bT,(af X (r6 S base tabs X.env.cells)).qy k a c bT->(mX S X.K (qR s.heap H (jA X.stack)) tabs).qy k a c bT:=λk a c bT h=>oi.keeps h kp;intro n;induction n with
 |zero=>intro p q v h;cases h|succ n ih=>
  intro p q v h hr;cases p with
  |d x=>cases h;exact ai.Q0 (K1:=af X (r6 S base tabs X.env.cells)) (K2:=mX S X.K (qR s.heap H (jA X.stack)) tabs) rfl rfl Q1 rfl hr|gW ns=>
   cases h;rw[ai] at hr ⊢;obtain⟨a,e,hf⟩:=hr;refine⟨a,e,?_⟩;rcases hf with ⟨o,hf⟩|hf
   ·exact .inl ⟨o,bq hf (λ_ z=>nomatch z)⟩
   ·exact .inr hf
  |obj k=>cases h|fn k br=>
   have h':(if cw br=Λ then Δ (P.fn k br) else Θ)=Δ q:=h;split at h';·rename_i hp;cases h';exact ai.Q0 (K1:=af X (r6 S base tabs X.env.cells)) (K2:=mX S X.K (qR s.heap H (jA X.stack)) tabs) rfl rfl Q1 (by simpa[cn] using hp) hr
   ·cases h'
  |lf k=>
   have h':((ls.lookup k).bind λjs=>(js.mapM λj=>((r[j]?).join).bind (conv ls r n)).map λbr=>P.fn k br)=Δ q:=h;obtain⟨js,e1,h2⟩:=b7 h';obtain⟨br,e2,rfl⟩:=fI h2;rw[ai] at hr;obtain⟨a,c,ct,rfl,ha,Ve⟩:=hr;obtain⟨hφ,_,_⟩:=I.aK a _ ha;obtain⟨ci,o,sc,HG,ho,DA,yC⟩:=hφ;obtain⟨hcb,fd0,hfd⟩:=Ee DA;obtain⟨SC,_⟩:=oh hcb;have hfx:Bv a ((af X (r6 S base tabs X.env.cells)).HC k a c ct):=λq' e=>by have Q2:=(I.aK a _ ha).1;rw[e] at Q2;obtain⟨c2,o2,Vn,t2,e2,Hx,hd2,_⟩:=Q2;cases e2;rw[ho] at Hx;cases Hx;rw[hfd] at hd2;cases hd2
   have anf:∀{b:Addr},H b≠Θ->b∉jA X.stack:=λ{b} hb z=>hb (I.ny b z);have aK:=Zv.mp (show(ls.all _)=Λ from VF) (k,js) (CV e1);simp only[HG,WC,qqq,Zv] at aK;obtain⟨hjs,Nl⟩:=aK;have key:∀(js:List Nat) (fr:List Str) (br:List P),js.map (λj=>i.1.N[j]?)=fr.map Δ->(∀x∈fr,(av i.1.st).names.lookup x=Δ .cell)->(js.mapM λj=>((r[j]?).join).bind (conv ls r n))=Δ br->
     ∃bT,ah (mX S X.K (qR s.heap H (jA X.stack)) tabs) (L2.gy H) [] Z br bT/\bT.length=fr.length/\∀(l:Nat) (x:Str) (v:V),fr[l]?=Δ x->bT[l]?=Δ v->∃c u,X.env.cells.lookup x=Δ c/\(qR s.heap H (jA X.stack)).IsCell c (Δ u)/\RelV v u:=by
    intro js;induction js with
    |nil=>intro fr br hj _ hm;cases fr with|cons x fr=>simp at hj|nil=>simp at hm;subst hm;exact⟨[],by rw[ah],rfl,λl x v h=>by simp at h⟩
    |cons j js ihj=>
     intro fr br hj xE hm;cases fr with
     |nil=>simp at hj|cons x fr=>
      rw[WQ,WQ] at hj;injection hj with hj1 hj2;rw[List.mapM_cons] at hm;obtain⟨q1,hq1,HB⟩:=b7 (show(((r[j]?).join).bind (conv ls r n)).bind _=Δ br from hm);obtain⟨qs,hqs,hm3⟩:=b7 (show(js.mapM λj=>((r[j]?).join).bind (conv ls r n)).bind _=Δ br from HB);cases (show Δ (q1::qs)=Δ br from hm3);obtain⟨pj,Q3,hcj⟩:=b7 hq1;have e':r[j]?=Δ (Δ pj):=by cases z:r[j]? with|none=>rw[z] at Q3;cases Q3|some o=>rw[z] at Q3;simp at Q3;rw[Q3]
      obtain⟨vj,ej,rj⟩:=ar.at_ j pj e';obtain⟨bT,r1,r2,r3⟩:=ihj fr qs hj2 (λy hy=>xE y (WE _ hy)) hqs;have nA:=xE x WG;have Fe:X.env.kindOf x=Δ .cell:=by show X.env.scope.names.lookup x=_;rw[Nj];exact nA
      obtain⟨mm,hn,hl⟩:=I.loc;obtain⟨u,ru,lk⟩:=hl j x vj (by rw[hN];exact hj1) ej (.inr (.inl (by rw[Nj];exact nA)));refine⟨vj::bT,by rw[ah];exact⟨vj,bT,rfl,ih pj q1 vj hcj rj,r1⟩,by simp[r2],λl y v hy hv=>?_⟩;cases l with
      |succ l=>exact r3 l y v (by simpa using hy) (by simpa using hv)|zero=>
       simp at hy hv;subst hy;subst hv;rcases lk with ⟨hk,_⟩|⟨_,c',Hu,Nm⟩
       ·rw[Fe] at hk;cases hk
       ·refine⟨c',u,Hu,?_,ru⟩;obtain⟨oc,Lg,hdc⟩:=Nm;refine⟨oc,xG Lg (jI (I.jY x c' Hu)) λz=>?_,hdc⟩;rcases Z3.mp (I.oQ c' z) with w1|w1;·exact I.Kc x c' Hu w1
        ·obtain⟨_,o3,ho3,_⟩:=I.ok.mB.mem w1;exact Yu _ (W7 (WV ho3) (I.ok.Lf x c' (EF x) Hu))
   obtain⟨bT,k1,k2,k3⟩:=key js ci.fr br hjs Nl e2;rw[ai];refine⟨a,c,bT,rfl,⟨ci,o,sc,_,HG,xG ho (xF ha hfx) (anf (by rw[ha];exact λz=>nomatch z)),DA,?_⟩,gg Ve,k1⟩;have look:∀x,(x,W2)∈sc.names->(iP X.env.cells sc.names []).lookup x=X.env.cells.lookup x:=λx hx=>(jJ (x:=x) (acc:=[]) yC).1 hx;have Nn:∀x,(x,W2)∉sc.names->(iP X.env.cells sc.names []).lookup x=Θ:=λx hx=>(jJ (x:=x) (acc:=[]) yC).2 hx;have VG:∀x c,(iP X.env.cells sc.names []).lookup x=Δ c->(x,W2)∈sc.names:=λx c h=>Xp λz=>by rw[Nn x z] at h;cases h
   refine⟨λx y c' h1 h2=>?_,λx c' h=>SC.P4 _ (VG x c' h) rfl,λl x v h1 h2=>?_,k2⟩;·rw[look x (VG x c' h1)] at h1;rw[look y (VG y c' h2)] at h2;exact I.ok.inj x y c' h1 h2
   ·obtain⟨c',u,g1,g2,g3⟩:=k3 l x v h1 h2;exact⟨c',u,by rw[look x (Xq (SC.fre x (W6 h1)))];exact g1,g2,g3⟩
end
theorem Ef(h:H b=H' b):gy H b=gy H' b:=by unfold gy;rw[h]
section
variable{K1 K2:KB}{H1 H2:Hp}{m Z:List Addr}
theorem lQ(hn:∀b φ,H1 b=Δ (.ext φ)->Bv b φ->H2 b=Θ)(h:H2 b=Δ u):zc H1 H2 b=Δ u:=by rw[sM λφ z hf=>by rw[hn b φ z hf] at h;cases h];exact h
theorem GW(hn:∀b φ,H1 b=Δ (.ext φ)->Bv b φ->H2 b=Θ)(h:gy H2 b≠Θ):gy (zc H1 H2) b≠Θ:=by have e:zc H1 H2 b=H2 b:=sM λφ z hf=>h (jI (hn b φ z hf));rw[Ef e];exact h
theorem Q4(hn:∀b φ,H1 b=Δ (.ext φ)->Bv b φ->H2 b=Θ)(le:Le K1 [] (gy H1) [] H2):Le K2 [] H1 [] (zc H1 H2):=by
 have mono:=λ{b:Addr} {u:HO} (h:H2 b=Δ u)=>lQ hn h;have ext:∀b φ,H1 b=Δ (.ext φ)->zc H1 H2 b=Δ (.ext φ):=λb φ e=>by
  by_cases hf:Bv b φ;·exact Ct e hf
  ·have:∃q,φ=dv b q:=Xp λz=>hf λq' e'=>z ⟨q',e'⟩;obtain⟨q,rfl⟩:=this;exact mono (le.ext _ _ (gg e))
 have keep:∀b u,H1 b=Δ u->(∀ps,u≠.fE ps)->zc H1 H2 b=Δ u:=λb u e hu=>by
  by_cases hx:∃φ,u=.ext φ;·obtain⟨φ,rfl⟩:=hx;exact ext b φ e
  ·exact mono (le.keep _ _ (bq e λφ z=>hx ⟨φ,z⟩) (by simp) hu)
 have fE:∀b ps,H1 b=Δ (.fE ps)->∃more,zc H1 H2 b=Δ (.fE (ps++more)):=λb ps e=>by obtain⟨more,e2⟩:=le.fE b ps (bq e (λ_ z=>nomatch z));exact⟨more,mono e2⟩
 refine⟨⟨[],rfl⟩,λb xs e=>keep b _ e (λ_ z=>nomatch z),λb u e _ hu=>keep b u e hu,(λb h=>nomatch h),λb h=>?_,λb h=>?_,λb o u e=>keep b _ e (λ_ z=>nomatch z),ext,fE⟩
 ·cases e:H1 b with
  |none=>exact absurd e h|some u=>
   by_cases hu:∃ps,u=.fE ps;·obtain⟨ps,rfl⟩:=hu;obtain⟨more,e2⟩:=fE b ps e;rw[e2];exact λz=>nomatch z
   ·rw[keep b u e λps z=>hu ⟨ps,z⟩];exact λz=>nomatch z
 ·refine GW hn (le.Cy b ?_);cases e:gy H1 b with
  |none=>exact absurd e h|some o=>
   obtain⟨_,e2⟩:=kB e;by_cases hx:∃φ,o=.ext φ;·obtain⟨φ,rfl⟩:=hx;have:∃q,φ=dv b q:=Xp λz=>e2 φ rfl λq' e'=>z ⟨q',e'⟩;obtain⟨q,rfl⟩:=this;rw[gg e];exact λz=>nomatch z
   ·rw[bq e λφ z=>hx ⟨φ,z⟩];exact λz=>nomatch z
theorem Q5(ht:K1.tabs=K2.tabs)(hn:∀b φ,H1 b=Δ (.ext φ)->Bv b φ->H2 b=Θ)(as:ax K1 H2 [] Z []):ax K2 (zc H1 H2) [] Z []:=
 lN (λb h=>GW hn (as.zt b h)) λt h=>by obtain⟨ps,e1,e2⟩:=as.tab t (by rw[ht];exact h);exact⟨ps,lQ hn e1,fN.same (λb φ e=>lQ hn e) e2⟩
theorem Np(hn:∀b φ,H1 b=Δ (.ext φ)->Bv b φ->H2 b=Θ)(h:aI K1 H2 [] Z x v):aI K2 (zc H1 H2) [] Z x v:=
 aI.congr (λb us e=>lQ hn e) (λb us _ _ e=>by
  rcases e with e|⟨o,e⟩;·exact .inl (lQ hn e)
  ·exact .inr ⟨o,lQ hn e⟩) (aI.kb h)
end
theorem GX{st:aL}(h:Ok kb Z (mv c o st) m H Q):∃qs x,o=Δ qs/\st=[]/\c qs []=.ok (.d x) []/\Ok kb Z (R.ok (P.d x) []) m H Q:=by
 unfold mv at h;split at h
 ·rename_i qs;cases hx:c qs [] with
  |ex x s=>rw[hx] at h;exact(show False from h).elim|no=>rw[hx] at h;exact(show False from h).elim|ok p st2=>
   rw[hx,ae] at h;split at h;·rename_i x;exact⟨qs,x,rfl,rfl,hx,h⟩
   ·exact(show False from h).elim
 ·exact(show False from h).elim
section
variable{X:Cx}{S:TX}{base:Heap}{tabs:List (Addr×List (Pos×Str))}{i:Info×List (Nat×Pos)}{Z:List Addr}{η:List (Addr×Obj)}{σ:L2.St}{H:Hp}{s:WU}{ls:List (Nat×List Nat)}{r:cj}
theorem wY(cr:∀(p q:P) (v:V),conv ls r 3 p=Δ q->ai (af X (r6 S base tabs X.env.cells)) H [] Z p v->ai (mX S X.K (qR s.heap H (jA X.stack)) tabs) (L2.gy H) [] Z q v):
  ∀{ps qs} {vs},ps.mapM (conv ls r 3)=Δ qs->ah (af X (r6 S base tabs X.env.cells)) H [] Z ps vs->ah (mX S X.K (qR s.heap H (jA X.stack)) tabs) (L2.gy H) [] Z qs vs
 |[],qs,vs,h,rr=>by simp at h;subst h;rw[ah] at rr ⊢;exact rr|p::ps,qs,vs,h,rr=>by rw[List.mapM_cons] at h;obtain⟨q1,e1,h2⟩:=b7 (show(conv ls r 3 p).bind _=Δ qs from h);obtain⟨q2,e2,h3⟩:=b7 (show(ps.mapM (conv ls r 3)).bind _=Δ qs from h2);cases (show Δ (q1::q2)=Δ qs from h3);rw[ah] at rr ⊢;obtain⟨v,pH,e,r1,r2⟩:=rr;exact⟨v,pH,e,cr p q1 v e1 r1,wY cr e2 r2⟩
variable{K:WO}{mg:Str->Option Value}{a:Nat->Addr}{fd:Nat->YD}{cP:Nat->Addr×Addr}
theorem JH(T:xY X.K X.mg S tabs a fd cP)(hB:X.base=base)(EF:∀x,X.fn x=Λ)(hN:X.N=i.1.N)(Nj:X.env.scope=av i.1.st)(hr:cY (lv n) X.A)(D:∀zd,jM X.mg S cP zd->kT X.prog X.w X.K X.mg S tabs a fd n zd)(bo:jM X.mg S cP X.base)(hf:S.fns[f]?=Δ (x,nn))(VF:Ed S i ls=Λ)(hl:bV.length=nn)(hg:Gl X x)(hp:aR x=Λ)(hs:∀y∈e::es,notStar y=Λ)(ha:PA X (e::es) (tA (af X (r6 S base tabs X.env.cells)) Z (aA (callC S.Fs n) bV))):
  PE X (.Call (.Name x p) (e::es) [] pos) (tE (af X (r6 S base tabs X.env.cells)) Z (aa (callC S.Fs n) (.iQ f bV ls))):=by
 obtain⟨hk,i2,ej,e2⟩:=TX.GN hf;cases e2;obtain⟨⟨x2,F2⟩,hm,hb,_⟩:=T.fn f i2 ej;have hm:=hm hk;intro η s σ H Q I h;obtain⟨m,r,st,ar,as,h⟩:=h;rw[kJ] at h;refine X6 (nB I hg hm ?_ (pn hp).1);refine aaa (h₀:=X.base) I.ok.mod.Ld F2.kp (bQ (ha pos η s σ H (λvs H1=>∃m1 st1 ps,cq (af X (r6 S base tabs X.env.cells)) H1 m1 Z r σ/\ax (af X (r6 S base tabs X.env.cells)) H1 m1 Z st1/\ah (af X (r6 S base tabs X.env.cells)) H1 m1 Z ps vs/\ps.length=bV.length/\
   Ok (af X (r6 S base tabs X.env.cells)) Z (mv (callC S.Fs n f) (ps.mapM (conv ls r 3)) st1) m1 H1 (λp _ m' H'=>∀v,ai (af X (r6 S base tabs X.env.cells)) H' m' Z p v->Q v H')) I
  ⟨m,r,st,ar,as,(Ok.bind h).wJ λps st1 m1 H1 hq bC aW h1 vs gY=>⟨m1,st1,ps,ar.le bC,aW,gY,eI hq,h1⟩⟩) λus s1 ⟨vs,H1,I1,rr,m1,st1,ps,ar1,aW,gY,yq,h1⟩=>⟨I1.nv,?_⟩) (bj (hs e WG)) (gb λz hz=>hs z (WE _ hz))
 obtain⟨qs,d,eq,rfl,hx,h2⟩:=GX h1;have em:m1=[]:=List.eq_nil_of_length_eq_zero (by rw[aW.len];rfl);subst em;have cr:=λp q v=>GV I1 hB EF hN Nj VF ar1 3 p q v;have rq:=wY cr eq gY;have kp:∀b o,X.base.get? b=Δ o->(qR s1.heap H1 (jA X.stack)).get? b=Δ o:=λb o e=>I1.FK e;have Nq:jM X.mg S cP (qR s1.heap H1 (jA X.stack)):=⟨λk j hj hm=>(bo.code k j hj hm).keeps kp,by obtain⟨bm,ob,b1,b2,b3,r⟩:=bo.bm;exact⟨bm,ob,b1,b2,kp _ _ b3,r⟩⟩;have Fk:=D _ Nq f i2 ej;have vl:vs.length=i2.1.F.np:=by rw[gY.length,yq,hl]
 have usl:us.length=i2.1.ps.length:=by have ok:=(T.fn f i2 ej).2.2.2.2;unfold gp at ok;simp only[WC,qqq] at ok;rw[<-rr.length,vl,ok.1.1.2]
 have eE:ax (mX S X.K (qR s1.heap H1 (jA X.stack)) tabs) (L2.gy H1) [] Z []:=lN (λb hb=>by
   have:=aW.zt b hb;cases e:L2.gy H1 b with
   |none=>exact absurd e this|some o=>
    obtain⟨_,e2⟩:=kB e;by_cases hx:∃φ,o=.ext φ;·obtain⟨φ,rfl⟩:=hx;have:∃q,φ=dv b q:=Xp λz=>e2 φ rfl λq' e'=>z ⟨q',e'⟩;obtain⟨q,rfl⟩:=this;rw[gg e];exact λz=>nomatch z
    ·rw[bq e λφ z=>hx ⟨φ,z⟩];exact λz=>nomatch z) λt ht=>by
  obtain⟨ps,e1,e2⟩:=aW.tab t ht;exact⟨ps,bq e1 (λ_ z=>nomatch z),e2.1,λp hp cv AS=>by obtain⟨c,g1,g2⟩:=e2.2 p hp cv AS;exact⟨c,g1,gg g2⟩⟩
 have FP:abr s1 (fd f) ⟨us,[]⟩ (i2.1.ps.zip us):=by have:=hb s1 us I1.nv (by rw[Xv];exact usl);rw[Xv] at this;exact this
 refine Yh (II (Q:=λv H2=>∃m',Le (mX S X.K (qR s1.heap H1 (jA X.stack)) tabs) [] (L2.gy H1) m' H2/\ax (mX S X.K (qR s1.heap H1 (jA X.stack)) tabs) H2 m' Z []/\aI (mX S X.K (qR s1.heap H1 (jA X.stack)) tabs) H2 m' Z d v) I1 Fk hr FP rr
  ⟨[],Z,qs,[],vl,rq,eE,by rw[hx];exact λm' H' le bV v rv=>⟨m',le,bV,by rw[ai] at rv;exact rv⟩⟩) (λu s2 ⟨v,H3,I3,rv,H2,eH,hn,m',le,bV,rd⟩=>⟨v,H3,I3,rv,?_⟩) λ_ _ z=>z
 subst eH;have em2:m'=[]:=List.eq_nil_of_length_eq_zero (by rw[bV.len];rfl);subst em2;exact h2 [] _ (Q4 hn le) (Q5 (K1:=mX S X.K (qR s1.heap H1 (jA X.stack)) tabs) rfl hn bV) v (by rw[ai];exact Np hn rd)
end
def wZ{α:Type}(P:Nat->α->Prop):Nat->List α->Prop
 |_,[]=>True|j,x::xs=>P j x/\wZ P (j+1) xs
theorem Nr{α:Type}{P:Nat->α->Prop}:wZ P j []:=trivial
theorem bb{α:Type}{P:Nat->α->Prop}{x:α}{xs:List α}(h:P j x)(t:wZ P (j+1) xs):wZ P j (x::xs):=⟨h,t⟩
theorem KO{α:Type}{P:Nat->α->Prop}:∀{l} {j},wZ P j l->∀k i,l[k]?=Δ i->P (j+k) i
 |[],j,_,k,i,e=>by simp at e|x::xs,j,h,0,i,e=>by simp at e;subst e;exact h.1
 |x::xs,j,h,k+1,i,e=>by have:=KO h.2 k i (by simpa using e);rwa [Nat.add_assoc,ab4 1 k] at this
theorem BW{α:Type}{P:Nat->α->Prop}{l:List α}(h:wZ P 0 l)k(i:α)(e:l[k]?=Δ i):P k i:=by have:=KO h k i e;rwa [Xh] at this
theorem Q6{α:Type}{P:α->Prop}:∀y∈([]:List α),P y:=λ_ h=>nomatch h
theorem memC{α:Type}{P:α->Prop}{x:α}{xs:List α}(h:P x)(t:∀y∈xs,P y):∀y∈x::xs,P y:=List.forall_mem_cons.mpr ⟨h,t⟩
theorem lkN{β:Type}{P:Str->β->Prop}:∀m k,([]:List (Str×β)).lookup m=Δ k->P m k:=λ_ _ h=>nomatch h
theorem Q7{β:Type}{P:Str->β->Prop}{b:β}{xs:List (Str×β)}(h:P x b)(t:∀m k,xs.lookup m=Δ k->P m k):∀m k,((x,b)::xs).lookup m=Δ k->P m k:=λm k e=>by
 rw[Xd] at e;split at e;·rename_i hq;cases e;rw[eq_of_beq hq];exact h
 ·exact t m k e
theorem JI{β:Type}{l:List (Addr×β)}(nd:ns.Nodup)(hn:l.map (·.1)=ns){b:β}(h:(a,b)∈l):∀t∈l,t.1=a->t.2=b:=by
 subst hn;induction l with
 |nil=>cases h|cons x l ih=>
  rw[WQ,Yy] at nd;intro t ht e;rcases Z3.mp h with z|z
  ·rcases Z3.mp ht with z2|z2;·rw[z2,<-z]
   ·exact absurd (abq.mpr ⟨t,z2,by rw[e,<-z]⟩) nd.1
  ·rcases Z3.mp ht with z2|z2;·exact absurd (abq.mpr ⟨_,z,by rw[<-z2,e]⟩) nd.1
   ·exact ih z nd.2 t z2 e
theorem Eg{α:Type}{P:List α->Prop}(h:∀a,P [a]):∀us,us.length=1->P us
 |[a],_=>h a
theorem qX{α:Type}{P:List α->Prop}(h:∀a b,P [a,b]):∀us,us.length=2->P us
 |[a,b],_=>h a b
theorem GY{α:Type}{P:List α->Prop}(h:∀a b c,P [a,b,c]):∀us,us.length=3->P us
 |[a,b,c],_=>h a b c
section
variable{P:Xy}{w:World}{K:WO}{mg:Str->Option Value}{S:TX}{tabs:List (Addr×List (Pos×Str))}{a:Nat->Addr}{fd:Nat->YD}{cP:Nat->Addr×Addr}
theorem JJ{st:Stmt}{fd:YD}(F:oN K x qual st f fd)(S:ba N ps (av st))(len:∀vs H Q E,sp vs H Q E->vs.length=ps.length)(sC:∀(A:Yc) (outer:List Env) (s:WU) (H:Hp) (vs:List V) (Q:VK) (E:XK),cY k (A.deeper (abn qual (av st) s.heap.objs.size f fd.code))->sp vs H Q E->
   ∃t,mC (xn uR P w K mg base N qual (av st) f fd.code A outer s H E).EH (lE st) t/\t {nx:=λ_ H'=>Q .bz H',rt:=Q} (L2.start N vs) H):gz P w K mg base uR (k+1) f fd ps sp:=by
 obtain⟨oc,od,kV,doc,pm,an,kh,ct,Ic,rfl,lk,qf⟩:=F.ex;refine O7 lk qf S len λA outer s H vs Q E hr xo=>?_;obtain⟨t,h,q⟩:=sC A outer s H vs Q E hr xo;exact⟨t,h.EH,q⟩
theorem Nt(T:xY K mg S tabs a fd cP)(D:∀base,jM mg S cP base->kT P w K mg S tabs a fd n base)(L:∀base,jM mg S cP base->xZ P w K mg S tabs n base)(bo:jM mg S cP base):kT P w K mg S tabs a fd (n+1) base:=by
 intro k i hi;obtain⟨⟨x1,F⟩,hm,hb,sc,ok⟩:=T.fn k i hi;unfold gp at ok;simp only[WC,qqq,YS,Xe] at ok;obtain⟨⟨⟨Q8,ok2⟩,QX⟩,ok4⟩:=ok;have ek:=TX.VB hi;refine JJ (k:=lv n+1) F sc (λvs H Q E h=>?_) (λA outer s H vs Q E hr h=>?_);·obtain⟨m,Z,qs,st,hl,_⟩:=h;rw[hl,ok2]
 obtain⟨m,Z,qs,st,hl,rq,as,aK⟩:=h;have hu:(A.deeper (abn i.1.name (av i.1.st) s.heap.objs.size (a k) (fd k).code)).units+100 < cLine:=by have:=hr.un;lia
 by_cases Q9:i.2=[]
 ·have eg:GR S i={N:=i.1.N,names:=(av i.1.st).names,fns:=S.fns,hZ:=S.cs,tabs:=S.ts,yv:=S.yv,AV:=S.AV,AW:=S.AW}:=by unfold GR;rw[Q9]
  rw[eg] at Q8;have G:fO (xn uR P w K mg base i.1.N i.1.name (av i.1.st) (a k) (fd k).code A outer s H E).EH (SK S base tabs) {N:=i.1.N,names:=(av i.1.st).names,fns:=S.fns,hZ:=S.cs,tabs:=S.ts,yv:=S.yv,AV:=S.AV,AW:=S.AW} (callC S.Fs n):=
   {N:=rfl,loc:=λx h=>h,HA:=λx h=>h,gl:=λx h=>h,calm:=rfl,hu:=hu,bl:=T.bl,
    fn:=zO T (D base bo) ⟨rfl,rfl,rfl,rfl,rfl⟩ hr rfl,cs:=T.cs,tb:=T.tb,
    qy:=λ_ k' a' c' Nh h'=>⟨GU h',by obtain⟨f,ps,F,B⟩:=L base bo k' a' c' Nh h';exact⟨lv n,f,ps,F,hr.mono (YN _),B⟩⟩,
    lam:=λ_ _ _ _ _ h=>absurd (show Ξ=Λ from h) (by decide),iQ:=λ_ _ _ _ h=>absurd (show Ξ=Λ from h) (by decide),jc:=λ_ _ _ h=>absurd (show Ξ=Λ from h) (by decide),fld:=zP T rfl,Ob:=zQ T (D base bo) ⟨rfl,rfl,rfl,rfl,rfl⟩ hr rfl,Oc:=zR T (D base bo) ⟨rfl,rfl,rfl,rfl,rfl⟩ hr rfl,nP:=λ_ _ _ _ _ _ _ h=>absurd (show Ξ=Λ from h) (by decide),
    cell:=λx h=>h,nd:=sc.nd,SJ:=λx _=>rfl,own:=abz}
  by_cases Cp:i.1.F.sh=Λ
  ·rw[hW,ek] at aK;simp only[Cp,if_true] at aK;by_cases SN:qs.length=i.1.F.np;·rw[if_pos SN] at aK;refine⟨_,dH i.1.F.body _ _ _ _ Z G Q8,m,aC i.1.F.nn qs,st,by rw[QX];exact wU rq,as,?_⟩;show Ok (mX S K base tabs) Z (aj (callC S.Fs n) i.1.F.body (aC i.1.F.nn qs) st) m H _;cases hx:aj (callC S.Fs n) i.1.F.body (aC i.1.F.nn qs) st with|ex x s=>rw[hx] at aK;exact(show False from aK).elim|no=>rw[hx] at aK;exact(show False from aK).elim|ok f aJ=>rw[hx] at aK;cases f with|bk r=>exact(show False from aK).elim|ct r=>exact(show False from aK).elim|nx r=>exact λm' H' le bV σ _=>(show Ok (mX S K base tabs) Z (R.ok (Y.P.d .bz) aJ) m H _ from aK) m' H' le bV .bz rfl|rt p=>exact λm' H' le bV v rv=>(show Ok (mX S K base tabs) Z (R.ok p aJ) m H _ from aK) m' H' le bV v rv
   ·rw[if_neg SN] at aK;exact(show False from aK).elim
  ·have sr:i.1.F.sh=Ξ:=by cases q:i.1.F.sh with|false=>rfl|true=>exact absurd q Cp
   obtain⟨q2,d,ea,er,h2,_⟩:=lO ek sr aK;obtain⟨Z0,ht⟩:=pO (X:=(xn uR P w K mg base i.1.N i.1.name (av i.1.st) (a k) (fd k).code A outer s H E).EH) (kt:=SK S base tabs) (kb:=mX S K base tabs) QX rq as rfl rfl (λ_ _ _ _ z=>z) rfl ea er h2;exact⟨_,dH i.1.F.body _ _ _ _ Z0 G Q8,ht⟩
 ·obtain⟨mk1,mk2,mk3,mk4⟩:=T.mkr k i hi Q9;have sr:i.1.F.sh=Ξ:=ok4.resolve_left λz=>Q9 (WS.mp z);obtain⟨q2,d,ea,er,h2,_⟩:=lO ek sr aK
  let X:=(xn uR P w K mg base i.1.N i.1.name (av i.1.st) (a k) (fd k).code A outer s H E).EH
  have M:Maker X (cP k).1 (cP k).2 (dq S i):=⟨mk1,bo.code k i hi Q9,bo.bm,mk3⟩;have hc:∀x,(av i.1.st).names.lookup x=Δ .cell->∃c,X.env.cells.lookup x=Δ c:=λx h=>sA h;have eg:GR S i={N:=i.1.N,names:=(av i.1.st).names,fns:=[],hZ:=S.cs,tabs:=S.ts,Qm:=GP S i,Qn:=GQ S i,KE:=λf x n ls=>decide (S.fns[f]?=Δ (x,n))&&Ed S i ls,Qo:=λ_ _ _=>Ξ,cv:=Ξ}:=by
   unfold GR;split;·exact absurd ‹i.2=[]› Q9
   ·rfl
  rw[eg] at Q8;have G:fO X (r6 S base tabs X.env.cells) {N:=i.1.N,names:=(av i.1.st).names,fns:=[],hZ:=S.cs,tabs:=S.ts,Qm:=GP S i,Qn:=GQ S i,KE:=λf x n ls=>decide (S.fns[f]?=Δ (x,n))&&Ed S i ls,Qo:=λ_ _ _=>Ξ,cv:=Ξ} (callC S.Fs n):=
   {N:=rfl,loc:=λx h=>h,HA:=λx h=>h,gl:=λx h=>h,calm:=rfl,hu:=hu,bl:=T.bl,
    fn:=λj x nn h=>by simp at h,cs:=T.cs,tb:=T.tb,
    qy:=λh=>absurd (show Ξ=Λ from h) (by decide),
    lam:=λk' pa Nq sc' pos h Z=>QZ rfl M mk2 mk4 rfl hc h,
    iQ:=λf x nn ls h Z e es bV p pos h1 h2 h3 h4 h5=>by have h':(decide (S.fns[f]?=Δ (x,nn))&&Ed S i ls)=Λ:=h;simp only[WC,qqq] at h';have VH:(av i.1.st).names.lookup x=Δ Zi.globalImplicit:=of_decide_eq_true (show decide ((av i.1.st).names.lookup x=Δ Zi.globalImplicit)=Λ from h2);exact JH (X:=X) (cP:=cP) (i:=i) T rfl (λ_=>rfl) rfl rfl (hr.mono (YN _)) D bo h'.1 h'.2 h1 VH h3 h4 h5
    jc:=λ_ _ _ h=>absurd (show Ξ=Λ from h) (by decide),fld:=λ_ _ h=>absurd (show Ξ=Λ from h) (by decide),Ob:=λ_ _ _ _ h=>absurd (show Ξ=Λ from h) (by decide),Oc:=λ_ _ _ h=>absurd (show Ξ=Λ from h) (by decide)
    nP:=λj k' nm pa Nq sc' pos h Z=>Ni rfl M mk2 mk4 rfl hc rfl sc.nd rfl (λ_=>rfl) h
    cell:=λx h=>h,nd:=sc.nd,SJ:=λx _=>rfl,own:=abz}
  obtain⟨Z0,ht⟩:=pO (X:=X) (kt:=r6 S base tabs X.env.cells) (kb:=mX S K base tabs) QX rq as rfl rfl (λ_ _ _ _ z=>z) rfl ea er h2;exact⟨_,dH i.1.F.body _ _ _ _ Z0 G Q8,ht⟩
theorem CW(T:xY K mg S tabs a fd cP):∀n,(∀base,jM mg S cP base->kT P w K mg S tabs a fd n base)/\(∀base,jM mg S cP base->xZ P w K mg S tabs n base)
 |0=>by
  refine⟨λbase bo k i hi=>?_,λbase bo k b c bT hc=>?_⟩
  ·have no:∀vs H Q E,¬BN (mX S K base tabs) (callC S.Fs 0 k) i.1.F.np vs H Q E:=λvs H Q E ⟨m,Z,qs,st,_,_,_,h⟩=>by rw[tN] at h;exact h
   exact⟨λvs H Q E h=>absurd h (no vs H Q E),λA outer s H args us vs Q E _ _ _ _ h=>absurd h (no vs H Q E)⟩
  ·have no:∀vs H Q E,¬Qp (mX S K base tabs) (callC S.Fs 0 k) c (S.q k) bT vs H Q E:=λvs H Q E ⟨_,m,Z,qs,br,st,_,_,_,h⟩=>by rw[tN] at h;exact h
   obtain⟨VI,VJ,h1,h2⟩:∃(VI:YD) (VJ:List Str),Binds K VI VJ []/\True:=by
    obtain⟨ci,o,sc,cl,_,_,hf,_⟩:=hc;rcases hf with ⟨pa,Nq,pm,ct,rfl,aK⟩|⟨nm,pa,Nq,doc,pm,ct,rfl,aK⟩
    ·unfold pM at aK;simp only[WC] at aK;exact⟨abE "<lambda>" ci.qual pa Nq sc cl pm (.ref c) ct,ci.ps,Binds.all λus hl=>iO aK.1.1.2 rfl hl,trivial⟩
    ·unfold pN at aK;simp only[WC] at aK;exact⟨acg nm ci.qual pa Nq sc cl .none .none doc pm Θ (.ref c) ct,ci.ps,Binds.all λus hl=>iO aK.1.1.2 rfl hl,trivial⟩
   exact⟨VI,VJ,⟨λvs H Q E h=>absurd h (no vs H Q E),λA outer s H args us vs Q E _ _ _ _ h=>absurd h (no vs H Q E)⟩,h1⟩
 |n+1=>by obtain⟨i1,i2⟩:=CW T n;exact⟨λbase bo=>Nt T i1 i2 bo,λbase bo=>Ng T (i1 base bo) (i2 base bo)⟩
theorem JK(ht:∀t∈tabs,t.1∈Ra.map (·.2))(hc:c [.gW ns] []=.ok (.d (.bl Λ)) [])(ho:Cu Ra H)(hs:ke K H b (ns.map V.int)){E:XK}:
  BN (mX S K base tabs) c 1 [.ref b] H (λv _=>v=.bl Λ) E:=by
 refine⟨[],[],[.gW ns],[],rfl,⟨_,_,rfl,⟨b,rfl,?_⟩,rfl⟩,lN (λ_ h=>by cases h) (λt h=>?_),?_⟩
 ·rcases hs with (h|h)|h
  ·rcases ho.1 b with z|⟨o,xs,z⟩|⟨z,_⟩;·rw[h] at z;cases z
   ·rw[h] at z;cases z
   ·rw[h] at z;cases z
  ·exact .inl h
  ·exact .inr h
 ·obtain⟨q,hq,e⟩:=abq.mp (ht t h);exact⟨#[],by rw[<-e];exact ho.2 q hq,trivial,λp hp cv AS=>by cases (show(Θ:Option Value)=Δ cv from AS)⟩
 ·rw[hc];exact λm' H' le as v rv=>rv
end
end Y
namespace Y
open PySem
variable{Fs:List Fn}
@[simp] theorem Rb st x:b8 st (.d x)=Θ:=rfl
@[simp] theorem Nu st x:b8 st (.gW x)=Θ:=rfl
theorem zS:b8 st (.obj n)=(st[n]?).bind λo=>if kH o then Δ o else Θ:=rfl
@[simp] theorem SO xs:kH (.lst xs)=Ξ:=rfl
@[simp] theorem VL kvs:kH (.dK kvs)=Λ:=rfl
theorem uo(h:st[n]?=Δ (.lst xs)):b8 st (.obj n)=Θ:=by rw[zS,h];rfl
theorem lR(h:st[n]?=Δ (.dK kvs)):b8 st (.obj n)=Δ (.dK kvs):=by rw[zS,h];rfl
theorem KP:gE st (.obj n)=bM st (.obj n):=rfl
theorem iU(h:st[n]?=Δ (.lst xs)):bM st (.obj n)=Δ xs:=by show(match st[n]? with|some (.lst xs)=>Δ xs|_=>Θ)=_;rw[h]
@[simp] theorem bF{α:Type}(f:α->D):∀xs:List α,bw (xs.map λx=>P.d (f x))=Δ (xs.map f)
 |[]=>rfl|x::xs=>by simp[bw,IK,bF f xs]
@[simp] theorem fW:∀xs,bw (xs.map P.d)=Δ xs
 |[]=>rfl|x::xs=>by simp[bw,IK,fW xs]
theorem jN{α:Type}{G:P->cj}{g:α->P}{f:α->D}:∀{xs:List α},(∀x∈xs,c (G (g x)) st=.ok Λ st)->(∀x∈xs,e (G (g x)) st=.ok (.d (f x)) st)->cx G c e (xs.map g) st=.ok (xs.map λx=>.d (f x)) st
 |[],_,_=>rfl|x::xs,h,k=>by have ih:=jN (G:=G) (c:=c) (e:=e) (st:=st) (g:=g) (f:=f) (xs:=xs) (λy hy=>h y (WE _ hy)) λy hy=>k y (WE _ hy);simp only[WQ];rw[hU,h x WG,ae,if_pos rfl,k x WG,ae,ih,ae]
theorem cD{α:Type}{xs:List α}{g:α->P}{f:α->D}(hw:bD C w r st=.ok (xs.map g) st1)(hl:xs.length<=aw)(he:∀x∈xs,aa C e (Δ (g x)::bH js r) st1=.ok (.d (f x)) st1):aV C (.comp w 1 js Θ e) r st=.ok (xs.map λx=>.d (f x)) st1:=by rw[jL,hw,ae,if_pos ⟨rfl,by simpa using hl⟩];exact jN (λx _=>rfl) he
def BX:P->Bool
 |.obj _=>Ξ|.lf _=>Ξ|.fn _ br=>cw br|_=>Λ
theorem uq:∀{ps},ps.all BX=Λ->gI st ps=Δ ps/\ps.any isObj=Ξ
 |[],_=>⟨rfl,rfl⟩|p::ps,h=>by rw[ZE,WC] at h;obtain⟨i1,i2⟩:=uq (st:=st) h.2;cases p with|obj n=>cases h.1|lf n=>cases h.1|d x=>exact⟨by simp[gI,xJ,l7,i1],by simp[isObj,i2]⟩|gW ns=>exact⟨by simp[gI,xJ,i1],by simp[isObj,i2]⟩|fn k br=>exact⟨by simp[gI,xJ,i1,show cw br=Λ from h.1],by simp[isObj,i2]⟩
theorem call_of(hF:Fs[k]?=Δ F)(hp:ps.all BX=Λ)(hr:vo (callC Fs n) F ps=Δ d)(Cp:F.sh=Ξ:=by rfl):callC Fs (n+1) k ps st=.ok (.d d) st:=by obtain⟨a1,a2⟩:=uq (st:=st) hp;rw[hW,hF];simp only[Cp,a1,hr,tM,a2,Bool.false_and,Yb,if_false]
theorem CY(hF:Fs[k]?=Δ F)(Cp:F.sh=Λ)(hl:ps.length=F.np)(hr:aj (callC Fs n) F.body (aC F.nn ps) st=.ok (.rt p) aJ):callC Fs (n+1) k ps st=.ok p aJ:=by rw[hW,hF];simp only[Cp,hl,hr,if_true,IV]
theorem cV(hl:ps.length=F.np)(he:aj C F.body (aC F.nn ps) []=.ok (.rt p) st)(hf:l7 st p=Δ d):vo C F ps=Δ d:=by unfold vo;rw[if_pos hl,he];exact hf
class Kf (α β:Type) where
 f:α->aL->R β
def bu{α β:Type}(a:R α)[k:Kf α β]:R β:=a.bind k.f
@[simp] theorem Rc{α β:Type}(a:α)st(f:α->aL->R β):bu (.ok a st) (k:=⟨f⟩)=f a st:=rfl
section
variable{C:Nat->List P->aL->R P}{r:cj}{st:aL}
@[simp] theorem bc i:aa C (.var i) r st=R.of (r[i]?).join st:=rfl
@[simp] theorem SQ o a b:aa C (.op o a b) r st=bu (aa C a r st) (k:=⟨λx st1=>bu (aa C b r st1) (k:=⟨λy st2=>R.of (IL o x y st2) st2⟩)⟩):=rfl
@[simp] theorem Rf a:aa C (.neg a) r st=bu (aa C a r st) (k:=⟨λx st1=>match x with|.d (.int i)=>.ok (.d (.int (-i))) st1|_=>.no⟩):=rfl
@[simp] theorem Rg a:aa C (.not a) r st=bu (aa C a r st) (k:=⟨λx st1=>bu (R.of (mP st1 x) st1) (k:=⟨λb st2=>.ok (.d (.bl (!b))) st2⟩)⟩):=rfl
@[simp] theorem Rh o a b:aa C (.cmp o a b) r st=bu (aa C a r st) (k:=⟨λx st1=>bu (aa C b r st1) (k:=⟨λy st2=>bu (R.of (kI o x y st2) st2) (k:=⟨λb st3=>.ok (.d (.bl b)) st3⟩)⟩)⟩):=rfl
@[simp] theorem Nv o o' a b c:aa C (.chain o o' a b c) r st=bu (aa C a r st) (k:=⟨λx st1=>bu (aa C b r st1) (k:=⟨λy st2=>bu (R.of (kI o x y st2) st2) (k:=⟨λk st3=>if k then bu (aa C c r st3) (k:=⟨λz mj=>bu (R.of (kI o' y z mj) mj) (k:=⟨λb A0=>.ok (.d (.bl b)) A0⟩)⟩) else .ok (.d (.bl Ξ)) st3⟩)⟩)⟩):=rfl
@[simp] theorem Ri c a b:aa C (.ite c a b) r st=bu (aa C c r st) (k:=⟨λx st1=>bu (R.of (mP st1 x) st1) (k:=⟨λk st2=>if k then aa C a r st2 else aa C b r st2⟩)⟩):=rfl
@[simp] theorem Rj es:aa C (.tup es) r st=bu (aA C es r st) (k:=⟨λps st1=>if ps.length<=aw then bu (R.of (bw ps) st1) (k:=⟨λxs st2=>.ok (.d (.tup xs)) st2⟩) else .no⟩):=rfl
theorem cy l:aa C (.lst Ξ l) r st=(aV C l r st).bind λps st1=>(R.of (bw ps) st1).bind λxs st2=>.ok (.d (.pl xs)) st2:=rfl
@[simp] theorem Og l:aa C (.lst Ξ l) r st=bu (aV C l r st) (k:=⟨λps st1=>bu (R.of (bw ps) st1) (k:=⟨λxs st2=>.ok (.d (.pl xs)) st2⟩)⟩):=cy l
theorem gQ l:aa C (.lst Λ l) r st=(aV C l r st).bind λps st1=>.ok (.obj st1.length) (st1++[.lst ps]):=rfl
@[simp] theorem Oh l:aa C (.lst Λ l) r st=bu (aV C l r st) (k:=⟨λps st1=>.ok (.obj st1.length) (st1++[.lst ps])⟩):=gQ l
@[simp] theorem Oi f es:aa C (.call f es) r st=bu (aA C es r st) (k:=⟨λps st1=>C f ps st1⟩):=rfl
@[simp] theorem Rk a T:aa C (.KD a T) r st=bu (aa C a r st) (k:=⟨λx st1=>bu (R.of (IS x st1) st1) (k:=⟨λt st2=>.ok (.d (.bl (mJ t T))) st2⟩)⟩):=rfl
@[simp] theorem SR f es:aa C (.bf f es) r st=bu (aA C es r st) (k:=⟨λps st1=>R.of (uV f ps st1) st1⟩):=rfl
@[simp] theorem SS a b:aa C (.ix a b) r st=bu (aa C a r st) (k:=⟨λx st1=>bu (aa C b r st1) (k:=⟨λy st2=>R.of (BA x y st2) st2⟩)⟩):=rfl
@[simp] theorem Oj es:aV C (.iJ es) r st=bu (aA C es r st) (k:=⟨λps st1=>bu (R.of (sW ps) st1) (k:=⟨λqs st2=>if qs.length<=aw then .ok qs st2 else .no⟩)⟩):=rfl
@[simp] theorem Ol a b:aV C (.zip a b) r st=bu (aa C a r st) (k:=⟨λx st1=>bu (aa C b r st1) (k:=⟨λy st2=>bu (R.of (IU x y) st2) (k:=⟨λzs st3=>.ok (zs.map .d) st3⟩)⟩)⟩):=rfl
@[simp] theorem KQ e js c ee:aV C (.cm e js c ee) r st=bu (aa C e r st) (k:=⟨λx st1=>match x with|.obj n=>cm n (λp=>Δ p::bH js r) (bh C c) (λr' aJ=>aa C ee r' aJ) aw 0 st1|_=>.no⟩):=rfl
@[simp] theorem Nw e:we C (Δ e) r st=bu (aa C e r st) (k:=⟨λx st1=>.ok (Δ x) st1⟩):=rfl
@[simp] theorem Nx e es:aA C (e::es) r st=bu (aa C e r st) (k:=⟨λx st1=>bu (aA C es r st1) (k:=⟨λxs st2=>.ok (x::xs) st2⟩)⟩):=rfl
@[simp] theorem Om e e' es:gh C (e::e'::es) r st=bu (aa C e r st) (k:=⟨λx st1=>match x with|.d (.bl b)=>if b then gh C (e'::es) r st1 else .ok (.d (.bl Ξ)) st1|_=>.no⟩):=rfl
@[simp] theorem Oo e e' es:gi C (e::e'::es) r st=bu (aa C e r st) (k:=⟨λx st1=>match x with|.d (.bl b)=>if b then .ok (.d (.bl Λ)) st1 else gi C (e'::es) r st1|_=>.no⟩):=rfl
@[simp] theorem Ny es:aV C (.e7 es) r st=bu (aA C es r st) (k:=⟨λps st1=>if ps.length<=aw then .ok ps st1 else .no⟩):=rfl
@[simp] theorem Rl e:bD C (.ex e) r st=bu (aa C e r st) (k:=⟨λx st1=>R.of (o8 x) st1⟩):=rfl
@[simp] theorem Oq es:bD C (.iJ es) r st=bu (aA C es r st) (k:=⟨λps st1=>R.of (sW ps) st1⟩):=rfl
@[simp] theorem Nz es:bD C (.xI es) r st=bu (aA C es r st) (k:=⟨λps st1=>R.of (zk ps) st1⟩):=rfl
@[simp] theorem NA e:bD C (.enum e) r st=bu (aa C e r st) (k:=⟨λx st1=>match x with|.d (.tup xs)=>.ok (dk 0 xs) st1|_=>.no⟩):=rfl
@[simp] theorem Rm o i j:IL o (.d (.int i)) (.d (.int j)) st=(mF o i j).map λk=>.d (.int k):=by cases o<;>rfl
@[simp] theorem op_tt xs ys:IL .add (.d (.tup xs)) (.d (.tup ys)) st=if xs.length+ys.length<=aw then Δ (.d (.tup (xs++ys))) else Θ:=rfl
@[simp] theorem op_ss x y:IL .add (.d (.str x)) (.d (.str y)) st=if x.length+y.length<=aw then Δ (.d (.str (x++y))) else Θ:=rfl
@[simp] theorem KR xs ys:IL .add (.d (.pl xs)) (.d (.pl ys)) st=if xs.length+ys.length<=aw then Δ (.d (.pl (xs++ys))) else Θ:=by
 have e:bw (xs.map P.d++ys.map P.d)=Δ (xs++ys):=by rw[<-Xn,fW]
 show(bw (xs.map P.d++ys.map P.d)).bind _=_;rw[e,<-W1];rfl
@[simp] theorem JL i j:mF .add i j=Δ (i+j):=rfl
@[simp] theorem JM i j:mF .sub i j=Δ (i - j):=rfl
theorem fe(h:(-l6 < i/\i < l6)\/(-l6 < j/\j < l6)):mF .mul i j=Δ (i*j):=by unfold mF;simp only[if_pos h]
theorem ff(h:0 < j):mF .mod i j=Δ (i % j):=by unfold mF;simp only[if_pos h]
@[simp] theorem NB b:mP st (.d (.bl b))=Δ b:=rfl
@[simp] theorem VM:IS (.d .bz) st=Δ "NoneType":=rfl
@[simp] theorem ty_bl b:IS (.d (.bl b)) st=Δ "bool":=rfl
@[simp] theorem ty_int b:IS (.d (.int b)) st=Δ "int":=rfl
@[simp] theorem ty_str b:IS (.d (.str b)) st=Δ "str":=rfl
@[simp] theorem VN b:IS (.d (.tup b)) st=Δ "tuple":=rfl
@[simp] theorem ty_pl b:IS (.d (.pl b)) st=Δ "list":=rfl
@[simp] theorem NC i j:kI .lt (.d (.int i)) (.d (.int j)) st=Δ (decide (i < j)):=rfl
@[simp] theorem VO i j:kI .le (.d (.int i)) (.d (.int j)) st=Δ (decide (i<=j)):=rfl
@[simp] theorem cmp_gt i j:kI .gt (.d (.int i)) (.d (.int j)) st=Δ (decide (j < i)):=rfl
@[simp] theorem VP i j:kI .ge (.d (.int i)) (.d (.int j)) st=Δ (decide (j<=i)):=rfl
@[simp] theorem VQ x y:kI .eq (.d x) (.d y) st=uU x y:=rfl
@[simp] theorem VR x y:kI .ne (.d x) (.d y) st=(uU x y).map not:=rfl
@[simp] theorem SU x y:uU (.str x) (.str y)=Δ (x==y):=rfl
@[simp] theorem SV x y:uU (.int x) (.int y)=Δ (x==y):=rfl
@[simp] theorem VS x y:uU (.bl x) (.bl y)=Δ (x==y):=rfl
@[simp] theorem VT y:uU .bz (.int y)=Δ Ξ:=rfl
@[simp] theorem VU xs:uU (.tup xs) (.tup [])=Δ xs.isEmpty:=by have h:min (mM (.tup xs)) (mM (.tup []))<=100:=Xo (ZS _ _) (by decide);unfold uU;rw[if_pos h];cases xs<;>rfl
@[simp] theorem VW xs:uU (.pl xs) (.pl [])=Δ xs.isEmpty:=by have h:min (mM (.pl xs)) (mM (.pl []))<=100:=Xo (ZS _ _) (by decide);unfold uU;rw[if_pos h];cases xs<;>rfl
@[simp] theorem SX xs:uV .len [.d (.tup xs)] st=Δ (.d (.int xs.length)):=congrArg (λn:Nat=>Δ (P.d (.int n))) (WJ ..)
@[simp] theorem SY xs:uV .len [.d (.pl xs)] st=Δ (.d (.int xs.length)):=congrArg (λn:Nat=>Δ (P.d (.int n))) (WJ ..)
@[simp] theorem S0 ns:uV .len [.gW ns] st=Δ (.d (.int ns.length)):=congrArg (λn:Nat=>Δ (P.d (.int n))) (WJ ..)
@[simp] theorem S2 xs:uV .tuple [.d (.pl xs)] st=Δ (.d (.tup xs)):=congrArg (λo:Option (List D)=>o.map λys=>P.d (.tup ys)) (fW xs)
theorem ya:mf (xs.map f) i=(mf xs i).map f:=by unfold mf;rw[WJ];cases Bc xs.length i with|none=>rfl|some k=>exact WL ..
@[simp] theorem ix_t xs i:BA (.d (.tup xs)) (.d (.int i)) st=(mf xs i).map .d:=by exact ya
@[simp] theorem Rn xs i:BA (.d (.pl xs)) (.d (.int i)) st=(mf xs i).map .d:=by exact ya
@[simp] theorem ix_s ns i:BA (.gW ns) (.d (.int i)) st=(mf ns i).map λk=>.d (.int k):=by exact ya
@[simp] theorem dit_t xs:o8 (.d (.tup xs))=Δ (xs.map .d):=rfl
@[simp] theorem dit_l xs:o8 (.d (.pl xs))=Δ (xs.map .d):=rfl
@[simp] theorem sit_t xs:gE st (.d (.tup xs))=Δ (xs.map .d):=rfl
@[simp] theorem sit_l xs:gE st (.d (.pl xs))=Δ (xs.map .d):=rfl
@[simp] theorem Ot:Gb Θ=Δ Θ:=rfl
@[simp] theorem Ro i:Gb (Δ (.d (.int i)))=Δ (Δ i):=rfl
@[simp] theorem S3 x ps:bw (.d x::ps)=(bw ps).map λxs=>x::xs:=rfl
@[simp] theorem VX:bw []=Δ []:=rfl
theorem cW{α:Type}{xs:List α}{k:Nat}{a:α}(h:xs[k]?=Δ a):mf xs (k:Int)=Δ a:=by have hk:=(qqz h).1;unfold mf Bc;rw[if_pos (by lia),if_pos (by lia)];simpa using h
@[simp] theorem atI0{α:Type}(a:α)xs:mf (a::xs) 0=Δ a:=cW (k:=0) rfl
@[simp] theorem atI1{α:Type}(a b:α)xs:mf (a::b::xs) 1=Δ b:=cW (k:=1) rfl
theorem ag(h:aQ C s r st=.ok (.nx r1) st1)(k:aj C rest r1 st1=res):aj C (s::rest) r st=res:=by rw[iR,h,ae];exact k
theorem bA(h:aQ C s r st=.ok (.rt v) st1):aj C (s::rest) r st=.ok (.rt v) st1:=by rw[iR,h,ae]
theorem aG:aj C [] r st=.ok (.nx r) st:=by rw[tK]
theorem dS(h:aa C e r st=.ok v st1):aQ C (.ret e) r st=.ok (.rt v) st1:=by rw[pd,h,ae]
theorem bp(h:aa C e r st=.ok v st1):aQ C (.set i e) r st=.ok (.nx (r.set i (Δ v))) st1:=by rw[pf,h,ae]
theorem zT(hc:aa C c r st=.ok (.d (.bl Λ)) st1)(h:aj C a r st1=res):aQ C (.ifs c a b) r st=res:=by rw[ph,bI,hc];simpa using h
theorem w4(hc:aa C c r st=.ok (.d (.bl Ξ)) st1)(h:aj C b r st1=res):aQ C (.ifs c a b) r st=res:=by rw[ph,bI,hc];simpa using h
theorem ij(hw:bD C w r st=.ok ps st1)(h:forL (jm t) (aj C b) ps r st1=res):aQ C (.g8 t w b) r st=res:=by rw[tB,hw,ae];exact h
theorem yb(h:n - i < k+1)(hi:i < n):n - (i+1) < k:=W7 (Zf _ _ hi) (Nat.le_of_lt_succ h)
theorem ur(hc:∀r st f aJ,st[n]?=Δ (.lst xs)->c r st=.ok f aJ->aJ[n]?=Δ (.lst xs))(he:∀r st f aJ,st[n]?=Δ (.lst xs)->e r st=.ok f aJ->aJ[n]?=Δ (.lst xs)):
  ∀(k i) (st),st[n]?=Δ (.lst xs)->xs.length - i < k->cm n g c e k i st=cx g c e (xs.drop i) st
 |0,i,st,_,hk=>absurd hk (Za _)|k+1,i,st,hs,hk=>by
  have ha:wd n st i=Δ xs[i]?:=by unfold wd;rw[hs]
  rw[mS,ha];by_cases hi:i < xs.length;·rw[WI hi,Yg hi,hU];dsimp only;cases hx:c (g xs[i]) st with|ex x s=>rfl|no=>rfl|ok b st1=>rw[ae,ae];have h1:=hc _ st b st1 hs hx;cases b with|false=>exact ur hc he k (i+1) st1 h1 (yb hk hi)|true=>simp only[if_true];cases hy:e (g xs[i]) st1 with|ex x s=>rfl|no=>rfl|ok y st2=>rw[ae,ae,ur hc he k (i+1) st2 (he _ st1 y st2 h1 hy) (yb hk hi)]
  ·rw[Xb (by lia),List.drop_eq_nil_of_le (by lia),wF]
theorem GZ(he:aa C e r st=.ok (.obj n) st1)(h:iE n (jm t) (aj C b) dP 0 r st1=res):aQ C (.iE t e b) r st=res:=by rw[tD,he,ae];exact h
theorem my(ha:aa C a r st=.ok x st1)(hl:bM st1 x=Δ its)(he:aa C e r st1=.ok v st2)(hp:xK x v st2=Δ st3):aQ C (.app a e) r st=.ok (.nx r) st3:=by rw[wz,ha,ae,hl,ay,ae,he,ae,hp,ay,ae]
theorem uu(he:aa C e r st=.ok v st1)(ha:aa C a r st1=.ok x st2)(hi:aa C i r st2=.ok k st3)(hp:qU x k v st3=Δ mj):aQ C (.put a i e) r st=.ok (.nx r) mj:=by rw[wA,he,ae,ha,ae,hi,ae,hp,ay,ae]
end
end Y
namespace Y
open PySem
section
variable{C:Nat->List P->aL->R P}{r:cj}{st:aL}
theorem zU i es:aa C (.nS i es) r st=(R.of (r[i]?).join st).bind λp jK=>(aA C es r jK).bind λps st1=>match p with|.fn k br=>C k (ps++br) st1|_=>.no:=rfl
theorem CZ c f i:aa C (.attr c f i) r st=(R.of (r[i]?).join st).bind λx st1=>R.of ((o7 c st1 x).bind λq=>q.2.lookup f) st1:=rfl
theorem JN k c m i es:aa C (.o6 k c m i es) r st=(R.of (r[i]?).join st).bind λx jK=>(R.of ((o7 c jK x).bind λq=>if(q.2.lookup m).isNone then Δ () else Θ) jK).bind λ_ jK=>(aA C es r jK).bind λps st1=>C k (x::ps) st1:=rfl
theorem zV w js c e:aV C (.comp w 1 js c e) r st=(bD C w r st).bind λps st1=>if ps.length<=aw then cx (λp=>Δ p::bH js r) (bh C c) (λr' aJ=>aa C e r' aJ) ps st1 else .no:=by rw[jL];simp
theorem mY(h:aa C e r st=.ok v st1):aQ C (.expr e) r st=.ok (.nx r) st1:=by rw[tH,h,ae]
theorem ND i k:aQ C (.nP i k) r st=.ok (.nx (r.set i (Δ (.lf k)))) st:=by rw[tI]
theorem uv(he:aa C e r st=.ok v st1)(hi:(r[i]?).join=Δ x)(hq:o7 c st1 x=Δ (n,fs))(hl:fs.length < 1000):aQ C (.lZ c f i e) r st=.ok (.nx r) (st1.set n (.ins c (vn f v fs))):=by have Cq:kg r i=Δ x:=hi;rw[tJ,he,ae,Cq,ay,ae,hq];simp[hl]
theorem NG(he:aa C e r st=.ok (.obj n) st1)(hs:st1[n]?=Δ (.dK kvs))(h:mQ i j (aj C b) kvs r (st1.set n .vm)=.ok f st2):aQ C (.Bz i j e b) r st=.ok f (st2.set n (.dK kvs)):=by
 rw[tF,he,ae];have:sV st1 (.obj n)=Δ (n,kvs):=by simp[sV,hs]
 rw[this,ay,ae];dsimp only;rw[h,ae]
theorem NH(he:aa C e r st=.ok (.obj n) st1)(h:jd n i j (aj C b) dP 0 r st1=res):aQ C (.jd i j e b) r st=res:=by rw[tG,he,ae];exact h
theorem C0(h:gF (bI (aa C c)) (aj C b) dP r st=res):aQ C (.kE c b) r st=res:=by rw[nW];exact h
theorem cL{I:Nat->cj->aL->Prop}:∀{ps} {k} {r} {st},(∀i p r st,I (k+i) r st->ps[i]?=Δ p->∃r1 r2 st1,g p r=Δ r1/\b r1 st=.ok (.nx r2) st1/\I (k+i+1) r2 st1)->I k r st->
  ∃r' aJ,forL g b ps r st=.ok (.nx r') aJ/\I (k+ps.length) r' aJ
 |[],k,r,st,_,h=>⟨r,st,rfl,h⟩|p::ps,k,r,st,hs,h=>by obtain⟨r1,r2,st1,h1,h2,h3⟩:=hs 0 p r st h rfl;obtain⟨r',aJ,e,q⟩:=cL (g:=g) (b:=b) (I:=I) (ps:=ps) (k:=k+1) (r:=r2) (st:=st1) (λi p r st hi hp=>by have:=hs (i+1) p r st (by rw[show k+(i+1)=k+1+i from XQ k i 1];exact hi) (by simpa using hp);rw[show k+(i+1)+1=k+1+i+1 from congrArg (·+1) (XQ k i 1)] at this;exact this) h3;refine⟨r',aJ,?_,by rw[WZ,show k+(ps.length+1)=k+1+ps.length from XQ k ps.length 1];exact q⟩;rw[wB,h1,ay,ae,h2,ae];exact e
theorem zW{I:Nat->cj->aL->Prop}:∀{ps} {k} {r} {st},(∀i kv r st,I (k+i) r st->ps[i]?=Δ kv->∃r2 st1,b ((r.set x (Δ (xM kv.1))).set y (Δ kv.2)) st=.ok (.nx r2) st1/\I (k+i+1) r2 st1)->I k r st->
  ∃r' aJ,mQ x y b ps r st=.ok (.nx r') aJ/\I (k+ps.length) r' aJ
 |[],k,r,st,_,h=>⟨r,st,rfl,h⟩|p::ps,k,r,st,hs,h=>by obtain⟨r2,st1,h2,h3⟩:=hs 0 p r st h rfl;obtain⟨r',aJ,e,q⟩:=zW (x:=x) (y:=y) (b:=b) (I:=I) (ps:=ps) (k:=k+1) (r:=r2) (st:=st1) (λi p r st hi hp=>by have:=hs (i+1) p r st (by rw[show k+(i+1)=k+1+i from XQ k i 1];exact hi) (by simpa using hp);rw[show k+(i+1)+1=k+1+i+1 from congrArg (·+1) (XQ k i 1)] at this;exact this) h3;refine⟨r',aJ,?_,by rw[WZ,show k+(ps.length+1)=k+1+ps.length from XQ k ps.length 1];exact q⟩;rw[wC,h2,ae];exact e
theorem uw{I:Nat->cj->aL->Prop}(hI:∀i r st,I i r st->st[n]?=Δ (.lst xs))(hs:∀i p r st,I i r st->xs[i]?=Δ p->∃r1 r2 st1,g p r=Δ r1/\b r1 st=.ok (.nx r2) st1/\I (i+1) r2 st1):
  ∀(k) {i} {r} {st},I i r st->i<=xs.length->xs.length - i < k->∃r' aJ,iE n g b k i r st=.ok (.nx r') aJ/\I xs.length r' aJ
 |0,i,r,st,_,_,hk=>absurd hk (Za _)|k+1,i,r,st,h,hi,hk=>by
  have ha:wd n st i=Δ xs[i]?:=by unfold wd;rw[hI i r st h]
  rw[pA,ha];by_cases eB:i < xs.length;·obtain⟨r1,r2,st1,h1,h2,h3⟩:=hs i xs[i] r st h (WI eB);obtain⟨r',aJ,e,q⟩:=uw hI hs k h3 eB (yb hk eB);refine⟨r',aJ,?_,q⟩;rw[WI eB];dsimp only;rw[h1,ay,ae,h2,ae];exact e
  ·have e:i=xs.length:=by lia
   subst e;refine⟨r,st,?_,h⟩;rw[Xb (by lia)]
theorem zX{I:Nat->cj->aL->Prop}(hI:∀i r st,I i r st->st[n]?=Δ (.lst xs))(hs:∀i p r st,I i r st->xs[i]?=Δ p->∃r2 st1,b ((r.set x (Δ (.d (.int i)))).set y (Δ p)) st=.ok (.nx r2) st1/\I (i+1) r2 st1):
  ∀(k) {i} {r} {st},I i r st->i<=xs.length->xs.length - i < k->∃r' aJ,jd n x y b k i r st=.ok (.nx r') aJ/\I xs.length r' aJ
 |0,i,r,st,_,_,hk=>absurd hk (Za _)|k+1,i,r,st,h,hi,hk=>by
  have ha:wd n st i=Δ xs[i]?:=by unfold wd;rw[hI i r st h]
  rw[pB,ha];by_cases eB:i < xs.length;·obtain⟨r2,st1,h2,h3⟩:=hs i xs[i] r st h (WI eB);obtain⟨r',aJ,e,q⟩:=zX hI hs k h3 eB (yb hk eB);refine⟨r',aJ,?_,q⟩;rw[WI eB];dsimp only;rw[h2,ae];exact e
  ·have e:i=xs.length:=by lia
   subst e;refine⟨r,st,?_,h⟩;rw[Xb (by lia)]
theorem pP{I:Nat->cj->aL->Prop}{E:cj->aL->Prop}(hs:∀k r st,I k r st->(c r st=.ok Ξ st/\E r st)\/(∃j,k=j+1/\c r st=.ok Λ st/\∃r2 st1,b r st=.ok (.nx r2) st1/\I j r2 st1)):
  ∀(n) {k} {r} {st},I k r st->k < n->∃r' aJ,gF c b n r st=.ok (.nx r') aJ/\E r' aJ
 |0,k,r,st,_,hk=>absurd hk (Za _)|n+1,k,r,st,h,hk=>by
  rcases hs k r st h with ⟨h1,h2⟩|⟨j,rfl,h1,r2,st1,h2,h3⟩
  ·exact⟨r,st,by rw[kL,h1,ae];rfl,h2⟩
  ·obtain⟨r',aJ,e,q⟩:=pP hs n h3 (by lia);refine⟨r',aJ,?_,q⟩;rw[kL,h1,ae];simp only[if_true];rw[h2,ae];exact e
theorem pQ{I:Nat->List P->aL->Prop}:∀{ps} {k} {ys} {st},(∀i p ys st,I (k+i) ys st->ps[i]?=Δ p->∃y st1,c (g p) st=.ok Λ st/\e (g p) st=.ok y st1/\I (k+i+1) (ys++[y]) st1)->I k ys st->
  ∃zs aJ,cx g c e ps st=.ok zs aJ/\I (k+ps.length) (ys++zs) aJ
 |[],k,ys,st,_,h=>⟨[],st,rfl,by simpa using h⟩|p::ps,k,ys,st,hs,h=>by obtain⟨y,st1,h1,h2,h3⟩:=hs 0 p ys st h rfl;obtain⟨zs,aJ,e',q⟩:=pQ (g:=g) (c:=c) (e:=e) (I:=I) (ps:=ps) (k:=k+1) (ys:=ys++[y]) (st:=st1) (λi p ys st hi hp=>by have:=hs (i+1) p ys st (by rw[show k+(i+1)=k+1+i from XQ k i 1];exact hi) (by simpa using hp);rw[show k+(i+1)+1=k+1+i+1 from congrArg (·+1) (XQ k i 1)] at this;exact this) h3;refine⟨y::zs,aJ,?_,by rw[WZ,show k+(ps.length+1)=k+1+ps.length from XQ k ps.length 1];simpa using q⟩;rw[hU,h1,ae];simp only[if_true];rw[h2,ae,e',ae]
end
theorem kU(hF:Fs[k]?=Δ F)(Cp:F.sh=Λ)(hl:ps.length=F.np)(hr:aj (callC Fs n) F.body (aC F.nn ps) st=.ok (.nx r) aJ):callC Fs (n+1) k ps st=.ok (.d .bz) aJ:=by rw[hW,hF];simp only[Cp,if_true,hl,hr,IV]
theorem JO{A L B:aL}(h:t < L.length):(A++L++B).set (A.length+t) x=A++L.set t x++B:=by rw[Xt,aay _ _ (by lia),Xt];congr 1;rw[Nat.add_sub_cancel_left,List.set_append_left _ _ h]
theorem JP{A L B:aL}(h:t < L.length):(A++L++B)[A.length+t]?=L[t]?:=by rw[Xt,W5 (by lia),Nat.add_sub_cancel_left,WK h]
theorem lS:∀(xs) (k i:Nat),(dk k xs)[i]?=(xs[i]?).map λx=>.d (.tup [.int ((k+i:Nat):Int),x])
 |[],k,i=>by simp[dk]|x::xs,k,0=>by simp[dk]|x::xs,k,i+1=>by rw[dk,WT,lS xs (k+1) i,WT,show k+1+i=k+(i+1) from XQ k 1 i]
theorem lU:∀(xs) (k),(dk k xs).length=xs.length
 |[],k=>rfl|x::xs,k=>by rw[dk,WZ,WZ,lU xs (k+1)]
theorem gG{i:Nat}(h:st[n]?=Δ (.lst xs))(hp:xs[i]?=Δ p):BA (.obj n) (.d (.int (i:Int))) st=Δ p:=by unfold BA;rw[uo h];show(gE st (.obj n)).bind (λxs=>mf xs (i:Int))=_;rw[KP,iU h];exact cW hp
theorem gR(h:st[n]?=Δ (.lst xs))(hl:xs.length < aw):xK (.obj n) v st=Δ (st.set n (.lst (xs++[v]))):=by unfold xK;simp[h,hl]
theorem iV(h:st[n]?=Δ (.lst xs)):uV .len [.obj n] st=Δ (.d (.int xs.length)):=by show(match b8 st (.obj n) with|some o=>Δ (P.d (.int (IQ o)))|none=>(gE st (.obj n)).map λxs:List P=>P.d (.int xs.length))=_;rw[uo h,KP,iU h];rfl
theorem G0(h:st[n]?=Δ (.dK kvs)):uV .len [.obj n] st=Δ (.d (.int kvs.length)):=by show(match b8 st (.obj n) with|some o=>Δ (P.d (.int (IQ o)))|none=>(gE st (.obj n)).map λxs:List P=>P.d (.int xs.length))=_;rw[lR h];rfl
theorem yc{n i:Nat}{xs:List P}{v:P}(h:st[n]?=Δ (.lst xs))(hi:i < xs.length):qU (.obj n) (.d (.int (i:Int))) v st=Δ (st.set n (.lst (xs.set i v))):=by
 have:Bc xs.length (i:Int)=Δ i:=by unfold Bc;simp;lia
 unfold qU;simp[h,DR,this]
theorem JQ:uV .tuple [.obj n] st=(bM st (.obj n)).bind λxs=>(bw xs).map λys=>.d (.tup ys):=rfl
theorem Rp:bM (.lst xs::st) (.obj 0)=Δ xs:=rfl
theorem VY(h:n+1<=f+j)(h1:j < l)(h2:l<=n):∃f',f=f'+1:=⟨f - 1,by lia⟩
theorem VZ(h:k=n - j)(h1:l<=n)(h2:j < l):k=n - (j+1)+1:=by lia
theorem JR{α:Type}{l:List α}i(h:l.length < 1000000):(l.take i).length < aw:=Nat.lt_of_le_of_lt (List.length_take_le' ..) (aap h (by decide))
noncomputable def cell(ns:List Int)(k:Nat):Int:=ns.getD k 0
def zY(ns:List Int)(k:Nat):Int:=(cell ns k+7919*k+1)*48271 % 2147483647
def mixed(ns:List Int)(k:Nat):Int:=(zY ns k*zY ns k+7*zY ns k+k) % 2147483629
theorem bN i{j:Int}(h:0 < j):0<=i % j/\i % j < j:=⟨Int.emod_nonneg _ (by lia),Int.emod_lt_of_pos _ h⟩
noncomputable def zZ(x:Int)(k:Nat):Int:=(x+104729*k+17)*69621 % 2147483647
def drawn(x:Int)(k:Nat):Int:=(zZ x k*zZ x k+3*zZ x k+k) % 2147483629
abbrev dU:=List (Nat×List Nat)
noncomputable def nD(n:Nat):D:=.int (n:Int)
def wD(u:List Nat):D:=.tup (u.map nD)
def gc(s:Nat×List Nat):D:=.tup [nD s.1,wD s.2]
def mD(m:dU):D:=.tup (m.map gc)
structure fF(w:Nat)(m:dU):Prop where
 ne:0 < m.length
 good:∀s∈m,s.1<=1
 len:∀s∈m,s.2.length=w
 lt:∀s∈m,∀t∈s.2,t < m.length
noncomputable def row(m:dU)(s:Nat):Nat×List Nat:=m.getD s (0,[])
def bg(m:dU)(s a:Nat):Nat:=(row m s).2.getD a 0
def gd(m:dU)(s:Nat):Nat:=(row m s).1
def walk(m:dU)(s:Nat)(u:List Nat):Nat:=u.foldl (bg m) s
def jt(m:dU)(u:List Nat):Bool:=gd m (walk m 0 u)==1
theorem bP(h:s < m.length):row m s∈m:=by unfold row;rw[WN,WI h];exact Xz h
theorem yd(h:s < m.length):m[s]?=Δ (row m s):=by unfold row;rw[WN,WI h];rfl
theorem fF.bg{w:Nat}{m:dU}(k:fF w m){s a:Nat}(hs:s < m.length)(ha:a < w):bg m s a < m.length:=by have hr:=bP hs;have hl:=k.len _ hr;unfold Y.bg;rw[WN,WI (by lia)];exact k.lt _ hr _ (Xz _)
theorem fF.walk{w:Nat}{m:dU}(k:fF w m):∀{u:List Nat} {s:Nat},s < m.length->(∀a∈u,a < w)->walk m s u < m.length
 |[],s,hs,_=>hs|a::u,s,hs,hu=>fF.walk (u:=u) k (k.bg hs (hu a WG)) λb hb=>hu b (WE _ hb)
theorem G1 m s u v:walk m s (u++v)=walk m (walk m s u) v:=Zj ..
theorem G3{s:Nat}(h:s < m.length):mf (m.map gc) (s:Int)=Δ (gc (row m s)):=cW (by rw[WL,yd h];rfl)
theorem Rq(k:fF w m)(h:s < m.length)(ha:a < w):mf ((row m s).2.map nD) (a:Int)=Δ (nD (bg m s a)):=by have hl:=k.len _ (bP h);refine cW ?_;rw[WL,WI (by lia)];unfold bg;rw[WN,WI (by lia)];rfl
theorem JS(k:fF w m)(h:s < m.length)(ha:a < w)(e1:aa C em r st=.ok (.d (mD m)) st)(e2:aa C es r st=.ok (.d (.int (s:Int))) st)(e3:aa C ea r st=.ok (.d (.int (a:Int))) st):
  aa C (.ix (.ix (.ix em es) (.cst (.int 1))) ea) r st=.ok (.d (.int (bg m s a:Nat))) st:=by
 simp[e1,e2,e3,mD,G3 h,gc,wD,Rq k h ha,nD]
theorem C1{r:cj}{st:aL}{m:dU}{em es:E}{s:Nat}(h:s < m.length)(e1:aa C em r st=.ok (.d (mD m)) st)(e2:aa C es r st=.ok (.d (.int (s:Int))) st):
  aa C (.ix (.ix em es) (.cst (.int 0))) r st=.ok (.d (.int (gd m s:Nat))) st:=by
 simp[e1,e2,mD,G3 h,gc,nD,gd]
theorem w6{r:cj}{iM iS iL w:Nat}(k:fF w m)(hM:r[iM]?=Δ (Δ (.d (mD m))))(h1:iM≠iS)(h2:iM≠iL)(h3:iS≠iL)(hS:iS < r.length)(hL:iL < r.length):
  ∀(u) (s) (x),s < m.length->(∀a∈u,a < w)->
  ∃y,forL (jm (.nm iL)) (aj C [.set iS (.ix (.ix (.ix (.var iM) (.var iS)) (.cst (.int 1))) (.var iL))]) ((u.map nD).map P.d) ((r.set iS (Δ (.d (.int (s:Int))))).set iL x) st
   =.ok (.nx ((r.set iS (Δ (.d (.int (walk m s u:Nat))))).set iL y)) st
 |[],s,x,_,_=>⟨x,rfl⟩|a::u,s,x,hs,hu=>by
  have ha:=hu a WG;obtain⟨y,ih⟩:=w6 (C:=C) (st:=st) k hM h1 h2 h3 hS hL u (bg m s a) (Δ (.d (.int (a:Int)))) (k.bg hs ha) λb hb=>hu b (WE _ hb);refine⟨y,?_⟩;rw[WQ,WQ,forL,jm,ay,ae,List.set_set];have e:aj C [.set iS (.ix (.ix (.ix (.var iM) (.var iS)) (.cst (.int 1))) (.var iL))] ((r.set iS (Δ (.d (.int (s:Int))))).set iL (Δ (.d (nD a)))) st
    =.ok (.nx ((r.set iS (Δ (.d (.int (bg m s a:Nat))))).set iL (Δ (.d (.int (a:Int)))))) st:=by
   refine ag (bp (st1:=st) (JS k hs ha ?_ ?_ ?_)) ?_;·rw[bc,WH (λz=>h2 z.symm),WH (λz=>h1 z.symm),hM];rfl
   ·rw[bc,WH (λz=>h3 z.symm),W4 hS];rfl
   ·rw[bc,W4 (by simpa using hL)];rfl
   ·rw[aG,List.set_comm _ _ (λz=>h3 z.symm),List.set_set];rfl
  rw[e,ae];exact ih
def HH(x:Int)(w c:Nat):dU:=(WB c).map λk=>((drawn x (7*k+5) % 3 % 2).toNat,(WB w).map λl=>(drawn x (7*k+l) % (c:Int)).toNat)
theorem NI x w(hc:0 < c):fF w (HH x w c):=by
 refine⟨by simp[HH];exact hc,λs hs=>?_,λs hs=>?_,λs hs t ht=>?_⟩<;>
  (simp only[HH,abq,XX] at hs;obtain⟨k,hk,rfl⟩:=hs)
 ·have:=bN (drawn x (7*k+5) % 3) (show(0:Int) < 2 by decide);dsimp only;lia
 ·simp
 ·simp only[abq,XX] at ht;obtain⟨l,hl,rfl⟩:=ht;have:=bN (drawn x (7*k+l)) (show(0:Int) < (c:Int) by lia);simp only[HH,WJ,Xa];lia
theorem JT x w c:(HH x w c).length=c:=by simp[HH]
theorem V0{j:Nat}(h:j < 1000000):sW [.d (.int (j:Int))]=Δ ((WB j).map λk=>.d (.int (k:Int))):=by
 have c1: -gD<=(j:Int)/\(j:Int) < gD:=by unfold gD;lia
 unfold sW;simp only[if_pos c1,Ge];congr 1;simp
theorem fg{j:Nat}(h:aa C e r st=.ok (.d (.int (j:Int))) st)(hj:j < 1000000):bD C (.iJ [e]) r st=.ok ((WB j).map λk:Nat=>.d (.int (k:Int))) st:=by rw[wy,aq,h,ae,aB,ae,ae,V0 hj,ay]
theorem Rr(n:Nat):((n:Int)==1)=(n==1):=by rw[abA];simp;lia
end Y
namespace Y
abbrev Wd(w:Nat)(u:List Nat):Prop:=∀a∈u,a < w
theorem Wd.nil:Wd w []:=λa h=>by cases h
theorem Wd.cons(ha:a < w)(h:Wd w u):Wd w (a::u):=λb hb=>by
 rcases Z3.mp hb with z|z;·rw[z];exact ha
 ·exact h b z
theorem Wd.tail(h:Wd w (a::u)):Wd w u:=λb hb=>h b (WE _ hb)
theorem Wd.head(h:Wd w (a::u)):a < w:=h a WG
theorem Wd.app(h:Wd w u)(h':Wd w v):Wd w (u++v):=λb hb=>by
 rcases Z5.mp hb with z|z;·exact h b z
 ·exact h' b z
def lV(w:Nat)(m:dU)(s:Nat)(m':dU)(s':Nat):Prop:=∀u,Wd w u->gd m (walk m s u)=gd m' (walk m' s' u)
theorem lV.refl:lV w m s m s:=λ_ _=>rfl
theorem lV.symm(h:lV w m s m' s'):lV w m' s' m s:=λu hu=>(h u hu).symm
theorem lV.trans(h:lV w m s m' s')(h':lV w m' s' m2 s2):lV w m s m2 s2:=λu hu=>(h u hu).trans (h' u hu)
theorem lV.step(h:lV w m s m' s')(ha:a < w):lV w m (bg m s a) m' (bg m' s' a):=λu hu=>h (a::u) (hu.cons ha)
theorem lV.good(h:lV w m s m' s'):gd m s=gd m' s':=h [] Wd.nil
def Red(w:Nat)(m:dU):Prop:=∀s t,s < m.length->t < m.length->lV w m s m t->s=t
noncomputable def ux:List Nat->Nat->Option Nat
 |[],c=>Δ c|s::ss,c=>if s < c then ux ss c else if s=c then ux ss (c+1) else Θ
def uy:dU->Nat->Nat->Option Nat
 |[],_,c=>Δ c|q::qs,k,c=>if k < c then(ux q.2 c).bind λc'=>uy qs (k+1) c' else Θ
structure KS(w:Nat)(m:dU):Prop where
 ok:fF w m
 red:Red w m
 ord:uy m 0 1=Δ m.length
end Y
namespace Y
open Classical
variable{w:Nat}{m:dU}
end Y
namespace Y
open PySem
section
section
variable{α:Type}[DecidableEq α]
theorem kW{ss xs:List α}(hn:ss.Nodup)(hs:∀s∈ss,s∈xs):ss.length<=xs.length:=by
 induction ss generalizing xs with
 |nil=>simp|cons s ss ih=>
  rw[Yy] at hn;have h1:s∈xs:=hs s WG;have:=ih (xs:=xs.erase s) hn.2 λt ht=>by have:t≠s:=λz=>hn.1 (z▸ht);exact(aaI this).mpr (hs t (WE _ ht))
  rw[Z4 h1] at this;have:=YV h1;simp
  lia
end
variable{w:Nat}{m:dU}
end
noncomputable def V1(q:Nat×Nat):List (Sum Int Str):=[.inl (q.1:Int),.inl (q.2:Int)]
theorem Ou i j:mN (.d (.tup [nD i,nD j]))=Δ (V1 (i,j)):=rfl
end Y
namespace Y
structure nq where
 grp:List Nat
 mem:List (List Nat)
 wait:List Nat
 iC:List Bool
noncomputable def putAll(fresh:Nat)(ss:List Nat)(g:List Nat):List Nat:=ss.foldl (λg s=>g.set s fresh) g
def az(h:nq)(g:Nat)(ss:List Nat):nq:=
 if ss.length=(h.mem.getD g []).length then h else
  let rest:=(h.mem.getD g []).filter λs=>decide (s∉ss)
  let mem:=h.mem.set g rest++[ss]
  let grp:=putAll h.mem.length ss h.grp
  if h.iC.getD g Ξ=Λ\/ss.length<=rest.length then⟨grp,mem,h.wait++[h.mem.length],(h.iC++[Ξ]).set h.mem.length Λ⟩
  else⟨grp,mem,h.wait++[g],(h.iC++[Ξ]).set g Λ⟩
noncomputable def dw:List (Nat×List Nat)->Nat->Nat->List (Nat×List Nat)
 |[],g,s=>[(g,[s])]|(k,ss)::d,g,s=>if k=g then(k,ss++[s])::d else(k,ss)::dw d g s
def cz(grp:List Nat)(l:List Nat):List (Nat×List Nat):=l.foldl (λd s=>dw d (grp.getD s 0) s) []
def dI(m:dU)(a t:Nat):List Nat:=(WB m.length).filter λs=>decide (bg m s a=t)
def dY(m:dU)(h:nq)(T:List Nat)(a:Nat):nq:=(cz h.grp (T.flatMap (dI m a))).foldl (λh e=>az h e.1 e.2) h
theorem mZ:∀{ss g},(putAll fresh ss g).length=g.length
 |[],g=>rfl|s::ss,g=>by unfold putAll;rw[YR];exact(mZ (ss:=ss)).trans (Ye ..)
theorem uz:∀{ss g} {x},x < g.length->(putAll fresh ss g).getD x 0=if x∈ss then fresh else g.getD x 0
 |[],g,x,h=>by simp[putAll]|s::ss,g,x,h=>by
  have ih:=uz (fresh:=fresh) (ss:=ss) (g:=g.set s fresh) (x:=x) (by simpa using h);unfold putAll at ih ⊢;rw[YR,ih];by_cases hx:x∈ss;·rw[if_pos hx,if_pos (WE _ hx)]
  ·rw[if_neg hx];by_cases e:x=s;·subst e;rw[if_pos WG,WN,W4 h];rfl
   ·rw[if_neg (λz=>by rcases Z3.mp z with z|z;exact e z;exact hx z),WN,WH (λz=>e z.symm),<-WN]
theorem w8:∀{d} {k} {ss},(d.map (·.1)).Nodup->((k,ss)∈dw d g s↔(k≠g/\(k,ss)∈d)\/(k=g/\((∃r,(g,r)∈d/\ss=r++[s])\/((∀r,(g,r)∉d)/\ss=[s]))))
 |[],k,ss,_=>by simp only[dw,X7,Prod.mk.injEq,ZT,and_false,false_or,not_false_eq_true,implies_true,true_and,false_and,exists_false]|(j,rs)::d,k,ss,nd=>by
  simp only[WQ,Yy] at nd;have hj:∀r,(j,r)∉d:=λr hr=>nd.1 (abq.mpr ⟨_,hr,rfl⟩);simp only[dw];split
  ·rename_i e;subst e;constructor
   ·intro h;rcases Z3.mp h with h|h;·injection h with h1 h2;exact .inr ⟨h1,.inl ⟨rs,WG,h2⟩⟩
    ·exact .inl ⟨λz=>hj ss (by rw[z] at h;exact h),WE _ h⟩
   ·rintro(⟨h1,h2⟩|⟨h1,h2⟩)
    ·rcases Z3.mp h2 with h|h;·injection h with h3 h4;exact absurd h3 h1
     ·exact WE _ h
    ·subst h1;rcases h2 with ⟨r,hr,e⟩|⟨hn,e⟩
     ·rcases Z3.mp hr with h|h;·injection h with h3 h4;rw[e,h4];exact WG
      ·exact absurd h (hj r)
     ·exact absurd WG (hn rs)
  ·rename_i e;have ih:=w8 (g:=g) (s:=s) (d:=d) (k:=k) (ss:=ss) nd.2;constructor
   ·intro h;rcases Z3.mp h with h|h;·injection h with h1 h2;subst h1;subst h2;exact .inl ⟨e,WG⟩
    ·rcases ih.mp h with ⟨h1,h2⟩|⟨h1,h2⟩
     ·exact .inl ⟨h1,WE _ h2⟩
     ·refine .inr ⟨h1,?_⟩;rcases h2 with ⟨r,hr,e2⟩|⟨hn,e2⟩
      ·exact .inl ⟨r,WE _ hr,e2⟩
      ·refine .inr ⟨λr hr=>?_,e2⟩;rcases Z3.mp hr with z|z;·injection z with z1 z2;exact e z1.symm
       ·exact hn r z
   ·rintro(⟨h1,h2⟩|⟨h1,h2⟩)
    ·rcases Z3.mp h2 with h|h;·rw[h];exact WG
     ·exact WE _ (ih.mpr (.inl ⟨h1,h⟩))
    ·refine WE _ (ih.mpr (.inr ⟨h1,?_⟩));rcases h2 with ⟨r,hr,e2⟩|⟨hn,e2⟩
     ·rcases Z3.mp hr with z|z;·injection z with z1 z2;exact absurd z1.symm e
      ·exact .inl ⟨r,z,e2⟩
     ·exact .inr ⟨λr hr=>hn r (WE _ hr),e2⟩
theorem jO:∀{d},(dw d g s).map (·.1)=if g∈d.map (·.1) then d.map (·.1) else d.map (·.1)++[g]
 |[]=>by simp[dw]|(j,rs)::d=>by
  have ih:=jO (g:=g) (s:=s) (d:=d);simp only[dw];split;·rename_i e;subst e;simp
  ·rename_i e;rw[WQ,ih];have e':¬g=j:=λz=>e z.symm;by_cases h:g∈d.map (·.1);·rw[if_pos h,if_pos (by rw[WQ];exact WE _ h)];rfl
   ·rw[if_neg h,if_neg (by rw[WQ];intro z;rcases Z3.mp z with z|z;exact e' z;exact h z)];rfl
theorem G4(h:(d.map (·.1)).Nodup):((dw d g s).map (·.1)).Nodup:=by
 rw[jO];split;·exact h
 ·rename_i hg;rw[XN];exact⟨h,by simp,λa ha b hb=>by simp at hb;subst hb;exact λz=>hg (z▸ha)⟩
theorem uA{grp:List Nat}:∀{l done:List Nat} {d},(d.map (·.1)).Nodup->(∀k ss,(k,ss)∈d->ss=done.filter (λs=>decide (grp.getD s 0=k))/\ss≠[])->(∀s∈done,∃ss,(grp.getD s 0,ss)∈d)->
  ((l.foldl (λd s=>dw d (grp.getD s 0) s) d).map (·.1)).Nodup/\(∀k ss,(k,ss)∈l.foldl (λd s=>dw d (grp.getD s 0) s) d->ss=(done++l).filter (λs=>decide (grp.getD s 0=k))/\ss≠[])/\(∀s∈done++l,∃ss,(grp.getD s 0,ss)∈l.foldl (λd s=>dw d (grp.getD s 0) s) d)
 |[],done,d,nd,h1,h2=>by simpa using⟨nd,h1,h2⟩|x::l,done,d,nd,h1,h2=>by
  have key:=uA (grp:=grp) (l:=l) (done:=done++[x]) (d:=dw d (grp.getD x 0) x) (G4 nd) (λk ss h=>by
   rcases(w8 nd).mp h with ⟨a,b⟩|⟨a,b⟩
   ·obtain⟨c1,c2⟩:=h1 k ss b;refine⟨?_,c2⟩;rw[X8,<-c1,Yr (by simp;exact λz=>a z.symm)];simp
   ·subst a;rcases b with ⟨r,hr,e⟩|⟨hn,e⟩
    ·obtain⟨c1,c2⟩:=h1 _ r hr;refine⟨?_,by rw[e];simp⟩;rw[X8,<-c1,X5 (by simp),e];simp
    ·refine⟨?_,by rw[e];simp⟩;have:done.filter (λs=>decide (grp.getD s 0=grp.getD x 0))=[]:=by rw[YW];intro s hs hd;obtain⟨ss,w9⟩:=h2 s hs;rw[qqq] at hd;rw[hd] at w9;exact hn ss w9
     rw[X8,this,X5 (by simp),e];simp) (λs hs=>by
   have e:(grp.getD x 0)∈(dw d (grp.getD x 0) x).map (·.1):=by
    rw[jO];split;·assumption
    ·simp
   have ex:∀k,k∈d.map (·.1)\/k=grp.getD x 0->∃ss,(k,ss)∈dw d (grp.getD x 0) x:=λk hk=>by
    have:k∈(dw d (grp.getD x 0) x).map (·.1):=by
     rcases hk with hk|hk
     ·rw[jO];split;·exact hk
      ·exact XO _ hk
     ·rw[hk];exact e
    obtain⟨p,hp,e2⟩:=abq.mp this;exact⟨p.2,by rw[<-e2];exact hp⟩
   rcases Z5.mp hs with z|z;·obtain⟨ss,w9⟩:=h2 s z;exact ex _ (.inl (abq.mpr ⟨_,w9,rfl⟩))
   ·rw[X7] at z;subst z;exact ex _ (.inr rfl))
  rw[Xt] at key;exact key
theorem dW grp l:((cz grp l).map (·.1)).Nodup/\(∀k ss,(k,ss)∈cz grp l->ss=l.filter (λs=>decide (grp.getD s 0=k))/\ss≠[])/\∀s∈l,∃ss,(grp.getD s 0,ss)∈cz grp l:=by have:=uA (grp:=grp) (l:=l) (done:=[]) (d:=[]) (by simp) (λ_ _ h=>by cases h) (λ_ h=>by cases h);simpa[cz] using this
section
abbrev nq.cI(h:nq)(s:Nat):Nat:=h.grp.getD s 0
structure jP(w:Nat)(m:dU)(T:List Nat)(R:Nat->Prop)(h:nq):Prop where
 qY:h.grp.length=m.length
 m5:h.iC.length=h.mem.length
 blt:∀s,s < m.length->h.cI s < h.mem.length
 mem:∀g,g < h.mem.length->(h.mem.getD g []).Nodup/\∀s,s∈h.mem.getD g []↔s < m.length/\h.cI s=g
 KU:h.wait.Nodup
 wt:∀g,g∈h.wait↔g < h.mem.length/\h.iC.getD g Ξ=Λ
 snd:∀s t,s < m.length->t < m.length->h.cI s≠h.cI t->¬lV w m s m t
 good:∀s t,s < m.length->t < m.length->h.cI s=h.cI t->gd m s=gd m t
 sep:∀s t a,s < m.length->t < m.length->a < w->h.cI s=h.cI t->h.cI (bg m s a)≠h.cI (bg m t a)->h.cI (bg m s a)∈h.wait\/h.cI (bg m t a)∈h.wait\/(R a/\¬(bg m s a∈T↔bg m t a∈T))
noncomputable def kX(m:dU)(h h':nq):Prop:=∀s t,s < m.length->t < m.length->h'.cI s=h'.cI t->h.cI s=h.cI t
theorem kX.refl:kX m h h:=λ_ _ _ _ e=>e
theorem kX.trans(a:kX m h h1)(b:kX m h1 h2):kX m h h2:=λs t hs ht e=>a s t hs ht (b s t hs ht e)
theorem ik{α:Type}{l r:List α}{d:α}(h:i < l.length):(l++r).getD i d=l.getD i d:=by rw[WN,WN,WK h]
theorem iW{α:Type}{l:List α}{x d:α}:(l++[x]).getD l.length d=x:=by rw[WN];simp
theorem eV{α:Type}{l:List α}{x d:α}(h:i < l.length):(l.set i x).getD i d=x:=by rw[WN,W4 h];rfl
theorem dy{α:Type}{l:List α}{x d:α}(h:i≠j):(l.set i x).getD j d=l.getD j d:=by rw[WN,WH h,<-WN]
variable{w:Nat}{m:dU}{T:List Nat}{R:Nat->Prop}{h:nq}
theorem sub_len{ss xs:List Nat}(hn:ss.Nodup)(hs:∀s∈ss,s∈xs):ss.length<=xs.length:=by
 induction ss generalizing xs with
 |nil=>simp|cons s ss ih=>
  rw[Yy] at hn;have h1:s∈xs:=hs s WG;have:=ih (xs:=xs.erase s) hn.2 λt ht=>by have:t≠s:=λz=>hn.1 (z▸ht);exact(aaI this).mpr (hs t (WE _ ht))
  rw[Z4 h1] at this;have:=YV h1;simp
  lia
theorem JU{ss xs:List Nat}(hn:ss.Nodup)(hx:xs.Nodup)(hs:∀s∈ss,s∈xs)(hl:ss.length=xs.length):∀x∈xs,x∈ss:=by
 intro x Ov;apply Xp;intro hc;have:=sub_len (ss:=ss) (xs:=xs.erase x) hn λt ht=>by have:t≠x:=λz=>hc (z▸ht);exact(aaI this).mpr (hs t ht)
 rw[Z4 Ov] at this;have:=YV Ov
 lia
theorem ye(hi:jP w m T R h)(hc:ss.length≠(h.mem.getD g []).length)(hx:x < m.length):(az h g ss).cI x=if x∈ss then h.mem.length else h.cI x:=by
 have e:(az h g ss).grp=putAll h.mem.length ss h.grp:=by unfold az;rw[if_neg hc];dsimp only;split<;>rfl
 show(az h g ss).grp.getD x 0=_;rw[e];exact uz (by rw[hi.qY];exact hx)
theorem oj(hc:ss.length≠(h.mem.getD g []).length):(az h g ss).mem=h.mem.set g ((h.mem.getD g []).filter λs=>decide (s∉ss))++[ss]:=by unfold az;rw[if_neg hc];dsimp only;split<;>rfl
noncomputable def kY(h:nq)(g:Nat)(ss:List Nat):Nat:=if h.iC.getD g Ξ=Λ\/ss.length<=((h.mem.getD g []).filter λs=>decide (s∉ss)).length then h.mem.length else g
theorem vz(hc:ss.length≠(h.mem.getD g []).length):(az h g ss).wait=h.wait++[kY h g ss]/\(az h g ss).iC=(h.iC++[Ξ]).set (kY h g ss) Λ:=by unfold az kY;rw[if_neg hc];dsimp only;split<;>exact⟨rfl,rfl⟩
theorem om(hi:jP w m T R h)(hg:g < h.mem.length)(ha:a < w)(w9:∀s,s∈ss↔s∈h.mem.getD g []/\bg m s a∈T)(Eh:ss.Nodup)(fc:ss≠[])(hT:∀x y,x < m.length->y < m.length->x∈T->y∉T->¬lV w m x m y)(ok:fF w m):
  jP w m T R (az h g ss)/\kX m h (az h g ss)/\(∀s t,s < m.length->t < m.length->h.cI s=g->h.cI t=g->(az h g ss).cI s=(az h g ss).cI t->(bg m s a∈T↔bg m t a∈T))/\
   (∀s,s < m.length->h.cI s≠g->(az h g ss).cI s=h.cI s)/\(∀k,k < h.mem.length->k≠g->(az h g ss).mem.getD k []=h.mem.getD k [])/\h.mem.length<=(az h g ss).mem.length/\
   (az h g ss).wait.length+h.mem.length=h.wait.length+(az h g ss).mem.length:=by
 obtain⟨gn,gm⟩:=hi.mem g hg;have sub:∀s∈ss,s∈h.mem.getD g []:=λs hs=>((w9 s).mp hs).1;by_cases hc:ss.length=(h.mem.getD g []).length
 ·have e:az h g ss=h:=by unfold az;rw[if_pos hc]
  rw[e];refine⟨hi,kX.refl,λs t hs ht es et _=>?_,λ_ _ _=>rfl,λ_ _ _=>rfl,WM _,rfl⟩;have all:=JU Eh gn sub hc;exact⟨λ_=>((w9 t).mp (all t ((gm t).mpr ⟨ht,et⟩))).2,λ_=>((w9 s).mp (all s ((gm s).mpr ⟨hs,es⟩))).2⟩
 ·have B:=λ{x:Nat} (hx:x < m.length)=>ye hi hc hx (g:=g);have M:=oj (h:=h) hc;obtain⟨Wt,Ws⟩:=vz (h:=h) hc;have ml:(az h g ss).mem.length=h.mem.length+1:=by rw[M];simp
  have JV:∀x,x∈ss->x < m.length/\h.cI x=g:=λx hx=>(gm x).mp (sub x hx);have nx:kY h g ss=h.mem.length\/(kY h g ss=g/\h.iC.getD g Ξ=Ξ):=by
   unfold kY;split;·exact .inl rfl
   ·rename_i q;refine .inr ⟨rfl,?_⟩;cases z:h.iC.getD g Ξ with|false=>rfl|true=>exact absurd (.inl z) q
  have same:∀s t,s < m.length->t < m.length->(az h g ss).cI s=(az h g ss).cI t->h.cI s=h.cI t/\(s∈ss↔t∈ss):=λs t hs ht e=>by
   rw[B hs,B ht] at e;have b1:=hi.blt s hs;have b2:=hi.blt t ht;by_cases z1:s∈ss<;>by_cases z2:t∈ss;·exact⟨(JV s z1).2.trans (JV t z2).2.symm,by simp[z1,z2]⟩
   ·rw[if_pos z1,if_neg z2] at e;lia
   ·rw[if_neg z1,if_pos z2] at e;lia
   ·rw[if_neg z1,if_neg z2] at e;exact⟨e,by simp[z1,z2]⟩
  refine⟨⟨?_,?_,?_,?_,?_,?_,?_,?_,?_⟩,λs t hs ht e=>(same s t hs ht e).1,?_,?_,?_,by lia,?_⟩
  ·have:(az h g ss).grp=putAll h.mem.length ss h.grp:=by unfold az;rw[if_neg hc];dsimp only;split<;>rfl
   rw[this,mZ,hi.qY]
  ·rw[ml,Ws];simp[hi.m5]
  ·intro s hs;rw[B hs,ml];have:=hi.blt s hs;split<;>lia
  ·intro k hk;rw[ml] at hk;rw[M];by_cases e1:k=h.mem.length
   ·subst e1;have e2:(h.mem.set g ((h.mem.getD g []).filter λs=>decide (s∉ss))++[ss]).getD h.mem.length []=ss:=by have:=iW (l:=h.mem.set g ((h.mem.getD g []).filter λs=>decide (s∉ss))) (x:=ss) (d:=[]);rw[Ye] at this;exact this
    rw[e2];refine⟨Eh,λs=>⟨λhs=>⟨(JV s hs).1,by rw[B (JV s hs).1,if_pos hs]⟩,λ⟨hs,e⟩=>?_⟩⟩;rw[B hs] at e;by_cases z:s∈ss;·exact z
    ·rw[if_neg z] at e;have:=hi.blt s hs;lia
   ·have uT:k < h.mem.length:=by lia
    rw[ik (by simpa using uT)];by_cases e2:k=g
    ·subst e2;rw[eV uT];refine⟨gn.filter _,λs=>?_⟩;rw[Yd,gm,qqq];constructor;·rintro⟨⟨hs,e⟩,hn⟩;exact⟨hs,by rw[B hs,if_neg hn];exact e⟩
     ·rintro⟨hs,e⟩;rw[B hs] at e;by_cases z:s∈ss;·rw[if_pos z] at e;lia
      ·rw[if_neg z] at e;exact⟨⟨hs,e⟩,z⟩
    ·rw[dy (λz=>e2 z.symm)];obtain⟨q1,q2⟩:=hi.mem k uT;refine⟨q1,λs=>?_⟩;rw[q2];constructor
     ·rintro⟨hs,e⟩;refine⟨hs,?_⟩;rw[B hs];split;·rename_i z;exact absurd (e.symm.trans (JV s z).2) e2
      ·exact e
     ·rintro⟨hs,e⟩;refine⟨hs,?_⟩;rw[B hs] at e;split at e
      ·lia
      ·exact e
  ·rw[Wt,XN];refine⟨hi.KU,by simp,λx hx y hy=>?_⟩;rw[X7] at hy;subst hy;intro z;subst z;obtain⟨p,q⟩:=(hi.wt _).mp hx;rcases nx with e|⟨e,f⟩
   ·lia
   ·rw[e,f] at q;cases q
  ·intro k;rw[Wt,Ws,ml,Z5,X7];by_cases e:k=kY h g ss
   ·subst e;have l1:kY h g ss < (h.iC++[Ξ]).length:=by rw[W1,hi.m5];rcases nx with e|⟨e,_⟩<;>simp<;>lia
    rw[eV l1];refine⟨λ_=>⟨?_,rfl⟩,λ_=>.inr rfl⟩;rcases nx with e|⟨e,_⟩<;>lia
   ·rw[dy (λz=>e z.symm)];constructor
    ·rintro(hk|hk);·obtain⟨p,q⟩:=(hi.wt k).mp hk;exact⟨by lia,by rw[ik (by rw[hi.m5];exact p)];exact q⟩
     ·exact absurd hk e
    ·rintro⟨p,q⟩;by_cases z:k=h.mem.length
     ·subst z;have:(h.iC++[Ξ]).getD h.mem.length Ξ=Ξ:=by rw[<-hi.m5];exact iW
      rw[this] at q;cases q
     ·rw[ik (by rw[hi.m5];lia)] at q;exact .inl ((hi.wt k).mpr ⟨by lia,q⟩)
  ·intro s t hs ht hb;by_cases e:h.cI s=h.cI t
   ·rw[B hs,B ht] at hb;have go:∀x y,x < m.length->y < m.length->x∈ss->y∉ss->h.cI x=h.cI y->¬lV w m x m y:=λx y hx hy z1 z2 e sm=>by have e1:y∈h.mem.getD g []:=(gm y).mpr ⟨hy,e▸(JV x z1).2⟩;have e2:bg m y a∉T:=λz=>z2 ((w9 y).mpr ⟨e1,z⟩);exact hT _ _ (ok.bg hx ha) (ok.bg hy ha) ((w9 x).mp z1).2 e2 (sm.step ha)
    by_cases z1:s∈ss<;>by_cases z2:t∈ss;·simp[z1,z2] at hb
    ·exact go s t hs ht z1 z2 e
    ·exact λsm=>go t s ht hs z2 z1 e.symm sm.symm
    ·rw[if_neg z1,if_neg z2] at hb;exact absurd e hb
   ·exact hi.snd s t hs ht e
  ·intro s t hs ht e;exact hi.good s t hs ht (same s t hs ht e).1
  ·intro s t b hs ht hb e JW;have p1:=ok.bg hs hb;have p2:=ok.bg ht hb;have e0:=(same s t hs ht e).1;rw[Wt];by_cases c:h.cI (bg m s b)=h.cI (bg m t b)
   ·
    rw[B p1,B p2] at JW ⊢;have go:∀x y,x∈ss->y∉ss->h.cI x=h.cI y->h.cI y=g:=λx y z1 z2 e=>e▸(JV x z1).2;by_cases z1:bg m s b∈ss<;>by_cases z2:bg m t b∈ss;·simp[z1,z2] at JW
    ·rw[if_pos z1,if_neg z2,go _ _ z1 z2 c];rcases nx with q|⟨q,_⟩;·exact .inl (by rw[q];simp)
     ·exact .inr (.inl (by rw[q];simp))
    ·rw[if_neg z1,if_pos z2,go _ _ z2 z1 c.symm];rcases nx with q|⟨q,_⟩;·exact .inr (.inl (by rw[q];simp))
     ·exact .inl (by rw[q];simp)
    ·rw[if_neg z1,if_neg z2] at JW;exact absurd c JW
   ·
    have keep:∀x,x < m.length->h.cI x∈h.wait->(az h g ss).cI x∈h.wait++[kY h g ss]:=λx hx hw=>by
     rw[B hx];split
     ·rename_i z;have e1:=(JV x z).2;rw[e1] at hw;have:kY h g ss=h.mem.length:=by unfold kY;rw[if_pos (.inl ((hi.wt g).mp hw).2)]
      rw[this];simp
     ·exact XO _ hw
    rcases hi.sep s t b hs ht hb e0 c with q|q|q;·exact .inl (keep _ p1 q)
    ·exact .inr (.inl (keep _ p2 q))
    ·exact .inr (.inr q)
  ·intro s t hs ht es et e;have e2:=(same s t hs ht e).2;have i1:s∈ss↔bg m s a∈T:=by rw[w9];exact⟨λz=>z.2,λz=>⟨(gm s).mpr ⟨hs,es⟩,z⟩⟩
   have i2:t∈ss↔bg m t a∈T:=by rw[w9];exact⟨λz=>z.2,λz=>⟨(gm t).mpr ⟨ht,et⟩,z⟩⟩
   rw[<-i1,<-i2];exact e2
  ·intro s hs hn;rw[B hs,if_neg λz=>hn (JV s z).2]
  ·intro k hk hn;rw[M,ik (by simpa using hk),dy λz=>hn z.symm]
  ·rw[Wt,ml];simp;lia
end
section
variable{w:Nat}{m:dU}{T:List Nat}{R:Nat->Prop}{h h0:nq}
noncomputable def vA(h:nq):Prop:=∀g,2<=g->g < h.mem.length->h.mem.getD g []≠[]
theorem qE(hi:jP w m T R h)(hn:vA h)(hg:g < h.mem.length)(w9:∀s∈ss,s∈h.mem.getD g [])(Eh:ss.Nodup)(fc:ss≠[]):vA (az h g ss):=by
 obtain⟨gn,gm⟩:=hi.mem g hg;by_cases hc:ss.length=(h.mem.getD g []).length
 ·have e:az h g ss=h:=by unfold az;rw[if_pos hc]
  rw[e];exact hn
 ·have M:=oj (h:=h) hc;have ml:(az h g ss).mem.length=h.mem.length+1:=by rw[M];simp
  intro k uS hk;rw[ml] at hk;rw[M];by_cases e1:k=h.mem.length
  ·subst e1;have e2:(h.mem.set g ((h.mem.getD g []).filter λs=>decide (s∉ss))++[ss]).getD h.mem.length []=ss:=by have:=iW (l:=h.mem.set g ((h.mem.getD g []).filter λs=>decide (s∉ss))) (x:=ss) (d:=[]);rw[Ye] at this;exact this
   rw[e2];exact fc
  ·have uT:k < h.mem.length:=by lia
   rw[ik (by simpa using uT)];by_cases e2:k=g
   ·subst e2;rw[eV uT];intro z;rw[YW] at z;have:∀x∈h.mem.getD k [],x∈ss:=λx hx=>by have:=z x hx;simpa using this
    have l1:=sub_len gn this;have l2:=sub_len Eh w9
    lia
   ·rw[dy (λz=>e2 z.symm)];exact hn k uS uT
theorem vA.bound(hi:jP w m T R h)(hn:vA h):h.mem.length<=m.length+2:=by
 have key:=sub_len (ss:=(WB (h.mem.length - 2)).map λg=>(h.mem.getD (g+2) []).headD 0) (xs:=WB m.length) ?_ ?_;·simp at key;lia
 ·rw[List.nodup_iff_pairwise_ne,aa1];refine List.Pairwise.imp_of_mem ?_ (ZU);intro a b ha hb Ms e;simp only[XX] at ha hb;have hd:∀g,g < h.mem.length - 2->(h.mem.getD (g+2) []).headD 0∈h.mem.getD (g+2) []:=λg hg=>by have:=hn (g+2) (by lia) (by lia);cases q:h.mem.getD (g+2) [] with|nil=>exact absurd q this|cons x r=>simp
  have m1:=((hi.mem (a+2) (by lia)).2 _).mp (hd a ha);have m2:=((hi.mem (b+2) (by lia)).2 _).mp (hd b hb);rw[e] at m1;have:=m1.2.symm.trans m2.2
  lia
 ·intro s hs;rw[abq] at hs;obtain⟨g,hg,e⟩:=hs;rw[XX] at hg;have:=hn (g+2) (by lia) (by lia);cases q:h.mem.getD (g+2) [] with|nil=>exact absurd q this|cons x r=>rw[q] at e;have m1:=((hi.mem (g+2) (by lia)).2 x).mp (by rw[q];simp);simp at e;rw[<-e,XX];exact m1.1
theorem z9(ok:fF w m)(ha:a < w)(hT:∀x y,x < m.length->y < m.length->x∈T->y∉T->¬lV w m x m y):∀{es:List (Nat×List Nat)} {h} {Dn:Nat->Prop},jP w m T R h->vA h->kX m h0 h->(es.map (·.1)).Nodup->
  (∀k ss,(k,ss)∈es->k < h.mem.length/\(∀s,s < m.length->(h.cI s=k↔h0.cI s=k))/\(∀s,s∈ss↔s∈h.mem.getD k []/\bg m s a∈T)/\ss.Nodup/\ss≠[])->
  (∀s t,s < m.length->t < m.length->h.cI s=h.cI t->Dn (h0.cI s)->(bg m s a∈T↔bg m t a∈T))->
  jP w m T R (es.foldl (λh e=>az h e.1 e.2) h)/\vA (es.foldl (λh e=>az h e.1 e.2) h)/\kX m h0 (es.foldl (λh e=>az h e.1 e.2) h)/\
  (∀s t,s < m.length->t < m.length->(es.foldl (λh e=>az h e.1 e.2) h).cI s=(es.foldl (λh e=>az h e.1 e.2) h).cI t->(Dn (h0.cI s)\/h0.cI s∈es.map (·.1))->(bg m s a∈T↔bg m t a∈T))/\
  (es.foldl (λh e=>az h e.1 e.2) h).wait.length+h.mem.length=h.wait.length+(es.foldl (λh e=>az h e.1 e.2) h).mem.length/\h.mem.length<=(es.foldl (λh e=>az h e.1 e.2) h).mem.length
 |[],h,Dn,hi,hn,hf,_,_,hd=>⟨hi,hn,hf,λs t hs ht e d=>hd s t hs ht e (by rcases d with d|d;exact d;simp at d),rfl,WM _⟩|(k,ss)::es,h,Dn,hi,hn,hf,nd,hes,hd=>by
  obtain⟨k1,k2,k3,k4,k5⟩:=hes k ss WG;obtain⟨i1,i2,i3,i4,i5,i6,i7⟩:=om hi k1 ha k3 k4 k5 hT ok;have n1:=qE hi hn k1 (λs hs=>((k3 s).mp hs).1) k4 k5;rw[WQ,Yy] at nd;obtain⟨f1,f2,f3,f4,f5,f6⟩:=z9 ok ha hT (h:=az h k ss) (Dn:=λj=>Dn j\/j=k) i1 n1 (hf.trans i2) nd.2 (λj rs hj=>by
   obtain⟨j1,j2,j3,j4,j5⟩:=hes j rs (WE _ hj);have hjk:j≠k:=λz=>nd.1 (abq.mpr ⟨_,hj,z⟩);refine⟨by lia,λs hs=>?_,λs=>by rw[j3,i5 j j1 hjk],j4,j5⟩;rw[<-j2 s hs];have q1:=(i1.mem j (by lia)).2 s;have q2:=(hi.mem j j1).2 s;rw[i5 j j1 hjk,q2] at q1;exact⟨λz=>(q1.mpr ⟨hs,z⟩).2,λz=>(q1.mp ⟨hs,z⟩).2⟩) (λs t hs ht e d=>by
   rcases d with d|d;·exact hd s t hs ht (i2 s t hs ht e) d
   ·have e1:h.cI s=k:=(k2 s hs).mpr d;have e2:h.cI t=k:=(i2 s t hs ht e)▸e1;exact i3 s t hs ht e1 e2 e)
  refine⟨f1,f2,f3,λs t hs ht e d=>f4 s t hs ht e ?_,?_,by rw[YR];dsimp only;lia⟩
  ·rcases d with d|d;·exact .inl (.inl d)
   ·rw[WQ] at d;rcases Z3.mp d with d|d;·exact .inl (.inr d)
    ·exact .inr d
  ·rw[YR];dsimp only
   lia
theorem kZ:s∈dI m a t↔s < m.length/\bg m s a=t:=by unfold dI;rw[Yd,XX,qqq]
theorem oo:s∈T.flatMap (dI m a)↔s < m.length/\bg m s a∈T:=by
 rw[List.mem_flatMap];constructor;·rintro⟨t,ht,hs⟩;obtain⟨p,q⟩:=kZ.mp hs;exact⟨p,q▸ht⟩
 ·rintro⟨p,q⟩;exact⟨_,q,kZ.mpr ⟨p,rfl⟩⟩
theorem r9:∀{T:List Nat},T.Nodup->(T.flatMap (dI m a)).Nodup
 |[],_=>by simp|t::T,hn=>by rw[Yy] at hn;rw[Zk,XN];refine⟨(ZU).filter _,r9 hn.2,λx hx y hy=>?_⟩;rintro rfl;have e1:=(kZ.mp hx).2;have e2:=(oo.mp hy).2;rw[e1] at e2;exact hn.1 e2
theorem qF(ok:fF w m)(ha:a < w)(hT:∀x y,x < m.length->y < m.length->x∈T->y∉T->¬lV w m x m y)(JX:T.Nodup)(hi:jP w m T R h)(hn:vA h):
  jP w m T (λb=>R b/\b≠a) (dY m h T a)/\vA (dY m h T a)/\(dY m h T a).wait.length+h.mem.length=h.wait.length+(dY m h T a).mem.length/\h.mem.length<=(dY m h T a).mem.length:=by
 obtain⟨s1,s2,s3⟩:=dW h.grp (T.flatMap (dI m a));have L:=λs=>oo (m:=m) (T:=T) (a:=a) (s:=s);have Ln:=r9 (m:=m) (a:=a) JX;have key:=z9 (h0:=h) (Dn:=λ_=>False) ok ha hT hi hn kX.refl s1 (λk ss hk=>by
  obtain⟨e,fc⟩:=s2 k ss hk;have uS:k < h.mem.length:=by
   cases q:ss with
   |nil=>exact absurd q fc|cons x r=>
    have hx:x∈ss:=by rw[q];simp
    rw[e,Yd,qqq] at hx;rw[<-hx.2];exact hi.blt x ((L x).mp hx.1).1
  refine⟨uS,λ_ _=>Iff.rfl,λs=>?_,by rw[e];exact Ln.filter _,fc⟩;rw[e,Yd,qqq,L,(hi.mem k uS).2];constructor;·rintro⟨⟨p,q⟩,r⟩;exact⟨⟨p,r⟩,q⟩
  ·rintro⟨⟨p,r⟩,q⟩;exact⟨⟨p,q⟩,r⟩) (λ_ _ _ _ _ d=>d.elim)
 obtain⟨f1,f2,f3,f4,f5,f6⟩:=key;refine⟨⟨f1.qY,f1.m5,f1.blt,f1.mem,f1.KU,f1.wt,f1.snd,f1.good,λs t b hs ht hb e fc=>?_⟩,f2,f5,f6⟩;rcases f1.sep s t b hs ht hb e fc with q|q|⟨q1,q2⟩;·exact .inl q
 ·exact .inr (.inl q)
 ·refine .inr (.inr ⟨⟨q1,λz=>q2 ?_⟩,q2⟩);subst z;by_cases c:h.cI s∈(cz h.grp (T.flatMap (dI m b))).map (·.1);·exact f4 s t hs ht e (.inr c)
  ·have e0:h.cI s=h.cI t:=f3 s t hs ht e;have no:∀x,x < m.length->h.cI x=h.cI s->bg m x b∉T:=λx hx ex hc=>by obtain⟨ss,w9⟩:=s3 x ((L x).mpr ⟨hx,hc⟩);exact c (abq.mpr ⟨_,w9,ex⟩)
   exact⟨λz=>absurd z (no s hs rfl),λz=>absurd z (no t ht e0.symm)⟩
noncomputable def k7(h:nq)(g:Nat):nq:=⟨h.grp,h.mem,h.wait.dropLast,h.iC.set g Ξ⟩
def dZ(m:dU)(T:List Nat)(as:List Nat)(h:nq):nq:=as.foldl (λh a=>dY m h T a) h
def oq(m:dU)(w:Nat)(h:nq):nq:=dZ m (h.mem.getD (h.wait.getLast?.getD 0) []) (WB w) (k7 h (h.wait.getLast?.getD 0))
def settle(m:dU)(w:Nat):Nat->nq->nq
 |0,h=>h|n+1,h=>if h.wait=[] then h else settle m w n (oq m w h)
def uB(w:Nat)(m:dU)(h:nq):Prop:=jP w m [] (λ_=>False) h/\vA h
theorem Aa(ok:fF w m)(hT:∀x y,x < m.length->y < m.length->x∈T->y∉T->¬lV w m x m y)(JX:T.Nodup):∀{as} {R} {h},(∀a∈as,a < w)->jP w m T R h->vA h->
  jP w m T (λb=>R b/\b∉as) (dZ m T as h)/\vA (dZ m T as h)/\(dZ m T as h).wait.length+h.mem.length=h.wait.length+(dZ m T as h).mem.length/\h.mem.length<=(dZ m T as h).mem.length
 |[],R,h,_,hi,hn=>⟨⟨hi.qY,hi.m5,hi.blt,hi.mem,hi.KU,hi.wt,hi.snd,hi.good,λs t b hs ht hb e fc=>by
   rcases hi.sep s t b hs ht hb e fc with q|q|⟨q1,q2⟩;·exact .inl q
   ·exact .inr (.inl q)
   ·exact .inr (.inr ⟨⟨q1,by simp⟩,q2⟩)⟩,hn,rfl,WM _⟩
 |a::as,R,h,hw,hi,hn=>by
  obtain⟨i1,i2,i3,i4⟩:=qF ok (hw a WG) hT JX hi hn;obtain⟨j1,j2,j3,j4⟩:=Aa ok hT JX (as:=as) (λb hb=>hw b (WE _ hb)) i1 i2;refine⟨⟨j1.qY,j1.m5,j1.blt,j1.mem,j1.KU,j1.wt,j1.snd,j1.good,λs t b hs ht hb e fc=>?_⟩,j2,?_,?_⟩
  ·rcases j1.sep s t b hs ht hb e fc with q|q|⟨⟨⟨q1,q3⟩,q4⟩,q2⟩;·exact .inl q
   ·exact .inr (.inl q)
   ·exact .inr (.inr ⟨⟨q1,λz=>by rcases Z3.mp z with z|z;exact q3 z;exact q4 z⟩,q2⟩)
  ·show(dZ m T as (dY m h T a)).wait.length+_=_+(dZ m T as (dY m h T a)).mem.length
   lia
  ·show _<=(dZ m T as (dY m h T a)).mem.length
   lia
theorem Ab(ok:fF w m)(hc:uB w m h)(hw:h.wait≠[]):uB w m (oq m w h)/\(oq m w h).wait.length+h.mem.length+1=h.wait.length+(oq m w h).mem.length/\h.mem.length<=(oq m w h).mem.length:=by
 obtain⟨hi,hn⟩:=hc;obtain⟨g,hg⟩:∃g,h.wait.getLast?=Δ g:=by cases q:h.wait.getLast? with|none=>rw[List.getLast?_eq_none_iff] at q;exact absurd q hw|some g=>exact⟨g,rfl⟩
 have eg:h.wait.getLast?.getD 0=g:=by rw[hg];rfl
 have ew:h.wait=h.wait.dropLast++[g]:=by rw[List.getLast?_eq_some_iff] at hg;obtain⟨ys,e⟩:=hg;rw[e];simp
 have gm:g∈h.wait:=by rw[ew];simp
 obtain⟨g1,g2⟩:=(hi.wt g).mp gm;obtain⟨T1,T2⟩:=hi.mem g g1;have nd:(h.wait.dropLast++[g]).Nodup:=by rw[<-ew];exact hi.KU
 rw[XN] at nd;have NJ:g∉h.wait.dropLast:=λz=>nd.2.2 g z g (by simp) rfl;have NK:∀k,k∈h.wait->k≠g->k∈h.wait.dropLast:=λk hk V2=>by
  rw[ew,Z5,X7] at hk;rcases hk with z|z;·exact z
  ·exact absurd z V2
 have hT:∀x y,x < m.length->y < m.length->x∈h.mem.getD g []->y∉h.mem.getD g []->¬lV w m x m y:=λx y hx hy z1 z2=>by refine hi.snd x y hx hy λe=>z2 ((T2 y).mpr ⟨hy,?_⟩);rw[<-e];exact((T2 x).mp z1).2
 have ip:jP w m (h.mem.getD g []) (λa=>a < w) (k7 h g):=by
  refine⟨hi.qY,by unfold k7;simp[hi.m5],hi.blt,hi.mem,nd.1,λk=>?_,hi.snd,hi.good,λs t b hs ht hb e fc=>?_⟩
  ·unfold k7;dsimp only;by_cases e:k=g;·subst e;refine⟨λz=>absurd z NJ,λ⟨_,z⟩=>?_⟩;rw[eV (by rw[hi.m5];exact g1)] at z;cases z
   ·rw[dy λz=>e z.symm];constructor;·intro z;exact(hi.wt k).mp (by rw[ew];exact XO _ z)
    ·intro z;exact NK k ((hi.wt k).mpr z) e
  ·have e':h.cI s=h.cI t:=e;have xx:h.cI (bg m s b)≠h.cI (bg m t b):=fc;have p1:=ok.bg hs hb;have p2:=ok.bg ht hb;have i1:bg m s b∈h.mem.getD g []↔h.cI (bg m s b)=g:=by rw[T2];exact⟨λz=>z.2,λz=>⟨p1,z⟩⟩
   have i2:bg m t b∈h.mem.getD g []↔h.cI (bg m t b)=g:=by rw[T2];exact⟨λz=>z.2,λz=>⟨p2,z⟩⟩
   show h.cI (bg m s b)∈h.wait.dropLast\/h.cI (bg m t b)∈h.wait.dropLast\/_;by_cases c1:h.cI (bg m s b)=g;·refine .inr (.inr ⟨hb,λz=>?_⟩);rw[i1,i2] at z;exact xx (c1.trans (z.mp c1).symm)
   ·by_cases c2:h.cI (bg m t b)=g;·refine .inr (.inr ⟨hb,λz=>?_⟩);rw[i1,i2] at z;exact c1 (z.mpr c2)
    ·rcases hi.sep s t b hs ht hb e' xx with q|q|⟨q,_⟩;·exact .inl (NK _ q c1)
     ·exact .inr (.inl (NK _ q c2))
     ·exact q.elim
 have wl:(k7 h g).wait.length+1=h.wait.length:=by
  unfold k7;have:=congrArg abJ ew;simp at this;dsimp only;rw[List.length_dropLast];have:=YV gm
  lia
 obtain⟨j1,j2,j3,j4⟩:=Aa ok hT T1 (as:=WB w) (λa ha=>by simpa using ha) ip (show vA (k7 h g) from hn);unfold oq;rw[eg];refine⟨⟨⟨j1.qY,j1.m5,j1.blt,j1.mem,j1.KU,j1.wt,j1.snd,j1.good,λs t b hs ht hb e fc=>?_⟩,j2⟩,?_,j4⟩
 ·rcases j1.sep s t b hs ht hb e fc with q|q|⟨⟨q1,q3⟩,q2⟩;·exact .inl q
  ·exact .inr (.inl q)
  ·exact absurd (by simpa using hb) q3
 ·have:(k7 h g).mem.length=h.mem.length:=rfl
  lia
theorem G5{a b c d m j:Nat}(h:a+(m+2 - b)<=j+1)(h1:c+b+1=a+d)(h2:d<=m+2):c+(m+2 - d)<=j:=by lia
theorem uC(ok:fF w m):∀{n} {h},uB w m h->h.wait.length+(m.length+2 - h.mem.length)<=n->uB w m (settle m w n h)/\(settle m w n h).wait=[]
 |0,h,hc,hl=>by
  have:h.wait=[]:=by cases q:h.wait with|nil=>rfl|cons x r=>rw[q] at hl;simp at hl
  exact⟨hc,this⟩
 |n+1,h,hc,hl=>by
  unfold Y.settle;by_cases hw:h.wait=[];·rw[if_pos hw];exact⟨hc,hw⟩
  ·rw[if_neg hw];obtain⟨c1,c2,c3⟩:=Ab ok hc hw;have b1:=vA.bound c1.1 c1.2;exact uC ok c1 (G5 hl c2 b1)
theorem Ac(ok:fF w m)(hc:uB w m h)(hw:h.wait=[])(hs:s < m.length)(ht:t < m.length):h.cI s=h.cI t↔lV w m s m t:=by
 constructor
 ·intro e u;induction u generalizing s t with
  |nil=>intro _;exact hc.1.good s t hs ht e|cons a u ih=>
   intro hu;have ha:=hu.head;refine ih (ok.bg hs ha) (ok.bg ht ha) ?_ hu.tail;apply Xp;intro fc;rcases hc.1.sep s t a hs ht ha e fc with q|q|⟨q,_⟩;·rw[hw] at q;cases q
   ·rw[hw] at q;cases q
   ·exact q
 ·intro V3;apply Xp;intro fc;exact hc.1.snd s t hs ht fc V3
def je(m:dU):nq:=⟨m.map (·.1),[(WB m.length).filter λs=>decide (gd m s=0),(WB m.length).filter λs=>decide (gd m s=1)],[0,1],[Λ,Λ]⟩
theorem dh(hs:s < m.length):(je m).cI s=gd m s:=by show(m.map (·.1)).getD s 0=_;unfold gd row;rw[WN,WL,WI hs,WN,WI hs];rfl
theorem uD(ok:fF w m):uB w m (je m):=by
 have g01:∀s,s < m.length->gd m s=0\/gd m s=1:=λs hs=>by
  have:=ok.good _ (bP hs);unfold gd
  lia
 refine⟨⟨by simp[je],rfl,λs hs=>?_,λg hg=>?_,by simp[je],λg=>?_,λs t hs ht hb=>?_,λs t hs ht hb=>?_,λs t a hs ht ha e fc=>?_⟩,λg h1 h2=>?_⟩;·rw[dh hs];show _ < 2;rcases g01 s hs with q|q<;>lia
 ·have Jj:g=0\/g=1:=by
   have:g < 2:=hg
   lia
  rcases Jj with e|e<;>subst e
  ·refine⟨(ZU).filter _,λs=>?_⟩;show s∈(WB m.length).filter _↔_;rw[Yd,XX,qqq];constructor;·rintro⟨p,q⟩;exact⟨p,by rw[dh p];exact q⟩
   ·rintro⟨p,q⟩;rw[dh p] at q;exact⟨p,q⟩
  ·refine⟨(ZU).filter _,λs=>?_⟩;show s∈(WB m.length).filter _↔_;rw[Yd,XX,qqq];constructor;·rintro⟨p,q⟩;exact⟨p,by rw[dh p];exact q⟩
   ·rintro⟨p,q⟩;rw[dh p] at q;exact⟨p,q⟩
 ·show g∈[0,1]↔g < 2/\[Λ,Λ].getD g Ξ=Λ;constructor;·intro z;simp at z;rcases z with z|z<;>subst z<;>exact⟨by lia,rfl⟩
  ·rintro⟨p,_⟩;simp;lia
 ·rw[dh hs,dh ht] at hb;exact λsm=>hb sm.good
 ·rw[dh hs,dh ht] at hb;exact hb
 ·refine .inl ?_;rw[dh (ok.bg hs ha)];show _∈[0,1];rcases g01 _ (ok.bg hs ha) with q|q<;>rw[q]<;>simp
 ·have:g < 2:=h2
  lia
end
section
variable{w:Nat}{m:dU}{h:nq}
theorem JY(ok:fF w m)(hc:uB w m h)(hw:h.wait≠[]):∃g,h.wait=h.wait.dropLast++[g]/\h.wait.getLast?.getD 0=g/\g < h.mem.length/\(h.mem.getD g []).Nodup/\(∀t∈h.mem.getD g [],t < m.length)/\
  (∀x y,x < m.length->y < m.length->x∈h.mem.getD g []->y∉h.mem.getD g []->¬lV w m x m y)/\jP w m (h.mem.getD g []) (λa=>a < w) (k7 h g)/\vA (k7 h g):=by
 obtain⟨hi,hn⟩:=hc;obtain⟨g,hg⟩:∃g,h.wait.getLast?=Δ g:=by cases q:h.wait.getLast? with|none=>rw[List.getLast?_eq_none_iff] at q;exact absurd q hw|some g=>exact⟨g,rfl⟩
 have eg:h.wait.getLast?.getD 0=g:=by rw[hg];rfl
 have ew:h.wait=h.wait.dropLast++[g]:=by rw[List.getLast?_eq_some_iff] at hg;obtain⟨ys,e⟩:=hg;rw[e];simp
 have gm:g∈h.wait:=by rw[ew];simp
 obtain⟨g1,g2⟩:=(hi.wt g).mp gm;obtain⟨T1,T2⟩:=hi.mem g g1;have nd:(h.wait.dropLast++[g]).Nodup:=by rw[<-ew];exact hi.KU
 rw[XN] at nd;have NJ:g∉h.wait.dropLast:=λz=>nd.2.2 g z g (by simp) rfl;have NK:∀k,k∈h.wait->k≠g->k∈h.wait.dropLast:=λk hk V2=>by
  rw[ew,Z5,X7] at hk;rcases hk with z|z;·exact z
  ·exact absurd z V2
 have hT:∀x y,x < m.length->y < m.length->x∈h.mem.getD g []->y∉h.mem.getD g []->¬lV w m x m y:=λx y hx hy z1 z2=>by refine hi.snd x y hx hy λe=>z2 ((T2 y).mpr ⟨hy,?_⟩);rw[<-e];exact((T2 x).mp z1).2
 have ip:jP w m (h.mem.getD g []) (λa=>a < w) (k7 h g):=by
  refine⟨hi.qY,by unfold k7;simp[hi.m5],hi.blt,hi.mem,nd.1,λk=>?_,hi.snd,hi.good,λs t b hs ht hb e fc=>?_⟩
  ·unfold k7;dsimp only;by_cases e:k=g;·subst e;refine⟨λz=>absurd z NJ,λ⟨_,z⟩=>?_⟩;rw[eV (by rw[hi.m5];exact g1)] at z;cases z
   ·rw[dy λz=>e z.symm];constructor;·intro z;exact(hi.wt k).mp (by rw[ew];exact XO _ z)
    ·intro z;exact NK k ((hi.wt k).mpr z) e
  ·have e':h.cI s=h.cI t:=e;have xx:h.cI (bg m s b)≠h.cI (bg m t b):=fc;have p1:=ok.bg hs hb;have p2:=ok.bg ht hb;have i1:bg m s b∈h.mem.getD g []↔h.cI (bg m s b)=g:=by rw[T2];exact⟨λz=>z.2,λz=>⟨p1,z⟩⟩
   have i2:bg m t b∈h.mem.getD g []↔h.cI (bg m t b)=g:=by rw[T2];exact⟨λz=>z.2,λz=>⟨p2,z⟩⟩
   show h.cI (bg m s b)∈h.wait.dropLast\/h.cI (bg m t b)∈h.wait.dropLast\/_;by_cases c1:h.cI (bg m s b)=g;·refine .inr (.inr ⟨hb,λz=>?_⟩);rw[i1,i2] at z;exact xx (c1.trans (z.mp c1).symm)
   ·by_cases c2:h.cI (bg m t b)=g;·refine .inr (.inr ⟨hb,λz=>?_⟩);rw[i1,i2] at z;exact c1 (z.mpr c2)
    ·rcases hi.sep s t b hs ht hb e' xx with q|q|⟨q,_⟩;·exact .inl (NK _ q c1)
     ·exact .inr (.inl (NK _ q c2))
     ·exact q.elim
 exact⟨g,ew,eg,g1,T1,λt ht=>((T2 t).mp ht).1,hT,ip,hn⟩
end
section
variable{α:Type}[DecidableEq α]
noncomputable def bO(ps ss:List α):List α:=ss.foldl (λps s=>if s∈ps then ps else ps++[s]) ps
def yx(step:α->List α):Nat->List α->Nat->List α
 |0,ps,_=>ps|n+1,ps,k=>match ps[k]? with|none=>ps|some p=>yx step n (bO ps (step p)) (k+1)
def Ad(step:α->List α)(good:α->Nat)(F:List α)(p:α):Nat×List Nat:=(good p,(step p).map λq=>F.idxOf q)
def il(step:α->List α)(good:α->Nat)(F:List α):dU:=F.map (Ad step good F)
noncomputable def G6(step:α->List α)(p:α)(u:List Nat):α:=u.foldl (λp a=>((step p)[a]?).getD p) p
theorem ju ps(s:α)ss:bO ps (s::ss)=bO (if s∈ps then ps else ps++[s]) ss:=rfl
theorem gq:∀(ss ps:List α),∃t,bO ps ss=ps++t
 |[],ps=>⟨[],by simp[bO]⟩|s::ss,ps=>by
  rw[ju];split;·exact gq ss ps
  ·obtain⟨t,e⟩:=gq ss (ps++[s]);exact⟨s::t,by rw[e];simp⟩
theorem dz:∀{ss ps} {x:α},x∈bO ps ss↔x∈ps\/x∈ss
 |[],ps,x=>by simp[bO]|s::ss,ps,x=>by
  rw[ju];split
  ·rename_i h;rw[dz,Z3];constructor
   ·rintro(z|z);·exact .inl z
    ·exact .inr (.inr z)
   ·rintro(z|z|z);·exact .inl z
    ·exact .inl (z▸h)
    ·exact .inr z
  ·rw[dz,Z5,X7,Z3,or_assoc]
theorem sd:∀{ss ps:List α},ps.Nodup->(bO ps ss).Nodup
 |[],ps,h=>h|s::ss,ps,h=>by
  rw[ju];split;·exact sd h
  ·rename_i hs;exact sd (by rw[XN];exact⟨h,by simp,λa ha b hb=>by simp at hb;subst hb;exact λz=>hs (z▸ha)⟩)
theorem se(step:α->List α):∀(n) (ps) (k),∃t,yx step n ps k=ps++t
 |0,ps,k=>⟨[],by simp[yx]⟩|n+1,ps,k=>by
  rw[yx];split;·exact⟨[],by simp⟩
  ·rename_i p hp;obtain⟨t,e⟩:=se step n (bO ps (step p)) (k+1);obtain⟨t',e'⟩:=gq (step p) ps;exact⟨t'++t,by rw[e,e'];simp⟩
theorem yf{ps t:List α}(h:q∈ps):(ps++t).idxOf q=ps.idxOf q:=by rw[List.idxOf_append,if_pos h]
theorem yg{l:List α}(h:l.Nodup):∀{i j} (hi) (hj:j < l.length),l[i]=l[j]->i=j:=by
 induction l with
 |nil=>intro i j hi;simp at hi|cons x l ih=>
  rw[Yy] at h;intro i j hi hj e;cases i with
  |zero=>cases j with|zero=>rfl|succ j=>simp at e;exact absurd (e▸Xz _) h.1
  |succ i=>cases j with|zero=>simp at e;exact absurd (e▸Xz _) h.1|succ j=>simp at e;rw[ih h.2 _ _ e]
theorem C2{q:α}(h:q∉ps):(ps++[q]++t).idxOf q=ps.length:=by rw[yf (by simp),List.idxOf_append,if_neg h];simp
structure uE(step:α->List α)(S ps:List α)(k:Nat):Prop where
 nd:ps.Nodup
 sub:∀p∈ps,p∈S
 le:k<=ps.length
 cl:∀(i:Nat) (p:α),i < k->ps[i]?=Δ p->∀q∈step p,q∈ps
variable{step:α->List α}{S:List α}
theorem uE.len(h:uE step S ps k):ps.length<=S.length:=kW h.nd h.sub
theorem uE.next(hS:∀p∈S,∀q∈step p,q∈S)(h:uE step S ps k)(hp:ps[k]?=Δ p):uE step S (bO ps (step p)) (k+1):=by
 have hk:=(qqz hp).1;obtain⟨t,et⟩:=gq (step p) ps;refine⟨sd h.nd,λq hq=>?_,by rw[et,W1];lia,λi p' hi Fp q hq=>?_⟩
 ·rcases dz.mp hq with z|z;·exact h.sub q z
  ·exact hS p (h.sub p (W6 hp)) q z
 ·have Cq:i < ps.length:=by lia
  have e:ps[i]?=Δ p':=by rw[et,WK Cq] at Fp;exact Fp
  by_cases uT:i < k;·exact dz.mpr (.inl (h.cl i p' uT e q hq))
  ·have:i=k:=by lia
   subst this;rw[hp] at e;cases e;exact dz.mpr (.inr hq)
theorem C3(hS:∀p∈S,∀q∈step p,q∈S):∀{n} {ps} {k},uE step S ps k->S.length+1<=n+k->uE step S (yx step n ps k) (yx step n ps k).length
 |0,ps,k,h,hn=>by
  have h1:=h.len;have h2:=h.le
  lia
 |n+1,ps,k,h,hn=>by
  rw[yx];split
  ·rename_i hp;have h2:=List.getElem?_eq_none_iff.mp hp;have h1:=h.le;have:k=ps.length:=by lia
   subst this;exact h
  ·rename_i p hp;exact C3 hS (h.next hS hp) (by lia)
theorem m6 F:∀(ss ps t:List α),F=bO ps ss++t->ux (ss.map λq=>F.idxOf q) ps.length=Δ (bO ps ss).length
 |[],ps,t,_=>by simp[ux,bO]|s::ss,ps,t,e=>by
  rw[ju] at e ⊢;rw[WQ,ux];by_cases h:s∈ps
  ·rw[if_pos h] at e ⊢;obtain⟨t',e'⟩:=gq ss ps;have:F.idxOf s < ps.length:=by rw[e,e',Xt,yf h];exact Yt h
   rw[if_pos this];exact m6 F ss ps t e
  ·rw[if_neg h] at e ⊢;obtain⟨t',e'⟩:=gq ss (ps++[s]);have:F.idxOf s=ps.length:=by rw[e,e',Xt,C2 h]
   rw[this,if_neg (by lia),if_pos rfl];have:=m6 F ss (ps++[s]) t e;simpa using this
theorem Ae(hS:∀p∈S,∀q∈step p,q∈S):∀{n} {ps} {k},uE step S ps k->S.length+1<=n+k->yx step n ps k=F->uy ((F.drop k).map (Ad step good F)) k ps.length=Δ F.length
 |0,ps,k,h,hn,e=>by
  have h1:=h.len;have h2:=h.le
  lia
 |n+1,ps,k,h,hn,e=>by
  rw[yx] at e;split at e;·rename_i hp;have h2:=List.getElem?_eq_none_iff.mp hp;have h1:=h.le;subst e;rw[List.drop_eq_nil_of_le h2];simp[uy]
  ·rename_i p hp;have hk:=(qqz hp).1;obtain⟨t,et⟩:=se step n (bO ps (step p)) (k+1);obtain⟨t',et'⟩:=gq (step p) ps;have eF:F=bO ps (step p)++t:=by rw[<-e,et]
   have ek:F[k]?=Δ p:=by rw[eF,et',Xt,WK hk];exact hp
   have hkF:=(qqz ek);have ed:F.drop k=p::F.drop (k+1):=by rw[Yg hkF.1,hkF.2]
   rw[ed,WQ,uy,if_pos hk];have:ux (Ad step good F p).2 ps.length=Δ (bO ps (step p)).length:=m6 F (step p) ps t eF;rw[this];exact Ae hS (h.next hS hp) (by lia) e
def places(step:α->List α)(N:Nat)(start:α):List α:=yx step N [start] 0
structure Places(w:Nat)(step:α->List α)(good:α->Nat)(S:List α)(start:α)(F:List α):Prop where
 nd:F.Nodup
 sub:∀p∈F,p∈S
 cl:∀p∈F,∀q∈step p,q∈F
 zero:F[0]?=Δ start
 ok:fF w (il step good F)
 ord:uy (il step good F) 0 1=Δ (il step good F).length
theorem Ei(hs:start∈S)(hS:∀p∈S,∀q∈step p,q∈S)(hl:∀p∈S,(step p).length=w)(hg:∀p∈S,good p<=1)(hN:S.length+1<=N):Places w step good S start (places step N start):=by
 have b0:uE step S [start] 0:=⟨by simp,λp hp=>by simp at hp;rw[hp];exact hs,by simp,λi p hi=>by lia⟩;have b:=C3 hS b0 (n:=N) (by lia);have sc:=Ae (good:=good) hS b0 (n:=N) (by lia) (F:=places step N start) rfl;obtain⟨t,et⟩:=se step N [start] 0;have xE:∀p∈places step N start,∀q∈step p,q∈places step N start:=λp hp q hq=>by obtain⟨i,hi⟩:=aaJ hp;exact b.cl i p (qqz hi).1 hi q hq
 refine⟨b.nd,b.sub,xE,by show(yx step N [start] 0)[0]?=_;rw[et];rfl,⟨?_,λs vc=>?_,λs vc=>?_,λs vc t ht=>?_⟩,?_⟩;·show 0 < (abI _ (yx step N [start] 0)).length;rw[et];simp
 ·obtain⟨p,hp,rfl⟩:=abq.mp vc;exact hg p (b.sub p hp)
 ·obtain⟨p,hp,rfl⟩:=abq.mp vc;show(abI _ _).length=w;rw[WJ];exact hl p (b.sub p hp)
 ·obtain⟨p,hp,rfl⟩:=abq.mp vc;obtain⟨q,hq,rfl⟩:=abq.mp (show t∈(step p).map λq=>(places step N start).idxOf q from ht);show _ < (abI _ _).length;rw[WJ];exact Yt (xE p hp q hq)
 ·rw[ZM] at sc;show uy ((places step N start).map _) 0 1=Δ ((places step N start).map _).length;rw[WJ];exact sc
theorem C4(h:F[i]?=Δ p):row (il step good F) i=Ad step good F p:=by unfold row il;rw[WN,WL,h];rfl
theorem C5(h:Places w step good S start F)(hl:∀p∈S,(step p).length=w):∀{u} {i} {p},F[i]?=Δ p->Wd w u->gd (il step good F) (walk (il step good F) i u)=good (G6 step p u)
 |[],i,p,hp,_=>by show(row _ i).1=good p;rw[C4 hp];rfl|a::u,i,p,hp,hu=>by
  have ha:=hu.head;have hpF:=W6 hp;have hlp:=hl p (h.sub p hpF);have hq:(step p)[a]?=Δ ((step p)[a]'(by lia)):=WI (by lia);have hqF:=h.cl p hpF _ (Xz (by lia:a < (step p).length));have es:bg (il step good F) i a=F.idxOf ((step p)[a]'(by lia)):=by unfold bg;rw[C4 hp];show((step p).map _).getD a 0=_;rw[WN,WL,hq];rfl
  show gd _ (walk _ (bg _ i a) u)=good (G6 step (((step p)[a]?).getD p) u);rw[es,hq];exact C5 h hl (by rw[WI (Yt hqF),List.getElem_idxOf];rfl) hu.tail
end
section
variable{w:Nat}{m:dU}
def Rt(grp:List Nat)(s:Nat):Nat:=grp.idxOf (grp.getD s 0)
noncomputable def iH(w:Nat)(m:dU):nq:=settle m w (m.length+2) (je m)
theorem xa(ok:fF w m):uB w m (iH w m)/\(iH w m).wait=[]:=uC ok (uD ok) (by simp[je];have:=ok.ne;lia)
noncomputable def fst(w:Nat)(m:dU)(s:Nat):Nat:=Rt (iH w m).grp s
theorem gu(ok:fF w m)(hs:s < m.length):fst w m s < m.length/\lV w m (fst w m s) m s/\∀t,t < m.length->lV w m s m t->fst w m t=fst w m s:=by
 obtain⟨c,hw⟩:=xa ok;have gl:=c.1.qY;have e:(iH w m).grp.getD s 0=(iH w m).grp[s]'(by lia):=by rw[WN,WI (by lia)];rfl
 have mem:(iH w m).grp.getD s 0∈(iH w m).grp:=by rw[e];exact Xz _
 have lt:fst w m s < m.length:=by
  have:=Yt mem;show List.idxOf _ _ < _
  lia
 have at_:(iH w m).cI (fst w m s)=(iH w m).cI s:=by show(iH w m).grp.getD (fst w m s) 0=(iH w m).grp.getD s 0;have h1:=Yt mem;rw[WN,WI (show fst w m s < _ from h1)];show(iH w m).grp[(iH w m).grp.idxOf ((iH w m).grp.getD s 0)]=_;exact List.getElem_idxOf h1
 refine⟨lt,(Ac ok c hw lt hs).mp at_,λt ht q=>?_⟩;have:=(Ac ok c hw hs ht).mpr q;show(iH w m).grp.idxOf ((iH w m).cI t)=(iH w m).grp.idxOf ((iH w m).cI s);rw[this]
noncomputable def dX(w:Nat)(m:dU)(s:Nat):List Nat:=(row m s).2.map (fst w m)
noncomputable def eh(w:Nat)(m:dU):List Nat:=places (dX w m) 1000000 (fst w m 0)
theorem xb w m:∃M,M=il (dX w m) (gd m) (eh w m):=⟨_,rfl⟩
noncomputable def iq(w:Nat)(m:dU):dU:=Classical.choose (xb w m)
theorem fX w m:iq w m=il (dX w m) (gd m) (eh w m):=Classical.choose_spec (xb w m)
theorem Af(ok:fF w m):∀p∈WB m.length,∀q∈dX w m p,q∈WB m.length:=λp hp q hq=>by rw[XX] at hp ⊢;obtain⟨t,ht,rfl⟩:=abq.mp hq;exact(gu ok (ok.lt _ (bP hp) t ht)).1
theorem pR(ok:fF w m):∀p∈WB m.length,(dX w m p).length=w:=λp hp=>by rw[XX] at hp;unfold dX;rw[WJ];exact ok.len _ (bP hp)
theorem m7(ok:fF w m)(hm:m.length < 1000000):Places w (dX w m) (gd m) (WB m.length) (fst w m 0) (eh w m):=
 Ei (XX.mpr (gu ok ok.ne).1) (Af ok) (pR ok) (λp hp=>ok.good _ (bP (XX.mp hp))) (by rw[Xa];lia)
theorem Ru(ok:fF w m):∀{u} {s p},s < m.length->p < m.length->lV w m p m s->Wd w u->gd m (G6 (dX w m) p u)=gd m (walk m s u)
 |[],s,p,hs,hp,q,_=>q.good|a::u,s,p,hs,hp,q,hu=>by
  have ha:=hu.head;have hl:=ok.len _ (bP hp);have e:(dX w m p)[a]?=Δ (fst w m (bg m p a)):=by unfold dX bg;rw[WL,WN,WI (by lia)];rfl
  show gd m (G6 _ (((dX w m p)[a]?).getD p) u)=gd m (walk m (bg m s a) u);rw[e];obtain⟨f1,f2,_⟩:=gu ok (ok.bg hp ha);exact Ru ok (ok.bg hs ha) f1 (f2.trans (q.step ha)) hu.tail
theorem m8(ok:fF w m)(hm:m.length < 1000000)(h:(eh w m)[i]?=Δ p):lV w (iq w m) i m p:=λu hu=>by have P:=m7 ok hm;have hp:p < m.length:=XX.mp (P.sub p (W6 h));rw[fX,show gd (il (dX w m) (gd m) (eh w m)) (walk (il (dX w m) (gd m) (eh w m)) i u)=gd m (G6 (dX w m) p u) from C5 P (pR ok) h hu];exact Ru ok hp hp lV.refl hu
theorem BY(ok:fF w m)(hm:m.length < 1000000):(iq w m).length<=m.length:=by have P:=m7 ok hm;rw[fX];show(abI _ _).length<=_;rw[WJ];have:=kW P.nd P.sub;rw[Xa] at this;exact this
theorem ot(ok:fF w m)(hm:m.length < 1000000):KS w (iq w m)/\lV w (iq w m) 0 m 0:=by
 have P:=m7 ok hm;have rep:∀p∈eh w m,fst w m p=p:=by
  have all:∀(n:Nat) (ps:List Nat) (k:Nat),(∀p∈ps,p < m.length/\fst w m p=p)->∀p∈yx (dX w m) n ps k,p < m.length/\fst w m p=p:=by
   intro n;induction n with
   |zero=>intro ps k h;exact h|succ n ih=>
    intro ps k h;rw[yx];split;·exact h
    ·rename_i p hp;refine ih _ _ λq hq=>?_;rcases dz.mp hq with z|z;·exact h q z
     ·obtain⟨t,ht,rfl⟩:=abq.mp z;have Fp:=(h p (W6 hp)).1;have uW:=ok.lt _ (bP Fp) t ht;obtain⟨f1,f2,f3⟩:=gu ok uW;exact⟨f1,f3 _ f1 f2.symm⟩
  intro p hp;obtain⟨f1,f2,f3⟩:=gu ok ok.ne;exact(all 1000000 [fst w m 0] 0 (λq hq=>by simp at hq;rw[hq];exact⟨f1,f3 _ f1 f2.symm⟩) p hp).2
 have V4:(iq w m).length=(eh w m).length:=by rw[fX];exact WJ ..
 refine⟨⟨by rw[fX];exact P.ok,λs t hs ht q=>?_,by rw[fX];exact P.ord⟩,?_⟩
 ·have vc:s < (eh w m).length:=by lia
  have uW:t < (eh w m).length:=by lia
  have es:=WI vc;have et:=WI uW;have q1:lV w m (eh w m)[s] m (eh w m)[t]:=((m8 ok hm es).symm.trans q).trans (m8 ok hm et);have ps:=XX.mp (P.sub _ (Xz vc));have pt:=XX.mp (P.sub _ (Xz uW));have:=(gu ok ps).2.2 _ pt q1;rw[rep _ (Xz vc),rep _ (Xz uW)] at this;exact yg P.nd vc uW this.symm
 ·obtain⟨f1,f2,f3⟩:=gu ok ok.ne;exact(m8 ok hm P.zero).trans f2
end
end Y
namespace Y
open PySem
noncomputable def encM(ss:List Nat):O:=.dK (ss.map λ(s:Nat)=>(.inl (s:Int),P.d (.bl Λ)))
def encL(ss:List Nat):O:=.lst (ss.map λs=>P.d (nD s))
def jv(bs:List Bool):O:=.lst (bs.map λb=>P.d (.bl b))
noncomputable def qW(b:Nat):List (Str×P):=[("sources",.obj b),("group_of",.obj (b+1)),("members",.obj (b+4)),("waiting",.obj (b+5)),("waits",.obj (b+6))]
def ir(b:Nat):O:=.ins "Groups" (qW b)
def Mad(b a:Nat):Prop:=a=b+2\/a=b+3\/b+7<=a
def EI(b:Nat)(mb:List Nat)(l:Nat):Prop:=b+7<=l/\l∉mb
structure HS(m:dU)(w b:Nat)(mb:List Nat)(st:aL)(h:nq):Prop where
 len:b+7<=st.length
 b0:0 < b
 self:st[0]?=Δ (ir b)
 src:∃outer:List Nat,st[b]?=Δ (.lst (outer.map P.obj))/\outer.length=w/\∀a,a < w->∃(o:Nat) (rows:List Nat),outer[a]?=Δ o/\0 < o/\o < b/\st[o]?=Δ (.lst (rows.map P.obj))/\∀t,t < m.length->∃l,rows[t]?=Δ l/\0 < l/\l < b/\st[l]?=Δ (encL (dI m a t))
 grp:st[b+1]?=Δ (encL h.grp)
 KW:st[b+4]?=Δ (.lst (mb.map P.obj))
 qZ:mb.length=h.mem.length
 mem:∀g,g < h.mem.length->∃a,mb[g]?=Δ a/\Mad b a/\a < st.length/\st[a]?=Δ (encM (h.mem.getD g []))
 Rv:mb.Nodup
 Ow:st[b+5]?=Δ (encL h.wait)
 iC:st[b+6]?=Δ (jv h.iC)
section
variable{m:dU}{w b:Nat}{mb:List Nat}{st aJ:aL}{h:nq}
theorem HS.mad(hs:HS m w b mb st h)(ha:a∈mb):Mad b a/\a < st.length:=by obtain⟨g,hg⟩:=aaJ ha;have hl:=(qqz hg).1;obtain⟨a',e,q,q2,_⟩:=hs.mem g (by rw[<-hs.qZ];exact hl);rw[hg] at e;cases e;exact⟨q,q2⟩
theorem HS.keep(hs:HS m w b mb st h)(hl:st.length<=aJ.length)(k:∀i,i < st.length->¬EI b mb i->aJ[i]?=st[i]?):HS m w b mb aJ h:=by
 have kk:∀i,i < b+7->aJ[i]?=st[i]?:=λi hi=>k i (by have:=hs.len;lia) (λz=>by have:=z.1;lia);refine⟨by have:=hs.len;lia,hs.b0,by rw[kk 0 (by lia)];exact hs.self,?_,by rw[kk _ (by lia)];exact hs.grp,by rw[kk _ (by lia)];exact hs.KW,hs.qZ,λg hg=>?_,hs.Rv,by rw[kk _ (by lia)];exact hs.Ow,by rw[kk _ (by lia)];exact hs.iC⟩;·obtain⟨outer,e1,e2,e3⟩:=hs.src;refine⟨outer,by rw[kk _ (by lia)];exact e1,e2,λa ha=>?_⟩;obtain⟨o,rows,f1,f2,f3,f4,f5⟩:=e3 a ha;refine⟨o,rows,f1,f2,f3,by rw[kk _ (by lia)];exact f4,λt ht=>?_⟩;obtain⟨l,g1,g2,g3,g4⟩:=f5 t ht;exact⟨l,g1,g2,g3,by rw[kk _ (by lia)];exact g4⟩
 ·obtain⟨a,e1,e2,e3,e4⟩:=hs.mem g hg;exact⟨a,e1,e2,by lia,by rw[k a e3 (λz=>z.2 (W6 e1))];exact e4⟩
theorem HS.put(hs:HS m w b mb st h)(hl:EI b mb l)o:HS m w b mb (st.set l o) h:=hs.keep (by simp) λi hi ho=>WH (λ(z:l=i)=>ho (z▸hl))
theorem Ag(hs:st[0]?=Δ (ir b)):o7 "Groups" st (.obj 0)=Δ (0,qW b):=by unfold o7;simp[hs,ir]
theorem cX(hi:(r[i]?).join=Δ (.obj 0))(hs:st[0]?=Δ (ir b))(hf:(qW b).lookup f=Δ x):aa C (.attr "Groups" f i) r st=.ok x st:=by rw[CZ,hi,ay,ae,Ag hs,Yf,hf,ay]
theorem ou(hi:(r[i]?).join=Δ (.obj 0))(hs:st[0]?=Δ (ir b))(hf:(qW b).lookup f=Θ)(he:aA C es r st=.ok ps st1)(hc:C k (.obj 0::ps) st1=res):aa C (.o6 k "Groups" f i es) r st=res:=by rw[JN,hi,ay,ae,Ag hs,Yf,hf];simp[he,hc]
theorem HS.Rw(hs:HS m w b mb st h)g:HS m w b mb ((st.set (b+5) (encL (h.wait++[g]))).set (b+6) (jv (h.iC.set g Λ))) ⟨h.grp,h.mem,h.wait++[g],h.iC.set g Λ⟩:=by
 have hl:=hs.len;have g0:∀i,i≠b+5->i≠b+6->((st.set (b+5) (encL (h.wait++[g]))).set (b+6) (jv (h.iC.set g Λ)))[i]?=st[i]?:=λi h1 h2=>by rw[WH (XC h2),WH (XC h1)]
 refine⟨by simpa using hl,hs.b0,by rw[g0 0 (by lia) (by lia)];exact hs.self,?_,by rw[g0 _ (by lia) (by lia)];exact hs.grp,by rw[g0 _ (by lia) (by lia)];exact hs.KW,hs.qZ,λk hk=>?_,hs.Rv,?_,?_⟩;·obtain⟨outer,e1,e2,e3⟩:=hs.src;refine⟨outer,by rw[g0 _ (by lia) (by lia)];exact e1,e2,λa ha=>?_⟩;obtain⟨o,rows,f1,f2,f3,f4,f5⟩:=e3 a ha;refine⟨o,rows,f1,f2,f3,by rw[g0 _ (by lia) (by lia)];exact f4,λt ht=>?_⟩;obtain⟨l,q1,q2,q3,q4⟩:=f5 t ht;exact⟨l,q1,q2,q3,by rw[g0 _ (by lia) (by lia)];exact q4⟩
 ·obtain⟨a,e1,e2,e3,e4⟩:=hs.mem k hk;refine⟨a,e1,e2,by simpa using e3,?_⟩;rw[g0 _ (by rcases e2 with z|z|z<;>lia) (by rcases e2 with z|z|z<;>lia)];exact e4
 ·rw[WH (by lia),W4 (by lia)]
 ·rw[W4 (by simp;lia)]
end
theorem G7{ss:List Nat}(h:s∈ss):fH (ss.map λ(s:Nat)=>((.inl (s:Int):Sum Int Str),P.d (.bl Λ))) (.inl (s:Int))=Δ (.d (.bl Λ)):=by
 unfold fH;induction ss with
 |nil=>cases h|cons x ss ih=>
  rw[WQ,XY];by_cases e:x=s;·subst e;simp
  ·have:decide ((.inl (x:Int):Sum Int Str)=.inl (s:Int))=Ξ:=by rw[decide_eq_false_iff_not];intro z;injection z with z;exact e (by lia)
   simp only[this];exact ih ((Z3.mp h).resolve_left λz=>e z.symm)
theorem Ej(ss:List Nat)(s:Nat):wc (ss.map λ(s:Nat)=>((.inl (s:Int):Sum Int Str),P.d (.bl Λ))) (.inl (s:Int))=(ss.filter λx=>decide (x≠s)).map λ(s:Nat)=>((.inl (s:Int):Sum Int Str),P.d (.bl Λ)):=by
 unfold wc;induction ss with
 |nil=>rfl|cons x ss ih=>
  rw[WQ];by_cases e:x=s;·subst e;rw[Yr (by simp),Yr (by simp)];exact ih
  ·rw[X5 (by simp;lia),X5 (by simp;exact e),WQ,ih]
theorem sf{κ:Type}[DecidableEq κ]{kvs:List (κ×P)}{k:κ}(h:∀kv∈kvs,kv.1≠k):mO kvs k v=kvs++[(k,v)]:=by
 unfold mO;have:(kvs.any λkv=>decide (kv.1=k))=Ξ:=by rw[aa3];intro kv qr;simpa using h kv qr
 rw[this];simp
theorem G8(h:st[a]?=Δ (encM ss)):b8 st (.obj a)=Δ (encM ss):=by unfold b8 IP;simp[h,encM,kH]
theorem G9(h:st[a]?=Δ (encM ss))(hs:s∈ss):Gc (.obj a) (.d (nD s)) st=Δ (.d (.bl Λ),st.set a (encM (ss.filter λx=>decide (x≠s)))):=by have hk:keyOf (.d (nD s))=Δ (.inl (s:Int)):=rfl;unfold Gc;simp only[h,encM,hk,Yf,G7 hs,Ej,XA]
theorem uF(h:st[a]?=Δ (encM ss))(hs:s∉ss)(hl:ss.length < aw):qU (.obj a) (.d (nD s)) (.d (.bl Λ)) st=Δ (st.set a (encM (ss++[s]))):=by
 have hk:keyOf (.d (nD s))=Δ (.inl (s:Int)):=rfl;have hp:mO (ss.map λ(s:Nat)=>((.inl (s:Int):Sum Int Str),P.d (.bl Λ))) (.inl (s:Int)) (P.d (.bl Λ))=(ss++[s]).map λ(s:Nat)=>((.inl (s:Int):Sum Int Str),P.d (.bl Λ)):=by
  rw[sf,Xn];·rfl
  ·intro kv qr;obtain⟨x,hx,rfl⟩:=abq.mp qr;intro z;injection z with z;exact hs ((show x=s by lia)▸hx)
 unfold qU;simp only[h,Yf,encM,DR,Ga,WJ,hl,if_true,hk,XA,hp]
theorem Ah{l:List Nat}{ss:List Nat}(h:ss[i]?=Δ s):((l.filter λx=>decide (x∉ss.take i)).filter λx=>decide (x≠s))=l.filter λx=>decide (x∉ss.take (i+1)):=by
 rw[List.filter_filter];congr 1;funext x;have e:ss.take (i+1)=ss.take i++[s]:=by rw[X2,h];rfl
 rw[e];by_cases h1:x=s<;>by_cases h2:x∈ss.take i<;>simp[Z5,h1,h2]
theorem Ai{fresh:Nat}{ss g:List Nat}(h:ss[i]?=Δ s):(putAll fresh (ss.take i) g).set s fresh=putAll fresh (ss.take (i+1)) g:=by
 have e:ss.take (i+1)=ss.take i++[s]:=by rw[X2,h];rfl
 rw[e];unfold putAll;rw[Zj];rfl
theorem Aj{ss:List Nat}(hn:ss.Nodup)(h:ss[i]?=Δ s):s∉ss.take i:=by
 obtain⟨hi,e⟩:=qqz h;intro hm;obtain⟨j,hj,e2⟩:=aaP hm;rw[List.getElem_take] at e2;have Su:j < i:=by simp at hj;lia
 have:=yg hn (i:=j) (j:=i) (by lia) hi (e2.trans e.symm)
 lia
abbrev KY:=Nat×List Nat×Nat
noncomputable def uZ(dl:List KY):List (Sum Int Str×P):=dl.map λt=>(.inl (t.1:Int),P.obj t.2.2)
structure GS(grp:List Nat)(D0:Nat)(st s:aL)(done:List Nat)(dl:List KY):Prop where
 proj:dl.map (λt=>(t.1,t.2.1))=cz grp done
 qG:s[D0]?=Δ (.dK (uZ dl))
 at_:∀t∈dl,D0 < t.2.2/\t.2.2 < s.length/\s[t.2.2]?=Δ (encL t.2.1)
 nd:(dl.map λt=>t.2.2).Nodup
 pre:∀i,i < D0->s[i]?=st[i]?
 len:D0 < s.length
theorem xc:∀{dl:List KY},g∈dl.map (·.1)->∃l1 ss a l2,dl=l1++(g,ss,a)::l2/\∀t∈l1,t.1≠g
 |[],h=>by cases h|(k,ss,a)::dl,h=>by
  by_cases e:k=g;·subst e;exact⟨[],ss,a,dl,rfl,λ_ z=>nomatch z⟩
  ·rw[WQ] at h;obtain⟨l1,ss',a',l2,e2,h2⟩:=xc ((Z3.mp h).resolve_left λz=>e z.symm);refine⟨(k,ss,a)::l1,ss',a',l2,by rw[e2];rfl,λt ht=>?_⟩;rcases Z3.mp ht with z|z;·rw[z];exact e
   ·exact h2 t z
theorem qH:∀{l1 l2},(∀t∈l1,t.1≠g)->dw (l1++(g,ss)::l2) g x=l1++(g,ss++[x])::l2
 |[],l2,_=>by simp[dw]|(k,r)::l1,l2,h=>by have hk:k≠g:=h (k,r) WG;rw[Ys,dw,if_neg hk,qH λt ht=>h t (WE _ ht)];rfl
theorem uG:∀{l},(∀t∈l,t.1≠g)->dw l g x=l++[(g,[x])]
 |[],_=>by simp[dw]|(k,r)::l,h=>by have hk:k≠g:=h (k,r) WG;rw[dw,if_neg hk,uG λt ht=>h t (WE _ ht)];rfl
theorem Ek{ss:List Nat}{l1 l2:List KY}(h:∀t∈l1,t.1≠g):fH (uZ (l1++(g,ss,a)::l2)) (.inl (g:Int))=Δ (.obj a):=by
 unfold fH uZ;rw[Xn,List.find?_append];have:(l1.map λt:KY=>((.inl (t.1:Int):Sum Int Str),P.obj t.2.2)).find? (λkv=>decide (kv.1=.inl (g:Int)))=Θ:=by
  rw[aaW];intro kv qr;obtain⟨t,ht,rfl⟩:=abq.mp qr;have:=h t ht;simp
  lia
 rw[this];simp
theorem Ha{g:Nat}(h:g∉dl.map (·.1)):fH (uZ dl) (.inl (g:Int))=Θ:=by
 unfold fH uZ;have:(dl.map λt:KY=>((.inl (t.1:Int):Sum Int Str),P.obj t.2.2)).find? (λkv=>decide (kv.1=.inl (g:Int)))=Θ:=by
  rw[aaW];intro kv qr;obtain⟨t,ht,rfl⟩:=abq.mp qr;have:t.1≠g:=λz=>h (abq.mpr ⟨t,ht,z⟩);simp
  lia
 rw[this];rfl
theorem GS.next(G:GS grp D0 st s done dl)(hl:dl.length < aw)(hd:done.length < aw):
  ∃v its s1 s2 NL,qu (.obj D0) (.d (nD (grp.getD x 0))) (.obj s.length) (s++[O.lst []])=Δ (v,s1)/\bM s1 v=Δ its/\xK v (.d (nD x)) s1=Δ s2/\GS grp D0 st s2 (done++[x]) NL:=by
 have oM:cz grp (done++[x])=dw (cz grp done) (grp.getD x 0) x:=by unfold cz;rw[Zj];rfl
 have hk:keyOf (.d (nD (grp.getD x 0)))=Δ (.inl ((grp.getD x 0:Nat):Int)):=rfl;have hlen:=G.len;have hD:(s++[O.lst []])[D0]?=Δ (.dK (uZ dl)):=by rw[WK hlen];exact G.qG
 have hkl:(uZ dl).length < aw:=by unfold uZ;simpa using hl
 generalize hg:grp.getD x 0=g at*;by_cases uH:g∈dl.map (·.1)
 ·obtain⟨l1,ss,a,l2,rfl,h1⟩:=xc uH;obtain⟨a1,a2,a3⟩:=G.at_ (g,ss,a) (by simp);dsimp only at a1 a2 a3;have ssl:ss.length<=done.length:=by
   have:(g,ss)∈cz grp done:=by rw[<-G.proj];exact abq.mpr ⟨(g,ss,a),by simp,rfl⟩
   have:=((dW grp done).2.1 g ss this).1;rw[this];exact XG _ _
  have ha:(s++[O.lst []])[a]?=Δ (encL ss):=by rw[WK a2];exact a3
  refine⟨.obj a,ss.map λs=>P.d (nD s),s++[O.lst []],(s++[O.lst []]).set a (encL (ss++[x])),l1++(g,ss++[x],a)::l2,?_,iU ha,?_,?_⟩;·unfold qu;simp only[hD,hkl,if_true,hk,XA,Ek h1]
  ·rw[gR ha (by simp;lia)];simp[encL]
  ·have Eh:=G.nd;rw[Xn,WQ,XN] at Eh;refine⟨?_,?_,λt ht=>?_,by rw[Xn,WQ,XN];exact Eh,λi hi=>?_,by simp;lia⟩;·rw[oM,<-G.proj,Xn,WQ,Xn,WQ,qH];intro t ht;obtain⟨t',uW,rfl⟩:=abq.mp ht;exact h1 t' uW
   ·rw[WH (by lia),hD];unfold uZ;simp
   ·by_cases ta:t.2.2=a
    ·have:t=(g,ss++[x],a):=by
      rcases Z5.mp ht with z|z;·exact absurd ta (Eh.2.2 _ (abq.mpr ⟨t,z,rfl⟩) _ WG)
      ·rcases Z3.mp z with z|z;·exact z
       ·rw[Yy] at Eh;exact absurd (abq.mpr ⟨t,z,ta⟩) Eh.2.1.1
     subst this;refine⟨a1,by simp;lia,?_⟩;rw[W4 (by simp;lia)]
    ·have uW:t∈l1++(g,ss,a)::l2:=by
      rcases Z5.mp ht with z|z;·exact XO _ z
      ·rcases Z3.mp z with z|z;·rw[z] at ta;exact absurd rfl ta
       ·exact Xi _ (WE _ z)
     obtain⟨b1,b2,b3⟩:=G.at_ t uW;exact⟨b1,by simp;lia,by rw[WH (XC ta),WK b2];exact b3⟩
   ·rw[WH (by lia),WK (by lia)];exact G.pre i hi
 ·have hm:∀t∈cz grp done,t.1≠g:=λt ht z=>uH (by rw[<-G.proj] at ht;obtain⟨t',uW,rfl⟩:=abq.mp ht;exact abq.mpr ⟨t',uW,z⟩);have V5:mO (uZ dl) (.inl (g:Int)) (.obj s.length)=uZ (dl++[(g,[x],s.length)]):=by
   rw[sf];·unfold uZ;simp
   ·intro kv qr;obtain⟨t,ht,rfl⟩:=abq.mp qr;intro z;injection z with z;exact uH (abq.mpr ⟨t,ht,by lia⟩)
  have KZ:((s++[O.lst []]).set D0 (.dK (uZ (dl++[(g,[x],s.length)]))))[s.length]?=Δ (.lst []):=by rw[WH (by lia)];simp
  refine⟨.obj s.length,[],(s++[O.lst []]).set D0 (.dK (uZ (dl++[(g,[x],s.length)]))),((s++[O.lst []]).set D0 (.dK (uZ (dl++[(g,[x],s.length)])))).set s.length (encL [x]),dl++[(g,[x],s.length)],?_,iU KZ,?_,?_⟩;·unfold qu;simp only[hD,hkl,if_true,hk,XA,Ha uH,V5]
  ·rw[gR KZ (by simp[aw])];simp[encL]
  ·refine⟨?_,?_,λt ht=>?_,?_,λi hi=>?_,by simp;lia⟩;·rw[oM,<-G.proj,uG (by rw[G.proj];exact hm),Xn];rfl
   ·rw[WH (by lia),W4 (by simp;lia)]
   ·rcases Z5.mp ht with z|z;·obtain⟨b1,b2,b3⟩:=G.at_ t z;exact⟨b1,by simp;lia,by rw[WH (by lia),WH (by lia),WK b2];exact b3⟩
    ·rw[X7] at z;subst z;exact⟨hlen,by simp,by rw[W4 (by simp)]⟩
   ·rw[Xn,XN];refine⟨G.nd,by simp,λp hp q hq=>?_⟩;simp at hq;subst hq;obtain⟨t,ht,rfl⟩:=abq.mp hp;have:=(G.at_ t ht).2.1
    lia
   ·rw[WH (by lia),WH (by lia),WK (by lia)];exact G.pre i hi
structure Rx(α:Type)[DecidableEq α] where
 enc:α->D
 qG:List α->O
 S4:∀ps,kH (qG ps)=Λ
 lit:∀a,IT (.d (enc a)) (.d (.int 0))=Δ (qG [a])
 get:∀ps a,ps.Nodup->qt (qG ps) (.d (enc a))=Δ (if a∈ps then Δ (.d (nD (ps.idxOf a))) else Θ)
 put:∀ps a,a∉ps->ps.length < aw->Ga (qG ps) (.d (enc a)) (.d (nD ps.length))=Δ (qG (ps++[a]))
theorem Ak{α κ:Type}[DecidableEq α][DecidableEq κ]{f:α->κ}(hf:∀a b,f a=f b->a=b):∀(ps:List α) (k) (a),fH (ps.zipIdx k |>.map λq=>(f q.1,P.d (nD q.2))) (f a)=if a∈ps then Δ (.d (nD (k+ps.idxOf a))) else Θ
 |[],k,a=>by simp[fH]|x::ps,k,a=>by
  have ih:=Ak hf ps (k+1) a;unfold fH at ih ⊢;rw[abh,WQ,XY];by_cases e:x=a;·subst e;simp
  ·have h1:decide (f x=f a)=Ξ:=decide_eq_false λz=>e (hf _ _ z);simp only[h1];rw[ih];have h2:(x==a)=Ξ:=by simpa using e
   have h3:a≠x:=λz=>e z.symm;by_cases uH:a∈ps;·rw[if_pos uH,if_pos (WE _ uH),List.idxOf_cons,h2];simp only[cond_false];congr 3;lia
   ·rw[if_neg uH,if_neg (λz=>(Z3.mp z).elim h3 uH)]
theorem JZ{α κ:Type}[DecidableEq α][DecidableEq κ]{f:α->κ}(hf:∀a b,f a=f b->a=b){ps:List α}{a:α}(h:a∉ps):mO (ps.zipIdx.map λq=>(f q.1,P.d (nD q.2))) (f a) (.d (nD ps.length))=(ps++[a]).zipIdx.map λq=>(f q.1,P.d (nD q.2)):=by
 rw[sf];·rw[List.zipIdx_append,Xn];simp
 ·intro kv qr;obtain⟨q,hq,rfl⟩:=abq.mp qr;intro z;have:=hf _ _ z;have yF:q.1∈ps:=by obtain⟨x,i⟩:=q;have:=List.mem_zipIdx' hq;rw[this.2];exact Xz _
  exact h (this▸yF)
def BZ(n:Nat):Sum Int Str:=.inl (n:Int)
theorem Al a b(h:BZ a=BZ b):a=b:=by unfold BZ at h;injection h with h;lia
def V6:Rx Nat where
 enc:=nD
 qG:=λps=>.dK (ps.zipIdx.map λq=>(BZ q.1,P.d (nD q.2)))
 S4:=λ_=>rfl
 lit:=λa=>rfl
 get:=λps a _=>by show(keyOf (.d (nD a))).map _=_;have:keyOf (.d (nD a))=Δ (BZ a):=rfl;rw[this,XA];congr 1;have:=Ak Al ps 0 a;simpa using this
 put:=λps a h hl=>by show(if(ps.zipIdx.map λq=>(BZ q.1,P.d (nD q.2))).length < aw then(keyOf (.d (nD a))).map _ else Θ)=_;have:keyOf (.d (nD a))=Δ (BZ a):=rfl;rw[if_pos (by simpa using hl),this,XA,JZ Al h]
theorem C6:∀ns:List Nat,intsOf ((ns.map nD).map P.d)=Δ (ns.map λ(n:Nat)=>(n:Int))
 |[]=>rfl|n::ns=>by rw[WQ,WQ];show(intsOf ((ns.map nD).map P.d)).map _=_;rw[C6 ns];rfl
end Y
namespace Y
section
variable{α:Type}[DecidableEq α]{step:α->List α}{good:α->Nat}
end
noncomputable def Ry(l:List Nat)(a x:Nat):List Nat:=l.take a++[x]++l.drop a
def mvP(x:Int):Nat->List Nat
 |0=>[0]|k+1=>Ry (mvP x k) (1+(drawn x (k+1) % ((k+1:Nat):Int)).toNat) (k+1)
noncomputable def aX(w:Nat):Nat->List (List Nat)
 |0=>[[]]|k+1=>(aX w k).flatMap λu=>(WB w).map λa=>u++[a]
def bE(w N:Nat):List (List Nat):=(WB (N+1)).flatMap (aX w)
theorem di:∀{k} {u},u∈aX w k↔Wd w u/\u.length=k
 |0,u=>by
  simp only[aX,X7];constructor;·rintro rfl;exact⟨Wd.nil,rfl⟩
  ·rintro⟨_,h⟩;exact List.length_eq_zero_iff.mp h
 |k+1,u=>by
  simp only[aX,List.mem_flatMap,abq,XX];constructor;·rintro⟨v,hv,a,ha,rfl⟩;obtain⟨h1,h2⟩:=di.mp hv;exact⟨h1.app (Wd.nil.cons ha),by simp[h2]⟩
  ·rintro⟨h1,h2⟩;have fc:u≠[]:=λz=>by rw[z] at h2;simp at h2
   refine⟨u.dropLast,di.mpr ⟨λb hb=>h1 b (List.dropLast_subset u hb),by simp[h2]⟩,u.getLast fc,h1 _ (List.getLast_mem fc),List.dropLast_concat_getLast fc⟩
theorem B0(h:u∈bE w N):Wd w u:=by obtain⟨k,_,hk⟩:=List.mem_flatMap.mp h;exact(di.mp hk).1
theorem pU w:∀k,(aX w k).length=w ^ k
 |0=>rfl|k+1=>by
  rw[aX];have:∀l:List (List Nat),(l.flatMap λu=>(WB w).map λa=>u++[a]).length=l.length*w:=λl=>by induction l with|nil=>simp|cons u l ih=>rw[Zk,W1,ih];simp[ZR,ab4]
  rw[this,pU w k,Nat.pow_succ]
end Y
namespace Y
open PySem
mutual
theorem Am:∀x:D,wb x x=Λ
 |.bz=>rfl|.bl b=>beq_self_eq_true b|.int i=>beq_self_eq_true i|.str s=>beq_self_eq_true s|.tup xs=>pV xs|.pl xs=>pV xs
theorem pV:∀xs:List D,iF xs xs=Λ
 |[]=>rfl|x::xs=>by rw[IM,Am x,pV xs];rfl
end
theorem NM u:mM (wD u)<=1:=by
 have:∀u:List Nat,kF (u.map nD)=0:=λu=>by induction u with|nil=>rfl|cons x u ih=>rw[WQ,Cv,ih];rfl
 unfold wD;rw[FZ,this];exact WM _
end Y
namespace Y
section
variable{w:Nat}{m n:dU}
variable(ok:fF w m)(ok':fF w n)
include ok ok'
end
def k8(m:dU):dU:=m.map λs=>(1 - s.1,s.2)
theorem C7(ok:fF w m):fF w (k8 m)/\(k8 m).length=m.length/\∀u,Wd w u->gd (k8 m) (walk (k8 m) 0 u)=1 - gd m (walk m 0 u):=by
 have el:(k8 m).length=m.length:=WJ ..;have er:∀s,s < m.length->row (k8 m) s=(1 - (row m s).1,(row m s).2):=λs hs=>by have:=yd hs;unfold row k8;rw[WN,WL,this];rfl
 refine⟨⟨by rw[el];exact ok.ne,λs hs=>?_,λs hs=>?_,λs hs t ht=>?_⟩,el,λu hu=>?_⟩;·obtain⟨x,hx,rfl⟩:=abq.mp hs;exact Nat.sub_le _ _
 ·obtain⟨x,hx,rfl⟩:=abq.mp hs;exact ok.len x hx
 ·obtain⟨x,hx,rfl⟩:=abq.mp hs;rw[el];exact ok.lt x hx t ht
 ·have go:∀(u:List Nat) (s:Nat),s < m.length->Wd w u->walk (k8 m) s u=walk m s u/\walk m s u < m.length:=by
   intro u;induction u with
   |nil=>intro s hs _;exact⟨rfl,hs⟩|cons a u ih=>
    intro s hs hu;have e:bg (k8 m) s a=bg m s a:=by unfold bg;rw[er s hs]
    show walk (k8 m) (bg (k8 m) s a) u=walk m (bg m s a) u/\walk m (bg m s a) u < m.length;rw[e];exact ih _ (ok.bg hs hu.head) hu.tail
  obtain⟨e,h⟩:=go u 0 ok.ne hu;rw[e];unfold gd;rw[er _ h]
def cE(m:dU):Nat->Nat->Int
 |0,s=>gd m s|k+1,s=>((row m s).2.map (cE m k)).sum
def fJ(m:dU):Nat->Nat->Nat
 |0,s=>gd m s|k+1,s=>((row m s).2.map (fJ m k)).foldl max 0
theorem jQ w:∀k,aX w (k+1)=(WB w).flatMap λa=>(aX w k).map λu=>a::u
 |0=>by simp[aX,aas,List.map_eq_flatMap]|k+1=>by have e:∀j,aX w (j+1)=(aX w j).flatMap λu=>(WB w).map λa=>u++[a]:=λ_=>rfl;rw[e (k+1),jQ w k,List.flatMap_assoc];refine congrArg (λf=>(WB w).flatMap f) (funext λa=>?_);rw[<-jQ w k,e k,List.flatMap_map,List.map_flatMap];refine congrArg (λf=>(aX w k).flatMap f) (funext λu=>?_);simp[Xu]
theorem ow(ok:fF w m)(hs:s < m.length):(row m s).2=(WB w).map (bg m s):=by have hl:=ok.len _ (bP hs);refine List.ext_getElem (by rw[hl];simp) λi h1 h2=>?_;simp[bg,WN,h1]
theorem An{α:Type}p(f:α->List (List Nat))(g:α->Int):∀(l:List α),(∀a∈l,(((f a).filter p).length:Int)=g a)->(((l.flatMap f).filter p).length:Int)=(l.map g).sum
 |[],_=>by simp|a::l,h=>by rw[Zk,X8,W1,WQ,List.sum_cons,<-h a WG,<-An p f g l λb hb=>h b (WE _ hb)];exact Int.natCast_add ..
theorem yh(ok:fF w m):∀(k) {s},s < m.length->cE m k s=(((aX w k).filter λu=>gd m (walk m s u)==1).length:Nat)
 |0,s,hs=>by
  have:=ok.good _ (bP hs);show((gd m s:Nat):Int)=_;have h1:gd m s=0\/gd m s=1:=by unfold gd;lia
  rcases h1 with h|h<;>simp[aX,walk,h]
 |k+1,s,hs=>by
  rw[jQ,An (g:=λa=>cE m k (bg m s a))];·show((row m s).2.map (cE m k)).sum=_;rw[ow ok hs,XR];rfl
  ·intro a ha;rw[yh ok k (ok.bg hs (XX.mp ha)),List.filter_map,WJ];rfl
theorem Ao{α:Type}(p:α->Bool):∀l:List α,((l.filter p).length:Nat)+(l.filter λa=>!p a).length=l.length
 |[]=>rfl|a::l=>by have:=Ao p l;rw[Y2,Y2];cases p a<;>simp<;>lia
theorem J1(ok:fF w m)(kt:fF w t)(h:∀u,Wd w u->jt t u=!jt m u)k:cE m k 0+cE t k 0=((w ^ k:Nat):Int)/\0<=cE t k 0/\cE t k 0<=((w ^ k:Nat):Int):=by
 have e:(aX w k).filter (λu=>gd t (walk t 0 u)==1)=(aX w k).filter λu=>!(gd m (walk m 0 u)==1):=
  List.filter_congr λu hu=>h u (di.mp hu).1
 rw[yh ok k ok.ne,yh kt k kt.ne,e,<-pU w k,<-Ao (λu=>gd m (walk m 0 u)==1) (aX w k)]
 lia
theorem C8:∀{l:List Nat} {a},a<=1->(∀x∈l,x<=1)->l.foldl max a<=1
 |[],_,h,_=>h|x::l,a,h,k=>C8 (l:=l) (a:=max a x) (by have:=k x WG;lia) λy hy=>k y (WE _ hy)
theorem Ap:∀{l:List Nat} {a},a<=1->(∀x∈l,x<=1)->(l.foldl max a=1↔a=1\/∃x∈l,x=1)
 |[],_,_,_=>by simp|x::l,a,h,k=>by
  have hx:=k x WG;rw[YR,Ap (l:=l) (a:=max a x) (by lia) λy hy=>k y (WE _ hy)];constructor
  ·rintro(q|⟨y,hy,q⟩)
   ·rcases(by lia:a=1\/x=1) with z|z;·exact .inl z
    ·exact .inr ⟨x,WG,z⟩
   ·exact .inr ⟨y,WE _ hy,q⟩
  ·rintro(q|⟨y,hy,q⟩);·exact .inl (by lia)
   ·rcases Z3.mp hy with rfl|hy;·exact .inl (by lia)
    ·exact .inr ⟨y,hy,q⟩
theorem yi(ok:fF w m):∀(k) {s},s < m.length->fJ m k s<=1
 |0,s,hs=>ok.good _ (bP hs)|k+1,s,hs=>by show((row m s).2.map (fJ m k)).foldl max 0<=1;rw[ow ok hs,XR];refine C8 (by decide) λx hx=>?_;obtain⟨a,ha,rfl⟩:=abq.mp hx;exact yi ok k (ok.bg hs (XX.mp ha))
theorem J2(ok:fF w m)k(hs:s < m.length):fJ m (k+1) s=1↔∃a,a < w/\fJ m k (bg m s a)=1:=by
 show((row m s).2.map (fJ m k)).foldl max 0=1↔_;rw[ow ok hs,XR,Ap (by decide)]
 ·constructor
  ·rintro(q|⟨x,hx,q⟩);·cases q
   ·obtain⟨a,ha,rfl⟩:=abq.mp hx;exact⟨a,XX.mp ha,q⟩
  ·rintro⟨a,ha,q⟩;exact .inr ⟨_,abq.mpr ⟨a,XX.mpr ha,rfl⟩,q⟩
 ·intro x hx;obtain⟨a,ha,rfl⟩:=abq.mp hx;exact yi ok k (ok.bg hs (XX.mp ha))
def k9(w:Nat)(m:dU)(left j:Nat):List (List Nat):=(aX w j).filter λu=>fJ m left (walk m 0 u)==1
theorem qI{α β:Type}(q:β->Bool)(p:α->Bool)(f:α->List β):∀l:List α,(∀a∈l,p a=Ξ->(f a).filter q=[])->(l.flatMap f).filter q=(l.filter p).flatMap λa=>(f a).filter q
 |[],_=>rfl|a::l,h=>by have ih:=qI q p f l λb hb=>h b (WE _ hb);rw[Zk,X8,ih,Y2];cases e:p a with|true=>simp|false=>rw[h a WG e];simp
theorem pW m s u a:walk m s (u++[a])=bg m (walk m s u) a:=by rw[G1];rfl
theorem Hb(ok:fF w m)left j:k9 w m left (j+1)=(k9 w m (left+1) j).flatMap λu=>((WB w).filter λa=>fJ m left (bg m (walk m 0 u) a)==1).map λa=>u++[a]:=by
 unfold k9;rw[aX,qI _ (λu=>fJ m (left+1) (walk m 0 u)==1)];·refine congrArg (List.flatMap · _) (funext λu=>?_);rw[List.filter_map];simp only[Xu,pW]
 ·intro u hu hp;have hw:=(di.mp hu).1;rw[YW];intro v hv q;obtain⟨a,ha,rfl⟩:=abq.mp hv;rw[pW] at q;have:=(J2 ok left (ok.walk ok.ne hw)).mpr ⟨a,XX.mp ha,by simpa using q⟩;rw[this] at hp;simp at hp
def iL(u:List Nat):List Int:=u.map λn:Nat=>(n:Int)
def NN(a b:List Nat):Prop:=sR (iL b) (iL a)=Ξ
theorem J3(h:NN u v):NN (a::u) (a::v):=by unfold NN iL at*;rw[WQ,WQ,sR,if_pos rfl];exact h
theorem Rz(h:a < b):NN (a::u) (b::v):=by unfold NN iL;rw[WQ,WQ,sR,if_neg (by lia)];exact decide_eq_false (by lia)
theorem Aq w:∀k,(aX w k).Pairwise NN
 |0=>by simp[aX]|k+1=>by
  rw[jQ,List.flatMap_def,List.pairwise_flatten];refine⟨λl hl=>?_,?_⟩;·obtain⟨a,_,rfl⟩:=abq.mp hl;rw[aa1];exact(Aq w k).imp λh=>J3 h
  ·rw[aa1];refine List.pairwise_lt_range.imp λh x hx y hy=>?_;obtain⟨u,_,rfl⟩:=abq.mp hx;obtain⟨v,_,rfl⟩:=abq.mp hy;exact Rz h
theorem Hc:∀{l:List (List Nat)},l.Pairwise NN->(∀u∈l,u≠[])->sT (l.map iL)=Λ
 |[],_,_=>rfl|[a],_,_=>rfl|a::b::l,h,k=>by
  have ih:=Hc (l:=b::l) (List.pairwise_cons.mp h).2 λu hu=>k u (WE _ hu);have h1:sR (iL b) (iL a)=Ξ:=(List.pairwise_cons.mp h).1 b WG;have ha:(iL a).isEmpty=Ξ:=by have:=k a WG;cases a with|nil=>exact absurd rfl this|cons _ _=>rfl
  have hb:(iL b).isEmpty=Ξ:=by have:=k b (WE _ WG);cases b with|nil=>exact absurd rfl this|cons _ _=>rfl
  show((!sR (iL b) (iL a)&&!(iL a).isEmpty&&!(iL b).isEmpty)&&sT ((b::l).map iL))=Λ;rw[h1,ha,hb,ih];rfl
theorem Hd w k p:sT (((aX w k).filter p).map iL)=Λ:=by cases k with|zero=>rw[aX,Y2];split<;>rfl|succ k=>refine Hc ((Aq w (k+1)).filter p) λu hu z=>?_;have:=(di.mp (Yd.mp hu).1).2;rw[z] at this;cases this
theorem B1 q:∀{N},n<=N->(bE w N).filter (λu=>u.length==n&&q u)=(aX w n).filter q
 |N,h=>by
  have one:∀k,(aX w k).filter (λu=>u.length==n&&q u)=if k=n then(aX w n).filter q else[]:=λk=>by
   split;·rename_i e;subst e;exact List.filter_congr λu hu=>by rw[(di.mp hu).2];simp
   ·rename_i e;rw[YW];intro u hu;rw[(di.mp hu).2];simp[e]
  have go:∀K,(bE w K).filter (λu=>u.length==n&&q u)=if n<=K then(aX w n).filter q else[]:=by
   intro K;induction K with
   |zero=>
    have:=one 0;unfold bE;rw[show WB (0+1)=[0] from rfl,aas,this];by_cases z:n=0;·rw[if_pos z.symm,if_pos (by lia)]
    ·rw[if_neg (λy=>z y.symm),if_neg (by lia)]
   |succ K go=>
    have e:bE w (K+1)=bE w K++aX w (K+1):=by unfold bE;rw[XM (n:=K+1),XJ];simp
    rw[e,X8,go,one];by_cases z:n<=K;·rw[if_pos z,if_neg (by lia),if_pos (by lia),Xv]
    ·by_cases y:n=K+1;·rw[if_neg z,if_pos y.symm,if_pos (by lia)];rfl
     ·rw[if_neg z,if_neg (λx=>y x.symm),if_neg (by lia)];rfl
  rw[go N,if_pos h]
end Y
namespace RA
open PySem Y
def uI:Fn:={np:=2,nn:=2,body:=[.ret (.bf .sum [.lst Ξ (.comp (.ex (.var 1)) 1 [0] Θ (.ix (.var 1) (.var 0)))])]}
noncomputable def ox:List S:=[.set 2 (.lst Ξ (.comp (.ex (.var 0)) 1 [2] Θ (.call 0 [.var 1,.ix (.var 0) (.cst (.int 1))])))]
def jR:Fn:={np:=2,nn:=4,body:=[.set 2 (.lst Ξ (.comp (.ex (.var 0)) 1 [] Θ (.ix (.var 0) (.cst (.int 0))))),
  .g8 (.nm 3) (.iJ [.var 1]) ox,
  .ret (.ix (.var 2) (.cst (.int 0)))]}
def pX:Fn:={np:=2,nn:=2,body:=[.ret (.bf .zi [.lst Ξ (.comp (.ex (.var 1)) 1 [0] Θ (.ix (.var 1) (.var 0)))])]}
noncomputable def iX:List S:=[.app (.var 2) (.lst Ξ (.comp (.ex (.var 0)) 1 [2,3] Θ (.call 2 [.ix (.var 1) (.var 2),.ix (.var 0) (.cst (.int 1))])))]
def cZ:Fn:={np:=2,nn:=4,body:=[.set 2 (.lst Λ (.e7 [.lst Ξ (.comp (.ex (.var 0)) 1 [] Θ (.ix (.var 0) (.cst (.int 0))))])),
  .g8 (.nm 3) (.iJ [.var 1]) iX,
  .ret (.var 2)]}
noncomputable def dj:List S:=[.ifs (.cmp .eq (.ix (.var 2) (.var 7)) (.cst (.int 1))) [.app (.var 3) (.tup [.op .add (.var 4) (.tup [.var 6]),.var 7])] []]
def fP:List S:=[.g8 (.two 6 7) (.enum (.ix (.ix (.var 0) (.var 5)) (.cst (.int 1)))) dj]
def cJ:Fn:={np:=3,nn:=8,body:=[.set 3 (.lst Λ (.e7 [])),
  .g8 (.two 4 5) (.ex (.var 1)) fP,
  .ret (.var 3)]}
noncomputable def oy:List S:=[.set 3 (.call 4 [.var 0,.var 3,.ix (.var 2) (.var 4)])]
def eJ:Fn:={np:=2,nn:=5,body:=[.set 2 (.call 3 [.var 0,.var 1]),
  .set 3 (.ite (.cmp .eq (.ix (.ix (.var 2) (.var 1)) (.cst (.int 0))) (.cst (.int 1))) (.lst Ξ (.e7 [.tup [.tup [],.cst (.int 0)]])) (.lst Ξ (.e7 []))),
  .g8 (.nm 4) (.xI [.op .sub (.var 1) (.cst (.int 1)),.neg (.cst (.int 1)),.neg (.cst (.int 1))]) oy,
  .ret (.bf .tuple [.lst Ξ (.kD (.ex (.var 3)) [] Θ (.var 0))])]}
noncomputable def lg:List S:=[.app (.ix (.var 2) (.ix (.ix (.var 4) (.cst (.int 1))) (.var 1))) (.var 3)]
def gS:Fn:={np:=2,nn:=5,sh:=Λ,body:=[.set 2 (.lst Λ (.comp (.ex (.var 0)) 1 [] Θ (.lst Λ (.e7 [])))),
  .g8 (.two 3 4) (.enum (.var 0)) lg,
  .ret (.var 2)]}
def jw:List S:=[.expr (.sP (.var 2) (.var 4) (.var 3))]
def fh:Fn:={np:=1,nn:=5,body:=[.set 1 (.make 18 "Groups" [.var 0]),
  .expr (.o6 22 "Groups" "settle" 1 []),
  .set 2 (.qT Ξ),
  .jd 3 4 (.attr "Groups" "group_of" 1) jw,
  .ret (.lst Ξ (.cm (.attr "Groups" "group_of" 1) [2] Θ (.ix (.var 1) (.var 0))))]}
noncomputable def dJ:List S:=[.ifs (.cmp .sO (.var 8) (.var 3)) [.put (.var 3) (.var 8) (.bf .len [.var 4]),
  .app (.var 4) (.var 8)] []]
def jx:List S:=[.set 6 (.ix (.var 4) (.bf .len [.var 5])),
  .set 7 (.nS 1 [.var 6]),
  .g8 (.nm 8) (.ex (.var 7)) dJ,
  .app (.var 5) (.tup [.nS 2 [.var 6],.bf .tuple [.lst Ξ (.comp (.ex (.var 7)) 1 [3] Θ (.ix (.var 1) (.var 0)))]])]
def cM:Fn:={np:=3,nn:=9,body:=[.set 3 (.DP (.var 0) (.int 0)),
  .set 4 (.lst Λ (.e7 [.var 0])),
  .set 5 (.lst Λ (.e7 [])),
  .kE (.cmp .lt (.bf .len [.var 5]) (.bf .len [.var 4])) jx,
  .ret (.bf .tuple [.var 5])]}
def oz:Fn:={np:=1,nn:=3,body:=[.set 1 (.iQ 7 [.var 0] [(23,[1,0]),(24,[0])]),
  .nP 2 23,
  .ret (.iQ 8 [.ix (.var 1) (.cst (.int 0)),.var 2,.lam 24] [(23,[1,0]),(24,[0])])]}
def jS:Fn:={np:=1,nn:=1,body:=[.ret (.call 9 [.bf .tuple [.lst Ξ (.comp (.ex (.var 0)) 1 [] Θ (.tup [.op .sub (.cst (.int 1)) (.ix (.var 0) (.cst (.int 0))),.ix (.var 0) (.cst (.int 1))]))]])]}
def cN:Fn:={np:=2,nn:=2,body:=[.ifs (.cmp .lt (.var 1) (.bf .len [.var 0])) [.ret (.ix (.var 0) (.var 1))] [],
  .ret (.cst (.int 0))]}
def fi:Fn:={np:=2,nn:=3,body:=[.set 2 (.op .mod (.op .mul (.op .add (.op .add (.call 11 [.var 0,.var 1]) (.op .mul (.cst (.int 7919)) (.var 1))) (.cst (.int 1))) (.cst (.int 48271))) (.cst (.int 2147483647))),
  .ret (.op .mod (.op .add (.op .add (.op .mul (.var 2) (.var 2)) (.op .mul (.cst (.int 7)) (.var 2))) (.var 1)) (.cst (.int 2147483629)))]}
def fj:Fn:={np:=2,nn:=3,body:=[.set 2 (.op .mod (.op .mul (.op .add (.op .add (.var 0) (.op .mul (.cst (.int 104729)) (.var 1))) (.cst (.int 17))) (.cst (.int 69621))) (.cst (.int 2147483647))),
  .ret (.op .mod (.op .add (.op .add (.op .mul (.var 2) (.var 2)) (.op .mul (.cst (.int 3)) (.var 2))) (.var 1)) (.cst (.int 2147483629)))]}
noncomputable def iu:List S:=[.set 4 (.op .add (.var 4) (.lst Ξ (.comp (.iJ [.var 0]) 1 [5] Θ (.op .add (.var 1) (.tup [.var 0])))))]
def lh:List S:=[.set 4 (.lst Ξ (.e7 [])),
  .g8 (.nm 5) (.ex (.var 2)) iu,
  .set 2 (.var 4),
  .set 1 (.op .add (.var 1) (.var 2))]
def dM:Fn:={np:=1,nn:=6,body:=[.set 1 (.lst Ξ (.e7 [.tup []])),
  .set 2 (.lst Ξ (.e7 [.tup []])),
  .g8 (.nm 3) (.iJ [.ix (.lst Ξ (.e7 [.cst (.int 0),.cst (.int 8),.cst (.int 5),.cst (.int 4)])) (.var 0)]) lh,
  .ret (.var 1)]}
noncomputable def fY:List S:=[.set 6 (.bf .tuple [.lst Ξ (.comp (.iJ [.var 1]) 1 [3,0,5] Θ (.op .mod (.call 13 [.var 2,.op .add (.op .mul (.cst (.int 7)) (.var 3)) (.var 0)]) (.var 1)))]),
  .app (.var 4) (.tup [.op .mod (.op .mod (.call 13 [.var 0,.op .add (.op .mul (.cst (.int 7)) (.var 5)) (.cst (.int 5))]) (.cst (.int 3))) (.cst (.int 2)),.var 6])]
def cO:Fn:={np:=3,nn:=7,body:=[.set 3 (.op .add (.cst (.int 1)) (.op .mod (.var 0) (.var 2))),
  .set 4 (.lst Λ (.e7 [])),
  .g8 (.nm 5) (.iJ [.var 3]) fY,
  .ret (.bf .tuple [.var 4])]}
noncomputable def yj:List S:=[.set 2 (.ix (.ix (.ix (.var 0) (.var 2)) (.cst (.int 1))) (.var 3))]
def jT:Fn:={np:=2,nn:=4,body:=[.set 2 (.cst (.int 0)),
  .g8 (.nm 3) (.ex (.var 1)) yj,
  .ret (.cmp .eq (.ix (.ix (.var 0) (.var 2)) (.cst (.int 0))) (.cst (.int 1)))]}
def C9:List S:=[.set 7 (.op .mul (.var 7) (.var 1))]
def oA:Fn:={np:=1,nn:=10,body:=[.set 1 (.op .add (.cst (.int 1)) (.op .mod (.call 12 [.var 0,.cst (.int 0)]) (.cst (.int 3)))),
  .set 2 (.call 15 [.call 12 [.var 0,.cst (.int 1)],.var 1,.cst (.int 6)]),
  .set 3 (.op .mod (.call 12 [.var 0,.cst (.int 2)]) (.op .add (.ix (.lst Ξ (.e7 [.cst (.int 0),.cst (.int 8),.cst (.int 5),.cst (.int 4)])) (.var 1)) (.cst (.int 1)))),
  .set 4 (.lst Ξ (.comp (.ex (.call 14 [.var 1])) 1 [3,2] (Δ (.and [.cmp .eq (.bf .len [.var 0]) (.var 1),.call 16 [.var 2,.var 0]])) (.var 0))),
  .set 5 (.call 1 [.var 2,.var 3]),
  .ifs (.or [.KD (.var 5) "bool",.cmp .ne (.var 5) (.bf .len [.var 4]),.cmp .ne (.call 5 [.var 2,.var 3]) (.bf .tuple [.lst Ξ (.sorted (.var 4))])]) [.ret (.cst (.bl Ξ))] [],
  .set 6 (.op .mod (.call 12 [.var 0,.cst (.int 3)]) (.cst (.int 201))),
  .set 7 (.cst (.int 1)),
  .g8 (.nm 8) (.iJ [.var 6]) C9,
  .set 9 (.call 1 [.call 10 [.var 2],.var 6]),
  .ret (.and [.cmp .eq (.op .add (.call 1 [.var 2,.var 6]) (.var 9)) (.var 7),.chain .le .le (.cst (.int 0)) (.var 9) (.var 7)])]}
noncomputable def gL:List S:=[.put (.ix (.attr "Groups" "members" 0) (.ix (.var 3) (.cst (.int 0)))) (.var 2) (.cst (.bl Λ))]
def fk:Fn:={np:=2,nn:=4,sh:=Λ,body:=[.lZ "Groups" "sources" 0 (.lst Λ (.comp (.iJ [.bf .len [.ix (.ix (.var 1) (.cst (.int 0))) (.cst (.int 1))]]) 1 [1] Θ (.call 6 [.var 1,.var 0]))),
  .lZ "Groups" "group_of" 0 (.lst Λ (.comp (.ex (.var 1)) 1 [] Θ (.ix (.var 0) (.cst (.int 0))))),
  .lZ "Groups" "members" 0 (.lst Λ (.e7 [.qT Ξ,.qT Ξ])),
  .g8 (.two 2 3) (.enum (.var 1)) gL,
  .lZ "Groups" "waiting" 0 (.lst Λ (.e7 [.cst (.int 0),.cst (.int 1)])),
  .lZ "Groups" "waits" 0 (.lst Λ (.e7 [.cst (.bl Λ),.cst (.bl Λ)]))]}
def cA:Fn:={np:=2,nn:=2,sh:=Λ,body:=[.app (.attr "Groups" "waiting" 0) (.var 1),
  .put (.attr "Groups" "waits" 0) (.var 1) (.cst (.bl Λ))]}
noncomputable def gv:List S:=[.expr (.DN (.var 3) (.var 5)),
  .put (.ix (.attr "Groups" "members" 0) (.var 4)) (.var 5) (.cst (.bl Λ)),
  .put (.attr "Groups" "group_of" 0) (.var 5) (.var 4)]
def bx:Fn:={np:=3,nn:=6,sh:=Λ,body:=[.set 3 (.ix (.attr "Groups" "members" 0) (.var 1)),
  .ifs (.cmp .eq (.bf .len [.var 2]) (.bf .len [.var 3])) [.DQ] [],
  .set 4 (.bf .len [.attr "Groups" "members" 0]),
  .app (.attr "Groups" "members" 0) (.qT Ξ),
  .app (.attr "Groups" "waits" 0) (.cst (.bl Ξ)),
  .iE (.nm 5) (.var 2) gv,
  .ifs (.or [.ix (.attr "Groups" "waits" 0) (.var 1),.cmp .le (.bf .len [.var 2]) (.bf .len [.var 3])]) [.expr (.o6 19 "Groups" "let_wait" 0 [.var 4])] [.expr (.o6 19 "Groups" "let_wait" 0 [.var 1])]]}
noncomputable def cQ:List S:=[.app (.sP (.var 3) (.ix (.attr "Groups" "group_of" 0) (.var 5)) (.lst Λ (.e7 []))) (.var 5)]
def cR:List S:=[.iE (.nm 5) (.ix (.ix (.attr "Groups" "sources" 0) (.var 2)) (.var 4)) cQ]
noncomputable def eX:List S:=[.expr (.o6 20 "Groups" "set_apart" 0 [.var 6,.var 7])]
def cg:Fn:={np:=3,nn:=8,sh:=Λ,body:=[.set 3 (.qT Ξ),
  .g8 (.nm 4) (.ex (.var 1)) cR,
  .Bz 6 7 (.var 3) eX]}
noncomputable def iY:List S:=[.expr (.o6 21 "Groups" "set_apart_by" 0 [.var 2,.var 3])]
def fm:List S:=[.set 1 (.DO (.attr "Groups" "waiting" 0)),
  .put (.attr "Groups" "waits" 0) (.var 1) (.cst (.bl Ξ)),
  .set 2 (.lst Ξ (.keys (.ix (.attr "Groups" "members" 0) (.var 1)))),
  .g8 (.nm 3) (.iJ [.bf .len [.attr "Groups" "sources" 0]]) iY]
def gH:Fn:={np:=1,nn:=4,sh:=Λ,body:=[.kE (.cmp .gt (.bf .len [.attr "Groups" "waiting" 0]) (.cst (.int 0))) fm]}
def fZ:Fn:={np:=3,nn:=3,body:=[.ret (.lst Ξ (.comp (.ex (.ix (.ix (.var 2) (.var 0)) (.cst (.int 1)))) 1 [1] Θ (.ix (.var 1) (.var 0))))]}
def c0:Fn:={np:=2,nn:=2,body:=[.ret (.ix (.ix (.var 1) (.var 0)) (.cst (.int 0)))]}
def Fs:List Fn:=[uI,jR,pX,cZ,cJ,eJ,gS,fh,cM,oz,jS,cN,fi,fj,dM,cO,jT,oA,fk,cA,bx,cg,gH,fZ,c0]
theorem El:Fs[0]?=Δ uI:=rfl
theorem Ar:Fs[1]?=Δ jR:=rfl
theorem B2:Fs[2]?=Δ pX:=rfl
theorem pY:Fs[3]?=Δ cZ:=rfl
theorem lj:Fs[4]?=Δ cJ:=rfl
theorem As:Fs[5]?=Δ eJ:=rfl
theorem vB:Fs[6]?=Δ gS:=rfl
theorem rf:Fs[7]?=Δ fh:=rfl
theorem rg:Fs[8]?=Δ cM:=rfl
theorem He:Fs[9]?=Δ oz:=rfl
theorem vC:Fs[10]?=Δ jS:=rfl
theorem rm:Fs[11]?=Δ cN:=rfl
theorem vD:Fs[12]?=Δ fi:=rfl
theorem vE:Fs[13]?=Δ fj:=rfl
theorem vF:Fs[14]?=Δ dM:=rfl
theorem rn:Fs[15]?=Δ cO:=rfl
theorem Au:Fs[16]?=Δ jT:=rfl
theorem NO:Fs[17]?=Δ oA:=rfl
theorem m9:Fs[18]?=Δ fk:=rfl
theorem nc:Fs[19]?=Δ cA:=rfl
theorem gM:Fs[20]?=Δ bx:=rfl
theorem jU:Fs[21]?=Δ cg:=rfl
theorem pZ:Fs[22]?=Δ gH:=rfl
theorem oB:Fs[23]?=Δ fZ:=rfl
theorem p4:Fs[24]?=Δ c0:=rfl
section
variable{w:Nat}{m:dU}(ok:fF w m)(hm:m.length<=100000)
def jf(m:dU)(a k:Nat):aL:=(WB m.length).map λt=>O.lst (((WB k).filter λs=>decide (bg m s a=t)).map λx=>P.d (nD x))
def l8(b n:Nat):O:=.lst ((WB n).map λt=>P.obj (b+t))
theorem dc a k:(jf m a k).length=m.length:=by simp[jf]
theorem lp(ht:t < m.length):(jf m a k)[t]?=Δ (O.lst (((WB k).filter λs=>decide (bg m s a=t)).map λx=>P.d (nD x))):=by simp[jf,ht]
theorem Em:(jf m a k).set (bg m k a) (O.lst ((((WB k).filter λs=>decide (bg m s a=bg m k a)).map λx=>P.d (nD x))++[P.d (nD k)]))=jf m a (k+1):=by
 apply aa2;intro t;by_cases ht:t < m.length
 ·rw[lp ht,XM,X8,Xn];by_cases e:bg m k a=t;·subst e;rw[W4 (by rw[dc];exact ht)];simp
  ·rw[WH e,lp ht];simp[e]
 ·rw[Xb (by rw[Ye,dc];lia),Xb (by rw[dc];lia)]
include ok hm
theorem yk(n:Nat)(a:Nat)(ha:a < w)(st:aL):callC Fs (n+1) 6 [.d (mD m),.d (nD a)] st=.ok (.obj (st.length+m.length)) (st++jf m a m.length++[l8 st.length m.length]):=by
 refine CY vB rfl rfl ?_;have e1:aV (callC Fs n) (.comp (.ex (.var 0)) 1 [] Θ (.lst Λ (.e7 []))) (aC 5 [.d (mD m),.d (nD a)]) st=.ok ((WB m.length).map λt=>P.obj (st.length+t)) (st++jf m a 0):=by
  rw[zV];have ew:bD (callC Fs n) (.ex (.var 0)) (aC 5 [.d (mD m),.d (nD a)]) st=.ok ((m.map gc).map .d) st:=by simp[aC,mD]
  rw[ew,ae,if_pos (by simp[aw];lia)];obtain⟨zs,aJ,e,q⟩:=pQ (g:=λp=>Δ p::bH [] (aC 5 [.d (mD m),.d (nD a)])) (c:=bh (callC Fs n) Θ) (e:=λr' aJ=>aa (callC Fs n) (.lst Λ (.e7 [])) r' aJ) (I:=λk ys s=>ys=(WB k).map (λt=>P.obj (st.length+t))/\s=st++XW k (O.lst [])) (ps:=(m.map gc).map .d) (k:=0) (ys:=[]) (st:=st)
   (λi p ys s ⟨h1,h2⟩ hp=>⟨.obj s.length,s++[.lst []],by simp,by simp[aw],by
    rw[Xh] at h1 h2 ⊢;subst h1 h2;refine⟨?_,?_⟩;·rw[XM,Xn];simp
    ·rw[Xt,List.replicate_succ']⟩) ⟨by simp,by simp⟩
  obtain⟨q1,q2⟩:=q;rw[e];simp only[YQ,Xh,WJ] at q1 q2;rw[q1,q2];congr 2;apply aa2;intro t;by_cases ht:t < m.length;·rw[lp ht];simp[ht]
  ·rw[Xb (by simp;lia),Xb (by rw[dc];lia)]
 refine ag (bp (v:=.obj (st.length+m.length)) (st1:=st++jf m a 0++[l8 st.length m.length]) ?_) ?_;·show aa (callC Fs n) (.lst Λ (.comp (.ex (.var 0)) 1 [] Θ (.lst Λ (.e7 [])))) (aC 5 [.d (mD m),.d (nD a)]) st=_;rw[gQ,e1,ae];simp[dc,l8]
 obtain⟨r',s',e,⟨y3,y4,q1⟩,q2⟩:=cL (g:=jm (.two 3 4)) (b:=aj (callC Fs n) lg) (ps:=dk 0 (m.map gc)) (k:=0) (r:=[Δ (.d (mD m)),Δ (.d (nD a)),Δ (.obj (st.length+m.length)),Θ,Θ]) (st:=st++jf m a 0++[l8 st.length m.length])
  (I:=λk r s=>(∃y3 y4,r=[Δ (.d (mD m)),Δ (.d (nD a)),Δ (.obj (st.length+m.length)),y3,y4])/\s=st++jf m a k++[l8 st.length m.length])
  (λi p r s ⟨⟨y3,y4,h1⟩,h2⟩ hp=>by
   rw[Xh] at h2 ⊢;subst h1 h2;rw[lS,WL] at hp;have hi:i < m.length:=by
    by_cases z:i < m.length;·exact z
    ·rw[Xb (by lia)] at hp;simp at hp
   rw[yd hi] at hp;simp only[XA,Option.some.injEq,Xh] at hp;subst hp;have ht:=ok.bg hi ha;have hl:=ok.len _ (bP hi);have g1:(st++jf m a i++[l8 st.length m.length])[st.length+m.length]?=Δ (l8 st.length m.length):=by rw[show st.length+m.length=(st++jf m a i).length by simp[dc]];simp
   have g2:(st++jf m a i++[l8 st.length m.length])[st.length+bg m i a]?=Δ (O.lst (((WB i).filter λs=>decide (bg m s a=bg m i a)).map λx=>P.d (nD x))):=by rw[JP (by rw[dc];exact ht),lp ht]
   refine⟨_,[Δ (.d (mD m)),Δ (.d (nD a)),Δ (.obj (st.length+m.length)),Δ (.d (nD i)),Δ (.d (gc (row m i)))],st++jf m a (i+1)++[l8 st.length m.length],rfl,?_,⟨⟨_,_,rfl⟩,rfl⟩⟩;refine ag (my (x:=.obj (st.length+bg m i a)) (v:=.d (nD i)) (its:=((WB i).filter λs=>decide (bg m s a=bg m i a)).map λx=>P.d (nD x)) (st1:=st++jf m a i++[l8 st.length m.length]) (st2:=st++jf m a i++[l8 st.length m.length]) ?_ (iU g2) (by simp[nD]) ?_) aG;·generalize st++jf m a i++[l8 st.length m.length]=S at g1 g2;have e1:mf ((row m i).2.map nD) (a:Int)=Δ (nD (bg m i a)):=Rq ok hi ha;simp[gc,wD,e1,nD,gG g1 (show((WB m.length).map λt=>P.obj (st.length+t))[bg m i a]?=Δ (.obj (st.length+bg m i a)) by simp[ht])]
   ·rw[gR g2 (by
     have:((WB i).filter λs=>decide (bg m s a=bg m i a)).length<=i:=by have:=XG (λs=>decide (bg m s a=bg m i a)) (WB i);simpa using this
     unfold aw;simp only[WJ]
     lia),JO (by rw[dc];exact ht),Em]) ⟨⟨Θ,Θ,rfl⟩,rfl⟩
 rw[lU,WJ,Xh] at q2;subst q1 q2;refine ag (ij (ps:=dk 0 (m.map gc)) (st1:=st++jf m a 0++[l8 st.length m.length]) (by simp[aC,gS,mD]) e) ?_;exact bA (dS (by simp))
end
section
variable{m:dU}{w b:Nat}{mb:List Nat}{st aJ:aL}{h:nq}
theorem mz n(hs:HS m w b mb st h)(hg:g < h.iC.length)(hw:h.wait.length < aw):
  callC Fs (n+1) 19 [.obj 0,.d (nD g)] st=.ok (.d .bz) ((st.set (b+5) (encL (h.wait++[g]))).set (b+6) (jv (h.iC.set g Λ))):=by
 refine kU nc rfl rfl (r:=[Δ (.obj 0),Δ (.d (nD g))]) ?_;have hl:=hs.len;have e1:(st.set (b+5) (encL (h.wait++[g])))[b+6]?=Δ (jv h.iC):=by rw[WH (by lia)];exact hs.iC
 have s1:(st.set (b+5) (encL (h.wait++[g])))[0]?=Δ (ir b):=by rw[WH (by lia)];exact hs.self
 refine ag (my (x:=.obj (b+5)) (v:=.d (nD g)) (its:=h.wait.map λs=>P.d (nD s)) (st1:=st) (st2:=st) (cX rfl hs.self rfl) (iU hs.Ow) (by simp[aC,cA]) (st3:=st.set (b+5) (encL (h.wait++[g]))) ?_) ?_;·rw[gR hs.Ow (by simpa using hw)];simp[encL]
 ·refine ag (uu (x:=.obj (b+6)) (k:=.d (nD g)) (v:=.d (.bl Λ)) (st1:=st.set (b+5) (encL (h.wait++[g]))) (st2:=st.set (b+5) (encL (h.wait++[g]))) (st3:=st.set (b+5) (encL (h.wait++[g]))) (by simp) (cX rfl s1 rfl) (by simp[aC,cA]) ?_) (st1:=(st.set (b+5) (encL (h.wait++[g]))).set (b+6) (jv (h.iC.set g Λ))) aG;·rw[show nD g=.int (g:Int) from rfl,yc e1 (by simpa using hg)];simp[jv,ab5]
end
section
variable{m:dU}{w b:Nat}{mb:List Nat}{st aJ:aL}{h:nq}
theorem uJ n(hs:HS m w b mb st h)(hl:st[l]?=Δ (encL ss))(ho:EI b mb l)(hg:g < h.mem.length)(LX:∀s∈ss,s∈h.mem.getD g [])(Eh:ss.Nodup)(VH:∀s∈ss,s < h.grp.length)(Sk:h.iC.length=h.mem.length)(hw:h.wait.length < aw)(hml:h.mem.length < 1000000)(hsl:ss.length < 1000000):
  ∃u0 aJ,callC Fs (n+2) 20 [.obj 0,.d (nD g),.obj l] st=.ok (.d .bz) aJ/\HS m w b u0 aJ (az h g ss)/\st.length<=aJ.length/\∀i,i < st.length->EI b mb i->aJ[i]?=st[i]?/\EI b u0 i:=by
 obtain⟨a,RB,MP,ha3,ha4⟩:=hs.mem g hg;have hlen:=hs.len;have Ox:a≠l:=λz=>ho.2 (z▸W6 RB);have Oy:l < st.length:=(qqz hl).1;have hll2:=ho.1;have eN:ss.length=(ss.map λs=>P.d (nD s)).length:=by simp
 have e1:aa (callC Fs (n+1)) (.ix (.attr "Groups" "members" 0) (.var 1)) (aC 6 [.obj 0,.d (nD g),.obj l]) st=.ok (.obj a) st:=by rw[bU,cX rfl hs.self rfl,ae];simp only[aC,bc,nD];simp[gG hs.KW (show(mb.map P.obj)[g]?=Δ (.obj a) by rw[WL,RB];rfl)]
 have el:uV .len [.obj l] st=Δ (.d (.int (ss.length:Nat))):=by rw[iV hl];simp
 have ea:uV .len [.obj a] st=Δ (.d (.int ((h.mem.getD g []).length:Nat))):=by have:=G0 (show st[a]?=Δ (.dK _) from ha4);rw[this];simp
 by_cases hc:ss.length=(h.mem.getD g []).length
 ·refine⟨mb,st,?_,?_,WM _,λi _ hi=>⟨rfl,hi⟩⟩
  ·refine CY gM rfl rfl (ag (bp e1) (bA (zT (st1:=st) ?_ (bA tz))));simp[aC,bx,el,ea];rw[WN] at hc
   lia
  ·unfold az;rw[if_pos hc];exact hs
 ·
  let fr:=h.mem.length
  let nw:=st.length
  let J:Nat->aL->Prop:=λi s=>s.length=st.length+1/\(∀k,k < st.length->k≠a->k≠b+1->k≠b+4->k≠b+6->s[k]?=st[k]?)/\s[a]?=Δ (encM ((h.mem.getD g []).filter λx=>decide (x∉ss.take i)))/\s[st.length]?=Δ (encM (ss.take i))/\
   s[b+1]?=Δ (encL (putAll h.mem.length (ss.take i) h.grp))/\s[b+4]?=Δ (.lst ((mb++[st.length]).map P.obj))/\s[b+6]?=Δ (jv (h.iC++[Ξ]))
  have ab:a≠b+1/\a≠b+4/\a≠b+5/\a≠b+6/\a≠b/\0 < a:=by rcases MP with z|z|z<;>lia
  have J0:J 0 (((st++[O.dK []]).set (b+4) (.lst ((mb++[st.length]).map P.obj))).set (b+6) (jv (h.iC++[Ξ]))):=by
   refine⟨by simp,λk hk k1 k2 k3 k4=>?_,?_,?_,?_,?_,?_⟩;·rw[WH (XC k4),WH (XC k3),WK hk]
   ·rw[WH (by lia),WH (by lia),WK ha3,ha4,List.take_zero];congr 2;exact(List.filter_eq_self.mpr λx _=>by simp).symm
   ·rw[WH (by lia),WH (by lia)];simp[encM]
   ·rw[WH (by lia),WH (by lia),WK (by lia),hs.grp];simp[putAll]
   ·rw[WH (by lia),W4 (by simp;lia)]
   ·rw[W4 (by simp;lia)]
  obtain⟨r',s',e,⟨y5,q1⟩,q2⟩:=uw (n:=l) (g:=jm (.nm 5)) (b:=aj (callC Fs (n+1)) gv) (xs:=ss.map λs=>P.d (nD s)) (I:=λi r s=>(∃y5,r=[Δ (.obj 0),Δ (.d (nD g)),Δ (.obj l),Δ (.obj a),Δ (.d (nD h.mem.length)),y5])/\J i s)
   (λi r s hi=>by rw[hi.2.2.1 l Oy (XC Ox) (by lia) (by lia) (by lia),hl];rfl)
   (λi p r s ⟨⟨y5,h1⟩,j1,j2,j3,j4,j5,j6,j7⟩ hp=>by
    subst h1;rw[WL] at hp;cases K0:ss[i]? with
    |none=>rw[K0] at hp;cases hp|some x=>
     rw[K0] at hp;cases hp;have hx:=W6 K0;have s0:s[0]?=Δ (ir b):=by rw[j2 0 (by lia) (by lia) (by lia) (by lia) (by lia)];exact hs.self
     have xr:x∈(h.mem.getD g []).filter λy=>decide (y∉ss.take i):=by rw[Yd];exact⟨LX x hx,by simpa using Aj Eh K0⟩
     have tl:(ss.take i).length < aw:=JR i hsl;have p1:=G9 j3 xr;have k4:(s.set a (encM (((h.mem.getD g []).filter λy=>decide (y∉ss.take i)).filter λy=>decide (y≠x))))[st.length]?=Δ (encM (ss.take i)):=by rw[WH (by lia)];exact j4
     have k6:(s.set a (encM (((h.mem.getD g []).filter λy=>decide (y∉ss.take i)).filter λy=>decide (y≠x))))[b+4]?=Δ (.lst ((mb++[st.length]).map P.obj)):=by rw[WH (by lia)];exact j6
     have k0:(s.set a (encM (((h.mem.getD g []).filter λy=>decide (y∉ss.take i)).filter λy=>decide (y≠x))))[0]?=Δ (ir b):=by rw[WH (by lia)];exact s0
     have k5:(s.set a (encM (((h.mem.getD g []).filter λy=>decide (y∉ss.take i)).filter λy=>decide (y≠x))))[b+1]?=Δ (encL (putAll h.mem.length (ss.take i) h.grp)):=by rw[WH (by lia)];exact j5
     have p2:=uF k4 (Aj Eh K0) tl;generalize S5:s.set a (encM (((h.mem.getD g []).filter λy=>decide (y∉ss.take i)).filter λy=>decide (y≠x)))=S1 at*;have S1l:S1.length=st.length+1:=by rw[<-S5];simpa using j1
     have l5:(S1.set st.length (encM (ss.take i++[x])))[b+1]?=Δ (encL (putAll h.mem.length (ss.take i) h.grp)):=by rw[WH (by lia)];exact k5
     have l0:(S1.set st.length (encM (ss.take i++[x])))[0]?=Δ (ir b):=by rw[WH (by lia)];exact k0
     have p3:=yc (v:=P.d (nD h.mem.length)) l5 (i:=x) (by simp only[WJ,mZ];exact VH x hx);refine⟨_,[Δ (.obj 0),Δ (.d (nD g)),Δ (.obj l),Δ (.obj a),Δ (.d (nD h.mem.length)),Δ (.d (nD x))],(S1.set st.length (encM (ss.take i++[x]))).set (b+1) (encL (putAll h.mem.length (ss.take (i+1)) h.grp)),rfl,?_,⟨_,rfl⟩,?_,λk hk k1 k2 k3 k4=>?_,?_,?_,?_,?_,?_⟩
     ·refine ag (mY (v:=.d (.bl Λ)) (st1:=S1) ?_) ?_;·rw[sX];simp[G8 j3,p1]
      refine ag (uu (x:=.obj st.length) (k:=.d (nD x)) (v:=.d (.bl Λ)) (st1:=S1) (st2:=S1) (st3:=S1) (by simp) ?_ (by simp) p2) ?_;·rw[bU,cX rfl k0 rfl,ae];have:=gG k6 (i:=h.mem.length) (p:=.obj st.length) (by rw[WL,W5 (by rw[hs.qZ];exact WM _),hs.qZ];simp);simp[nD,this]
      refine ag (uu (x:=.obj (b+1)) (k:=.d (nD x)) (v:=.d (nD h.mem.length)) (st1:=S1.set st.length (encM (ss.take i++[x]))) (st2:=S1.set st.length (encM (ss.take i++[x]))) (st3:=S1.set st.length (encM (ss.take i++[x]))) (by simp) (cX rfl l0 rfl) (by simp) (show qU _ (.d (.int (x:Int))) _ _=_ from p3)) ?_;rw[aG];simp only[encL,<-ab5,Ai K0];rfl
     ·simpa using S1l
     ·rw[WH (by lia),WH (by lia),<-S5,WH (by lia)];exact j2 k hk k1 k2 k3 k4
     ·rw[WH (by lia),WH (by lia),<-S5,W4 (by lia),Ah K0]
     ·rw[WH (by lia),W4 (by lia)];have e:ss.take (i+1)=ss.take i++[x]:=by rw[X2,K0];rfl
      rw[e]
     ·rw[W4 (by simp;lia)]
     ·rw[WH (by lia),WH (by lia)];exact k6
     ·rw[WH (by lia),WH (by lia),<-S5,WH (by lia)];exact j7)
   dP (i:=0) ⟨⟨Θ,rfl⟩,J0⟩ (XZ _) (by simp[dP];lia)
  subst q1;rw[WJ] at q2;obtain⟨j1,j2,j3,j4,j5,j6,j7⟩:=q2;rw[XE (WM _)] at j3 j4 j5;have s0:s'[0]?=Δ (ir b):=by rw[j2 0 (by lia) (by lia) (by lia) (by lia) (by lia)];exact hs.self
  have hS:HS m w b (mb++[st.length]) s' ⟨putAll h.mem.length ss h.grp,h.mem.set g ((h.mem.getD g []).filter λs=>decide (s∉ss))++[ss],h.wait,h.iC++[Ξ]⟩:=by
   refine⟨by lia,hs.b0,s0,?_,j5,j6,by simp[hs.qZ],λk hk=>?_,?_,?_,j7⟩
   ·obtain⟨outer,o1,o2,o3⟩:=hs.src;have hb0:=hs.b0;refine⟨outer,by rw[j2 b (by lia) (by lia) (by lia) (by lia) (by lia)];exact o1,o2,λa' Qh=>?_⟩;have ab':b+2<=a:=by rcases MP with z|z|z<;>lia
    obtain⟨o,rows,f1,f2,f3,f4,f5⟩:=o3 a' Qh;refine⟨o,rows,f1,f2,f3,by rw[j2 o (by lia) (by lia) (by lia) (by lia) (by lia)];exact f4,λt ht=>?_⟩;obtain⟨l',g1,g2,g3,g4⟩:=f5 t ht;exact⟨l',g1,g2,g3,by rw[j2 l' (by lia) (by lia) (by lia) (by lia) (by lia)];exact g4⟩
   ·by_cases uS:k < h.mem.length
    ·by_cases uT:k=g;·subst uT;refine⟨a,by rw[WK (by rw[hs.qZ];exact uS)];exact RB,MP,by lia,?_⟩;rw[j3];show _=Δ (encM ((h.mem.set k _++[ss]).getD k []));rw[ik (by simpa using uS),eV uS]
     ·obtain⟨a',c1,c2,c3,c4⟩:=hs.mem k uS;have:a'≠a:=λz=>uT (by rw[z] at c1;obtain⟨x1,y1⟩:=qqz c1;obtain⟨x2,y2⟩:=qqz RB;exact yg hs.Rv x1 x2 (y1.trans y2.symm));refine⟨a',by rw[WK (by rw[hs.qZ];exact uS)];exact c1,c2,by lia,?_⟩;rw[j2 a' c3 this (by rcases c2 with z|z|z<;>lia) (by rcases c2 with z|z|z<;>lia) (by rcases c2 with z|z|z<;>lia),c4];show _=Δ (encM ((h.mem.set g _++[ss]).getD k []));rw[ik (by simpa using uS),dy (XC uT)]
    ·have e2:k=h.mem.length:=by simp at hk;lia
     subst e2;refine⟨st.length,by rw[<-hs.qZ];simp,.inr (.inr hlen),by lia,?_⟩;rw[j4];show _=Δ (encM ((h.mem.set g _++[ss]).getD h.mem.length []));congr 2;have:=iW (l:=h.mem.set g ((h.mem.getD g []).filter λs=>decide (s∉ss))) (x:=ss) (d:=[]);rw[Ye] at this;exact this.symm
   ·rw[XN];refine⟨hs.Rv,by simp,λx hx y hy=>?_⟩;simp at hy;subst hy;have:=(hs.mad hx).2
    lia
   ·rw[j2 (b+5) (by lia) (by lia) (by lia) (by lia) (by lia)];exact hs.Ow
  have sl:s'[l]?=Δ (encL ss):=by rw[j2 l Oy (XC Ox) (by lia) (by lia) (by lia)];exact hl
  have ll:uV .len [.obj l] s'=Δ (.d (.int (ss.length:Nat))):=by rw[iV sl];simp
  have la:uV .len [.obj a] s'=Δ (.d (.int (((h.mem.getD g []).filter λx=>decide (x∉ss)).length:Nat))):=by have:=G0 (show s'[a]?=Δ (.dK _) from j3);rw[this];simp
  have gw:g < h.iC.length:=by lia
  have wg:(h.iC++[Ξ])[g]?=Δ (h.iC.getD g Ξ):=by rw[WK gw,WN,WI gw];rfl
  have wx:=gG j7 (i:=g) (p:=.d (.bl (h.iC.getD g Ξ))) (by rw[WL,wg];rfl);have fr2:∀(s2:aL) (x y:O),s2=(s'.set (b+5) x).set (b+6) y->st.length<=s2.length/\∀i,i < st.length->EI b mb i->s2[i]?=st[i]?/\EI b (mb++[st.length]) i:=λs2 x y e2=>by
   subst e2;refine⟨by simp;lia,λi hi S6=>?_⟩;have:=S6.1;have hia:i≠a:=λz=>S6.2 (z▸W6 RB);refine⟨by rw[WH (by lia),WH (by lia)];exact j2 i hi hia (by lia) (by lia) (by lia),S6.1,λz=>?_⟩;rcases Z5.mp z with z|z;·exact S6.2 z
   ·simp at z;lia
  have fin:∃r2 s2,aj (callC Fs (n+1)) (bx.body.drop 6) [Δ (.obj 0),Δ (.d (nD g)),Δ (.obj l),Δ (.obj a),Δ (.d (nD h.mem.length)),y5] s'=.ok (.nx r2) s2/\HS m w b (mb++[st.length]) s2 (az h g ss)/\st.length<=s2.length/\∀i,i < st.length->EI b mb i->s2[i]?=st[i]?/\EI b (mb++[st.length]) i:=by
   by_cases EG:h.iC.getD g Ξ=Λ\/ss.length<=((h.mem.getD g []).filter λx=>decide (x∉ss)).length
   ·have lw:=mz n hS (g:=h.mem.length) (by simp;lia) hw;have hq:=hS.Rw h.mem.length;obtain⟨f1,f2⟩:=fr2 _ _ _ rfl;refine⟨_,_,ag (zT (st1:=s') ?_ (ag (mY (v:=.d .bz) (ou rfl s0 rfl (ps:=[.d (nD h.mem.length)]) (st1:=s') (by simp) lw)) aG)) aG,?_,f1,f2⟩;·rw[nU,gX,bU,cX rfl s0 rfl];simp only[ae,bc,WT,WW,Xc,ay,nD,wx];cases V7:h.iC.getD g Ξ with|true=>simp|false=>rw[V7] at EG;have RC:=EG.resolve_left (by decide);simp[ll,la];rw[WN] at RC;simpa using RC
    ·unfold az;rw[if_neg hc];dsimp only;rw[if_pos EG];exact hq
   ·have lw:=mz n hS (g:=g) (by simp;lia) hw;have hq:=hS.Rw g;obtain⟨f1,f2⟩:=fr2 _ _ _ rfl;refine⟨_,_,ag (w4 (st1:=s') ?_ (ag (mY (v:=.d .bz) (ou rfl s0 rfl (ps:=[.d (nD g)]) (st1:=s') (by simp) lw)) aG)) aG,?_,f1,f2⟩
    ·rw[nU,gX,bU,cX rfl s0 rfl];simp only[ae,bc,WT,WW,Xc,ay,nD,wx];have h1:h.iC.getD g Ξ=Ξ:=by cases V7:h.iC.getD g Ξ with|true=>exact absurd (.inl V7) EG|false=>rfl
     rw[h1];have h2:¬ss.length<=((h.mem.getD g []).filter λx=>decide (x∉ss)).length:=λz=>EG (.inr z);simp[ll,la];rw[WN] at h2;simpa using h2
    ·unfold az;rw[if_neg hc];dsimp only;rw[if_neg EG];exact hq
  obtain⟨r2,s2,f0,f1,f2,f3⟩:=fin;refine⟨mb++[st.length],s2,kU gM rfl rfl (r:=r2) ?_,f1,f2,f3⟩;refine ag (bp e1) (ag (w4 (st1:=st) ?_ aG) (ag (bp (v:=.d (nD h.mem.length)) (st1:=st) ?_) ?_))
  ·have:((ss.length:Int)==((h.mem.getD g []).length:Int))=Ξ:=by rw[beq_eq_false_iff_ne];lia
   simp[aC,bx,el,ea];rw[WN] at hc
   lia
  ·rw[b9,aq,cX rfl hs.self rfl];simp[iV hs.KW,nD,hs.qZ]
  refine ag (my (x:=.obj (b+4)) (v:=.obj st.length) (its:=mb.map P.obj) (st1:=st) (st2:=st++[O.dK []]) (cX rfl hs.self rfl) (iU hs.KW) (by simp) (st3:=(st++[O.dK []]).set (b+4) (.lst ((mb++[st.length]).map P.obj))) ?_) ?_;·rw[gR (xs:=mb.map P.obj) (by rw[WK (by lia)];exact hs.KW) (by simp[aw,hs.qZ];lia)];simp
  have t0:((st++[O.dK []]).set (b+4) (.lst ((mb++[st.length]).map P.obj)))[0]?=Δ (ir b):=by rw[WH (by lia),WK (by lia)];exact hs.self
  have t6:((st++[O.dK []]).set (b+4) (.lst ((mb++[st.length]).map P.obj)))[b+6]?=Δ (jv h.iC):=by rw[WH (by lia),WK (by lia)];exact hs.iC
  refine ag (my (x:=.obj (b+6)) (v:=.d (.bl Ξ)) (its:=h.iC.map λb=>P.d (.bl b)) (st1:=(st++[O.dK []]).set (b+4) (.lst ((mb++[st.length]).map P.obj))) (st2:=(st++[O.dK []]).set (b+4) (.lst ((mb++[st.length]).map P.obj))) (cX rfl t0 rfl) (iU t6) (by simp) (st3:=((st++[O.dK []]).set (b+4) (.lst ((mb++[st.length]).map P.obj))).set (b+6) (jv (h.iC++[Ξ]))) ?_) ?_;·rw[gR t6 (by simp[aw];lia)];simp[jv]
  refine ag (GZ (n:=l) (st1:=((st++[O.dK []]).set (b+4) (.lst ((mb++[st.length]).map P.obj))).set (b+6) (jv (h.iC++[Ξ]))) (by simp[aC,bx]) e) f0
end
section
variable{m:dU}{w b:Nat}{mb:List Nat}{st aJ:aL}{h:nq}{T:List Nat}{R:Nat->Prop}{a:Nat}
theorem Av n(ok:fF w m)(hm:m.length<=100000)(hs:HS m w b mb st h)(hi:jP w m T R h)(ha:a < w)(JX:T.Nodup)(V8:∀t∈T,t < m.length)(hml:h.mem.length < 1000000):
  ∃y4 y5 s dl,forL (jm (.nm 4)) (aj (callC Fs n) cR) ((T.map nD).map .d) [Δ (.obj 0),Δ (.d (.pl (T.map nD))),Δ (.d (nD a)),Δ (.obj st.length),Θ,Θ,Θ,Θ] (st++[O.dK []])
   =.ok (.nx [Δ (.obj 0),Δ (.d (.pl (T.map nD))),Δ (.d (nD a)),Δ (.obj st.length),y4,y5,Θ,Θ]) s/\GS h.grp st.length st s (T.flatMap (dI m a)) dl:=by
 have hlen:=hs.len;have K3:∀(l:List Nat),l.Nodup->(∀x∈l,x < m.length)->l.length<=m.length:=λl h1 h2=>by
  have:=kW h1 (xs:=WB m.length) λs hs=>by simpa using h2 s hs
  simpa using this
 have FN:=r9 (m:=m) (a:=a) JX;have FL:∀x∈T.flatMap (dI m a),x < m.length:=λx hx=>(oo.mp hx).1;have flen:=K3 _ FN FL;have one:∀(s:aL) (done:List Nat) (dl:List KY) (x:Nat) (y4 y5:Option P),GS h.grp st.length st s done dl->done.length < 1000000->(∀t∈dl,t.1 < h.mem.length)->x < m.length->
   ∃s2 NL,aj (callC Fs n) cQ [Δ (.obj 0),Δ (.d (.pl (T.map nD))),Δ (.d (nD a)),Δ (.obj st.length),y4,Δ (.d (nD x)),Θ,Θ] s=.ok (.nx [Δ (.obj 0),Δ (.d (.pl (T.map nD))),Δ (.d (nD a)),Δ (.obj st.length),y4,Δ (.d (nD x)),Θ,Θ]) s2/\GS h.grp st.length st s2 (done++[x]) NL:=by
  intro s done dl x y4 y5 G hd hk hx;have s0:s[0]?=Δ (ir b):=by rw[G.pre 0 (by lia)];exact hs.self
  have s1:s[b+1]?=Δ (encL h.grp):=by rw[G.pre (b+1) (by lia)];exact hs.grp
  have knd:(dl.map (·.1)).Nodup:=by have:=(dW h.grp done).1;rw[<-G.proj,XR] at this;exact this
  have Pz:dl.length < aw:=by
   have:=kW knd (xs:=WB h.mem.length) λg hg=>by obtain⟨t,ht,rfl⟩:=abq.mp hg;simpa using hk t ht
   simp at this;unfold aw
   lia
  obtain⟨v,its,s1',s2,NL,e1,e2,e3,G'⟩:=G.next (x:=x) Pz (by unfold aw;lia);refine⟨s2,NL,?_,G'⟩;have hD:b8 s (.obj st.length)=Δ (.dK (uZ dl)):=by exact lR G.qG
  have gx:(h.grp.map λs=>P.d (nD s))[x]?=Δ (.d (nD (h.grp.getD x 0))):=by
   have:x < h.grp.length:=by rw[hi.qY];exact hx
   rw[WL,WI this,WN,WI this];rfl
  refine ag (my (x:=v) (v:=.d (nD x)) (its:=its) (st1:=s1') (st2:=s1') (st3:=s2) ?_ e2 (by simp) e3) aG;rw[kK];simp only[bc,WW,WT,Xc,ay,ae,hD];rw[bU,cX rfl s0 rfl,ae];simp only[bc,WW,WT,Xc,ay,ae];rw[show nD x=.int (x:Int) from rfl,gG s1 gx,ay,ae,gQ,fU,aB,ae];simp only[Zb,XZ,if_true,ae];rw[e1,ay,ae]
 obtain⟨outer,o1,o2,o3⟩:=hs.src;obtain⟨o,rows,f1,f2,f3,f4,f5⟩:=o3 a ha;have V9:∀{s:aL} {done:List Nat} {dl:List KY},GS h.grp st.length st s done dl->(∀x∈done,x < m.length)->∀t∈dl,t.1 < h.mem.length:=λ{s done dl} G hd t ht=>by
  have:(t.1,t.2.1)∈cz h.grp done:=by rw[<-G.proj];exact abq.mpr ⟨t,ht,rfl⟩
  obtain⟨q1,q2⟩:=(dW h.grp done).2.1 _ _ this;cases z:t.2.1 with
  |nil=>exact absurd z q2|cons x r=>
   have hx:x∈t.2.1:=by rw[z];simp
   rw[q1,Yd,qqq] at hx;rw[<-hx.2];exact hi.blt x (hd x hx.1)
 obtain⟨r',s',e,⟨y4,y5,q1⟩,dl,q2⟩:=cL (g:=jm (.nm 4)) (b:=aj (callC Fs n) cR) (ps:=(T.map nD).map .d) (k:=0) (r:=[Δ (.obj 0),Δ (.d (.pl (T.map nD))),Δ (.d (nD a)),Δ (.obj st.length),Θ,Θ,Θ,Θ]) (st:=st++[O.dK []])
  (I:=λk r s=>(∃y4 y5,r=[Δ (.obj 0),Δ (.d (.pl (T.map nD))),Δ (.d (nD a)),Δ (.obj st.length),y4,y5,Θ,Θ])/\∃dl,GS h.grp st.length st s ((T.take k).flatMap (dI m a)) dl)
  (λi p r s ⟨⟨y4,y5,h1⟩,dl,G⟩ hp=>by
   rw[Xh] at G ⊢;subst h1;rw[XR,WL] at hp;cases HI:T[i]? with
   |none=>rw[HI] at hp;cases hp|some t=>
    rw[HI] at hp;cases hp;have htT:=W6 HI;obtain⟨l,g1,g2,g3,g4⟩:=f5 t (V8 t htT);have Hf:(T.take (i+1)).flatMap (dI m a)=(T.take i).flatMap (dI m a)++dI m a t:=by rw[X2,HI,XJ];simp
    have Wa:∀j,∃rest,T.flatMap (dI m a)=(T.take i).flatMap (dI m a)++(dI m a t).take j++rest:=λj=>by
     refine⟨(dI m a t).drop j++(T.drop (i+1)).flatMap (dI m a),?_⟩;have h1:T.flatMap (dI m a)=(T.take (i+1)).flatMap (dI m a)++(T.drop (i+1)).flatMap (dI m a):=by rw[<-XJ,aax]
     rw[h1,Hf];simp only[Xt];rw[<-Xt ((dI m a t).take j),aax]
    obtain⟨r2,s2,e2,⟨NP,z1⟩,dl2,G2⟩:=uw (n:=l) (g:=jm (.nm 5)) (b:=aj (callC Fs n) cQ) (xs:=(dI m a t).map λs=>P.d (nD s)) (I:=λj r s=>(∃y5,r=[Δ (.obj 0),Δ (.d (.pl (T.map nD))),Δ (.d (nD a)),Δ (.obj st.length),Δ (.d (nD t)),y5,Θ,Θ])/\∃dl,GS h.grp st.length st s ((T.take i).flatMap (dI m a)++(dI m a t).take j) dl)
     (λj r s ⟨_,dl,G⟩=>by rw[G.pre l (by lia)];exact g4)
     (λj p r s ⟨⟨y5,h1⟩,dl,G⟩ hp=>by
      subst h1;rw[WL] at hp;cases hx:(dI m a t)[j]? with
      |none=>rw[hx] at hp;cases hp|some x=>
       rw[hx] at hp;cases hp;obtain⟨rest,hr⟩:=Wa j;have Wb:∀y∈(T.take i).flatMap (dI m a)++(dI m a t).take j,y < m.length:=λy hy=>FL y (by rw[hr];exact XO _ hy);have Wc:((T.take i).flatMap (dI m a)++(dI m a t).take j).length < 1000000:=by
        have:=congrArg abJ hr;simp only[W1] at this ⊢
        lia
       have hxm:x < m.length:=(kZ.mp (W6 hx)).1;obtain⟨s2,NL,e2,G2⟩:=one s _ dl x (Δ (.d (nD t))) Θ G Wc (V9 G Wb) hxm;refine⟨_,_,s2,rfl,e2,⟨_,rfl⟩,NL,?_⟩;rw[X2,hx];simpa using G2)
     dP (i:=0) (r:=[Δ (.obj 0),Δ (.d (.pl (T.map nD))),Δ (.d (nD a)),Δ (.obj st.length),Δ (.d (nD t)),y5,Θ,Θ]) (st:=s) ⟨⟨y5,rfl⟩,dl,by simpa using G⟩ (XZ _) (by have:(dI m a t).length<=m.length:=K3 _ ((ZU).filter _) λx hx=>(kZ.mp hx).1;simp[dP];lia)
    subst z1;rw[WJ,XE (WM _),<-Hf] at G2;refine⟨_,[Δ (.obj 0),Δ (.d (.pl (T.map nD))),Δ (.d (nD a)),Δ (.obj st.length),Δ (.d (nD t)),NP,Θ,Θ],s2,rfl,?_,⟨_,_,rfl⟩,dl2,G2⟩;have s0:s[0]?=Δ (ir b):=by rw[G.pre 0 (by lia)];exact hs.self
    refine ag (GZ (n:=l) (st1:=s) ?_ e2) aG;rw[bU,bU,cX rfl s0 rfl,ae];have h1:=gG (st:=s) (n:=b) (by rw[G.pre b (by lia)];exact o1) (i:=a) (p:=.obj o) (by rw[WL,f1];rfl);have h2:=gG (st:=s) (n:=o) (by rw[G.pre o (by lia)];exact f4) (i:=t) (p:=.obj l) (by rw[WL,g1];rfl);simp only[bc,aar,WW,WT,Xc,ay,ae,nD,Function.comp,h1,h2]) ⟨⟨Θ,Θ,rfl⟩,[],by
   refine⟨rfl,by simp[uZ],(λt h=>nomatch h),by simp,λi hi=>WK hi,by simp⟩⟩
 subst q1;rw[WJ,WJ,Xh,XE (WM _)] at q2;exact⟨y4,y5,s',dl,e,q2⟩
theorem oE n(ok:fF w m)(hm:m.length<=100000)(hs:HS m w b mb st h)(hi:jP w m T R h)(hn:vA h)(ha:a < w)(hT:∀x y,x < m.length->y < m.length->x∈T->y∉T->¬lV w m x m y)(JX:T.Nodup)(V8:∀t∈T,t < m.length):
  ∃u0 aJ,callC Fs (n+3) 21 [.obj 0,.d (.pl (T.map nD)),.d (nD a)] st=.ok (.d .bz) aJ/\HS m w b u0 aJ (dY m h T a):=by
 have hlen:=hs.len;have bd:=vA.bound hi hn;obtain⟨y4,y5,s,dl,eg,G⟩:=Av (n+2) ok hm hs hi ha JX V8 (by lia);have FN:=r9 (m:=m) (a:=a) JX;have L:=λs=>oo (m:=m) (T:=T) (a:=a) (s:=s);obtain⟨s1,s2,s3⟩:=dW h.grp (T.flatMap (dI m a));have knd:(dl.map (·.1)).Nodup:=by rw[<-G.proj,XR] at s1;exact s1
 have sr:HS m w b mb s h:=hs.keep (by have:=G.len;lia) λi hi _=>G.pre i hi;have IE:∀i,st.length<=i->EI b mb i:=λi hi=>⟨by lia,λz=>by have:=(hs.mad z).2;lia⟩;have Iw:HS m w b mb (s.set st.length .vm) h:=sr.put (IE _ (WM _)) _;have K4:∀t∈dl,t.1 < h.mem.length/\(∀x,x∈t.2.1↔x∈h.mem.getD t.1 []/\bg m x a∈T)/\t.2.1.Nodup/\t.2.1≠[]:=λt ht=>by
  have hp:(t.1,t.2.1)∈cz h.grp (T.flatMap (dI m a)):=by rw[<-G.proj];exact abq.mpr ⟨t,ht,rfl⟩
  obtain⟨e,fc⟩:=s2 _ _ hp;have uS:t.1 < h.mem.length:=by
   cases q:t.2.1 with
   |nil=>exact absurd q fc|cons x r=>
    have hx:x∈t.2.1:=by rw[q];simp
    rw[e,Yd,qqq] at hx;rw[<-hx.2];exact hi.blt x ((L x).mp hx.1).1
  refine⟨uS,λx=>?_,by rw[e];exact FN.filter _,fc⟩;rw[e,Yd,qqq,L,(hi.mem t.1 uS).2];constructor;·rintro⟨⟨p,q⟩,r⟩;exact⟨⟨p,r⟩,q⟩
  ·rintro⟨⟨p,r⟩,q⟩;exact⟨⟨p,q⟩,r⟩
 obtain⟨r',sF,eF,⟨y6,y7,z1⟩,RD,hF,z2,z3,z4,z5,z6⟩:=zW (x:=6) (y:=7) (b:=aj (callC Fs (n+2)) eX) (ps:=uZ dl) (k:=0) (r:=[Δ (.obj 0),Δ (.d (.pl (T.map nD))),Δ (.d (nD a)),Δ (.obj st.length),y4,y5,Θ,Θ]) (st:=s.set st.length .vm)
  (I:=λk r s'=>(∃y6 y7,r=[Δ (.obj 0),Δ (.d (.pl (T.map nD))),Δ (.d (nD a)),Δ (.obj st.length),y4,y5,y6,y7])/\∃u0 h',h'=((dl.take k).map (λt=>(t.1,t.2.1))).foldl (λh e=>az h e.1 e.2) h/\HS m w b u0 s' h'/\jP w m T R h'/\vA h'/\
   (st.length < s'.length/\EI b u0 st.length/\∀t∈dl.drop k,EI b u0 t.2.2/\s'[t.2.2]?=Δ (encL t.2.1)/\t.1 < h'.mem.length/\(∀x,x∈t.2.1↔x∈h'.mem.getD t.1 []/\bg m x a∈T)))
  (λi kv r s' ⟨⟨y6,y7,h1⟩,u0,h',c1,c2,c3,c4,c5,c6,c7⟩ hp=>by
   rw[Xh] at c1 c7 ⊢;subst h1;unfold uZ at hp;rw[WL] at hp;cases HI:dl[i]? with
   |none=>rw[HI] at hp;cases hp|some t=>
    rw[HI] at hp;cases hp;have htd:=W6 HI;obtain⟨RE,We⟩:=qqz HI;have edr:dl.drop i=t::dl.drop (i+1):=by rw[Yg RE,We]
    obtain⟨d1,d2,d3,d4⟩:=c7 t (by rw[edr];exact WG);obtain⟨_,_,d5,d6⟩:=K4 t htd;have bd':=vA.bound c3 c4;have wl:h'.wait.length<=h'.mem.length:=by
     have:=kW c3.KU (xs:=WB h'.mem.length) λg hg=>by simpa using((c3.wt g).mp hg).1
     simpa using this
    have tl:t.2.1.length<=m.length:=by
     have:=kW d5 (xs:=WB m.length) λx hx=>by simpa using(((c3.mem t.1 d3).2 x).mp ((d4 x).mp hx).1).1
     simpa using this
    obtain⟨RG,st2,g1,g2,g3,g4⟩:=uJ n c2 (g:=t.1) (l:=t.2.2) (ss:=t.2.1) d2 d1 d3 (λx hx=>((d4 x).mp hx).1) d5 (λx hx=>by rw[c3.qY];exact(((c3.mem t.1 d3).2 x).mp ((d4 x).mp hx).1).1) c3.m5 (by unfold aw;lia) (by lia) (by lia);obtain⟨i1,i2,i3,i4,i5,i6,i7⟩:=om c3 d3 ha d4 d5 d6 hT ok;have n1:=qE c3 c4 d3 (λx hx=>((d4 x).mp hx).1) d5 d6;have s0:=c2.self;refine⟨_,st2,ag (mY (v:=.d .bz) (ou rfl c2.self rfl (ps:=[.d (nD t.1),.obj t.2.2]) (st1:=s') (by simp[aar,xM,nD]) g1)) aG,⟨_,_,rfl⟩,RG,_,?_,g2,i1,n1,by lia,(g4 st.length c5 c6).2,λu hu=>?_⟩;·rw[X2,HI,Xn,Zj,<-c1];rfl
    ·obtain⟨u1,u2,u3,u4⟩:=c7 u (by rw[edr];exact WE _ hu);have RI:u.2.2 < s'.length:=(qqz u2).1;obtain⟨v1,v2⟩:=g4 u.2.2 RI u1;have hut:u.1≠t.1:=λz=>by
      obtain⟨j,hj⟩:=aaJ hu;rw[List.getElem?_drop] at hj;obtain⟨Ss,hje⟩:=qqz hj;have:=yg knd (i:=i) (j:=i+1+j) (by simpa using RE) (by simpa using Ss) (by simp only[List.getElem_map,We,hje];exact z.symm)
      lia
     exact⟨v2,by rw[v1];exact u2,by lia,λx=>by rw[u4,i5 u.1 u3 hut]⟩)
  ⟨⟨Θ,Θ,rfl⟩,mb,h,by simp,Iw,hi,hn,by have:=G.len;simpa using this,IE _ (WM _),λt ht=>by rw[ZM] at ht;obtain⟨q1,q2,q3⟩:=G.at_ t ht;obtain⟨p1,p2,_⟩:=K4 t ht;exact⟨IE _ (by lia),by rw[WH (by lia)];exact q3,p1,p2⟩⟩
 subst z1;obtain⟨z6,z7,_⟩:=z6;refine⟨RD,sF.set st.length (.dK (uZ dl)),kU jU rfl rfl (r:=[Δ (.obj 0),Δ (.d (.pl (T.map nD))),Δ (.d (nD a)),Δ (.obj st.length),y4,y5,y6,y7]) ?_,?_⟩;·refine ag (bp (v:=.obj st.length) (st1:=st++[O.dK []]) (by simp)) ?_;refine ag (ij (ps:=(T.map nD).map .d) (st1:=st++[O.dK []]) (by simp[aC,cg]) eg) ?_;exact ag (NG (n:=st.length) (kvs:=uZ dl) (st1:=s) (by simp) G.qG eF) aG
 ·have e:hF=dY m h T a:=by rw[z2];unfold dY;rw[<-G.proj,Xh];unfold uZ;rw[WJ,XE (WM _)]
  rw[<-e];exact z3.put z7 _
end
section
variable{m:dU}{w b:Nat}{mb:List Nat}{st aJ:aL}{h:nq}
theorem NQ(hs:HS m w b mb st h)g:HS m w b mb ((st.set (b+5) (encL h.wait.dropLast)).set (b+6) (jv (h.iC.set g Ξ))) (k7 h g):=by
 have hl:=hs.len;have g0:∀i,i≠b+5->i≠b+6->((st.set (b+5) (encL h.wait.dropLast)).set (b+6) (jv (h.iC.set g Ξ)))[i]?=st[i]?:=λi h1 h2=>by rw[WH (XC h2),WH (XC h1)]
 refine⟨by simpa using hl,hs.b0,by rw[g0 0 (by lia) (by lia)];exact hs.self,?_,by rw[g0 _ (by lia) (by lia)];exact hs.grp,by rw[g0 _ (by lia) (by lia)];exact hs.KW,hs.qZ,λk hk=>?_,hs.Rv,?_,?_⟩;·obtain⟨outer,e1,e2,e3⟩:=hs.src;refine⟨outer,by rw[g0 _ (by lia) (by lia)];exact e1,e2,λa ha=>?_⟩;obtain⟨o,rows,f1,f2,f3,f4,f5⟩:=e3 a ha;refine⟨o,rows,f1,f2,f3,by rw[g0 _ (by lia) (by lia)];exact f4,λt ht=>?_⟩;obtain⟨l,q1,q2,q3,q4⟩:=f5 t ht;exact⟨l,q1,q2,q3,by rw[g0 _ (by lia) (by lia)];exact q4⟩
 ·obtain⟨a,e1,e2,e3,e4⟩:=hs.mem k hk;refine⟨a,e1,e2,by simpa using e3,?_⟩;rw[g0 _ (by rcases e2 with z|z|z<;>lia) (by rcases e2 with z|z|z<;>lia)];exact e4
 ·rw[WH (by lia),W4 (by lia)];rfl
 ·rw[W4 (by simp;lia)];rfl
theorem En n(ok:fF w m)(hm:m.length<=100000)(hw:w<=1000)(hs:HS m w b mb st h)(hc:uB w m h)(fc:h.wait≠[])y1 y2 y3:
  ∃y1' y2' S7 u0 aJ,aj (callC Fs (n+3)) fm [Δ (.obj 0),y1,y2,y3] st=.ok (.nx [Δ (.obj 0),y1',y2',S7]) aJ/\HS m w b u0 aJ (oq m w h):=by
 obtain⟨g,ew,eg,gl,gnd,glt,hT,ip,hn⟩:=JY ok hc fc;have hlen:=hs.len;obtain⟨a,a1,a2,a3,a4⟩:=hs.mem g gl;have wl:=hc.1.m5
 let s1:=st.set (b+5) (encL h.wait.dropLast)
 let s2:=s1.set (b+6) (jv (h.iC.set g Ξ))
 have sr:HS m w b mb s2 (k7 h g):=NQ hs g;have p1:Gd (.obj (b+5)) st=Δ (.d (nD g),s1):=by
  have hw5:st[b+5]?=Δ (.lst (h.wait.map λs=>P.d (nD s))):=hs.Ow;have hx:(h.wait.map λs=>P.d (nD s))[(h.wait.map λs=>P.d (nD s)).length - 1]?=Δ (.d (nD g)):=by rw[ew];simp
  unfold Gd;simp only[hw5,hx,XA];congr 2;show st.set _ (O.lst _)=st.set _ (encL _);unfold encL;rw[List.map_dropLast]
 have Pu:s1[0]?=Δ (ir b):=by show(st.set _ _)[0]?=_;rw[WH (by lia)];exact hs.self
 have s16:s1[b+6]?=Δ (jv h.iC):=by show(st.set _ _)[b+6]?=_;rw[WH (by lia)];exact hs.iC
 have p2:qU (.obj (b+6)) (.d (nD g)) (.d (.bl Ξ)) s1=Δ s2:=by rw[show nD g=.int (g:Int) from rfl,yc s16 (by simp;lia)];simp[s2,jv,ab5]
 obtain⟨a',c1,c2,c3,c4⟩:=sr.mem g gl;have p3:aa (callC Fs (n+3)) (.lst Ξ (.keys (.ix (.attr "Groups" "members" 0) (.var 1)))) [Δ (.obj 0),Δ (.d (nD g)),y2,y3] s2=.ok (.d (.pl ((h.mem.getD g []).map nD))) s2:=by
  rw[cy,tu,bU,cX rfl sr.self rfl,ae];have h1:=gG sr.KW (i:=g) (p:=.obj a') (by rw[WL,c1];rfl);have h2:sV s2 (.obj a')=Δ (a',(h.mem.getD g []).map λ(s:Nat)=>((.inl (s:Int):Sum Int Str),P.d (.bl Λ))):=by have:s2[a']?=Δ (.dK ((h.mem.getD g []).map λ(s:Nat)=>((.inl (s:Int):Sum Int Str),P.d (.bl Λ)))):=c4;unfold sV;simp only[this]
  simp only[bc,WW,WT,Xc,ay,ae,nD,h1,h2];have h3:(((h.mem.getD g []).map λ(s:Nat)=>((.inl (s:Int):Sum Int Str),P.d (.bl Λ))).map λkv=>xM kv.1)=(h.mem.getD g []).map λs=>P.d (nD s):=by rw[XR];rfl
  rw[h3,bF];rfl
 let T:=h.mem.getD g []
 obtain⟨outer,o1,o2,o3⟩:=sr.src;obtain⟨r',sF,eF,⟨S7,z1⟩,RD,hF,RF,z2,z3,z4,z5⟩:=cL (g:=jm (.nm 3)) (b:=aj (callC Fs (n+3)) iY) (ps:=(WB w).map λk:Nat=>P.d (.int (k:Int))) (k:=0) (r:=[Δ (.obj 0),Δ (.d (nD g)),Δ (.d (.pl (T.map nD))),y3]) (st:=s2)
  (I:=λk r s=>(∃y3,r=[Δ (.obj 0),Δ (.d (nD g)),Δ (.d (.pl (T.map nD))),y3])/\∃u0 h' R',h'=dZ m T (WB k) (k7 h g)/\HS m w b u0 s h'/\jP w m T R' h'/\vA h')
  (λi p r s ⟨⟨y3,h1⟩,u0,h',R',c1,c2,c3,c4⟩ hp=>by
   rw[Xh] at c1 ⊢;subst h1;have hi:i < w:=by
    rw[WL] at hp;by_cases z:i < w;·exact z
    ·rw[Xb (by simpa using z)] at hp;cases hp
   have Fp:p=.d (.int (i:Int)):=by rw[WL,Xr hi] at hp;cases hp;rfl
   subst Fp;obtain⟨RG,st2,e1,e2⟩:=oE n ok hm c2 c3 c4 hi hT gnd glt;obtain⟨j1,j2,_,_⟩:=qF ok hi hT gnd c3 c4;refine⟨_,[Δ (.obj 0),Δ (.d (nD g)),Δ (.d (.pl (T.map nD))),Δ (.d (.int (i:Int)))],st2,rfl,ag (mY (v:=.d .bz) (ou rfl c2.self rfl (ps:=[.d (.pl (T.map nD)),.d (nD i)]) (st1:=s) (by simp[nD]) e1)) aG,⟨_,rfl⟩,RG,_,_,?_,e2,j1,j2⟩;rw[XM];unfold dZ at c1 ⊢;rw[Zj,<-c1];rfl)
  ⟨⟨y3,rfl⟩,mb,k7 h g,_,by simp[dZ],sr,ip,hn⟩
 subst z1;rw[WJ,Xa,Xh] at z2;refine⟨Δ (.d (nD g)),Δ (.d (.pl (T.map nD))),S7,RD,sF,?_,by
  have:hF=oq m w h:=by rw[z2];unfold oq;rw[eg]
  rw[<-this];exact z3⟩
 refine ag (bp (v:=.d (nD g)) (st1:=s1) ?_) ?_;·rw[sZ,cX rfl hs.self rfl,ae,p1,ay,ae]
 refine ag (uu (x:=.obj (b+6)) (k:=.d (nD g)) (v:=.d (.bl Ξ)) (st1:=s1) (st2:=s1) (st3:=s1) (by simp) (cX rfl Pu rfl) (by simp) p2) ?_;refine ag (bp (v:=.d (.pl (T.map nD))) (st1:=s2) p3) ?_;refine ag (ij (ps:=(WB w).map λk:Nat=>P.d (.int (k:Int))) (st1:=s2) (fg ?_ (by lia)) eF) aG;rw[b9,aq,cX rfl sr.self rfl,ae,aB,ae,ae,iV o1,ay];simp[o2]
theorem Aw n(ok:fF w m)(hm:m.length<=100000)(hw:w<=1000)(hs:HS m w b mb st h)(hc:uB w m h)(hK:h.wait.length+(m.length+2 - h.mem.length)<=K)(hK2:K < 1000000):
  ∃u0 aJ,callC Fs (n+4) 22 [.obj 0] st=.ok (.d .bz) aJ/\HS m w b u0 aJ (settle m w K h):=by
 obtain⟨r',sF,eF,RD,zF⟩:=pP (c:=bI (aa (callC Fs (n+3)) (.cmp .gt (.bf .len [.attr "Groups" "waiting" 0]) (.cst (.int 0))))) (b:=aj (callC Fs (n+3)) fm)
  (I:=λk r s=>(∃y1 y2 y3,r=[Δ (.obj 0),y1,y2,y3])/\∃u0 h',HS m w b u0 s h'/\uB w m h'/\h'.wait.length+(m.length+2 - h'.mem.length)<=k/\settle m w k h'=settle m w K h)
  (E:=λr s=>∃u0,HS m w b u0 s (settle m w K h))
  (λk r s ⟨⟨y1,y2,y3,h1⟩,u0,h',c1,c2,c3,c4⟩=>by
   subst h1;have ec:bI (aa (callC Fs (n+3)) (.cmp .gt (.bf .len [.attr "Groups" "waiting" 0]) (.cst (.int 0)))) [Δ (.obj 0),y1,y2,y3] s=.ok (decide (0 < h'.wait.length)) s:=by unfold bI;rw[fT,b9,aq,cX rfl c1.self rfl];simp[iV c1.Ow]
   by_cases Oz:h'.wait=[]
   ·refine .inl ⟨by rw[ec,Oz];rfl,u0,?_⟩;have:settle m w k h'=h':=by cases k with|zero=>rfl|succ k=>unfold Y.settle;rw[if_pos Oz]
    rw[<-c4,this];exact c1
   ·have Jv:0 < h'.wait.length:=List.length_pos_iff.mpr Oz;obtain⟨j,rfl⟩:∃j,k=j+1:=Nat.exists_eq_succ_of_ne_zero (XI (W7 Jv (Xo (Y1 ..) c3)));obtain⟨y1',y2',S7,RG,st2,e1,e2⟩:=En n ok hm hw c1 c2 Oz y1 y2 y3;obtain⟨t1,t2,t3⟩:=Ab ok c2 Oz;have b1:=vA.bound t1.1 t1.2;have b2:=vA.bound c2.1 c2.2;refine .inr ⟨j,rfl,by rw[ec,decide_eq_true Jv],_,st2,e1,⟨_,_,_,rfl⟩,RG,_,e2,t1,G5 c3 t2 b1,?_⟩;rw[<-c4]
    conv=>rhs;unfold Y.settle
    rw[if_neg Oz])
  dP (k:=K) (r:=[Δ (.obj 0),Θ,Θ,Θ]) (st:=st) ⟨⟨_,_,_,rfl⟩,mb,h,hs,hc,hK,rfl⟩ (by unfold dP;lia)
 exact⟨RD,sF,kU pZ rfl rfl (r:=r') (ag (C0 eF) aG),zF⟩
end
theorem lq{α:Type}{f:Nat->List α}{L:Nat}(hL:∀a,(f a).length=L):∀w,((WB w).flatMap f).length=w*L
 |0=>by simp|w+1=>by rw[XM,XJ,W1,lq hL w];simp[hL,ZR]
theorem Ax{α:Type}{f:Nat->List α}{L:Nat}(hL:∀a,(f a).length=L):∀(w a t),a < w->t < L->((WB w).flatMap f)[a*L+t]?=(f a)[t]?
 |0,a,t,h,_=>absurd h (Za _)|w+1,a,t,h,ht=>by
  rw[XM,XJ];by_cases e:a < w;·have:(a+1)*L<=w*L:=Zg L e;rw[ZR] at this;rw[WK (by rw[lq hL];lia)];exact Ax hL w a t e ht
  ·have e':a=w:=by lia
   subst e';rw[W5 (by rw[lq hL];lia),lq hL,show a*L+t - a*L=t by lia];simp
section
variable{m:dU}{w:Nat}
def B3(m:dU)(a:Nat):aL:=jf m a m.length++[l8 (1+a*(m.length+1)) m.length]
theorem Ay a:(B3 m a).length=m.length+1:=by simp[B3,dc]
def ym(m:dU)(w:Nat):aL:=(WB w).flatMap (B3 m)
theorem iw:(ym m w).length=w*(m.length+1):=lq Ay w
noncomputable def outs(m:dU)(w:Nat):List Nat:=(WB w).map λa=>1+a*(m.length+1)+m.length
abbrev stI(m:dU)(w:Nat)(fs:List (Str×P))(L:aL):aL:=O.ins "Groups" fs::(ym m w++L)
theorem gf{L:aL}(hb:b=1+w*(m.length+1)):(stI m w fs L)[b+k]?=L[k]?:=by
 subst hb;rw[show 1+w*(m.length+1)+k=w*(m.length+1)+k+1 by lia,WT,W5 (by rw[iw];lia),iw];congr 1
 lia
theorem Dc{L:aL}(hb:b=1+w*(m.length+1)):(stI m w fs L).set (b+k) o=stI m w fs (L.set k o):=by subst hb;rw[show 1+w*(m.length+1)+k=w*(m.length+1)+k+1 by lia,List.set_cons_succ,aay _ _ (by rw[iw];lia),iw,show w*(m.length+1)+k - w*(m.length+1)=k by lia]
theorem iZ{L:aL}(hb:b=1+w*(m.length+1)):(stI m w fs L).length=b+L.length:=by subst hb;rw[WZ,W1,iw];lia
theorem Eo n(ok:fF w m)(hm:m.length<=100000)(hw:w<=1000):∃aJ,callC Fs (n+2) 18 [.obj 0,.d (mD m)] [.ins "Groups" []]=.ok (.d .bz) aJ/\HS m w (1+w*(m.length+1)) [1+w*(m.length+1)+2,1+w*(m.length+1)+3] aJ (je m):=by
 obtain⟨b,hb⟩:∃b,b=1+w*(m.length+1):=⟨_,rfl⟩;rw[<-hb];have eS:aV (callC Fs (n+1)) (.comp (.iJ [.bf .len [.ix (.ix (.var 1) (.cst (.int 0))) (.cst (.int 1))]]) 1 [1] Θ (.call 6 [.var 1,.var 0])) [Δ (.obj 0),Δ (.d (mD m)),Θ,Θ] [.ins "Groups" []]
   =.ok ((outs m w).map P.obj) (stI m w [] []):=by
  rw[zV];have ew:bD (callC Fs (n+1)) (.iJ [.bf .len [.ix (.ix (.var 1) (.cst (.int 0))) (.cst (.int 1))]]) [Δ (.obj 0),Δ (.d (mD m)),Θ,Θ] [.ins "Groups" []]=.ok ((WB w).map λk:Nat=>P.d (.int (k:Int))) [.ins "Groups" []]:=by refine fg ?_ (by lia);have h0:mf (m.map gc) 0=Δ (gc (row m 0)):=G3 ok.ne;have hl:=ok.len _ (bP ok.ne);simp[mD,h0,gc,wD,hl]
  rw[ew,ae,if_pos (by simp[aw];lia)];obtain⟨zs,aJ,e,q1,q2⟩:=pQ (g:=λp=>Δ p::bH [1] [Δ (.obj 0),Δ (.d (mD m)),Θ,Θ]) (c:=bh (callC Fs (n+1)) Θ) (e:=λr' aJ=>aa (callC Fs (n+1)) (.call 6 [.var 1,.var 0]) r' aJ)
   (I:=λk ys s=>ys=((WB k).map λa=>1+a*(m.length+1)+m.length).map P.obj/\s=O.ins "Groups" []::ym m k) (ps:=(WB w).map λk:Nat=>P.d (.int (k:Int))) (k:=0) (ys:=[]) (st:=[.ins "Groups" []])
   (λi p ys s ⟨h1,h2⟩ hp=>by
    rw[Xh] at h1 h2 ⊢;subst h1 h2;have hi:i < w:=by
     rw[WL] at hp;by_cases z:i < w;·exact z
     ·rw[Xb (by simpa using z)] at hp;cases hp
    rw[WL,Xr hi] at hp;cases hp;have sl:(O.ins "Groups" []::ym m i).length=1+i*(m.length+1):=by rw[WZ,iw];lia
    have e1:=yk ok hm n i hi (O.ins "Groups" []::ym m i);rw[sl] at e1;refine⟨.obj (1+i*(m.length+1)+m.length),O.ins "Groups" []::ym m i++jf m i m.length++[l8 (1+i*(m.length+1)) m.length],by simp,?_,?_⟩;·show aa _ (.call _ [.var 1,.var 0]) [Δ (.d (.int (i:Int))),Δ (.d (mD m))] _=_;simp only[g9,aq,aB,bc,WW,WT,Xc,ay,ae];exact e1
    ·refine⟨by rw[XM,Xn,Xn];rfl,?_⟩;unfold ym;rw[XM,XJ];simp[B3]) ⟨by simp,by simp[ym]⟩
  rw[e];simp only[YQ,Xh,WJ,Xa] at q1 q2;rw[q1,q2];show R.ok _ _=R.ok _ (O.ins "Groups" []::(ym m w++[]));rw[Xv];rfl
 let L1:aL:=[.lst ((outs m w).map P.obj)]
 let L2:aL:=L1++[encL (m.map (·.1))]
 let L3 (x y:List Nat):aL:=L2++[encM x,encM y,.lst [.obj (b+2),.obj (b+3)]]
 have f1:aQ (callC Fs (n+1)) (.lZ "Groups" "sources" 0 (.lst Λ (.comp (.iJ [.bf .len [.ix (.ix (.var 1) (.cst (.int 0))) (.cst (.int 1))]]) 1 [1] Θ (.call 6 [.var 1,.var 0])))) [Δ (.obj 0),Δ (.d (mD m)),Θ,Θ] [.ins "Groups" []]
   =.ok (.nx [Δ (.obj 0),Δ (.d (mD m)),Θ,Θ]) (stI m w [("sources",.obj b)] L1):=by
  refine(uv (v:=.obj b) (x:=.obj 0) (st1:=stI m w [] L1) (n:=0) (fs:=[]) ?_ rfl rfl (by simp)).trans rfl;rw[gQ,eS,ae,iZ hb];simp[L1]
 have eG:aV (callC Fs (n+1)) (.comp (.ex (.var 1)) 1 [] Θ (.ix (.var 0) (.cst (.int 0)))) [Δ (.obj 0),Δ (.d (mD m)),Θ,Θ] (stI m w [("sources",.obj b)] L1)=.ok (m.map λs=>P.d (nD s.1)) (stI m w [("sources",.obj b)] L1):=by
  refine cD (g:=λs=>P.d (gc s)) (f:=λs=>nD s.1) (xs:=m) ?_ (by unfold aw;lia) λs hs=>?_;·simp[mD]
  ·simp[gc,bH]
 have f2:aQ (callC Fs (n+1)) (.lZ "Groups" "group_of" 0 (.lst Λ (.comp (.ex (.var 1)) 1 [] Θ (.ix (.var 0) (.cst (.int 0)))))) [Δ (.obj 0),Δ (.d (mD m)),Θ,Θ] (stI m w [("sources",.obj b)] L1)
   =.ok (.nx [Δ (.obj 0),Δ (.d (mD m)),Θ,Θ]) (stI m w [("sources",.obj b),("group_of",.obj (b+1))] L2):=by
  refine(uv (v:=.obj (b+1)) (x:=.obj 0) (st1:=stI m w [("sources",.obj b)] L2) (n:=0) (fs:=[("sources",.obj b)]) ?_ rfl rfl (by simp)).trans rfl;rw[gQ,eG,ae,iZ hb];simp[L1,L2,encL,Xu]
 have f3:aQ (callC Fs (n+1)) (.lZ "Groups" "members" 0 (.lst Λ (.e7 [.qT Ξ,.qT Ξ]))) [Δ (.obj 0),Δ (.d (mD m)),Θ,Θ] (stI m w [("sources",.obj b),("group_of",.obj (b+1))] L2)
   =.ok (.nx [Δ (.obj 0),Δ (.d (mD m)),Θ,Θ]) (stI m w [("sources",.obj b),("group_of",.obj (b+1)),("members",.obj (b+4))] (L3 [] [])):=by
  refine(uv (v:=.obj (b+4)) (x:=.obj 0) (st1:=stI m w [("sources",.obj b),("group_of",.obj (b+1))] (L3 [] [])) (n:=0) (fs:=[("sources",.obj b),("group_of",.obj (b+1))]) ?_ rfl rfl (by simp)).trans rfl;have l1:=iZ (fs:=[("sources",P.obj b),("group_of",.obj (b+1))]) (L:=L2) hb;have l2:L2.length=2:=rfl;rw[gQ,fU,aq,hJ,ae,aq,hJ,ae,aB,ae,ae];simp only[Yb,if_false,W1,l1,l2,WZ,Zb,ae,aw,Nat.reduceAdd,Nat.reduceLeDiff,if_true];show R.ok (P.obj (b+2+1+1)) _=_;congr 1;·show _=stI m w _ (L3 [] []);simp[L3,encM,stI]
 obtain⟨r',sF,eF,⟨y2,y3,z1⟩,z2⟩:=cL (g:=jm (.two 2 3)) (b:=aj (callC Fs (n+1)) gL) (ps:=dk 0 (m.map gc)) (k:=0) (r:=[Δ (.obj 0),Δ (.d (mD m)),Θ,Θ]) (st:=stI m w [("sources",.obj b),("group_of",.obj (b+1)),("members",.obj (b+4))] (L3 [] []))
  (I:=λk r s=>(∃y2 y3,r=[Δ (.obj 0),Δ (.d (mD m)),y2,y3])/\s=stI m w [("sources",.obj b),("group_of",.obj (b+1)),("members",.obj (b+4))] (L3 ((WB k).filter λs=>decide (gd m s=0)) ((WB k).filter λs=>decide (gd m s=1))))
  (λi p r s ⟨⟨y2,y3,h1⟩,h2⟩ hp=>by
   rw[Xh] at h2 ⊢;subst h1 h2;rw[lS,WL] at hp;have hi:i < m.length:=by
    by_cases z:i < m.length;·exact z
    ·rw[Xb (by lia)] at hp;simp at hp
   rw[yd hi] at hp;simp only[XA,Option.some.injEq,Xh] at hp;subst hp;have hg:gd m i=0\/gd m i=1:=by
    have:gd m i<=1:=ok.good _ (bP hi)
    lia
   have nin:∀g,i∉(WB i).filter λs=>decide (gd m s=g):=λg z=>by rw[Yd,XX] at z;lia
   have fl:∀g,((WB i).filter λs=>decide (gd m s=g)).length < aw:=λg=>by have:=XG (λs=>decide (gd m s=g)) (WB i);rw[Xa] at this;unfold aw;lia
   have nx:∀g,(WB (i+1)).filter (λs=>decide (gd m s=g))=(WB i).filter (λs=>decide (gd m s=g))++if gd m i=g then[i] else[]:=λg=>by rw[XM,X8];congr 1;by_cases e:gd m i=g<;>simp[e]
   generalize Wf:(WB i).filter (λs=>decide (gd m s=0))=X0 at*;generalize Ov:(WB i).filter (λs=>decide (gd m s=1))=X1 at*;have n0:=nin 0;rw[Wf] at n0;have n1:=nin 1;rw[Ov] at n1;have l0:=fl 0;rw[Wf] at l0;have l1:=fl 1;rw[Ov] at l1;have x0:=nx 0;rw[Wf] at x0;have x1:=nx 1;rw[Ov] at x1;have g2:(stI m w [("sources",.obj b),("group_of",.obj (b+1)),("members",.obj (b+4))] (L3 X0 X1))[b+2]?=Δ (encM X0):=by rw[gf hb];rfl
   have g3:(stI m w [("sources",.obj b),("group_of",.obj (b+1)),("members",.obj (b+4))] (L3 X0 X1))[b+3]?=Δ (encM X1):=by rw[gf hb];rfl
   have g4:(stI m w [("sources",.obj b),("group_of",.obj (b+1)),("members",.obj (b+4))] (L3 X0 X1))[b+4]?=Δ (.lst [.obj (b+2),.obj (b+3)]):=by rw[gf hb];rfl
   have ea:∀(r:cj),(r[0]?).join=Δ (.obj 0)->aa (callC Fs (n+1)) (.attr "Groups" "members" 0) r (stI m w [("sources",.obj b),("group_of",.obj (b+1)),("members",.obj (b+4))] (L3 X0 X1))=.ok (.obj (b+4)) (stI m w [("sources",.obj b),("group_of",.obj (b+1)),("members",.obj (b+4))] (L3 X0 X1)):=λr hr=>by rw[CZ,hr,ay,ae];rfl
   have ss0:∀o,(stI m w [("sources",.obj b),("group_of",.obj (b+1)),("members",.obj (b+4))] (L3 X0 X1)).set (b+2) (encM o)=stI m w [("sources",.obj b),("group_of",.obj (b+1)),("members",.obj (b+4))] (L3 o X1):=λo=>by rw[Dc hb];rfl
   have ss1:∀o,(stI m w [("sources",.obj b),("group_of",.obj (b+1)),("members",.obj (b+4))] (L3 X0 X1)).set (b+3) (encM o)=stI m w [("sources",.obj b),("group_of",.obj (b+1)),("members",.obj (b+4))] (L3 X0 o):=λo=>by rw[Dc hb];rfl
   have er:gc (row m i)=.tup [nD (gd m i),wD (row m i).2]:=rfl;generalize hS:stI m w [("sources",.obj b),("group_of",.obj (b+1)),("members",.obj (b+4))] (L3 X0 X1)=S at*;refine⟨_,[Δ (.obj 0),Δ (.d (mD m)),Δ (.d (nD i)),Δ (.d (gc (row m i)))],_,rfl,?_,⟨_,_,rfl⟩,rfl⟩;rcases hg with hg|hg
   ·have p:=uF g2 n0 l0;refine ag (uu (x:=.obj (b+2)) (k:=.d (nD i)) (v:=.d (.bl Λ)) (st1:=S) (st2:=S) (st3:=S) (by simp) ?_ (by simp[nD]) p) ?_;·rw[bU,ea _ rfl,ae];have hx:=gG g4 (i:=0) (p:=.obj (b+2)) rfl;simp[er,hg,nD];exact congrArg (λo=>R.of o S) hx
    ·rw[aG,ss0,x0,x1,if_pos hg,if_neg (by lia),Xv];rfl
   ·have p:=uF g3 n1 l1;refine ag (uu (x:=.obj (b+3)) (k:=.d (nD i)) (v:=.d (.bl Λ)) (st1:=S) (st2:=S) (st3:=S) (by simp) ?_ (by simp[nD]) p) ?_;·rw[bU,ea _ rfl,ae];have hx:=gG g4 (i:=1) (p:=.obj (b+3)) rfl;simp[er,hg,nD];exact congrArg (λo=>R.of o S) hx
    ·rw[aG,ss1,x0,x1,if_neg (by lia),if_pos hg,Xv];rfl)
  ⟨⟨Θ,Θ,rfl⟩,by simp⟩
 subst z1;rw[lU,WJ,Xh] at z2;generalize hX0:(WB m.length).filter (λs=>decide (gd m s=0))=X0 at*;generalize hX1:(WB m.length).filter (λs=>decide (gd m s=1))=X1 at*;subst z2
 let L4:aL:=L3 X0 X1++[encL [0,1]]
 let L5:aL:=L4++[jv [Λ,Λ]]
 have f4:aQ (callC Fs (n+1)) (.lZ "Groups" "waiting" 0 (.lst Λ (.e7 [.cst (.int 0),.cst (.int 1)]))) [Δ (.obj 0),Δ (.d (mD m)),y2,y3] (stI m w [("sources",.obj b),("group_of",.obj (b+1)),("members",.obj (b+4))] (L3 X0 X1))
   =.ok (.nx [Δ (.obj 0),Δ (.d (mD m)),y2,y3]) (stI m w [("sources",.obj b),("group_of",.obj (b+1)),("members",.obj (b+4)),("waiting",.obj (b+5))] L4):=by
  refine(uv (v:=.obj (b+5)) (x:=.obj 0) (st1:=stI m w [("sources",.obj b),("group_of",.obj (b+1)),("members",.obj (b+4))] L4) (n:=0) (fs:=[("sources",.obj b),("group_of",.obj (b+1)),("members",.obj (b+4))]) ?_ rfl rfl (by simp)).trans rfl;rw[gQ,fU,aq,eQ,ae,aq,eQ,ae,aB,ae,ae,ae,if_pos (by decide),ae,iZ hb];show R.ok (P.obj (b+5)) _=_;congr 1;simp[L4,stI,encL,nD]
 have f5:aQ (callC Fs (n+1)) (.lZ "Groups" "waits" 0 (.lst Λ (.e7 [.cst (.bl Λ),.cst (.bl Λ)]))) [Δ (.obj 0),Δ (.d (mD m)),y2,y3] (stI m w [("sources",.obj b),("group_of",.obj (b+1)),("members",.obj (b+4)),("waiting",.obj (b+5))] L4)
   =.ok (.nx [Δ (.obj 0),Δ (.d (mD m)),y2,y3]) (stI m w (qW b) L5):=by
  refine(uv (v:=.obj (b+6)) (x:=.obj 0) (st1:=stI m w [("sources",.obj b),("group_of",.obj (b+1)),("members",.obj (b+4)),("waiting",.obj (b+5))] L5) (n:=0) (fs:=[("sources",.obj b),("group_of",.obj (b+1)),("members",.obj (b+4)),("waiting",.obj (b+5))]) ?_ rfl rfl (by simp)).trans rfl;rw[gQ,fU,aq,eQ,ae,aq,eQ,ae,aB,ae,ae,ae,if_pos (by decide),ae,iZ hb];show R.ok (P.obj (b+6)) _=_;congr 1;simp[L5,stI,jv]
 refine⟨stI m w (qW b) L5,kU m9 rfl rfl (r:=[Δ (.obj 0),Δ (.d (mD m)),y2,y3]) ?_,?_⟩;·refine ag f1 (ag f2 (ag f3 (ag (ij (ps:=dk 0 (m.map gc)) (st1:=stI m w [("sources",.obj b),("group_of",.obj (b+1)),("members",.obj (b+4))] (L3 [] [])) ?_ eF) (ag f4 (ag f5 aG)))));simp[mD]
 ·refine⟨by rw[iZ hb];simp[L5,L4,L3,L2,L1],by lia,rfl,?_,by rw[gf hb];rfl,by rw[gf hb];rfl,rfl,λg hg=>?_,by simp,by rw[gf hb];rfl,by rw[gf hb];rfl⟩
  ·refine⟨outs m w,by have:=gf (fs:=qW b) (L:=L5) (k:=0) hb;rw[ab3] at this;rw[this];rfl,by simp[outs],λa ha=>?_⟩;have Ox:(a+1)*(m.length+1)<=w*(m.length+1):=Zg _ ha;rw[ZR] at Ox;have gA:∀t,t < m.length+1->(stI m w (qW b) L5)[1+a*(m.length+1)+t]?=(B3 m a)[t]?:=λt ht=>by rw[show 1+a*(m.length+1)+t=a*(m.length+1)+t+1 by lia,WT,WK (by rw[iw];lia)];exact Ax Ay w a t ha ht
   refine⟨1+a*(m.length+1)+m.length,(WB m.length).map λt=>1+a*(m.length+1)+t,by simp[outs,ha],by lia,by lia,?_,λt ht=>⟨1+a*(m.length+1)+t,by simp[ht],by lia,by lia,?_⟩⟩;·rw[gA _ (by lia)];unfold B3;rw[W5 (by rw[dc];exact WM _),dc];simp[l8,Xu]
   ·rw[gA _ (by lia)];unfold B3;rw[WK (by rw[dc];exact ht),lp ht];rfl
  ·have Jj:g=0\/g=1:=by
    have:g < 2:=hg
    lia
   rcases Jj with e|e<;>subst e;·refine⟨b+2,rfl,.inl rfl,by rw[iZ hb];simp[L5,L4,L3,L2,L1],?_⟩;rw[gf hb];show Δ (encM X0)=Δ (encM ((WB m.length).filter _));rw[hX0]
   ·refine⟨b+3,rfl,.inr (.inl rfl),by rw[iZ hb];simp[L5,L4,L3,L2,L1],?_⟩;rw[gf hb];show Δ (encM X1)=Δ (encM ((WB m.length).filter _));rw[hX1]
end
def rA(grp:List Nat)(gs:List Nat):List (Sum Int Str×P):=gs.map λ(g:Nat)=>(.inl (g:Int),P.d (nD (grp.idxOf g)))
theorem Hg{g:Nat}(h:g∈gs):fH (rA grp gs) (.inl (g:Int))=Δ (.d (nD (grp.idxOf g))):=by
 unfold fH rA;induction gs with
 |nil=>cases h|cons x gs ih=>
  rw[WQ,XY];by_cases e:x=g;·subst e;simp
  ·have:decide ((.inl (x:Int):Sum Int Str)=.inl (g:Int))=Ξ:=by rw[decide_eq_false_iff_not];intro z;injection z with z;exact e (by lia)
   simp only[this];exact ih ((Z3.mp h).resolve_left λz=>e z.symm)
theorem fd_none{g:Nat}(h:g∉gs):fH (rA grp gs) (.inl (g:Int))=Θ:=by
 unfold fH rA;have:(gs.map λ(g:Nat)=>((.inl (g:Int):Sum Int Str),P.d (nD (grp.idxOf g)))).find? (λkv=>decide (kv.1=.inl (g:Int)))=Θ:=by
  rw[aaW];intro kv qr;obtain⟨x,hx,rfl⟩:=abq.mp qr;have:x≠g:=λz=>h (z▸hx);simp
  lia
 rw[this];rfl
theorem Az n(ok:fF w m)(hm:m.length<=100000)(hw:w<=1000)st:callC Fs (n+5) 7 [.d (mD m)] st=.ok (.d (.pl ((WB m.length).map λs=>nD (fst w m s)))) st:=by
 obtain⟨st1,e1,h1⟩:=Eo (n+2) ok hm hw;have bK:(je m).wait.length+(m.length+2 - (je m).mem.length)<=m.length+2:=by simp[je];have:=ok.ne;lia
 obtain⟨mb,st2,e2,h2⟩:=Aw n ok hm hw h1 (uD ok) (K:=m.length+2) bK (by lia);obtain⟨calm,_⟩:=xa ok;have oY:HS m w (1+w*(m.length+1)) mb st2 (iH w m):=h2;generalize hb:1+w*(m.length+1)=b at*;have gl:(iH w m).grp.length=m.length:=calm.1.qY;have V4:=oY.len
 let grp:=(iH w m).grp
 have RJ:∀k,(bO [] (grp.take k)).length < aw:=λk=>by
  have h1:(bO ([]:List Nat) (grp.take k)).Nodup:=sd (by simp);have h2:=kW h1 (xs:=grp.take k) λx hx=>by
   rcases dz.mp hx with z|z;·cases z
   ·exact z
  have h3:(grp.take k).length<=grp.length:=by rw[YH];lia
  have h4:grp.length=m.length:=gl;unfold aw
  lia
 obtain⟨r',sF,eF,⟨y3,y4,z1⟩,z2⟩:=zX (n:=b+1) (x:=3) (y:=4) (b:=aj (callC Fs (n+4)) jw) (xs:=grp.map λs=>P.d (nD s))
  (I:=λk r s=>(∃y3 y4,r=[Δ (.d (mD m)),Δ (.obj 0),Δ (.obj st2.length),y3,y4])/\s=st2++[O.dK (rA grp (bO [] (grp.take k)))])
  (λi r s ⟨_,hs⟩=>by subst hs;rw[WK (by lia)];exact oY.grp)
  (λi p r s ⟨⟨y3,y4,er⟩,hs⟩ hp=>by
   subst er hs;rw[WL] at hp;cases S8:grp[i]? with
   |none=>rw[S8] at hp;cases hp|some g=>
    rw[S8] at hp;cases hp;have Hf:grp.take (i+1)=grp.take i++[g]:=by rw[X2,S8];rfl
    have RK:bO ([]:List Nat) (grp.take (i+1))=if g∈bO [] (grp.take i) then bO [] (grp.take i) else bO [] (grp.take i)++[g]:=by rw[Hf];unfold bO;rw[Zj];rfl
    have hD:(st2++[O.dK (rA grp (bO [] (grp.take i)))])[st2.length]?=Δ (.dK (rA grp (bO [] (grp.take i)))):=by simp
    have NR:b8 (st2++[O.dK (rA grp (bO [] (grp.take i)))]) (.obj st2.length)=Δ (.dK (rA grp (bO [] (grp.take i)))):=by exact lR (by simp)
    have hl:(rA grp (bO [] (grp.take i))).length < aw:=by unfold rA;rw[WJ];exact RJ i
    have hk:keyOf (.d (nD g))=Δ (.inl (g:Int)):=rfl;have NS:∃v,qu (.obj st2.length) (.d (nD g)) (.d (.int (i:Int))) (st2++[O.dK (rA grp (bO [] (grp.take i)))])=Δ (v,st2++[O.dK (rA grp (bO [] (grp.take (i+1))))]):=by
     unfold qu;simp only[hD,hl,if_true,hk,XA];by_cases uH:g∈bO [] (grp.take i);·rw[RK,if_pos uH,Hg uH];exact⟨_,rfl⟩
     ·rw[RK,if_neg uH,fd_none uH];have hni:g∉grp.take i:=λz=>uH (dz.mpr (.inr z));have hix:grp.idxOf g=i:=by
       obtain⟨RE,We⟩:=qqz S8;have e:grp=grp.take i++[g]++grp.drop (i+1):=by rw[<-Hf,aax]
       conv=>lhs;rw[e]
       rw[C2 hni,YH];lia
      refine⟨.d (.int (i:Int)),?_⟩;dsimp only;rw[sf (λkv qr=>by obtain⟨x,hx,rfl⟩:=abq.mp qr;intro z;injection z with z;exact uH ((show x=g by lia)▸hx))];congr 2;rw[aay _ _ (by lia)];simp[rA,hix,nD]
    obtain⟨v,NS⟩:=NS;refine⟨[Δ (.d (mD m)),Δ (.obj 0),Δ (.obj st2.length),Δ (.d (.int (i:Int))),Δ (.d (nD g))],st2++[O.dK (rA grp (bO [] (grp.take (i+1))))],?_,⟨_,_,rfl⟩,rfl⟩;refine ag (mY (v:=v) (st1:=st2++[O.dK (rA grp (bO [] (grp.take (i+1))))]) ?_) aG;rw[kK];simp only[aar,bc,WW,WT,Xc,ay,ae,NR,NS])
  dP (i:=0) (r:=[Δ (.d (mD m)),Δ (.obj 0),Δ (.obj st2.length),Θ,Θ]) (st:=st2++[O.dK []]) ⟨⟨_,_,rfl⟩,by simp[rA,bO]⟩ (XZ _) (by have:grp.length=m.length:=gl;rw[WJ];unfold dP;lia)
 subst z1;rw[WJ,XE (WM _)] at z2;subst z2
 let G:=bO ([]:List Nat) grp
 have s0:(st2++[O.dK (rA grp G)])[0]?=Δ (ir b):=by rw[WK (by lia)];exact oY.self
 have sg:(st2++[O.dK (rA grp G)])[b+1]?=Δ (.lst (grp.map λs=>P.d (nD s))):=by rw[WK (by lia)];exact oY.grp
 have RL:∀(r:cj) (s:aL) (f:P) (s':aL),aa (callC Fs (n+4)) (.ix (.var 1) (.var 0)) r s=.ok f s'->s'=s:=λr s f s' h=>by rw[bU,bc] at h;cases h1:(r[1]?).join with|none=>rw[h1] at h;cases h|some x=>rw[h1,ay,ae,bc] at h;cases h2:(r[0]?).join with|none=>rw[h2] at h;cases h|some y=>rw[h2,ay,ae] at h;cases h3:BA x y s with|none=>rw[h3] at h;cases h|some z=>rw[h3] at h;cases h;rfl
 have eC:aV (callC Fs (n+4)) (.cm (.attr "Groups" "group_of" 1) [2] Θ (.ix (.var 1) (.var 0))) [Δ (.d (mD m)),Δ (.obj 0),Δ (.obj st2.length),y3,y4] (st2++[O.dK (rA grp G)])=.ok (grp.map λg=>P.d (nD (grp.idxOf g))) (st2++[O.dK (rA grp G)]):=by
  rw[qx,cX rfl s0 rfl,ae];dsimp only;rw[ur (xs:=grp.map λs=>P.d (nD s)) (λr s f s' h1 h2=>by rw[mR] at h2;cases h2;exact h1) (λr s f s' h1 h2=>by rw[RL r s f s' h2];exact h1) aw 0 _ sg (by have:grp.length=m.length:=gl;rw[WJ];unfold aw;lia),ZM];refine jN (g:=λs=>P.d (nD s)) (f:=λg=>nD (grp.idxOf g)) (λx hx=>by simp) λx hx=>?_;have yt:x∈G:=dz.mpr (.inr hx);have hD:BA (.obj st2.length) (.d (.int (x:Int))) (st2++[O.dK (rA grp G)])=Δ (.d (nD (grp.idxOf x))):=by
   have NR:b8 (st2++[O.dK (rA grp G)]) (.obj st2.length)=Δ (.dK (rA grp G)):=by exact lR (by simp)
   unfold BA;rw[NR];show((keyOf (.d (.int (x:Int)))).map _).bind id=_;simp only[keyOf,XA,Yf,id];exact Hg yt
  show aa _ (.ix (.var 1) (.var 0)) [Δ (.d (nD x)),Δ (.obj st2.length)] _=_;simp only[bU,bc,WW,WT,Xc,ay,ae,nD,hD]
 refine call_of rf rfl (cV (p:=.d (.pl ((WB m.length).map λs=>nD (fst w m s)))) (st:=st2++[O.dK (rA grp G)]) rfl ?_ rfl);refine ag (bp (v:=.obj 0) (st1:=st1) ?_) ?_;·rw[tm];simp only[aC,fh,aq,aB,bc,WQ,YU,Ys,WW,Xc,ay,ae,Zb,YQ];rw[e1,ae]
 refine ag (mY (v:=.d .bz) (st1:=st2) (ou rfl h1.self rfl (ps:=[]) (st1:=st1) (by simp) e2)) ?_;refine ag (bp (v:=.obj st2.length) (st1:=st2++[O.dK []]) (by simp)) ?_;refine ag (NH (n:=b+1) (st1:=st2++[O.dK []]) (cX rfl (by rw[WK (by lia)];exact oY.self) rfl) eF) ?_;refine bA (dS ?_);rw[cy,eC,ae,bF,ay,ae];congr 3;apply aa2;intro i;by_cases hi:i < m.length
 ·have Cq:i < grp.length:=by
   have:grp.length=m.length:=gl
   lia
  rw[WL,WI Cq,WL,Xr hi];show Δ (nD (grp.idxOf grp[i]))=Δ (nD (fst w m i));unfold fst Rt;rw[WN,WI (show i < (iH w m).grp.length from Cq)];rfl
 ·rw[Xb (by have:grp.length=m.length:=gl;simp;lia),Xb (by simp;lia)]
section
variable{α:Type}[DecidableEq α](K:Rx α){step:α->List α}{good:α->Nat}{S:List α}{start:α}
abbrev aP(ps:List α)(rows:dU):aL:=[K.qG ps,.lst (ps.map λp=>P.d (K.enc p)),.lst ((rows.map gc).map .d)]
theorem NT(hn:ps.Nodup):kI .sO (.d (K.enc a)) (.obj 0) (aP K ps rows)=Δ (!decide (a∈ps)):=by
 have h1:b8 (aP K ps rows) (.obj 0)=Δ (K.qG ps):=by show(if kH (K.qG ps) then Δ (K.qG ps) else Θ)=_;rw[K.S4];rfl
 show(Mn (.d (K.enc a)) (.obj 0) (aP K ps rows)).map not=_;unfold Mn;rw[h1];simp only[K.get ps a hn,XA];by_cases h:a∈ps<;>simp[h]
theorem BR(hn:ps.Nodup)(ha:a∈ps):BA (.obj 0) (.d (K.enc a)) (aP K ps rows)=Δ (.d (nD (ps.idxOf a))):=by
 have h1:b8 (aP K ps rows) (.obj 0)=Δ (K.qG ps):=by show(if kH (K.qG ps) then Δ (K.qG ps) else Θ)=_;rw[K.S4];rfl
 unfold BA;rw[h1];simp[K.get ps a hn,ha]
theorem J4(ha:a∉ps)(hl:ps.length < aw):qU (.obj 0) (.d (K.enc a)) (.d (nD ps.length)) (aP K ps rows)=Δ ([K.qG (ps++[a]),.lst (ps.map λp=>P.d (K.enc p)),.lst ((rows.map gc).map .d)]):=by
 have h1:DR (K.qG ps) (.d (K.enc a)) (.d (nD ps.length))=Δ (K.qG (ps++[a])):=by have hp:=K.put ps a ha hl;have hd:=K.S4 ps;unfold DR;cases e:K.qG ps with|lst xs=>rw[e] at hd;cases hd|_=>rw[e] at hp;exact hp
 unfold qU;simp[h1]
theorem Ep n(pS:cw cS=Λ)(pG:cw cG=Λ)(hs:start∈S)(hS:∀p∈S,∀q∈step p,q∈S)(hSl:S.length<=900000)(hlen:∀p∈S,(step p).length<=1000)(eS:∀p∈S,∀st,callC Fs n kS (.d (K.enc p)::cS) st=.ok (.d (.pl ((step p).map K.enc))) st)(eG:∀p∈S,∀st,callC Fs n kG (.d (K.enc p)::cG) st=.ok (.d (nD (good p))) st)st:
  callC Fs (n+1) 8 [.d (K.enc start),.fn kS cS,.fn kG cG] st=.ok (.d (mD (il step good (places step 1000000 start)))) st:=by
 let F:=places step 1000000 start
 let rw_:=Ad step good F
 have b0:uE step S [start] 0:=⟨by simp,λp hp=>by simp at hp;rw[hp];exact hs,by simp,λi p hi=>by lia⟩
 let r0 (y6 y7 y8:Option P):cj:=[Δ (.d (K.enc start)),Δ (.fn kS cS),Δ (.fn kG cG),Δ (.obj 0),Δ (.obj 1),Δ (.obj 2),y6,y7,y8]
 obtain⟨r',sF,eF,⟨y6,y7,y8,z1⟩,z2⟩:=pP (c:=bI (aa (callC Fs n) (.cmp .lt (.bf .len [.var 5]) (.bf .len [.var 4])))) (b:=aj (callC Fs n) jx)
  (I:=λk r s=>(∃y6 y7 y8,r=r0 y6 y7 y8)/\∃ps j f,uE step S ps j/\yx step f ps j=F/\S.length+1<=f+j/\k=S.length - j/\s=aP K ps ((ps.take j).map rw_))
  (E:=λr s=>(∃y6 y7 y8,r=r0 y6 y7 y8)/\s=aP K F (F.map rw_))
  (λk r s ⟨⟨y6,y7,y8,h1⟩,ps,j,f,bi,RM,hf,hk,oM⟩=>by
   subst h1 oM;have bl:=bi.len;have jl:=bi.le;have tl:((ps.take j).map rw_).length=j:=by rw[WJ,YH];lia
   have l2:(aP K ps ((ps.take j).map rw_))[2]?=Δ (.lst ((((ps.take j).map rw_).map gc).map .d)):=rfl;have l1:(aP K ps ((ps.take j).map rw_))[1]?=Δ (.lst (ps.map λp=>P.d (K.enc p))):=rfl;have n2:uV .len [.obj 2] (aP K ps ((ps.take j).map rw_))=Δ (.d (.int (j:Int))):=by rw[iV l2];simp;lia
   have n1:uV .len [.obj 1] (aP K ps ((ps.take j).map rw_))=Δ (.d (.int (ps.length:Int))):=by rw[iV l1];simp
   have ec:bI (aa (callC Fs n) (.cmp .lt (.bf .len [.var 5]) (.bf .len [.var 4]))) (r0 y6 y7 y8) (aP K ps ((ps.take j).map rw_))=.ok (decide (j < ps.length)) (aP K ps ((ps.take j).map rw_)):=by
    unfold bI;simp only[fT,b9,aq,aB,bc,r0,WW,WT,Xc,ay,ae,n1,n2,NC,NB];congr 1;by_cases h:j < ps.length;·rw[decide_eq_true h,decide_eq_true (by lia)]
    ·rw[decide_eq_false h,decide_eq_false (by lia)]
   by_cases hj:j < ps.length
   ·
    obtain⟨p,hp⟩:∃p,ps[j]?=Δ p:=⟨ps[j],WI hj⟩;have S9:=bi.sub p (W6 hp);obtain⟨f',rfl⟩:∃f',f=f'+1:=VY hf hj bl;have RN:yx step f' (bO ps (step p)) (j+1)=F:=by rw[yx,hp] at RM;exact RM
    have bn:=bi.next hS hp;obtain⟨t1,et1⟩:=se step f' (bO ps (step p)) (j+1);obtain⟨t2,et2⟩:=gq (step p) ps;have bnl:=bn.len;have loop:∀(ss qs:List α) (y8:Option P),qs.Nodup->(∀q∈qs,q∈S)->(∀q∈ss,q∈S)->∃J5,forL (jm (.nm 8)) (aj (callC Fs n) dJ) ((ss.map K.enc).map .d) (r0 (Δ (.d (K.enc p))) (Δ (.d (.pl ((step p).map K.enc)))) y8) (aP K qs ((ps.take j).map rw_))
      =.ok (.nx (r0 (Δ (.d (K.enc p))) (Δ (.d (.pl ((step p).map K.enc)))) J5)) (aP K (bO qs ss) ((ps.take j).map rw_)):=by
     intro ss;induction ss with
     |nil=>intro qs y8 _ _ _;exact⟨y8,rfl⟩|cons s ss ih=>
      intro qs y8 hq Wg w9;have ql:=kW hq Wg;rw[WQ,WQ,forL,jm,ay,ae,ju];have en:=NT K (rows:=(ps.take j).map rw_) (a:=s) hq;by_cases uH:s∈qs
      ·rw[if_pos uH];obtain⟨J5,e⟩:=ih qs (Δ (.d (K.enc s))) hq Wg λq yF=>w9 q (WE _ yF);refine⟨J5,?_⟩;have eb:aj (callC Fs n) dJ ((r0 (Δ (.d (K.enc p))) (Δ (.d (.pl ((step p).map K.enc)))) y8).set 8 (Δ (.d (K.enc s)))) (aP K qs ((ps.take j).map rw_))=.ok (.nx (r0 (Δ (.d (K.enc p))) (Δ (.d (.pl ((step p).map K.enc)))) (Δ (.d (K.enc s))))) (aP K qs ((ps.take j).map rw_)):=by refine ag (w4 (st1:=aP K qs ((ps.take j).map rw_)) ?_ aG) aG;simp only[fT,bc,r0,aar,WW,WT,Xc,ay,ae,en];simp[uH]
       rw[eb,ae];exact e
      ·rw[if_neg uH];have sS:=w9 s WG;have yF:(qs++[s]).Nodup:=by rw[XN];exact⟨hq,by simp,λa ha b hb=>by simp at hb;subst hb;exact λz=>uH (z▸ha)⟩
       obtain⟨J5,e⟩:=ih (qs++[s]) (Δ (.d (K.enc s))) yF (λq hq2=>by
        rcases Z5.mp hq2 with z|z;·exact Wg q z
        ·simp at z;rw[z];exact sS) λq yF=>w9 q (WE _ yF)
       refine⟨J5,?_⟩;have hp1:=J4 K (ps:=qs) (rows:=(ps.take j).map rw_) uH (by unfold aw;lia);have nl:uV .len [.obj 1] (aP K qs ((ps.take j).map rw_))=Δ (.d (nD qs.length)):=by rw[iV (show(aP K qs ((ps.take j).map rw_))[1]?=Δ (.lst (qs.map λp=>P.d (K.enc p))) from rfl)];simp[nD]
       have eb:aj (callC Fs n) dJ ((r0 (Δ (.d (K.enc p))) (Δ (.d (.pl ((step p).map K.enc)))) y8).set 8 (Δ (.d (K.enc s)))) (aP K qs ((ps.take j).map rw_))=.ok (.nx (r0 (Δ (.d (K.enc p))) (Δ (.d (.pl ((step p).map K.enc)))) (Δ (.d (K.enc s))))) (aP K (qs++[s]) ((ps.take j).map rw_)):=by
        refine ag (zT (st1:=aP K qs ((ps.take j).map rw_)) ?_ (ag (uu (x:=.obj 0) (k:=.d (K.enc s)) (v:=.d (nD qs.length)) (st1:=aP K qs ((ps.take j).map rw_)) (st2:=aP K qs ((ps.take j).map rw_)) (st3:=aP K qs ((ps.take j).map rw_)) ?_ ?_ ?_ hp1) (ag (my (x:=.obj 1) (v:=.d (K.enc s)) (its:=qs.map λp=>P.d (K.enc p)) (st1:=[K.qG (qs++[s]),.lst (qs.map λp=>P.d (K.enc p)),.lst ((((ps.take j).map rw_).map gc).map .d)]) (st2:=[K.qG (qs++[s]),.lst (qs.map λp=>P.d (K.enc p)),.lst ((((ps.take j).map rw_).map gc).map .d)]) (st3:=aP K (qs++[s]) ((ps.take j).map rw_)) ?_ rfl ?_ ?_) aG))) aG;·simp only[fT,bc,r0,aar,WW,WT,Xc,ay,ae,en];simp[uH]
        ·simp only[b9,aq,aB,bc,r0,aar,WW,WT,Xc,ay,ae,nl]
        ·simp[r0]
        ·simp[r0]
        ·simp[r0]
        ·simp[r0]
        ·rw[gR (n:=1) (xs:=qs.map λp=>P.d (K.enc p)) rfl (by rw[WJ];unfold aw;lia)];simp[aP]
       rw[eb,ae];exact e
    obtain⟨J5,el⟩:=loop (step p) ps y8 bi.nd bi.sub (hS p S9);have Wh:gc (rw_ p)=.tup [nD (good p),.tup ((step p).map λq=>nD ((bO ps (step p)).idxOf q))]:=by show D.tup [nD (good p),wD ((step p).map λq=>F.idxOf q)]=_;unfold wD;rw[XR];congr 4;apply List.map_congr_left;intro q hq;have yF:q∈bO ps (step p):=dz.mpr (.inr hq);show nD (F.idxOf q)=_;rw[<-RN,et1,yf yF]
    have Hf:(bO ps (step p)).take (j+1)=ps.take j++[p]:=by rw[et2,List.take_append_of_le_length (by lia),X2,hp];rfl
    refine .inr ⟨S.length - (j+1),VZ hk bl hj,by rw[ec,decide_eq_true hj],r0 (Δ (.d (K.enc p))) (Δ (.d (.pl ((step p).map K.enc)))) J5,aP K (bO ps (step p)) (((bO ps (step p)).take (j+1)).map rw_),?_,⟨_,_,_,rfl⟩,bO ps (step p),j+1,f',bn,RN,by lia,rfl,rfl⟩;have hpx:=gG l1 (i:=j) (p:=.d (K.enc p)) (by rw[WL,hp];rfl);refine ag (bp (v:=.d (K.enc p)) (st1:=aP K ps ((ps.take j).map rw_)) ?_) ?_;·simp only[bU,b9,aq,aB,bc,r0,WW,WT,Xc,ay,ae,n2,hpx]
    refine ag (bp (v:=.d (.pl ((step p).map K.enc))) (st1:=aP K ps ((ps.take j).map rw_)) ?_) ?_;·rw[zU];simp only[r0,aar,aq,aB,bc,WW,WT,Xc,ay,ae,Ys,YQ];exact eS p S9 _
    refine ag (ij (ps:=((step p).map K.enc).map .d) (st1:=aP K ps ((ps.take j).map rw_)) (by simp[r0]) el) ?_;refine ag (my (x:=.obj 2) (v:=.d (gc (rw_ p))) (its:=(((ps.take j).map rw_).map gc).map .d) (st1:=aP K (bO ps (step p)) ((ps.take j).map rw_)) (st2:=aP K (bO ps (step p)) ((ps.take j).map rw_)) (st3:=aP K (bO ps (step p)) (((bO ps (step p)).take (j+1)).map rw_)) (by simp[r0]) rfl ?_ ?_) aG
    ·have e1:aa (callC Fs n) (.nS 2 [.var 6]) (r0 (Δ (.d (K.enc p))) (Δ (.d (.pl ((step p).map K.enc)))) J5) (aP K (bO ps (step p)) ((ps.take j).map rw_))=.ok (.d (nD (good p))) (aP K (bO ps (step p)) ((ps.take j).map rw_)):=by rw[zU];simp only[r0,aq,aB,bc,WW,WT,Xc,ay,ae,Ys,YQ];exact eG p S9 _
     have e2:aV (callC Fs n) (.comp (.ex (.var 7)) 1 [3] Θ (.ix (.var 1) (.var 0))) (r0 (Δ (.d (K.enc p))) (Δ (.d (.pl ((step p).map K.enc)))) J5) (aP K (bO ps (step p)) ((ps.take j).map rw_))=.ok ((step p).map λq=>P.d (nD ((bO ps (step p)).idxOf q))) (aP K (bO ps (step p)) ((ps.take j).map rw_)):=by
      have yq:=hlen p S9;refine cD (g:=λq=>P.d (K.enc q)) (f:=λq=>nD ((bO ps (step p)).idxOf q)) (xs:=step p) ?_ (by unfold aw;lia) λq hq=>?_;·simp[r0]
      ·have:=BR K (rows:=(ps.take j).map rw_) (a:=q) bn.nd (dz.mpr (.inr hq));show aa _ (.ix (.var 1) (.var 0)) [Δ (.d (K.enc q)),Δ (.obj 0)] _=_;simp only[bU,bc,WW,WT,Xc,ay,ae,this]
     rw[Wh,wo,aq,e1,ae,aq,b9,aq,cy,e2,ae,bF];simp[aw]
    ·rw[Hf,Xn];have hl3:((((ps.take j).map rw_).map gc).map P.d).length < aw:=by rw[WJ,WJ,tl];unfold aw;lia
     rw[gR (n:=2) (xs:=(((ps.take j).map rw_).map gc).map .d) rfl hl3];simp[aP]
   ·have ej:j=ps.length:=by lia
    refine .inl ⟨by rw[ec,decide_eq_false hj],⟨_,_,_,rfl⟩,?_⟩;have:F=ps:=by cases f with|zero=>exact RM.symm|succ f=>rw[yx,Xb (by lia)] at RM;exact RM.symm
    rw[this,ej,XE (WM _)])
  dP (k:=S.length - 0) (r:=r0 Θ Θ Θ) (st:=aP K [start] []) ⟨⟨_,_,_,rfl⟩,[start],0,1000000,b0,rfl,by lia,rfl,by simp⟩ (by unfold dP;lia)
 subst z1 z2;refine call_of rg (by simp[BX,pS,pG]) (cV (p:=.d (mD (il step good F))) (st:=aP K F (F.map rw_)) rfl ?_ rfl);refine ag (bp (v:=.obj 0) (st1:=[K.qG [start]]) ?_) ?_;·rw[sY];simp only[aC,cM,bc,WQ,YU,Ys,WW,Xc,ay,ae,K.lit];rfl
 refine ag (bp (v:=.obj 1) (st1:=[K.qG [start],.lst [.d (K.enc start)]]) (by simp[aC,cM,aw])) ?_;refine ag (bp (v:=.obj 2) (st1:=[K.qG [start],.lst [.d (K.enc start)],.lst []]) (by simp[aC,cM,aw])) ?_;refine ag (C0 eF) ?_;refine bA (dS ?_);have l2:gE (aP K F (F.map rw_)) (.obj 2)=Δ (((F.map rw_).map gc).map .d):=rfl;simp only[b9,aq,aB,bc,r0,WW,WT,Xc,ay,ae,uV,l2,Yf,fW,XA];rfl
end
section
variable{w:Nat}{m:dU}(ok:fF w m)(hm:m.length<=100000)(hw:w<=1000)
include ok hm hw
theorem vG(n:Nat){p:Nat}(hp:p < m.length)(st:aL):callC Fs (n+1) 23 [.d (nD p),.d (.pl ((WB m.length).map λs=>nD (fst w m s))),.d (mD m)] st=.ok (.d (.pl ((dX w m p).map nD))) st:=by
 refine call_of oB rfl (cV (p:=.d (.pl ((dX w m p).map nD))) (st:=[]) rfl (bA (dS ?_)) rfl);have hl:=ok.len _ (bP hp);have eL:aV (callC Fs n) (.comp (.ex (.ix (.ix (.var 2) (.var 0)) (.cst (.int 1)))) 1 [1] Θ (.ix (.var 1) (.var 0))) (aC 3 [.d (nD p),.d (.pl ((WB m.length).map λs=>nD (fst w m s))),.d (mD m)]) []=.ok ((row m p).2.map λq=>P.d (nD (fst w m q))) []:=by
  refine cD (g:=λq=>P.d (nD q)) (f:=λq=>nD (fst w m q)) (xs:=(row m p).2) ?_ (by unfold aw;lia) λq hq=>?_;·have h0:mf (m.map gc) (p:Int)=Δ (gc (row m p)):=G3 hp;simp[aC,mD,nD,h0,gc,wD]
  ·have yF:=ok.lt _ (bP hp) q hq;have h1:mf ((WB m.length).map λs=>nD (fst w m s)) (q:Int)=Δ (nD (fst w m q)):=cW (by simp[yF]);show aa _ (.ix (.var 1) (.var 0)) [Δ (.d (nD q)),Δ (.d (.pl ((WB m.length).map λs=>nD (fst w m s))))] _=_;simp only[bU,bc,WW,WT,Xc,ay,ae,nD,Rn];simp only[nD] at h1;rw[h1];rfl
 rw[cy];show(aV (callC Fs n) _ (aC 3 _) []).bind _=_;rw[eL,ae,bF];simp[dX,Xu]
theorem yn(n:Nat){p:Nat}(hp:p < m.length)(st:aL):callC Fs (n+1) 24 [.d (nD p),.d (mD m)] st=.ok (.d (nD (gd m p))) st:=by refine call_of p4 rfl (cV (p:=.d (nD (gd m p))) (st:=[]) rfl (bA (dS ?_)) rfl);exact C1 hp (by simp[aC,c0]) (by simp[aC,c0,nD])
theorem B4(n:Nat)(st:aL):callC Fs (n+6) 9 [.d (mD m)] st=.ok (.d (mD (iq w m))) st:=by
 refine call_of He rfl (cV (p:=.d (mD (iq w m))) (st:=[]) rfl ?_ rfl);have e1:=Az n ok hm hw [];refine ag (bp (v:=.d (.pl ((WB m.length).map λs=>nD (fst w m s)))) (st1:=[]) ?_) ?_;·rw[kJ];simp only[aC,oz,aq,aB,bc,WQ,YU,Ys,WW,Xc,ay,ae];show mv (callC Fs (n+5) 7) (Δ [.d (mD m)]) []=_;unfold mv;simp only[e1,ae]
 refine ag (ND _ _) ?_;refine bA (dS ?_);have f0:mf ((WB m.length).map λs=>nD (fst w m s)) (0:Int)=Δ (nD (fst w m 0)):=cW (k:=0) (by simp[ok.ne]);have e2:=Ep V6 (n+4) (step:=dX w m) (good:=gd m) (S:=WB m.length) (start:=fst w m 0) (kS:=23) (kG:=24) (cS:=[.d (.pl ((WB m.length).map λs=>nD (fst w m s))),.d (mD m)]) (cG:=[.d (mD m)]) rfl rfl
  (XX.mpr (gu ok ok.ne).1) (Af ok) (by rw[Xa];lia) (λp hp=>by rw[pR ok p hp];exact hw)
  (λp hp st=>vG ok hm hw (n+3) (XX.mp hp) st) (λp hp st=>yn ok hm hw (n+3) (XX.mp hp) st) []
 rw[kJ];simp only[aq,aB,bU,bc,eQ,o9,aC,oz,aar,WQ,YU,Ys,YQ,WZ,Zb,Nat.reduceAdd,Nat.reduceSub,XW,WW,WT,Xc,ay,ae,Rn,f0,XA];show mv (callC Fs (n+5) 8) (List.mapM _ [P.d (nD (fst w m 0)),P.lf 23,P.lf 24]) []=_;rw[show List.mapM (conv [(23,[1,0]),(24,[0])] [Δ (P.d (mD m)),Δ (P.d (.pl ((WB m.length).map λs=>nD (fst w m s)))),Δ (P.lf 23)] 3) [P.d (nD (fst w m 0)),P.lf 23,P.lf 24]
  =Δ [.d (nD (fst w m 0)),.fn 23 [.d (.pl ((WB m.length).map λs=>nD (fst w m s))),.d (mD m)],.fn 24 [.d (mD m)]] from rfl]
 unfold mv;have e2':callC Fs (n+5) 8 [.d (nD (fst w m 0)),.fn 23 [.d (.pl ((WB m.length).map λs=>nD (fst w m s))),.d (mD m)],.fn 24 [.d (mD m)]] []=.ok (.d (mD (il (dX w m) (gd m) (places (dX w m) 1000000 (fst w m 0))))) []:=e2;simp only[e2',ae];rw[fX];rfl
end
theorem Er n ns(k:Nat)st:callC Fs (n+1) 11 [.gW ns,.d (.int k)] st=.ok (.d (.int (cell ns k))) st:=by
 refine call_of rm rfl (cV (p:=.d (.int (cell ns k))) (st:=[]) rfl ?_ rfl);by_cases h:k < ns.length
 ·have h1:(k:Int) < (ns.length:Int):=by lia
  have h2:mf ns (k:Int)=Δ (cell ns k):=cW (by unfold cell;rw[WN,WI h];rfl);exact bA (zT (st1:=[]) (by simp[aC,cN,h]) (bA (dS (by simp[aC,cN,h2]))))
 ·have h1:cell ns k=0:=by unfold cell;rw[WN,Xb (by lia)];rfl
  rw[h1];exact ag (w4 (st1:=[]) (by simp[aC,cN];lia) aG) (bA (dS (by simp)))
theorem B5 n ns(k:Nat)st:callC Fs (n+2) 12 [.gW ns,.d (.int k)] st=.ok (.d (.int (mixed ns k))) st:=by
 refine call_of vD rfl (cV (p:=.d (.int (mixed ns k))) (st:=[]) rfl ?_ rfl);obtain⟨m1,m2⟩:=bN ((cell ns k+7919*k+1)*48271) (show(0:Int) < 2147483647 by decide);have c1:∀z:Int,mF .mul 7919 z=Δ (7919*z):=λz=>fe (.inl (by decide));have c2:∀z:Int,mF .mul z 48271=Δ (z*48271):=λz=>fe (.inr (by decide));have c3:∀z:Int,mF .mul 7 z=Δ (7*z):=λz=>fe (.inl (by decide));refine ag (bp (v:=.d (.int (zY ns k))) (st1:=[]) (by simp[aC,fi,Er,c1,c2,ff,zY])) ?_;have b: -l6 < zY ns k/\zY ns k < l6:=by unfold l6 zY;lia
 exact bA (dS (by simp[aC,fi,fe,c3,ff,b,mixed]))
theorem B6 n x(k:Nat)st:callC Fs (n+1) 13 [.d (.int x),.d (.int k)] st=.ok (.d (.int (drawn x k))) st:=by
 refine call_of vE rfl (cV (p:=.d (.int (drawn x k))) (st:=[]) rfl ?_ rfl);obtain⟨m1,m2⟩:=bN ((x+104729*k+17)*69621) (show(0:Int) < 2147483647 by decide);have c1:∀z:Int,mF .mul 104729 z=Δ (104729*z):=λz=>fe (.inl (by decide));have c2:∀z:Int,mF .mul z 69621=Δ (z*69621):=λz=>fe (.inr (by decide));have c3:∀z:Int,mF .mul 3 z=Δ (3*z):=λz=>fe (.inl (by decide));refine ag (bp (v:=.d (.int (zZ x k))) (st1:=[]) (by simp[aC,fj,c1,c2,ff,zZ])) ?_;have b: -l6 < zZ x k/\zZ x k < l6:=by unfold l6 zZ;lia
 exact bA (dS (by simp[aC,fj,fe,c3,ff,b,drawn]))
theorem qJ n x(k:Nat)(hz:z=(k:Int))st:callC Fs (n+1) 13 [.d (.int x),.d (.int z)] st=.ok (.d (.int (drawn x k))) st:=by rw[hz];exact B6 n x k st
theorem i0 n ns(k:Nat)(hz:z=(k:Int))st:callC Fs (n+2) 12 [.gW ns,.d (.int z)] st=.ok (.d (.int (mixed ns k))) st:=by rw[hz];exact B5 n ns k st
theorem B7 n x(w c:Nat)(hw:w<=3)(hc:0 < c)(k:Nat)(h1:kg r 1=Δ (.d (.int (w:Int))))(hb:bH [3,0,5] r=[Δ (.d (.int (c:Int))),Δ (.d (.int x)),Δ (.d (.int (k:Int)))]):
  aV (callC Fs (n+1)) (.comp (.iJ [.var 1]) 1 [3,0,5] Θ (.op .mod (.call 13 [.var 2,.op .add (.op .mul (.cst (.int 7)) (.var 3)) (.var 0)]) (.var 1))) r st
   =.ok ((WB w).map λl=>.d (nD (drawn x (7*k+l) % (c:Int)).toNat)) st:=by
 have c1:∀z:Int,mF .mul 7 z=Δ (7*z):=λz=>fe (.inl (by decide));have c2:∀z:Int,mF .mod z (c:Int)=Δ (z % (c:Int)):=λz=>ff (by lia);refine cD (g:=λk:Nat=>P.d (.int (k:Int))) (f:=λl=>nD (drawn x (7*k+l) % (c:Int)).toNat) ?_ (by rw[Xa];unfold aw;lia) λl hl=>?_;·have h1':(r[1]?).join=Δ (.d (.int (w:Int))):=h1;exact fg (by rw[bc,h1',ay]) (by lia)
 ·rw[hb];have:=bN (drawn x (7*k+l)) (show(0:Int) < (c:Int) by lia);have e:=qJ n x (z:=7*(k:Int)+(l:Int)) (7*k+l) (by simp) st;have e2:((drawn x (7*k+l) % (c:Int)).toNat:Int)=drawn x (7*k+l) % (c:Int):=Int.toNat_of_nonneg this.1;simp only[nT,g9,aq,aB,bc,eQ,WW,WT,Xc,ay,ae,Rm,c1,JL,XA,e,c2,nD,e2]
theorem xf n x(w c:Nat)(hw:w<=3)(hc:0 < c)a:∀(ks:List Nat) (ys) (u v),ys.length+ks.length<=1000->
  ∃u' v',forL (jm (.nm 5)) (aj (callC Fs (n+1)) fY) (ks.map λk:Nat=>.d (.int (k:Int))) [Δ (.d (.int x)),Δ (.d (.int (w:Int))),a,Δ (.d (.int (c:Int))),Δ (.obj 0),u,v] [.lst (ys.map .d)]
   =.ok (.nx [Δ (.d (.int x)),Δ (.d (.int (w:Int))),a,Δ (.d (.int (c:Int))),Δ (.obj 0),u',v'])
    [.lst ((ys++ks.map λk=>gc ((drawn x (7*k+5) % 3 % 2).toNat,(WB w).map λl=>(drawn x (7*k+l) % (c:Int)).toNat)).map .d)]
 |[],ys,u,v,_=>⟨u,v,by simp[forL]⟩|k::ks,ys,u,v,hl=>by
  obtain⟨u',v',ih⟩:=xf n x w c hw hc a ks (ys++[gc ((drawn x (7*k+5) % 3 % 2).toNat,(WB w).map λl=>(drawn x (7*k+l) % (c:Int)).toNat)]) (Δ (.d (.int (k:Int)))) (Δ (.d (wD ((WB w).map λl=>(drawn x (7*k+l) % (c:Int)).toNat)))) (by simp at hl ⊢;lia);refine⟨u',v',?_⟩;have c1:∀z:Int,mF .mul 7 z=Δ (7*z):=λz=>fe (.inl (by decide));have c2:∀z:Int,mF .mod z 3=Δ (z % 3):=λz=>ff (by lia);have c3:∀z:Int,mF .mod z 2=Δ (z % 2):=λz=>ff (by lia);have e5:=λst=>qJ n x (z:=7*(k:Int)+5) (7*k+5) (by simp) st;have r5:=bN (drawn x (7*k+5) % 3) (show(0:Int) < 2 by decide);have es:aV (callC Fs (n+1)) (.comp (.iJ [.var 1]) 1 [3,0,5] Θ (.op .mod (.call 13 [.var 2,.op .add (.op .mul (.cst (.int 7)) (.var 3)) (.var 0)]) (.var 1))) [Δ (.d (.int x)),Δ (.d (.int (w:Int))),a,Δ (.d (.int (c:Int))),Δ (.obj 0),Δ (.d (.int (k:Int))),v] [.lst (ys.map .d)]
    =.ok ((WB w).map λl=>.d (nD (drawn x (7*k+l) % (c:Int)).toNat)) [.lst (ys.map .d)]:=B7 n x w c hw hc k rfl rfl
  have Oy:ys.length < aw:=by unfold aw;simp at hl;lia
  rw[WQ,forL,jm,ay,ae];have e:aj (callC Fs (n+1)) fY [Δ (.d (.int x)),Δ (.d (.int (w:Int))),a,Δ (.d (.int (c:Int))),Δ (.obj 0),Δ (.d (.int (k:Int))),v] [.lst (ys.map .d)]
    =.ok (.nx [Δ (.d (.int x)),Δ (.d (.int (w:Int))),a,Δ (.d (.int (c:Int))),Δ (.obj 0),Δ (.d (.int (k:Int))),Δ (.d (wD ((WB w).map λl=>(drawn x (7*k+l) % (c:Int)).toNat)))])
     [.lst ((ys++[gc ((drawn x (7*k+5) % 3 % 2).toNat,(WB w).map λl=>(drawn x (7*k+l) % (c:Int)).toNat)]).map .d)]:=by
   refine ag (bp (v:=.d (wD ((WB w).map λl=>(drawn x (7*k+l) % (c:Int)).toNat))) (st1:=[.lst (ys.map .d)]) ?_) ?_;·rw[b9,aq,cy,es];simp[wD,Xu]
   ·refine ag (my (x:=.obj 0) (v:=.d (gc ((drawn x (7*k+5) % 3 % 2).toNat,(WB w).map λl=>(drawn x (7*k+l) % (c:Int)).toNat))) (its:=ys.map .d) (st1:=[.lst (ys.map .d)]) (st2:=[.lst (ys.map .d)]) ?_ rfl ?_ ?_) aG;·simp
    ·simp[c1,c2,c3,e5,gc,nD,Int.toNat_of_nonneg r5.1,aw]
    ·simp[xK,Oy]
  rw[show([Δ (.d (.int x)),Δ (.d (.int (w:Int))),a,Δ (.d (.int (c:Int))),Δ (.obj 0),u,v]:cj).set 5 (Δ (.d (.int (k:Int))))=[Δ (.d (.int x)),Δ (.d (.int (w:Int))),a,Δ (.d (.int (c:Int))),Δ (.obj 0),Δ (.d (.int (k:Int))),v] from rfl,e,ae];dsimp only;rw[ih];simp
theorem Es n x(w:Nat)most(c:Nat)(hw:w<=3)(hm:0 < most)(hc:1+x % most=(c:Int))(hc1:c<=900)st:
  callC Fs (n+2) 15 [.d (.int x),.d (.int (w:Int)),.d (.int most)] st=.ok (.d (mD (HH x w c))) st:=by
 have hx:=bN x hm;have c1:∀z:Int,mF .mod z most=Δ (z % most):=λz=>ff hm;obtain⟨u',v',e⟩:=xf n x w c hw (by lia) (Δ (.d (.int most))) (WB c) [] Θ Θ (by simp;lia);refine call_of rn rfl (cV (p:=.d (mD (HH x w c))) (st:=[.lst (([]++(WB c).map λk=>gc ((drawn x (7*k+5) % 3 % 2).toNat,(WB w).map λl=>(drawn x (7*k+l) % (c:Int)).toNat)).map .d)]) rfl ?_ rfl);refine ag (bp (v:=.d (.int (c:Int))) (st1:=[]) (by simp[aC,cO,c1,hc])) ?_;refine ag (bp (v:=.obj 0) (st1:=[.lst []]) (by simp[aC,cO,aw])) ?_;refine ag (ij (ps:=(WB c).map λk:Nat=>.d (.int (k:Int))) (st1:=[.lst []]) (fg (by simp[aC,cO]) (by lia)) e) ?_;refine bA (dS ?_);simp[JQ,Rp,mD,HH,Xu]
theorem Et n(k:fF w m)u(hu:∀a∈u,a < w)st:callC Fs (n+1) 16 [.d (mD m),.d (wD u)] st=.ok (.d (.bl (jt m u))) st:=by refine call_of Au rfl (cV (p:=.d (.bl (jt m u))) (st:=[]) rfl ?_ rfl);obtain⟨y,e⟩:=w6 (C:=callC Fs n) (st:=[]) (r:=[Δ (.d (mD m)),Δ (.d (wD u)),Θ,Θ]) (iM:=0) (iS:=2) (iL:=3) k rfl (by decide) (by decide) (by decide) (by simp) (by simp) u 0 Θ k.ne hu;refine ag (bp (v:=.d (.int 0)) (st1:=[]) (by simp)) ?_;refine ag (ij (ps:=(u.map nD).map .d) (st1:=[]) (by simp[aC,jT,wD]) e) ?_;refine bA (dS ?_);rw[fT,C1 (m:=m) (s:=walk m 0 u) (k.walk k.ne hu) (by simp) (by simp)];simp[jt,Rr]
def l9(w:Nat):Nat:=[0,8,5,4].getD w 0
theorem si w:l9 w<=8:=by
 match w with|0=>decide|1=>decide|2=>decide|3=>decide|w+4=>simp[l9]
theorem eY(hw:w<=3)(hk:k<=8):(aX w k).length<=6561:=by
 rw[pU]
 calc w ^ k<=3 ^ k:=Nat.pow_le_pow_left hw k
  _<=3 ^ 8:=Nat.pow_le_pow_right (by decide) hk
  _=6561:=by decide
theorem jg(hw:w<=3):∀{k},k<=8->(bE w k).length<=(k+1)*6561
 |0,_=>by simp[bE,aX]|k+1,hk=>by
  have ih:=jg hw (k:=k) (by lia);have e:bE w (k+1)=bE w k++aX w (k+1):=by unfold bE;rw[XM (n:=k+1),XJ];simp
  rw[e,W1];have:=eY hw hk
  lia
theorem Hh{w:Nat}(hw:w<=3):mf [D.int 0,.int 8,.int 5,.int 4] (w:Int)=Δ (.int (l9 w:Nat)):=by
 rcases(by lia:w=0\/w=1\/w=2\/w=3) with h|h|h|h<;>subst h;·exact cW (k:=0) rfl
 ·exact cW (k:=1) rfl
 ·exact cW (k:=2) rfl
 ·exact cW (k:=3) rfl
theorem AA n{w:Nat}(hw:w<=3)st:callC Fs (n+1) 14 [.d (.int (w:Int))] st=.ok (.d (.pl ((bE w (l9 w)).map wD))) st:=by
 let r0 (F R:List (List Nat)) (y3 y4 y5:Option P):cj:=[Δ (.d (.int (w:Int))),Δ (.d (.pl (F.map wD))),Δ (.d (.pl (R.map wD))),y3,y4,y5]
 have top8:=si w;have fl:∀(l:List (List Nat)),(l.flatMap λu=>(WB w).map λa=>u++[a]).length=l.length*w:=λl=>by induction l with|nil=>simp|cons u l ih=>rw[Zk,W1,ih];simp[ZR,ab4]
 have Wi:∀(F R:List (List Nat)) (y3 y5:Option P),R.length<=6561->(∀u∈R,u.length<=100)->∃NP,forL (jm (.nm 5)) (aj (callC Fs n) iu) ((R.map wD).map .d) (r0 F R y3 (Δ (.d (.pl []))) y5) []=.ok (.nx (r0 F R y3 (Δ (.d (.pl ((R.flatMap λu=>(WB w).map λa=>u++[a]).map wD)))) NP)) []:=by
  intro F R y3 y5 hR hu;obtain⟨r',s',e,⟨NP,z1⟩,z2⟩:=cL (g:=jm (.nm 5)) (b:=aj (callC Fs n) iu) (ps:=(R.map wD).map .d) (k:=0) (r:=r0 F R y3 (Δ (.d (.pl []))) y5) (st:=[])
   (I:=λk r s=>(∃y5,r=r0 F R y3 (Δ (.d (.pl (((R.take k).flatMap λu=>(WB w).map λa=>u++[a]).map wD)))) y5)/\s=[])
   (λi p r s ⟨⟨y5,h1⟩,h2⟩ hp=>by
    rw[Xh] at h1 ⊢;subst h1 h2;rw[XR,WL] at hp;cases Hi:R[i]? with
    |none=>rw[Hi] at hp;cases hp|some u=>
     rw[Hi] at hp;cases hp;obtain⟨RE,_⟩:=qqz Hi;have RI:=hu u (W6 Hi);have Hf:R.take (i+1)=R.take i++[u]:=by rw[X2,Hi];rfl
     refine⟨_,r0 F R y3 (Δ (.d (.pl (((R.take (i+1)).flatMap λu=>(WB w).map λa=>u++[a]).map wD)))) (Δ (.d (wD u))),[],rfl,?_,⟨_,rfl⟩,rfl⟩;refine ag (bp (v:=.d (.pl (((R.take (i+1)).flatMap λu=>(WB w).map λa=>u++[a]).map wD))) (st1:=[]) ?_) aG;have eL:aV (callC Fs n) (.comp (.iJ [.var 0]) 1 [5] Θ (.op .add (.var 1) (.tup [.var 0]))) (r0 F R y3 (Δ (.d (.pl (((R.take i).flatMap λu=>(WB w).map λa=>u++[a]).map wD)))) (Δ (.d (wD u)))) []=.ok ((WB w).map λa=>P.d (wD (u++[a]))) []:=by
      refine cD (g:=λk:Nat=>P.d (.int (k:Int))) (f:=λa=>wD (u++[a])) (fg (by simp[r0]) (by lia)) (by rw[Xa];unfold aw;lia) λa ha=>?_;show aa _ (.op .add (.var 1) (.tup [.var 0])) [Δ (.d (.int (a:Int))),Δ (.d (wD u))] []=_;have h3:u.length<=16777215:=by lia
      simp[wD,nD,aw,h3]
     show aa _ (.op .add (.var 4) (.lst Ξ _)) (r0 F R y3 _ (Δ (.d (wD u)))) []=_;have e4:aa (callC Fs n) (.var 4) (r0 F R y3 (Δ (.d (.pl (((R.take i).flatMap λu=>(WB w).map λa=>u++[a]).map wD)))) (Δ (.d (wD u)))) []=.ok (.d (.pl (((R.take i).flatMap λu=>(WB w).map λa=>u++[a]).map wD))) []:=by simp[r0]
     rw[nT,e4,ae,cy,eL,ae,bF];have h4:((R.take i).flatMap λu=>(WB w).map λa=>u++[a]).length+w<=aw:=by
      rw[fl,YH];have:min i R.length*w<=6561*3:=Nat.mul_le_mul (by lia) hw;unfold aw
      lia
     simp only[bc,r0,WW,WT,Xc,ay,ae,KR,WJ,Xa];rw[if_pos h4,Hf,XJ];simp[Xu]) ⟨⟨y5,by simp⟩,rfl⟩
  subst z1 z2;rw[WJ,WJ,Xh,XE (WM _)] at e;exact⟨NP,e⟩
 obtain⟨r',s',e,⟨y3,y4,y5,z1⟩,z2⟩:=cL (g:=jm (.nm 3)) (b:=aj (callC Fs n) lh) (ps:=(WB (l9 w)).map λk:Nat=>P.d (.int (k:Int))) (k:=0) (r:=r0 [[]] [[]] Θ Θ Θ) (st:=[])
  (I:=λk r s=>(∃y3 y4 y5,r=r0 (bE w k) (aX w k) y3 y4 y5)/\s=[])
  (λi p r s ⟨⟨y3,y4,y5,h1⟩,h2⟩ hp=>by
   rw[Xh] at h1 ⊢;subst h1 h2;have hi:i < l9 w:=by
    rw[WL] at hp;by_cases z:i < l9 w;·exact z
    ·rw[Xb (by simpa using z)] at hp;cases hp
   rw[WL,Xr hi] at hp;cases hp;have e1:bE w (i+1)=bE w i++aX w (i+1):=by unfold bE;rw[XM (n:=i+1),XJ];simp
   obtain⟨NP,el⟩:=Wi (bE w i) (aX w i) (Δ (.d (.int (i:Int)))) y5 (eY hw (by lia)) (λu hu=>by rw[(di.mp hu).2];lia);refine⟨_,r0 (bE w (i+1)) (aX w (i+1)) (Δ (.d (.int (i:Int)))) (Δ (.d (.pl ((aX w (i+1)).map wD)))) NP,[],rfl,?_,⟨_,_,_,rfl⟩,rfl⟩;refine ag (bp (v:=.d (.pl [])) (st1:=[]) (by simp)) ?_;refine ag (ij (ps:=((aX w i).map wD).map .d) (st1:=[]) (by simp[r0]) el) ?_;refine ag (bp (v:=.d (.pl ((aX w (i+1)).map wD))) (st1:=[]) (by simp[r0,aX])) ?_;refine ag (bp (v:=.d (.pl ((bE w (i+1)).map wD))) (st1:=[]) ?_) aG;have l1:=eY (k:=i+1) hw (by lia);have l2:=jg (k:=i) hw (by lia);have l3:(bE w i).length+(aX w (i+1)).length<=aw:=by have:(i+1)*6561<=8*6561:=Zg _ (by lia);unfold aw;lia
   simp only[nT,bc,r0,aar,WW,WT,Xc,ay,ae,KR,WJ];rw[if_pos l3,e1,Xn];rfl) ⟨⟨Θ,Θ,Θ,rfl⟩,rfl⟩
 subst z1 z2;rw[WJ,Xa,Xh] at e;refine call_of vF rfl (cV (p:=.d (.pl ((bE w (l9 w)).map wD))) (st:=[]) rfl ?_ rfl);refine ag (bp (v:=.d (.pl [wD []])) (st1:=[]) (by simp[aC,dM,aw,wD])) ?_;refine ag (bp (v:=.d (.pl [wD []])) (st1:=[]) (by simp[aC,dM,aw,wD])) ?_;refine ag (ij (ps:=(WB (l9 w)).map λk:Nat=>P.d (.int (k:Int))) (st1:=[]) (fg ?_ (by lia)) e) ?_;·have:=Hh hw;simp[aC,dM,aw,this]
 ·exact bA (dS (by simp[r0]))
theorem AB(ok:fF w m)(hm:m.length<=100000)(hw:w<=1000)n st:callC Fs (n+7) 10 [.d (mD m)] st=.ok (.d (mD (iq w (k8 m)))) st:=by
 obtain⟨k,l,_⟩:=C7 ok;refine call_of vC rfl (cV (p:=.d (mD (iq w (k8 m)))) (st:=[]) rfl (bA (dS ?_)) rfl);have e:=B4 k (by lia) hw n [];have eL:aV (callC Fs (n+6)) (.comp (.ex (.var 0)) 1 [] Θ (.tup [.op .sub (.cst (.int 1)) (.ix (.var 0) (.cst (.int 0))),.ix (.var 0) (.cst (.int 1))])) [Δ (.d (mD m))] []=.ok (m.map λs=>P.d (gc (1 - s.1,s.2))) []:=by
  refine cD (g:=λs=>P.d (gc s)) (f:=λs=>gc (1 - s.1,s.2)) (xs:=m) (by simp[mD]) (by unfold aw;lia) λs hs=>?_;have h1:=ok.good s hs;have h2:(1:Int) - (s.1:Int)=((1 - s.1:Nat):Int):=by lia
  simp[bH,gc,nD,aw,JM,h2]
 have e2:aa (callC Fs (n+6)) (.bf .tuple [.lst Ξ (.comp (.ex (.var 0)) 1 [] Θ (.tup [.op .sub (.cst (.int 1)) (.ix (.var 0) (.cst (.int 0))),.ix (.var 0) (.cst (.int 1))]))]) [Δ (.d (mD m))] []=.ok (.d (mD (k8 m))) []:=by rw[b9,aq,cy,eL,ae,bF];simp[mD,k8,Xu]
 show aa (callC Fs (n+6)) _ [Δ (.d (mD m))] []=_;rw[g9,aq,e2,ae,aB];simp only[ae];exact e
theorem ints_map{α:Type}(f:α->Int):∀xs:List α,intsOf (xs.map λx=>P.d (.int (f x)))=Δ (xs.map f)
 |[]=>rfl|x::xs=>by show(intsOf (xs.map λx=>P.d (.int (f x)))).map _=_;rw[ints_map f xs];rfl
theorem J6{xs:List D}:uV .sum [.d (.pl xs)] st=(intsOf (xs.map .d)).map λns=>.d (.int ns.sum):=rfl
theorem J7{xs:List D}:uV .zi [.d (.pl xs)] st=(intsOf (xs.map .d)).bind λns=>(ns.max?).map λn=>.d (.int n):=rfl
noncomputable def iI(m:dU)(f:Nat->Int):D:=.pl ((WB m.length).map λs=>.int (f s))
theorem yo{m:dU}(f:Nat->Int)(h:s < m.length):mf ((WB m.length).map λs=>D.int (f s)) (s:Int)=Δ (.int (f s)):=cW (by rw[WL,Xr h];rfl)
theorem uK m:m=(WB m.length).map (row m):=by refine List.ext_getElem (by simp) λi h1 h2=>?_;simp[row,WN,h1]
theorem xg(ok:fF w m)(hw:w<=1000)C f(hs:s < m.length):
  aV C (.comp (.ex (.var 1)) 1 [0] Θ (.ix (.var 1) (.var 0))) [Δ (.d (iI m f)),Δ (.d (wD (row m s).2))] []=.ok ((row m s).2.map λt=>P.d (.int (f t))) []:=by
 have hl:=ok.len _ (bP hs);refine cD (g:=λt=>P.d (nD t)) (f:=λt=>.int (f t)) (xs:=(row m s).2) (by simp[wD]) (by rw[hl];unfold aw;lia) λt ht=>?_;have h:=yo f (ok.lt _ (bP hs) t ht);simp[bH,iI,nD,h]
theorem AD n(ok:fF w m)(hw:w<=1000)k(hs:s < m.length)st:callC Fs (n+1) 0 [.d (iI m (cE m k)),.d (wD (row m s).2)] st=.ok (.d (.int (cE m (k+1) s))) st:=by refine call_of El rfl (cV (p:=.d (.int (cE m (k+1) s))) (st:=[]) rfl (bA (dS ?_)) rfl);show aa (callC Fs n) _ [Δ (.d (iI m (cE m k))),Δ (.d (wD (row m s).2))] []=_;rw[b9,aq,cy,xg ok hw _ _ hs,ae,bF (λt=>D.int (cE m k t)),ay];simp only[ae,aB,J6,XR];rw[show(P.d∘λt=>D.int (cE m k t))=λt=>P.d (.int (cE m k t)) from rfl,ints_map];rfl
theorem xh C m(hm:m.length<=100000)(h0:r[0]?=Δ (Δ (.d (mD m)))):aV C (.comp (.ex (.var 0)) 1 [] Θ (.ix (.var 0) (.cst (.int 0)))) r st=.ok ((WB m.length).map λs=>P.d (.int ((gd m s:Nat):Int))) st:=by
 have e:aV C (.comp (.ex (.var 0)) 1 [] Θ (.ix (.var 0) (.cst (.int 0)))) r st=.ok (m.map λs=>P.d (.int ((s.1:Nat):Int))) st:=
  cD (g:=λs=>P.d (gc s)) (f:=λs=>.int ((s.1:Nat):Int)) (xs:=m) (by simp[h0,mD]) (by unfold aw;lia) λs hs=>by simp[bH,gc,nD]
 rw[e]
 conv=>lhs;rw[uK m,XR]
 rfl
theorem ng n(ok:fF w m)(hw:w<=1000)(hm:m.length<=100000)(size:Nat)(hz:size < 1000000)st:callC Fs (n+2) 1 [.d (mD m),.d (.int (size:Int))] st=.ok (.d (.int (cE m size 0))) st:=by
 let r0 (k:Nat) (y3:Option P):cj:=[Δ (.d (mD m)),Δ (.d (.int (size:Int))),Δ (.d (iI m (cE m k))),y3]
 obtain⟨r',s',e,⟨y3,z1⟩,z2⟩:=cL (g:=jm (.nm 3)) (b:=aj (callC Fs (n+1)) ox) (ps:=(WB size).map λk:Nat=>P.d (.int (k:Int))) (k:=0) (r:=r0 0 Θ) (st:=[])
  (I:=λk r s=>(∃y3,r=r0 k y3)/\s=[])
  (λi p r s ⟨⟨y3,h1⟩,h2⟩ hp=>by
   rw[Xh] at h1 ⊢;subst h1 h2;refine⟨_,r0 (i+1) (Δ p),[],rfl,?_,⟨_,rfl⟩,rfl⟩;refine ag (bp (v:=.d (iI m (cE m (i+1)))) (st1:=[]) ?_) aG;have eL:aV (callC Fs (n+1)) (.comp (.ex (.var 0)) 1 [2] Θ (.call 0 [.var 1,.ix (.var 0) (.cst (.int 1))])) ((r0 i y3).set 3 (Δ p)) []=.ok ((WB m.length).map λs=>P.d (.int (cE m (i+1) s))) []:=by
    refine cD (g:=λs=>P.d (gc (row m s))) (f:=λs=>.int (cE m (i+1) s)) (xs:=WB m.length) ?_ (by rw[Xa];unfold aw;lia) λs hs=>?_
    ·show bD _ (.ex (.var 0)) [Δ (.d (mD m)),_,_,_] []=_;have h3:(mD m)=.tup (((WB m.length).map (row m)).map gc):=by rw[<-uK m];rfl
     rw[h3];simp[Xu]
    ·have h:=AD n ok hw i (XX.mp hs) [];simp[bH,r0,gc,h]
   rw[cy,eL,ae,bF (λs=>D.int (cE m (i+1) s))];rfl) ⟨⟨Θ,rfl⟩,rfl⟩
 subst z1 z2;rw[WJ,Xa,Xh] at e;refine call_of Ar rfl (cV (p:=.d (.int (cE m size 0))) (st:=[]) rfl ?_ rfl);refine ag (bp (v:=.d (iI m (cE m 0))) (st1:=[]) ?_) ?_;·rw[cy,xh _ m hm rfl,ae,bF (λs=>D.int ((gd m s:Nat):Int))];rfl
 refine ag (ij (ps:=(WB size).map λk:Nat=>P.d (.int (k:Int))) (st1:=[]) (fg (by simp[aC,jR]) hz) e) ?_;have h:=yo (m:=m) (cE m size) ok.ne;have h':mf ((WB m.length).map λs=>D.int (cE m size s)) (0:Int)=Δ (.int (cE m size 0)):=h;exact bA (dS (by simp[r0,iI,h']))
def fu(m:dU)(k s:Nat):Int:=((fJ m k s:Nat):Int)
theorem xi:∀(l:List Nat) (a:Nat),(l.map λn:Nat=>(n:Int)).foldl max (a:Int)=((l.foldl max a:Nat):Int)
 |[],_=>rfl|x::l,a=>by rw[WQ,YR,YR,<-xi l (max a x)];exact congrArg (aaE max · _) (by lia)
theorem Hj(h:l≠[]):(l.map λn:Nat=>(n:Int)).max?=Δ ((l.foldl max 0:Nat):Int):=by cases l with|nil=>exact absurd rfl h|cons x l=>show Δ ((l.map λn:Nat=>(n:Int)).foldl max (x:Int))=_;rw[xi,YR,Nat.zero_max]
theorem Hk n(ok:fF w m)(h1:1<=w)(hw:w<=1000)k(hs:s < m.length)st:callC Fs (n+1) 2 [.d (iI m (fu m k)),.d (wD (row m s).2)] st=.ok (.d (.int (fu m (k+1) s))) st:=by
 refine call_of B2 rfl (cV (p:=.d (.int (fu m (k+1) s))) (st:=[]) rfl (bA (dS ?_)) rfl);show aa (callC Fs n) _ [Δ (.d (iI m (fu m k))),Δ (.d (wD (row m s).2))] []=_;rw[b9,aq,cy,xg ok hw _ _ hs,ae,bF (λt=>D.int (fu m k t)),ay];simp only[ae,aB,J7,XR];rw[show(P.d∘λt=>D.int (fu m k t))=λt=>P.d (.int (fu m k t)) from rfl,ints_map];have e:(row m s).2.map (fu m k)=((row m s).2.map (fJ m k)).map λn:Nat=>(n:Int):=by rw[XR];rfl
 rw[Yf,e,Hj (λz=>by
  have h2:=ok.len _ (bP hs);rw[List.map_eq_nil_iff] at z;rw[z] at h2;simp at h2
  lia)]
 rfl
def cF(m:dU)(k:Nat):List D:=(WB k).map λj=>iI m (fu m j)
theorem Hl n(ok:fF w m)(h1:1<=w)(hw:w<=1000)(hm:m.length<=100000)(size:Nat)(hz:size < 1000000)st:callC Fs (n+2) 3 [.d (mD m),.d (.int (size:Int))] st=.ok (.d (.pl (cF m (size+1)))) st:=by
 let r0 (y3:Option P):cj:=[Δ (.d (mD m)),Δ (.d (.int (size:Int))),Δ (.obj 0),y3]
 obtain⟨r',s',e,⟨y3,z1⟩,z2⟩:=cL (g:=jm (.nm 3)) (b:=aj (callC Fs (n+1)) iX) (ps:=(WB size).map λk:Nat=>P.d (.int (k:Int))) (k:=0) (r:=r0 Θ) (st:=[.lst ((cF m 1).map .d)])
  (I:=λk r s=>(∃y3,r=r0 y3)/\s=[.lst ((cF m (k+1)).map .d)])
  (λi p r s ⟨⟨y3,q1⟩,q2⟩ hp=>by
   rw[Xh] at q2 ⊢;subst q1 q2;have hi:i < size:=by
    rw[WL] at hp;by_cases z:i < size;·exact z
    ·rw[Xb (by simpa using z)] at hp;cases hp
   rw[WL,Xr hi] at hp;cases hp;refine⟨_,r0 (Δ (.d (.int (i:Int)))),[.lst ((cF m (i+1+1)).map .d)],rfl,?_,⟨_,rfl⟩,rfl⟩;have eL:aV (callC Fs (n+1)) (.comp (.ex (.var 0)) 1 [2,3] Θ (.call 2 [.ix (.var 1) (.var 2),.ix (.var 0) (.cst (.int 1))])) (r0 (Δ (.d (.int (i:Int))))) [.lst ((cF m (i+1)).map .d)]=.ok ((WB m.length).map λs=>P.d (.int (fu m (i+1) s))) [.lst ((cF m (i+1)).map .d)]:=by
    refine cD (g:=λs=>P.d (gc (row m s))) (f:=λs=>.int (fu m (i+1) s)) (xs:=WB m.length) ?_ (by rw[Xa];unfold aw;lia) λs hs=>?_
    ·show bD _ (.ex (.var 0)) [Δ (.d (mD m)),_,_,_] _=_;have h3:(mD m)=.tup (((WB m.length).map (row m)).map gc):=by rw[<-uK m];rfl
     rw[h3];simp[Xu]
    ·have h:=Hk n ok h1 hw i (XX.mp hs) [.lst ((cF m (i+1)).map .d)];have e3:BA (.obj 0) (.d (.int (i:Int))) [.lst ((cF m (i+1)).map .d)]=Δ (.d (iI m (fu m i))):=gG (xs:=(cF m (i+1)).map .d) rfl (by rw[cF,WL,WL,Xr (by lia)];rfl);show aa (callC Fs (n+1)) _ [Δ (.d (gc (row m s))),Δ (.obj 0),Δ (.d (.int (i:Int)))] _=_;simp[gc,h,e3]
   refine ag (my (x:=.obj 0) (v:=.d (iI m (fu m (i+1)))) (its:=(cF m (i+1)).map .d) (st1:=[.lst ((cF m (i+1)).map .d)]) (st2:=[.lst ((cF m (i+1)).map .d)]) (by simp[r0]) rfl ?_ ?_) aG;·rw[cy,show(r0 y3).set 3 (Δ (.d (.int (i:Int))))=r0 (Δ (.d (.int (i:Int)))) from rfl,eL,ae,bF (λs=>D.int (fu m (i+1) s))];rfl
   ·have Oy:(cF m (i+1)).length < aw:=by simp[cF,aw];lia
    have e4:cF m (i+1+1)=cF m (i+1)++[iI m (fu m (i+1))]:=by rw[cF,XM,Xn];rfl
    rw[e4];simp[xK,Oy]) ⟨⟨Θ,rfl⟩,rfl⟩
 subst z1 z2;rw[WJ,Xa,Xh] at e;refine call_of pY rfl (cV (p:=.obj 0) (st:=[.lst ((cF m (size+1)).map .d)]) rfl ?_ ?_)
 ·refine ag (bp (v:=.obj 0) (st1:=[.lst ((cF m 1).map .d)]) ?_) ?_
  ·have e5:aa (callC Fs (n+1)) (.lst Ξ (.comp (.ex (.var 0)) 1 [] Θ (.ix (.var 0) (.cst (.int 0))))) (aC cZ.nn [.d (mD m),.d (.int (size:Int))]) []=.ok (.d (iI m (fu m 0))) []:=by rw[cy,xh _ m hm rfl,ae,bF (λs=>D.int ((gd m s:Nat):Int))];rfl
   rw[gQ,fU,aq,e5,ae,aB];rfl
  refine ag (ij (ps:=(WB size).map λk:Nat=>P.d (.int (k:Int))) (st1:=[.lst ((cF m 1).map .d)]) (fg (by simp[aC,cZ]) hz) e) ?_;exact bA (dS (by simp[r0]))
 ·show(bw ((cF m (size+1)).map .d)).map D.pl=_;rw[fW];rfl
def nr(m:dU)(u:List Nat):D:=.tup [wD u,nD (walk m 0 u)]
def jy(w:Nat)(m:dU)(left:Nat)(u:List Nat):List (List Nat):=((WB w).filter λa=>fJ m left (bg m (walk m 0 u) a)==1).map λa=>u++[a]
theorem AE n(ok:fF w m)(hw:w<=1000)left(bs:List (List Nat))(hb:∀u∈bs,Wd w u/\u.length<=1000)(hl:bs.length*w<=1000000)st:
  callC Fs (n+1) 4 [.d (mD m),.d (.pl (bs.map (nr m))),.d (iI m (fu m left))] st=.ok (.d (.pl ((bs.flatMap (jy w m left)).map (nr m)))) st:=by
 let r0 (y4 y5 y6 y7:Option P):cj:=[Δ (.d (mD m)),Δ (.d (.pl (bs.map (nr m)))),Δ (.d (iI m (fu m left))),Δ (.obj 0),y4,y5,y6,y7]
 have inner:∀(acc:List D) (u:List Nat) (y6 y7:Option P),Wd w u->u.length<=1000->acc.length+w<=1000000->∃RO RP,forL (jm (.two 6 7)) (aj (callC Fs n) dj) (dk 0 ((row m (walk m 0 u)).2.map nD)) (r0 (Δ (.d (wD u))) (Δ (.d (nD (walk m 0 u)))) y6 y7) [.lst (acc.map .d)]
   =.ok (.nx (r0 (Δ (.d (wD u))) (Δ (.d (nD (walk m 0 u)))) RO RP)) [.lst ((acc++(jy w m left u).map (nr m)).map .d)]:=by
  intro acc u y6 y7 hu RI ha;have hs:=ok.walk ok.ne hu;have hlen:=ok.len _ (bP hs);obtain⟨r',s',e,⟨RO,RP,z1⟩,z2⟩:=cL (g:=jm (.two 6 7)) (b:=aj (callC Fs n) dj) (ps:=dk 0 ((row m (walk m 0 u)).2.map nD)) (k:=0) (r:=r0 (Δ (.d (wD u))) (Δ (.d (nD (walk m 0 u)))) y6 y7) (st:=[.lst (acc.map .d)])
   (I:=λk r s=>(∃y6 y7,r=r0 (Δ (.d (wD u))) (Δ (.d (nD (walk m 0 u)))) y6 y7)/\s=[.lst ((acc++((((WB k).filter λa=>fJ m left (bg m (walk m 0 u) a)==1).map λa=>u++[a]).map (nr m))).map .d)])
   (λi p r s ⟨⟨y6,y7,h1⟩,h2⟩ hp=>by
    rw[Xh] at h2 ⊢;subst h1 h2;rw[lS,ow ok hs,XR,WL] at hp;have hi:i < w:=by
     by_cases z:i < w;·exact z
     ·rw[Xb (by simpa using z)] at hp;cases hp
    rw[Xr hi] at hp;cases hp;have ht:=ok.bg hs hi;have Wj:=yo (m:=m) (fu m left) ht;have hd:fJ m left (bg m (walk m 0 u) i)=0\/fJ m left (bg m (walk m 0 u) i)=1:=by have:=yi ok left ht;lia
    have ec:aa (callC Fs n) (.cmp .eq (.ix (.var 2) (.var 7)) (.cst (.int 1))) (r0 (Δ (.d (wD u))) (Δ (.d (nD (walk m 0 u)))) (Δ (.d (.int (i:Int)))) (Δ (.d (nD (bg m (walk m 0 u) i))))) [.lst ((acc++((((WB i).filter λa=>fJ m left (bg m (walk m 0 u) a)==1).map λa=>u++[a]).map (nr m))).map .d)]=.ok (.d (.bl (fJ m left (bg m (walk m 0 u) i)==1))) [.lst ((acc++((((WB i).filter λa=>fJ m left (bg m (walk m 0 u) a)==1).map λa=>u++[a]).map (nr m))).map .d)]:=by simp[r0,iI,nD,Wj];simp[fu,Rr]
    refine⟨r0 (Δ (.d (wD u))) (Δ (.d (nD (walk m 0 u)))) (Δ (.d (.int (i:Int)))) (Δ (.d (nD (bg m (walk m 0 u) i)))),r0 (Δ (.d (wD u))) (Δ (.d (nD (walk m 0 u)))) (Δ (.d (.int (i:Int)))) (Δ (.d (nD (bg m (walk m 0 u) i)))),[.lst ((acc++((((WB (i+1)).filter λa=>fJ m left (bg m (walk m 0 u) a)==1).map λa=>u++[a]).map (nr m))).map .d)],by simp[jm,r0,nD],?_,⟨_,_,rfl⟩,rfl⟩;rw[XM,X8];rcases hd with h|h;·rw[h] at ec;refine ag (w4 ec aG) ?_;rw[aG];simp[h]
    ·rw[h] at ec;refine ag (zT ec (ag (my (x:=.obj 0) (v:=.d (nr m (u++[i]))) (its:=(acc++((((WB i).filter λa=>fJ m left (bg m (walk m 0 u) a)==1).map λa=>u++[a]).map (nr m))).map .d) (st1:=[.lst ((acc++((((WB i).filter λa=>fJ m left (bg m (walk m 0 u) a)==1).map λa=>u++[a]).map (nr m))).map .d)]) (st2:=[.lst ((acc++((((WB i).filter λa=>fJ m left (bg m (walk m 0 u) a)==1).map λa=>u++[a]).map (nr m))).map .d)]) (by simp[r0]) rfl ?_ (gR (xs:=((acc++((((WB i).filter λa=>fJ m left (bg m (walk m 0 u) a)==1).map λa=>u++[a]).map (nr m))).map .d)) rfl ?_)) aG)) ?_
     ·have h3:u.length<=16777215:=by lia
      have e6:walk m 0 (u++[i])=bg m (walk m 0 u) i:=pW m 0 u i;simp[r0,wD,nD,nr,aw,h3,e6]
     ·rw[WJ,W1,WJ,WJ];have:=XG (λa=>fJ m left (bg m (walk m 0 u) a)==1) (WB i);rw[Xa] at this;unfold aw
      lia
     ·rw[aG];simp[h]) ⟨⟨y6,y7,rfl⟩,by simp⟩
  subst z1 z2;rw[lU,WJ,hlen,Xh] at e;exact⟨RO,RP,e⟩
 have nl:∀u,(jy w m left u).length<=w:=λu=>by unfold jy;rw[WJ];have:=XG (λa=>fJ m left (bg m (walk m 0 u) a)==1) (WB w);rwa [Xa] at this
 have fl:∀l:List (List Nat),(l.flatMap (jy w m left)).length<=l.length*w:=λl=>by induction l with|nil=>simp|cons u l ih=>rw[Zk,W1,WZ,ZR];have:=nl u;lia
 obtain⟨r',s',e,⟨y4,y5,y6,y7,z1⟩,z2⟩:=cL (g:=jm (.two 4 5)) (b:=aj (callC Fs n) fP) (ps:=(bs.map (nr m)).map .d) (k:=0) (r:=r0 Θ Θ Θ Θ) (st:=[.lst []])
  (I:=λk r s=>(∃y4 y5 y6 y7,r=r0 y4 y5 y6 y7)/\s=[.lst ((((bs.take k).flatMap (jy w m left)).map (nr m)).map .d)])
  (λi p r s ⟨⟨y4,y5,y6,y7,h1⟩,h2⟩ hp=>by
   rw[Xh] at h2 ⊢;subst h1 h2;rw[XR,WL] at hp;cases Hi:bs[i]? with
   |none=>rw[Hi] at hp;cases hp|some u=>
    rw[Hi] at hp;cases hp;obtain⟨hu,RI⟩:=hb u (W6 Hi);obtain⟨RE,_⟩:=qqz Hi;have hs:=ok.walk ok.ne hu;have Hf:bs.take (i+1)=bs.take i++[u]:=by rw[X2,Hi];rfl
    have Ox:(((bs.take i).flatMap (jy w m left)).map (nr m)).length+w<=1000000:=by
     rw[WJ];have h3:=fl (bs.take i);have h4:(bs.take i).length*w+w<=bs.length*w:=by rw[<-ZR];refine Zg _ ?_;rw[YH];lia
     lia
    obtain⟨RO,RP,el⟩:=inner (((bs.take i).flatMap (jy w m left)).map (nr m)) u y6 y7 hu RI Ox;refine⟨r0 (Δ (.d (wD u))) (Δ (.d (nD (walk m 0 u)))) y6 y7,r0 (Δ (.d (wD u))) (Δ (.d (nD (walk m 0 u)))) RO RP,[.lst ((((bs.take (i+1)).flatMap (jy w m left)).map (nr m)).map .d)],by simp[jm,r0,nr],?_,⟨_,_,_,_,rfl⟩,rfl⟩;rw[Hf,XJ,Xn,aas];refine ag (ij (ps:=dk 0 ((row m (walk m 0 u)).2.map nD)) (st1:=[.lst ((((bs.take i).flatMap (jy w m left)).map (nr m)).map .d)]) ?_ el) aG;have Wj:=G3 hs;simp[r0,mD,nD,Wj,gc,wD]) ⟨⟨Θ,Θ,Θ,Θ,rfl⟩,by simp⟩
 subst z1 z2;rw[WJ,WJ,Xh,XE (WM _)] at e;refine call_of lj rfl (cV (p:=.obj 0) (st:=[.lst (((bs.flatMap (jy w m left)).map (nr m)).map .d)]) rfl ?_ ?_);·refine ag (bp (v:=.obj 0) (st1:=[.lst []]) (by simp)) ?_;refine ag (ij (ps:=(bs.map (nr m)).map .d) (st1:=[.lst []]) (by simp[aC,cJ]) e) ?_;exact bA (dS (by simp[r0]))
 ·show(bw (((bs.flatMap (jy w m left)).map (nr m)).map .d)).map D.pl=_;rw[fW];rfl
theorem xI{s:Nat}(h:s < 1000000):zk [.d (.int ((s:Int) - 1)),.d (.int (-1)),.d (.int (-1))]=Δ ((WB s).map λk:Nat=>.d (.int ((s:Int) - 1 - (k:Int)))):=by show(if(-1:Int)= -1/\ -gD<=(s:Int) - 1/\(s:Int) - 1 < gD/\ -gD<=(-1:Int)/\(-1:Int) < gD then Δ (Mo ((s:Int) - 1) (-1)) else Θ)=_;rw[if_pos ⟨rfl,by unfold gD;lia,by unfold gD;lia,by decide,by decide⟩];unfold Mo;rw[show((s:Int) - 1 - (-1)).toNat=s by lia]
theorem NU i:mF .sub i 1=Δ (i - 1):=rfl
theorem Eu(hw:w<=3)(hj:j<=8):(k9 w m left j).length<=6561:=Xo (XG _ _) (eY hw hj)
theorem B8 n(ok:fF w m)(h1:1<=w)(hw:w<=3)(hm:m.length<=100000)(size:Nat)(hz:size<=8)st:callC Fs (n+3) 5 [.d (mD m),.d (.int (size:Int))] st=.ok (.d (.tup (((aX w size).filter (jt m)).map wD))) st:=by
 let r0 (j:Nat) (y4:Option P):cj:=[Δ (.d (mD m)),Δ (.d (.int (size:Int))),Δ (.d (.pl (cF m (size+1)))),Δ (.d (.pl ((k9 w m (size - j) j).map (nr m)))),y4]
 obtain⟨r',s',e,⟨y4,z1⟩,z2⟩:=cL (g:=jm (.nm 4)) (b:=aj (callC Fs (n+2)) oy) (ps:=(WB size).map λk:Nat=>P.d (.int ((size:Int) - 1 - (k:Int)))) (k:=0) (r:=r0 0 Θ) (st:=[])
  (I:=λk r s=>(∃y4,r=r0 k y4)/\s=[])
  (λi p r s ⟨⟨y4,q1⟩,q2⟩ hp=>by
   rw[Xh] at q1 ⊢;subst q1 q2;have hi:i < size:=by
    rw[WL] at hp;by_cases z:i < size;·exact z
    ·rw[Xb (by simpa using z)] at hp;cases hp
   rw[WL,Xr hi] at hp;cases hp;have el:(size:Int) - 1 - (i:Int)=((size - (i+1):Nat):Int):=by lia
   dsimp only;rw[el];refine⟨_,r0 (i+1) (Δ (.d (.int ((size - (i+1):Nat):Int)))),[],rfl,?_,⟨_,rfl⟩,rfl⟩;have hA:∀u∈k9 w m (size - i) i,Wd w u/\u.length<=1000:=λu hu=>by have q:=di.mp (Yd.mp hu).1;exact⟨q.1,by lia⟩
   have hB:(k9 w m (size - i) i).length*w<=1000000:=by
    have h3:=Eu (m:=m) (left:=size - i) hw (show i<=8 by lia);have h4:(k9 w m (size - i) i).length*w<=6561*3:=Nat.mul_le_mul h3 hw
    lia
   have e1:=AE (n+1) ok (by lia) (size - (i+1)) (k9 w m (size - i) i) hA hB [];have e2:(k9 w m (size - i) i).flatMap (jy w m (size - (i+1)))=k9 w m (size - (i+1)) (i+1):=by rw[Hb ok,show size - (i+1)+1=size - i by lia];rfl
   rw[e2] at e1;have e3:mf (cF m (size+1)) ((size - (i+1):Nat):Int)=Δ (iI m (fu m (size - (i+1)))):=cW (by rw[cF,WL,Xr (by lia)];rfl);exact ag (bp (v:=.d (.pl ((k9 w m (size - (i+1)) (i+1)).map (nr m)))) (st1:=[]) (by simp[r0,e3,e1])) aG) ⟨⟨Θ,rfl⟩,rfl⟩
 subst z1 z2;rw[WJ,Xa,Xh] at e;have eb:k9 w m (size - size) size=(aX w size).filter (jt m):=by unfold k9 jt;rw[Nat.sub_self];rfl
 rw[Nat.sub_self] at eb;refine call_of As rfl (cV (p:=.d (.tup (((aX w size).filter (jt m)).map wD))) (st:=[]) rfl ?_ rfl);have e1:=Hl n ok h1 (by lia) hm size (by lia) [];refine ag (bp (v:=.d (.pl (cF m (size+1)))) (st1:=[]) (by simp[aC,eJ,e1])) ?_;refine ag (bp (v:=.d (.pl ((k9 w m size 0).map (nr m)))) (st1:=[]) ?_) ?_
 ·have e3:mf (cF m (size+1)) (size:Int)=Δ (iI m (fu m size)):=cW (by rw[cF,WL,Xr (by lia)];rfl);have e4:mf ((WB m.length).map λs=>D.int (fu m size s)) (0:Int)=Δ (.int (fu m size 0)):=yo (m:=m) (fu m size) ok.ne;have hd:fJ m size 0=0\/fJ m size 0=1:=by have:=yi ok size ok.ne;lia
  have e5:k9 w m size 0=if fJ m size 0==1 then[[]] else[]:=by unfold k9;rw[aX,Y2];rfl
  rcases hd with h|h
  ·have e6:fu m size 0=0:=by unfold fu;rw[h];rfl
   rw[e5,h];simp[aC,eJ,e3,iI,e4,e6,aw]
  ·have e6:fu m size 0=1:=by unfold fu;rw[h];rfl
   rw[e5,h];simp[aC,eJ,e3,iI,e4,e6,aw,nr,wD,nD,walk]
 refine ag (ij (ps:=(WB size).map λk:Nat=>P.d (.int ((size:Int) - 1 - (k:Int)))) (st1:=[]) ?_ e) ?_;·have h:=xI (s:=size) (by lia);simp[aC,eJ,NU,h]
 refine bA (dS ?_);have eL:aV (callC Fs (n+2)) (.kD (.ex (.var 3)) [] Θ (.var 0)) (r0 size y4) []=.ok (((aX w size).filter (jt m)).map λu=>P.d (wD u)) []:=by
  rw[qw,show bD (callC Fs (n+2)) (.ex (.var 3)) (r0 size y4) []=.ok (((aX w size).filter (jt m)).map λu=>P.d (nr m u)) [] by simp[r0,eb,Xu],ae,if_pos];·exact jN (λx _=>rfl) λx _=>by simp[Qf,nr,bH]
  ·refine⟨?_,?_⟩;·rw[List.all_map,Zv];exact λ_ _=>rfl
   rw[WJ];have:=Xo (XG (jt m) _) (eY hw hz);unfold aw
   lia
 show aa (callC Fs (n+2)) _ (r0 size y4) []=_;rw[b9,aq,cy,eL,ae,bF wD];simp
theorem uL{α:Type}{G:P->cj}{g:α->P}{f:α->D}{p:α->Bool}:∀{xs:List α},(∀x∈xs,c (G (g x)) st=.ok (p x) st)->(∀x∈xs,e (G (g x)) st=.ok (.d (f x)) st)->
  cx G c e (xs.map g) st=.ok ((xs.filter p).map λx=>.d (f x)) st
 |[],_,_=>rfl|x::xs,h,k=>by have ih:=uL (G:=G) (c:=c) (e:=e) (st:=st) (g:=g) (f:=f) (p:=p) (xs:=xs) (λy hy=>h y (WE _ hy)) λy hy=>k y (WE _ hy);simp only[WQ];rw[hU,h x WG,ae];cases hp:p x with|true=>rw[if_pos rfl,k x WG,ae,ih,ae,X5 hp,WQ]|false=>rw[if_neg (by simp),ih,Yr (by simp[hp])]
theorem Dd:∀us:List (List Nat),zj (us.map λu=>P.d (wD u))=Δ (us.map iL)
 |[]=>rfl|u::us=>by show(intsOf ((u.map nD).map P.d)).bind (λt=>(zj (us.map λu=>P.d (wD u))).map λts=>t::ts)=_;rw[C6,Dd us];rfl
theorem J8{us:List (List Nat)}(h:sT (us.map iL)=Λ)(hl:us.length<=100000):sU (us.map λu=>P.d (wD u))=Δ (us.map λu=>P.d (wD u)):=by unfold sU;rw[Dd,Yf,if_pos ⟨h,by rwa [WJ]⟩]
theorem Hm ns(hl:ns.length<=63):callC Fs 60 17 [.gW ns] []=.ok (.d (.bl Λ)) []:=by
 obtain⟨w,hw⟩:∃w:Nat,1+mixed ns 0 % 3=(w:Int):=⟨(1+mixed ns 0 % 3).toNat,by have:=bN (mixed ns 0) (show(0:Int) < 3 by decide);lia⟩;have w1:1<=w/\w<=3:=by have:=bN (mixed ns 0) (show(0:Int) < 3 by decide);lia
 obtain⟨c,hc⟩:∃c:Nat,1+mixed ns 1 % 6=(c:Int):=⟨(1+mixed ns 1 % 6).toNat,by have:=bN (mixed ns 1) (show(0:Int) < 6 by decide);lia⟩;have c1:1<=c/\c<=6:=by have:=bN (mixed ns 1) (show(0:Int) < 6 by decide);lia
 have tp:(0:Int) < (l9 w:Int)+1:=by lia
 obtain⟨z,hz⟩:∃z:Nat,mixed ns 2 % ((l9 w:Int)+1)=(z:Int):=⟨(mixed ns 2 % ((l9 w:Int)+1)).toNat,by have:=bN (mixed ns 2) tp;lia⟩;have z1:z<=l9 w:=by have:=bN (mixed ns 2) tp;lia
 have z8:z<=8:=Xo z1 (si w);obtain⟨g,hg⟩:∃g:Nat,mixed ns 3 % 201=(g:Int):=⟨(mixed ns 3 % 201).toNat,by have:=bN (mixed ns 3) (show(0:Int) < 201 by decide);lia⟩;have g1:g<=200:=by have:=bN (mixed ns 3) (show(0:Int) < 201 by decide);lia
 obtain⟨m,em⟩:∃m,m=HH (mixed ns 1) w c:=⟨_,rfl⟩;have ok:fF w m:=em▸NI _ _ (by lia);have ml:m.length=c:=em▸JT _ _ _;have eM:∀st,callC Fs 59 15 [.d (.int (mixed ns 1)),.d (.int (w:Int)),.d (.int 6)] st=.ok (.d (mD m)) st:=λst=>em▸Es 57 (mixed ns 1) w 6 c w1.2 (by decide) hc (by lia) st;have eX0:∀st,callC Fs 59 12 [.gW ns,.d (.int 0)] st=.ok (.d (.int (mixed ns 0))) st:=λst=>i0 57 ns 0 rfl st;have eX1:∀st,callC Fs 59 12 [.gW ns,.d (.int 1)] st=.ok (.d (.int (mixed ns 1))) st:=λst=>i0 57 ns 1 rfl st;have eX2:∀st,callC Fs 59 12 [.gW ns,.d (.int 2)] st=.ok (.d (.int (mixed ns 2))) st:=λst=>i0 57 ns 2 rfl st;have eX3:∀st,callC Fs 59 12 [.gW ns,.d (.int 3)] st=.ok (.d (.int (mixed ns 3))) st:=λst=>i0 57 ns 3 rfl st;obtain⟨kt,lt,stt⟩:=C7 ok;obtain⟨T,eT⟩:∃T,T=iq w (k8 m):=⟨_,rfl⟩;have lT:KS w T/\lV w T 0 (k8 m) 0/\T.length<=100:=eT▸⟨(ot kt (by lia)).1,(ot kt (by lia)).2,by have:=BY kt (by lia);lia⟩;have pT:∀st,callC Fs 59 10 [.d (mD m)] st=.ok (.d (mD T)) st:=λst=>eT▸AB ok (by lia) (by lia) 52 st;have gT:∀u,Wd w u->jt T u=!jt m u:=λu hu=>by have h1:=lT.2.1 u hu;rw[stt u hu] at h1;unfold jt;rw[h1];have h2:=ok.good _ (bP (ok.walk ok.ne hu));rcases(by unfold gd;lia:gd m (walk m 0 u)=0\/gd m (walk m 0 u)=1) with q|q<;>simp[q]
 obtain⟨pw,ep⟩:∃pw:Nat->Int,∀k,pw k=((w ^ k:Nat):Int):=⟨_,λ_=>rfl⟩;have ep0:pw 0=1:=by rw[ep];rfl
 have eps:∀i,mF .mul (pw i) (w:Int)=Δ (pw (i+1)):=λi=>by rw[fe (.inr ⟨by unfold l6;lia,by unfold l6;lia⟩),ep,ep,Nat.pow_succ,Int.natCast_mul]
 obtain⟨o1,o2,o3⟩:=J1 ok lT.1.ok gT g;rw[<-ep] at o1 o3;clear ep;have eW:=AA 58 w1.2 [];have eC:∀st,callC Fs 59 1 [.d (mD m),.d (.int (z:Int))] st=.ok (.d (.int (cE m z 0))) st:=λst=>ng 57 ok (by lia) (by lia) z (by lia) st;have eG:∀st,callC Fs 59 1 [.d (mD m),.d (.int (g:Int))] st=.ok (.d (.int (cE m g 0))) st:=λst=>ng 57 ok (by lia) (by lia) g (by lia) st;have eR:∀st,callC Fs 59 1 [.d (mD T),.d (.int (g:Int))] st=.ok (.d (.int (cE T g 0))) st:=λst=>ng 57 lT.1.ok (by lia) (by lia) g (by lia) st;have eO:∀st,callC Fs 59 5 [.d (mD m),.d (.int (z:Int))] st=.ok (.d (.tup (((aX w z).filter (jt m)).map wD))) st:=λst=>B8 56 ok w1.1 w1.2 (by lia) z z8 st;obtain⟨p5,ed⟩:∃p5,p5=(aX w z).filter (jt m):=⟨_,rfl⟩;have dl:p5.length<=6561:=ed▸Xo (XG _ _) (eY w1.2 z8);have ec:cE m z 0=(p5.length:Int):=by rw[yh ok z ok.ne,ed];rfl
 have ea:sT (p5.map iL)=Λ:=ed▸Hd w z (jt m);have es:=J8 ea (by lia);rw[<-ed] at eO
 let r0 (y3 y4 y5 y6 y7 y8 y9:Option P):cj:=[Δ (.gW ns),Δ (.d (.int (w:Int))),Δ (.d (mD m)),y3,y4,y5,y6,y7,y8,y9]
 have eD:∀y4 y5 y6 y7 y8 y9,aV (callC Fs 59) (.comp (.ex (.call 14 [.var 1])) 1 [3,2] (Δ (.and [.cmp .eq (.bf .len [.var 0]) (.var 1),.call 16 [.var 2,.var 0]])) (.var 0)) (r0 (Δ (.d (.int (z:Int)))) y4 y5 y6 y7 y8 y9) []=.ok (p5.map λu=>P.d (wD u)) []:=λy4 y5 y6 y7 y8 y9=>by
  have hu:=jg w1.2 (si w);rw[jL,show bD (callC Fs 59) (.ex (.call 14 [.var 1])) (r0 (Δ (.d (.int (z:Int)))) y4 y5 y6 y7 y8 y9) []=.ok ((bE w (l9 w)).map λu=>P.d (wD u)) [] by simp[r0,eW,Xu],ae,if_pos]
  ·rw[ed,<-B1 (jt m) z1];refine uL (λu hu=>?_) λu _=>by simp
   have h:=Et 58 ok u (B0 hu) [];have hb:((u.length:Int)==(z:Int))=(u.length==z):=by rw[abA];simp;lia
   have h':callC Fs 59 16 [.d (mD m),.d (.tup (u.map nD))] []=.ok (.d (.bl (jt m u))) []:=h;rw[tw];show(aa (callC Fs 59) _ [Δ (.d (wD u)),Δ (.d (.int (z:Int))),Δ (.d (mD m))] []).bind _=_;by_cases q:u.length=z;·simp[wD,h',q]
   ·simp[wD,q,show ¬(u.length:Int)=(z:Int) from λy=>q (by lia)]
  ·refine⟨rfl,?_⟩;rw[WJ];have:(l9 w+1)*6561<=9*6561:=Zg _ (by have:=si w;lia);unfold aw
   lia
 obtain⟨r8,s8,e8,⟨y8,q8⟩,q9⟩:=cL (g:=jm (.nm 8)) (b:=aj (callC Fs 59) C9) (ps:=(WB g).map λk:Nat=>P.d (.int (k:Int))) (k:=0) (r:=r0 (Δ (.d (.int (z:Int)))) (Δ (.d (.pl (p5.map wD)))) (Δ (.d (.int (cE m z 0)))) (Δ (.d (.int (g:Int)))) (Δ (.d (.int 1))) Θ Θ) (st:=[])
  (I:=λk r s=>(∃y8,r=r0 (Δ (.d (.int (z:Int)))) (Δ (.d (.pl (p5.map wD)))) (Δ (.d (.int (cE m z 0)))) (Δ (.d (.int (g:Int)))) (Δ (.d (.int (pw k)))) y8 Θ)/\s=[])
  (λi p r s ⟨⟨y8,h1⟩,h2⟩ hp=>by rw[Xh] at h1 ⊢;subst h1 h2;refine⟨_,r0 (Δ (.d (.int (z:Int)))) (Δ (.d (.pl (p5.map wD)))) (Δ (.d (.int (cE m z 0)))) (Δ (.d (.int (g:Int)))) (Δ (.d (.int (pw (i+1))))) (Δ p) Θ,[],rfl,?_,⟨_,rfl⟩,rfl⟩;exact ag (bp (v:=.d (.int (pw (i+1)))) (st1:=[]) (by simp[r0,eps])) aG) ⟨⟨Θ,by rw[ep0]⟩,rfl⟩
 subst q8 q9;rw[WJ,Xa,Xh] at e8;refine call_of NO rfl (cV (p:=.d (.bl Λ)) (st:=[]) rfl ?_ rfl);have c3:mF .mod (mixed ns 0) 3=Δ (mixed ns 0 % 3):=ff (by decide);have c4:mF .mod (mixed ns 2) ((l9 w:Int)+1)=Δ (z:Int):=by rw[ff tp,hz]
 have c5:mF .mod (mixed ns 3) 201=Δ (g:Int):=by rw[ff (by decide),hg]
 refine ag (bp (v:=.d (.int (w:Int))) (st1:=[]) (by simp[aC,oA,eX0,c3,hw])) ?_;refine ag (bp (v:=.d (mD m)) (st1:=[]) (by simp[aC,oA,eX1,eM])) ?_;refine ag (bp (v:=.d (.int (z:Int))) (st1:=[]) ?_) ?_;·have:=Hh w1.2;simp only[aC,oA,nT,g9,aq,aB,bc,eQ,WQ,YU,Ys,YQ,XW,aar,WW,WT,Xc,ay,ae,eX2];simp[aw,this,c4]
 refine ag (bp (v:=.d (.pl (p5.map wD))) (st1:=[]) ?_) ?_;·show aa (callC Fs 59) _ (r0 (Δ (.d (.int (z:Int)))) Θ Θ Θ Θ Θ Θ) []=_;rw[cy,eD,ae,bF wD];rfl
 refine ag (bp (v:=.d (.int (cE m z 0))) (st1:=[]) (by simp[aC,oA,eC])) ?_;refine ag (w4 (st1:=[]) ?_ aG) ?_
 ·show aa (callC Fs 59) _ (r0 (Δ (.d (.int (z:Int)))) (Δ (.d (.pl (p5.map wD)))) (Δ (.d (.int (cE m z 0)))) Θ Θ Θ Θ) []=_;have e1:aa (callC Fs 59) (.bf .tuple [.lst Ξ (.sorted (.var 4))]) (r0 (Δ (.d (.int (z:Int)))) (Δ (.d (.pl (p5.map wD)))) (Δ (.d (.int (cE m z 0)))) Θ Θ Θ Θ) []=.ok (.d (.tup (p5.map wD))) []:=by
   rw[b9,aq,cy,nV,show aa (callC Fs 59) (.var 4) (r0 (Δ (.d (.int (z:Int)))) (Δ (.d (.pl (p5.map wD)))) (Δ (.d (.int (cE m z 0)))) Θ Θ Θ Θ) []=.ok (.d (.pl (p5.map wD))) [] by simp[r0],ae];have e2:(bM [] (.d (.pl (p5.map wD)))).bind sU=Δ (p5.map λu=>P.d (wD u)):=by show sU ((p5.map wD).map P.d)=_;rw[XR];exact es
   rw[e2,ay,ae,bF wD];simp
  have dep:mM (.tup (p5.map wD))<=100:=by
   have h:∀us:List (List Nat),kF (us.map wD)<=1:=λus=>by induction us with|nil=>simp[kF]|cons u us ih=>rw[WQ,Cv];have:=NM u;lia
   rw[FZ];have:=h p5
   lia
  have e3:uU (.tup (p5.map wD)) (.tup (p5.map wD))=Δ Λ:=by unfold uU;rw[if_pos (by lia),Am]
  rw[nU,gX,show aa (callC Fs 59) (.KD (.var 5) "bool") (r0 (Δ (.d (.int (z:Int)))) (Δ (.d (.pl (p5.map wD)))) (Δ (.d (.int (cE m z 0)))) Θ Θ Θ Θ) []=.ok (.d (.bl Ξ)) [] by simp[r0];rfl,ae];dsimp only;rw[if_neg (by simp),gX,show aa (callC Fs 59) (.cmp .ne (.var 5) (.bf .len [.var 4])) (r0 (Δ (.d (.int (z:Int)))) (Δ (.d (.pl (p5.map wD)))) (Δ (.d (.int (cE m z 0)))) Θ Θ Θ Θ) []=.ok (.d (.bl Ξ)) [] by simp[r0,ec],ae];dsimp only;rw[if_neg (by simp),wu,fT,show aa (callC Fs 59) (.call 5 [.var 2,.var 3]) (r0 (Δ (.d (.int (z:Int)))) (Δ (.d (.pl (p5.map wD)))) (Δ (.d (.int (cE m z 0)))) Θ Θ Θ Θ) []=.ok (.d (.tup (p5.map wD))) [] by simp[r0,eO],ae,e1,ae];simp[e3]
 refine ag (bp (v:=.d (.int (g:Int))) (st1:=[]) (by simp[aC,oA,eX3,c5])) ?_;refine ag (bp (v:=.d (.int 1)) (st1:=[]) (by simp)) ?_;refine ag (ij (ps:=(WB g).map λk:Nat=>P.d (.int (k:Int))) (st1:=[]) (fg (by simp[aC,oA]) (by lia)) e8) ?_;refine ag (bp (v:=.d (.int (cE T g 0))) (st1:=[]) (by simp[r0,pT,eR])) ?_;refine bA (dS ?_);show aa (callC Fs 59) _ (r0 (Δ (.d (.int (z:Int)))) (Δ (.d (.pl (p5.map wD)))) (Δ (.d (.int (cE m z 0)))) (Δ (.d (.int (g:Int)))) (Δ (.d (.int (pw g)))) y8 (Δ (.d (.int (cE T g 0))))) []=_;simp[r0,eG,o1,o2,o3]
end RA
namespace RA
open PySem L2 Y
noncomputable def top(i:Nat):Stmt:=PySem.Challenge.pw_wordyard_k31_whole_counts.main.body.getD i (.Pass ⟨0,0,0,0⟩)
noncomputable def AF(j:Nat):Stmt->Stmt
 |.ClassDef _ _ _ body _ _ _ _ _ _ _=>body.getD j (.Pass ⟨0,0,0,0⟩)|_=>.Pass ⟨0,0,0,0⟩
abbrev AG:Stmt:=top 1
def lr:Info:=⟨"summed",AG,["counts","steps"],["counts","steps"],uI⟩
abbrev uM:Stmt:=top 2
def iy:Info:=⟨"count_of",uM,["machine","size","counts","length"],["machine","size"],jR⟩
abbrev xj:Stmt:=top 3
def jz:Info:=⟨"any_had",xj,["had","steps"],["had","steps"],pX⟩
abbrev j8:Stmt:=top 4
def de:Info:=⟨"had_by_length",j8,["machine","size","rows","length"],["machine","size"],cZ⟩
abbrev gN:Stmt:=top 5
def bW:Info:=⟨"one_letter_longer",gN,["machine","begun","had","longer","word","state","letter","step"],["machine","begun","had"],cJ⟩
abbrev uN:Stmt:=top 6
def iz:Info:=⟨"words_of",uN,["machine","size","rows","begun","left"],["machine","size"],eJ⟩
abbrev oF:Stmt:=top 8
def fw:Info:=⟨"sources_by",oF,["machine","letter","sources","number","state"],["machine","letter"],gS⟩
abbrev lx:Stmt:=top 10
def dA:Info:=⟨"firsts_alike",lx,["machine","groups","firsts","state","group"],["machine"],fh⟩
abbrev ly:Stmt:=top 12
def dB:Info:=⟨"machine_from",ly,["start","steps_of","good_of","numbers","places","states","place","steps","step"],["start","steps_of","good_of"],cM⟩
abbrev De:Stmt:=top 13
def jV:Info:=⟨"least",De,["machine","firsts","steps_of"],["machine"],oz⟩
abbrev oG:Stmt:=top 15
def fz:Info:=⟨"turned_out",oG,["machine"],["machine"],jS⟩
abbrev lz:Stmt:=top 17
def dD:Info:=⟨"_law_cell_at",lz,["_law_script","_law_k"],["_law_script","_law_k"],cN⟩
abbrev oH:Stmt:=top 18
def fA:Info:=⟨"_law_mixed",oH,["_law_script","_law_k","_law_drawn_here"],["_law_script","_law_k"],fi⟩
abbrev oI:Stmt:=top 19
def fB:Info:=⟨"_law_drawn",oI,["_law_number","_law_k","_law_drawn_here"],["_law_number","_law_k"],fj⟩
abbrev oJ:Stmt:=top 20
def fD:Info:=⟨"_law_words",oJ,["_law_wide","_law_found","_law_rows","_law_k","_law_longer","_law_row"],["_law_wide"],dM⟩
abbrev lA:Stmt:=top 21
def dE:Info:=⟨"_law_machine",lA,["_law_number","_law_wide","_law_most","_law_count","_law_states","_law_k","_law_steps"],["_law_number","_law_wide","_law_most"],cO⟩
abbrev uO:Stmt:=top 22
def iA:Info:=⟨"_law_has",uO,["_law_machine_here","_law_word","_law_at","_law_letter"],["_law_machine_here","_law_word"],jT⟩
abbrev K5:Stmt:=top 23
def AH:Info:=⟨"law",K5,["_law_script","_law_wide","_law_machine_here","_law_size","_law_due","_law_found","_law_great","_law_every","_law_k","_law_rest"],["_law_script"],oA⟩
abbrev i8:Stmt:=AF 0 (top 9)
def cB:Info:=⟨"Groups.__init__",i8,["self","machine","number","state"],["self","machine"],fk⟩
abbrev i9:Stmt:=AF 1 (top 9)
def cC:Info:=⟨"Groups.let_wait",i9,["self","group"],["self","group"],cA⟩
abbrev iB:Stmt:=AF 2 (top 9)
def cf:Info:=⟨"Groups.set_apart",iB,["self","group","states","rest","fresh","state"],["self","group","states"],bx⟩
abbrev fQ:Stmt:=AF 3 (top 9)
def bJ:Info:=⟨"Groups.set_apart_by",fQ,["self","targets","letter","stepping","target","state","group","states"],["self","targets","letter"],cg⟩
abbrev j9:Stmt:=AF 4 (top 9)
def dg:Info:=⟨"Groups.settle",j9,["self","group","targets","letter"],["self"],gH⟩
def p6:CI:=⟨Ξ,"least.<locals>.steps_of",["state","firsts","machine"],["state"],["firsts","machine"],fZ⟩
def rB:CI:=⟨Λ,"least.<locals>.<lambda>",["state","machine"],["state"],["machine"],c0⟩
def tx:TX:={is:=[(lr,[]),(iy,[]),(jz,[]),(de,[]),(bW,[]),(iz,[]),(fw,[]),(dA,[]),(dB,[]),(jV,[(23,⟨105,4,106,59⟩),(24,⟨107,45,107,76⟩)]),(fz,[]),(dD,[]),(fA,[]),(fB,[]),(fD,[]),(dE,[]),(iA,[]),(AH,[]),(cB,[]),(cC,[]),(cf,[]),(bJ,[]),(dg,[])],VA:=[p6,rB],cs:=[],ts:=[],nf:=18,ks:=[{name:="Groups",qW:=["sources","group_of","members","waiting","waits"],GL:=[("__init__",18),("let_wait",19),("set_apart",20),("set_apart_by",21),("settle",22)]}]}
theorem is_Fs:tx.Fs=Fs:=rfl
theorem Ew:ba lr.N lr.ps (av lr.st):=⟨rfl,rfl,rfl,by decide+kernel,rfl,by decide+kernel,by decide+kernel⟩
theorem Ex:gp tx (lr,[])=Λ:=by decide+kernel
theorem AI:ba iy.N iy.ps (av iy.st):=⟨rfl,rfl,rfl,by decide+kernel,rfl,by decide+kernel,by decide+kernel⟩
theorem AJ:gp tx (iy,[])=Λ:=by decide+kernel
theorem B9:ba jz.N jz.ps (av jz.st):=⟨rfl,rfl,rfl,by decide+kernel,rfl,by decide+kernel,by decide+kernel⟩
theorem Ca:gp tx (jz,[])=Λ:=by decide+kernel
theorem p7:ba de.N de.ps (av de.st):=⟨rfl,rfl,rfl,by decide+kernel,rfl,by decide+kernel,by decide+kernel⟩
theorem p8:gp tx (de,[])=Λ:=by decide+kernel
theorem lB:ba bW.N bW.ps (av bW.st):=⟨rfl,rfl,rfl,by decide+kernel,rfl,by decide+kernel,by decide+kernel⟩
theorem lC:gp tx (bW,[])=Λ:=by decide+kernel
theorem AK:ba iz.N iz.ps (av iz.st):=⟨rfl,rfl,rfl,by decide+kernel,rfl,by decide+kernel,by decide+kernel⟩
theorem AL:gp tx (iz,[])=Λ:=by decide+kernel
theorem vH:ba fw.N fw.ps (av fw.st):=⟨rfl,rfl,rfl,by decide+kernel,rfl,by decide+kernel,by decide+kernel⟩
theorem vI:gp tx (fw,[])=Λ:=by decide+kernel
theorem rD:ba dA.N dA.ps (av dA.st):=⟨rfl,rfl,rfl,by decide+kernel,rfl,by decide+kernel,by decide+kernel⟩
theorem rE:gp tx (dA,[])=Λ:=by decide+kernel
theorem rF:ba dB.N dB.ps (av dB.st):=⟨rfl,rfl,rfl,by decide+kernel,rfl,by decide+kernel,by decide+kernel⟩
theorem rG:gp tx (dB,[])=Λ:=by decide+kernel
theorem Hn:ba jV.N jV.ps (av jV.st):=⟨rfl,rfl,rfl,by decide+kernel,rfl,by decide+kernel,by decide+kernel⟩
theorem Ho:gp tx (jV,[(23,⟨105,4,106,59⟩),(24,⟨107,45,107,76⟩)])=Λ:=by decide+kernel
theorem vJ:ba fz.N fz.ps (av fz.st):=⟨rfl,rfl,rfl,by decide+kernel,rfl,by decide+kernel,by decide+kernel⟩
theorem vK:gp tx (fz,[])=Λ:=by decide+kernel
theorem rH:ba dD.N dD.ps (av dD.st):=⟨rfl,rfl,rfl,by decide+kernel,rfl,by decide+kernel,by decide+kernel⟩
theorem rJ:gp tx (dD,[])=Λ:=by decide+kernel
theorem vL:ba fA.N fA.ps (av fA.st):=⟨rfl,rfl,rfl,by decide+kernel,rfl,by decide+kernel,by decide+kernel⟩
theorem vM:gp tx (fA,[])=Λ:=by decide+kernel
theorem vN:ba fB.N fB.ps (av fB.st):=⟨rfl,rfl,rfl,by decide+kernel,rfl,by decide+kernel,by decide+kernel⟩
theorem vO:gp tx (fB,[])=Λ:=by decide+kernel
theorem vP:ba fD.N fD.ps (av fD.st):=⟨rfl,rfl,rfl,by decide+kernel,rfl,by decide+kernel,by decide+kernel⟩
theorem vQ:gp tx (fD,[])=Λ:=by decide+kernel
theorem rK:ba dE.N dE.ps (av dE.st):=⟨rfl,rfl,rfl,by decide+kernel,rfl,by decide+kernel,by decide+kernel⟩
theorem rL:gp tx (dE,[])=Λ:=by decide+kernel
theorem AM:ba iA.N iA.ps (av iA.st):=⟨rfl,rfl,rfl,by decide+kernel,rfl,by decide+kernel,by decide+kernel⟩
theorem AN:gp tx (iA,[])=Λ:=by decide+kernel
theorem NV:ba AH.N AH.ps (av AH.st):=⟨rfl,rfl,rfl,by decide+kernel,rfl,by decide+kernel,by decide+kernel⟩
theorem NW:gp tx (AH,[])=Λ:=by decide+kernel
theorem nh:ba cB.N cB.ps (av cB.st):=⟨rfl,rfl,rfl,by decide+kernel,rfl,by decide+kernel,by decide+kernel⟩
theorem ni:gp tx (cB,[])=Λ:=by decide+kernel
theorem nj:ba cC.N cC.ps (av cC.st):=⟨rfl,rfl,rfl,by decide+kernel,rfl,by decide+kernel,by decide+kernel⟩
theorem nk:gp tx (cC,[])=Λ:=by decide+kernel
theorem ma:ba cf.N cf.ps (av cf.st):=⟨rfl,rfl,rfl,by decide+kernel,rfl,by decide+kernel,by decide+kernel⟩
theorem me:gp tx (cf,[])=Λ:=by decide+kernel
theorem jW:ba bJ.N bJ.ps (av bJ.st):=⟨rfl,rfl,rfl,by decide+kernel,rfl,by decide+kernel,by decide+kernel⟩
theorem jX:gp tx (bJ,[])=Λ:=by decide+kernel
theorem p9:ba dg.N dg.ps (av dg.st):=⟨rfl,rfl,rfl,by decide+kernel,rfl,by decide+kernel,by decide+kernel⟩
theorem qa:gp tx (dg,[])=Λ:=by decide+kernel
def Ta(K:WO)(x:Str):Addr:=((YZ K x).map (·.2)).getD 0
theorem NX(h:(YZ K x).map (·.1)=Δ c):YZ K x=Δ (c,Ta K x):=by unfold Ta;cases e:YZ K x with|none=>rw[e] at h;cases h|some p=>rw[e] at h;cases h;rfl
noncomputable def xs:List Str:=["least"]
def Wk:List (List (Pos×Str)):=[dq tx (jV,[(23,⟨105,4,106,59⟩),(24,⟨107,45,107,76⟩)])]
def uP(pt:List (Addr×Addr)):List (Addr×List (Pos×Str)):=(pt.zip Wk).map λp=>(p.1.2,p.2)
theorem Hq:L2.Apart (dq tx (jV,[(23,⟨105,4,106,59⟩),(24,⟨107,45,107,76⟩)])):=by unfold L2.Apart;decide+kernel
set_option maxHeartbeats 0 in
theorem all_mk{l:aby}{w:World}{K:WO}{h:Heap}{mg:Str->Option Value}{fa f0 f1 f2 f3 f4 f5 f6 f7 f8 f9 Wl Wm Wn Wo Wp Wq Wr f17 Tb Tc Td Te Tf bL NY:Addr}{d0 d1 d2 d3 d4 d5 d6 d7 d8 d9 d10 d11 d12 d13 d14 d15 d16 Th d18 d19 d20 d21 d22:YD}(X:K.In h)(G:h.Ns WY mg)(hfa:mg "law"=Δ (.ref fa))
  (AO:W3 K WY "Groups"=Δ (Δ (.ref bL)))
  (Ey:ZQ K bL Str.empty=Λ)
  (Ez:aaj K bL=Λ)
  (EA:aaZ K bL=Λ)
  (EB:Xm K (.ref bL) "__setattr__"=Δ (Δ (.builtin "object.__setattr__")))
  (EC:abx K bL=Λ)
  (ED:Y6 K (.ref bL)=Λ)
  (qb:Xm K (.ref bL) "sources"=Δ Θ)
  (oK:Xm K (.ref bL) "group_of"=Δ Θ)
  (qc:Xm K (.ref bL) "members"=Δ Θ)
  (qd:Xm K (.ref bL) "waiting"=Δ Θ)
  (uQ:Xm K (.ref bL) "waits"=Δ Θ)
  (a0:W3 K WY "summed"=Δ (Δ (.ref f0)))
  (F0:oN K "summed" "summed" AG f0 d0)
  (a1:W3 K WY "count_of"=Δ (Δ (.ref f1)))
  (F1:oN K "count_of" "count_of" uM f1 d1)
  (a2:W3 K WY "any_had"=Δ (Δ (.ref f2)))
  (F2:oN K "any_had" "any_had" xj f2 d2)
  (a3:W3 K WY "had_by_length"=Δ (Δ (.ref f3)))
  (F3:oN K "had_by_length" "had_by_length" j8 f3 d3)
  (a4:W3 K WY "one_letter_longer"=Δ (Δ (.ref f4)))
  (F4:oN K "one_letter_longer" "one_letter_longer" gN f4 d4)
  (a5:W3 K WY "words_of"=Δ (Δ (.ref f5)))
  (F5:oN K "words_of" "words_of" uN f5 d5)
  (a6:W3 K WY "sources_by"=Δ (Δ (.ref f6)))
  (F6:oN K "sources_by" "sources_by" oF f6 d6)
  (a7:W3 K WY "firsts_alike"=Δ (Δ (.ref f7)))
  (F7:oN K "firsts_alike" "firsts_alike" lx f7 d7)
  (a8:W3 K WY "machine_from"=Δ (Δ (.ref f8)))
  (F8:oN K "machine_from" "machine_from" ly f8 d8)
  (a9:W3 K WY "least"=Δ (Δ (.ref f9)))
  (F9:oN K "least" "least" De f9 d9)
  (q9:d9.code=.ref NY)
  (t9:(YZ K "least").map (·.1)=Δ NY)
  (a10:W3 K WY "turned_out"=Δ (Δ (.ref Wl)))
  (F10:oN K "turned_out" "turned_out" oG Wl d10)
  (a11:W3 K WY "_law_cell_at"=Δ (Δ (.ref Wm)))
  (F11:oN K "_law_cell_at" "_law_cell_at" lz Wm d11)
  (a12:W3 K WY "_law_mixed"=Δ (Δ (.ref Wn)))
  (F12:oN K "_law_mixed" "_law_mixed" oH Wn d12)
  (a13:W3 K WY "_law_drawn"=Δ (Δ (.ref Wo)))
  (F13:oN K "_law_drawn" "_law_drawn" oI Wo d13)
  (a14:W3 K WY "_law_words"=Δ (Δ (.ref Wp)))
  (F14:oN K "_law_words" "_law_words" oJ Wp d14)
  (a15:W3 K WY "_law_machine"=Δ (Δ (.ref Wq)))
  (F15:oN K "_law_machine" "_law_machine" lA Wq d15)
  (a16:W3 K WY "_law_has"=Δ (Δ (.ref Wr)))
  (F16:oN K "_law_has" "_law_has" uO Wr d16)
  (a17:W3 K WY "law"=Δ (Δ (.ref f17)))
  (Wu:oN K "law" "law" K5 f17 Th)
  (a18:Xm K (.ref bL) "__init__"=Δ (Δ (.ref Tb)))
  (Wv:oN K "__init__" "Groups.__init__" i8 Tb d18)
  (n18:Zy K (.ref Tb)=Λ)
  (a19:Xm K (.ref bL) "let_wait"=Δ (Δ (.ref Tc)))
  (Ww:oN K "let_wait" "Groups.let_wait" i9 Tc d19)
  (n19:Zy K (.ref Tc)=Λ)
  (a20:Xm K (.ref bL) "set_apart"=Δ (Δ (.ref Td)))
  (Wx:oN K "set_apart" "Groups.set_apart" iB Td d20)
  (n20:Zy K (.ref Td)=Λ)
  (a21:Xm K (.ref bL) "set_apart_by"=Δ (Δ (.ref Te)))
  (Wy:oN K "set_apart_by" "Groups.set_apart_by" fQ Te d21)
  (n21:Zy K (.ref Te)=Λ)
  (a22:Xm K (.ref bL) "settle"=Δ (Δ (.ref Tf)))
  (Wz:oN K "settle" "Groups.settle" j9 Tf d22)
  (n22:Zy K (.ref Tf)=Λ)
  (nt:aai K=Λ)
  (nd:decide [Ta K "least"].Nodup=Λ)
  (RQ:W3 K WY "len"=Δ Θ)
  (RR:W3 K WY "min"=Δ Θ)
  (RS:W3 K WY "max"=Δ Θ)
  (RT:W3 K WY "all"=Δ Θ)
  (RU:W3 K WY "any"=Δ Θ)
  (RV:W3 K WY "sum"=Δ Θ)
  (RW:W3 K WY "str"=Δ Θ)
  (J9:W3 K WY "tuple"=Δ Θ)
  (NZ:W3 K WY "list"=Δ Θ)
  (RX:W3 K WY "int"=Δ Θ)
  (N1:W3 K WY "bool"=Δ Θ)
  (yp:W3 K WY "isinstance"=Δ Θ)
  (Ka:W3 K WY "range"=Δ Θ)
  (RY:W3 K WY "zip"=Δ Θ)
  (AQ:W3 K WY "enumerate"=Δ Θ)
  (Hr:W3 K WY "sorted"=Δ Θ)
  :(xs≠[]->aai K=Λ)/\∃(tabs:List (Addr×Addr)) (fd:YD),xs.map (YZ K)=tabs.map Δ/\(∀(s:WU) (v:Value),abr s fd ⟨[v],[]⟩ [("_law_script",v)])/\
   (∀base:Heap,K.In base->base.Ns WY mg->(∀q∈tabs,YM base q.1 q.2)->BMain mg base->gz l.prog w K mg base uR (lv 60) fa fd ["_law_script"] (BN (mX tx K base (uP tabs)) (callC Fs 60 17) 1))/\tabs.length=Wk.length:=by
 have e:=hfa.symm.trans (Xs X G a17);cases e;replace nd:=of_decide_eq_true nd;replace t9:=NX t9;generalize Ta K "least"=RZ at*;have T:xY K mg tx (uP [(NY,RZ)]) (λk=>[f0,f1,f2,f3,f4,f5,f6,f7,f8,f9,Wl,Wm,Wn,Wo,Wp,Wq,Wr,fa,Tb,Tc,Td,Te,Tf].getD k 0) (λk=>[d0,d1,d2,d3,d4,d5,d6,d7,d8,d9,d10,d11,d12,d13,d14,d15,d16,Th,d18,d19,d20,d21,d22].getD k Th) (λk=>[(0,0),(0,0),(0,0),(0,0),(0,0),(0,0),(0,0),(0,0),(0,0),(NY,RZ)].getD k (0,0)):=by
  refine⟨BW ?_,?_,λx i hx=>?_,λx t hx=>?_,λq hq=>?_,BW ?_⟩;·exact(bb ⟨⟨_,F0⟩,λ_=>Xs X G a0,F0.binds λ_ _ _ _ _ _=>qX λ_ _=>rfl,Ew,Ex⟩ (bb ⟨⟨_,F1⟩,λ_=>Xs X G a1,F1.binds λ_ _ _ _ _ _=>qX λ_ _=>rfl,AI,AJ⟩ (bb ⟨⟨_,F2⟩,λ_=>Xs X G a2,F2.binds λ_ _ _ _ _ _=>qX λ_ _=>rfl,B9,Ca⟩ (bb ⟨⟨_,F3⟩,λ_=>Xs X G a3,F3.binds λ_ _ _ _ _ _=>qX λ_ _=>rfl,p7,p8⟩ (bb ⟨⟨_,F4⟩,λ_=>Xs X G a4,F4.binds λ_ _ _ _ _ _=>GY λ_ _ _=>rfl,lB,lC⟩ (bb ⟨⟨_,F5⟩,λ_=>Xs X G a5,F5.binds λ_ _ _ _ _ _=>qX λ_ _=>rfl,AK,AL⟩ (bb ⟨⟨_,F6⟩,λ_=>Xs X G a6,F6.binds λ_ _ _ _ _ _=>qX λ_ _=>rfl,vH,vI⟩ (bb ⟨⟨_,F7⟩,λ_=>Xs X G a7,F7.binds λ_ _ _ _ _ _=>Eg λ_=>rfl,rD,rE⟩ (bb ⟨⟨_,F8⟩,λ_=>Xs X G a8,F8.binds λ_ _ _ _ _ _=>GY λ_ _ _=>rfl,rF,rG⟩ (bb ⟨⟨_,F9⟩,λ_=>Xs X G a9,F9.binds λ_ _ _ _ _ _=>Eg λ_=>rfl,Hn,Ho⟩ (bb ⟨⟨_,F10⟩,λ_=>Xs X G a10,F10.binds λ_ _ _ _ _ _=>Eg λ_=>rfl,vJ,vK⟩ (bb ⟨⟨_,F11⟩,λ_=>Xs X G a11,F11.binds λ_ _ _ _ _ _=>qX λ_ _=>rfl,rH,rJ⟩ (bb ⟨⟨_,F12⟩,λ_=>Xs X G a12,F12.binds λ_ _ _ _ _ _=>qX λ_ _=>rfl,vL,vM⟩ (bb ⟨⟨_,F13⟩,λ_=>Xs X G a13,F13.binds λ_ _ _ _ _ _=>qX λ_ _=>rfl,vN,vO⟩ (bb ⟨⟨_,F14⟩,λ_=>Xs X G a14,F14.binds λ_ _ _ _ _ _=>Eg λ_=>rfl,vP,vQ⟩ (bb ⟨⟨_,F15⟩,λ_=>Xs X G a15,F15.binds λ_ _ _ _ _ _=>GY λ_ _ _=>rfl,rK,rL⟩ (bb ⟨⟨_,F16⟩,λ_=>Xs X G a16,F16.binds λ_ _ _ _ _ _=>qX λ_ _=>rfl,AM,AN⟩ (bb ⟨⟨_,Wu⟩,λ_=>Xs X G a17,Wu.binds λ_ _ _ _ _ _=>Eg λ_=>rfl,NV,NW⟩ (bb ⟨⟨_,Wv⟩,λz=>absurd z (by decide),Wv.binds λ_ _ _ _ _ _=>qX λ_ _=>rfl,nh,ni⟩ (bb ⟨⟨_,Ww⟩,λz=>absurd z (by decide),Ww.binds λ_ _ _ _ _ _=>qX λ_ _=>rfl,nj,nk⟩ (bb ⟨⟨_,Wx⟩,λz=>absurd z (by decide),Wx.binds λ_ _ _ _ _ _=>GY λ_ _ _=>rfl,ma,me⟩ (bb ⟨⟨_,Wy⟩,λz=>absurd z (by decide),Wy.binds λ_ _ _ _ _ _=>GY λ_ _ _=>rfl,jW,jX⟩ (bb ⟨⟨_,Wz⟩,λz=>absurd z (by decide),Wz.binds λ_ _ _ _ _ _=>Eg λ_=>rfl,p9,qa⟩ Nr)))))))))))))))))))))))
  ·exact(memC (Xl X G RQ) (memC (Xl X G RR) (memC (Xl X G RS) (memC (Xl X G RT) (memC (Xl X G RU) (memC (Xl X G RV) (memC (Xl X G RW) (memC (Xl X G J9) (memC (Xl X G NZ) (memC (Xl X G RX) (memC (Xl X G N1) (memC (Xl X G yp) (memC (Xl X G Ka) (memC (Xl X G RY) (memC (Xl X G AQ) (memC (Xl X G Hr) Q6))))))))))))))))
  ·exact absurd hx (by simp[tx])
  ·exact absurd hx (by simp[tx])
  ·simp only[tx,Z3,ZT,or_false] at hq;rcases hq with rfl;·refine⟨bL,AO,Xs X G AO,⟨Ey,Ez,EA,EB⟩,memC qb (memC oK (memC qc (memC qd (memC uQ Q6)))),Q7 ⟨a18,n18,Wv.kp⟩ (Q7 ⟨a19,n19,Ww.kp⟩ (Q7 ⟨a20,n20,Wx.kp⟩ (Q7 ⟨a21,n21,Wy.kp⟩ (Q7 ⟨a22,n22,Wz.kp⟩ lkN)))),λk hm=>?_⟩;have HB:(18:Nat)=k:=Xj ((by rfl:Yz ("__init__":Str) _=Δ 18).symm.trans hm);subst HB;exact⟨EC,a18,n18,ED⟩
  ·exact(bb (λhi=>absurd rfl hi) (bb (λhi=>absurd rfl hi) (bb (λhi=>absurd rfl hi) (bb (λhi=>absurd rfl hi) (bb (λhi=>absurd rfl hi) (bb (λhi=>absurd rfl hi) (bb (λhi=>absurd rfl hi) (bb (λhi=>absurd rfl hi) (bb (λhi=>absurd rfl hi) (bb (λ_=>⟨q9,W6 (i:=0) rfl,Hq,JI nd rfl (W6 (i:=0) rfl)⟩) (bb (λhi=>absurd rfl hi) (bb (λhi=>absurd rfl hi) (bb (λhi=>absurd rfl hi) (bb (λhi=>absurd rfl hi) (bb (λhi=>absurd rfl hi) (bb (λhi=>absurd rfl hi) (bb (λhi=>absurd rfl hi) (bb (λhi=>absurd rfl hi) (bb (λhi=>absurd rfl hi) (bb (λhi=>absurd rfl hi) (bb (λhi=>absurd rfl hi) (bb (λhi=>absurd rfl hi) (bb (λhi=>absurd rfl hi) Nr)))))))))))))))))))))))
 refine⟨λ_=>nt,[(NY,RZ)],Th,by simp only[xs,WQ,YU,t9],λs v=>?_,λbase kb nb qf bm=>?_,rfl⟩;·obtain⟨_,_,_,_,_,_,_,_,_,rfl,_⟩:=Wu.ex;exact .of_eq rfl
 have bo:jM mg tx (λk=>[(0,0),(0,0),(0,0),(0,0),(0,0),(0,0),(0,0),(0,0),(0,0),(NY,RZ)].getD k (0,0)) base:=⟨BW (bb (λhi=>absurd rfl hi) (bb (λhi=>absurd rfl hi) (bb (λhi=>absurd rfl hi) (bb (λhi=>absurd rfl hi) (bb (λhi=>absurd rfl hi) (bb (λhi=>absurd rfl hi) (bb (λhi=>absurd rfl hi) (bb (λhi=>absurd rfl hi) (bb (λhi=>absurd rfl hi) (bb (λ_=>qf (NY,RZ) (W6 (i:=0) rfl)) (bb (λhi=>absurd rfl hi) (bb (λhi=>absurd rfl hi) (bb (λhi=>absurd rfl hi) (bb (λhi=>absurd rfl hi) (bb (λhi=>absurd rfl hi) (bb (λhi=>absurd rfl hi) (bb (λhi=>absurd rfl hi) (bb (λhi=>absurd rfl hi) (bb (λhi=>absurd rfl hi) (bb (λhi=>absurd rfl hi) (bb (λhi=>absurd rfl hi) (bb (λhi=>absurd rfl hi) (bb (λhi=>absurd rfl hi) Nr))))))))))))))))))))))),bm⟩;exact(CW (P:=l.prog) (w:=w) T 60).1 base bo 17 _ rfl
theorem walk{l:aby}{K:Params->WO}(hn:l.most=Δ 63)(Pl:d.params.defaults=[])(hY:∀(w:World) (h:Heap),YP w h->(K w.params).In h)(xH:∀y∈xs,((PyProof.Rows.recsOf q).find? (λe=>e.name==y)).isSome=Λ)(F:∀(w:World) (mg:Str->Option Value) (fa:Addr) (h:Heap),(K w.params).In h->h.Ns WY mg->mg d.name=Δ (.ref fa)->
   (xs≠[]->aai (K w.params)=Λ)/\∃(tabs:List (Addr×Addr)) (fd:YD),xs.map (YZ (K w.params))=tabs.map Δ/\(∀(s:WU) (u:Value),abr s fd ⟨[u],[]⟩ [("_law_script",u)])/\
    (∀base:Heap,(K w.params).In base->base.Ns WY mg->(∀q∈tabs,YM base q.1 q.2)->BMain mg base->gz l.prog w (K w.params) mg base uR (lv 60) fa fd ["_law_script"] (BN (mX tx (K w.params) base (uP tabs)) (callC Fs 60 17) 1))/\tabs.length=Wk.length):
  PySem.W.WalkO q loose XP YP l.row.toRowW d [] (λf vs=>acn f vs):=
 L2.FQ (n:=63) (k:=lv 60) (x:="_law_script") (CX:=λ_=>uR) (sp:=λw _ pt base=>BN (mX tx (K w.params) base (uP pt)) (callC Fs 60 17) 1) xs hn (by decide) Pl ⟨rfl,by decide,by decide⟩ hY (λy hy=>by obtain⟨dr,h⟩:=Option.isSome_iff_exists.mp (xH y hy);exact⟨dr,h⟩) (λw mg fa h X N m=>by obtain⟨h1,tabs,fd,h2,h3,h4,h5⟩:=F w mg fa h X N m;refine⟨h1,tabs,fd,h2,h3,h4,λbase H a ns hl _ _ ho hS=>JK (λt ht=>?_) (Hm ns hl) ho hS⟩;unfold uP at ht;obtain⟨p,hp,rfl⟩:=abq.mp ht;exact abq.mpr ⟨p.1,(ZC hp).1,rfl⟩) λ_ _ _ _ _ z=>z
end RA
open PySem PySem.W PyProof.Rows
set_option maxRecDepth 100000 in
set_option maxHeartbeats 0 in
theorem PySem.Challenge.cw_wordyard_k31_whole_counts_holds : PySem.Challenge.rw_wordyard_k31_whole_counts.Holds := by
 w_on;o_law;k_head;(case hw=>w_witness2)
 k_fill
 refine RA.walk (l:=PySem.Challenge.rw_wordyard_k31_whole_counts) rfl rfl (λw h Y=>by first|exact PySem.W.kIn_of Y|exact PySem.W.km_in_of Y) (by decide+kernel) ?F
 case F=>intro w mg fa h KX G Pm;refine' RA.all_mk KX G Pm ?_ ?_ ?_ ?_ ?_ ?_ ?_ ?_ ?_ ?_ ?_ ?_ ?_ ?_ ?_ ?_ ?_ ?_ ?_ ?_ ?_ ?_ ?_ ?_ ?_ ?_ ?_ ?_ ?_ ?_ ?_ ?_ ?_ ?_ ?_ ?_ ?_ ?_ ?_ ?_ ?_ ?_ ?_ ?_ ?_ ?_ ?_ ?_ ?_ ?_ ?_ ?_ ?_ ?_ ?_ ?_ ?_ ?_ ?_ ?_ ?_ ?_ ?_ ?_ ?_ ?_ ?_ ?_ ?_ ?_ ?_ ?_ ?_ ?_ ?_ ?_ ?_ ?_ ?_ ?_ ?_ ?_ ?_;all_goals try first|k_is|(refine' L2.LO ?l ?c ?k;(case l=>k_is);(case c=>k_is);(case k=>k_is))|rfl|kernel_rfl
